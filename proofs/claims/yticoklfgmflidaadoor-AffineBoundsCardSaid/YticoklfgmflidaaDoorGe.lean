/- limnerref03.Side. -/
import Derived.Test.YticoklfgmflidaaDoorGd
namespace Go.Proofs.YticoklfgmflidaaDoor
open Go.RowKit
end Go.Proofs.YticoklfgmflidaaDoor

