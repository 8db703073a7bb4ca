/- limnerlaw03's ref and at; geom.counts. -/
import Derived.Test.YticoklfgmflidaaDoorGe
namespace Go.Proofs.YticoklfgmflidaaDoor
open Go.RowKit
/-- What an edge counts. -/
def cnt (px py qx qy sx sy : Int) : Int :=
  if py ≤ sy ∧ sy < qy ∧ 0 < sideI px py qx qy sx sy then 1 else if qy ≤ sy ∧ sy < py ∧ sideI px py qx qy sx sy < 0 then -1 else 0
end Go.Proofs.YticoklfgmflidaaDoor

