/- Layer 11: what the law ImageLays asks of package image. -/
import Derived.Test.YtoppmlfibllhlaaCa
import Derived.Test.YtoppmlfibllhlaaRr
namespace Go.Proofs.Ytoppmlfibllhlaa
theorem laysOk : AwakeOk ∧ LayOkR := ⟨awakeOk, layOkR⟩
end Go.Proofs.Ytoppmlfibllhlaa
