/- Layer 11: what the law ImageCrops asks of package image. -/
import Derived.Test.YtoppmlfibllhlaaCa
import Derived.Test.YtoppmlfibllhlaaRp
namespace Go.Proofs.Ytoppmlfibllhlaa
theorem cropsOk : AtOk ∧ BoxOk ∧ CropOk := ⟨atOk, boxOk, cropOk⟩
end Go.Proofs.Ytoppmlfibllhlaa
