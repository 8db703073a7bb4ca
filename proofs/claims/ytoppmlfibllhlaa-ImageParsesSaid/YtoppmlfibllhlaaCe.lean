/- Layer 11: what the laws ImageBytes and ImageParses ask of package image. -/
import Derived.Test.YtoppmlfibllhlaaCa
import Derived.Test.YtoppmlfibllhlaaMp
namespace Go.Proofs.Ytoppmlfibllhlaa
theorem parsesOk : AwakeOk ∧ BytesOkC ∧ ParseOkC ∧ EqualOk := ⟨awakeOk, bytesOkC, parseOkC, equalOk⟩
end Go.Proofs.Ytoppmlfibllhlaa
