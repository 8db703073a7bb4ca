/- Layer 11: the fixed answer. -/
import Derived.Test.YtoppmlfibllhlaaRn
import Derived.Test.YtoppmlfibllhlaaRg
import Derived.Test.YtoppmlfibllhlaaRj
import Derived.Test.YtoppmlfibllhlaaRf
import Derived.Test.YtoppmlfibllhlaaKb
namespace Go.Proofs.Ytoppmlfibllhlaa
theorem awakeOk : AwakeOk := awake11_c newOk bytesOk countOk
end Go.Proofs.Ytoppmlfibllhlaa
