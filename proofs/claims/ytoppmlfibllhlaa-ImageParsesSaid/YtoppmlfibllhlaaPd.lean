/- Layer 10: the document's Part. -/
import Derived.Test.YtoppmlfibllhlaaPc
namespace Go.Proofs.Ytoppmlfibllhlaa
open Go.RowKit
def partC (c : Col) (n : Int) : Col := fun i => (c i * n + 8) / 16
theorem part_ok {c : Col} {n : Int} (hc : OkC c) (hn : 0 ≤ n ∧ n ≤ 16) : OkC (partC c n) := fun i hi => by
  obtain ⟨p0, p1, p2, p3⟩ := prod_in (hc i hi).1 (hc i hi).2 hn.1 hn.2
  unfold partC
  omega
end Go.Proofs.Ytoppmlfibllhlaa

