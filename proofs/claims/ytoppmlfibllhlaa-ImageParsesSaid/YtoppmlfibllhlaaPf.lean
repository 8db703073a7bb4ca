/- Layer 10: the document's Mix. -/
import Derived.Test.YtoppmlfibllhlaaPe
namespace Go.Proofs.Ytoppmlfibllhlaa
open Go.RowKit
def mixC (c d : Col) (t : Int) : Col := fun i => (c i * (65536 - t) + d i * t + 32768) / 65536
theorem mix_between {x y t : Int} (ht : 0 ≤ t ∧ t ≤ 65536) : (x ≤ y → x ≤ (x * (65536 - t) + y * t + 32768) / 65536 ∧ (x * (65536 - t) + y * t + 32768) / 65536 ≤ y) ∧ (y ≤ x → y ≤ (x * (65536 - t) + y * t + 32768) / 65536 ∧ (x * (65536 - t) + y * t + 32768) / 65536 ≤ x) := by
  have e : x * (65536 - t) + y * t = 65536 * x + (y - x) * t := by grind
  rw [e]
  constructor
  · intro h
    have h1 := Int.mul_nonneg (show 0 ≤ y - x by omega) ht.1
    have h2 := Int.mul_le_mul_of_nonneg_left ht.2 (show 0 ≤ y - x by omega)
    generalize (y - x) * t = p at *
    omega
  · intro h
    have h1 := Int.mul_nonneg (show 0 ≤ x - y by omega) ht.1
    have h2 := Int.mul_le_mul_of_nonneg_left ht.2 (show 0 ≤ x - y by omega)
    have e2 : (x - y) * t = -((y - x) * t) := by grind
    rw [e2] at h1 h2
    generalize (y - x) * t = p at *
    omega
theorem mix_ok {c d : Col} {t : Int} (hc : OkC c) (hd : OkC d) (ht : 0 ≤ t ∧ t ≤ 65536) : OkC (mixC c d t) := fun i hi => by
  obtain ⟨h1, h2⟩ := mix_between (x := c i) (y := d i) ht
  have := hc i hi
  have := hd i hi
  unfold mixC
  rcases Int.le_total (c i) (d i) with h | h
  · have := h1 h; omega
  · have := h2 h; omega
end Go.Proofs.Ytoppmlfibllhlaa

