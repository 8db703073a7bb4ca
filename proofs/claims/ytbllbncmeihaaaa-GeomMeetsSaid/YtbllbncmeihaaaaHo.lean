/- Stretches that meet: what the law asks. -/
import Derived.Test.YtbllbncmeihaaaaHm
namespace Go.Proofs.Ytbllbncmeihaaaa
def boxesApart' (a b c d : Pt) : Bool := decide (max a.1 b.1 < min c.1 d.1) || decide (max c.1 d.1 < min a.1 b.1) || decide (max a.2 b.2 < min c.2 d.2) || decide (max c.2 d.2 < min a.2 b.2)
theorem bound2 (a b : Pt) : boundI [a, b] = ⟨min a.1 b.1, min a.2 b.2, max (a.1 + 1) (b.1 + 1), max (a.2 + 1) (b.2 + 1)⟩ := by
  have e1 : bstep ⟨0, 0, 0, 0⟩ a = ptBox a := by
    unfold bstep joinI
    have : emptyI (ptBox a) = false := by simp [emptyI, ptBox]; omega
    rw [show emptyI ⟨0, 0, 0, 0⟩ = true from rfl, this]; simp
  have e2 : bstep (ptBox a) b = join0 (ptBox a) (ptBox b) := by
    unfold bstep joinI
    have h1 : emptyI (ptBox a) = false := by simp [emptyI, ptBox]; omega
    have h2 : emptyI (ptBox b) = false := by simp [emptyI, ptBox]; omega
    rw [h1, h2]; simp
  show bstep (bstep ⟨0, 0, 0, 0⟩ a) b = _
  rw [e1, e2]
  rfl
theorem empty_meet (x y : Bx) : emptyI (meetI x y) = emptyI (meet0 x y) := by
  unfold meetI
  split
  · rename_i h; rw [h]; rfl
  · rfl
theorem apart_eq (a b c d : Pt) : emptyI (meetI (boundI [a, b]) (boundI [c, d])) = boxesApart' a b c d := by
  rw [empty_meet, bound2, bound2]
  unfold emptyI meet0 boxesApart'
  rw [Bool.eq_iff_iff]
  simp only [Bool.or_eq_true, decide_eq_true_eq]
  omega
theorem meets_form (a b c d : Pt) : meetsI a b c d = (!boxesApart' a b c d && (decide (sideI a.1 a.2 b.1 b.2 c.1 c.2 * sideI a.1 a.2 b.1 b.2 d.1 d.2 ≤ 0) && decide (sideI c.1 c.2 d.1 d.2 a.1 a.2 * sideI c.1 c.2 d.1 d.2 b.1 b.2 ≤ 0))) := by
  unfold meetsI; rw [apart_eq]
theorem side_aax (ax ay cx cy : Int) : sideI ax ay cx cy cx cy = 0 := by
  unfold sideI; rw [cmpI_sub]
  have h : (cx - ax) * (cy - ay) - (cy - ay) * (cx - ax) = 0 := by grind
  rw [h]; simp
theorem meets_swap (a b c d : Pt) : meetsI b a c d = meetsI a b c d := by
  rw [meets_form, meets_form]
  have e1 : boxesApart' b a c d = boxesApart' a b c d := by unfold boxesApart'; rw [Int.max_comm b.1 a.1, Int.min_comm b.1 a.1, Int.max_comm b.2 a.2, Int.min_comm b.2 a.2]
  rw [e1, side_swap a.1 a.2 b.1 b.2 c.1 c.2, side_swap a.1 a.2 b.1 b.2 d.1 d.2, Int.neg_mul_neg, Int.mul_comm (sideI c.1 c.2 d.1 d.2 b.1 b.2)]
theorem meets_turn (a b c d : Pt) : meetsI c d a b = meetsI a b c d := by
  rw [meets_form, meets_form]
  have e1 : boxesApart' c d a b = boxesApart' a b c d := by
    unfold boxesApart'
    rw [Bool.eq_iff_iff]; simp only [Bool.or_eq_true, decide_eq_true_eq]; omega
  rw [e1, Bool.and_comm (decide (sideI c.1 c.2 d.1 d.2 a.1 a.2 * _ ≤ 0))]
theorem not_apart_self (a b : Pt) : boxesApart' a b a b = false := by
  unfold boxesApart'; simp; omega
theorem meets_abab (a b : Pt) : meetsI a b a b = true := by
  rw [meets_form, not_apart_self, side_aba]; simp
theorem meets_abbb (a b : Pt) : meetsI a b b b = true := by
  rw [meets_form, side_aax, side_aac, show boxesApart' a b b b = false by unfold boxesApart'; simp; omega]; simp
theorem meets_aaab (a b : Pt) : meetsI a a a b = true := by
  rw [meets_form, side_aac, side_aba, show boxesApart' a a a b = false by unfold boxesApart'; simp; omega]; simp
theorem meets_parted (a b c d : Pt) : meetsI a b c d = !(boxesApart' a b c d || (!(a.1 == b.1 && a.2 == b.2) && decide (0 < sideI a.1 a.2 b.1 b.2 c.1 c.2 * sideI a.1 a.2 b.1 b.2 d.1 d.2) || !(c.1 == d.1 && c.2 == d.2) && decide (0 < sideI c.1 c.2 d.1 d.2 a.1 a.2 * sideI c.1 c.2 d.1 d.2 b.1 b.2))) := by
  rw [meets_form]
  have k1 : a.1 = b.1 → a.2 = b.2 → sideI a.1 a.2 b.1 b.2 c.1 c.2 * sideI a.1 a.2 b.1 b.2 d.1 d.2 = 0 := fun h1 h2 => by rw [← h1, ← h2, side_aac]; simp
  have k2 : c.1 = d.1 → c.2 = d.2 → sideI c.1 c.2 d.1 d.2 a.1 a.2 * sideI c.1 c.2 d.1 d.2 b.1 b.2 = 0 := fun h1 h2 => by rw [← h1, ← h2, side_aac]; simp
  generalize sideI a.1 a.2 b.1 b.2 c.1 c.2 * sideI a.1 a.2 b.1 b.2 d.1 d.2 = p at *
  generalize sideI c.1 c.2 d.1 d.2 a.1 a.2 * sideI c.1 c.2 d.1 d.2 b.1 b.2 = q at *
  cases boxesApart' a b c d
  · rw [Bool.eq_iff_iff]
    simp
    by_cases h1 : a.1 = b.1 ∧ a.2 = b.2 <;> by_cases h2 : c.1 = d.1 ∧ c.2 = d.2
    · have := k1 h1.1 h1.2; have := k2 h2.1 h2.2; omega
    · have := k1 h1.1 h1.2; omega
    · have := k2 h2.1 h2.2; omega
    · omega
  · simp
end Go.Proofs.Ytbllbncmeihaaaa
