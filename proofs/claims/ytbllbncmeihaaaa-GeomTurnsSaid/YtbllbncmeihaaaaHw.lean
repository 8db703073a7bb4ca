/- More on rows made by appends, and on windings of parts. -/
import Derived.Test.YtbllbncmeihaaaaHu
namespace Go.Proofs.Ytbllbncmeihaaaa
open Go.RowKit
theorem ChM.grow {W w w' : World} {t : TypeId} {A : List Made} {b : Nat → Bool} {vs : Nat → Value} (h : ChM W t A b vs w) (hb : Below w.heap.size w w') : ChM W t A b vs w' :=
  ⟨below_next h.1 hb, fun x hx hbx hl => (h.2.1 x hx hbx hl).grow hb, h.2.2⟩
/-- Beside the chain: a row of one point, made ahead of its being appended. -/
def TmpM (z : Pt) (b : Nat → Bool) (vs : Nat → Value) (w : World) : Prop :=
  b 9 = true → b 10 = false → ∃ g, vs 9 = .slice (some ⟨g, 0, none⟩) 1 1 ∧ Blk w g 23 (two z) ∧ (b 2 = false → b 0 = true → (vs 0).ownBlock ≠ some g)
theorem winds_split (l : List Pt) (k : Nat) (hk : k < l.length) (a s : Pt) (h0 : l[0]? = some a) : windsI (l.take (k + 1)) s + windsI (a :: l.drop k) s = windsI l s := by
  cases l with
  | nil => simp at hk
  | cons a' r =>
    obtain rfl : a' = a := by simpa using h0
    cases k with
    | zero =>
      simp only [List.take_succ_cons, List.take_zero, List.drop_zero]
      rw [winds_edges, winds_edges, winds_edges]
      simp only [List.cons_append, List.nil_append, edges]
      rw [cntP_same]; omega
    | succ j =>
      have hj : j < r.length := by simpa using hk
      have e : r = r.take j ++ r[j] :: r.drop (j + 1) := by
        rw [List.getElem_cons_drop, List.take_append_drop]
      have h1 : (a' :: r).take (j + 1 + 1) = a' :: (r.take j ++ [r[j]]) := by
        rw [List.take_succ_cons, List.take_add_one, List.getElem?_eq_getElem hj]; rfl
      have h2 : (a' :: r).drop (j + 1) = r[j] :: r.drop (j + 1) := by
        rw [List.drop_succ_cons, List.getElem_cons_drop]
      rw [h1, h2, winds_part, ← e]
theorem winds_moved (l : List Pt) (k : Nat) (s : Pt) : windsI (l.drop k ++ l.take k) s = windsI l s := by
  rw [winds_turn, List.take_append_drop]
theorem room_sub {l m : List Pt} (h : l.all roomP = true) (hm : ∀ p ∈ m, p ∈ l) : m.all roomP = true := by
  rw [List.all_eq_true] at *
  exact fun p hp => h p (hm p hp)
end Go.Proofs.Ytbllbncmeihaaaa
