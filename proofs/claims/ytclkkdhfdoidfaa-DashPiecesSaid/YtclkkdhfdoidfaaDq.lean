/- Layer 9: the same pattern said twice and turned. -/
import Derived.Test.YtclkkdhfdoidfaaDj
namespace Go.Proofs.Ytclkkdhfdoidfaa
open Go.RowKit
theorem pat_same {L M : List Int} {p : Int} (h : ∀ k, L.getD (k % L.length) 0 = M.getD (k % M.length) 0) : patS L p = patS M p := by
  funext k
  induction k with
  | zero => rfl
  | succ k ih => simp only [patS]; rw [ih, h]
theorem per_two (a b : Int) (k : Nat) : [a, b].getD (k % 2) 0 = [a, b, a, b].getD (k % 4) 0 := by
  obtain ⟨r, hr, h4, h2⟩ : ∃ r, r < 4 ∧ k % 4 = r ∧ k % 2 = r % 2 := ⟨k % 4, by omega, rfl, by omega⟩
  rw [h4, h2]
  match r, hr with
  | 0, _ => rfl
  | 1, _ => rfl
  | 2, _ => rfl
  | 3, _ => rfl
theorem per_four (a b c d : Int) (k : Nat) : [a, b, c, d].getD (k % 4) 0 = [a, b, c, d, a, b, c, d].getD (k % 8) 0 := by
  obtain ⟨r, hr, h4, h2⟩ : ∃ r, r < 8 ∧ k % 8 = r ∧ k % 4 = r % 4 := ⟨k % 8, by omega, rfl, by omega⟩
  rw [h4, h2]
  match r, hr with
  | 0, _ => rfl
  | 1, _ => rfl
  | 2, _ => rfl
  | 3, _ => rfl
  | 4, _ => rfl
  | 5, _ => rfl
  | 6, _ => rfl
  | 7, _ => rfl
theorem per_turn (a b c d : Int) (k : Nat) : [c, d, a, b].getD (k % 4) 0 = [a, b, c, d].getD ((k + 2) % 4) 0 := by
  obtain ⟨r, hr, h4, h2⟩ : ∃ r, r < 4 ∧ k % 4 = r ∧ (k + 2) % 4 = (r + 2) % 4 := ⟨k % 4, by omega, rfl, by omega⟩
  rw [h4, h2]
  match r, hr with
  | 0, _ => rfl
  | 1, _ => rfl
  | 2, _ => rfl
  | 3, _ => rfl
theorem pat_turn (a b c d p q : Int) (h : q = p - a - b) : ∀ k, patS [c, d, a, b] q k = patS [a, b, c, d] p (k + 2)
  | 0 => by
    show -q = -p + a + b
    omega
  | k + 1 => by
    have ih := pat_turn a b c d p q h k
    show patS [c, d, a, b] q k + [c, d, a, b].getD (k % 4) 0 = patS [a, b, c, d] p (k + 2) + [a, b, c, d].getD ((k + 2) % 4) 0
    rw [ih, per_turn]
/-- Where the turned pattern is begun. -/
def turnP (L : List Int) (p : Int) : Int := if p - L.getD 0 0 - L.getD 1 0 < 0 then p - L.getD 0 0 - L.getD 1 0 + sumI L else p - L.getD 0 0 - L.getD 1 0
theorem even_four {L : List Int} (h0 : L ≠ []) (h4 : L.length ≤ 4) (h2 : L.length % 2 = 0) : (∃ a b, L = [a, b]) ∨ ∃ a b c d, L = [a, b, c, d] := by
  match L with
  | [] => exact absurd rfl h0
  | [_] => simp at h2
  | [a, b] => exact .inl ⟨a, b, rfl⟩
  | [_, _, _] => simp at h2
  | [a, b, c, d] => exact .inr ⟨a, b, c, d, rfl⟩
  | _ :: _ :: _ :: _ :: _ :: _ => simp at h4
theorem right_even {L : List Int} {p : Int} (h : rightI L p = true) : L.length % 2 = 0 := by
  unfold rightI at h
  split at h
  · rename_i e; subst e; rfl
  · simp only [Bool.and_eq_true, decide_eq_true_eq] at h; exact h.1.1.1.2
theorem dash_eq {l : List Pt} {cl : Bool} {L M : List Int} {p q : Int} (h1 : rightI L p = true) (h2 : rightI M q = true) (hL : L ≠ []) (hM : M ≠ []) (h : ∀ W, piecesI (patS L p) W = piecesI (patS M q) W) : dashO l cl M q = dashO l cl L p := by
  unfold dashO dashW piecesO
  rw [if_pos h1, if_pos h2, if_neg hL, if_neg hM, h]
theorem twice_dash {l : List Pt} {cl : Bool} {L : List Int} {p : Int} (h1 : rightI L p = true) (h0 : L ≠ []) (h4 : L.length ≤ 4) : dashO l cl (L ++ L) p = dashO l cl L p := by
  rcases even_four h0 h4 (right_even h1) with ⟨a, b, rfl⟩ | ⟨a, b, c, d, rfl⟩
  · refine dash_eq h1 ?_ h0 (by simp) fun W => by rw [pat_same (L := [a, b]) (M := [a, b] ++ [a, b]) (per_two a b)]
    simp [rightI, sumI, okL] at h1 ⊢
    omega
  · refine dash_eq h1 ?_ h0 (by simp) fun W => by rw [pat_same (L := [a, b, c, d]) (M := [a, b, c, d] ++ [a, b, c, d]) (per_four a b c d)]
    simp [rightI, sumI, okL] at h1 ⊢
    omega
theorem turn_dash {l : List Pt} {cl : Bool} {L : List Int} {p : Int} (h1 : rightI L p = true) (h0 : L ≠ []) (h4 : L.length ≤ 4) : dashO l cl (L.drop 2 ++ L.take 2) (turnP L p) = dashO l cl L p := by
  rcases even_four h0 h4 (right_even h1) with ⟨a, b, rfl⟩ | ⟨a, b, c, d, rfl⟩
  · have e : turnP [a, b] p = p := by
      simp [rightI, sumI, okL] at h1
      simp [turnP, sumI]
      omega
    rw [e]; rfl
  · have hr := h1
    simp [rightI, sumI, okL] at h1
    have hg := pat_grows h0 hr
    have hr2 : rightI [c, d, a, b] (turnP [a, b, c, d] p) = true := by
      simp [rightI, sumI, okL, turnP]
      split <;> omega
    have hg2 := pat_grows (by simp) hr2
    refine dash_eq hr hr2 h0 (by simp) fun W => ?_
    by_cases hz : p - a - b < 0
    · have e : turnP [a, b, c, d] p = p - a - b + (a + b + c + d) := by simp [turnP, sumI, hz]
      rw [e] at hg2 ⊢
      refine (pieces_shift (r := 2) hg hg2 rfl (fun k => pat_turn c d a b _ _ (by omega) k) ?_).symm
      show -(p - a - b + (a + b + c + d)) + c + d ≤ 0
      omega
    · have e : turnP [a, b, c, d] p = p - a - b := by simp [turnP, hz]
      rw [e] at hg2 ⊢
      refine pieces_shift (r := 2) hg2 hg rfl (fun k => pat_turn a b c d p _ rfl k) ?_
      show -p + a + b ≤ 0
      omega
theorem whole_len (S : Nat → Int) (W : List Pt) (k : Nat) : (wholeI S W k).length ≤ W.length + 2 := by
  have hf : ((List.range (W.length - 1)).filter (fun j => decide (S k < endsI W (j + 1)) && decide (endsI W (j + 1) ≤ S (k + 1)))).length ≤ W.length - 1 := Nat.le_trans (List.length_filter_le _ _) (by simp)
  unfold wholeI
  split <;> simp <;> omega
theorem done_len (S : Nat → Int) (W : List Pt) : ∀ K, ∀ x ∈ doneI S W K, x.length ≤ W.length + 2
  | 0, x, h => by cases h
  | K + 1, x, h => by
    rw [doneI_succ] at h
    rcases List.mem_append.1 h with h | h
    · exact done_len S W K x h
    · split at h
      · obtain rfl := List.mem_singleton.1 h; exact whole_len S W K
      · cases h
theorem pieces_len (S : Nat → Int) (W : List Pt) : ∀ x ∈ piecesI S W, x.length ≤ W.length + 2 := fun x h => by
  unfold piecesI at h
  split at h
  · exact done_len S W _ x h
  · cases h
theorem dash_len {l : List Pt} {cl : Bool} {L : List Int} {p : Int} (hl : l.length ≤ 100) : ∀ x ∈ (dashO l cl L p).2, x.1.length ≤ 1000 := fun x h => by
  unfold dashO dashW piecesO at h
  have := wayI_len l cl
  split at h
  · split at h
    · split at h
      · cases h
      · split at h
        · obtain rfl := List.mem_singleton.1 h; show l.length ≤ 1000; omega
        · split at h
          · cases h
          · obtain ⟨y, hy, rfl⟩ := List.mem_map.1 h
            have := pieces_len _ _ y hy
            show y.length ≤ 1000
            omega
    · cases h
  · cases h
theorem dash_many {l : List Pt} {cl : Bool} {L : List Int} {p : Int} : (dashO l cl L p).2.length ≤ 4096 := by
  unfold dashO dashW piecesO
  split
  · split
    · split
      · simp
      · split
        · simp
        · split
          · simp
          · simp; omega
    · simp
  · simp
end Go.Proofs.Ytclkkdhfdoidfaa
