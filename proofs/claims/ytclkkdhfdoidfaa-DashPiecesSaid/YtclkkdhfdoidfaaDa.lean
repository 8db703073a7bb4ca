/- Layer 9: numbers. Lines of a way, places along it, the pieces that a pattern leaves. -/
import Derived.Test.YtclkkdhfdoidfaaTb
import Derived.Test.YtclkkdhfdoidfaaSc
namespace Go.Proofs.Ytclkkdhfdoidfaa
open Go.RowKit
def at0 (W : List Pt) (i : Nat) : Pt := W.getD i (0, 0)
theorem at0_eq {W : List Pt} {i : Nat} {p : Pt} (h : W[i]? = some p) : at0 W i = p := by unfold at0; rw [List.getD_eq_getElem?_getD, h]; rfl
theorem at0_some {W : List Pt} {i : Nat} (h : i < W.length) : W[i]? = some (at0 W i) := by rw [List.getElem?_eq_getElem h, at0_eq (List.getElem?_eq_getElem h)]
/-- The place at t of a line of length n. -/
def onP (a b : Pt) (t n : Int) : Pt := (a.1 + qI (t * (b.1 - a.1)) n, a.2 + qI (t * (b.2 - a.2)) n)
/-- How long a line of a way is, and where it begins. -/
noncomputable def lenW (W : List Pt) (i : Nat) : Int := lenI (subP (at0 W (i + 1)) (at0 W i))
noncomputable def endsI (W : List Pt) : Nat → Int
  | 0 => 0
  | i + 1 => endsI W i + lenW W i
/-- A way: each line has a length. -/
def Way (W : List Pt) : Prop := ∀ i, i + 1 < W.length → 1 ≤ lenW W i
theorem ends_le {W : List Pt} (h : Way W) : ∀ (j i : Nat), i ≤ j → j < W.length → endsI W i ≤ endsI W j
  | 0, i, hi, _ => by obtain rfl : i = 0 := by omega
                      exact Int.le_refl _
  | j + 1, i, hi, hj => by
    rcases Nat.lt_or_ge j i with h1 | h1
    · obtain rfl : i = j + 1 := by omega
      exact Int.le_refl _
    · have h2 := ends_le h j i h1 (by omega)
      have h3 := h j hj
      simp only [endsI]; omega
theorem ends_lt {W : List Pt} (h : Way W) {i j : Nat} (hi : i < j) (hj : j < W.length) : endsI W i < endsI W j := by
  have h1 := ends_le h j (i + 1) (by omega) hj
  have h2 := h i (by omega)
  simp only [endsI] at h1; omega
theorem ends_nonneg {W : List Pt} (h : Way W) {i : Nat} (hi : i < W.length) : 0 ≤ endsI W i := by
  have := ends_le h i 0 (by omega) hi
  simpa [endsI] using this
open Classical in
/-- The place at a distance from the way's beginning, ahead of its end. -/
noncomputable def placeI (W : List Pt) (d : Int) : Pt :=
  if h : ∃ i, i + 1 < W.length ∧ endsI W i ≤ d ∧ d < endsI W (i + 1) then onP (at0 W (Classical.choose h)) (at0 W (Classical.choose h + 1)) (d - endsI W (Classical.choose h)) (lenW W (Classical.choose h)) else (0, 0)
theorem placeI_eq {W : List Pt} (hW : Way W) {i : Nat} {d : Int} (hi : i + 1 < W.length) (h0 : endsI W i ≤ d) (h1 : d < endsI W (i + 1)) : placeI W d = onP (at0 W i) (at0 W (i + 1)) (d - endsI W i) (lenW W i) := by
  have h : ∃ i, i + 1 < W.length ∧ endsI W i ≤ d ∧ d < endsI W (i + 1) := ⟨i, hi, h0, h1⟩
  unfold placeI
  rw [dif_pos h]
  have hc := Classical.choose_spec h
  generalize Classical.choose h = j at hc
  obtain ⟨c1, c2, c3⟩ := hc
  have : j = i := by
    rcases Nat.lt_trichotomy j i with hl | he | hg
    · have := ends_le hW i (j + 1) (by omega) (by omega); omega
    · exact he
    · have := ends_le hW j (i + 1) (by omega) (by omega); omega
  rw [this]
/-- Which line has a place. -/
theorem line_of {W : List Pt} : ∀ (m : Nat) (d : Int), 0 ≤ d → d < endsI W m → ∃ i, i < m ∧ endsI W i ≤ d ∧ d < endsI W (i + 1)
  | 0, d, h0, h1 => by simp only [endsI] at h1; omega
  | m + 1, d, h0, h1 => by
    by_cases h : endsI W m ≤ d
    · exact ⟨m, by omega, h, h1⟩
    · obtain ⟨i, hi, h2, h3⟩ := line_of (W := W) m d h0 (by omega)
      exact ⟨i, by omega, h2, h3⟩
section
variable (S : Nat → Int) (W : List Pt)
noncomputable def firstI (k : Nat) : Pt := if S k ≤ 0 then at0 W 0 else placeI W (S k)
/-- The points behind a length's beginning, up to the i-th one. -/
noncomputable def betwI (k i : Nat) : List Pt := ((List.range i).filter fun j => decide (S k < endsI W (j + 1))).map fun j => at0 W (j + 1)
noncomputable def upI (k i : Nat) : List Pt := firstI S W k :: betwI S W k i
noncomputable def wholeI (k : Nat) : List Pt :=
  firstI S W k :: (((List.range (W.length - 1)).filter fun j => decide (S k < endsI W (j + 1)) && decide (endsI W (j + 1) ≤ S (k + 1))).map fun j => at0 W (j + 1)) ++ if S (k + 1) < endsI W (W.length - 1) then [placeI W (S (k + 1))] else []
def drawnB (k : Nat) : Bool := decide (k % 2 = 0) && decide (0 < S (k + 1))
noncomputable def doneI (K : Nat) : List (List Pt) := ((List.range K).filter fun k => drawnB S k).map fun k => wholeI S W k
end
section
variable {S : Nat → Int} {W : List Pt}
theorem betwI_succ (k i : Nat) : betwI S W k (i + 1) = betwI S W k i ++ (if S k < endsI W (i + 1) then [at0 W (i + 1)] else []) := by
  unfold betwI
  rw [List.range_succ, List.filter_append, List.map_append]
  congr 1
  by_cases h : S k < endsI W (i + 1)
  · simp [h]
  · simp [h]
theorem upI_succ (k i : Nat) : upI S W k (i + 1) = upI S W k i ++ (if S k < endsI W (i + 1) then [at0 W (i + 1)] else []) := by
  unfold upI; rw [betwI_succ]; rfl
theorem doneI_succ (K : Nat) : doneI S W (K + 1) = doneI S W K ++ (if drawnB S K then [wholeI S W K] else []) := by
  unfold doneI
  rw [List.range_succ, List.filter_append, List.map_append]
  congr 1
  cases h : drawnB S K <;> simp [h]
theorem doneI_len : ∀ {K J : Nat}, K ≤ J → (doneI S W K).length ≤ (doneI S W J).length := by
  intro K J h
  induction J with
  | zero => obtain rfl : K = 0 := by omega
            exact Nat.le_refl _
  | succ J ih =>
    rcases Nat.lt_or_ge J K with h1 | h1
    · obtain rfl : K = J + 1 := by omega
      exact Nat.le_refl _
    · have := ih h1
      rw [doneI_succ, List.length_append]; omega
/-- Where a length begins just now, no point lies behind its beginning. -/
theorem betwI_none {k i : Nat} (hW : Way W) (hi : i < W.length) (h : endsI W i ≤ S k) : betwI S W k i = [] := by
  unfold betwI
  rw [List.map_eq_nil_iff, List.filter_eq_nil_iff]
  intro j hj
  have := ends_le hW i (j + 1) (by have := List.mem_range.1 hj; omega) hi
  simp; omega
/-- A length that ends within a line. -/
theorem whole_in {k i : Nat} (hW : Way W) (hi : i + 1 < W.length) (h0 : endsI W i ≤ S (k + 1)) (h1 : S (k + 1) < endsI W (i + 1)) : wholeI S W k = upI S W k i ++ [placeI W (S (k + 1))] := by
  unfold wholeI upI betwI
  have hall : S (k + 1) < endsI W (W.length - 1) := by
    have := ends_le hW (W.length - 1) (i + 1) (by omega) (by omega); omega
  rw [if_pos hall, List.cons_append, List.cons_append]
  congr 3
  obtain ⟨d, hd⟩ : ∃ d, W.length - 1 = i + d := ⟨W.length - 1 - i, by omega⟩
  rw [hd, List.range_add, List.filter_append]
  have e1 : (List.range i).filter (fun j => decide (S k < endsI W (j + 1)) && decide (endsI W (j + 1) ≤ S (k + 1))) = (List.range i).filter (fun j => decide (S k < endsI W (j + 1))) := by
    apply List.filter_congr
    intro j hj
    have := ends_le hW i (j + 1) (by have := List.mem_range.1 hj; omega) (by omega)
    have h2 : endsI W (j + 1) ≤ S (k + 1) := by omega
    simp [h2]
  have e2 : ((List.range d).map (i + ·)).filter (fun j => decide (S k < endsI W (j + 1)) && decide (endsI W (j + 1) ≤ S (k + 1))) = [] := by
    rw [List.filter_eq_nil_iff]
    intro j hj
    obtain ⟨x, hx, rfl⟩ := List.mem_map.1 hj
    have := ends_le hW (i + x + 1) (i + 1) (by omega) (by have := List.mem_range.1 hx; omega)
    simp; omega
  rw [e1, e2, List.append_nil]
/-- A length that ends with the way, or behind it. -/
theorem whole_end {k : Nat} (hW : Way W) (h : endsI W (W.length - 1) ≤ S (k + 1)) : wholeI S W k = upI S W k (W.length - 1) := by
  unfold wholeI upI betwI
  rw [if_neg (by omega), List.append_nil]
  congr 2
  apply List.filter_congr
  intro j hj
  have := ends_le hW (W.length - 1) (j + 1) (by have := List.mem_range.1 hj; omega) (by have := List.mem_range.1 hj; omega)
  have h2 : endsI W (j + 1) ≤ S (k + 1) := by omega
  simp [h2]
end
/-- Lengths follow one another. -/
def Grows (S : Nat → Int) : Prop := ∀ k, S k < S (k + 1)
theorem grows_le {S : Nat → Int} (h : Grows S) : ∀ (j i : Nat), i ≤ j → S i + (j - i : Nat) ≤ S j
  | 0, i, hi => by obtain rfl : i = 0 := by omega
                   simp
  | j + 1, i, hi => by
    rcases Nat.lt_or_ge j i with h1 | h1
    · obtain rfl : i = j + 1 := by omega
      simp
    · have := grows_le h j i h1
      have := h j
      omega
/-- Where a way ends; one of one point as if it had a length. -/
noncomputable def allI (W : List Pt) : Int := max (endsI W (W.length - 1)) 1
/-- How many lengths begin ahead of the way's end. -/
def IsEnd (S : Nat → Int) (W : List Pt) (K : Nat) : Prop := (∀ k, k < K → S k < allI W) ∧ allI W ≤ S K
theorem isEnd_unique {S : Nat → Int} {W : List Pt} {K J : Nat} (h : IsEnd S W K) (k : IsEnd S W J) : K = J := by
  rcases Nat.lt_trichotomy K J with hl | he | hg
  · have h1 := k.1 K hl; have h2 := h.2; omega
  · exact he
  · have h1 := h.1 J hg; have h2 := k.2; omega
theorem isEnd_some {S : Nat → Int} (W : List Pt) (h : Grows S) : ∃ K, IsEnd S W K := by
  have key : ∀ N : Nat, (∃ K, K ≤ N ∧ IsEnd S W K) ∨ ∀ k, k ≤ N → S k < allI W := by
    intro N
    induction N with
    | zero =>
      by_cases h0 : S 0 < allI W
      · exact .inr fun k hk => by obtain rfl : k = 0 := by omega
                                  exact h0
      · exact .inl ⟨0, Nat.le_refl _, fun k hk => absurd hk (by omega), by omega⟩
    | succ N ih =>
      rcases ih with ⟨K, hK, h1⟩ | ih
      · exact .inl ⟨K, by omega, h1⟩
      · by_cases h0 : S (N + 1) < allI W
        · exact .inr fun k hk => by
            rcases Nat.lt_or_ge N k with h2 | h2
            · obtain rfl : k = N + 1 := by omega
              exact h0
            · exact ih k h2
        · exact .inl ⟨N + 1, Nat.le_refl _, fun k hk => ih k (by omega), by omega⟩
  rcases key (allI W - S 0).toNat with ⟨K, _, h1⟩ | h1
  · exact ⟨K, h1⟩
  · have h2 := h1 _ (Nat.le_refl _)
    have h3 := grows_le h (allI W - S 0).toNat 0 (by omega)
    have h4 : S 0 ≤ allI W := by have := h1 0 (by omega); omega
    simp at h3
    omega
open Classical in
/-- All pieces. -/
noncomputable def piecesI (S : Nat → Int) (W : List Pt) : List (List Pt) := if h : ∃ K, IsEnd S W K then doneI S W (Classical.choose h) else []
theorem piecesI_eq {S : Nat → Int} {W : List Pt} {K : Nat} (h : IsEnd S W K) : piecesI S W = doneI S W K := by
  have hx : ∃ K, IsEnd S W K := ⟨K, h⟩
  unfold piecesI
  rw [dif_pos hx, isEnd_unique (Classical.choose_spec hx) h]
/-- No piece of a length that ends ahead of the way. -/
theorem doneI_none {S : Nat → Int} {W : List Pt} : ∀ K, (∀ k, k < K → S (k + 1) ≤ 0) → doneI S W K = []
  | 0, _ => rfl
  | K + 1, h => by
    rw [doneI_succ, doneI_none K (fun k hk => h k (by omega))]
    have := h K (by omega)
    have : drawnB S K = false := by unfold drawnB; simp; omega
    simp [this]
theorem doneI_shift {S T : Nat → Int} {W : List Pt} {r : Nat} (hr : r % 2 = 0) (hT : ∀ k, T k = S (k + r)) (h0 : ∀ k, k < r → S (k + 1) ≤ 0) : ∀ K, doneI S W (K + r) = doneI T W K
  | 0 => by rw [Nat.zero_add]; exact doneI_none r h0
  | K + 1 => by
    rw [show K + 1 + r = K + r + 1 by omega, doneI_succ, doneI_succ, doneI_shift hr hT h0 K]
    have e0 := hT K
    have e1 := hT (K + 1)
    rw [show K + 1 + r = K + r + 1 by omega] at e1
    have eb : drawnB S (K + r) = drawnB T K := by unfold drawnB; rw [← e1, Nat.add_mod, hr]; simp
    have ew : wholeI S W (K + r) = wholeI T W K := by unfold wholeI firstI; rw [← e0, ← e1]
    rw [eb, ew]
/-- A pattern begun r lengths later. -/
theorem pieces_shift {S T : Nat → Int} {W : List Pt} {r : Nat} (hg : Grows T) (hS : Grows S) (hr : r % 2 = 0) (hT : ∀ k, T k = S (k + r)) (h0 : S r ≤ 0) : piecesI S W = piecesI T W := by
  obtain ⟨K, hK⟩ := isEnd_some W hg
  have hle : ∀ k, k ≤ r → S k ≤ 0 := fun k hk => by have := grows_le hS r k hk; omega
  have h1 : IsEnd S W (K + r) := by
    refine ⟨fun k hk => ?_, by rw [← hT]; exact hK.2⟩
    rcases Nat.lt_or_ge k r with h | h
    · have := hle k (by omega)
      have : (1 : Int) ≤ allI W := by unfold allI; omega
      omega
    · have := hK.1 (k - r) (by omega)
      rw [hT, show k - r + r = k by omega] at this
      exact this
  rw [piecesI_eq h1, piecesI_eq hK, doneI_shift hr hT (fun k hk => hle (k + 1) (by omega))]
/-- Where the lengths of a pattern begin. -/
def patS (L : List Int) (phase : Int) : Nat → Int
  | 0 => -phase
  | k + 1 => patS L phase k + L.getD (k % L.length) 0
/-- A right pattern, and its sum. -/
def sumI (L : List Int) : Int := L.foldl (· + ·) 0
def okL (x : Int) : Bool := decide (1 ≤ x) && decide (x ≤ 1048576)
def rightI (L : List Int) (phase : Int) : Bool :=
  if L = [] then decide (phase = 0) else decide (L.length ≤ 8) && decide (L.length % 2 = 0) && L.all okL && decide (0 ≤ phase) && decide (phase < sumI L)
theorem pat_grows {L : List Int} {phase : Int} (hne : L ≠ []) (h : rightI L phase = true) : Grows (patS L phase) := by
  unfold rightI at h
  rw [if_neg hne] at h
  simp only [Bool.and_eq_true] at h
  intro k
  simp only [patS]
  have hl : 0 < L.length := List.length_pos_iff.2 hne
  have hk : k % L.length < L.length := Nat.mod_lt _ hl
  have := List.all_eq_true.1 h.1.1.2 _ (List.getElem_mem hk)
  unfold okL at this
  simp at this
  rw [List.getD_eq_getElem?_getD, List.getElem?_eq_getElem hk]
  simp; omega
end Go.Proofs.Ytclkkdhfdoidfaa
