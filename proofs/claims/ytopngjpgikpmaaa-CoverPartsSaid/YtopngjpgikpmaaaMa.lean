/- What is covered, in numbers: edges and where they cross rows, sums along a row, samples of a pixel, the mask of a window; nothing of the program. -/
import Derived.Test.YtopngjpgikpmaaaGc
import Derived.Test.YtopngjpgikpmaaaBox
import Derived.Test.YtopngjpgikpmaaaM
namespace Go.Proofs.Ytopngjpgikpmaaa
open Go.RowKit
theorem side_pos (px py qx qy sx sy : Int) : 0 < sideI px py qx qy sx sy ↔ (qy - py) * (sx - px) < (qx - px) * (sy - py) := by
  unfold sideI cmpI; split <;> (try split) <;> omega
theorem side_neg (px py qx qy sx sy : Int) : sideI px py qx qy sx sy < 0 ↔ (qx - px) * (sy - py) < (qy - py) * (sx - px) := by
  unfold sideI cmpI; split <;> (try split) <;> omega
theorem side_flip (px py qx qy sx sy : Int) : sideI px py qx qy sx sy < 0 ↔ 0 < sideI qx qy px py sx sy := by
  rw [side_neg, side_pos]
  have h : (qx - px) * (sy - py) - (qy - py) * (sx - px) = (py - qy) * (sx - qx) - (px - qx) * (sy - qy) := by grind
  omega
/-- The least whole number that is not on the left of an edge. -/
def crossI (a b : Pt) (y : Int) : Int := a.1 - ((a.1 - b.1) * (y - a.2)).fdiv (b.2 - a.2)
theorem cross_side (a b : Pt) (x y : Int) (h1 : a.2 ≤ y) (h2 : y < b.2) : x < crossI a b y ↔ 0 < sideI a.1 a.2 b.1 b.2 x y := by
  have hD : 0 < b.2 - a.2 := by omega
  rw [side_pos]
  unfold crossI
  rw [Int.fdiv_eq_ediv_of_nonneg _ (by omega)]
  have h3 := Int.ediv_lt_iff_lt_mul (a := (a.1 - b.1) * (y - a.2)) (b := a.1 - x) hD
  have e1 : (a.1 - x) * (b.2 - a.2) = -((b.2 - a.2) * (x - a.1)) := by grind
  have e2 : (a.1 - b.1) * (y - a.2) = -((b.1 - a.1) * (y - a.2)) := by grind
  rw [e1, e2] at h3
  rw [e2]
  omega
/-- A crossing lies between the ends. -/
theorem cross_room (a b : Pt) (y : Int) (h1 : a.2 ≤ y) (h2 : y < b.2) : min a.1 b.1 ≤ crossI a b y ∧ crossI a b y ≤ max a.1 b.1 := by
  have hD : 0 < b.2 - a.2 := by omega
  unfold crossI
  rw [Int.fdiv_eq_ediv_of_nonneg _ (by omega)]
  rcases Int.le_total a.1 b.1 with h | h
  · have e : (a.1 - b.1) * (y - a.2) ≤ 0 := Int.mul_nonpos_of_nonpos_of_nonneg (by omega) (by omega)
    have e3 : (a.1 - b.1) * (b.2 - a.2) ≤ (a.1 - b.1) * (y - a.2) := Int.mul_le_mul_of_nonpos_left (by omega) (by omega)
    have g1 : (a.1 - b.1) * (y - a.2) / (b.2 - a.2) ≤ 0 := by
      have := Int.ediv_le_ediv hD e
      simpa using this
    have g2 : a.1 - b.1 ≤ (a.1 - b.1) * (y - a.2) / (b.2 - a.2) := (Int.le_ediv_iff_mul_le hD).2 e3
    omega
  · have e : 0 ≤ (a.1 - b.1) * (y - a.2) := Int.mul_nonneg (by omega) (by omega)
    have e3 : (a.1 - b.1) * (y - a.2) ≤ (a.1 - b.1) * (b.2 - a.2) := Int.mul_le_mul_of_nonneg_left (by omega) (by omega)
    have g1 : 0 ≤ (a.1 - b.1) * (y - a.2) / (b.2 - a.2) := Int.ediv_nonneg e (by omega)
    have g2 : (a.1 - b.1) * (y - a.2) / (b.2 - a.2) ≤ a.1 - b.1 := by
      have h4 := Int.ediv_le_ediv hD e3
      rwa [Int.mul_ediv_cancel _ (by omega)] at h4
    omega
/-- What an edge adds at a sample. -/
def addE (a b : Pt) (n : Int) (s : Pt) : Int := if a.2 ≤ s.2 ∧ s.2 < b.2 ∧ s.1 < crossI a b s.2 then n else 0
theorem cnt_edge (p q s : Pt) : cntP p q s = if p.2 < q.2 then addE p q 1 s else addE q p (-1) s := by
  unfold cntP cnt addE
  by_cases h : p.2 < q.2
  · rw [if_pos h]
    by_cases h1 : p.2 ≤ s.2 ∧ s.2 < q.2
    · have := cross_side p q s.1 s.2 h1.1 h1.2
      by_cases h2 : 0 < sideI p.1 p.2 q.1 q.2 s.1 s.2
      · rw [if_pos ⟨h1.1, h1.2, h2⟩, if_pos ⟨h1.1, h1.2, this.2 h2⟩]
      · rw [if_neg (fun h => h2 h.2.2), if_neg (by omega), if_neg (fun h => h2 (this.1 h.2.2))]
    · rw [if_neg (by omega), if_neg (by omega), if_neg (by omega)]
  · rw [if_neg h, if_neg (by omega)]
    by_cases h1 : q.2 ≤ s.2 ∧ s.2 < p.2
    · have := cross_side q p s.1 s.2 h1.1 h1.2
      have hf := side_flip p.1 p.2 q.1 q.2 s.1 s.2
      by_cases h2 : sideI p.1 p.2 q.1 q.2 s.1 s.2 < 0
      · rw [if_pos ⟨h1.1, h1.2, h2⟩, if_pos ⟨h1.1, h1.2, this.2 (hf.1 h2)⟩]
      · rw [if_neg (fun h => h2 h.2.2), if_neg (fun h => h2 (hf.2 (this.1 h.2.2)))]
    · rw [if_neg (by omega), if_neg (by omega)]
/-- How many samples of a line are below n. -/
def belowI (n first : Int) (many : Nat) : Nat := (min (max (cei ((n - first) * 4)) 0) many).toNat
theorem below_le (n first : Int) (many : Nat) : belowI n first many ≤ many := by unfold belowI; omega
theorem below_iff (n first : Int) (many k : Nat) (hk : k < many) : k < belowI n first many ↔ first + 64 * k < n := by
  unfold belowI cei; omega
/-! Where a polygon goes round nothing. -/
theorem wfold_zero (s : Pt) (l : List Pt) (P : Pt → Prop) (hP : ∀ p q, P p → P q → cntP p q s = 0) : (∀ q ∈ l, P q) → ∀ st : Pt × Int, P st.1 → (l.foldl (wstep s) st).2 = st.2 := by
  induction l with
  | nil => intros; rfl
  | cons q l ih =>
    intro hl st hs
    rw [List.foldl_cons, ih (fun x hx => hl x (List.mem_cons_of_mem _ hx)) _ (hl q (List.mem_cons_self ..))]
    unfold wstep
    simp only
    rw [hP _ _ hs (hl q (List.mem_cons_self ..))]
    omega
theorem winds_zero (s : Pt) (l : List Pt) (P : Pt → Prop) (hP : ∀ p q, P p → P q → cntP p q s = 0) (hl : ∀ q ∈ l, P q) : windsI l s = 0 := by
  unfold windsI
  split
  · rfl
  · next p hp => exact wfold_zero s l P hP hl _ (hl p (List.mem_of_getLast? hp))
theorem winds_above (s : Pt) (l : List Pt) (hl : ∀ q ∈ l, s.2 < q.2) : windsI l s = 0 :=
  winds_zero s l (fun q => s.2 < q.2) (fun p q hp hq => by unfold cntP cnt; rw [if_neg (by omega), if_neg (by omega)]) hl
theorem winds_below (s : Pt) (l : List Pt) (hl : ∀ q ∈ l, q.2 ≤ s.2) : windsI l s = 0 :=
  winds_zero s l (fun q => q.2 ≤ s.2) (fun p q hp hq => by unfold cntP cnt; rw [if_neg (by omega), if_neg (by omega)]) hl
theorem side_id (px py qx qy sx sy : Int) : (qx - px) * (sy - py) - (qy - py) * (sx - px) = (sy - py) * (qx - sx) + (qy - sy) * (px - sx) := by grind
theorem winds_right (s : Pt) (l : List Pt) (hl : ∀ q ∈ l, q.1 ≤ s.1) : windsI l s = 0 :=
  winds_zero s l (fun q => q.1 ≤ s.1) (fun p q hp hq => by
    have hi := side_id p.1 p.2 q.1 q.2 s.1 s.2
    unfold cntP cnt
    rw [if_neg ?_, if_neg ?_]
    · rintro ⟨h1, h2, h3⟩
      rw [side_neg] at h3
      have a1 : 0 ≤ (s.2 - p.2) * (q.1 - s.1) := Int.mul_nonneg_of_nonpos_of_nonpos (by omega) (by omega)
      have a2 : 0 ≤ (q.2 - s.2) * (p.1 - s.1) := Int.mul_nonneg_of_nonpos_of_nonpos (by omega) (by omega)
      omega
    · rintro ⟨h1, h2, h3⟩
      rw [side_pos] at h3
      have a1 : (s.2 - p.2) * (q.1 - s.1) ≤ 0 := Int.mul_nonpos_of_nonneg_of_nonpos (by omega) (by omega)
      have a2 : (q.2 - s.2) * (p.1 - s.1) ≤ 0 := Int.mul_nonpos_of_nonneg_of_nonpos (by omega) (by omega)
      omega) hl
def upB (s p : Pt) : Int := if s.2 < p.2 then 1 else 0
theorem cnt_left (p q s : Pt) (hp : s.1 < p.1) (hq : s.1 < q.1) : cntP p q s = upB s q - upB s p := by
  have hi := side_id p.1 p.2 q.1 q.2 s.1 s.2
  unfold cntP cnt upB
  by_cases h1 : p.2 ≤ s.2 ∧ s.2 < q.2
  · have a1 : 0 ≤ (s.2 - p.2) * (q.1 - s.1) := Int.mul_nonneg (by omega) (by omega)
    have a2 : 0 < (q.2 - s.2) * (p.1 - s.1) := Int.mul_pos (by omega) (by omega)
    rw [if_pos ⟨h1.1, h1.2, (side_pos ..).2 (by omega)⟩, if_pos h1.2, if_neg (by omega)]
    omega
  · rw [if_neg (fun h => h1 ⟨h.1, h.2.1⟩)]
    by_cases h2 : q.2 ≤ s.2 ∧ s.2 < p.2
    · have a1 : (s.2 - p.2) * (q.1 - s.1) < 0 := Int.mul_neg_of_neg_of_pos (by omega) (by omega)
      have a2 : (q.2 - s.2) * (p.1 - s.1) ≤ 0 := Int.mul_nonpos_of_nonpos_of_nonneg (by omega) (by omega)
      rw [if_pos ⟨h2.1, h2.2, (side_neg ..).2 (by omega)⟩, if_neg (by omega), if_pos h2.2]
      omega
    · rw [if_neg (fun h => h2 ⟨h.1, h.2.1⟩)]
      split <;> split <;> omega
theorem wfold_left (s : Pt) (l : List Pt) : (∀ q ∈ l, s.1 < q.1) → ∀ st : Pt × Int, s.1 < st.1.1 → (l.foldl (wstep s) st).2 = st.2 + upB s (l.foldl (wstep s) st).1 - upB s st.1 := by
  induction l with
  | nil => intro _ st _; simp only [List.foldl_nil]; omega
  | cons q l ih =>
    intro hl st hs
    have hq := hl q (List.mem_cons_self ..)
    rw [List.foldl_cons, ih (fun x hx => hl x (List.mem_cons_of_mem _ hx)) _ hq]
    unfold wstep
    simp only
    rw [cnt_left _ _ _ hs hq]
    omega
theorem wfold_last (s : Pt) (l : List Pt) : ∀ st : Pt × Int, ∀ p, l.getLast? = some p → (l.foldl (wstep s) st).1 = p := by
  induction l with
  | nil => intro st p h; cases h
  | cons q l ih =>
    intro st p h
    rw [List.foldl_cons]
    cases l with
    | nil => simp only [List.getLast?_singleton, Option.some.injEq] at h; exact h
    | cons r l => exact ih _ p (by rwa [List.getLast?_cons_cons] at h)
theorem winds_left (s : Pt) (l : List Pt) (hl : ∀ q ∈ l, s.1 < q.1) : windsI l s = 0 := by
  unfold windsI
  split
  · rfl
  · next p hp =>
    rw [wfold_left s l hl _ (hl p (List.mem_of_getLast? hp)), wfold_last s l _ p hp]
    simp only
    omega
/-! The samples of a part, row by row: what is added to them, from the left up to one. -/
theorem sum_append (l m : List Int) : (l ++ m).sum = l.sum + m.sum := by
  induction l with
  | nil => simp
  | cons a l ih => simp only [List.cons_append, List.sum_cons, ih]; omega
theorem sum_set (L : List Int) : ∀ (a b j : Nat) (n v : Int), L[j]? = some v → (((L.set j (v + n)).drop a).take b).sum = ((L.drop a).take b).sum + (if a ≤ j ∧ j < a + b then n else 0) := by
  induction L with
  | nil => intro a b j n v h; simp at h
  | cons x L ih =>
    intro a b j n v h
    cases j with
    | zero =>
      simp only [List.getElem?_cons_zero, Option.some.injEq] at h
      subst h
      cases a with
      | zero =>
        cases b with
        | zero => simp
        | succ b => rw [if_pos ⟨Nat.le_refl _, by omega⟩]; simp only [List.set_cons_zero, List.drop_zero, List.take_succ_cons, List.sum_cons]; omega
      | succ a => rw [if_neg (by omega)]; simp
    | succ j =>
      rw [List.getElem?_cons_succ] at h
      cases a with
      | zero =>
        cases b with
        | zero => simp
        | succ b =>
          have h2 := ih 0 b j n v h
          simp only [List.drop_zero] at h2
          simp only [List.set_cons_succ, List.drop_zero, List.take_succ_cons, List.sum_cons, h2]
          by_cases hc : j < b
          · rw [if_pos ⟨by omega, by omega⟩, if_pos ⟨by omega, by omega⟩]; omega
          · rw [if_neg (by omega), if_neg (by omega)]; omega
      | succ a =>
        have h2 := ih a b j n v h
        simp only [List.set_cons_succ, List.drop_succ_cons, h2]
        by_cases hc : a ≤ j ∧ j < a + b
        · rw [if_pos hc, if_pos ⟨by omega, by omega⟩]
        · rw [if_neg hc, if_neg (by omega)]
/-- What the numbers of the row r from the k-th on come to. -/
def suf (L : List Int) (cols r k : Nat) : Int := ((L.drop (r * cols + k)).take (cols - k)).sum
theorem at_iff {cols r k r0 c0 : Nat} (hk : k ≤ cols) (hc : c0 < cols) : (r * cols + k ≤ r0 * cols + c0 ∧ r0 * cols + c0 < r * cols + k + (cols - k)) ↔ (r = r0 ∧ k ≤ c0) := by
  constructor
  · rintro ⟨h1, h2⟩
    rcases Nat.lt_trichotomy r r0 with h | h | h
    · have := Nat.mul_le_mul_right cols (show r + 1 ≤ r0 from h)
      rw [Nat.succ_mul] at this
      omega
    · subst h; exact ⟨rfl, by omega⟩
    · have := Nat.mul_le_mul_right cols (show r0 + 1 ≤ r from h)
      rw [Nat.succ_mul] at this
      omega
  · rintro ⟨rfl, h⟩
    omega
theorem suf_set (L : List Int) (cols r k r0 c0 : Nat) (n v : Int) (hk : k ≤ cols) (hc : c0 < cols) (hv : L[r0 * cols + c0]? = some v) :
    suf (L.set (r0 * cols + c0) (v + n)) cols r k = suf L cols r k + (if r = r0 ∧ k ≤ c0 then n else 0) := by
  unfold suf
  rw [sum_set L _ _ _ n v hv]
  by_cases h : r = r0 ∧ k ≤ c0
  · rw [if_pos h, if_pos ((at_iff hk hc).2 h)]
  · rw [if_neg h, if_neg (fun h2 => h ((at_iff hk hc).1 h2))]
theorem suf_cons (L : List Int) (cols r k : Nat) (v : Int) (hk : k < cols) (hv : L[r * cols + k]? = some v) : suf L cols r k = suf L cols r (k + 1) + v := by
  unfold suf
  have hlt := (List.getElem?_eq_some_iff.1 hv).1
  have e : L.drop (r * cols + k) = v :: L.drop (r * cols + (k + 1)) := by
    rw [List.drop_eq_getElem_cons hlt]
    congr 1
    exact (List.getElem?_eq_some_iff.1 hv).2
  rw [e, show cols - k = (cols - (k + 1)) + 1 by omega, List.take_succ_cons, List.sum_cons]
  omega
theorem suf_end (L : List Int) (cols r : Nat) : suf L cols r cols = 0 := by unfold suf; simp
theorem suf_zero (n cols r k : Nat) : suf (List.replicate n (0 : Int)) cols r k = 0 := by
  unfold suf
  have : ∀ (l : List Int), (∀ x ∈ l, x = 0) → l.sum = 0 := fun l => by
    induction l with
    | nil => intro _; rfl
    | cons a l ih => intro h; rw [List.sum_cons, h a (List.mem_cons_self ..), ih (fun x hx => h x (List.mem_cons_of_mem _ hx))]; rfl
  apply this
  intro x hx
  exact List.eq_of_mem_replicate (List.mem_of_mem_drop (List.mem_of_mem_take hx))
/-! How often polygons go round a point; the rules; how much of a pixel is covered. -/
def timesI (P : List (List Pt)) (s : Pt) : Int := P.foldl (fun n l => n + windsI l s) 0
def ruleB (rule : Int) : Bool := decide (rule = 1) || decide (rule = 2)
def inI (rule n : Int) : Bool := (decide (rule = 1) && decide (n ≠ 0)) || (decide (rule = 2) && decide (n % 2 ≠ 0))
def insideI (P : List (List Pt)) (rule : Int) (s : Pt) : Bool := inI rule (timesI P s)
/-- The i-th sample of a pixel. -/
def sampP (x y : Int) (i : Nat) : Pt := (256 * x + 32 + 64 * ((i % 4 : Nat) : Int), 256 * y + 32 + 64 * ((i / 4 : Nat) : Int))
def countI (P : List (List Pt)) (rule x y : Int) : Nat := (List.range 16).countP fun i => insideI P rule (sampP x y i)
theorem count_le (P : List (List Pt)) (rule x y : Int) : countI P rule x y ≤ 16 := by
  unfold countI
  have := List.countP_le_length (p := fun i => insideI P rule (sampP x y i)) (l := List.range 16)
  simpa using this
/-- One sample more. -/
theorem count_one {l : List Nat} {p q : Nat → Bool} {i0 : Nat} (hn : l.Nodup) (hi : i0 ∈ l) (hpq : ∀ i ∈ l, i ≠ i0 → p i = q i) (hp : p i0 = false) (hq : q i0 = true) : l.countP q = l.countP p + 1 := by
  induction l with
  | nil => cases hi
  | cons a l ih =>
    rw [List.nodup_cons] at hn
    rcases List.mem_cons.1 hi with rfl | h
    · rw [List.countP_cons_of_pos hq, List.countP_cons_of_neg (by simp [hp])]
      congr 1
      refine List.countP_congr fun x hx => ?_
      rw [hpq x (List.mem_cons_of_mem _ hx) (fun e => hn.1 (e ▸ hx))]
    · have hne : a ≠ i0 := fun e => hn.1 (e ▸ h)
      have e := hpq a (List.mem_cons_self ..) hne
      rw [List.countP_cons, List.countP_cons, ih hn.2 h (fun i hi => hpq i (List.mem_cons_of_mem _ hi)), e]
      omega
/-- What is known of a mask of W pixels across whose part begins at (ox, oy) and has so many samples each way: those are counted that stand in rows ahead of r, or in r from c on. -/
def doneB (W ox oy rows cols r c k i : Nat) : Bool :=
  decide (oy ≤ k / W) && decide (ox ≤ k % W) && decide (4 * (k / W - oy) + i / 4 < rows) && decide (4 * (k % W - ox) + i % 4 < cols) &&
    (decide (4 * (k / W - oy) + i / 4 < r) || (decide (4 * (k / W - oy) + i / 4 = r) && decide (c ≤ 4 * (k % W - ox) + i % 4)))
def cellD (ins : Nat → Nat → Bool) (W ox oy rows cols r c k : Nat) : Nat :=
  (List.range 16).countP fun i => doneB W ox oy rows cols r c k i && ins (4 * (k / W - oy) + i / 4) (4 * (k % W - ox) + i % 4)
def maskD (ins : Nat → Nat → Bool) (N W ox oy rows cols r c : Nat) : List Nat := (List.range N).map (cellD ins W ox oy rows cols r c)
theorem cellD_le (ins : Nat → Nat → Bool) (W ox oy rows cols r c k : Nat) : cellD ins W ox oy rows cols r c k ≤ 16 := by
  unfold cellD
  have := List.countP_le_length (p := fun i => doneB W ox oy rows cols r c k i && ins (4 * (k / W - oy) + i / 4) (4 * (k % W - ox) + i % 4)) (l := List.range 16)
  simpa using this
theorem cellD_congr {ins : Nat → Nat → Bool} {W ox oy rows cols r c r' c' k : Nat} (h : ∀ i, i < 16 → (doneB W ox oy rows cols r c k i = doneB W ox oy rows cols r' c' k i ∨ ins (4 * (k / W - oy) + i / 4) (4 * (k % W - ox) + i % 4) = false)) : cellD ins W ox oy rows cols r c k = cellD ins W ox oy rows cols r' c' k := by
  unfold cellD
  refine List.countP_congr fun i hi => ?_
  rcases h i (List.mem_range.1 hi) with h | h <;> rw [h]
  simp
theorem maskD_start (ins : Nat → Nat → Bool) (N W ox oy rows cols : Nat) : maskD ins N W ox oy rows cols 0 cols = List.replicate N 0 := by
  unfold maskD
  apply List.ext_getElem?
  intro k
  rw [List.getElem?_map, List.getElem?_replicate]
  by_cases hk : k < N
  · rw [List.getElem?_range hk, if_pos hk]
    simp only [Option.map_some, Option.some.injEq]
    unfold cellD
    rw [List.countP_eq_zero]
    intro i _
    unfold doneB
    simp
    omega
  · rw [if_neg hk, List.getElem?_eq_none (by simp; omega)]; rfl
theorem maskD_row (ins : Nat → Nat → Bool) (N W ox oy rows cols r : Nat) : maskD ins N W ox oy rows cols r 0 = maskD ins N W ox oy rows cols (r + 1) cols := by
  unfold maskD
  apply List.map_congr_left
  intro k _
  apply cellD_congr
  intro i _
  left
  unfold doneB
  rw [Bool.eq_iff_iff]
  simp
  omega
theorem div_add_mul (a b W : Nat) (h : b < W) : (a * W + b) / W = a ∧ (a * W + b) % W = b := by
  have hW : 0 < W := by omega
  constructor
  · rw [Nat.mul_comm, Nat.mul_add_div hW, Nat.div_eq_of_lt h]; rfl
  · rw [Nat.mul_comm, Nat.mul_add_mod, Nat.mod_eq_of_lt h]
/-- The next sample, which is inside: its pixel has one more. -/
theorem maskD_yes (ins : Nat → Nat → Bool) (N W ox oy rows cols r c : Nat) (hW : ox + c / 4 < W) (hr : r < rows) (hc : c < cols) (hins : ins r c = true) (hN : (oy + r / 4) * W + (ox + c / 4) < N) :
    maskD ins N W ox oy rows cols r c = (maskD ins N W ox oy rows cols r (c + 1)).set ((oy + r / 4) * W + (ox + c / 4)) (cellD ins W ox oy rows cols r (c + 1) ((oy + r / 4) * W + (ox + c / 4)) + 1) := by
  obtain ⟨d1, d2⟩ := div_add_mul (oy + r / 4) (ox + c / 4) W hW
  unfold maskD
  apply List.ext_getElem?
  intro k
  rw [List.getElem?_set]
  by_cases hk : k < N
  · by_cases e : (oy + r / 4) * W + (ox + c / 4) = k
    · rw [if_pos e, if_pos (by simp; omega), List.getElem?_map, List.getElem?_range hk]
      simp only [Option.map_some, Option.some.injEq]
      subst e
      unfold cellD
      refine count_one (i0 := 4 * (r % 4) + c % 4) List.nodup_range (List.mem_range.2 (by omega)) ?_ ?_ ?_
      · intro i hi hne
        have := List.mem_range.1 hi
        congr 1
        unfold doneB
        rw [d1, d2, Bool.eq_iff_iff]
        simp
        omega
      · unfold doneB
        rw [d1, d2]
        simp
        omega
      · have e1 : 4 * (oy + r / 4 - oy) + (4 * (r % 4) + c % 4) / 4 = r := by omega
        have e2 : 4 * (ox + c / 4 - ox) + (4 * (r % 4) + c % 4) % 4 = c := by omega
        unfold doneB
        rw [d1, d2, e1, e2, hins]
        simp
        omega
    · rw [if_neg e, List.getElem?_map, List.getElem?_map, List.getElem?_range hk]
      simp only [Option.map_some, Option.some.injEq]
      apply cellD_congr
      intro i hi
      left
      unfold doneB
      have hd := Nat.div_add_mod k W
      rw [Nat.mul_comm] at hd
      rw [Bool.eq_iff_iff]
      simp
      intro h1 h2 h3 h4
      have key : ¬ (4 * (k / W - oy) + i / 4 = r ∧ 4 * (k % W - ox) + i % 4 = c) := by
        rintro ⟨k1, k2⟩
        apply e
        rw [← hd]
        congr 1
        · congr 1; omega
        · omega
      omega
  · rw [List.getElem?_eq_none (by simp; omega)]
    by_cases e : (oy + r / 4) * W + (ox + c / 4) = k
    · omega
    · rw [if_neg e, List.getElem?_eq_none (by simp; omega)]
/-- One that is not inside. -/
theorem maskD_no (ins : Nat → Nat → Bool) (N W ox oy rows cols r c : Nat) (hins : ins r c = false) :
    maskD ins N W ox oy rows cols r c = maskD ins N W ox oy rows cols r (c + 1) := by
  unfold maskD
  apply List.map_congr_left
  intro k _
  apply cellD_congr
  intro i _
  by_cases h : 4 * (k / W - oy) + i / 4 = r ∧ 4 * (k % W - ox) + i % 4 = c
  · right; rw [h.1, h.2]; exact hins
  · left
    unfold doneB
    rw [Bool.eq_iff_iff]
    simp
    omega
/-! What lies outside of the pixels of the bound is not covered; the whole mask. -/
def hasP (b : Bx) (q : Pt) : Prop := b.x0 ≤ q.1 ∧ q.1 < b.x1 ∧ b.y0 ≤ q.2 ∧ q.2 < b.y1
theorem empty_iff (b : Bx) : emptyI b = true ↔ b.x1 ≤ b.x0 ∨ b.y1 ≤ b.y0 := by unfold emptyI; simp
theorem join_has1 {a b : Bx} {q : Pt} (h : hasP a q) : hasP (joinI a b) q := by
  unfold joinI
  have ha : ¬ emptyI a = true := by rw [empty_iff]; unfold hasP at h; omega
  rw [if_neg ha]
  split
  · exact h
  · unfold hasP join0 at *; simp only; omega
theorem join_has2 {a b : Bx} {q : Pt} (h : hasP b q) : hasP (joinI a b) q := by
  unfold joinI
  have hb : ¬ emptyI b = true := by rw [empty_iff]; unfold hasP at h; omega
  rw [if_neg hb, if_neg hb]
  split
  · exact h
  · unfold hasP join0 at *; simp only; omega
theorem fold_has (l : List Pt) : ∀ (b : Bx) (q : Pt), hasP b q ∨ q ∈ l → hasP (l.foldl bstep b) q := by
  induction l with
  | nil => rintro b q (h | h); exact h; cases h
  | cons p l ih =>
    intro b q h
    rw [List.foldl_cons]
    apply ih
    rcases h with h | h
    · exact .inl (join_has1 h)
    · rcases List.mem_cons.1 h with rfl | h
      · left; unfold bstep; apply join_has2; unfold hasP ptBox; simp only; omega
      · exact .inr h
def boundP (P : List (List Pt)) : Bx := P.foldl (fun b l => joinI b (boundI l)) ⟨0, 0, 0, 0⟩
theorem foldP_has (P : List (List Pt)) : ∀ (b : Bx) (q : Pt), (hasP b q ∨ ∃ l ∈ P, q ∈ l) → hasP (P.foldl (fun b l => joinI b (boundI l)) b) q := by
  induction P with
  | nil => rintro b q (h | ⟨l, h, _⟩); exact h; cases h
  | cons p P ih =>
    intro b q h
    rw [List.foldl_cons]
    apply ih
    rcases h with h | ⟨l, hl, h⟩
    · exact .inl (join_has1 h)
    · rcases List.mem_cons.1 hl with rfl | hl
      · exact .inl (join_has2 (fold_has _ _ _ (.inr h)))
      · exact .inr ⟨l, hl, h⟩
theorem boundP_has {P : List (List Pt)} {l : List Pt} {q : Pt} (hl : l ∈ P) (hq : q ∈ l) : hasP (boundP P) q := foldP_has P _ _ (.inr ⟨l, hl, hq⟩)
/-- The pixels of a box. -/
def aroundI (b : Bx) : Bx := ⟨b.x0 / 256, b.y0 / 256, cei b.x1, cei b.y1⟩
theorem winds_out (b : Bx) (l : List Pt) (hl : ∀ q ∈ l, hasP b q) (x y : Int) (hxy : ¬ hasP (aroundI b) (x, y)) (i : Nat) (hi : i < 16) : windsI l (sampP x y i) = 0 := by
  unfold hasP aroundI cei at hxy
  simp only at hxy
  by_cases h1 : y < b.y0 / 256
  · exact winds_above _ _ fun q hq => by have := hl q hq; unfold hasP at this; unfold sampP; simp only; omega
  by_cases h2 : -((-b.y1) / 256) ≤ y
  · exact winds_below _ _ fun q hq => by have := hl q hq; unfold hasP at this; unfold sampP; simp only; omega
  by_cases h3 : x < b.x0 / 256
  · exact winds_left _ _ fun q hq => by have := hl q hq; unfold hasP at this; unfold sampP; simp only; omega
  · exact winds_right _ _ fun q hq => by have := hl q hq; unfold hasP at this; unfold sampP; simp only; omega
theorem times_zero (P : List (List Pt)) (s : Pt) (h : ∀ l ∈ P, windsI l s = 0) : timesI P s = 0 := by
  unfold timesI
  have key : ∀ (P : List (List Pt)) (n : Int), (∀ l ∈ P, windsI l s = 0) → P.foldl (fun n l => n + windsI l s) n = n := fun P => by
    induction P with
    | nil => intro n _; rfl
    | cons l P ih =>
      intro n h
      rw [List.foldl_cons, ih _ (fun x hx => h x (List.mem_cons_of_mem _ hx)), h l (List.mem_cons_self ..)]
      omega
  exact key P 0 h
theorem inI_zero (rule : Int) : inI rule 0 = false := by unfold inI; simp
theorem count_out (P : List (List Pt)) (rule x y : Int) (hxy : ¬ hasP (aroundI (boundP P)) (x, y)) : countI P rule x y = 0 := by
  unfold countI
  rw [List.countP_eq_zero]
  intro i hi
  unfold insideI
  rw [times_zero P _ (fun l hl => winds_out (boundP P) l (fun q hq => boundP_has hl hq) x y hxy i (List.mem_range.1 hi)), inI_zero]
  decide
def partI (P : List (List Pt)) (w : Bx) : Bx := meetI (aroundI (boundP P)) w
theorem meet_has {a w : Bx} {q : Pt} (h : hasP w q) (hm : ¬ hasP (meetI a w) q) : ¬ hasP a q := fun ha => by
  apply hm
  unfold meetI
  rw [if_neg]
  · unfold hasP meet0 at *; simp only; omega
  · rw [empty_iff]; unfold hasP meet0 at *; simp only; omega
/-- The part of a window that may be covered lies in it. -/
theorem part_in (P : List (List Pt)) (w : Bx) : partI P w = ⟨0, 0, 0, 0⟩ ∨ (w.x0 ≤ (partI P w).x0 ∧ (partI P w).x0 < (partI P w).x1 ∧ (partI P w).x1 ≤ w.x1 ∧ w.y0 ≤ (partI P w).y0 ∧ (partI P w).y0 < (partI P w).y1 ∧ (partI P w).y1 ≤ w.y1) := by
  unfold partI meetI
  split
  · exact .inl rfl
  · next h =>
    right
    rw [empty_iff] at h
    unfold meet0 at h ⊢
    simp only at h ⊢
    omega
def acrossI (w : Bx) : Nat := (w.x1 - w.x0).toNat
def downI (w : Bx) : Nat := (w.y1 - w.y0).toNat
/-- How much of each pixel of a window is covered. -/
def maskI (P : List (List Pt)) (rule : Int) (w : Bx) : List Nat := (List.range (acrossI w * downI w)).map fun k => countI P rule (w.x0 + ((k % acrossI w : Nat) : Int)) (w.y0 + ((k / acrossI w : Nat) : Int))
theorem maskI_length (P : List (List Pt)) (rule : Int) (w : Bx) : (maskI P rule w).length = acrossI w * downI w := by unfold maskI; simp
/-- The samples of a part that are inside. -/
def insI (P : List (List Pt)) (rule : Int) (p : Bx) (r c : Nat) : Bool := insideI P rule (p.x0 * 256 + 32 + 64 * (c : Int), p.y0 * 256 + 32 + 64 * (r : Int))
theorem mask_final (P : List (List Pt)) (rule : Int) (w p : Bx) (hp : partI P w = p) (ox oy rows cols : Nat)
    (h : (rows = 0 ∧ cols = 0 ∧ p = ⟨0, 0, 0, 0⟩) ∨ (p.x0 = w.x0 + (ox : Int) ∧ p.y0 = w.y0 + (oy : Int) ∧ (rows : Int) = 4 * (p.y1 - p.y0) ∧ (cols : Int) = 4 * (p.x1 - p.x0))) :
    maskD (insI P rule p) (acrossI w * downI w) (acrossI w) ox oy rows cols rows cols = maskI P rule w := by
  unfold maskD maskI
  apply List.map_congr_left
  intro k hk
  have hk := List.mem_range.1 hk
  have hW : 0 < acrossI w := by
    rcases Nat.eq_zero_or_pos (acrossI w) with e | e
    · rw [e] at hk; omega
    · exact e
  have hx : k % acrossI w < acrossI w := Nat.mod_lt _ hW
  have hy : k / acrossI w < downI w := (Nat.div_lt_iff_lt_mul hW).2 (by rw [Nat.mul_comm]; exact hk)
  have hw : hasP w (w.x0 + ((k % acrossI w : Nat) : Int), w.y0 + ((k / acrossI w : Nat) : Int)) := by
    have e1 : acrossI w = (w.x1 - w.x0).toNat := rfl
    have e2 : downI w = (w.y1 - w.y0).toNat := rfl
    unfold hasP
    simp only
    generalize k % acrossI w = a at *
    generalize k / acrossI w = b at *
    omega
  generalize hkx : k % acrossI w = kx at *
  generalize hky : k / acrossI w = ky at *
  by_cases hin : hasP p (w.x0 + (kx : Int), w.y0 + (ky : Int))
  · unfold cellD countI
    apply List.countP_congr
    intro i hi
    have hi := List.mem_range.1 hi
    rcases h with ⟨_, _, e⟩ | ⟨h1, h2, h3, h4⟩
    · rw [e] at hin; unfold hasP at hin; simp only at hin; omega
    unfold hasP at hin
    simp only at hin
    have hd : doneB (acrossI w) ox oy rows cols rows cols k i = true := by
      unfold doneB
      rw [hky, hkx]
      simp
      omega
    rw [hd, Bool.true_and, hky, hkx]
    unfold insI sampP
    have e1 : p.x0 * 256 + 32 + 64 * ((4 * (kx - ox) + i % 4 : Nat) : Int) = 256 * (w.x0 + (kx : Int)) + 32 + 64 * ((i % 4 : Nat) : Int) := by omega
    have e2 : p.y0 * 256 + 32 + 64 * ((4 * (ky - oy) + i / 4 : Nat) : Int) = 256 * (w.y0 + (ky : Int)) + 32 + 64 * ((i / 4 : Nat) : Int) := by omega
    rw [e1, e2]
  · rw [count_out P rule _ _ (meet_has hw (by rw [show meetI (aroundI (boundP P)) w = p from hp]; exact hin))]
    unfold cellD
    rw [List.countP_eq_zero]
    intro i hi
    have hi := List.mem_range.1 hi
    have hd : doneB (acrossI w) ox oy rows cols rows cols k i = false := by
      rcases h with ⟨h1, _, _⟩ | ⟨h1, h2, h3, h4⟩
      · unfold doneB; rw [h1]; simp
      · unfold hasP at hin
        simp only at hin
        unfold doneB
        rw [hky, hkx]
        simp
        omega
    rw [hd]
    simp
end Go.Proofs.Ytopngjpgikpmaaa
