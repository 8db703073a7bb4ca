/- Layer 9: bounds of pieces; whether a pattern draws at its beginning. -/
import Derived.Test.YtclkkdhfdoidfaaDi
import Derived.Test.YtclkkdhfdoidfaaBox
namespace Go.Proofs.Ytclkkdhfdoidfaa
open Go.RowKit
theorem has_c (b : Bx) (x y : Int) (w : World) : Calls Try.prog 30 #[.agg #[.int .i64 b.x0, .int .i64 b.y0, .int .i64 b.x1, .int .i64 b.y1], .agg #[.int .i64 x, .int .i64 y]] w fun e w' => e = .returned (.bool (hasI b x y)) ∧ Below w.heap.size w w' := by
  obtain ⟨x0, y0, x1, y1⟩ := b
  unfold hasI
  have H : ∀ r : Bool, r = (decide (x0 ≤ x) && decide (x < x1) && decide (y0 ≤ y) && decide (y < y1)) → Calls Try.prog 30 #[.agg #[.int .i64 x0, .int .i64 y0, .int .i64 x1, .int .i64 y1], .agg #[.int .i64 x, .int .i64 y]] w fun e w' => e = .returned (.bool r) ∧ Below w.heap.size w w' := by
    intro r hr
    have HR := Lib.hid hr
    clear hr
    by_cases h1 : x0 ≤ x
    · by_cases h2 : x < x1
      · by_cases h3 : y0 ≤ y
        · go_enter Try.func30, Try.ntmps30
          go_wp2_with fail
          go_ret
          exact ⟨by rw [HR.out]; simp [h1, h2, h3], by go_grown⟩
        · go_enter Try.func30, Try.ntmps30
          go_wp2_with fail
          go_ret
          exact ⟨by rw [HR.out]; simp; omega, by go_grown⟩
      · go_enter Try.func30, Try.ntmps30
        go_wp2_with fail
        go_ret
        exact ⟨by rw [HR.out]; simp; omega, by go_grown⟩
    · go_enter Try.func30, Try.ntmps30
      go_wp2_with fail
      go_ret
      exact ⟨by rw [HR.out]; simp; omega, by go_grown⟩
  exact H _ rfl
/-- A box in memory. -/
theorem bound_append (l : List Pt) (p : Pt) : boundI (l ++ [p]) = joinI (boundI l) (ptBox p) := by
  unfold boundI; rw [List.foldl_append]; rfl
/-- It has each of them, and each side has one. -/
structure Tight (B : Bx) (l : List Pt) : Prop where
  has : ∀ p ∈ l, B.x0 ≤ p.1 ∧ p.1 < B.x1 ∧ B.y0 ≤ p.2 ∧ p.2 < B.y1
  s0 : ∃ p ∈ l, p.1 = B.x0
  s1 : ∃ p ∈ l, p.2 = B.y0
  s2 : ∃ p ∈ l, p.1 = B.x1 - 1
  s3 : ∃ p ∈ l, p.2 = B.y1 - 1
theorem tight_one (p : Pt) : Tight (ptBox p) [p] := by
  refine ⟨fun q hq => ?_, ⟨p, by simp, rfl⟩, ⟨p, by simp, rfl⟩, ⟨p, by simp, by simp [ptBox]⟩, ⟨p, by simp, by simp [ptBox]⟩⟩
  obtain rfl : q = p := by simpa using hq
  simp only [ptBox]; omega
theorem tight_full {B : Bx} {l : List Pt} (h : Tight B l) : emptyI B = false := by
  obtain ⟨p, hp, _⟩ := h.s0
  have := h.has p hp
  simp [emptyI]; omega
theorem pt_full (p : Pt) : emptyI (ptBox p) = false := by simp [emptyI, ptBox]; omega
theorem tight_next {B : Bx} {l : List Pt} (h : Tight B l) (p : Pt) : Tight (joinI B (ptBox p)) (l ++ [p]) := by
  have e : joinI B (ptBox p) = join0 B (ptBox p) := by unfold joinI; rw [tight_full h, pt_full]; simp
  rw [e]
  have pick : ∀ (f : Pt → Int) (a b : Int), (∃ q ∈ l, f q = a) → f p = b → ∀ m, (m = a ∨ m = b) → ∃ q ∈ l ++ [p], f q = m := by
    intro f a b ⟨q, hq, hqa⟩ hb m hm
    rcases hm with rfl | rfl
    · exact ⟨q, by simp [hq], hqa⟩
    · exact ⟨p, by simp, hb⟩
  refine ⟨fun q hq => ?_, pick (·.1) B.x0 p.1 h.s0 rfl _ ?_, pick (·.2) B.y0 p.2 h.s1 rfl _ ?_, pick (·.1) (B.x1 - 1) p.1 h.s2 rfl _ ?_, pick (·.2) (B.y1 - 1) p.2 h.s3 rfl _ ?_⟩
  · rw [List.mem_append] at hq
    simp only [join0, ptBox]
    rcases hq with hq | hq
    · have := h.has q hq; omega
    · obtain rfl : q = p := by simpa using hq
      omega
  all_goals (simp only [join0, ptBox]; omega)
theorem tight_bound (l : List Pt) (hl : l ≠ []) : Tight (boundI l) l := by
  obtain ⟨r, hr⟩ : ∃ r, r = l.reverse := ⟨_, rfl⟩
  have key : ∀ r : List Pt, r ≠ [] → Tight (boundI r.reverse) r.reverse := by
    intro r
    induction r with
    | nil => intro h; exact absurd rfl h
    | cons p r ih =>
      intro _
      rw [List.reverse_cons, bound_append]
      by_cases h : r = []
      · subst h
        have e : joinI (boundI ([] : List Pt).reverse) (ptBox p) = ptBox p := by
          unfold joinI
          rw [show emptyI (boundI ([] : List Pt).reverse) = true from rfl, pt_full]; simp
        rw [e]
        exact tight_one p
      · exact tight_next (ih h) p
  have := key l.reverse (by simpa using hl)
  rwa [List.reverse_reverse] at this
theorem tight_hasI {B : Bx} {l : List Pt} (h : Tight B l) {p : Pt} (hp : p ∈ l) : hasI B p.1 p.2 = true := by
  have := h.has p hp
  simp [hasI]; omega
theorem qI_mid {t x n : Int} (h0 : 0 ≤ t) (h1 : t ≤ n) (hn : 1 ≤ n) : (0 ≤ x → 0 ≤ qI (t * x) n ∧ qI (t * x) n ≤ x) ∧ (x ≤ 0 → x ≤ qI (t * x) n ∧ qI (t * x) n ≤ 0) := by
  unfold qI
  constructor
  · intro hx
    have m1 := Int.mul_le_mul_of_nonneg_right h1 hx
    have m2 := Int.mul_nonneg h0 hx
    refine ⟨(Int.le_ediv_iff_mul_le (by omega)).2 (by omega), ?_⟩
    apply Int.lt_add_one_iff.1
    apply Int.ediv_lt_of_lt_mul (by omega)
    have e : (x + 1) * (2 * n) = 2 * (n * x) + 2 * n := by rw [Int.add_mul, Int.one_mul, Int.mul_left_comm, Int.mul_comm x n]
    omega
  · intro hx
    have m1 := Int.mul_le_mul_of_nonpos_right h1 hx
    have m2 := Int.mul_nonpos_of_nonneg_of_nonpos h0 hx
    refine ⟨(Int.le_ediv_iff_mul_le (by omega)).2 ?_, ?_⟩
    · have e : x * (2 * n) = 2 * (n * x) := by rw [Int.mul_left_comm, Int.mul_comm x n]
      omega
    · apply Int.lt_add_one_iff.1
      exact Int.ediv_lt_of_lt_mul (by omega) (by omega)
theorem on_has {B : Bx} {a b : Pt} {t n : Int} (ha : hasI B a.1 a.2 = true) (hb : hasI B b.1 b.2 = true) (h0 : 0 ≤ t) (h1 : t ≤ n) (hn : 1 ≤ n) : hasI B (onP a b t n).1 (onP a b t n).2 = true := by
  have qx := qI_mid (x := b.1 - a.1) h0 h1 hn
  have qy := qI_mid (x := b.2 - a.2) h0 h1 hn
  unfold hasI at *
  simp only [Bool.and_eq_true, decide_eq_true_eq] at *
  unfold onP
  have ex : (0 ≤ b.1 - a.1) ∨ (b.1 - a.1 ≤ 0) := by omega
  have ey : (0 ≤ b.2 - a.2) ∨ (b.2 - a.2 ≤ 0) := by omega
  generalize qI (t * (b.1 - a.1)) n = u at *
  generalize qI (t * (b.2 - a.2)) n = v at *
  simp only
  rcases ex with e | e
  · have hu := qx.1 e
    rcases ey with f | f
    · have hv := qy.1 f; omega
    · have hv := qy.2 f; omega
  · have hu := qx.2 e
    rcases ey with f | f
    · have hv := qy.1 f; omega
    · have hv := qy.2 f; omega
theorem place_has {B : Bx} {W : List Pt} (hW : Way W) (hB : ∀ p ∈ W, hasI B p.1 p.2 = true) {d : Int} (h0 : 0 ≤ d) (h1 : d < endsI W (W.length - 1)) : hasI B (placeI W d).1 (placeI W d).2 = true := by
  obtain ⟨i, hi, h2, h3⟩ := line_of (W.length - 1) d h0 h1
  rw [placeI_eq hW (i := i) (by omega) h2 h3]
  have he : endsI W (i + 1) = endsI W i + lenW W i := rfl
  exact on_has (hB _ (List.mem_of_getElem? (at0_some (by omega)))) (hB _ (List.mem_of_getElem? (at0_some (by omega)))) (by omega) (by omega) (hW i (by omega))
theorem whole_has {S : Nat → Int} {B : Bx} {W : List Pt} {k : Nat} (hne : 0 < W.length) (hW : Way W) (hB : ∀ p ∈ W, hasI B p.1 p.2 = true) (hk : S k < allI W) (hk1 : 0 < S (k + 1)) : ∀ q ∈ wholeI S W k, hasI B q.1 q.2 = true := by
  intro q hq
  have hat : ∀ j, j < W.length → hasI B (at0 W j).1 (at0 W j).2 = true := fun j hj => hB _ (List.mem_of_getElem? (at0_some hj))
  unfold wholeI at hq
  rcases List.mem_cons.1 hq with rfl | hq
  · unfold firstI
    split
    · exact hat 0 hne
    · exact place_has hW hB (by omega) (by unfold allI at hk; omega)
  · rcases List.mem_append.1 hq with hq | hq
    · obtain ⟨j, hj, rfl⟩ := List.mem_map.1 hq
      have := List.mem_range.1 (List.mem_filter.1 hj).1
      exact hat (j + 1) (by omega)
    · by_cases h : S (k + 1) < endsI W (W.length - 1)
      · rw [if_pos h] at hq
        obtain rfl := List.mem_singleton.1 hq
        exact place_has hW hB (by omega) h
      · rw [if_neg h] at hq; cases hq
theorem pieces_has {S : Nat → Int} {B : Bx} {W : List Pt} (hg : Grows S) (hne : 0 < W.length) (hW : Way W) (hB : ∀ p ∈ W, hasI B p.1 p.2 = true) : ∀ x ∈ piecesI S W, x ≠ [] ∧ ∀ q ∈ x, hasI B q.1 q.2 = true := by
  obtain ⟨K, hK⟩ := isEnd_some W hg
  rw [piecesI_eq hK]
  intro x hx
  unfold doneI at hx
  obtain ⟨k, hk, rfl⟩ := List.mem_map.1 hx
  have h1 := List.mem_filter.1 hk
  have h2 : 0 < S (k + 1) := by have := h1.2; unfold drawnB at this; simp at this; exact this.2
  exact ⟨by unfold wholeI; simp, whole_has hne hW hB (hK.1 k (List.mem_range.1 h1.1)) h2⟩
theorem doneI_pre {S : Nat → Int} {W : List Pt} {J : Nat} : ∀ K, J ≤ K → ∃ r, doneI S W K = doneI S W J ++ r
  | 0, h => ⟨[], by obtain rfl : J = 0 := by omega
                    simp⟩
  | K + 1, h => by
    rcases Nat.lt_or_ge K J with h1 | h1
    · obtain rfl : J = K + 1 := by omega
      exact ⟨[], by simp⟩
    · obtain ⟨r, hr⟩ := doneI_pre (S := S) (W := W) K h1
      exact ⟨r ++ _, by rw [doneI_succ, hr, List.append_assoc]⟩
/-- The length that a way begins in. -/
structure First (S : Nat → Int) (k : Nat) : Prop where
  le : S k ≤ 0
  pos : 0 < S (k + 1)
  ahead : ∀ j, j < k → S (j + 1) ≤ 0
theorem pieces_first {S : Nat → Int} {W : List Pt} {k : Nat} (hg : Grows S) (h : First S k) (he : k % 2 = 0) : ∃ r, piecesI S W = wholeI S W k :: r := by
  obtain ⟨K, hK⟩ := isEnd_some W hg
  rw [piecesI_eq hK]
  have hk : k + 1 ≤ K := by
    rcases Nat.lt_or_ge K (k + 1) with h1 | h1
    · have h2 := grows_le hg k K (by omega)
      have h3 := hK.2
      have h4 := (show (1 : Int) ≤ allI W by unfold allI; omega)
      have := h.le
      omega
    · exact h1
  obtain ⟨r, hr⟩ := doneI_pre (S := S) (W := W) (J := k + 1) K hk
  refine ⟨r, ?_⟩
  rw [hr, doneI_succ, doneI_none k h.ahead, show drawnB S k = true by unfold drawnB; simp [he, h.pos]]
  rfl
theorem whole_first {S : Nat → Int} {W : List Pt} {k : Nat} (h : S k ≤ 0) : ∃ r, wholeI S W k = at0 W 0 :: r := by
  unfold wholeI firstI
  rw [if_pos h]
  exact ⟨_, rfl⟩
theorem compUp_first (l : List Pt) : ∀ k, 1 ≤ k → (compUp l k)[0]? = l[0]?
  | 0, h => by omega
  | k + 1, _ => by
    rcases Nat.eq_zero_or_pos k with rfl | h
    · cases l with
      | nil => rfl
      | cons a l => rfl
    · have ih := compUp_first l k h
      rw [compUp]
      cases hl : l with
      | nil =>
        have : compUp ([] : List Pt) k = [] := List.eq_nil_iff_forall_not_mem.2 fun p hp => by have := compUp_mem [] k p hp; cases this
        rw [this]; split <;> simp
      | cons a t =>
        rw [hl] at ih
        have hc : 0 < (compUp (a :: t) k).length := by
          rcases Nat.eq_zero_or_pos (compUp (a :: t) k).length with h0 | h0
          · rw [List.eq_nil_of_length_eq_zero h0] at ih; simp at ih
          · exact h0
        rw [List.getElem?_append_left hc]
        exact ih
theorem way_first {l : List Pt} {cl : Bool} (h : l ≠ []) : (wayI l cl)[0]? = l[0]? := by
  have h0 := compUp_first l l.length (List.length_pos_iff.2 h)
  unfold wayI wayF
  split
  · have hc : 0 < (compI l).length := by
      rcases Nat.eq_zero_or_pos (compI l).length with e | e
      · unfold compI at e
        rw [List.eq_nil_of_length_eq_zero e] at h0
        cases l with
        | nil => exact absurd rfl h
        | cons a t => simp at h0
      · exact e
    rw [List.getElem?_append_left hc]
    exact h0
  · exact h0
theorem wayI_nil_iff {l : List Pt} {cl : Bool} : wayI l cl = [] ↔ l = [] := by
  constructor
  · intro h
    cases hl : l with
    | nil => rfl
    | cons a t =>
      have := way_first (l := l) (cl := cl) (by rw [hl]; simp)
      rw [h, hl] at this
      simp at this
  · rintro rfl
    unfold wayI wayF compI
    simp [compUp]
/-- What the statement on bounds asks of an answer. -/
theorem dash_bounds {l : List Pt} {cl : Bool} {L : List Int} {phase : Int} (he : (dashO l cl L phase).1 = 0) : l.all roomP = true ∧ rightI L phase = true ∧ ∀ x ∈ (dashO l cl L phase).2, x.1 ≠ [] ∧ ∀ q ∈ x.1, hasI (boundI l) q.1 q.2 = true := by
  unfold dashO at he ⊢
  by_cases hr : rightI L phase = true
  · rw [if_pos hr] at he ⊢
    by_cases hz : (wayO l cl).1 = 0
    · rw [if_pos hz] at he ⊢
      have hroom : l.all roomP = true := by
        cases h : l.all roomP with
        | true => rfl
        | false => unfold wayO at hz; rw [h] at hz; simp at hz
      have hlong : longB (wayI l cl) = false := by
        cases h : longB (wayI l cl) with
        | false => rfl
        | true => unfold wayO toldW at hz; rw [hroom, if_pos rfl, h] at hz; simp at hz
      refine ⟨hroom, hr, ?_⟩
      unfold dashW at he ⊢
      by_cases hW : wayI l cl = []
      · rw [if_pos hW]; intro x hx; cases hx
      · rw [if_neg hW] at he ⊢
        have hl : l ≠ [] := fun e => hW (wayI_nil_iff.2 e)
        have hT := tight_bound l hl
        by_cases hL : L = []
        · rw [if_pos hL]
          intro x hx
          obtain rfl := List.mem_singleton.1 hx
          exact ⟨hl, fun q hq => tight_hasI hT hq⟩
        · rw [if_neg hL] at he ⊢
          have hp : piecesO (patS L phase) (wayI l cl) = (0, piecesI (patS L phase) (wayI l cl)) := by
            unfold piecesO at he ⊢
            split
            · rename_i h; rw [if_pos h] at he; simp at he
            · rfl
          rw [hp]
          intro x hx
          obtain ⟨y, hy, rfl⟩ := List.mem_map.1 hx
          exact pieces_has (pat_grows hL hr) (List.length_pos_iff.2 hW) (way_ok hlong) (fun p hp => tight_hasI hT (wayI_mem hp)) y hy
    · rw [if_neg hz] at he; exact absurd he hz
  · rw [if_neg hr] at he; simp at he
theorem dash_first {l : List Pt} {cl : Bool} {L : List Int} {phase : Int} {k : Nat} (he : (dashO l cl L phase).1 = 0) (hl : l ≠ []) (hL : L ≠ []) (hk : First (patS L phase) k) (hev : k % 2 = 0) : ∃ r s, (dashO l cl L phase).2 = (at0 l 0 :: r, false) :: s := by
  have hr := (dash_bounds he).2.1
  have hW : wayI l cl ≠ [] := fun e => hl (wayI_nil_iff.1 e)
  have hz : (wayO l cl).1 = 0 := by
    unfold dashO at he
    rw [if_pos hr] at he
    by_cases hz : (wayO l cl).1 = 0
    · exact hz
    · rw [if_neg hz] at he; exact he
  unfold dashO at he ⊢
  rw [if_pos hr, if_pos hz] at he ⊢
  unfold dashW at he ⊢
  rw [if_neg hW, if_neg hL] at he ⊢
  have hp : piecesO (patS L phase) (wayI l cl) = (0, piecesI (patS L phase) (wayI l cl)) := by
    unfold piecesO at he ⊢
    split
    · rename_i h; rw [if_pos h] at he; simp at he
    · rfl
  rw [hp]
  obtain ⟨s, hs⟩ := pieces_first (W := wayI l cl) (pat_grows hL hr) hk hev
  obtain ⟨r, hr2⟩ := whole_first (W := wayI l cl) hk.le
  have h0 : at0 (wayI l cl) 0 = at0 l 0 := by unfold at0; rw [List.getD_eq_getElem?_getD, List.getD_eq_getElem?_getD, way_first hl]
  exact ⟨r, s.map fun l => (l, false), by simp only; rw [hs, hr2, h0]; rfl⟩
theorem first_unique {S : Nat → Int} {j k : Nat} (h : First S j) (k' : First S k) : j = k := by
  rcases Nat.lt_trichotomy j k with hl | he | hg
  · have := k'.ahead j hl; have := h.pos; omega
  · exact he
  · have := h.ahead k hg; have := k'.pos; omega
/-- drawn tells whether the length that the way begins in is drawn. -/
def DrawnP (S : Nat → Int) (w : World) (e : Ending) (w' : World) : Prop := ∃ k : Nat, First S k ∧ e = .returned (.bool (decide (k % 2 = 0))) ∧ Below w.heap.size w w'
set_option maxHeartbeats 4000000 in
set_option maxRecDepth 100000 in
theorem drawn_c (s : Value) (L : List Int) (phase : Int) (w : World) (row : RowI w s L) (hne : L ≠ []) (hr : rightI L phase = true) :
    Calls Try.prog 26 #[.agg #[s, .int .i64 phase]] w (DrawnP (patS L phase) w) := by
  have hr2 := hr
  unfold rightI at hr2
  rw [if_neg hne] at hr2
  simp only [Bool.and_eq_true, decide_eq_true_eq] at hr2
  obtain ⟨⟨⟨⟨r1, r2⟩, r3⟩, r4⟩, r5⟩ := hr2
  have hsum := sumI_bound r3 L.length
  rw [List.take_length] at hsum
  have HP : Hid (0 ≤ phase ∧ phase ≤ 9000000) := by unfold Hid; omega
  obtain ⟨w0, hw0⟩ : ∃ X, w.alloc (.cells #[s, .int .i64 phase] 24) = X := ⟨_, rfl⟩
  have M0 : Hid (Below w.heap.size w w0 ∧ Blk w0 w.heap.size 24 #[s, .int .i64 phase]) := by rw [← hw0]; exact ⟨(Below.refl _ _).alloc (Nat.le_refl _) _, Blk.new _ _ _⟩
  have HW0 := Lib.hid hw0
  have HR0 : Hid (∀ A, Below w.heap.size w A → RowI A s L) := fun A hA => row.on hA
  have h0 : 0 < L.length := List.length_pos_iff.2 hne
  have hgr : ∀ k, 1 ≤ L.getD (k % L.length) 0 ∧ L.getD (k % L.length) 0 ≤ 1048576 := fun k => by
    have hk : k % L.length < L.length := Nat.mod_lt _ h0
    have := List.all_eq_true.1 r3 _ (List.getElem_mem hk)
    unfold okL at this
    simp at this
    rw [List.getD_eq_getElem?_getD, List.getElem?_eq_getElem hk]
    exact this
  have HGR := Lib.hid hgr
  have HS := Lib.hid (fun k => patS_succ L phase k)
  have HS0 : Hid (patS L phase 0 = -phase) := rfl
  obtain ⟨ao, c, rfl⟩ := row.shape
  obtain ⟨n, hn⟩ : ∃ n, L.length = n := ⟨_, rfl⟩
  have HN := Lib.hid hn
  rw [hn] at M0 HW0 HR0 HGR HS h0 r1 ⊢
  clear row hne hr r2 r3 r4 r5 hsum hw0 hn hgr
  generalize patS L phase = S at *
  have c1 : w0.cell? ⟨w.heap.size, 1, none⟩ = some (.int .i64 phase) := M0.out.2.cell 1
  go_enter Try.func26, Try.ntmps26
  go_wp2_with fail
  rw [HW0.out]
  go_loopw [3, 4] (fun s3 s4 wr => ∃ (k : Nat) (a : Int), s3 = .int .i64 a ∧ s4 = .int .i64 k ∧ 0 ≤ a ∧ a ≤ 9000000 ∧ k + a.toNat ≤ 9000000 ∧ Hid (a = -S k ∧ (∀ j, j < k → S (j + 1) ≤ 0) ∧ Below w0.heap.size w0 wr)) (fun s3 _ _ => (intOf s3).toNat)
  case atStart => exact ⟨0, phase, rfl, rfl, HP.out.1, HP.out.2, by have := HP.out; omega, by rw [HS0.out]; omega, fun j hj => absurd hj (by omega), Below.refl _ _⟩
  case round =>
    obtain ⟨k, a, rfl, rfl, ha0, ha1, hka, hw⟩ := hrel
    obtain ⟨u, hu⟩ : ∃ u, k % n = u := ⟨_, rfl⟩
    have hun : u < n := by rw [← hu]; exact Nat.mod_lt _ h0
    obtain ⟨x, hx⟩ : ∃ x, L[u]? = some x := ⟨_, List.getElem?_eq_getElem (by rw [HN.out]; exact hun)⟩
    have hgx : L.getD u 0 = x := by rw [List.getD_eq_getElem?_getD, hx]; rfl
    have hl := HGR.out k
    have hs := HS.out k
    rw [hu, hgx] at hl hs
    obtain ⟨hl1, hl2⟩ := hl
    obtain ⟨b, o, rfl, hbl, cx⟩ := (HR0.out w0 M0.out.1).addr hx
    have HCX := Lib.hid (And.intro hbl cx)
    have hrem : ((k : Int).tmod (n : Int)) = (u : Int) := by rw [Int.tmod_eq_emod_of_nonneg (by omega), ← hu]; omega
    have hz : ((n : Int) == 0) = false := by simp; omega
    have hz2 : decide ((n : Int) = 0) = false := by simp; omega
    have hz3 : decide (n = 0) = false := by simp; omega
    have hn0 : ¬ n = 0 := by omega
    have HSS := Lib.hid hs
    have HA := Lib.hid hw.out.1
    have HF : Hid (∀ A, Below wr.heap.size wr A → A.cell? ⟨w.heap.size, 0, none⟩ = some (.slice (some ⟨b, o, none⟩) n c) ∧ A.cell? ⟨b, o + u, none⟩ = some (.int .i64 x)) := fun A hA => by
      have hb2 := hw.out.2.2.trans (hA.mono hw.out.2.2.size)
      exact ⟨(M0.out.2.grow hb2).cell 0, (cell_below hb2 HCX.out.1).trans HCX.out.2⟩
    have c0 := (HF.out wr (Below.refl _ _)).1
    have cx2 := (HF.out wr (Below.refl _ _)).2
    have hw3 : wrap64 ((k : Int) + 1) = ((k + 1 : Nat) : Int) := by rw [wrapR _ (by omega) (by omega)]; omega
    clear hx hgx hs hu cx c1
    go_wp2_with fail
    go_quiet (fail)
    by_cases hlt : a < x
    · have hd : decide (a < x) = true := by simp; omega
      have hpar : ((k : Int).tmod 2 == 0) = decide (k % 2 = 0) := by rw [Int.tmod_eq_emod_of_nonneg (by omega), Bool.eq_iff_iff]; simp; omega
      have HPR := Lib.hid hpar
      have hss := HSS.out
      have haa := HA.out
      have HFI : Hid (First S k) := ⟨by omega, by omega, hw.out.2.1⟩
      clear hpar hss haa hw3
      go_wp2_with fail
      go_ret
      exact ⟨k, HFI.out, retB (by first | exact HPR.out | (rw [← HPR.out]; rfl)), M0.out.1.trans ((hw.out.2.2.trans ((below_drewN (Below.refl _ _) _).mono hw.out.2.2.size)).mono M0.out.1.size)⟩
    · have hd : decide (a < x) = false := by simp; omega
      obtain ⟨a2, ha2⟩ : ∃ a2, a - x = a2 := ⟨_, rfl⟩
      have e2 : wrap64 (a - x) = a2 := by rw [← ha2]; exact wrapR _ (by omega) (by omega)
      have HB2 : Hid (a2 = a - x ∧ 0 ≤ a2 ∧ a2 ≤ 9000000 ∧ a2 < a ∧ (k + 1) + a2.toNat ≤ 9000000) := by unfold Hid; omega
      clear ha2 hlt ha0 ha1 hka hl1 hl2
      go_wp2_with fail
      have hb2 := HB2.out
      have hss := HSS.out
      have haa := HA.out
      refine ⟨⟨k + 1, a2, by first | rfl | rw [e2], by first | rfl | go_num, hb2.2.1, hb2.2.2.1, hb2.2.2.2.2, by omega, fun j hj => ?_, hw.out.2.2.trans ((below_drewN (Below.refl _ _) _).mono hw.out.2.2.size)⟩, by simp only [intOf]; omega⟩
      rcases Nat.lt_or_ge j k with h | h
      · exact hw.out.2.1 j h
      · obtain rfl : j = k := by omega
        omega
end Go.Proofs.Ytclkkdhfdoidfaa
