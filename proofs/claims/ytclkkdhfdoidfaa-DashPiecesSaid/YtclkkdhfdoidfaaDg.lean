/- Layer 9: a hand goes along a line. -/
import Derived.Test.YtclkkdhfdoidfaaDf
namespace Go.Proofs.Ytclkkdhfdoidfaa
open Go.RowKit
noncomputable def pieceK (S : Nat → Int) (W : List Pt) (k i : Nat) : List Pt := if k % 2 = 0 then upI S W k i else []
theorem pieceK_len (S : Nat → Int) (W : List Pt) (k i : Nat) : (pieceK S W k i).length ≤ i + 1 := by
  unfold pieceK
  split
  · unfold upI betwI
    rw [List.length_cons, List.length_map]
    have := List.length_filter_le (fun j => decide (S k < endsI W (j + 1))) (List.range i)
    rw [List.length_range] at this
    omega
  · simp
theorem mod_par {n : Nat} (hn : n % 2 = 0) (k : Nat) : k % n % 2 = k % 2 := Nat.mod_mod_of_dvd k (Nat.dvd_of_mod_eq_zero hn)
theorem pieceK_pass {S : Nat → Int} {W : List Pt} {n k i : Nat} (hn : n % 2 = 0) (h : S k < endsI W (i + 1)) : passI (k % n) (pieceK S W k i) (at0 W (i + 1)) = pieceK S W k (i + 1) := by
  unfold passI pieceK
  rw [mod_par hn]
  split
  · rw [upI_succ, if_pos h]
  · rfl
theorem pieceK_odd {S : Nat → Int} {W : List Pt} {n k i : Nat} (hn : n % 2 = 0) (h : k % n % 2 = 1) : pieceK S W k i = [] := by
  rw [mod_par hn] at h
  unfold pieceK; rw [if_neg (by omega)]
theorem piece_turn {S : Nat → Int} {W : List Pt} {n k i : Nat} (hn : n % 2 = 0) (hW : Way W) (hi : i < W.length) (h0 : 0 < S (k + 1)) (h1 : endsI W i ≤ S (k + 1)) : passI ((k + 1) % n) [] (placeI W (S (k + 1))) = pieceK S W (k + 1) i := by
  unfold passI pieceK
  rw [mod_par hn]
  split
  · unfold upI firstI
    rw [betwI_none hW hi h1, if_neg (by omega)]
    rfl
  · rfl
/-- What a turn within a line makes of the pieces. -/
theorem done_turn {S : Nat → Int} {W : List Pt} {n k i : Nat} (hn : n % 2 = 0) (hW : Way W) (hi : i + 1 < W.length) (h0 : 0 < S (k + 1)) (h1 : endsI W i ≤ S (k + 1)) (h2 : S (k + 1) < endsI W (i + 1)) (hd : (doneI S W k).length ≤ 4096) :
    (turnI (k % n) (pieceK S W k i) (doneI S W k) (placeI W (S (k + 1))) = (0, doneI S W (k + 1)) ∧ (doneI S W (k + 1)).length ≤ 4096) ∨ ((turnI (k % n) (pieceK S W k i) (doneI S W k) (placeI W (S (k + 1)))).1 = 36 ∧ 4096 < (doneI S W (k + 1)).length) := by
  unfold turnI pieceK
  rw [mod_par hn, doneI_succ]
  by_cases hk : k % 2 = 0
  · have hb : drawnB S k = true := by unfold drawnB; simp [hk, h0]
    rw [if_pos hk, if_pos hk, if_pos hb, whole_in hW hi h1 h2]
    by_cases hl : (doneI S W k).length = 4096
    · rw [if_pos hl]
      exact .inr ⟨rfl, by rw [List.length_append]; simp; omega⟩
    · rw [if_neg hl]
      exact .inl ⟨rfl, by rw [List.length_append]; simp; omega⟩
  · have hb : drawnB S k = false := by unfold drawnB; simp [hk]
    rw [if_neg hk, hb]
    exact .inl ⟨by simp, by simpa using hd⟩
theorem HandAt.left {w : World} {T : Nat → Prop} {g wh : Nat} {Lv : Value} {lf : Int} {piece : List Pt} {pieces : List (List Pt)} (h : HandAt w T g Lv wh lf piece pieces) : w.cell? ⟨g, 2, none⟩ = some (.int .i64 lf) ∧ w.frozen? ⟨g, 2, none⟩ = false ∧ g < w.heap.size ∧ T g := by
  obtain ⟨pv, qv, S, h1, _⟩ := h
  exact ⟨h1.blk.cell 2, h1.blk.free 2, h1.blk.lt, h1.tg⟩
theorem HandAt.setLeft {w : World} {T : Nat → Prop} {g wh : Nat} {Lv : Value} {lf : Int} {piece : List Pt} {pieces : List (List Pt)} (h : HandAt w T g Lv wh lf piece pieces) (x : Int) : HandAt (w.setCell ⟨g, 2, none⟩ (.int .i64 x)) T g Lv wh x piece pieces := by
  obtain ⟨pv, qv, S, h, h2⟩ := h
  have kk : Keep (fun j => j ≠ g) w (w.setCell ⟨g, 2, none⟩ (.int .i64 x)) := Keep.setCell _ _ _ (by simp)
  exact ⟨pv, qv, S, ⟨h.blk.set 2 _, owns_keep h.own kk (fun k e e2 => owns_off h.own h.blk (by decide) (e2 ▸ e)), owns_keep h.row kk (fun k e e2 => owns_off h.row h.blk (by decide) (e2 ▸ e)), fun x hx => owns_keep (h.subs x hx) kk (fun k e e2 => owns_off (h.subs x hx) h.blk (by decide) (e2 ▸ e)), h.apart, h.tg, h.tp, h.tq, h.tx⟩, h2⟩
/-- A hand at a distance D from the way's beginning, in the k-th length, behind the i-th point. -/
structure AtK (S : Nat → Int) (W : List Pt) (n : Nat) (w : World) (T : Nat → Prop) (g : Nat) (Lv : Value) (i k : Nat) (D lf : Int) : Prop where
  hand : HandAt w T g Lv (k % n) lf (pieceK S W k i) (doneI S W k)
  left : lf = S (k + 1) - D
  pos : 0 ≤ lf
  most : lf ≤ 1048576
  from_ : S k ≤ D
  end_ : 0 < S (k + 1)
  few : (doneI S W k).length ≤ 4096
theorem AtK.grow {S : Nat → Int} {W : List Pt} {n : Nat} {w w' : World} {T : Nat → Prop} {g : Nat} {Lv : Value} {i k : Nat} {D lf : Int} (h : AtK S W n w T g Lv i k D lf) (hb : Below w.heap.size w w') : AtK S W n w' T g Lv i k D lf := ⟨h.hand.grow hb, h.left, h.pos, h.most, h.from_, h.end_, h.few⟩
theorem AtK.mono {S : Nat → Int} {W : List Pt} {n : Nat} {w : World} {T R : Nat → Prop} {g : Nat} {Lv : Value} {i k : Nat} {D lf : Int} (h : AtK S W n w T g Lv i k D lf) (hR : ∀ k, T k → k < w.heap.size → R k) : AtK S W n w R g Lv i k D lf := ⟨h.hand.mono hR, h.left, h.pos, h.most, h.from_, h.end_, h.few⟩
theorem AtK.keep {S : Nat → Int} {W : List Pt} {n : Nat} {w w' : World} {T R : Nat → Prop} {g : Nat} {Lv : Value} {i k : Nat} {D lf : Int} (h : AtK S W n w T g Lv i k D lf) (hk : Keep R w w') (hR : ∀ k, T k → k < w.heap.size → R k) : AtK S W n w' T g Lv i k D lf := ⟨h.hand.keep hk hR, h.left, h.pos, h.most, h.from_, h.end_, h.few⟩
/-- How line ends. -/
def LineP (S : Nat → Int) (W : List Pt) (n : Nat) (w : World) (T : Nat → Prop) (g : Nat) (Lv : Value) (i k : Nat) (e : Ending) (w' : World) : Prop :=
  Keep (fun j => ¬ T j) w w' ∧ ((e = .returned (.int .i64 0) ∧ ∃ k' lf, k ≤ k' ∧ AtK S W n w' T g Lv (i + 1) k' (endsI W (i + 1)) lf ∧ S k' < endsI W (i + 1)) ∨ (e = .returned (.int .i64 36) ∧ ∃ k', S (k' + 1) < endsI W (i + 1) ∧ 4096 < (doneI S W (k' + 1)).length))
/-- 1 where nothing of a length is left. -/
def zeroN (w : World) (g : Nat) : Nat := match w.cell? ⟨g, 2, none⟩ with | some (.int _ z) => if z = 0 then 1 else 0 | _ => 0
theorem zeroN_eq {w : World} {g : Nat} {z : Int} (h : w.cell? ⟨g, 2, none⟩ = some (.int .i64 z)) : zeroN w g = if z = 0 then 1 else 0 := by unfold zeroN; rw [h]
theorem patS_succ (L : List Int) (phase : Int) (k : Nat) : patS L phase (k + 1) = patS L phase k + L.getD (k % L.length) 0 := rfl
set_option maxHeartbeats 8000000 in
set_option maxRecDepth 100000 in
theorem line_c (L : List Int) (phase : Int) (W : List Pt) (w : World) (T : Nat → Prop) (hT : ∀ j, w.heap.size ≤ j → T j) (g b o n c i k : Nat) (lf0 : Int) (hA : AtK (patS L phase) W n w T g (.slice (some ⟨b, o, none⟩) n c) i k (endsI W i) lf0) (hSk : patS L phase k < endsI W (i + 1))
    (hn : L.length = n) (h0 : 0 < n) (h8 : n ≤ 8) (hev : n % 2 = 0) (hok : L.all okL = true) (hW : Way W) (hi : i + 1 < W.length) (hWl : W.length ≤ 2000) (hra : roomP (at0 W i) = true) (hrb : roomP (at0 W (i + 1)) = true) (hlen : lenB (subP (at0 W (i + 1)) (at0 W i)) = true)
    (hL : IntsL w b o L) (hb : ¬ T b) (hbl : b < w.heap.size) :
    Calls Try.prog 58 #[.pointer (some ⟨g, 0, none⟩), .agg #[.int .i64 (at0 W i).1, .int .i64 (at0 W i).2], .agg #[.int .i64 (at0 W (i + 1)).1, .int .i64 (at0 W (i + 1)).2]] w (LineP (patS L phase) W n w T g (.slice (some ⟨b, o, none⟩) n c) i k) := by
  obtain ⟨w1, hw1⟩ : ∃ X, (w.alloc (.cells #[.int .i64 (at0 W i).1, .int .i64 (at0 W i).2] 32)).alloc (.cells #[.int .i64 (at0 W (i + 1)).1, .int .i64 (at0 W (i + 1)).2] 32) = X := ⟨_, rfl⟩
  obtain ⟨R, hR⟩ : ∃ R : Nat → Prop, R = fun j => (T j ∧ j < w.heap.size) ∨ w.heap.size + 2 ≤ j := ⟨_, rfl⟩
  have hRT : ∀ j, R j → T j := fun j hj => by
    rw [hR] at hj
    rcases hj with h | h
    · exact h.1
    · exact hT j (by omega)
  have hTR : ∀ j, T j → j < w.heap.size → R j := fun j h1 h2 => by rw [hR]; exact .inl ⟨h1, h2⟩
  have hRN : ¬ R w.heap.size ∧ ¬ R (w.heap.size + 1) := by rw [hR]; simp
  have hR1 : ∀ j, w.heap.size + 2 ≤ j → R j := fun j hj => by rw [hR]; exact .inr hj
  have hRb : ¬ R b := fun e => hb (hRT _ e)
  have z1 : w1.heap.size = w.heap.size + 2 := by rw [← hw1]; simp
  have HB : Below w.heap.size w w1 := by rw [← hw1]; exact ((Below.refl _ _).alloc (Nat.le_refl _) _).alloc (by simp) _
  have BA : Blk w1 w.heap.size 32 (two (at0 W i)) := by rw [← hw1]; exact (Blk.new _ _ _).alloc _
  have BB : Blk w1 (w.heap.size + 1) 32 (two (at0 W (i + 1))) := by rw [← hw1]; exact Blk.newAt _ _ _ (by simp)
  have H1 : Hid (AtK (patS L phase) W n w1 R g (.slice (some ⟨b, o, none⟩) n c) i k (endsI W i) lf0) := (hA.mono hTR).grow HB
  have L1 : IntsL w1 b o L ∧ b < w1.heap.size := ⟨hL.keep (Keep.of_below (S := fun _ => True) HB) trivial hbl, by omega⟩
  have KT : Hid (∀ A : World, Keep (fun j => ¬ R j) w1 A → Keep (fun j => ¬ T j) w A) := fun A hA => (Keep.of_below HB).trans (hA.mono fun j hj e => hj (hRT _ e))
  have HF : Hid (∀ A, Keep (fun j => ¬ R j) w1 A → Blk A w.heap.size 32 (two (at0 W i)) ∧ Blk A (w.heap.size + 1) 32 (two (at0 W (i + 1))) ∧ IntsL A b o L ∧ w1.heap.size ≤ A.heap.size ∧ b < A.heap.size) := fun A hA => ⟨hA.blk BA hRN.1, hA.blk BB hRN.2, L1.1.keep hA hRb L1.2, hA.size, Nat.lt_of_lt_of_le L1.2 hA.size⟩
  have hlo := lenB_iff.1 hlen
  have hlb := len_bounds hlo
  have hn1 := hW i hi
  have hE : endsI W (i + 1) = endsI W i + lenW W i := rfl
  have hE0 := ends_nonneg hW (i := i) (by omega)
  obtain ⟨N, hN⟩ : ∃ N, lenW W i = N := ⟨_, rfl⟩
  have hNl : lenI (subP (at0 W (i + 1)) (at0 W i)) = N := hN
  rw [hN] at hE hn1
  rw [hNl] at hlb
  have HLEN : Hid (∀ A, Calls Try.prog 13 #[.agg #[.int .i64 (at0 W i).1, .int .i64 (at0 W i).2], .agg #[.int .i64 (at0 W (i + 1)).1, .int .i64 (at0 W (i + 1)).2]] A fun e w' => e = .returned (.tuple #[.int .i64 N, .int .i64 0]) ∧ Below A.heap.size A w') := fun A => by
    have h := length_c (at0 W i) (at0 W (i + 1)) A
    have e : lengthO (at0 W i) (at0 W (i + 1)) = (N, 0) := by unfold lengthO; rw [hra, hrb, hlen, hNl]; rfl
    rw [e] at h; exact h
  have HON : Hid (∀ A t, 0 ≤ t → t ≤ N → Calls Try.prog 37 #[.agg #[.int .i64 (at0 W i).1, .int .i64 (at0 W i).2], .agg #[.int .i64 (at0 W (i + 1)).1, .int .i64 (at0 W (i + 1)).2], .int .i64 t, .int .i64 N] A fun e w' => e = .returned (.agg #[.int .i64 (onP (at0 W i) (at0 W (i + 1)) t N).1, .int .i64 (onP (at0 W i) (at0 W (i + 1)) t N).2]) ∧ Below A.heap.size A w') := fun A t h1 h2 => on_c _ _ t N hra hrb hlo h1 h2 (by omega) (by omega) A
  have HPL : Hid (∀ d, endsI W i ≤ d → d < endsI W i + N → placeI W d = onP (at0 W i) (at0 W (i + 1)) (d - endsI W i) N) := fun d h1 h2 => by
    have h := placeI_eq hW hi h1 (by omega)
    rw [hN] at h; exact h
  have hgr : ∀ k, 1 ≤ L.getD (k % n) 0 ∧ L.getD (k % n) 0 ≤ 1048576 := fun k => by
    have hk : k % n < L.length := by rw [hn]; exact Nat.mod_lt _ h0
    have := List.all_eq_true.1 hok _ (List.getElem_mem hk)
    unfold okL at this
    simp at this
    rw [List.getD_eq_getElem?_getD, List.getElem?_eq_getElem hk]
    exact this
  -- a turn
  have HTURN : Hid (∀ A (k' : Nat) (t lf : Int), Keep (fun j => ¬ R j) w1 A → AtK (patS L phase) W n A R g (.slice (some ⟨b, o, none⟩) n c) i k' (endsI W i + t) lf → 0 ≤ t → t + lf < N →
      Calls Try.prog 63 #[.pointer (some ⟨g, 0, none⟩), .agg #[.int .i64 (onP (at0 W i) (at0 W (i + 1)) (t + lf) N).1, .int .i64 (onP (at0 W i) (at0 W (i + 1)) (t + lf) N).2]] A fun e w' => Keep (fun j => ¬ R j) A w' ∧
        ((e = .returned (.int .i64 0) ∧ ∃ lf2, 1 ≤ lf2 ∧ AtK (patS L phase) W n w' R g (.slice (some ⟨b, o, none⟩) n c) i (k' + 1) (endsI W i + (t + lf)) lf2 ∧ patS L phase (k' + 1) < endsI W i + N) ∨ (e = .returned (.int .i64 36) ∧ ∃ k', patS L phase (k' + 1) < endsI W i + N ∧ 4096 < (doneI (patS L phase) W (k' + 1)).length))) := fun A k' t lf hk h ht htl => by
    have hs : patS L phase (k' + 1) = endsI W i + (t + lf) := by have := h.left; omega
    have hp := HPL.out (patS L phase (k' + 1)) (by have := h.pos; omega) (by omega)
    rw [show patS L phase (k' + 1) - endsI W i = t + lf by omega] at hp
    obtain ⟨_, _, f3, f4, f5⟩ := HF.out A hk
    have hd := done_turn (S := patS L phase) hev hW hi h.end_ (by have := h.pos; omega) (by omega) h.few
    have hpt := piece_turn (S := patS L phase) (k := k') hev hW (i := i) (by omega) h.end_ (by have := h.pos; omega)
    refine (turn_c (onP (at0 W i) (at0 W (i + 1)) (t + lf) N) A R (fun j hj => hR1 j (by omega)) g b o n c L (k' % n) lf _ _ h.hand hn h0 h8 (Nat.mod_lt _ h0) f3 hRb f5 (fun hod => pieceK_odd hev hod) (by have := pieceK_len (patS L phase) W k' i; omega) h.few).mono ?_
    rw [← hp]
    rintro e w' ⟨rfl, k3, h3⟩
    refine ⟨k3, ?_⟩
    have hm : (k' % n + 1) % n = (k' + 1) % n := by rw [Nat.mod_add_mod]
    rcases hd with ⟨hd, hl⟩ | ⟨hd, hl⟩
    · rw [hd] at h3 ⊢
      have h4 := h3 rfl
      rw [hm, hpt] at h4
      have hg := hgr (k' + 1)
      have hnx : patS L phase (k' + 1 + 1) = patS L phase (k' + 1) + L.getD ((k' + 1) % n) 0 := by rw [patS_succ L phase (k' + 1), hn]
      exact .inl ⟨rfl, _, hg.1, ⟨h4, by omega, by omega, hg.2, by omega, by have := h.end_; omega, hl⟩, by omega⟩
    · rw [hd]
      exact .inr ⟨rfl, k', by omega, hl⟩
  have HPASS : Hid (∀ A (k' : Nat) (lf : Int), Keep (fun j => ¬ R j) w1 A → HandAt A R g (.slice (some ⟨b, o, none⟩) n c) (k' % n) lf (pieceK (patS L phase) W k' i) (doneI (patS L phase) W k') → patS L phase k' < endsI W i + N →
      Calls Try.prog 57 #[.pointer (some ⟨g, 0, none⟩), .agg #[.int .i64 (at0 W (i + 1)).1, .int .i64 (at0 W (i + 1)).2]] A fun e w' => e = .returned (.tuple #[]) ∧ HandAt w' R g (.slice (some ⟨b, o, none⟩) n c) (k' % n) lf (pieceK (patS L phase) W k' (i + 1)) (doneI (patS L phase) W k') ∧ Keep (fun j => ¬ R j) A w') := fun A k' lf hk h hs => by
    have h2 := pass_c (at0 W (i + 1)) A R (fun j hj => hR1 j (by have := hk.size; omega)) g _ (k' % n) lf _ _ h (by have := pieceK_len (patS L phase) W k' i; omega)
    rw [pieceK_pass hev (by omega)] at h2
    exact h2
  have HRT := Lib.hid hRT
  have HRN := Lib.hid hRN
  have HW1 := Lib.hid hw1
  have HNB := Lib.hid (And.intro hn1 hlb.2.1)
  have HE := Lib.hid hE
  have HSK := Lib.hid hSk
  have HZ1 := Lib.hid z1
  clear hA hSk hn h0 h8 hev hok hW hi hWl hra hrb hlen hL hb hbl hR hRT hTR hRN hR1 hRb z1 HB BA BB L1 hlo hlb hn1 hE hE0 hN hNl hgr hw1 hT HPL
  rw [HE.out] at HSK
  generalize patS L phase = S at *
  generalize endsI W i = E at *
  generalize at0 W i = pa at *
  generalize at0 W (i + 1) = pb at *
  obtain ⟨ax, ay⟩ := pa
  obtain ⟨bx, bY⟩ := pb
  have F1 := Lib.hid (HF.out w1 (Keep.refl _ _))
  have a0 := F1.out.1.p0
  have a1 := F1.out.1.p1
  have b0 := F1.out.2.1.p0
  have b1 := F1.out.2.1.p1
  go_enter Try.func58, Try.ntmps58
  go_wp2_with fail
  rw [HW1.out]
  refine (HLEN.out w1).mono ?_
  rintro e w2 ⟨rfl, hb⟩
  have K2 : Hid (Keep (fun j => ¬ R j) w1 w2) := Keep.of_below hb
  have A2 := Lib.hid (H1.out.grow hb)
  clear hb a0 a1 b0 b1 F1
  go_wp2_with fail
  go_loopw [9] (fun s9 wr => ∃ (k' : Nat) (t lf : Int), s9 = .int .i64 t ∧ 0 ≤ t ∧ t ≤ N ∧ Hid (k ≤ k' ∧ AtK S W n wr R g (.slice (some ⟨b, o, none⟩) n c) i k' (E + t) lf ∧ S k' < E + N ∧ Keep (fun j => ¬ R j) w1 wr)) (fun s9 wr => 2 * (N - intOf s9).toNat + zeroN wr g)
  case atStart => exact ⟨k, 0, lf0, rfl, Int.le_refl _, by have := HNB.out; omega, Nat.le_refl _, by rw [Int.add_zero]; exact A2.out, HSK.out, K2.out⟩
  case round =>
    obtain ⟨k', t, lf, rfl, ht0, htN, hw⟩ := hrel
    obtain ⟨w3, rfl⟩ : ∃ x, x = wr := ⟨_, rfl⟩
    obtain ⟨c2, f2, lg, tg⟩ := hw.out.2.1.hand.left
    have hl0 := hw.out.2.1.pos
    have hl1 := hw.out.2.1.most
    have hN1 := HNB.out.1
    have hN2 := HNB.out.2
    obtain ⟨d, hd0⟩ : ∃ d, N - t = d := ⟨_, rfl⟩
    have e1 : wrap64 (N - t) = d := by rw [← hd0]; exact wrapR _ (by omega) (by omega)
    have FW := Lib.hid (HF.out w3 hw.out.2.2.2)
    have a0 := FW.out.1.p0
    have a1 := FW.out.1.p1
    have b0 := FW.out.2.1.p0
    have b1 := FW.out.2.1.p1
    by_cases hlt : lf < d
    · have hd : decide (lf < d) = true := by simp; omega
      obtain ⟨t2, ht2⟩ : ∃ t2, t + lf = t2 := ⟨_, rfl⟩
      have e2 : wrap64 (t + lf) = t2 := by rw [← ht2]; exact wrapR _ (by omega) (by omega)
      have HB2 : Hid (0 ≤ t2 ∧ t2 ≤ N ∧ t2 = t + lf ∧ 0 ≤ t ∧ 0 ≤ lf ∧ t2 < N) := by unfold Hid; omega
      have HTU := Lib.hid (HTURN.out)
      have HMZ := Lib.hid (zeroN_eq c2)
      have HO := Lib.hid (HON.out w3 t2 HB2.out.1 HB2.out.2.1)
      have HX : Hid (∀ A, Below w3.heap.size w3 A → Keep (fun j => ¬ R j) w1 A ∧ AtK S W n A R g (.slice (some ⟨b, o, none⟩) n c) i k' (E + t) lf) := fun A hA => ⟨hw.out.2.2.2.trans (Keep.of_below hA), hw.out.2.1.grow hA⟩
      clear ht2 hd0 hlt hl0 hl1 hN1 hN2 ht0 htN
      go_wp2_with fail
      refine HO.out.mono ?_
      rintro e w4 ⟨rfl, hb⟩
      have X4 := Lib.hid (HX.out w4 hb)
      have HTC := HTU.out w4 k' t lf X4.out.1 X4.out.2 (by have := HB2.out; omega) (by have := HB2.out; omega)
      rw [show t + lf = t2 by have := HB2.out; omega] at HTC
      have HT4 := Lib.hid HTC
      clear hb HTC a0 a1 b0 b1 c2 f2 lg
      generalize onP (ax, ay) (bx, bY) t2 N = pp at *
      obtain ⟨px, py⟩ := pp
      go_wp2_with fail
      refine HT4.out.mono ?_
      rintro e w5 ⟨k5, ⟨rfl, lf2, h21, h5, hs5⟩ | ⟨rfl, k6, h6, h7⟩⟩
      · have K5 := Lib.hid (X4.out.1.trans k5)
        have A5 := Lib.hid h5
        have HS5 := Lib.hid hs5
        have HZ5 := zeroN_eq h5.hand.left.1
        rw [if_neg (by omega)] at HZ5
        have H21 := Lib.hid HZ5
        clear k5 h21 h5 hs5 HZ5
        go_wp2_with fail
        refine ⟨⟨k' + 1, t2, lf2, rfl, HB2.out.1, HB2.out.2.1, by have := hw.out.1; omega, A5.out, HS5.out, K5.out⟩, ?_⟩
        rw [H21.out, HMZ.out]
        have := HB2.out
        simp only [intOf]
        by_cases hz : lf = 0
        · rw [if_pos hz]; omega
        · rw [if_neg hz]; omega
      · have K5 := Lib.hid (X4.out.1.trans k5)
        have H6 := Lib.hid (And.intro h6 h7)
        clear k5 h6 h7
        go_wp2_with fail
        go_ret
        exact ⟨KT.out _ K5.out, .inr ⟨rfl, k6, by rw [HE.out]; exact H6.out.1, H6.out.2⟩⟩
    · have hd : decide (lf < d) = false := by simp; omega
      obtain ⟨lf2, hl2⟩ : ∃ lf2, lf - d = lf2 := ⟨_, rfl⟩
      have e2 : wrap64 (lf - d) = lf2 := by rw [← hl2]; exact wrapR _ (by omega) (by omega)
      have HB2 : Hid (lf2 = lf - (N - t) ∧ 0 ≤ lf2 ∧ lf2 ≤ 1048576) := by unfold Hid; omega
      have kS : Keep (fun j => ¬ R j) w3 (w3.setCell ⟨g, 2, none⟩ (.int .i64 lf2)) := Keep.setCell _ _ _ (by simpa using tg)
      have KS := Lib.hid (hw.out.2.2.2.trans kS)
      have HP := Lib.hid (HPASS.out _ k' lf2 KS.out (hw.out.2.1.hand.setLeft lf2) hw.out.2.2.1)
      have hne : w.heap.size + 1 ≠ g := fun e => HRN.out.2 (e ▸ tg)
      have hne2 : g ≠ w.heap.size + 1 := Ne.symm hne
      clear hl2 hd0 hlt hl0 hl1 hN1 hN2 ht0 htN kS a0 a1
      go_wp2_with fail
      refine HP.out.mono ?_
      rintro e w5 ⟨rfl, h5, k5⟩
      have K5 := Lib.hid (KS.out.trans k5)
      have H5 := Lib.hid h5
      clear h5 k5 b0 b1 c2 f2 lg
      go_wp2_with fail
      go_ret
      have h := hw.out.2.1
      have hl := h.left
      have hb2 := HB2.out
      have hs := hw.out.2.2.1
      exact ⟨KT.out _ K5.out, .inl ⟨rfl, k', lf2, hw.out.1, ⟨H5.out.mono (fun k hk _ => HRT.out k hk), by rw [HE.out]; omega, hb2.2.1, hb2.2.2, by rw [HE.out]; omega, h.end_, h.few⟩, by rw [HE.out]; exact hs⟩⟩
/-- A pattern begins within one of its lengths. -/
theorem hand_first (w : World) (T : Nat → Prop) (g : Nat) (Lv : Value) (x : Int) (h : Blk w g 92 #[Lv, .int .i64 0, .int .i64 x, .slice none 0 0, .slice none 0 0]) (hg : T g) : HandAt w T g Lv 0 x [] [] :=
  ⟨_, _, [], ⟨h, Own.nil _ _ _, World.ownsRow_nil _ _ _ _, fun _ hx => (by cases hx), fun _ hx => (by cases hx), hg, fun k e => by simp [Value.ownBlock] at e, fun k e => by simp [Value.ownBlock] at e, fun _ hx => (by cases hx)⟩, rfl⟩
/-- What hand tells. -/
def HandP (S : Nat → Int) (n : Nat) (w : World) (Lv : Value) (e : Ending) (w' : World) : Prop :=
  ∃ g k, e = .returned (.pointer (some ⟨g, 0, none⟩)) ∧ Below w.heap.size w w' ∧ HandAt w' (fun j => w.heap.size ≤ j) g Lv (k % n) (S (k + 1)) [] [] ∧ S k ≤ 0 ∧ 0 < S (k + 1) ∧ S (k + 1) ≤ 1048576 ∧ (∀ j, j < k → S (j + 1) ≤ 0)
set_option maxHeartbeats 4000000 in
set_option maxRecDepth 100000 in
theorem hand_c (L : List Int) (phase : Int) (w : World) (b o n c : Nat) (hn : L.length = n) (h0 : 0 < n) (h8 : n ≤ 8) (hok : L.all okL = true) (hp0 : 0 ≤ phase) (hp1 : phase ≤ 9000000) (hL : IntsL w b o L) (hbl : b < w.heap.size) :
    Calls Try.prog 56 #[.agg #[.slice (some ⟨b, o, none⟩) n c, .int .i64 phase]] w (HandP (patS L phase) n w (.slice (some ⟨b, o, none⟩) n c)) := by
  have hgr : ∀ k, 1 ≤ L.getD (k % n) 0 ∧ L.getD (k % n) 0 ≤ 1048576 := fun k => by
    have hk : k % n < L.length := by rw [hn]; exact Nat.mod_lt _ h0
    have := List.all_eq_true.1 hok _ (List.getElem_mem hk)
    unfold okL at this
    simp at this
    rw [List.getD_eq_getElem?_getD, List.getElem?_eq_getElem hk]
    exact this
  obtain ⟨x0, hx0⟩ : ∃ x, L[0]? = some x := ⟨_, List.getElem?_eq_getElem (by omega)⟩
  have hx1 : L.getD 0 0 = x0 := by rw [List.getD_eq_getElem?_getD, hx0]; rfl
  obtain ⟨W, hW⟩ : ∃ X, ((w.alloc (.cells #[.slice (some ⟨b, o, none⟩) n c, .int .i64 phase] 24)).alloc (.cells #[.slice (some ⟨b, o, none⟩) n c, .int .i64 0, .int .i64 x0, .slice none 0 0, .slice none 0 0] 92)).drew = X := ⟨_, rfl⟩
  have HB : Hid (Below w.heap.size w W) := by rw [← hW]; exact (((Below.refl _ _).alloc (Nat.le_refl _) _).alloc (by simp) _).trans (below_drewN (Below.refl _ _) 1)
  have HP0 : Hid (Blk W w.heap.size 24 #[.slice (some ⟨b, o, none⟩) n c, .int .i64 phase]) := by rw [← hW]; exact ((Blk.new _ _ _).alloc _).grow (below_drewN (Below.refl _ _) 1)
  have HG0 : Hid (HandAt W (fun j => w.heap.size + 1 ≤ j) (w.heap.size + 1) (.slice (some ⟨b, o, none⟩) n c) 0 x0 [] []) := by rw [← hW]; exact hand_first _ _ _ _ _ ((Blk.newAt _ _ _ (by simp)).grow (below_drewN (Below.refl _ _) 1)) (Nat.le_refl _)
  have HL : Hid (∀ A, Below w.heap.size w A → IntsL A b o L) := fun A hA => hL.keep (S := fun j => j < w.heap.size) ⟨hA.os, hA.tape, hA.output, hA.size, fun k hk _ => hA.block k hk⟩ hbl hbl
  have c0 := hL 0 x0 hx0
  rw [Nat.add_zero] at c0
  have HS : Hid (∀ k, patS L phase (k + 1) = patS L phase k + L.getD (k % n) 0) := fun k => by rw [patS_succ, hn]
  have HGR := Lib.hid hgr
  have HN := Lib.hid (And.intro hn (And.intro h0 (And.intro h8 hbl)))
  have HX := Lib.hid hx1
  have HP := Lib.hid (And.intro hp0 hp1)
  have HW := Lib.hid hW
  clear hgr hx1 hL hok hx0 hW hn hp0 hp1
  have hpos : 0 < n := h0
  clear h0
  have HS0 : Hid (patS L phase 0 = -phase) := rfl
  generalize patS L phase = S at *
  go_enter Try.func56, Try.ntmps56
  go_wp2_with fail
  go_region
  rw [HW.out]
  have p1 : W.cell? ⟨w.heap.size, 1, none⟩ = some (.int .i64 phase) := HP0.out.cell 1
  go_wp2_with fail
  go_loopw [4] (fun s4 wr => ∃ (k : Nat) (a lf : Int), s4 = .int .i64 a ∧ 0 ≤ a ∧ a ≤ 9000000 ∧ Hid (a = -S k ∧ HandAt wr (fun j => w.heap.size + 1 ≤ j) (w.heap.size + 1) (.slice (some ⟨b, o, none⟩) n c) (k % n) lf [] [] ∧ lf = L.getD (k % n) 0 ∧ (∀ j, j < k → S (j + 1) ≤ 0) ∧ Below w.heap.size w wr)) (fun s4 _ => (intOf s4).toNat)
  case atStart => exact ⟨0, phase, x0, rfl, HP.out.1, HP.out.2, by rw [HS0.out]; omega, by rw [Nat.zero_mod]; exact HG0.out, by rw [Nat.zero_mod]; exact HX.out.symm, fun j hj => absurd hj (by omega), HB.out⟩
  case round =>
    obtain ⟨k, a, lf, rfl, ha0, ha1, hw⟩ := hrel
    obtain ⟨w3, rfl⟩ : ∃ x, x = wr := ⟨_, rfl⟩
    obtain ⟨c2, f2, lg, tg⟩ := hw.out.2.1.left
    have hlf := HGR.out k
    rw [← hw.out.2.2.1] at hlf
    obtain ⟨hl1, hl2⟩ := hlf
    have hs1 := HS.out k
    rw [← hw.out.2.2.1] at hs1
    have HS1 := Lib.hid hs1
    have HA := Lib.hid hw.out.1
    clear hs1
    by_cases hge : lf ≤ a
    · have hd : decide (a ≥ lf) = true := by simp; omega
      have hd2 : decide (lf ≤ a) = true := by simp; omega
      obtain ⟨a2, ha2⟩ : ∃ a2, a - lf = a2 := ⟨_, rfl⟩
      have e2 : wrap64 (a - lf) = a2 := by rw [← ha2]; exact wrapR _ (by omega) (by omega)
      have HB2 : Hid (a2 = a - lf ∧ 0 ≤ a2 ∧ a2 ≤ 9000000 ∧ a2 < a ∧ 0 ≤ a) := by unfold Hid; omega
      have hn8 := HN.out
      have HNX := Lib.hid (next_c w3 (fun j => w.heap.size + 1 ≤ j) (w.heap.size + 1) b o n c L (k % n) lf [] [] hw.out.2.1 hn8.1 hn8.2.1 hn8.2.2.1 (Nat.mod_lt _ hn8.2.1) (HL.out w3 hw.out.2.2.2.2) (by omega))
      rw [show (k % n + 1) % n = (k + 1) % n by rw [Nat.mod_add_mod]] at HNX
      clear ha2 hge ha0 ha1 hl1 hl2 hn8
      go_wp2_with fail
      refine HNX.out.mono ?_
      rintro e w4 ⟨rfl, h4, k4⟩
      have B4 : Hid (Below w.heap.size w w4) := hw.out.2.2.2.2.trans (k4.below (fun j hj => by omega) hw.out.2.2.2.2.size)
      have H4 := Lib.hid h4
      clear h4 k4 c2 f2 lg
      go_wp2_with fail
      have hb2 := HB2.out
      have hs1 := HS1.out
      have ha := HA.out
      refine ⟨⟨k + 1, a2, _, rfl, hb2.2.1, hb2.2.2.1, by omega, H4.out, rfl, fun j hj => ?_, B4.out⟩, by simp only [intOf]; omega⟩
      rcases Nat.lt_or_ge j k with h | h
      · exact hw.out.2.2.2.1 j h
      · obtain rfl : j = k := by omega
        omega
    · have hd : decide (a ≥ lf) = false := by simp; omega
      have hd2 : decide (lf ≤ a) = false := by simp; omega
      obtain ⟨l2, hl3⟩ : ∃ l2, lf - a = l2 := ⟨_, rfl⟩
      have e2 : wrap64 (lf - a) = l2 := by rw [← hl3]; exact wrapR _ (by omega) (by omega)
      have HB2 : Hid (l2 = lf - a ∧ 1 ≤ l2 ∧ l2 ≤ 1048576 ∧ 0 ≤ a) := by unfold Hid; omega
      clear hl3 hge ha0 ha1 hl1 hl2
      go_wp2_with fail
      go_ret
      have hb2 := HB2.out
      have hs1 := HS1.out
      have ha := HA.out
      refine ⟨w.heap.size + 1, k, rfl, hw.out.2.2.2.2.setCell (show w.heap.size ≤ w.heap.size + 1 by omega) _, ?_, by omega, by omega, by omega, hw.out.2.2.2.1⟩
      have h := (hw.out.2.1.setLeft l2).mono (R := fun j => w.heap.size ≤ j) (fun k hk _ => by omega)
      rw [show S (k + 1) = l2 by omega]
      exact h
end Go.Proofs.Ytclkkdhfdoidfaa
