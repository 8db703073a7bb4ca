/- Layer 9: the pieces that a pattern draws of a way. -/
import Derived.Test.YtclkkdhfdoidfaaDg
import Derived.Test.YtclkkdhfdoidfaaDe
namespace Go.Proofs.Ytclkkdhfdoidfaa
open Go.RowKit Go.Shelf
attribute [local go_sem] Oper.semAt_some
theorem all_pos (W : List Pt) : 1 ≤ allI W ∧ endsI W (W.length - 1) ≤ allI W := by unfold allI; omega
/-- Too many, told early. -/
theorem many_of {S : Nat → Int} {W : List Pt} {k : Nat} (hg : Grows S) (h : S k < allI W) (hm : 4096 < (doneI S W k).length) : 4096 < (piecesI S W).length := by
  obtain ⟨K, hK⟩ := isEnd_some W hg
  rw [piecesI_eq hK]
  have hk : k ≤ K := by
    rcases Nat.lt_or_ge K k with h1 | h1
    · have := grows_le hg k K (by omega); have := hK.2; omega
    · exact h1
  exact Nat.lt_of_lt_of_le hm (doneI_len hk)
/-- The end of a way. -/
theorem end_of {S : Nat → Int} {W : List Pt} {k : Nat} (hg : Grows S) (h0 : S k < allI W) (h1 : endsI W (W.length - 1) ≤ S (k + 1)) (h2 : 0 < S (k + 1)) : piecesI S W = doneI S W (k + 1) := by
  refine piecesI_eq ⟨fun j hj => ?_, by unfold allI; omega⟩
  have := grows_le hg k j (by omega)
  omega
theorem lift_end {S : Nat → Int} {W : List Pt} {k : Nat} (hW : Way W) (h1 : endsI W (W.length - 1) ≤ S (k + 1)) (h2 : 0 < S (k + 1)) (hf : (doneI S W k).length ≤ 4096) :
    (liftI (pieceK S W k (W.length - 1)) (doneI S W k) = (0, [], doneI S W (k + 1)) ∧ (doneI S W (k + 1)).length ≤ 4096) ∨ ((liftI (pieceK S W k (W.length - 1)) (doneI S W k)).1 = 36 ∧ 4096 < (doneI S W (k + 1)).length) := by
  unfold liftI pieceK
  rw [doneI_succ]
  by_cases hk : k % 2 = 0
  · have hb : drawnB S k = true := by unfold drawnB; simp [hk, h2]
    rw [if_pos hk, if_neg (by unfold upI; simp), if_pos hb, whole_end hW h1]
    by_cases hl : (doneI S W k).length = 4096
    · rw [if_pos hl]
      exact .inr ⟨rfl, by rw [List.length_append]; simp; omega⟩
    · rw [if_neg hl]
      exact .inl ⟨rfl, by rw [List.length_append]; simp; omega⟩
  · have hb : drawnB S k = false := by unfold drawnB; simp [hk]
    rw [if_neg hk, if_pos rfl, hb]
    exact .inl ⟨by simp, by simpa using hf⟩
noncomputable def piecesO (S : Nat → Int) (W : List Pt) : Int × List (List Pt) := if 4096 < (piecesI S W).length then (36, []) else (0, piecesI S W)
theorem piecesO_many {S : Nat → Int} {W : List Pt} (h : 4096 < (piecesI S W).length) : piecesO S W = (36, []) := if_pos h
/-- Subpaths that were told. -/
structure SubsR (w : World) (v : Value) (S : List Sb) : Prop where
  row : w.ownsRow 0 46 2 v S.length (cellsB S)
  own : ∀ x ∈ S, Own w 0 32 x.v x.L
theorem SubsR.grow {w w' : World} {v : Value} {S : List Sb} (h : SubsR w v S) (hb : Below w.heap.size w w') : SubsR w' v S :=
  ⟨owns_keep h.row (Keep.of_below (S := fun _ => True) hb) (fun _ _ => trivial), fun x hx => owns_keep (h.own x hx) (Keep.of_below (S := fun _ => True) hb) (fun _ _ => trivial)⟩
theorem SubsR.nil (w : World) : SubsR w (.slice none 0 0) [] := ⟨World.ownsRow_nil _ _ _ _, fun _ h => (by cases h)⟩
def ToldS (w : World) (o : Int × List (List Pt × Bool)) (e : Ending) (w' : World) : Prop := ∃ v S, e = .returned (.tuple #[v, .int .i64 o.1]) ∧ SubsR w' v S ∧ S.map Sb.plain = o.2 ∧ Below w.heap.size w w'
/-- What lies at hand while pieces runs. -/
structure PieM (w : World) (s6 g : Nat) (u : Value) (z : Int) (A : World) : Prop where
  below : Below w.heap.size w A
  size : w.heap.size + 3 ≤ A.heap.size
  t4 : Blk A (w.heap.size + 1) 56 #[u]
  t5 : Blk A (w.heap.size + 1 + 1) 27 #[.int .i64 z]
  t6 : Blk A s6 87 #[.pointer (some ⟨g, 0, none⟩)]
  s6 : w.heap.size + 3 ≤ s6
theorem PieM.keep {R : Nat → Prop} {w A B : World} {s6 g : Nat} {u : Value} {z : Int} (h : PieM w s6 g u z A) (hb : Keep R A B) (hS : ∀ j, j < w.heap.size + 3 → R j) (hs : R s6) : PieM w s6 g u z B :=
  ⟨h.below.trans (hb.below (fun j hj => hS j (by omega)) h.below.size), Nat.le_trans h.size hb.size, hb.blk h.t4 (hS _ (by omega)), hb.blk h.t5 (hS _ (by omega)), hb.blk h.t6 hs, h.s6⟩
theorem PieM.grow {w A B : World} {s6 g : Nat} {u : Value} {z : Int} (h : PieM w s6 g u z A) (hb : Below A.heap.size A B) : PieM w s6 g u z B := h.keep (R := fun _ => True) (Keep.of_below hb) (fun _ _ => trivial) trivial
theorem PieM.told {w A : World} {s6 g : Nat} {u : Value} {z : Int} (h : PieM w s6 g u z A) (u' : Value) (z' : Int) : PieM w s6 g u' z' ((A.setCell ⟨w.heap.size + 1, 0, none⟩ u').setCell ⟨w.heap.size + 1 + 1, 0, none⟩ (.int .i64 z')) :=
  ⟨(h.below.setCell (by simp) _).setCell (by simp; omega) _, by have := h.size; simp [World.setCell]; omega, (h.t4.set 0 u').other _ _ (by simp), (h.t5.other _ _ (by simp)).set 0 (.int .i64 z'), (h.t6.other _ _ (by have := h.s6; simp; omega)).other _ _ (by have := h.s6; simp; omega), h.s6⟩
theorem piece_first {S : Nat → Int} {W : List Pt} {n k : Nat} (hn : n % 2 = 0) (h : S k ≤ 0) : passI (k % n) [] (at0 W 0) = pieceK S W k 0 := by
  unfold passI pieceK
  rw [mod_par hn]
  split
  · unfold upI firstI betwI
    rw [if_pos h]; rfl
  · rfl
set_option maxHeartbeats 8000000 in
set_option maxRecDepth 100000 in
theorem pieces_c (L : List Int) (phase : Int) (W : List Pt) (w : World) (b o n c ow : Nat) (bw m cw : Nat) (hn : L.length = n) (h0 : 0 < n) (h8 : n ≤ 8) (hev : n % 2 = 0) (hok : L.all okL = true) (hp0 : 0 ≤ phase) (hp1 : phase ≤ 9000000) (hL : IntsL w b o L) (hbl : b < w.heap.size) (hg : Grows (patS L phase))
    (hm : W.length = m) (hm0 : 0 < m) (hm2 : m ≤ 2000) (hWy : Way W) (hroom : ∀ p ∈ W, roomP p = true) (hlong : longB W = false) (hw : PtsAt w bw ow W) (hwl : bw < w.heap.size) :
    Calls Try.prog 47 #[.agg #[.slice (some ⟨b, o, none⟩) n c, .int .i64 phase], .slice (some ⟨bw, ow, none⟩) m cw] w (ToldS w ((piecesO (patS L phase) W).1, (piecesO (patS L phase) W).2.map fun l => (l, false))) := by
  obtain ⟨w1, hw1⟩ : ∃ X, ((w.alloc (.cells #[.slice (some ⟨b, o, none⟩) n c, .int .i64 phase] 24)).alloc (.cells #[.slice none 0 0] 56)).alloc (.cells #[.int .i64 0] 27) = X := ⟨_, rfl⟩
  have B1 : Hid (Below w.heap.size w w1 ∧ w1.heap.size = w.heap.size + 3 ∧ Blk w1 (w.heap.size + 1) 56 #[.slice none 0 0] ∧ Blk w1 (w.heap.size + 1 + 1) 27 #[.int .i64 0] ∧ Blk w1 w.heap.size 24 #[.slice (some ⟨b, o, none⟩) n c, .int .i64 phase]) := by
    rw [← hw1]
    exact ⟨(((Below.refl _ _).alloc (Nat.le_refl _) _).alloc (by simp) _).alloc (by simp; omega) _, by simp, (Blk.newAt _ _ _ (by simp)).alloc _, Blk.newAt _ _ _ (by simp), ((Blk.new _ _ _).alloc _).alloc _⟩
  have HW1 := Lib.hid hw1
  have HIL : Hid (∀ A, Below w.heap.size w A → IntsL A b o L) := fun A hA => hL.keep (S := fun j => j < w.heap.size) ⟨hA.os, hA.tape, hA.output, hA.size, fun k hk _ => hA.block k hk⟩ hbl hbl
  have HPW : Hid (∀ A, Below w.heap.size w A → PtsAt A bw ow W) := fun A hA => hw.on hA hwl
  have HHAND := Lib.hid (hand_c L phase w1 b o n c hn h0 h8 hok hp0 hp1 (HIL.out w1 B1.out.1) (by have := B1.out.2.1; omega))
  have HRM : Hid (∀ i, i < m → roomP (at0 W i) = true) := fun i hi => hroom _ (List.mem_of_getElem? (at0_some (by omega)))
  have HLN : Hid (∀ i, i + 1 < m → lenB (subP (at0 W (i + 1)) (at0 W i)) = true) := fun i hi => by
    cases h : lenB (subP (at0 W (i + 1)) (at0 W i)) with
    | true => rfl
    | false => exact absurd (longN_at (n := W.length - 1) (k := i) (by omega) h) (by unfold longB at hlong; rw [hlong]; decide)
  obtain ⟨x0, y0⟩ : Int × Int := (0, 0)
  obtain ⟨⟨px, py⟩, hpp⟩ : ∃ p, at0 W 0 = p := ⟨_, rfl⟩
  have HP0 : Hid (W[0]? = some (px, py)) := by unfold Hid; rw [← hpp]; exact at0_some (by omega)
  have HAT0 := Lib.hid hpp
  have HLINE : Hid (∀ (A : World) (T : Nat → Prop) (g i k : Nat) (lf0 : Int), (∀ j, A.heap.size ≤ j → T j) → AtK (patS L phase) W n A T g (.slice (some ⟨b, o, none⟩) n c) i k (endsI W i) lf0 → patS L phase k < endsI W (i + 1) → i + 1 < m → Below w.heap.size w A → ¬ T b →
      Calls Try.prog 58 #[.pointer (some ⟨g, 0, none⟩), .agg #[.int .i64 (at0 W i).1, .int .i64 (at0 W i).2], .agg #[.int .i64 (at0 W (i + 1)).1, .int .i64 (at0 W (i + 1)).2]] A (LineP (patS L phase) W n A T g (.slice (some ⟨b, o, none⟩) n c) i k)) :=
    fun A T g i k lf0 hT hA hs hi hb hTb => line_c L phase W A T hT g b o n c i k lf0 hA hs hn h0 h8 hev hok hWy (by omega) (by omega) (HRM.out i (by omega)) (HRM.out (i + 1) hi) (HLN.out i hi) (HIL.out A hb) hTb (Nat.lt_of_lt_of_le hbl hb.size)
  have HMANY : Hid (∀ k, patS L phase k < allI W → 4096 < (doneI (patS L phase) W k).length → 4096 < (piecesI (patS L phase) W).length) := fun k h1 h2 => many_of hg h1 h2
  have HEND : Hid (∀ k, patS L phase k < allI W → endsI W (m - 1) ≤ patS L phase (k + 1) → 0 < patS L phase (k + 1) → piecesI (patS L phase) W = doneI (patS L phase) W (k + 1)) := fun k h1 h2 h3 => end_of hg h1 (by rw [hm]; exact h2) h3
  have HLIFT : Hid (∀ k, endsI W (m - 1) ≤ patS L phase (k + 1) → 0 < patS L phase (k + 1) → (doneI (patS L phase) W k).length ≤ 4096 → _) := fun k h1 h2 h3 => lift_end (S := patS L phase) (k := k) hWy (by rw [hm]; exact h1) h2 h3
  rw [hm] at HLIFT
  have HFST : Hid (∀ k, patS L phase k ≤ 0 → passI (k % n) [] (px, py) = pieceK (patS L phase) W k 0) := fun k h => by rw [← hpp]; exact piece_first hev h
  have HEM : Hid (∀ i, i + 1 < m → endsI W i < endsI W (i + 1) ∧ 1 ≤ endsI W (i + 1) ∧ endsI W (i + 1) ≤ allI W) := fun i hi => by
    have h1 := ends_lt hWy (i := i) (j := i + 1) (by omega) (by omega)
    have h2 := ends_nonneg hWy (i := i) (by omega)
    have h3 := ends_le hWy (W.length - 1) (i + 1) (by omega) (by omega)
    have := (all_pos W).2
    omega
  have HALL : Hid (allI W = max (endsI W (m - 1)) 1) := by unfold Hid allI; rw [hm]
  have HM := Lib.hid hm
  have HBL := Lib.hid (And.intro hbl hwl)
  have HMM := Lib.hid (And.intro hm0 hm2)
  have HE0 : Hid (endsI W 0 = 0) := rfl
  have HMANYO := Lib.hid (@piecesO_many (patS L phase) W)
  clear hw1 hn h0 h8 hev hok hp0 hp1 hL hbl hg hm hWy hroom hlong hw hwl hpp hm2 x0 y0 HRM HLN
  generalize patS L phase = S at *
  refine callsIn_wide.1 (callsIn_of_wp_marks (n := 9) Try.func47 rfl trivial (wpIn_wide.2 ?_))
  simp only [Try.ntmps47, List.size_toArray, List.length_cons, List.length_nil, Nat.reduceAdd, Nat.reduceSub, Array.replicate_succ, Array.replicate_zero, List.push_toArray, List.append_toArray, List.nil_append, List.cons_append]
  go_wp2_with fail
  rw [HW1.out]
  refine HHAND.out.mono ?_
  rintro e w2 ⟨g, k0, rfl, hb2, hh2, hs0, hs1, hs2, hs3⟩
  have B2 : Hid (Below w.heap.size w w2) := B1.out.1.trans (hb2.mono B1.out.1.size)
  have KS := Lib.hid (And.intro hs0 (And.intro hs1 hs2))
  obtain ⟨w3, hw3⟩ : ∃ X, w2.alloc (.cells #[.pointer (some ⟨g, 0, none⟩)] 87) = X := ⟨_, rfl⟩
  have hb3 : Below w2.heap.size w2 w3 := by rw [← hw3]; exact (Below.refl _ _).alloc (Nat.le_refl _) _
  have M3 : Hid (PieM w w2.heap.size g (.slice none 0 0) 0 w3) := ⟨B2.out.trans (hb3.mono B2.out.size), by have := B1.out.2.1; have := hb2.size; have := hb3.size; omega, (B1.out.2.2.1.grow hb2).grow hb3, (B1.out.2.2.2.1.grow hb2).grow hb3, by rw [← hw3]; exact Blk.new _ _ _, by have := B1.out.2.1; have := hb2.size; omega⟩
  have H3 : Hid (HandAt w3 (fun j => w.heap.size + 3 ≤ j ∧ j ≠ w2.heap.size) g (.slice (some ⟨b, o, none⟩) n c) (k0 % n) (S (k0 + 1)) [] []) := (hh2.mono (R := fun j => w.heap.size + 3 ≤ j ∧ j ≠ w2.heap.size) (fun j hj hl => ⟨by have := B1.out.2.1; omega, by omega⟩)).grow hb3
  have HW3 := Lib.hid hw3
  have Z3 : Hid (w3.heap.size = w2.heap.size + 1) := by unfold Hid; rw [← hw3]; simp
  have HPASS : Hid (Calls Try.prog 57 #[.pointer (some ⟨g, 0, none⟩), .agg #[.int .i64 px, .int .i64 py]] w3.drew fun e w' => e = .returned (.tuple #[]) ∧ AtK S W n w' (fun j => w.heap.size + 3 ≤ j ∧ j ≠ w2.heap.size) g (.slice (some ⟨b, o, none⟩) n c) 0 k0 (endsI W 0) (S (k0 + 1)) ∧ Keep (fun j => ¬ (w.heap.size + 3 ≤ j ∧ j ≠ w2.heap.size)) w3 w') := by
    have hd := below_drewN (Below.refl w3.heap.size w3) 1
    refine (pass_c (px, py) w3.drew (fun j => w.heap.size + 3 ≤ j ∧ j ≠ w2.heap.size) (fun j hj => by have h1 := Z3.out; have h2 := M3.out.size; have h3 : w3.heap.size ≤ j := hj; omega) g _ (k0 % n) _ [] [] (H3.out.grow hd) (by simp)).mono ?_
    rintro e w' ⟨rfl, h1, h2⟩
    rw [HFST.out k0 hs0] at h1
    have hz : doneI S W k0 = [] := doneI_none k0 hs3
    exact ⟨rfl, ⟨by rw [hz]; exact h1, by rw [HE0.out]; omega, by omega, hs2, by rw [HE0.out]; exact hs0, hs1, by rw [hz]; simp⟩, (Keep.of_below hd).trans h2⟩
  clear hb2 hh2 hs0 hs1 hs2 hs3 hw3 hb3
  go_wp2_with fail
  rw [HW3.out]
  have HC6 : Hid (∀ A, Below w3.heap.size w3 A → A.cell? ⟨w2.heap.size, 0, none⟩ = some (.pointer (some ⟨g, 0, none⟩)) ∧ A.cell? ⟨bw, ow, none⟩ = some (.int .i64 px) ∧ A.cell? ⟨bw, ow + 1, none⟩ = some (.int .i64 py)) := fun A hA => by
    have hp := HPW.out A (M3.out.below.trans (hA.mono M3.out.below.size)) 0 _ HP0.out
    simp only [Nat.zero_mul, Nat.add_zero] at hp
    exact ⟨(M3.out.t6.grow hA).cell 0, hp.1, hp.2⟩
  refine wp_region_put2 (by kernel_rfl) (by kernel_rfl) (by kernel_rfl) (fun b' vs w' => (b' 0 = true → vs 0 = .pointer (some ⟨g, 0, none⟩)) ∧ (b' 1 = true → vs 1 = .slice (some ⟨bw, ow, none⟩) m cw) ∧ (b' 2 = true → vs 2 = .pointer (some ⟨bw, ow, none⟩)) ∧ (b' 3 = true → vs 3 = .agg #[.int .i64 px, .int .i64 py]) ∧ (b' 4 = false → w' = w3.drew) ∧ (b' 4 = true → Hid (AtK S W n w' (fun j => w.heap.size + 3 ≤ j ∧ j ≠ w2.heap.size) g (.slice (some ⟨b, o, none⟩) n c) 0 k0 (endsI W 0) (S (k0 + 1)) ∧ Keep (fun j => ¬ (w.heap.size + 3 ≤ j ∧ j ≠ w2.heap.size)) w3 w')) ∧ Hid (b' 4 = false → Below w3.heap.size w3 w') ∧ (b' 4 = true → b' 0 = true ∧ b' 3 = true)) ?_ ?_ ?_
  · intro vs hvs
    exact ⟨fun h => Bool.noConfusion h, fun h => Bool.noConfusion h, fun h => Bool.noConfusion h, fun h => Bool.noConfusion h, fun _ => rfl, fun h => Bool.noConfusion h, Lib.hid (fun _ => below_drewN (Below.refl _ _) 1), fun h => Bool.noConfusion h⟩
  · rintro b' vs w' i op hi hun hall ⟨h0, h1, h2, h3, hE, hG, hD, hX⟩
    have hil : i < 5 := (List.getElem?_eq_some_iff.1 hi).1
    rcases i with _ | _ | _ | _ | _ | i
    · obtain rfl := Option.some.inj hi
      have n4 : Hid (b' 4 = false) := Bool.eq_false_iff.2 (fun hz => absurd (hX hz).1 (by rw [hun]; decide))
      have cc := (HC6.out w' (hD.out n4.out)).1
      refine wpOp_step rfl (fun K hK => ?_)
      have HKK := Lib.hid hK; clear hK
      simp only [putAll, Act.put, List.setIfInBounds_toArray, List.set_cons_zero, List.set_cons_succ]
      go_simp
      exact HKK.out _ _ ⟨_, by simp only [putAll, Act.put, List.setIfInBounds_toArray, List.set_cons_zero, List.set_cons_succ] <;> rfl, fun _ => rfl, h1, h2, h3, hE, hG, hD, fun h => absurd (show b' 4 = true from h) (by rw [n4.out]; decide)⟩
    · obtain rfl := Option.some.inj hi
      refine wpOp_step rfl (fun K hK => ?_)
      have HKK := Lib.hid hK; clear hK
      simp only [putAll, Act.put, List.setIfInBounds_toArray, List.set_cons_zero, List.set_cons_succ]
      go_simp
      exact HKK.out _ _ ⟨_, by simp only [putAll, Act.put, List.setIfInBounds_toArray, List.set_cons_zero, List.set_cons_succ] <;> rfl, h0, fun _ => rfl, h2, h3, hE, hG, hD, hX⟩
    · obtain rfl := Option.some.inj hi
      have d1 := h1 (hall ⟨1, .data⟩ (by simp) rfl)
      refine wpOp_step rfl (fun K hK => ?_)
      have HKK := Lib.hid hK; clear hK
      simp only [putAll, Act.put, List.setIfInBounds_toArray, List.set_cons_zero, List.set_cons_succ, d1]
      go_simp
      exact HKK.out _ _ ⟨_, by simp only [putAll, Act.put, List.setIfInBounds_toArray, List.set_cons_zero, List.set_cons_succ, d1] <;> rfl, h0, h1, fun _ => rfl, h3, hE, hG, hD, hX⟩
    · obtain rfl := Option.some.inj hi
      have d2 := h2 (hall ⟨2, .data⟩ (by simp) rfl)
      have n4 : Hid (b' 4 = false) := Bool.eq_false_iff.2 (fun hz => absurd (hX hz).2 (by rw [hun]; decide))
      have cc := (HC6.out w' (hD.out n4.out)).2
      obtain ⟨cx, cy⟩ := cc
      refine wpOp_step rfl (fun K hK => ?_)
      have HKK := Lib.hid hK; clear hK
      simp only [putAll, Act.put, List.setIfInBounds_toArray, List.set_cons_zero, List.set_cons_succ, d2]
      go_simp
      exact HKK.out _ _ ⟨_, by simp only [putAll, Act.put, List.setIfInBounds_toArray, List.set_cons_zero, List.set_cons_succ, d2] <;> rfl, h0, h1, h2, fun _ => rfl, hE, hG, hD, fun h => absurd (show b' 4 = true from h) (by rw [n4.out]; decide)⟩
    · obtain rfl := Option.some.inj hi
      have d0 := h0 (hall ⟨0, .data⟩ (by simp) rfl)
      have d3 := h3 (hall ⟨3, .data⟩ (by simp) rfl)
      have hwr := hE hun
      subst hwr
      refine wpOp_step rfl (fun K hK2 => ?_)
      have HKK := Lib.hid hK2; clear hK2
      simp only [putAll, Act.put, List.setIfInBounds_toArray, List.set_cons_zero, List.set_cons_succ, d0, d3]
      go_simp
      refine HPASS.out.mono ?_
      rintro e B ⟨rfl, hj, hkp⟩
      exact HKK.out _ _ ⟨_, by simp only [putAll, Act.put, List.setIfInBounds_toArray, List.set_cons_zero, List.set_cons_succ, d0, d3] <;> rfl, h0, h1, h2, h3, fun h => Bool.noConfusion h, fun _ => Lib.hid ⟨hj, hkp⟩, Lib.hid (fun h => Bool.noConfusion h), fun _ => ⟨hall ⟨0, .data⟩ (by simp) rfl, hall ⟨3, .data⟩ (by simp) rfl⟩⟩
    · exact absurd hil (by omega)
  · rintro b' vs w' hb ⟨h0, h1, h2, h3, hE, hG, hD, hX⟩
    have d0 := h0 (hb 0 (by decide))
    have d1 := h1 (hb 1 (by decide))
    have d2 := h2 (hb 2 (by decide))
    have d3 := h3 (hb 3 (by decide))
    have G := hG (hb 4 (by decide))
    simp only [putAll, Act.put, List.setIfInBounds_toArray, List.set_cons_zero, List.set_cons_succ, Nat.zero_add, Nat.reduceAdd, d0, d1, d2, d3]
    clear hb h0 h1 h2 h3 hE hG hD hX d0 d1 d2 d3
    generalize vs 4 = v17
    obtain ⟨w4, rfl⟩ : ∃ x, x = w' := ⟨_, rfl⟩
    have M4 : Hid (PieM w w2.heap.size g (.slice none 0 0) 0 w4) := M3.out.keep G.out.2 (fun j hj => by omega) (by simp)
    have A4 := Lib.hid G.out.1
    clear G
    go_wp2_with fail
    refine (lines_c _ m cw _).mono ?_
    rintro e w5 ⟨rfl, rfl⟩
    go_wp2_with fail
    obtain ⟨w5, hw5⟩ : ∃ x, w4.alloc (.cells #[.slice (some ⟨bw, ow, none⟩) m cw] 44) = x := ⟨_, rfl⟩
    have hb5 : Below w4.heap.size w4 w5 := by rw [← hw5]; exact (Below.refl _ _).alloc (Nat.le_refl _) _
    have z5 : w5.heap.size = w4.heap.size + 1 := by rw [← hw5]; simp
    have hx5 : Blk w5 w4.heap.size 44 #[.slice (some ⟨bw, ow, none⟩) m cw] := by rw [← hw5]; exact Blk.new _ _ _
    have M5 := Lib.hid (M4.out.grow hb5)
    obtain ⟨TT, hTT⟩ : ∃ TT : Nat → Prop, TT = fun j => (w.heap.size + 3 ≤ j ∧ j ≠ w2.heap.size) ∧ ¬ (w4.heap.size ≤ j ∧ j < w4.heap.size + 3) := ⟨_, rfl⟩
    have A5 : Hid (AtK S W n w5 TT g (.slice (some ⟨b, o, none⟩) n c) 0 k0 (endsI W 0) (S (k0 + 1))) := (A4.out.mono (fun j hj hl => by rw [hTT]; exact ⟨hj, by omega⟩)).grow hb5
    have Z5 : Hid (w5.heap.size = w4.heap.size + 1 ∧ w2.heap.size < w4.heap.size ∧ w.heap.size + 3 ≤ w2.heap.size) := ⟨z5, M4.out.t6.lt, M4.out.s6⟩
    have HX5 := Lib.hid hx5
    have HTT := Lib.hid hTT
    rw [hw5]
    clear hw5 hb5 hx5 M4 A4 z5 hTT
    refine wp_lines (bx := w4.heap.size) (l := W) (n := m) (ao := some ⟨bw, ow, none⟩) (c := cw) (fun j => j = w4.heap.size ∨ j = bw) rfl rfl HX5.out.lt (.inl rfl) (HX5.out.cell 0) ?row HM.out (by have := HMM.out; omega) ?ks
      (fun k A => PieM w w2.heap.size g (.slice none 0 0) 0 A ∧ w5.heap.size ≤ A.heap.size ∧ ∃ (kk : Nat) (lf : Int), AtK S W n A TT g (.slice (some ⟨b, o, none⟩) n c) (k - 1) kk (endsI W (k - 1)) lf ∧ S kk < max (endsI W (k - 1)) 1) ?hI
      (fun A => PieM w w2.heap.size g (.slice none 0 0) 36 A ∧ w5.heap.size ≤ A.heap.size ∧ 4096 < (piecesI S W).length) ?hIx
      ⟨M5.out, Nat.le_refl _, k0, _, A5.out, by have := KS.out.1; omega⟩
      (fun p q gg => #[Value.agg #[Value.slice (some ⟨b, o, none⟩) n c, Value.int IntKind.i64 phase], Value.slice (some ⟨bw, ow, none⟩) m cw, Value.pointer (some ⟨w.heap.size, 0, none⟩),
              undef, Value.pointer (some ⟨w.heap.size + 1, 0, none⟩), Value.pointer (some ⟨w.heap.size + 1 + 1, 0, none⟩),
              Value.pointer (some ⟨w2.heap.size, 0, none⟩), .pointer (some ⟨gg, 0, none⟩), .pointer (some ⟨gg + 1, 0, none⟩), undef, undef,
              Value.agg #[Value.slice (some ⟨b, o, none⟩) n c, Value.int IntKind.i64 phase],
              Value.pointer (some ⟨g, 0, none⟩), Value.pointer (some ⟨g, 0, none⟩),
              Value.slice (some ⟨bw, ow, none⟩) m cw, Value.pointer (some ⟨bw, ow, none⟩),
              Value.agg #[Value.int IntKind.i64 px, Value.int IntKind.i64 py], v17,
              Value.slice (some ⟨bw, ow, none⟩) m cw,
              Value.func (Fn.func 55) #[] #[Value.pointer (some ⟨w4.heap.size, 0, none⟩)], .agg #[.int .i64 p.1, .int .i64 p.2], .agg #[.int .i64 q.1, .int .i64 q.2], undef,
              undef, undef, undef, undef, undef, undef, undef, undef, undef, undef, undef, undef, undef, undef, undef])
      (fun p q A => (A.alloc (.cells #[.int .i64 p.1, .int .i64 p.2] 32)).alloc (.cells #[.int .i64 q.1, .int .i64 q.2] 32))
      (fun p q A => (Keep.alloc _ _ _).trans (Keep.alloc _ _ _))
      ?assign ?body ?done ?stop
    case row =>
      intro k hk
      exact ⟨bw, ow, rfl, .inr rfl, by have := HBL.out; have := Z5.out; omega, HPW.out w5 M5.out.below⟩
    case ks =>
      have := HBL.out
      have := Z5.out
      rintro j (rfl | rfl) <;> omega
    case hI =>
      rintro k A B ⟨h1, h2, kk, lf, h3, h4⟩ hk
      have hz := Z5.out
      refine ⟨h1.keep hk (fun j hj => by omega) (by omega), Nat.le_trans h2 hk.size, kk, lf, h3.keep hk (fun j hj _ => ?_), h4⟩
      rw [HTT.out] at hj
      omega
    case hIx =>
      rintro A B ⟨h1, h2, h3⟩ hk
      have hz := Z5.out
      exact ⟨h1.keep hk (fun j hj => by omega) (by omega), Nat.le_trans h2 hk.size, h3⟩
    case assign =>
      intro L p q A K hK
      gi_wp2
      exact hK
    case body =>
      rintro L k p q A oo B hk hp hq ⟨h1, h2, kk, lf, h3, h4⟩ hN hB
      have hz := Z5.out
      have hkm : k - 1 + 1 < m := by have := (List.getElem?_eq_some_iff.1 hq).1; have := HM.out; omega
      have zB : B.heap.size = A.heap.size + 2 := by rw [hB]; simp
      have kAB : Keep (fun j => j ≠ w5.heap.size + 1) A B := by rw [hB]; exact ((Keep.alloc _ _ _).trans (Keep.alloc _ _ _)).trans (Keep.putObj _ _ _ _ (by simp))
      have bp : Blk B A.heap.size 32 (two p) := by rw [hB]; exact ((Blk.new _ _ _).alloc _).putOther _ (by omega)
      have bq : Blk B (A.heap.size + 1) 32 (two q) := by rw [hB]; exact (Blk.newAt _ _ _ (by simp)).putOther _ (by omega)
      have MB := Lib.hid (h1.keep kAB (fun j hj => by omega) (by omega))
      obtain ⟨TB, hTB⟩ : ∃ TB : Nat → Prop, TB = fun j => (TT j ∧ j < A.heap.size) ∨ B.heap.size ≤ j := ⟨_, rfl⟩
      have AB : AtK S W n B TB g (.slice (some ⟨b, o, none⟩) n c) (k - 1) kk (endsI W (k - 1)) lf := by
        refine (h3.mono (R := fun j => TT j ∧ j < A.heap.size) (fun j hj hl => ⟨hj, hl⟩)).keep kAB (fun j hj _ => ?_) |>.mono (fun j hj _ => by rw [hTB]; exact .inl hj)
        have := hj.1
        rw [HTT.out] at this
        omega
      have hem := HEM.out (k - 1) hkm
      have HC := HLINE.out B TB g (k - 1) kk lf (fun j hj => by rw [hTB]; exact .inr hj) AB (by omega) hkm MB.out.below (fun hb => by
        have hbb := HBL.out
        rw [hTB, HTT.out] at hb
        have := MB.out.size
        omega)
      have hpe : at0 W (k - 1) = p := at0_eq hp
      have hqe : at0 W (k - 1 + 1) = q := by rw [show k - 1 + 1 = k by omega]; exact at0_eq hq
      rw [hpe, hqe] at HC
      have HC2 := Lib.hid HC
      have HTB := Lib.hid hTB
      have HZB : Hid (B.heap.size = A.heap.size + 2 ∧ w5.heap.size + 2 ≤ A.heap.size) := ⟨zB, hN⟩
      have HEM2 := Lib.hid hem
      have HKK2 := Lib.hid hk
      have a0 := bp.p0
      have a1 := bp.p1
      have b0 := bq.p0
      have b1 := bq.p1
      have c6 : B.cell? ⟨w2.heap.size, 0, none⟩ = some (.pointer (some ⟨g, 0, none⟩)) := MB.out.t6.cell 0
      clear hk hp hq h1 h2 h3 h4 hN hB hz hkm zB kAB bp bq AB hem HC hpe hqe hTB
      gi_wp2_with fail
      refine ⟨trivial, (CallsIn.inRound L (callsIn_wide.2 HC2.out)).mono ?_⟩
      rintro e w8 ⟨k8, ⟨rfl, kk2, lf2, hle, h5, hs5⟩ | ⟨rfl, k6, h6, h7⟩⟩
      · have K8 := Lib.hid k8
        have A8 := Lib.hid h5
        have S8 := Lib.hid hs5
        clear k8 h5 hs5 a0 a1 b0 b1 c6
        gi_wp2_with fail
        have hz := Z5.out
        have hzb := HZB.out
        have hbb := HBL.out
        have hms := MB.out.size
        have hkk := HKK2.out
        have hem := HEM2.out
        refine ⟨K8.out.mono (fun j hj ht => ?_), MB.out.keep K8.out (fun j hj ht => ?_) (fun ht => ?_), by have := K8.out.size; omega, kk2, lf2, ?_, ?_⟩
        · rw [HTB.out, HTT.out] at ht
          rcases hj with (h | h) | h | h <;> omega
        · rw [HTB.out, HTT.out] at ht
          omega
        · rw [HTB.out, HTT.out] at ht
          omega
        · rw [show k + 1 - 1 = k - 1 + 1 by omega]
          refine A8.out.mono (fun j hj _ => ?_)
          rw [HTB.out] at hj
          rcases hj with h | h
          · exact h.1
          · rw [HTT.out]; omega
        · rw [show k + 1 - 1 = k - 1 + 1 by omega]
          have := S8.out
          omega
      · have K8 := Lib.hid k8
        have HMN := Lib.hid (HMANY.out (k6 + 1) (by have := HEM2.out.2.2; omega) h7)
        have hz := Z5.out
        have hzb := HZB.out
        have hbb := HBL.out
        have hms := MB.out.size
        have M8 : Hid (PieM w w2.heap.size g (.slice none 0 0) 0 w8) := MB.out.keep k8 (fun j hj ht => by rw [HTB.out, HTT.out] at ht; omega) (fun ht => by rw [HTB.out, HTT.out] at ht; omega)
        clear k8 h6 h7 a0 a1 b0 b1 c6 hz hzb hbb hms
        have d1 := M8.out.t4.cell 0
        have d2 := M8.out.t5.cell 0
        have f1 := M8.out.t4.free 0
        have f2 := M8.out.t5.free 0
        have l1 := M8.out.t4.lt
        have l2 := M8.out.t5.lt
        simp only [List.getElem?_toArray, List.getElem?_cons_zero] at d1 d2
        gi_wp2_with fail
        have hz := Z5.out
        have hzb := HZB.out
        have hbb := HBL.out
        have hms := MB.out.size
        have hne : ∀ j, j = w.heap.size + 1 ∨ j = w.heap.size + 1 + 1 → ¬ RoundL (fun j => j = w4.heap.size ∨ j = bw) w5.heap.size j := by
          rintro j hj ((h | h) | h | h) <;> omega
        refine ⟨((K8.out.mono fun j hj ht => ?_).trans (Keep.setCell _ _ _ (hne _ (.inl rfl)))).trans (Keep.setCell _ _ _ (hne _ (.inr rfl))), M8.out.told (.slice none 0 0) 36, by have := K8.out.size; simp [World.setCell]; omega, HMN.out⟩
        rw [HTB.out, HTT.out] at ht
        rcases hj with (h | h) | h | h <;> omega
    case done =>
      rintro D ⟨h1, h2, kk, lf, h3, h4⟩ hD
      have hz := Z5.out
      have hmm := HMM.out
      rw [Nat.max_eq_left (by omega)] at h3 h4
      have hDl := (Array.getElem?_eq_some_iff.1 hD).1
      obtain ⟨TL, hTL⟩ : ∃ TL : Nat → Prop, TL = fun j => (TT j ∧ j < D.heap.size) ∨ D.heap.size ≤ j := ⟨_, rfl⟩
      have AL := h3.mono (R := TL) (fun j hj hl => by rw [hTL]; exact .inl ⟨hj, hl⟩)
      have hle : endsI W (m - 1) ≤ S (kk + 1) := by have := AL.left; have := AL.pos; omega
      have hal : S kk < allI W := by rw [HALL.out]; exact h4
      have HPI := Lib.hid (HEND.out kk hal hle AL.end_)
      have HLF := Lib.hid (HLIFT.out kk hle AL.end_ AL.few)
      have HLC := lift_c D TL (fun j hj => by rw [hTL]; exact .inr hj) g _ _ _ _ _ AL.hand AL.few
      have HOFF : Hid (∀ j, (j < w.heap.size + 3 ∨ j = w2.heap.size ∨ j = w5.heap.size) → ¬ TL j) := fun j hj ht => by
        rw [hTL, HTT.out] at ht
        have := h1.size
        omega
      have HLC2 := Lib.hid HLC
      have M8 := Lib.hid h1
      have HD8 := Lib.hid hD
      have c6 : D.cell? ⟨w2.heap.size, 0, none⟩ = some (.pointer (some ⟨g, 0, none⟩)) := h1.t6.cell 0
      clear h1 h2 h3 h4 hD hz hmm hDl hTL AL hle hal HLC
      dsimp only
      go_wp2_with fail
      refine HLC2.out.mono ?_
      rintro e w9 ⟨rfl, h9, k9⟩
      have K9 := Lib.hid k9
      have M9 : Hid (PieM w w2.heap.size g (.slice none 0 0) 0 w9) := M8.out.keep k9 (fun j hj => HOFF.out j (.inl hj)) (HOFF.out _ (.inr (.inl rfl)))
      have HD9 : Hid (w9.heap[w5.heap.size]? = some (.deferred (some []))) := (k9.block _ (HOFF.out _ (.inr (.inr rfl))) (Array.getElem?_eq_some_iff.1 HD8.out).1).trans HD8.out
      have H9 := Lib.hid h9
      clear h9 k9 c6
      have d1 := M9.out.t4.cell 0
      have d2 := M9.out.t5.cell 0
      have f1 := M9.out.t4.free 0
      have f2 := M9.out.t5.free 0
      have l1 := M9.out.t4.lt
      have l2 := M9.out.t5.lt
      have c6 : w9.cell? ⟨w2.heap.size, 0, none⟩ = some (.pointer (some ⟨g, 0, none⟩)) := M9.out.t6.cell 0
      simp only [List.getElem?_toArray, List.getElem?_cons_zero] at d1 d2
      rcases HLF.out with ⟨hl, hl2⟩ | ⟨hl, hl2⟩
      · rw [hl] at H9 ⊢
        have HPO : Hid (piecesO S W = (0, doneI S W (kk + 1))) := by unfold Hid piecesO; rw [HPI.out, if_neg (by omega)]
        obtain ⟨pv, qv, SS, hv, hmap⟩ := H9.out
        obtain ⟨qa, qc, rfl⟩ := subs_shape hv.row
        have c4 : w9.cell? ⟨g, 4, none⟩ = some (.slice qa SS.length qc) := hv.blk.cell 4
        have lg := hv.blk.lt
        have HV := Lib.hid hv
        have HMAP := Lib.hid hmap
        obtain ⟨qn, hqn⟩ : ∃ qn, SS.length = qn := ⟨_, rfl⟩
        rw [hqn] at c4
        have HQN := Lib.hid hqn
        clear hv hmap hl hl2 hqn
        go_wp2_with fail
        have hz := Z5.out
        have M10 := M9.out.told (.slice qa qn qc) 0
        have k10 : Keep (fun j => j ≠ w.heap.size + 1 ∧ j ≠ w.heap.size + 1 + 1) w9 ((w9.setCell ⟨w.heap.size + 1, 0, none⟩ (.slice qa qn qc)).setCell ⟨w.heap.size + 1 + 1, 0, none⟩ (.int .i64 0)) := (Keep.setCell _ _ _ (by simp)).trans (Keep.setCell _ _ _ (by simp))
        refine postM_ret (.tuple #[.slice qa qn qc, .int .i64 0]) ((k10.block _ (by omega) (Array.getElem?_eq_some_iff.1 HD9.out).1).trans HD9.out) (results_sl (.inr rfl) 4 5 rfl rfl rfl (M10.t4.putOther _ (by omega)) (M10.t5.putOther _ (by omega))) ?_
        rw [HPO.out]
        have hk : ∀ j, TL j → (j ≠ w.heap.size + 1 ∧ j ≠ w.heap.size + 1 + 1) ∧ j ≠ w5.heap.size := fun j hj => ⟨⟨fun e => HOFF.out j (.inl (by omega)) hj, fun e => HOFF.out j (.inl (by omega)) hj⟩, fun e => HOFF.out j (.inr (.inr e)) hj⟩
        have h := (HV.out.keep k10 (fun j hj _ => (hk j hj).1)).keep (Keep.putObj (fun j => j ≠ w5.heap.size) _ w5.heap.size (.deferred none) (by simp)) (fun j hj _ => (hk j hj).2)
        refine ⟨.slice qa qn qc, SS, rfl, ⟨by have hr := h.row; rw [HQN.out] at hr ⊢; exact hr, h.subs⟩, HMAP.out, (Keep.putObj (fun j => j < w.heap.size) _ w5.heap.size (.deferred none) (by omega)).below (fun _ h => h) M10.below.size |> M10.below.trans⟩
      · have HPO : Hid (piecesO S W = (36, [])) := HMANYO.out (by rw [HPI.out]; exact hl2)
        rw [hl]
        clear hl hl2
        go_wp2_with fail
        have hz := Z5.out
        have M10 := M9.out.told (.slice none 0 0) 36
        have k10 : Keep (fun j => j ≠ w.heap.size + 1 ∧ j ≠ w.heap.size + 1 + 1) w9 ((w9.setCell ⟨w.heap.size + 1, 0, none⟩ (.slice none 0 0)).setCell ⟨w.heap.size + 1 + 1, 0, none⟩ (.int .i64 36)) := (Keep.setCell _ _ _ (by simp)).trans (Keep.setCell _ _ _ (by simp))
        refine postM_ret (.tuple #[.slice none 0 0, .int .i64 36]) ((k10.block _ (by omega) (Array.getElem?_eq_some_iff.1 HD9.out).1).trans HD9.out) (results_sl (.inr rfl) 4 5 rfl rfl rfl (M10.t4.putOther _ (by omega)) (M10.t5.putOther _ (by omega))) ?_
        rw [HPO.out]
        exact ⟨_, [], rfl, SubsR.nil _, rfl, (Keep.putObj (fun j => j < w.heap.size) _ w5.heap.size (.deferred none) (by omega)).below (fun _ h => h) M10.below.size |> M10.below.trans⟩
    case stop =>
      rintro D ⟨h1, h2, h3⟩ hD
      have hz := Z5.out
      refine postM_ret (.tuple #[.slice none 0 0, .int .i64 36]) hD (results_sl (.inr rfl) 4 5 rfl rfl rfl (h1.t4.putOther _ (by omega)) (h1.t5.putOther _ (by omega))) ?_
      rw [HMANYO.out h3]
      exact ⟨_, [], rfl, SubsR.nil _, rfl, (Keep.putObj (fun j => j < w.heap.size) _ w5.heap.size (.deferred none) (by omega)).below (fun _ h => h) h1.below.size |> h1.below.trans⟩
end Go.Proofs.Ytclkkdhfdoidfaa
