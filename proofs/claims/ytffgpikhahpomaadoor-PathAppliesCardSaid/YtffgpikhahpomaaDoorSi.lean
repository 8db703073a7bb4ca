/- Layer 6: add brings a segment to the end of a subpath. -/
import Derived.Test.YtffgpikhahpomaaDoorSh
namespace Go.Proofs.YtffgpikhahpomaaDoor
open Go.RowKit
/-- An append to a row, behind calls that leave older memory. -/
structure Grew (w0 : World) (base : Nat) (t : TypeId) (v : Value) (L : List Pt) (u : Value) (W : World) : Prop where
  mid : ∃ Wm, Below w0.heap.size w0 Wm ∧ Wm.grownBy W v.ownBlock ∧ Moved Wm v u
  own : Own W base t u L
/-- What holds in the region of add that appends a point. -/
def AddM (w0 : World) (g o base : Nat) (v : Value) (L : List Pt) (p : Pt) (b : Nat → Bool) (vs : Nat → Value) (w : World) : Prop :=
  (b 8 = false → Below w0.heap.size w0 w ∧ (b 7 = true → Row w (vs 7) [p])) ∧ (b 8 = true → b 11 = false → Grew w0 base 44 v (L ++ [p]) (vs 8) w) ∧ (b 11 = true → ∃ W1, w = W1.setCell ⟨g, o, none⟩ (vs 8) ∧ Grew w0 base 44 v (L ++ [p]) (vs 8) W1)
section
variable {w0 w w' : World} {g o base : Nat} {v : Value} {L : List Pt} {p : Pt} {b : Nat → Bool} {vs : Nat → Value}
theorem AddM.other (h : AddM w0 g o base v L p b vs w) (i : Nat) (u : Value) (h7 : 7 ≠ i) (h8 : 8 ≠ i) (h11 : 11 ≠ i) : AddM w0 g o base v L p (upd b i true) (upd vs i u) w := by
  unfold AddM
  rw [upd_other _ _ _ _ h7, upd_other _ _ _ _ h8, upd_other _ _ _ _ h11, upd_other _ _ _ _ h7, upd_other _ _ _ _ h8]
  exact h
theorem AddM.call (h : AddM w0 g o base v L p b vs w) (i : Nat) (u : Value) (h7 : 7 ≠ i) (h8 : 8 ≠ i) (h11 : 11 ≠ i) (b7 : b 7 = false) (b8 : b 8 = false) (b11 : b 11 = false) (hb : Below w.heap.size w w') : AddM w0 g o base v L p (upd b i true) (upd vs i u) w' := by
  unfold AddM
  rw [upd_other _ _ _ _ h7, upd_other _ _ _ _ h8, upd_other _ _ _ _ h11, upd_other _ _ _ _ h7, upd_other _ _ _ _ h8, b7, b8, b11]
  exact ⟨fun _ => ⟨below_next (h.1 b8).1 hb, fun h => Bool.noConfusion h⟩, fun h => Bool.noConfusion h, fun h => Bool.noConfusion h⟩
theorem AddM.made (h : AddM w0 g o base v L p b vs w) (b8 : b 8 = false) (b11 : b 11 = false) (u : Value) (hr : Row w' u [p]) (hb : Below w.heap.size w w') : AddM w0 g o base v L p (upd b 7 true) (upd vs 7 u) w' := by
  unfold AddM
  rw [upd_same, upd_same, upd_other _ _ _ _ (by decide), upd_other _ _ _ _ (by decide), b8, b11]
  exact ⟨fun _ => ⟨below_next (h.1 b8).1 hb, fun _ => hr⟩, fun h => Bool.noConfusion h, fun h => Bool.noConfusion h⟩
theorem AddM.app (_ : AddM w0 g o base v L p b vs w) (b11 : b 11 = false) (u : Value) (hg : Grew w0 base 44 v (L ++ [p]) u w') : AddM w0 g o base v L p (upd b 8 true) (upd vs 8 u) w' := by
  have e11 : upd b 8 true 11 = false := by rw [upd_other _ _ _ _ (by decide)]; exact b11
  refine ⟨fun h => ?_, fun _ _ => ?_, fun h => ?_⟩
  · rw [upd_same] at h; cases h
  · rw [upd_same]; exact hg
  · rw [e11] at h; cases h
theorem AddM.stored (h : AddM w0 g o base v L p b vs w) (b8 : b 8 = true) (b11 : b 11 = false) (x : Value) : AddM w0 g o base v L p (upd b 11 true) (upd vs 11 x) (w.setCell ⟨g, o, none⟩ (vs 8)) := by
  have e8 : upd b 11 true 8 = true := by rw [upd_other _ _ _ _ (by decide)]; exact b8
  refine ⟨fun h => ?_, fun _ h => ?_, fun _ => ⟨w, ?_, ?_⟩⟩
  · rw [e8] at h; cases h
  · rw [upd_same] at h; cases h
  · rw [upd_other _ _ _ _ (by decide)]
  · rw [upd_other _ _ _ _ (by decide)]; exact h.2.1 b8 b11
end
theorem infoPP : (Tryd.prog.info? 44).map (fun i => (i.zero, i.size, i.bytes)) = some (some (.agg (two (0, 0))), 2, 16) := infoP
theorem own_shape' {W : World} {base : Nat} {t : TypeId} {v : Value} {L : List Pt} (h : Own W base t v L) : ∃ a n c, v = .slice a n c := by
  obtain ⟨_, ⟨rfl, _⟩ | ⟨g, cap, cur, rfl, _⟩⟩ := h <;> exact ⟨_, _, _, rfl⟩
set_option maxHeartbeats 4000000 in
set_option maxRecDepth 100000 in
theorem add_line (x s : Sg) (px py : Int) (d : Int) (g o base : Nat) (v : Value) (L : List Pt) (w : World) (h5 : (s.k == 5) = false) (h3 : (s.k == 3) = false) (h4 : (s.k == 4) = false) (hr : Rd w) (hL : L.length ≤ 90000) (hbase : base ≤ w.heap.size)
    (hc : w.cell? ⟨g, o, none⟩ = some v) (hf : w.frozen? ⟨g, o, none⟩ = false) (hg : g < w.heap.size) (hne : v.ownBlock ≠ some g) (hown : Own w base 44 v L) (hsh : ∃ a n c, v = .slice a n c)
    (HE : Hid (∀ w, Rd w → Calls Tryd.prog 44 #[.agg (seven s.k s.p s.q s.r)] w fun e w' => e = .returned (.agg #[.int .i64 px, .int .i64 py]) ∧ Below w.heap.size w w')) :
    Calls Tryd.prog 38 #[.pointer (some ⟨g, o, none⟩), .agg (seven x.k x.p x.q x.r), .agg (seven s.k s.p s.q s.r), .int .i64 d] w fun e w' => e = .returned (.int .i64 0) ∧ ∃ u W1, w' = W1.setCell ⟨g, o, none⟩ u ∧ Grew w base 44 v (L ++ [(px, py)]) u W1 := by
  obtain ⟨w0, hw0⟩ : ∃ w0, (w.alloc (.cells x.cells 48)).alloc (.cells s.cells 48) = w0 := ⟨_, rfl⟩
  have B0 : Hid (Below w.heap.size w w0) := by rw [← hw0]; exact ((Below.refl _ _).alloc (Nat.le_refl _) _).alloc (by simp) _
  have K6 : Hid (Blk w0 (w.heap.size + 1) 48 s.cells) := by rw [← hw0]; exact Blk.newAt _ _ _ (by simp)
  have HR : Hid (Rd w0) := hr.on B0.out
  have HG : Hid (g < w0.heap.size ∧ w0.cell? ⟨g, o, none⟩ = some v) := ⟨Nat.lt_of_lt_of_le hg B0.out.size, (cell_below B0.out hg).trans hc⟩
  have HF : Hid (w0.frozen? ⟨g, o, none⟩ = false) := (World.frozen?_of_block (B0.out.block g hg)).trans hf
  have HG2 : Hid (v.ownBlock ≠ some g) := hne
  have HOWN : Hid (Own w0 base 44 v L) := hown.grow B0.out
  have HV := Lib.hid hsh
  have HL := Lib.hid hL
  have HBASE : Hid (base ≤ w0.heap.size) := Nat.le_trans hbase B0.out.size
  have HW0 := Lib.hid hw0
  clear hw0 hr hc hf hg hne hown hsh hL hbase
  go_enter Tryd.func38, Tryd.ntmps38
  go_wp2_with fail
  rw [show (w.alloc (.cells (seven x.k x.p x.q x.r) 48)).alloc (.cells (seven s.k s.p s.q s.r) 48) = w0 from HW0.out]
  refine wp_region_put2 (by kernel_rfl) (by kernel_rfl) (by kernel_rfl) (fun b' vs w' => (b' 0 = true → vs 0 = .pointer (some ⟨g, o, none⟩)) ∧ (b' 1 = true → vs 1 = .pointer (some ⟨g, o, none⟩)) ∧ (b' 2 = true → vs 2 = .pointer (some ⟨g, o, none⟩)) ∧ (b' 3 = true → vs 3 = .pointer (some ⟨g, o, none⟩)) ∧ (b' 4 = true → vs 4 = v) ∧ (b' 5 = true → vs 5 = .agg (seven s.k s.p s.q s.r)) ∧ (b' 6 = true → vs 6 = .agg #[.int .i64 px, .int .i64 py]) ∧ (b' 9 = true → vs 9 = .pointer (some ⟨g, o, none⟩)) ∧ (b' 10 = true → vs 10 = .pointer (some ⟨g, o, none⟩)) ∧ (b' 11 = true → b' 8 = true) ∧ (b' 8 = true → b' 7 = true ∧ b' 4 = true) ∧ (b' 7 = true → b' 6 = true) ∧ (b' 6 = true → b' 5 = true) ∧ Hid (AddM w0 g o base v L (px, py) b' vs w')) ?_ ?_ ?_
  · intro vs hvs
    exact ⟨fun h => Bool.noConfusion h, fun h => Bool.noConfusion h, fun h => Bool.noConfusion h, fun h => Bool.noConfusion h, fun h => Bool.noConfusion h, fun h => Bool.noConfusion h, fun h => Bool.noConfusion h, fun h => Bool.noConfusion h, fun h => Bool.noConfusion h, fun h => Bool.noConfusion h, fun h => Bool.noConfusion h, fun h => Bool.noConfusion h, fun h => Bool.noConfusion h, fun _ => ⟨⟨rfl, rfl, rfl, Nat.le_refl _, fun _ _ => rfl⟩, fun h => Bool.noConfusion h⟩, fun h => Bool.noConfusion h, fun h => Bool.noConfusion h⟩
  · rintro b' vs w' i op hi hun hall ⟨h0, h1, h2, h3, h4, h5, h6, h9, h10, hA, hB, hC, hD, hM⟩
    have hil : i < 12 := (List.getElem?_eq_some_iff.1 hi).1
    rcases i with _ | _ | _ | _ | _ | _ | _ | _ | _ | _ | _ | _ | i
    · obtain rfl := Option.some.inj hi
      refine wpOp_step rfl (fun K hK => ?_)
      have HKK := Lib.hid hK; clear hK
      simp only [putAll, Act.put, List.setIfInBounds_toArray, List.set_cons_zero, List.set_cons_succ]
      go_simp
      exact HKK.out _ _ ⟨_, by simp only [putAll, Act.put, List.setIfInBounds_toArray, List.set_cons_zero, List.set_cons_succ] <;> rfl, fun _ => rfl, h1, h2, h3, h4, h5, h6, h9, h10, hA, hB, hC, hD, AddM.other hM.out 0 _ (by decide) (by decide) (by decide)⟩
    · obtain rfl := Option.some.inj hi
      refine wpOp_step rfl (fun K hK => ?_)
      have HKK := Lib.hid hK; clear hK
      simp only [putAll, Act.put, List.setIfInBounds_toArray, List.set_cons_zero, List.set_cons_succ]
      go_simp
      exact HKK.out _ _ ⟨_, by simp only [putAll, Act.put, List.setIfInBounds_toArray, List.set_cons_zero, List.set_cons_succ] <;> rfl, h0, fun _ => rfl, h2, h3, h4, h5, h6, h9, h10, hA, hB, hC, hD, AddM.other hM.out 1 _ (by decide) (by decide) (by decide)⟩
    · obtain rfl := Option.some.inj hi
      have d1 := h1 (hall ⟨1, .data⟩ (by simp) rfl)
      refine wpOp_step rfl (fun K hK => ?_)
      have HKK := Lib.hid hK; clear hK
      simp only [putAll, Act.put, List.setIfInBounds_toArray, List.set_cons_zero, List.set_cons_succ, d1]
      go_simp
      exact HKK.out _ _ ⟨_, by simp only [putAll, Act.put, List.setIfInBounds_toArray, List.set_cons_zero, List.set_cons_succ, d1] <;> rfl, h0, h1, fun _ => rfl, h3, h4, h5, h6, h9, h10, hA, hB, hC, hD, AddM.other hM.out 2 _ (by decide) (by decide) (by decide)⟩
    · obtain rfl := Option.some.inj hi
      have d2 := h2 (hall ⟨2, .data⟩ (by simp) rfl)
      refine wpOp_step rfl (fun K hK => ?_)
      have HKK := Lib.hid hK; clear hK
      simp only [putAll, Act.put, List.setIfInBounds_toArray, List.set_cons_zero, List.set_cons_succ, d2]
      go_simp
      exact HKK.out _ _ ⟨_, by simp only [putAll, Act.put, List.setIfInBounds_toArray, List.set_cons_zero, List.set_cons_succ, d2] <;> rfl, h0, h1, h2, fun _ => rfl, h4, h5, h6, h9, h10, hA, hB, hC, hD, AddM.other hM.out 3 _ (by decide) (by decide) (by decide)⟩
    · obtain rfl := Option.some.inj hi
      have d3 := h3 (hall ⟨3, .data⟩ (by simp) rfl)
      have n4 := hun
      have n8 : b' 8 = false := by
        cases hz : b' 8 with
        | false => rfl
        | true => exact absurd (hB hz).2 (by rw [n4]; simp)
      have hbk := (hM.out.1 n8).1
      have c0 : w'.cell? ⟨g, o, none⟩ = some v := (cell_below hbk HG.out.1).trans HG.out.2
      have HCELL := Lib.hid c0; clear c0
      obtain ⟨va, vn, vc, hv⟩ := HV.out
      have c0 := HCELL.out
      rw [hv] at c0
      refine wpOp_step rfl (fun K hK => ?_)
      have HKK := Lib.hid hK; clear hK
      simp only [putAll, Act.put, List.setIfInBounds_toArray, List.set_cons_zero, List.set_cons_succ, d3]
      go_simp
      try rw [← hv]
      exact HKK.out _ _ ⟨_, by simp only [putAll, Act.put, List.setIfInBounds_toArray, List.set_cons_zero, List.set_cons_succ, d3] <;> rfl, h0, h1, h2, h3, fun _ => rfl, h5, h6, h9, h10, hA, fun h => ⟨(hB h).1, rfl⟩, hC, hD, AddM.other hM.out 4 _ (by decide) (by decide) (by decide)⟩
    · obtain rfl := Option.some.inj hi
      have n5 := hun
      have n6 : b' 6 = false := by
        cases hz : b' 6 with
        | false => rfl
        | true => exact absurd (hD hz) (by rw [n5]; simp)
      have n7 : b' 7 = false := by
        cases hz : b' 7 with
        | false => rfl
        | true => exact absurd (hC hz) (by rw [n6]; simp)
      have n8 : b' 8 = false := by
        cases hz : b' 8 with
        | false => rfl
        | true => exact absurd (hB hz).1 (by rw [n7]; simp)
      have kb := K6.out.on (hM.out.1 n8).1 K6.out.lt
      have c0 := kb.s0
      have c1 := kb.s1
      have c2 := kb.s2
      have c3 := kb.s3
      have c4 := kb.s4
      have c5 := kb.s5
      have c6 := kb.s6
      refine wpOp_step rfl (fun K hK => ?_)
      have HKK := Lib.hid hK; clear hK
      simp only [putAll, Act.put, List.setIfInBounds_toArray, List.set_cons_zero, List.set_cons_succ]
      go_simp
      exact HKK.out _ _ ⟨_, by simp only [putAll, Act.put, List.setIfInBounds_toArray, List.set_cons_zero, List.set_cons_succ] <;> rfl, h0, h1, h2, h3, h4, fun _ => rfl, h6, h9, h10, hA, hB, hC, fun _ => rfl, AddM.other hM.out 5 _ (by decide) (by decide) (by decide)⟩
    · obtain rfl := Option.some.inj hi
      have d5 := h5 (hall ⟨5, .data⟩ (by simp) rfl)
      have n6 := hun
      have n7 : b' 7 = false := by
        cases hz : b' 7 with
        | false => rfl
        | true => exact absurd (hC hz) (by rw [n6]; simp)
      have n8 : b' 8 = false := by
        cases hz : b' 8 with
        | false => rfl
        | true => exact absurd (hB hz).1 (by rw [n7]; simp)
      have n11 : b' 11 = false := by
        cases hz : b' 11 with
        | false => rfl
        | true => exact absurd (hA hz) (by rw [n8]; simp)
      refine wpOp_step rfl (fun K hK => ?_)
      have HKK := Lib.hid hK; clear hK
      simp only [putAll, Act.put, List.setIfInBounds_toArray, List.set_cons_zero, List.set_cons_succ, d5]
      go_simp
      refine (HE.out _ (HR.out.on (hM.out.1 n8).1)).mono ?_
      rintro e w3 ⟨rfl, hb⟩
      exact HKK.out _ _ ⟨_, by simp only [putAll, Act.put, List.setIfInBounds_toArray, List.set_cons_zero, List.set_cons_succ, d5] <;> rfl, h0, h1, h2, h3, h4, h5, fun _ => rfl, h9, h10, hA, hB, fun _ => rfl, fun _ => hall ⟨5, .data⟩ (by simp) rfl, AddM.call hM.out 6 _ (by decide) (by decide) (by decide) n7 n8 n11 hb⟩
    · obtain rfl := Option.some.inj hi
      have d6 := h6 (hall ⟨6, .data⟩ (by simp) rfl)
      have n7 := hun
      have n8 : b' 8 = false := by
        cases hz : b' 8 with
        | false => rfl
        | true => exact absurd (hB hz).1 (by rw [n7]; simp)
      have n11 : b' 11 = false := by
        cases hz : b' 11 with
        | false => rfl
        | true => exact absurd (hA hz) (by rw [n8]; simp)
      refine wpOp_step rfl (fun K hK => ?_)
      have HKK := Lib.hid hK; clear hK
      simp only [putAll, Act.put, List.setIfInBounds_toArray, List.set_cons_zero, List.set_cons_succ, d6]
      go_simp
      exact HKK.out _ _ ⟨_, by simp only [putAll, Act.put, List.setIfInBounds_toArray, List.set_cons_zero, List.set_cons_succ, d6] <;> rfl, h0, h1, h2, h3, h4, h5, h6, h9, h10, hA, fun h => ⟨rfl, (hB h).2⟩, fun _ => hall ⟨6, .data⟩ (by simp) rfl, hD, AddM.made hM.out n8 n11 _ (Own.made w' (base := w'.heap.size) (Nat.le_refl _) 44 [(px, py)] _ 1 rfl rfl (by decide)).row ((Below.refl _ _).alloc (Nat.le_refl _) _)⟩
    · obtain rfl := Option.some.inj hi
      have n8 := hun
      have n11 : b' 11 = false := by
        cases hz : b' 11 with
        | false => rfl
        | true => exact absurd (hA hz) (by rw [n8]; simp)
      have b4 := hall ⟨4, .data⟩ (by simp) rfl
      have b7 := hall ⟨7, .data⟩ (by simp) rfl
      have d4 := h4 b4
      have hm := hM.out.1 n8
      have r7 := hm.2 b7
      have hbs := hm.1.size
      have hbas := HBASE.out
      have HLEN := HL.out
      have ho4 := HOWN.out.grow hm.1
      refine wpOp_step rfl (fun K hK => ?_)
      have HKK := Lib.hid hK; clear hK
      simp only [putAll, Act.put, List.setIfInBounds_toArray, List.set_cons_zero, List.set_cons_succ]
      refine (if_pos rfl).mpr (wp_append_pts _ _ 37 44 rfl Tryd.underlying37 infoPP base v L d4 ho4 _ [(px, py)] rfl r7 (by simp; omega) (by omega) ?_)
      intro v' w3 ho hg hmv
      exact HKK.out _ _ ⟨_, by simp only [putAll, Act.put, List.setIfInBounds_toArray, List.set_cons_zero, List.set_cons_succ] <;> rfl, h0, h1, h2, h3, h4, h5, h6, h9, h10, fun h => rfl, fun _ => ⟨b7, b4⟩, hC, hD, AddM.app hM.out n11 _ ⟨⟨w', hm.1, hg, hmv⟩, ho⟩⟩
    · obtain rfl := Option.some.inj hi
      have d0 := h0 (hall ⟨0, .data⟩ (by simp) rfl)
      refine wpOp_step rfl (fun K hK => ?_)
      have HKK := Lib.hid hK; clear hK
      simp only [putAll, Act.put, List.setIfInBounds_toArray, List.set_cons_zero, List.set_cons_succ, d0]
      go_simp
      exact HKK.out _ _ ⟨_, by simp only [putAll, Act.put, List.setIfInBounds_toArray, List.set_cons_zero, List.set_cons_succ, d0] <;> rfl, h0, h1, h2, h3, h4, h5, h6, fun _ => rfl, h10, hA, hB, hC, hD, AddM.other hM.out 9 _ (by decide) (by decide) (by decide)⟩
    · obtain rfl := Option.some.inj hi
      have d9 := h9 (hall ⟨9, .data⟩ (by simp) rfl)
      refine wpOp_step rfl (fun K hK => ?_)
      have HKK := Lib.hid hK; clear hK
      simp only [putAll, Act.put, List.setIfInBounds_toArray, List.set_cons_zero, List.set_cons_succ, d9]
      go_simp
      exact HKK.out _ _ ⟨_, by simp only [putAll, Act.put, List.setIfInBounds_toArray, List.set_cons_zero, List.set_cons_succ, d9] <;> rfl, h0, h1, h2, h3, h4, h5, h6, h9, fun _ => rfl, hA, hB, hC, hD, AddM.other hM.out 10 _ (by decide) (by decide) (by decide)⟩
    · obtain rfl := Option.some.inj hi
      have d10 := h10 (hall ⟨10, .data⟩ (by simp) rfl)
      have b8 := hall ⟨8, .data⟩ (by simp) rfl
      have n11 := hun
      have d4 := h4 (hB b8).2
      obtain ⟨⟨Wm, hm1, hm2, hm3⟩, ho⟩ := hM.out.2.1 b8 n11
      have hgl : g < Wm.heap.size := Nat.lt_of_lt_of_le HG.out.1 hm1.size
      have hgb : w'.heap[g]? = w0.heap[g]? := (hm2.block g hgl (fun e => HG2.out e.symm)).trans (hm1.block g HG.out.1)
      have c0 : w'.cell? ⟨g, o, none⟩ = some v := (World.cell?_of_block hgb).trans HG.out.2
      have f0 : w'.frozen? ⟨g, o, none⟩ = false := (World.frozen?_of_block hgb).trans HF.out
      obtain ⟨va, vn, vc, hv⟩ := own_shape' ho
      have hst := fun y => AddM.stored hM.out b8 n11 y
      simp only [hv] at hst
      have HST := Lib.hid hst; clear hst
      refine wpOp_step rfl (fun K hK => ?_)
      have HKK := Lib.hid hK; clear hK
      simp only [putAll, Act.put, List.setIfInBounds_toArray, List.set_cons_zero, List.set_cons_succ, d10, d4, hv]
      go_simp
      exact HKK.out _ _ ⟨undef, by simp only [putAll, Act.put, List.setIfInBounds_toArray, List.set_cons_zero, List.set_cons_succ, d10, d4, hv] <;> rfl, h0, h1, h2, h3, h4, h5, h6, h9, h10, fun _ => by rw [upd_other _ _ _ _ (by decide)]; exact b8, hB, hC, hD, HST.out undef⟩
    · exact absurd hil (by omega)
  · rintro b' vs w' hb ⟨h0, h1, h2, h3, h4, h5, h6, h9, h10, hA, hB, hC, hD, hM⟩
    have hm := hM.out.2.2 (hb 11 (by decide))
    obtain ⟨W1, rfl, hgr⟩ := hm
    have HGR := Lib.hid hgr
    clear h0 h1 h2 h3 h4 h5 h6 h9 h10 hA hB hC hD hM hgr
    simp only [putAll, Act.put, List.setIfInBounds_toArray, List.set_cons_zero, List.set_cons_succ]
    generalize vs 8 = v8 at HGR ⊢
    go_wp2_with fail
    go_ret
    exact ⟨rfl, v8, W1, rfl, ⟨by obtain ⟨Wm, h1, h2, h3⟩ := HGR.out.mid; exact ⟨Wm, below_next B0.out h1, h2, h3⟩, HGR.out.own⟩⟩
/-- What holds in the region of add that flattens a curve. -/
def FlM (w0 : World) (C F : List Pt) (b : Nat → Bool) (vs : Nat → Value) (w : World) : Prop :=
  Below w0.heap.size w0 w ∧ (b 3 = true → Own w w0.heap.size 44 (vs 3) C) ∧ (b 5 = true → ∃ u, vs 5 = .tuple #[u, .int .i64 0] ∧ Own w w0.heap.size 44 u F)
section
variable {w0 w w' : World} {C F : List Pt} {b : Nat → Bool} {vs : Nat → Value}
theorem FlM.other (h : FlM w0 C F b vs w) (i : Nat) (u : Value) (h3 : 3 ≠ i) (h5 : 5 ≠ i) : FlM w0 C F (upd b i true) (upd vs i u) w := by
  unfold FlM
  rw [upd_other _ _ _ _ h3, upd_other _ _ _ _ h5, upd_other _ _ _ _ h3, upd_other _ _ _ _ h5]
  exact h
theorem FlM.grow (h : FlM w0 C F b vs w) (hb : Below w.heap.size w w') : FlM w0 C F b vs w' :=
  ⟨below_next h.1 hb, fun h3 => (h.2.1 h3).grow hb, fun h5 => by obtain ⟨u, e, ho⟩ := h.2.2 h5; exact ⟨u, e, ho.grow hb⟩⟩
theorem FlM.made (h : FlM w0 C F b vs w) (v : Value) (ho : Own w w0.heap.size 44 v C) : FlM w0 C F (upd b 3 true) (upd vs 3 v) w := by
  refine ⟨h.1, fun _ => ?_, fun h5 => ?_⟩
  · rw [upd_same]; exact ho
  · rw [upd_other _ _ _ _ (by decide)] at h5 ⊢; exact h.2.2 h5
theorem FlM.flat (h : FlM w0 C F b vs w) (u : Value) (ho : Own w w0.heap.size 44 u F) : FlM w0 C F (upd b 5 true) (upd vs 5 (.tuple #[u, .int .i64 0])) w := by
  refine ⟨h.1, fun h3 => ?_, fun _ => ?_⟩
  · rw [upd_other _ _ _ _ (by decide)] at h3 ⊢; exact h.2.1 h3
  · rw [upd_same]; exact ⟨u, rfl, ho⟩
end
set_option maxHeartbeats 4000000 in
set_option maxRecDepth 100000 in
theorem add_quad (x s : Sg) (px py : Int) (d : Nat) (g o base : Nat) (va : Option Addr) (vn vc : Nat) (L F : List Pt) (w : World) (h5 : (s.k == 5) = false) (h3 : (s.k == 3) = true) (hr : Rd w) (hL : L.length ≤ 90000) (hF : F.length ≤ 5000) (hbase : base ≤ w.heap.size)
    (hc : w.cell? ⟨g, o, none⟩ = some (.slice va vn vc)) (hf : w.frozen? ⟨g, o, none⟩ = false) (hg : g < w.heap.size) (hne : (Value.slice va vn vc).ownBlock ≠ some g) (hown : Own w base 44 (.slice va vn vc) L)
    (HE : Hid (∀ w, Rd w → Calls Tryd.prog 44 #[.agg (seven x.k x.p x.q x.r)] w fun e w' => e = .returned (.agg #[.int .i64 px, .int .i64 py]) ∧ Below w.heap.size w w'))
    (HFL : Hid (∀ v w, Row w v ((px, py) :: needPts s) → Calls Tryd.prog 55 #[v, .int .i64 (d : Int)] w fun e w' => ∃ u, e = .returned (.tuple #[u, .int .i64 0]) ∧ Own w' w.heap.size 44 u F ∧ Below w.heap.size w w')) :
    Calls Tryd.prog 38 #[.pointer (some ⟨g, o, none⟩), .agg (seven x.k x.p x.q x.r), .agg (seven s.k s.p s.q s.r), .int .i64 (d : Int)] w fun e w' => e = .returned (.int .i64 0) ∧ ∃ u W1, w' = W1.setCell ⟨g, o, none⟩ u ∧ Grew w base 44 (.slice va vn vc) (L ++ F) u W1 := by
  have HC := Lib.hid (fun w hr => curve_c s px py w hr)
  obtain ⟨w0, hw0⟩ : ∃ w0, (w.alloc (.cells x.cells 48)).alloc (.cells s.cells 48) = w0 := ⟨_, rfl⟩
  have B0 : Hid (Below w.heap.size w w0) := by rw [← hw0]; exact ((Below.refl _ _).alloc (Nat.le_refl _) _).alloc (by simp) _
  have K5 : Hid (Blk w0 w.heap.size 48 x.cells) := by rw [← hw0]; exact (Blk.new _ _ _).alloc _
  have K6 : Hid (Blk w0 (w.heap.size + 1) 48 s.cells) := by rw [← hw0]; exact Blk.newAt _ _ _ (by simp)
  have HR : Hid (Rd w0) := hr.on B0.out
  have HG : Hid (g < w0.heap.size ∧ w0.cell? ⟨g, o, none⟩ = some (.slice va vn vc)) := ⟨Nat.lt_of_lt_of_le hg B0.out.size, (cell_below B0.out hg).trans hc⟩
  have HF : Hid (w0.frozen? ⟨g, o, none⟩ = false) := (World.frozen?_of_block (B0.out.block g hg)).trans hf
  have HG2 : Hid ((Value.slice va vn vc).ownBlock ≠ some g) := hne
  have HOWN : Hid (Own w0 base 44 (.slice va vn vc) L) := hown.grow B0.out
  have HL : Hid (L.length ≤ 90000 ∧ F.length ≤ 5000) := ⟨hL, hF⟩
  have HBASE : Hid (base ≤ w0.heap.size) := Nat.le_trans hbase B0.out.size
  have HW0 := Lib.hid hw0
  clear hw0 hr hc hf hg hne hown hL hF hbase
  go_enter Tryd.func38, Tryd.ntmps38
  go_wp2_with fail
  rw [show (w.alloc (.cells (seven x.k x.p x.q x.r) 48)).alloc (.cells (seven s.k s.p s.q s.r) 48) = w0 from HW0.out]
  refine wp_region_put2 (by kernel_rfl) (by kernel_rfl) (by kernel_rfl) (fun b' vs w' => (b' 0 = true → vs 0 = .agg (seven s.k s.p s.q s.r)) ∧ (b' 1 = true → vs 1 = .agg (seven x.k x.p x.q x.r)) ∧ (b' 2 = true → vs 2 = .agg #[.int .i64 px, .int .i64 py]) ∧ (b' 4 = true → vs 4 = .int .i64 (d : Int)) ∧ Hid (b' 6 = true → b' 5 = true ∧ vs 6 = vs 5) ∧ Hid (b' 7 = true → b' 5 = true ∧ vs 5 = .tuple #[vs 7, .int .i64 0]) ∧ (b' 8 = true → vs 8 = .int .i64 0) ∧ Hid (b' 9 = true → b' 7 = true ∧ vs 9 = vs 7) ∧ (b' 10 = true → vs 10 = .int .i64 0) ∧ Hid (FlM w0 ((px, py) :: needPts s) F b' vs w')) ?_ ?_ ?_
  · intro vs hvs
    exact ⟨fun h => Bool.noConfusion h, fun h => Bool.noConfusion h, fun h => Bool.noConfusion h, fun h => Bool.noConfusion h, Lib.hid fun h => Bool.noConfusion h, Lib.hid fun h => Bool.noConfusion h, fun h => Bool.noConfusion h, Lib.hid fun h => Bool.noConfusion h, fun h => Bool.noConfusion h, ⟨rfl, rfl, rfl, Nat.le_refl _, fun _ _ => rfl⟩, fun h => Bool.noConfusion h, fun h => Bool.noConfusion h⟩
  · rintro b' vs w' i op hi hun hall ⟨h0, h1, h2, h4, h6, h7, h8, h9, h10, hM⟩
    have hil : i < 11 := (List.getElem?_eq_some_iff.1 hi).1
    rcases i with _ | _ | _ | _ | _ | _ | _ | _ | _ | _ | _ | i
    · obtain rfl := Option.some.inj hi
      have kb := K6.out.on hM.out.1 K6.out.lt
      have c0 := kb.s0
      have c1 := kb.s1
      have c2 := kb.s2
      have c3 := kb.s3
      have c4 := kb.s4
      have c5 := kb.s5
      have c6 := kb.s6
      refine wpOp_step rfl (fun K hK => ?_)
      have HKK := Lib.hid hK; clear hK
      simp only [putAll, Act.put, List.setIfInBounds_toArray, List.set_cons_zero, List.set_cons_succ]
      go_simp
      exact HKK.out _ _ ⟨_, by simp only [putAll, Act.put, List.setIfInBounds_toArray, List.set_cons_zero, List.set_cons_succ] <;> rfl, fun _ => rfl, h1, h2, h4, h6, h7, h8, h9, h10, FlM.other hM.out 0 _ (by decide) (by decide)⟩
    · obtain rfl := Option.some.inj hi
      have kb := K5.out.on hM.out.1 K5.out.lt
      have c0 := kb.s0
      have c1 := kb.s1
      have c2 := kb.s2
      have c3 := kb.s3
      have c4 := kb.s4
      have c5 := kb.s5
      have c6 := kb.s6
      refine wpOp_step rfl (fun K hK => ?_)
      have HKK := Lib.hid hK; clear hK
      simp only [putAll, Act.put, List.setIfInBounds_toArray, List.set_cons_zero, List.set_cons_succ]
      go_simp
      exact HKK.out _ _ ⟨_, by simp only [putAll, Act.put, List.setIfInBounds_toArray, List.set_cons_zero, List.set_cons_succ] <;> rfl, h0, fun _ => rfl, h2, h4, h6, h7, h8, h9, h10, FlM.other hM.out 1 _ (by decide) (by decide)⟩
    · obtain rfl := Option.some.inj hi
      have d1 := h1 (hall ⟨1, .data⟩ (by simp) rfl)
      refine wpOp_step rfl (fun K hK => ?_)
      have HKK := Lib.hid hK; clear hK
      simp only [putAll, Act.put, List.setIfInBounds_toArray, List.set_cons_zero, List.set_cons_succ, d1]
      go_simp
      refine (HE.out _ (HR.out.on hM.out.1)).mono ?_
      rintro e w3 ⟨rfl, hb⟩
      exact HKK.out _ _ ⟨_, by simp only [putAll, Act.put, List.setIfInBounds_toArray, List.set_cons_zero, List.set_cons_succ, d1] <;> rfl, h0, h1, fun _ => rfl, h4, h6, h7, h8, h9, h10, FlM.other (hM.out.grow hb) 2 _ (by decide) (by decide)⟩
    · obtain rfl := Option.some.inj hi
      have d0 := h0 (hall ⟨0, .data⟩ (by simp) rfl)
      have d2 := h2 (hall ⟨2, .data⟩ (by simp) rfl)
      refine wpOp_step rfl (fun K hK => ?_)
      have HKK := Lib.hid hK; clear hK
      simp only [putAll, Act.put, List.setIfInBounds_toArray, List.set_cons_zero, List.set_cons_succ, d0, d2]
      go_simp
      refine (HC.out _ (HR.out.on hM.out.1)).mono ?_
      rintro e w3 ⟨v3, rfl, ho, hb⟩
      exact HKK.out _ _ ⟨_, by simp only [putAll, Act.put, List.setIfInBounds_toArray, List.set_cons_zero, List.set_cons_succ, d0, d2] <;> rfl, h0, h1, h2, h4, h6, h7, h8, h9, h10, FlM.made (hM.out.grow hb) v3 (ho.base hM.out.1.size)⟩
    · obtain rfl := Option.some.inj hi
      refine wpOp_step rfl (fun K hK => ?_)
      have HKK := Lib.hid hK; clear hK
      simp only [putAll, Act.put, List.setIfInBounds_toArray, List.set_cons_zero, List.set_cons_succ]
      go_simp
      exact HKK.out _ _ ⟨_, by simp only [putAll, Act.put, List.setIfInBounds_toArray, List.set_cons_zero, List.set_cons_succ] <;> rfl, h0, h1, h2, fun _ => rfl, h6, h7, h8, h9, h10, FlM.other hM.out 4 _ (by decide) (by decide)⟩
    · obtain rfl := Option.some.inj hi
      have d4 := h4 (hall ⟨4, .data⟩ (by simp) rfl)
      have o3 := hM.out.2.1 (hall ⟨3, .data⟩ (by simp) rfl)
      refine wpOp_step rfl (fun K hK => ?_)
      have HKK := Lib.hid hK; clear hK
      simp only [putAll, Act.put, List.setIfInBounds_toArray, List.set_cons_zero, List.set_cons_succ, d4]
      go_simp
      refine (HFL.out _ _ (Row.on o3.row (Below.refl _ _))).mono ?_
      rintro e w3 ⟨u, rfl, ho, hb⟩
      exact HKK.out _ _ ⟨_, by simp only [putAll, Act.put, List.setIfInBounds_toArray, List.set_cons_zero, List.set_cons_succ, d4] <;> rfl, h0, h1, h2, h4, Lib.hid (fun h => absurd (h6.out h).1 (by rw [hun]; simp)), Lib.hid (fun h => absurd (h7.out h).1 (by rw [hun]; simp)), h8, h9, h10, FlM.flat (hM.out.grow hb) u (ho.base hM.out.1.size)⟩
    · obtain rfl := Option.some.inj hi
      have b5 := hall ⟨5, .data⟩ (by simp) rfl
      refine wpOp_step rfl (fun K hK => ?_)
      have HKK := Lib.hid hK; clear hK
      simp only [putAll, Act.put, List.setIfInBounds_toArray, List.set_cons_zero, List.set_cons_succ]
      go_simp
      exact HKK.out _ _ ⟨_, by simp only [putAll, Act.put, List.setIfInBounds_toArray, List.set_cons_zero, List.set_cons_succ] <;> rfl, h0, h1, h2, h4, Lib.hid (fun _ => ⟨b5, rfl⟩), h7, h8, h9, h10, FlM.other hM.out 6 _ (by decide) (by decide)⟩
    · obtain rfl := Option.some.inj hi
      have b5 := hall ⟨6, .data⟩ (by simp) rfl |> h6.out |>.1
      have d6 := (h6.out (hall ⟨6, .data⟩ (by simp) rfl)).2
      obtain ⟨u, hu, _⟩ := hM.out.2.2 b5
      rw [hu] at d6
      refine wpOp_step rfl (fun K hK => ?_)
      have HKK := Lib.hid hK; clear hK
      simp only [putAll, Act.put, List.setIfInBounds_toArray, List.set_cons_zero, List.set_cons_succ, d6, hu]
      go_simp
      exact HKK.out _ _ ⟨_, by simp only [putAll, Act.put, List.setIfInBounds_toArray, List.set_cons_zero, List.set_cons_succ, d6, hu] <;> rfl, h0, h1, h2, h4, h6, Lib.hid (fun _ => ⟨b5, hu⟩), h8, Lib.hid (fun h => absurd (h9.out h).1 (by rw [hun]; simp)), h10, FlM.other hM.out 7 _ (by decide) (by decide)⟩
    · obtain rfl := Option.some.inj hi
      have b5 := hall ⟨6, .data⟩ (by simp) rfl |> h6.out |>.1
      have d6 := (h6.out (hall ⟨6, .data⟩ (by simp) rfl)).2
      obtain ⟨u, hu, _⟩ := hM.out.2.2 b5
      rw [hu] at d6
      refine wpOp_step rfl (fun K hK => ?_)
      have HKK := Lib.hid hK; clear hK
      simp only [putAll, Act.put, List.setIfInBounds_toArray, List.set_cons_zero, List.set_cons_succ, d6, hu]
      go_simp
      exact HKK.out _ _ ⟨_, by simp only [putAll, Act.put, List.setIfInBounds_toArray, List.set_cons_zero, List.set_cons_succ, d6, hu] <;> rfl, h0, h1, h2, h4, h6, h7, fun _ => rfl, h9, h10, FlM.other hM.out 8 _ (by decide) (by decide)⟩
    · obtain rfl := Option.some.inj hi
      have b7 := hall ⟨7, .data⟩ (by simp) rfl
      refine wpOp_step rfl (fun K hK => ?_)
      have HKK := Lib.hid hK; clear hK
      simp only [putAll, Act.put, List.setIfInBounds_toArray, List.set_cons_zero, List.set_cons_succ]
      go_simp
      exact HKK.out _ _ ⟨_, by simp only [putAll, Act.put, List.setIfInBounds_toArray, List.set_cons_zero, List.set_cons_succ] <;> rfl, h0, h1, h2, h4, h6, h7, h8, Lib.hid (fun _ => ⟨b7, rfl⟩), h10, FlM.other hM.out 9 _ (by decide) (by decide)⟩
    · obtain rfl := Option.some.inj hi
      have d8 := h8 (hall ⟨8, .data⟩ (by simp) rfl)
      refine wpOp_step rfl (fun K hK => ?_)
      have HKK := Lib.hid hK; clear hK
      simp only [putAll, Act.put, List.setIfInBounds_toArray, List.set_cons_zero, List.set_cons_succ, d8]
      go_simp
      exact HKK.out _ _ ⟨_, by simp only [putAll, Act.put, List.setIfInBounds_toArray, List.set_cons_zero, List.set_cons_succ, d8] <;> rfl, h0, h1, h2, h4, h6, h7, h8, h9, fun _ => rfl, FlM.other hM.out 10 _ (by decide) (by decide)⟩
    · exact absurd hil (by omega)
  · rintro b' vs w' hb ⟨h0, h1, h2, h4, h6, h7, h8, h9, h10, hM⟩
    have e9 := (h9.out (hb 9 (by decide))).2
    have e10 := h10 (hb 10 (by decide))
    have e8 := h8 (hb 8 (by decide))
    obtain ⟨u, hu, hou⟩ := hM.out.2.2 (hb 5 (by decide))
    have e7 : vs 7 = u := by have e := (h7.out (hb 7 (by decide))).2; rw [hu] at e; simpa using e.symm
    have BM := Lib.hid hM.out.1
    have OU := Lib.hid hou
    have HGW : Hid (g < w'.heap.size ∧ w'.cell? ⟨g, o, none⟩ = some (.slice va vn vc)) := ⟨Nat.lt_of_lt_of_le HG.out.1 BM.out.size, (cell_below BM.out HG.out.1).trans HG.out.2⟩
    have OW : Hid (Own w' base 44 (.slice va vn vc) L ∧ base ≤ w'.heap.size) := ⟨HOWN.out.grow BM.out, Nat.le_trans HBASE.out BM.out.size⟩
    clear h0 h1 h2 h4 h6 h7 h8 h9 h10 hM hou
    simp only [putAll, Act.put, List.setIfInBounds_toArray, List.set_cons_zero, List.set_cons_succ, e9, e10, e8, e7, hu]
    clear e9 e10 e8 e7 hu
    generalize vs 0 = v0
    generalize vs 1 = v1
    generalize vs 2 = v2
    generalize vs 3 = v3
    generalize vs 4 = v4
    generalize vs 6 = v6
    have c0 := HGW.out.2
    have HL2 := HL.out
    go_wp2_with (at_builtin; refine wpList_append_pts rfl _ _ 37 44 rfl Tryd.underlying37 infoPP base (.slice va vn vc) L rfl OW.out.1 u F rfl OU.out.row (by omega) OW.out.2 ?_)
    intro v' w5 ho hg hm
    have hgb : w5.heap[g]? = w'.heap[g]? := hg.block g HGW.out.1 (fun e => HG2.out e.symm)
    have HO := Lib.hid (show Own w5 base 44 v' (L ++ F) ∧ w'.grownBy w5 (Value.slice va vn vc).ownBlock ∧ Moved w' (.slice va vn vc) v' from ⟨ho, hg, hm⟩)
    have c1 : w5.cell? ⟨g, o, none⟩ = some (.slice va vn vc) := (World.cell?_of_block hgb).trans HGW.out.2
    have f1 : w5.frozen? ⟨g, o, none⟩ = false := (World.frozen?_of_block (hgb.trans (BM.out.block g HG.out.1))).trans HF.out
    have hgl : g < w5.heap.size := Nat.lt_of_lt_of_le HGW.out.1 hg.size
    obtain ⟨a', n', c', rfl⟩ := own_shape' ho
    clear ho hg hm hgb c0
    go_wp2_with fail
    go_ret
    exact ⟨rfl, _, w5, rfl, ⟨⟨w', below_next B0.out BM.out, HO.out.2.1, HO.out.2.2⟩, HO.out.1⟩⟩
set_option maxHeartbeats 4000000 in
set_option maxRecDepth 100000 in
theorem add_cubic (x s : Sg) (px py : Int) (d : Nat) (g o base : Nat) (va : Option Addr) (vn vc : Nat) (L F : List Pt) (w : World) (h5 : (s.k == 5) = false) (h3 : (s.k == 3) = false) (h4 : (s.k == 4) = true) (hr : Rd w) (hL : L.length ≤ 90000) (hF : F.length ≤ 5000) (hbase : base ≤ w.heap.size)
    (hc : w.cell? ⟨g, o, none⟩ = some (.slice va vn vc)) (hf : w.frozen? ⟨g, o, none⟩ = false) (hg : g < w.heap.size) (hne : (Value.slice va vn vc).ownBlock ≠ some g) (hown : Own w base 44 (.slice va vn vc) L)
    (HE : Hid (∀ w, Rd w → Calls Tryd.prog 44 #[.agg (seven x.k x.p x.q x.r)] w fun e w' => e = .returned (.agg #[.int .i64 px, .int .i64 py]) ∧ Below w.heap.size w w'))
    (HFL : Hid (∀ v w, Row w v ((px, py) :: needPts s) → Calls Tryd.prog 55 #[v, .int .i64 (d : Int)] w fun e w' => ∃ u, e = .returned (.tuple #[u, .int .i64 0]) ∧ Own w' w.heap.size 44 u F ∧ Below w.heap.size w w')) :
    Calls Tryd.prog 38 #[.pointer (some ⟨g, o, none⟩), .agg (seven x.k x.p x.q x.r), .agg (seven s.k s.p s.q s.r), .int .i64 (d : Int)] w fun e w' => e = .returned (.int .i64 0) ∧ ∃ u W1, w' = W1.setCell ⟨g, o, none⟩ u ∧ Grew w base 44 (.slice va vn vc) (L ++ F) u W1 := by
  have HC := Lib.hid (fun w hr => curve_c s px py w hr)
  obtain ⟨w0, hw0⟩ : ∃ w0, (w.alloc (.cells x.cells 48)).alloc (.cells s.cells 48) = w0 := ⟨_, rfl⟩
  have B0 : Hid (Below w.heap.size w w0) := by rw [← hw0]; exact ((Below.refl _ _).alloc (Nat.le_refl _) _).alloc (by simp) _
  have K5 : Hid (Blk w0 w.heap.size 48 x.cells) := by rw [← hw0]; exact (Blk.new _ _ _).alloc _
  have K6 : Hid (Blk w0 (w.heap.size + 1) 48 s.cells) := by rw [← hw0]; exact Blk.newAt _ _ _ (by simp)
  have HR : Hid (Rd w0) := hr.on B0.out
  have HG : Hid (g < w0.heap.size ∧ w0.cell? ⟨g, o, none⟩ = some (.slice va vn vc)) := ⟨Nat.lt_of_lt_of_le hg B0.out.size, (cell_below B0.out hg).trans hc⟩
  have HF : Hid (w0.frozen? ⟨g, o, none⟩ = false) := (World.frozen?_of_block (B0.out.block g hg)).trans hf
  have HG2 : Hid ((Value.slice va vn vc).ownBlock ≠ some g) := hne
  have HOWN : Hid (Own w0 base 44 (.slice va vn vc) L) := hown.grow B0.out
  have HL : Hid (L.length ≤ 90000 ∧ F.length ≤ 5000) := ⟨hL, hF⟩
  have HBASE : Hid (base ≤ w0.heap.size) := Nat.le_trans hbase B0.out.size
  have HW0 := Lib.hid hw0
  clear hw0 hr hc hf hg hne hown hL hF hbase
  go_enter Tryd.func38, Tryd.ntmps38
  go_wp2_with fail
  rw [show (w.alloc (.cells (seven x.k x.p x.q x.r) 48)).alloc (.cells (seven s.k s.p s.q s.r) 48) = w0 from HW0.out]
  refine wp_region_put2 (by kernel_rfl) (by kernel_rfl) (by kernel_rfl) (fun b' vs w' => (b' 0 = true → vs 0 = .agg (seven s.k s.p s.q s.r)) ∧ (b' 1 = true → vs 1 = .agg (seven x.k x.p x.q x.r)) ∧ (b' 2 = true → vs 2 = .agg #[.int .i64 px, .int .i64 py]) ∧ (b' 4 = true → vs 4 = .int .i64 (d : Int)) ∧ Hid (b' 6 = true → b' 5 = true ∧ vs 6 = vs 5) ∧ Hid (b' 7 = true → b' 5 = true ∧ vs 5 = .tuple #[vs 7, .int .i64 0]) ∧ (b' 8 = true → vs 8 = .int .i64 0) ∧ Hid (b' 9 = true → b' 7 = true ∧ vs 9 = vs 7) ∧ (b' 10 = true → vs 10 = .int .i64 0) ∧ Hid (FlM w0 ((px, py) :: needPts s) F b' vs w')) ?_ ?_ ?_
  · intro vs hvs
    exact ⟨fun h => Bool.noConfusion h, fun h => Bool.noConfusion h, fun h => Bool.noConfusion h, fun h => Bool.noConfusion h, Lib.hid fun h => Bool.noConfusion h, Lib.hid fun h => Bool.noConfusion h, fun h => Bool.noConfusion h, Lib.hid fun h => Bool.noConfusion h, fun h => Bool.noConfusion h, ⟨rfl, rfl, rfl, Nat.le_refl _, fun _ _ => rfl⟩, fun h => Bool.noConfusion h, fun h => Bool.noConfusion h⟩
  · rintro b' vs w' i op hi hun hall ⟨h0, h1, h2, h4, h6, h7, h8, h9, h10, hM⟩
    have hil : i < 11 := (List.getElem?_eq_some_iff.1 hi).1
    rcases i with _ | _ | _ | _ | _ | _ | _ | _ | _ | _ | _ | i
    · obtain rfl := Option.some.inj hi
      have kb := K6.out.on hM.out.1 K6.out.lt
      have c0 := kb.s0
      have c1 := kb.s1
      have c2 := kb.s2
      have c3 := kb.s3
      have c4 := kb.s4
      have c5 := kb.s5
      have c6 := kb.s6
      refine wpOp_step rfl (fun K hK => ?_)
      have HKK := Lib.hid hK; clear hK
      simp only [putAll, Act.put, List.setIfInBounds_toArray, List.set_cons_zero, List.set_cons_succ]
      go_simp
      exact HKK.out _ _ ⟨_, by simp only [putAll, Act.put, List.setIfInBounds_toArray, List.set_cons_zero, List.set_cons_succ] <;> rfl, fun _ => rfl, h1, h2, h4, h6, h7, h8, h9, h10, FlM.other hM.out 0 _ (by decide) (by decide)⟩
    · obtain rfl := Option.some.inj hi
      have kb := K5.out.on hM.out.1 K5.out.lt
      have c0 := kb.s0
      have c1 := kb.s1
      have c2 := kb.s2
      have c3 := kb.s3
      have c4 := kb.s4
      have c5 := kb.s5
      have c6 := kb.s6
      refine wpOp_step rfl (fun K hK => ?_)
      have HKK := Lib.hid hK; clear hK
      simp only [putAll, Act.put, List.setIfInBounds_toArray, List.set_cons_zero, List.set_cons_succ]
      go_simp
      exact HKK.out _ _ ⟨_, by simp only [putAll, Act.put, List.setIfInBounds_toArray, List.set_cons_zero, List.set_cons_succ] <;> rfl, h0, fun _ => rfl, h2, h4, h6, h7, h8, h9, h10, FlM.other hM.out 1 _ (by decide) (by decide)⟩
    · obtain rfl := Option.some.inj hi
      have d1 := h1 (hall ⟨1, .data⟩ (by simp) rfl)
      refine wpOp_step rfl (fun K hK => ?_)
      have HKK := Lib.hid hK; clear hK
      simp only [putAll, Act.put, List.setIfInBounds_toArray, List.set_cons_zero, List.set_cons_succ, d1]
      go_simp
      refine (HE.out _ (HR.out.on hM.out.1)).mono ?_
      rintro e w3 ⟨rfl, hb⟩
      exact HKK.out _ _ ⟨_, by simp only [putAll, Act.put, List.setIfInBounds_toArray, List.set_cons_zero, List.set_cons_succ, d1] <;> rfl, h0, h1, fun _ => rfl, h4, h6, h7, h8, h9, h10, FlM.other (hM.out.grow hb) 2 _ (by decide) (by decide)⟩
    · obtain rfl := Option.some.inj hi
      have d0 := h0 (hall ⟨0, .data⟩ (by simp) rfl)
      have d2 := h2 (hall ⟨2, .data⟩ (by simp) rfl)
      refine wpOp_step rfl (fun K hK => ?_)
      have HKK := Lib.hid hK; clear hK
      simp only [putAll, Act.put, List.setIfInBounds_toArray, List.set_cons_zero, List.set_cons_succ, d0, d2]
      go_simp
      refine (HC.out _ (HR.out.on hM.out.1)).mono ?_
      rintro e w3 ⟨v3, rfl, ho, hb⟩
      exact HKK.out _ _ ⟨_, by simp only [putAll, Act.put, List.setIfInBounds_toArray, List.set_cons_zero, List.set_cons_succ, d0, d2] <;> rfl, h0, h1, h2, h4, h6, h7, h8, h9, h10, FlM.made (hM.out.grow hb) v3 (ho.base hM.out.1.size)⟩
    · obtain rfl := Option.some.inj hi
      refine wpOp_step rfl (fun K hK => ?_)
      have HKK := Lib.hid hK; clear hK
      simp only [putAll, Act.put, List.setIfInBounds_toArray, List.set_cons_zero, List.set_cons_succ]
      go_simp
      exact HKK.out _ _ ⟨_, by simp only [putAll, Act.put, List.setIfInBounds_toArray, List.set_cons_zero, List.set_cons_succ] <;> rfl, h0, h1, h2, fun _ => rfl, h6, h7, h8, h9, h10, FlM.other hM.out 4 _ (by decide) (by decide)⟩
    · obtain rfl := Option.some.inj hi
      have d4 := h4 (hall ⟨4, .data⟩ (by simp) rfl)
      have o3 := hM.out.2.1 (hall ⟨3, .data⟩ (by simp) rfl)
      refine wpOp_step rfl (fun K hK => ?_)
      have HKK := Lib.hid hK; clear hK
      simp only [putAll, Act.put, List.setIfInBounds_toArray, List.set_cons_zero, List.set_cons_succ, d4]
      go_simp
      refine (HFL.out _ _ (Row.on o3.row (Below.refl _ _))).mono ?_
      rintro e w3 ⟨u, rfl, ho, hb⟩
      exact HKK.out _ _ ⟨_, by simp only [putAll, Act.put, List.setIfInBounds_toArray, List.set_cons_zero, List.set_cons_succ, d4] <;> rfl, h0, h1, h2, h4, Lib.hid (fun h => absurd (h6.out h).1 (by rw [hun]; simp)), Lib.hid (fun h => absurd (h7.out h).1 (by rw [hun]; simp)), h8, h9, h10, FlM.flat (hM.out.grow hb) u (ho.base hM.out.1.size)⟩
    · obtain rfl := Option.some.inj hi
      have b5 := hall ⟨5, .data⟩ (by simp) rfl
      refine wpOp_step rfl (fun K hK => ?_)
      have HKK := Lib.hid hK; clear hK
      simp only [putAll, Act.put, List.setIfInBounds_toArray, List.set_cons_zero, List.set_cons_succ]
      go_simp
      exact HKK.out _ _ ⟨_, by simp only [putAll, Act.put, List.setIfInBounds_toArray, List.set_cons_zero, List.set_cons_succ] <;> rfl, h0, h1, h2, h4, Lib.hid (fun _ => ⟨b5, rfl⟩), h7, h8, h9, h10, FlM.other hM.out 6 _ (by decide) (by decide)⟩
    · obtain rfl := Option.some.inj hi
      have b5 := hall ⟨6, .data⟩ (by simp) rfl |> h6.out |>.1
      have d6 := (h6.out (hall ⟨6, .data⟩ (by simp) rfl)).2
      obtain ⟨u, hu, _⟩ := hM.out.2.2 b5
      rw [hu] at d6
      refine wpOp_step rfl (fun K hK => ?_)
      have HKK := Lib.hid hK; clear hK
      simp only [putAll, Act.put, List.setIfInBounds_toArray, List.set_cons_zero, List.set_cons_succ, d6, hu]
      go_simp
      exact HKK.out _ _ ⟨_, by simp only [putAll, Act.put, List.setIfInBounds_toArray, List.set_cons_zero, List.set_cons_succ, d6, hu] <;> rfl, h0, h1, h2, h4, h6, Lib.hid (fun _ => ⟨b5, hu⟩), h8, Lib.hid (fun h => absurd (h9.out h).1 (by rw [hun]; simp)), h10, FlM.other hM.out 7 _ (by decide) (by decide)⟩
    · obtain rfl := Option.some.inj hi
      have b5 := hall ⟨6, .data⟩ (by simp) rfl |> h6.out |>.1
      have d6 := (h6.out (hall ⟨6, .data⟩ (by simp) rfl)).2
      obtain ⟨u, hu, _⟩ := hM.out.2.2 b5
      rw [hu] at d6
      refine wpOp_step rfl (fun K hK => ?_)
      have HKK := Lib.hid hK; clear hK
      simp only [putAll, Act.put, List.setIfInBounds_toArray, List.set_cons_zero, List.set_cons_succ, d6, hu]
      go_simp
      exact HKK.out _ _ ⟨_, by simp only [putAll, Act.put, List.setIfInBounds_toArray, List.set_cons_zero, List.set_cons_succ, d6, hu] <;> rfl, h0, h1, h2, h4, h6, h7, fun _ => rfl, h9, h10, FlM.other hM.out 8 _ (by decide) (by decide)⟩
    · obtain rfl := Option.some.inj hi
      have b7 := hall ⟨7, .data⟩ (by simp) rfl
      refine wpOp_step rfl (fun K hK => ?_)
      have HKK := Lib.hid hK; clear hK
      simp only [putAll, Act.put, List.setIfInBounds_toArray, List.set_cons_zero, List.set_cons_succ]
      go_simp
      exact HKK.out _ _ ⟨_, by simp only [putAll, Act.put, List.setIfInBounds_toArray, List.set_cons_zero, List.set_cons_succ] <;> rfl, h0, h1, h2, h4, h6, h7, h8, Lib.hid (fun _ => ⟨b7, rfl⟩), h10, FlM.other hM.out 9 _ (by decide) (by decide)⟩
    · obtain rfl := Option.some.inj hi
      have d8 := h8 (hall ⟨8, .data⟩ (by simp) rfl)
      refine wpOp_step rfl (fun K hK => ?_)
      have HKK := Lib.hid hK; clear hK
      simp only [putAll, Act.put, List.setIfInBounds_toArray, List.set_cons_zero, List.set_cons_succ, d8]
      go_simp
      exact HKK.out _ _ ⟨_, by simp only [putAll, Act.put, List.setIfInBounds_toArray, List.set_cons_zero, List.set_cons_succ, d8] <;> rfl, h0, h1, h2, h4, h6, h7, h8, h9, fun _ => rfl, FlM.other hM.out 10 _ (by decide) (by decide)⟩
    · exact absurd hil (by omega)
  · rintro b' vs w' hb ⟨h0, h1, h2, h4, h6, h7, h8, h9, h10, hM⟩
    have e9 := (h9.out (hb 9 (by decide))).2
    have e10 := h10 (hb 10 (by decide))
    have e8 := h8 (hb 8 (by decide))
    obtain ⟨u, hu, hou⟩ := hM.out.2.2 (hb 5 (by decide))
    have e7 : vs 7 = u := by have e := (h7.out (hb 7 (by decide))).2; rw [hu] at e; simpa using e.symm
    have BM := Lib.hid hM.out.1
    have OU := Lib.hid hou
    have HGW : Hid (g < w'.heap.size ∧ w'.cell? ⟨g, o, none⟩ = some (.slice va vn vc)) := ⟨Nat.lt_of_lt_of_le HG.out.1 BM.out.size, (cell_below BM.out HG.out.1).trans HG.out.2⟩
    have OW : Hid (Own w' base 44 (.slice va vn vc) L ∧ base ≤ w'.heap.size) := ⟨HOWN.out.grow BM.out, Nat.le_trans HBASE.out BM.out.size⟩
    clear h0 h1 h2 h4 h6 h7 h8 h9 h10 hM hou
    simp only [putAll, Act.put, List.setIfInBounds_toArray, List.set_cons_zero, List.set_cons_succ, e9, e10, e8, e7, hu]
    clear e9 e10 e8 e7 hu
    generalize vs 0 = v0
    generalize vs 1 = v1
    generalize vs 2 = v2
    generalize vs 3 = v3
    generalize vs 4 = v4
    generalize vs 6 = v6
    have c0 := HGW.out.2
    have HL2 := HL.out
    go_wp2_with (at_builtin; refine wpList_append_pts rfl _ _ 37 44 rfl Tryd.underlying37 infoPP base (.slice va vn vc) L rfl OW.out.1 u F rfl OU.out.row (by omega) OW.out.2 ?_)
    intro v' w5 ho hg hm
    have hgb : w5.heap[g]? = w'.heap[g]? := hg.block g HGW.out.1 (fun e => HG2.out e.symm)
    have HO := Lib.hid (show Own w5 base 44 v' (L ++ F) ∧ w'.grownBy w5 (Value.slice va vn vc).ownBlock ∧ Moved w' (.slice va vn vc) v' from ⟨ho, hg, hm⟩)
    have c1 : w5.cell? ⟨g, o, none⟩ = some (.slice va vn vc) := (World.cell?_of_block hgb).trans HGW.out.2
    have f1 : w5.frozen? ⟨g, o, none⟩ = false := (World.frozen?_of_block (hgb.trans (BM.out.block g HG.out.1))).trans HF.out
    have hgl : g < w5.heap.size := Nat.lt_of_lt_of_le HGW.out.1 hg.size
    obtain ⟨a', n', c', rfl⟩ := own_shape' ho
    clear ho hg hm hgb c0
    go_wp2_with fail
    go_ret
    exact ⟨rfl, _, w5, rfl, ⟨⟨w', below_next B0.out BM.out, HO.out.2.1, HO.out.2.2⟩, HO.out.1⟩⟩
set_option maxHeartbeats 2000000 in
theorem add_close (x : Sg) (p q r : Pt) (d : Int) (g o : Nat) (c : Bool) (w : World) (hc : w.cell? ⟨g, o + 1, none⟩ = some (.bool c)) (hf : w.frozen? ⟨g, o + 1, none⟩ = false) (hg : g < w.heap.size) :
    Calls Tryd.prog 38 #[.pointer (some ⟨g, o, none⟩), .agg (seven x.k x.p x.q x.r), .agg (seven 5 p q r), .int .i64 d] w fun e w' => e = .returned (.int .i64 0) ∧ Below w.heap.size (w.setCell ⟨g, o + 1, none⟩ (.bool true)) w' := by
  have hs : (w.setCell ⟨g, o + 1, none⟩ (.bool true)).heap.size = w.heap.size := by simp [World.setCell]
  have B0 : Hid (Below w.heap.size (w.setCell ⟨g, o + 1, none⟩ (.bool true)) (((w.setCell ⟨g, o + 1, none⟩ (.bool true)).alloc (.cells (seven x.k x.p x.q x.r) 48)).alloc (.cells (seven 5 p q r) 48))) := ((Below.refl _ _).alloc (by omega) _).alloc (by simp) _
  clear hs
  go_enter Tryd.func38, Tryd.ntmps38
  go_wp2_with fail
  go_ret
  exact ⟨rfl, B0.out⟩
end Go.Proofs.YtffgpikhahpomaaDoor
