/- Layer 11: package image's Crop. -/
import Derived.Test.YtoppmlfibllhlaaRm
namespace Go.Proofs.Ytoppmlfibllhlaa
open Go.RowKit
/-- A box that isn't within an image's box is another one than what both have. -/
theorem meet_other {W H x0 y0 x1 y1 : Int} (he : emptyI ⟨x0, y0, x1, y1⟩ = false) : ((meetI ⟨x0, y0, x1, y1⟩ ⟨0, 0, W, H⟩).x0 == x0 && (meetI ⟨x0, y0, x1, y1⟩ ⟨0, 0, W, H⟩).y0 == y0 && (meetI ⟨x0, y0, x1, y1⟩ ⟨0, 0, W, H⟩).x1 == x1 && (meetI ⟨x0, y0, x1, y1⟩ ⟨0, 0, W, H⟩).y1 == y1) = !cropB W H x0 y0 x1 y1 := by
  have h2 : x0 < x1 ∧ y0 < y1 := by unfold emptyI at he; simp only [Bool.or_eq_false_iff, decide_eq_false_iff_not] at he; omega
  rw [Bool.eq_iff_iff, Bool.not_eq_true', cropB_no]
  simp only [Bool.and_eq_true, beq_iff_eq]
  unfold meetI
  cases h : emptyI (meet0 ⟨x0, y0, x1, y1⟩ ⟨0, 0, W, H⟩)
  · unfold emptyI meet0 at h
    simp only [Bool.or_eq_false_iff, decide_eq_false_iff_not] at h
    rw [if_neg (by decide)]
    unfold meet0
    simp only
    omega
  · unfold emptyI meet0 at h
    simp only [Bool.or_eq_true, decide_eq_true_eq] at h
    rw [if_pos rfl]
    simp only
    omega
/-- The first pixels of a part. -/
def crT (W x0 y0 : Int) (cw : Nat) (l : List Col) (t : Nat) : List Col := (List.range t).map (cropPx W x0 y0 (cw : Int) l)
def rowPx (l : List Col) (f d : Nat) : List Col := (List.range d).map fun i => cAt l (f + i)
theorem crT_next {W x0 y0 : Int} {cw j f : Nat} {l : List Col} (_hx : 0 ≤ x0) (hc : 0 < cw) (hf : (y0 + (j : Int)) * W + x0 = f) : crT W x0 y0 cw l ((j + 1) * cw) = crT W x0 y0 cw l (j * cw) ++ rowPx l f cw := by
  unfold crT rowPx
  rw [Nat.add_mul, Nat.one_mul, List.range_add, List.map_append, List.map_map]
  congr 1
  refine List.map_congr_left fun i hi => ?_
  have hic := List.mem_range.1 hi
  obtain ⟨h1, h2⟩ := (row_col (W := (cw : Int)) (y := (j : Int)) (x := (i : Int)) (k := j * cw + i) (by omega) (by omega) (by omega)).1 (by rw [Int.natCast_add, Int.natCast_mul])
  show cropPx W x0 y0 (cw : Int) l (j * cw + i) = cAt l (f + i)
  unfold cropPx
  rw [h1, h2, show ((y0 + (j : Int)) * W + x0 + (i : Int)).toNat = f + i by rw [hf]; omega]
theorem rowPx_at {w : World} {b o f d : Nat} {l : List Col} (h : ColsAt .u8 w b o l) (hd : f + d ≤ l.length) : ColsAt .u8 w b (o + f * 4) (rowPx l f d) := fun i p hp => by
  have hi : i < d := by have := (List.getElem?_eq_some_iff.1 hp).1; simpa [rowPx] using this
  have e : cAt l (f + i) = p := by
    unfold rowPx at hp
    rw [List.getElem?_map, List.getElem?_range hi] at hp
    simpa using hp
  have hc := h (f + i) p (by rw [← e]; exact cAt_some (by omega))
  rw [Nat.add_mul, ← Nat.add_assoc] at hc
  exact hc
theorem ColsAt.on8 {ik : IntKind} {w w' : World} {b o B : Nat} {l : List Col} (h : ColsAt ik w b o l) (hb : Below B w w') (hlt : b < B) : ColsAt ik w' b o l := fun i p hp => (h i p hp).on hb hlt
/-- The part as it grows. -/
structure CrS (w3 : World) (gp : Nat) (cw ch : Int) (u : Value) (L : List Col) (A : World) : Prop where
  blk : Blk A gp 24 #[.int .i64 cw, .int .i64 ch, u]
  row : OwnK .u8 A (gp + 1) 28 u L
  keep : Keep (fun k => k < gp) w3 A
  size : gp + 1 ≤ A.heap.size
theorem CrS.step {w3 A B : World} {gp : Nat} {cw ch : Int} {u : Value} {L : List Col} (h : CrS w3 gp cw ch u L A) (hb : Below A.heap.size A B) : CrS w3 gp cw ch u L B :=
  ⟨h.blk.grow hb, h.row.grow hb, h.keep.trans (Keep.of_below hb), Nat.le_trans h.size hb.size⟩
theorem CrS.var {w3 A B : World} {gp : Nat} {cw ch : Int} {u : Value} {L : List Col} (h : CrS w3 gp cw ch u L A) (hg : A.grownBy B u.ownBlock) : Blk B gp 24 #[.int .i64 cw, .int .i64 ch, u] :=
  (Keep.of_grown hg).blk h.blk (fun e => by have := (World.ownsRow.lt h.row gp e).1; omega)
theorem CrS.app {w3 A B : World} {gp : Nat} {cw ch : Int} {u u' : Value} {L L' : List Col} (h : CrS w3 gp cw ch u L A) (ho : OwnK .u8 B (gp + 1) 28 u' L') (hg : A.grownBy B u.ownBlock) : CrS w3 gp cw ch u' L' (B.setCell ⟨gp, 2, none⟩ u') :=
  ⟨(h.var hg).put 2 _ _ rfl, ho.keep (S := fun k => k ≠ gp) (Keep.setCell _ _ _ (fun e => e rfl)) (fun k hk e => by have := (World.ownsRow.lt ho k hk).1; omega),
   (h.keep.trans ((Keep.of_grown hg).mono fun k hk e => by have := (World.ownsRow.lt h.row k e).1; omega)).trans (Keep.setCell _ _ _ (fun e => by simp at e)), by have := hg.size; have := h.size; simp [World.setCell]; omega⟩
set_option maxHeartbeats 4000000 in
set_option maxRecDepth 100000 in
theorem crop_n (W H x0 y0 x1 y1 : Int) (s : Value) (l : List Col) (w : World) (row : RowK .u8 w s l) (hok : ∀ c ∈ l, OkC c) (hl : l.length ≤ 400) (hr : rightIm W H l = false) : Calls Try.prog 22 #[.agg #[.int .i64 W, .int .i64 H, s], .agg #[.int .i64 x0, .int .i64 y0, .int .i64 x1, .int .i64 y1]] w fun e w' => ToldIm w 0 0 [] 30 e w' := by
  have HCK : Hid (∀ A, Below w.heap.size w A → Calls Try.prog 15 #[.agg #[.int .i64 W, .int .i64 H, s]] A fun e w' => e = .returned (.int .i64 30) ∧ Below A.heap.size A w') := fun A hA => by
    have h := checkOk W H s l A (row.on hA) hok (by omega)
    rw [hr] at h
    exact h
  obtain ⟨ao, cp, rfl⟩ := row.shape
  obtain ⟨n, hn⟩ : ∃ n, l.length = n := ⟨_, rfl⟩
  rw [hn] at HCK
  rw [hn]
  clear row hok hl hr hn
  go_enter Try.func22, Try.ntmps22
  go_wp2_with fail
  obtain ⟨w1, hw1⟩ : ∃ WW, ((w.alloc (.cells #[.int .i64 W, .int .i64 H, .slice ao n cp] 24)).alloc (.cells #[.int .i64 x0, .int .i64 y0, .int .i64 x1, .int .i64 y1] 26)).alloc (.cells #[.int .i64 0, .int .i64 0, .slice none 0 0] 24) = WW := ⟨_, rfl⟩
  have P1 : Hid (Below w.heap.size w w1 ∧ Blk w1 w.heap.size 24 #[.int .i64 W, .int .i64 H, .slice ao n cp] ∧ Blk w1 (w.heap.size + 1) 26 (fourB ⟨x0, y0, x1, y1⟩) ∧ Blk w1 (w.heap.size + 2) 24 #[.int .i64 0, .int .i64 0, .slice none 0 0]) := by
    rw [← hw1]
    exact ⟨((((Below.refl _ _).alloc (Nat.le_refl _) _).alloc (by simp) _).alloc (by simp; omega) _), ((Blk.new _ _ _).alloc _).alloc _, (Blk.newAt _ _ _ (by simp)).alloc _, Blk.newAt _ _ _ (by simp)⟩
  rw [hw1]
  clear hw1
  refine wp_region_put3 (by kernel_rfl) (by kernel_rfl) (by kernel_rfl) (fun b' vs w' => (b' 0 = true → vs 0 = .agg #[.int .i64 W, .int .i64 H, .slice ao n cp]) ∧ (b' 1 = true → vs 1 = .int .i64 30) ∧ (b' 2 = true → vs 2 = .bool true) ∧ (b' 3 = true → vs 3 = .bool true) ∧ (b' 4 = true → vs 4 = undef) ∧ (b' 5 = true → vs 5 = undef) ∧ (b' 6 = true → vs 6 = .bool true) ∧ (b' 7 = true → vs 7 = .bool true) ∧ (b' 8 = true → vs 8 = undef) ∧ (b' 9 = true → vs 9 = undef) ∧ (b' 10 = true → vs 10 = undef) ∧ (b' 11 = true → vs 11 = undef) ∧ (b' 12 = true → vs 12 = undef) ∧ (b' 13 = true → vs 13 = undef) ∧ (b' 14 = true → vs 14 = .bool true) ∧ (Hid (Below w.heap.size w w' ∧ w.heap.size ≤ w'.heap.size)) ∧ (Hid (Below w.heap.size w w' ∧ Blk w' w.heap.size 24 #[.int .i64 W, .int .i64 H, .slice ao n cp] ∧ Blk w' (w.heap.size + 1) 26 (fourB ⟨x0, y0, x1, y1⟩) ∧ Blk w' (w.heap.size + 2) 24 #[.int .i64 0, .int .i64 0, .slice none 0 0]))) ?_ ?_ ?_
  · intro vs
    exact ⟨fun h => Bool.noConfusion h, fun h => Bool.noConfusion h, fun h => Bool.noConfusion h, fun h => Bool.noConfusion h, fun h => Bool.noConfusion h, fun h => Bool.noConfusion h, fun h => Bool.noConfusion h, fun h => Bool.noConfusion h, fun h => Bool.noConfusion h, fun h => Bool.noConfusion h, fun h => Bool.noConfusion h, fun h => Bool.noConfusion h, fun h => Bool.noConfusion h, fun h => Bool.noConfusion h, fun h => Bool.noConfusion h, ⟨P1.out.1.trans ⟨rfl, rfl, rfl, Nat.le_refl _, fun _ _ => rfl⟩, P1.out.1.size⟩, ⟨P1.out.1.trans ⟨rfl, rfl, rfl, Nat.le_refl _, fun _ _ => rfl⟩, P1.out.2.1, P1.out.2.2.1, P1.out.2.2.2⟩⟩
  · rintro b' vs w' i op hi hun hall ⟨h0, h1, h2, h3, h4, h5, h6, h7, h8, h9, h10, h11, h12, h13, h14, hB, hF⟩
    have hil : i < 15 := (List.getElem?_eq_some_iff.1 hi).1
    rcases i with _ | _ | _ | _ | _ | _ | _ | _ | _ | _ | _ | _ | _ | _ | _ | i
    · obtain rfl := Option.some.inj hi
      clear hi hil
      have kb := hF.out.2.1
      have c0 : w'.cell? ⟨w.heap.size, 0, none⟩ = some (.int .i64 W) := kb.cell 0
      have c1 : w'.cell? ⟨w.heap.size, 1, none⟩ = some (.int .i64 H) := kb.cell 1
      have c2 : w'.cell? ⟨w.heap.size, 2, none⟩ = some (.slice ao n cp) := kb.cell 2
      refine StepOk.plain rfl (fun K hK => ?_)
      have HKK := Lib.hid hK; clear hK
      simp only [putAll, Act.put, List.setIfInBounds_toArray, List.set_cons_zero, List.set_cons_succ]
      go_simp
      exact HKK.out _ _ ⟨_, by simp only [putAll, Act.put, List.setIfInBounds_toArray, List.set_cons_zero, List.set_cons_succ] <;> rfl, fun _ => rfl, h1, h2, h3, h4, h5, h6, h7, h8, h9, h10, h11, h12, h13, h14, hB, hF⟩
    · obtain rfl := Option.some.inj hi
      clear hi hil
      have d0 := h0 (hall ⟨0, .data⟩ (by simp) rfl)
      refine StepOk.plain rfl (fun K hK => ?_)
      have HKK := Lib.hid hK; clear hK
      simp only [putAll, Act.put, List.setIfInBounds_toArray, List.set_cons_zero, List.set_cons_succ]
      go_simp
      refine (HCK.out w' hF.out.1).mono ?_
      rintro e w2 ⟨rfl, hb2⟩
      exact HKK.out _ _ ⟨_, by simp only [putAll, Act.put, List.setIfInBounds_toArray, List.set_cons_zero, List.set_cons_succ, d0] <;> rfl, h0, fun _ => rfl, h2, h3, h4, h5, h6, h7, h8, h9, h10, h11, h12, h13, h14, Lib.hid ⟨(hB).out.1.trans (hb2.mono (hB).out.2), Nat.le_trans (hB).out.2 hb2.size⟩, Lib.hid (⟨(hF).out.1.trans (hb2.mono (hF).out.1.size), (hF).out.2.1.grow hb2, (hF).out.2.2.1.grow hb2, (hF).out.2.2.2.grow hb2⟩)⟩
    · obtain rfl := Option.some.inj hi
      clear hi hil
      have d1 := h1 (hall ⟨1, .data⟩ (by simp) rfl)
      refine StepOk.plain rfl (fun K hK => ?_)
      have HKK := Lib.hid hK; clear hK
      simp only [putAll, Act.put, List.setIfInBounds_toArray, List.set_cons_zero, List.set_cons_succ]
      go_simp
      exact HKK.out _ _ ⟨_, by simp only [putAll, Act.put, List.setIfInBounds_toArray, List.set_cons_zero, List.set_cons_succ, d1] <;> rfl, h0, h1, fun _ => rfl, h3, h4, h5, h6, h7, h8, h9, h10, h11, h12, h13, h14, hB, hF⟩
    · obtain rfl := Option.some.inj hi
      clear hi hil
      have d2 := h2 (hall ⟨2, .data⟩ (by simp) rfl)
      refine StepOk.plain rfl (fun K hK => ?_)
      have HKK := Lib.hid hK; clear hK
      simp only [putAll, Act.put, List.setIfInBounds_toArray, List.set_cons_zero, List.set_cons_succ]
      go_simp
      exact HKK.out _ _ ⟨_, by simp only [putAll, Act.put, List.setIfInBounds_toArray, List.set_cons_zero, List.set_cons_succ, d2] <;> rfl, h0, h1, h2, fun _ => rfl, h4, h5, h6, h7, h8, h9, h10, h11, h12, h13, h14, hB, hF⟩
    · obtain rfl := Option.some.inj hi
      clear hi hil
      have d3 := h3 (hall ⟨3, .guard⟩ (by simp) rfl)
      refine StepOk.off 3 false rfl rfl d3 ?_
      exact ⟨undef, rfl, h0, h1, h2, h3, fun _ => rfl, h5, h6, h7, h8, h9, h10, h11, h12, h13, h14, hB, hF⟩
    · obtain rfl := Option.some.inj hi
      clear hi hil
      have d3 := h3 (hall ⟨3, .guard⟩ (by simp) rfl)
      refine StepOk.off 3 false rfl rfl d3 ?_
      exact ⟨undef, rfl, h0, h1, h2, h3, h4, fun _ => rfl, h6, h7, h8, h9, h10, h11, h12, h13, h14, hB, hF⟩
    · obtain rfl := Option.some.inj hi
      clear hi hil
      have d3 := h3 (hall ⟨3, .data⟩ (by simp) rfl)
      have d5 := h5 (hall ⟨5, .data⟩ (by simp) rfl)
      refine StepOk.plain rfl (fun K hK => ?_)
      have HKK := Lib.hid hK; clear hK
      simp only [putAll, Act.put, List.setIfInBounds_toArray, List.set_cons_zero, List.set_cons_succ]
      go_simp
      exact HKK.out _ _ ⟨_, by simp only [putAll, Act.put, List.setIfInBounds_toArray, List.set_cons_zero, List.set_cons_succ, d3, d5] <;> rfl, h0, h1, h2, h3, h4, h5, fun _ => rfl, h7, h8, h9, h10, h11, h12, h13, h14, hB, hF⟩
    · obtain rfl := Option.some.inj hi
      clear hi hil
      have d6 := h6 (hall ⟨6, .data⟩ (by simp) rfl)
      refine StepOk.plain rfl (fun K hK => ?_)
      have HKK := Lib.hid hK; clear hK
      simp only [putAll, Act.put, List.setIfInBounds_toArray, List.set_cons_zero, List.set_cons_succ]
      go_simp
      exact HKK.out _ _ ⟨_, by simp only [putAll, Act.put, List.setIfInBounds_toArray, List.set_cons_zero, List.set_cons_succ, d6] <;> rfl, h0, h1, h2, h3, h4, h5, h6, fun _ => rfl, h8, h9, h10, h11, h12, h13, h14, hB, hF⟩
    · obtain rfl := Option.some.inj hi
      clear hi hil
      have d7 := h7 (hall ⟨7, .guard⟩ (by simp) rfl)
      refine StepOk.off 7 false rfl rfl d7 ?_
      exact ⟨undef, rfl, h0, h1, h2, h3, h4, h5, h6, h7, fun _ => rfl, h9, h10, h11, h12, h13, h14, hB, hF⟩
    · obtain rfl := Option.some.inj hi
      clear hi hil
      have d7 := h7 (hall ⟨7, .guard⟩ (by simp) rfl)
      refine StepOk.off 7 false rfl rfl d7 ?_
      exact ⟨undef, rfl, h0, h1, h2, h3, h4, h5, h6, h7, h8, fun _ => rfl, h10, h11, h12, h13, h14, hB, hF⟩
    · obtain rfl := Option.some.inj hi
      clear hi hil
      have d7 := h7 (hall ⟨7, .guard⟩ (by simp) rfl)
      refine StepOk.off 7 false rfl rfl d7 ?_
      exact ⟨undef, rfl, h0, h1, h2, h3, h4, h5, h6, h7, h8, h9, fun _ => rfl, h11, h12, h13, h14, hB, hF⟩
    · obtain rfl := Option.some.inj hi
      clear hi hil
      have d7 := h7 (hall ⟨7, .guard⟩ (by simp) rfl)
      refine StepOk.off 7 false rfl rfl d7 ?_
      exact ⟨undef, rfl, h0, h1, h2, h3, h4, h5, h6, h7, h8, h9, h10, fun _ => rfl, h12, h13, h14, hB, hF⟩
    · obtain rfl := Option.some.inj hi
      clear hi hil
      have d7 := h7 (hall ⟨7, .guard⟩ (by simp) rfl)
      refine StepOk.off 7 false rfl rfl d7 ?_
      exact ⟨undef, rfl, h0, h1, h2, h3, h4, h5, h6, h7, h8, h9, h10, h11, fun _ => rfl, h13, h14, hB, hF⟩
    · obtain rfl := Option.some.inj hi
      clear hi hil
      have d7 := h7 (hall ⟨7, .guard⟩ (by simp) rfl)
      refine StepOk.off 7 false rfl rfl d7 ?_
      exact ⟨undef, rfl, h0, h1, h2, h3, h4, h5, h6, h7, h8, h9, h10, h11, h12, fun _ => rfl, h14, hB, hF⟩
    · obtain rfl := Option.some.inj hi
      clear hi hil
      have d7 := h7 (hall ⟨7, .data⟩ (by simp) rfl)
      have d13 := h13 (hall ⟨13, .data⟩ (by simp) rfl)
      refine StepOk.plain rfl (fun K hK => ?_)
      have HKK := Lib.hid hK; clear hK
      simp only [putAll, Act.put, List.setIfInBounds_toArray, List.set_cons_zero, List.set_cons_succ]
      go_simp
      exact HKK.out _ _ ⟨_, by simp only [putAll, Act.put, List.setIfInBounds_toArray, List.set_cons_zero, List.set_cons_succ, d7, d13] <;> rfl, h0, h1, h2, h3, h4, h5, h6, h7, h8, h9, h10, h11, h12, h13, fun _ => rfl, hB, hF⟩
    · omega
  · rintro b' vs w2 hall ⟨h0, h1, h2, h3, h4, h5, h6, h7, h8, h9, h10, h11, h12, h13, h14, hB, hF⟩
    have d0 := h0 (hall 0 (by simp))
    have d1 := h1 (hall 1 (by simp))
    have d2 := h2 (hall 2 (by simp))
    have d3 := h3 (hall 3 (by simp))
    have d4 := h4 (hall 4 (by simp))
    have d5 := h5 (hall 5 (by simp))
    have d6 := h6 (hall 6 (by simp))
    have d7 := h7 (hall 7 (by simp))
    have d8 := h8 (hall 8 (by simp))
    have d9 := h9 (hall 9 (by simp))
    have d10 := h10 (hall 10 (by simp))
    have d11 := h11 (hall 11 (by simp))
    have d12 := h12 (hall 12 (by simp))
    have d13 := h13 (hall 13 (by simp))
    have d14 := h14 (hall 14 (by simp))
    have BB := hB
    have FF := hF
    simp only [putAll, Act.put, List.setIfInBounds_toArray, List.set_cons_zero, List.set_cons_succ, d0, d1, d2, d3, d4, d5, d6, d7, d8, d9, d10, d11, d12, d13, d14]
    clear hall h0 d0 h1 d1 h2 d2 h3 d3 h4 d4 h5 d5 h6 d6 h7 d7 h8 d8 h9 d9 h10 d10 h11 d11 h12 d12 h13 d13 h14 d14 hB hF
    have P2 : Hid (Below w.heap.size w w2 ∧ Blk w2 w.heap.size 24 #[.int .i64 W, .int .i64 H, .slice ao n cp] ∧ Blk w2 (w.heap.size + 1) 26 (fourB ⟨x0, y0, x1, y1⟩) ∧ Blk w2 (w.heap.size + 2) 24 #[.int .i64 0, .int .i64 0, .slice none 0 0]) := ⟨FF.out.1, FF.out.2.1, FF.out.2.2.1, FF.out.2.2.2⟩
    have z0 : w2.cell? ⟨w.heap.size + 2, 0, none⟩ = some (.int .i64 0) := P2.out.2.2.2.cell 0
    have z1 : w2.cell? ⟨w.heap.size + 2, 1, none⟩ = some (.int .i64 0) := P2.out.2.2.2.cell 1
    have z2 : w2.cell? ⟨w.heap.size + 2, 2, none⟩ = some (.slice none 0 0) := P2.out.2.2.2.cell 2
    have f0 := P2.out.2.2.2.free 0
    have f1 := P2.out.2.2.2.free 1
    have f2 := P2.out.2.2.2.free 2
    have lg := P2.out.2.2.2.lt
    clear FF BB P1
    go_wp2_with fail
    exact bodyPost_ret (results_imG rfl rfl rfl (P2.out.2.2.2.set3 _ _ _)) rfl ⟨_, rfl, .inl ⟨rfl, rfl⟩, below_three P2.out.1 (by omega) _ _ _⟩
set_option maxHeartbeats 4000000 in
set_option maxRecDepth 100000 in
theorem crop_e (W H x0 y0 x1 y1 : Int) (s : Value) (l : List Col) (w : World) (row : RowK .u8 w s l) (hok : ∀ c ∈ l, OkC c) (hl : l.length ≤ 400) (hr : rightIm W H l = true) (he : emptyI ⟨x0, y0, x1, y1⟩ = true) : Calls Try.prog 22 #[.agg #[.int .i64 W, .int .i64 H, s], .agg #[.int .i64 x0, .int .i64 y0, .int .i64 x1, .int .i64 y1]] w fun e w' => ToldIm w 0 0 [] 30 e w' := by
  have HCK : Hid (∀ A, Below w.heap.size w A → Calls Try.prog 15 #[.agg #[.int .i64 W, .int .i64 H, s]] A fun e w' => e = .returned (.int .i64 0) ∧ Below A.heap.size A w') := fun A hA => by
    have h := checkOk W H s l A (row.on hA) hok (by omega)
    rw [hr] at h
    exact h
  have HEM : Hid (∀ A, Calls Try.prog 45 #[.agg #[.int .i64 x0, .int .i64 y0, .int .i64 x1, .int .i64 y1]] A fun e w' => e = .returned (.bool true) ∧ Below A.heap.size A w') := fun A => by
    have h := emptyB_c ⟨x0, y0, x1, y1⟩ A
    rw [he] at h
    exact h
  obtain ⟨ao, cp, rfl⟩ := row.shape
  obtain ⟨n, hn⟩ : ∃ n, l.length = n := ⟨_, rfl⟩
  rw [hn] at HCK
  rw [hn]
  clear row hok hl hr hn he
  go_enter Try.func22, Try.ntmps22
  go_wp2_with fail
  obtain ⟨w1, hw1⟩ : ∃ WW, ((w.alloc (.cells #[.int .i64 W, .int .i64 H, .slice ao n cp] 24)).alloc (.cells #[.int .i64 x0, .int .i64 y0, .int .i64 x1, .int .i64 y1] 26)).alloc (.cells #[.int .i64 0, .int .i64 0, .slice none 0 0] 24) = WW := ⟨_, rfl⟩
  have P1 : Hid (Below w.heap.size w w1 ∧ Blk w1 w.heap.size 24 #[.int .i64 W, .int .i64 H, .slice ao n cp] ∧ Blk w1 (w.heap.size + 1) 26 (fourB ⟨x0, y0, x1, y1⟩) ∧ Blk w1 (w.heap.size + 2) 24 #[.int .i64 0, .int .i64 0, .slice none 0 0]) := by
    rw [← hw1]
    exact ⟨((((Below.refl _ _).alloc (Nat.le_refl _) _).alloc (by simp) _).alloc (by simp; omega) _), ((Blk.new _ _ _).alloc _).alloc _, (Blk.newAt _ _ _ (by simp)).alloc _, Blk.newAt _ _ _ (by simp)⟩
  rw [hw1]
  clear hw1
  refine wp_region_put3 (by kernel_rfl) (by kernel_rfl) (by kernel_rfl) (fun b' vs w' => (b' 0 = true → vs 0 = .agg #[.int .i64 W, .int .i64 H, .slice ao n cp]) ∧ (b' 1 = true → vs 1 = .int .i64 0) ∧ (b' 2 = true → vs 2 = .bool false) ∧ (b' 3 = true → vs 3 = .bool false) ∧ (b' 4 = true → vs 4 = .agg #[.int .i64 x0, .int .i64 y0, .int .i64 x1, .int .i64 y1]) ∧ (b' 5 = true → vs 5 = .bool true) ∧ (b' 6 = true → vs 6 = .bool true) ∧ (b' 7 = true → vs 7 = .bool true) ∧ (b' 8 = true → vs 8 = undef) ∧ (b' 9 = true → vs 9 = undef) ∧ (b' 10 = true → vs 10 = undef) ∧ (b' 11 = true → vs 11 = undef) ∧ (b' 12 = true → vs 12 = undef) ∧ (b' 13 = true → vs 13 = undef) ∧ (b' 14 = true → vs 14 = .bool true) ∧ (Hid (Below w.heap.size w w' ∧ w.heap.size ≤ w'.heap.size)) ∧ (Hid (Below w.heap.size w w' ∧ Blk w' w.heap.size 24 #[.int .i64 W, .int .i64 H, .slice ao n cp] ∧ Blk w' (w.heap.size + 1) 26 (fourB ⟨x0, y0, x1, y1⟩) ∧ Blk w' (w.heap.size + 2) 24 #[.int .i64 0, .int .i64 0, .slice none 0 0]))) ?_ ?_ ?_
  · intro vs
    exact ⟨fun h => Bool.noConfusion h, fun h => Bool.noConfusion h, fun h => Bool.noConfusion h, fun h => Bool.noConfusion h, fun h => Bool.noConfusion h, fun h => Bool.noConfusion h, fun h => Bool.noConfusion h, fun h => Bool.noConfusion h, fun h => Bool.noConfusion h, fun h => Bool.noConfusion h, fun h => Bool.noConfusion h, fun h => Bool.noConfusion h, fun h => Bool.noConfusion h, fun h => Bool.noConfusion h, fun h => Bool.noConfusion h, ⟨P1.out.1.trans ⟨rfl, rfl, rfl, Nat.le_refl _, fun _ _ => rfl⟩, P1.out.1.size⟩, ⟨P1.out.1.trans ⟨rfl, rfl, rfl, Nat.le_refl _, fun _ _ => rfl⟩, P1.out.2.1, P1.out.2.2.1, P1.out.2.2.2⟩⟩
  · rintro b' vs w' i op hi hun hall ⟨h0, h1, h2, h3, h4, h5, h6, h7, h8, h9, h10, h11, h12, h13, h14, hB, hF⟩
    have hil : i < 15 := (List.getElem?_eq_some_iff.1 hi).1
    rcases i with _ | _ | _ | _ | _ | _ | _ | _ | _ | _ | _ | _ | _ | _ | _ | i
    · obtain rfl := Option.some.inj hi
      clear hi hil
      have kb := hF.out.2.1
      have c0 : w'.cell? ⟨w.heap.size, 0, none⟩ = some (.int .i64 W) := kb.cell 0
      have c1 : w'.cell? ⟨w.heap.size, 1, none⟩ = some (.int .i64 H) := kb.cell 1
      have c2 : w'.cell? ⟨w.heap.size, 2, none⟩ = some (.slice ao n cp) := kb.cell 2
      refine StepOk.plain rfl (fun K hK => ?_)
      have HKK := Lib.hid hK; clear hK
      simp only [putAll, Act.put, List.setIfInBounds_toArray, List.set_cons_zero, List.set_cons_succ]
      go_simp
      exact HKK.out _ _ ⟨_, by simp only [putAll, Act.put, List.setIfInBounds_toArray, List.set_cons_zero, List.set_cons_succ] <;> rfl, fun _ => rfl, h1, h2, h3, h4, h5, h6, h7, h8, h9, h10, h11, h12, h13, h14, hB, hF⟩
    · obtain rfl := Option.some.inj hi
      clear hi hil
      have d0 := h0 (hall ⟨0, .data⟩ (by simp) rfl)
      refine StepOk.plain rfl (fun K hK => ?_)
      have HKK := Lib.hid hK; clear hK
      simp only [putAll, Act.put, List.setIfInBounds_toArray, List.set_cons_zero, List.set_cons_succ]
      go_simp
      refine (HCK.out w' hF.out.1).mono ?_
      rintro e w2 ⟨rfl, hb2⟩
      exact HKK.out _ _ ⟨_, by simp only [putAll, Act.put, List.setIfInBounds_toArray, List.set_cons_zero, List.set_cons_succ, d0] <;> rfl, h0, fun _ => rfl, h2, h3, h4, h5, h6, h7, h8, h9, h10, h11, h12, h13, h14, Lib.hid ⟨(hB).out.1.trans (hb2.mono (hB).out.2), Nat.le_trans (hB).out.2 hb2.size⟩, Lib.hid (⟨(hF).out.1.trans (hb2.mono (hF).out.1.size), (hF).out.2.1.grow hb2, (hF).out.2.2.1.grow hb2, (hF).out.2.2.2.grow hb2⟩)⟩
    · obtain rfl := Option.some.inj hi
      clear hi hil
      have d1 := h1 (hall ⟨1, .data⟩ (by simp) rfl)
      refine StepOk.plain rfl (fun K hK => ?_)
      have HKK := Lib.hid hK; clear hK
      simp only [putAll, Act.put, List.setIfInBounds_toArray, List.set_cons_zero, List.set_cons_succ]
      go_simp
      exact HKK.out _ _ ⟨_, by simp only [putAll, Act.put, List.setIfInBounds_toArray, List.set_cons_zero, List.set_cons_succ, d1] <;> rfl, h0, h1, fun _ => rfl, h3, h4, h5, h6, h7, h8, h9, h10, h11, h12, h13, h14, hB, hF⟩
    · obtain rfl := Option.some.inj hi
      clear hi hil
      have d2 := h2 (hall ⟨2, .data⟩ (by simp) rfl)
      refine StepOk.plain rfl (fun K hK => ?_)
      have HKK := Lib.hid hK; clear hK
      simp only [putAll, Act.put, List.setIfInBounds_toArray, List.set_cons_zero, List.set_cons_succ]
      go_simp
      exact HKK.out _ _ ⟨_, by simp only [putAll, Act.put, List.setIfInBounds_toArray, List.set_cons_zero, List.set_cons_succ, d2] <;> rfl, h0, h1, h2, fun _ => rfl, h4, h5, h6, h7, h8, h9, h10, h11, h12, h13, h14, hB, hF⟩
    · obtain rfl := Option.some.inj hi
      clear hi hil
      have d3 := h3 (hall ⟨3, .guard⟩ (by simp) rfl)
      have kb := hF.out.2.2.1
      have c0 := kb.b0
      have c1 := kb.b1
      have c2 := kb.b2
      have c3 := kb.b3
      simp only at c0 c1 c2 c3
      refine StepOk.on 3 false rfl rfl d3 (fun K hK => ?_)
      have HKK := Lib.hid hK; clear hK
      simp only [putAll, Act.put, List.setIfInBounds_toArray, List.set_cons_zero, List.set_cons_succ]
      go_simp
      exact HKK.out _ _ ⟨_, by simp only [putAll, Act.put, List.setIfInBounds_toArray, List.set_cons_zero, List.set_cons_succ, d3] <;> rfl, h0, h1, h2, h3, fun _ => rfl, h5, h6, h7, h8, h9, h10, h11, h12, h13, h14, hB, hF⟩
    · obtain rfl := Option.some.inj hi
      clear hi hil
      have d4 := h4 (hall ⟨4, .data⟩ (by simp) rfl)
      have d3 := h3 (hall ⟨3, .guard⟩ (by simp) rfl)
      refine StepOk.on 3 false rfl rfl d3 (fun K hK => ?_)
      have HKK := Lib.hid hK; clear hK
      simp only [putAll, Act.put, List.setIfInBounds_toArray, List.set_cons_zero, List.set_cons_succ]
      go_simp
      refine (HEM.out w').mono ?_
      rintro e w2 ⟨rfl, hb2⟩
      exact HKK.out _ _ ⟨_, by simp only [putAll, Act.put, List.setIfInBounds_toArray, List.set_cons_zero, List.set_cons_succ, d4, d3] <;> rfl, h0, h1, h2, h3, h4, fun _ => rfl, h6, h7, h8, h9, h10, h11, h12, h13, h14, Lib.hid ⟨(hB).out.1.trans (hb2.mono (hB).out.2), Nat.le_trans (hB).out.2 hb2.size⟩, Lib.hid (⟨(hF).out.1.trans (hb2.mono (hF).out.1.size), (hF).out.2.1.grow hb2, (hF).out.2.2.1.grow hb2, (hF).out.2.2.2.grow hb2⟩)⟩
    · obtain rfl := Option.some.inj hi
      clear hi hil
      have d3 := h3 (hall ⟨3, .data⟩ (by simp) rfl)
      have d5 := h5 (hall ⟨5, .data⟩ (by simp) rfl)
      refine StepOk.plain rfl (fun K hK => ?_)
      have HKK := Lib.hid hK; clear hK
      simp only [putAll, Act.put, List.setIfInBounds_toArray, List.set_cons_zero, List.set_cons_succ]
      go_simp
      exact HKK.out _ _ ⟨_, by simp only [putAll, Act.put, List.setIfInBounds_toArray, List.set_cons_zero, List.set_cons_succ, d3, d5] <;> rfl, h0, h1, h2, h3, h4, h5, fun _ => rfl, h7, h8, h9, h10, h11, h12, h13, h14, hB, hF⟩
    · obtain rfl := Option.some.inj hi
      clear hi hil
      have d6 := h6 (hall ⟨6, .data⟩ (by simp) rfl)
      refine StepOk.plain rfl (fun K hK => ?_)
      have HKK := Lib.hid hK; clear hK
      simp only [putAll, Act.put, List.setIfInBounds_toArray, List.set_cons_zero, List.set_cons_succ]
      go_simp
      exact HKK.out _ _ ⟨_, by simp only [putAll, Act.put, List.setIfInBounds_toArray, List.set_cons_zero, List.set_cons_succ, d6] <;> rfl, h0, h1, h2, h3, h4, h5, h6, fun _ => rfl, h8, h9, h10, h11, h12, h13, h14, hB, hF⟩
    · obtain rfl := Option.some.inj hi
      clear hi hil
      have d7 := h7 (hall ⟨7, .guard⟩ (by simp) rfl)
      refine StepOk.off 7 false rfl rfl d7 ?_
      exact ⟨undef, rfl, h0, h1, h2, h3, h4, h5, h6, h7, fun _ => rfl, h9, h10, h11, h12, h13, h14, hB, hF⟩
    · obtain rfl := Option.some.inj hi
      clear hi hil
      have d7 := h7 (hall ⟨7, .guard⟩ (by simp) rfl)
      refine StepOk.off 7 false rfl rfl d7 ?_
      exact ⟨undef, rfl, h0, h1, h2, h3, h4, h5, h6, h7, h8, fun _ => rfl, h10, h11, h12, h13, h14, hB, hF⟩
    · obtain rfl := Option.some.inj hi
      clear hi hil
      have d7 := h7 (hall ⟨7, .guard⟩ (by simp) rfl)
      refine StepOk.off 7 false rfl rfl d7 ?_
      exact ⟨undef, rfl, h0, h1, h2, h3, h4, h5, h6, h7, h8, h9, fun _ => rfl, h11, h12, h13, h14, hB, hF⟩
    · obtain rfl := Option.some.inj hi
      clear hi hil
      have d7 := h7 (hall ⟨7, .guard⟩ (by simp) rfl)
      refine StepOk.off 7 false rfl rfl d7 ?_
      exact ⟨undef, rfl, h0, h1, h2, h3, h4, h5, h6, h7, h8, h9, h10, fun _ => rfl, h12, h13, h14, hB, hF⟩
    · obtain rfl := Option.some.inj hi
      clear hi hil
      have d7 := h7 (hall ⟨7, .guard⟩ (by simp) rfl)
      refine StepOk.off 7 false rfl rfl d7 ?_
      exact ⟨undef, rfl, h0, h1, h2, h3, h4, h5, h6, h7, h8, h9, h10, h11, fun _ => rfl, h13, h14, hB, hF⟩
    · obtain rfl := Option.some.inj hi
      clear hi hil
      have d7 := h7 (hall ⟨7, .guard⟩ (by simp) rfl)
      refine StepOk.off 7 false rfl rfl d7 ?_
      exact ⟨undef, rfl, h0, h1, h2, h3, h4, h5, h6, h7, h8, h9, h10, h11, h12, fun _ => rfl, h14, hB, hF⟩
    · obtain rfl := Option.some.inj hi
      clear hi hil
      have d7 := h7 (hall ⟨7, .data⟩ (by simp) rfl)
      have d13 := h13 (hall ⟨13, .data⟩ (by simp) rfl)
      refine StepOk.plain rfl (fun K hK => ?_)
      have HKK := Lib.hid hK; clear hK
      simp only [putAll, Act.put, List.setIfInBounds_toArray, List.set_cons_zero, List.set_cons_succ]
      go_simp
      exact HKK.out _ _ ⟨_, by simp only [putAll, Act.put, List.setIfInBounds_toArray, List.set_cons_zero, List.set_cons_succ, d7, d13] <;> rfl, h0, h1, h2, h3, h4, h5, h6, h7, h8, h9, h10, h11, h12, h13, fun _ => rfl, hB, hF⟩
    · omega
  · rintro b' vs w2 hall ⟨h0, h1, h2, h3, h4, h5, h6, h7, h8, h9, h10, h11, h12, h13, h14, hB, hF⟩
    have d0 := h0 (hall 0 (by simp))
    have d1 := h1 (hall 1 (by simp))
    have d2 := h2 (hall 2 (by simp))
    have d3 := h3 (hall 3 (by simp))
    have d4 := h4 (hall 4 (by simp))
    have d5 := h5 (hall 5 (by simp))
    have d6 := h6 (hall 6 (by simp))
    have d7 := h7 (hall 7 (by simp))
    have d8 := h8 (hall 8 (by simp))
    have d9 := h9 (hall 9 (by simp))
    have d10 := h10 (hall 10 (by simp))
    have d11 := h11 (hall 11 (by simp))
    have d12 := h12 (hall 12 (by simp))
    have d13 := h13 (hall 13 (by simp))
    have d14 := h14 (hall 14 (by simp))
    have BB := hB
    have FF := hF
    simp only [putAll, Act.put, List.setIfInBounds_toArray, List.set_cons_zero, List.set_cons_succ, d0, d1, d2, d3, d4, d5, d6, d7, d8, d9, d10, d11, d12, d13, d14]
    clear hall h0 d0 h1 d1 h2 d2 h3 d3 h4 d4 h5 d5 h6 d6 h7 d7 h8 d8 h9 d9 h10 d10 h11 d11 h12 d12 h13 d13 h14 d14 hB hF
    have P2 : Hid (Below w.heap.size w w2 ∧ Blk w2 w.heap.size 24 #[.int .i64 W, .int .i64 H, .slice ao n cp] ∧ Blk w2 (w.heap.size + 1) 26 (fourB ⟨x0, y0, x1, y1⟩) ∧ Blk w2 (w.heap.size + 2) 24 #[.int .i64 0, .int .i64 0, .slice none 0 0]) := ⟨FF.out.1, FF.out.2.1, FF.out.2.2.1, FF.out.2.2.2⟩
    have z0 : w2.cell? ⟨w.heap.size + 2, 0, none⟩ = some (.int .i64 0) := P2.out.2.2.2.cell 0
    have z1 : w2.cell? ⟨w.heap.size + 2, 1, none⟩ = some (.int .i64 0) := P2.out.2.2.2.cell 1
    have z2 : w2.cell? ⟨w.heap.size + 2, 2, none⟩ = some (.slice none 0 0) := P2.out.2.2.2.cell 2
    have f0 := P2.out.2.2.2.free 0
    have f1 := P2.out.2.2.2.free 1
    have f2 := P2.out.2.2.2.free 2
    have lg := P2.out.2.2.2.lt
    clear FF BB P1
    go_wp2_with fail
    exact bodyPost_ret (results_imG rfl rfl rfl (P2.out.2.2.2.set3 _ _ _)) rfl ⟨_, rfl, .inl ⟨rfl, rfl⟩, below_three P2.out.1 (by omega) _ _ _⟩
set_option maxHeartbeats 4000000 in
set_option maxRecDepth 100000 in
theorem crop_w (W H x0 y0 x1 y1 : Int) (s : Value) (l : List Col) (w : World) (row : RowK .u8 w s l) (hok : ∀ c ∈ l, OkC c) (hl : l.length ≤ 400) (hr : rightIm W H l = true) (he : emptyI ⟨x0, y0, x1, y1⟩ = false) (hcb : cropB W H x0 y0 x1 y1 = true) : Calls Try.prog 22 #[.agg #[.int .i64 W, .int .i64 H, s], .agg #[.int .i64 x0, .int .i64 y0, .int .i64 x1, .int .i64 y1]] w fun e w' => ToldIm w 0 0 [] 30 e w' := by
  obtain ⟨m, hm⟩ : ∃ m, meetI ⟨x0, y0, x1, y1⟩ ⟨0, 0, W, H⟩ = m := ⟨_, rfl⟩
  have HCK : Hid (∀ A, Below w.heap.size w A → Calls Try.prog 15 #[.agg #[.int .i64 W, .int .i64 H, s]] A fun e w' => e = .returned (.int .i64 0) ∧ Below A.heap.size A w') := fun A hA => by
    have h := checkOk W H s l A (row.on hA) hok (by omega)
    rw [hr] at h
    exact h
  have HEM : Hid (∀ A, Calls Try.prog 45 #[.agg #[.int .i64 x0, .int .i64 y0, .int .i64 x1, .int .i64 y1]] A fun e w' => e = .returned (.bool false) ∧ Below A.heap.size A w') := fun A => by
    have h := emptyB_c ⟨x0, y0, x1, y1⟩ A
    rw [he] at h
    exact h
  have HMT : Hid (∀ A, Calls Try.prog 35 #[.agg #[.int .i64 x0, .int .i64 y0, .int .i64 x1, .int .i64 y1], .agg #[.int .i64 0, .int .i64 0, .int .i64 W, .int .i64 H]] A fun e w' => e = .returned (.agg #[.int .i64 m.x0, .int .i64 m.y0, .int .i64 m.x1, .int .i64 m.y1]) ∧ Below A.heap.size A w') := fun A => by
    have h := meet_c ⟨x0, y0, x1, y1⟩ ⟨0, 0, W, H⟩ A
    rw [hm] at h
    exact h
  have HIF : Hid (∀ (R S : Result Next), (if m.x0 = x0 then if m.y0 = y0 then if m.x1 = x1 then if m.y1 = y1 then R else S else S else S else S) = S) := fun R S => by
    have h2 := meet_other (W := W) (H := H) he
    rw [hm, hcb] at h2
    by_cases k0 : m.x0 = x0
    · by_cases k1 : m.y0 = y0
      · by_cases k2 : m.x1 = x1
        · by_cases k3 : m.y1 = y1
          · rw [k0, k1, k2, k3] at h2; simp at h2
          · rw [if_pos k0, if_pos k1, if_pos k2, if_neg k3]
        · rw [if_pos k0, if_pos k1, if_neg k2]
      · rw [if_pos k0, if_neg k1]
    · rw [if_neg k0]
  obtain ⟨ao, cp, rfl⟩ := row.shape
  obtain ⟨n, hn⟩ : ∃ n, l.length = n := ⟨_, rfl⟩
  rw [hn] at HCK
  rw [hn]
  clear row hok hl hr hn he hm hcb
  go_enter Try.func22, Try.ntmps22
  go_wp2_with fail
  obtain ⟨w1, hw1⟩ : ∃ WW, ((w.alloc (.cells #[.int .i64 W, .int .i64 H, .slice ao n cp] 24)).alloc (.cells #[.int .i64 x0, .int .i64 y0, .int .i64 x1, .int .i64 y1] 26)).alloc (.cells #[.int .i64 0, .int .i64 0, .slice none 0 0] 24) = WW := ⟨_, rfl⟩
  have P1 : Hid (Below w.heap.size w w1 ∧ Blk w1 w.heap.size 24 #[.int .i64 W, .int .i64 H, .slice ao n cp] ∧ Blk w1 (w.heap.size + 1) 26 (fourB ⟨x0, y0, x1, y1⟩) ∧ Blk w1 (w.heap.size + 2) 24 #[.int .i64 0, .int .i64 0, .slice none 0 0]) := by
    rw [← hw1]
    exact ⟨((((Below.refl _ _).alloc (Nat.le_refl _) _).alloc (by simp) _).alloc (by simp; omega) _), ((Blk.new _ _ _).alloc _).alloc _, (Blk.newAt _ _ _ (by simp)).alloc _, Blk.newAt _ _ _ (by simp)⟩
  rw [hw1]
  clear hw1
  refine wp_region_put3 (by kernel_rfl) (by kernel_rfl) (by kernel_rfl) (fun b' vs w' => (b' 0 = true → vs 0 = .agg #[.int .i64 W, .int .i64 H, .slice ao n cp]) ∧ (b' 1 = true → vs 1 = .int .i64 0) ∧ (b' 2 = true → vs 2 = .bool false) ∧ (b' 3 = true → vs 3 = .bool false) ∧ (b' 4 = true → vs 4 = .agg #[.int .i64 x0, .int .i64 y0, .int .i64 x1, .int .i64 y1]) ∧ (b' 5 = true → vs 5 = .bool false) ∧ (b' 6 = true → vs 6 = .bool false) ∧ (b' 7 = true → vs 7 = .bool false) ∧ (b' 8 = true → vs 8 = .agg #[.int .i64 x0, .int .i64 y0, .int .i64 x1, .int .i64 y1]) ∧ (b' 9 = true → vs 9 = .agg #[.int .i64 W, .int .i64 H, .slice ao n cp]) ∧ (b' 10 = true → vs 10 = .agg #[.int .i64 0, .int .i64 0, .int .i64 W, .int .i64 H]) ∧ (b' 11 = true → vs 11 = .agg #[.int .i64 m.x0, .int .i64 m.y0, .int .i64 m.x1, .int .i64 m.y1]) ∧ (b' 12 = true → vs 12 = .agg #[.int .i64 x0, .int .i64 y0, .int .i64 x1, .int .i64 y1]) ∧ (b' 13 = true → vs 13 = .bool true) ∧ (b' 14 = true → vs 14 = .bool true) ∧ (Hid (Below w.heap.size w w' ∧ w.heap.size ≤ w'.heap.size)) ∧ (Hid (Below w.heap.size w w' ∧ Blk w' w.heap.size 24 #[.int .i64 W, .int .i64 H, .slice ao n cp] ∧ Blk w' (w.heap.size + 1) 26 (fourB ⟨x0, y0, x1, y1⟩) ∧ Blk w' (w.heap.size + 2) 24 #[.int .i64 0, .int .i64 0, .slice none 0 0]))) ?_ ?_ ?_
  · intro vs
    exact ⟨fun h => Bool.noConfusion h, fun h => Bool.noConfusion h, fun h => Bool.noConfusion h, fun h => Bool.noConfusion h, fun h => Bool.noConfusion h, fun h => Bool.noConfusion h, fun h => Bool.noConfusion h, fun h => Bool.noConfusion h, fun h => Bool.noConfusion h, fun h => Bool.noConfusion h, fun h => Bool.noConfusion h, fun h => Bool.noConfusion h, fun h => Bool.noConfusion h, fun h => Bool.noConfusion h, fun h => Bool.noConfusion h, ⟨P1.out.1.trans ⟨rfl, rfl, rfl, Nat.le_refl _, fun _ _ => rfl⟩, P1.out.1.size⟩, ⟨P1.out.1.trans ⟨rfl, rfl, rfl, Nat.le_refl _, fun _ _ => rfl⟩, P1.out.2.1, P1.out.2.2.1, P1.out.2.2.2⟩⟩
  · rintro b' vs w' i op hi hun hall ⟨h0, h1, h2, h3, h4, h5, h6, h7, h8, h9, h10, h11, h12, h13, h14, hB, hF⟩
    have hil : i < 15 := (List.getElem?_eq_some_iff.1 hi).1
    rcases i with _ | _ | _ | _ | _ | _ | _ | _ | _ | _ | _ | _ | _ | _ | _ | i
    · obtain rfl := Option.some.inj hi
      clear hi hil
      have kb := hF.out.2.1
      have c0 : w'.cell? ⟨w.heap.size, 0, none⟩ = some (.int .i64 W) := kb.cell 0
      have c1 : w'.cell? ⟨w.heap.size, 1, none⟩ = some (.int .i64 H) := kb.cell 1
      have c2 : w'.cell? ⟨w.heap.size, 2, none⟩ = some (.slice ao n cp) := kb.cell 2
      refine StepOk.plain rfl (fun K hK => ?_)
      have HKK := Lib.hid hK; clear hK
      simp only [putAll, Act.put, List.setIfInBounds_toArray, List.set_cons_zero, List.set_cons_succ]
      go_simp
      exact HKK.out _ _ ⟨_, by simp only [putAll, Act.put, List.setIfInBounds_toArray, List.set_cons_zero, List.set_cons_succ] <;> rfl, fun _ => rfl, h1, h2, h3, h4, h5, h6, h7, h8, h9, h10, h11, h12, h13, h14, hB, hF⟩
    · obtain rfl := Option.some.inj hi
      clear hi hil
      have d0 := h0 (hall ⟨0, .data⟩ (by simp) rfl)
      refine StepOk.plain rfl (fun K hK => ?_)
      have HKK := Lib.hid hK; clear hK
      simp only [putAll, Act.put, List.setIfInBounds_toArray, List.set_cons_zero, List.set_cons_succ]
      go_simp
      refine (HCK.out w' hF.out.1).mono ?_
      rintro e w2 ⟨rfl, hb2⟩
      exact HKK.out _ _ ⟨_, by simp only [putAll, Act.put, List.setIfInBounds_toArray, List.set_cons_zero, List.set_cons_succ, d0] <;> rfl, h0, fun _ => rfl, h2, h3, h4, h5, h6, h7, h8, h9, h10, h11, h12, h13, h14, Lib.hid ⟨(hB).out.1.trans (hb2.mono (hB).out.2), Nat.le_trans (hB).out.2 hb2.size⟩, Lib.hid (⟨(hF).out.1.trans (hb2.mono (hF).out.1.size), (hF).out.2.1.grow hb2, (hF).out.2.2.1.grow hb2, (hF).out.2.2.2.grow hb2⟩)⟩
    · obtain rfl := Option.some.inj hi
      clear hi hil
      have d1 := h1 (hall ⟨1, .data⟩ (by simp) rfl)
      refine StepOk.plain rfl (fun K hK => ?_)
      have HKK := Lib.hid hK; clear hK
      simp only [putAll, Act.put, List.setIfInBounds_toArray, List.set_cons_zero, List.set_cons_succ]
      go_simp
      exact HKK.out _ _ ⟨_, by simp only [putAll, Act.put, List.setIfInBounds_toArray, List.set_cons_zero, List.set_cons_succ, d1] <;> rfl, h0, h1, fun _ => rfl, h3, h4, h5, h6, h7, h8, h9, h10, h11, h12, h13, h14, hB, hF⟩
    · obtain rfl := Option.some.inj hi
      clear hi hil
      have d2 := h2 (hall ⟨2, .data⟩ (by simp) rfl)
      refine StepOk.plain rfl (fun K hK => ?_)
      have HKK := Lib.hid hK; clear hK
      simp only [putAll, Act.put, List.setIfInBounds_toArray, List.set_cons_zero, List.set_cons_succ]
      go_simp
      exact HKK.out _ _ ⟨_, by simp only [putAll, Act.put, List.setIfInBounds_toArray, List.set_cons_zero, List.set_cons_succ, d2] <;> rfl, h0, h1, h2, fun _ => rfl, h4, h5, h6, h7, h8, h9, h10, h11, h12, h13, h14, hB, hF⟩
    · obtain rfl := Option.some.inj hi
      clear hi hil
      have d3 := h3 (hall ⟨3, .guard⟩ (by simp) rfl)
      have kb := hF.out.2.2.1
      have c0 := kb.b0
      have c1 := kb.b1
      have c2 := kb.b2
      have c3 := kb.b3
      simp only at c0 c1 c2 c3
      refine StepOk.on 3 false rfl rfl d3 (fun K hK => ?_)
      have HKK := Lib.hid hK; clear hK
      simp only [putAll, Act.put, List.setIfInBounds_toArray, List.set_cons_zero, List.set_cons_succ]
      go_simp
      exact HKK.out _ _ ⟨_, by simp only [putAll, Act.put, List.setIfInBounds_toArray, List.set_cons_zero, List.set_cons_succ, d3] <;> rfl, h0, h1, h2, h3, fun _ => rfl, h5, h6, h7, h8, h9, h10, h11, h12, h13, h14, hB, hF⟩
    · obtain rfl := Option.some.inj hi
      clear hi hil
      have d4 := h4 (hall ⟨4, .data⟩ (by simp) rfl)
      have d3 := h3 (hall ⟨3, .guard⟩ (by simp) rfl)
      refine StepOk.on 3 false rfl rfl d3 (fun K hK => ?_)
      have HKK := Lib.hid hK; clear hK
      simp only [putAll, Act.put, List.setIfInBounds_toArray, List.set_cons_zero, List.set_cons_succ]
      go_simp
      refine (HEM.out w').mono ?_
      rintro e w2 ⟨rfl, hb2⟩
      exact HKK.out _ _ ⟨_, by simp only [putAll, Act.put, List.setIfInBounds_toArray, List.set_cons_zero, List.set_cons_succ, d4, d3] <;> rfl, h0, h1, h2, h3, h4, fun _ => rfl, h6, h7, h8, h9, h10, h11, h12, h13, h14, Lib.hid ⟨(hB).out.1.trans (hb2.mono (hB).out.2), Nat.le_trans (hB).out.2 hb2.size⟩, Lib.hid (⟨(hF).out.1.trans (hb2.mono (hF).out.1.size), (hF).out.2.1.grow hb2, (hF).out.2.2.1.grow hb2, (hF).out.2.2.2.grow hb2⟩)⟩
    · obtain rfl := Option.some.inj hi
      clear hi hil
      have d3 := h3 (hall ⟨3, .data⟩ (by simp) rfl)
      have d5 := h5 (hall ⟨5, .data⟩ (by simp) rfl)
      refine StepOk.plain rfl (fun K hK => ?_)
      have HKK := Lib.hid hK; clear hK
      simp only [putAll, Act.put, List.setIfInBounds_toArray, List.set_cons_zero, List.set_cons_succ]
      go_simp
      exact HKK.out _ _ ⟨_, by simp only [putAll, Act.put, List.setIfInBounds_toArray, List.set_cons_zero, List.set_cons_succ, d3, d5] <;> rfl, h0, h1, h2, h3, h4, h5, fun _ => rfl, h7, h8, h9, h10, h11, h12, h13, h14, hB, hF⟩
    · obtain rfl := Option.some.inj hi
      clear hi hil
      have d6 := h6 (hall ⟨6, .data⟩ (by simp) rfl)
      refine StepOk.plain rfl (fun K hK => ?_)
      have HKK := Lib.hid hK; clear hK
      simp only [putAll, Act.put, List.setIfInBounds_toArray, List.set_cons_zero, List.set_cons_succ]
      go_simp
      exact HKK.out _ _ ⟨_, by simp only [putAll, Act.put, List.setIfInBounds_toArray, List.set_cons_zero, List.set_cons_succ, d6] <;> rfl, h0, h1, h2, h3, h4, h5, h6, fun _ => rfl, h8, h9, h10, h11, h12, h13, h14, hB, hF⟩
    · obtain rfl := Option.some.inj hi
      clear hi hil
      have d7 := h7 (hall ⟨7, .guard⟩ (by simp) rfl)
      have kb := hF.out.2.2.1
      have c0 := kb.b0
      have c1 := kb.b1
      have c2 := kb.b2
      have c3 := kb.b3
      simp only at c0 c1 c2 c3
      refine StepOk.on 7 false rfl rfl d7 (fun K hK => ?_)
      have HKK := Lib.hid hK; clear hK
      simp only [putAll, Act.put, List.setIfInBounds_toArray, List.set_cons_zero, List.set_cons_succ]
      go_simp
      exact HKK.out _ _ ⟨_, by simp only [putAll, Act.put, List.setIfInBounds_toArray, List.set_cons_zero, List.set_cons_succ, d7] <;> rfl, h0, h1, h2, h3, h4, h5, h6, h7, fun _ => rfl, h9, h10, h11, h12, h13, h14, hB, hF⟩
    · obtain rfl := Option.some.inj hi
      clear hi hil
      have d7 := h7 (hall ⟨7, .guard⟩ (by simp) rfl)
      have kb := hF.out.2.1
      have c0 : w'.cell? ⟨w.heap.size, 0, none⟩ = some (.int .i64 W) := kb.cell 0
      have c1 : w'.cell? ⟨w.heap.size, 1, none⟩ = some (.int .i64 H) := kb.cell 1
      have c2 : w'.cell? ⟨w.heap.size, 2, none⟩ = some (.slice ao n cp) := kb.cell 2
      refine StepOk.on 7 false rfl rfl d7 (fun K hK => ?_)
      have HKK := Lib.hid hK; clear hK
      simp only [putAll, Act.put, List.setIfInBounds_toArray, List.set_cons_zero, List.set_cons_succ]
      go_simp
      exact HKK.out _ _ ⟨_, by simp only [putAll, Act.put, List.setIfInBounds_toArray, List.set_cons_zero, List.set_cons_succ, d7] <;> rfl, h0, h1, h2, h3, h4, h5, h6, h7, h8, fun _ => rfl, h10, h11, h12, h13, h14, hB, hF⟩
    · obtain rfl := Option.some.inj hi
      clear hi hil
      have d9 := h9 (hall ⟨9, .data⟩ (by simp) rfl)
      have d7 := h7 (hall ⟨7, .guard⟩ (by simp) rfl)
      refine StepOk.on 7 false rfl rfl d7 (fun K hK => ?_)
      have HKK := Lib.hid hK; clear hK
      simp only [putAll, Act.put, List.setIfInBounds_toArray, List.set_cons_zero, List.set_cons_succ]
      go_simp
      refine (imBox_c W H (.slice ao n cp) w').mono ?_
      rintro e w2 ⟨rfl, hb2⟩
      exact HKK.out _ _ ⟨_, by simp only [putAll, Act.put, List.setIfInBounds_toArray, List.set_cons_zero, List.set_cons_succ, d9, d7] <;> rfl, h0, h1, h2, h3, h4, h5, h6, h7, h8, h9, fun _ => rfl, h11, h12, h13, h14, Lib.hid ⟨(hB).out.1.trans (hb2.mono (hB).out.2), Nat.le_trans (hB).out.2 hb2.size⟩, Lib.hid (⟨(hF).out.1.trans (hb2.mono (hF).out.1.size), (hF).out.2.1.grow hb2, (hF).out.2.2.1.grow hb2, (hF).out.2.2.2.grow hb2⟩)⟩
    · obtain rfl := Option.some.inj hi
      clear hi hil
      have d8 := h8 (hall ⟨8, .data⟩ (by simp) rfl)
      have d10 := h10 (hall ⟨10, .data⟩ (by simp) rfl)
      have d7 := h7 (hall ⟨7, .guard⟩ (by simp) rfl)
      refine StepOk.on 7 false rfl rfl d7 (fun K hK => ?_)
      have HKK := Lib.hid hK; clear hK
      simp only [putAll, Act.put, List.setIfInBounds_toArray, List.set_cons_zero, List.set_cons_succ]
      go_simp
      refine (HMT.out w').mono ?_
      rintro e w2 ⟨rfl, hb2⟩
      exact HKK.out _ _ ⟨_, by simp only [putAll, Act.put, List.setIfInBounds_toArray, List.set_cons_zero, List.set_cons_succ, d8, d10, d7] <;> rfl, h0, h1, h2, h3, h4, h5, h6, h7, h8, h9, h10, fun _ => rfl, h12, h13, h14, Lib.hid ⟨(hB).out.1.trans (hb2.mono (hB).out.2), Nat.le_trans (hB).out.2 hb2.size⟩, Lib.hid (⟨(hF).out.1.trans (hb2.mono (hF).out.1.size), (hF).out.2.1.grow hb2, (hF).out.2.2.1.grow hb2, (hF).out.2.2.2.grow hb2⟩)⟩
    · obtain rfl := Option.some.inj hi
      clear hi hil
      have d7 := h7 (hall ⟨7, .guard⟩ (by simp) rfl)
      have kb := hF.out.2.2.1
      have c0 := kb.b0
      have c1 := kb.b1
      have c2 := kb.b2
      have c3 := kb.b3
      simp only at c0 c1 c2 c3
      refine StepOk.on 7 false rfl rfl d7 (fun K hK => ?_)
      have HKK := Lib.hid hK; clear hK
      simp only [putAll, Act.put, List.setIfInBounds_toArray, List.set_cons_zero, List.set_cons_succ]
      go_simp
      exact HKK.out _ _ ⟨_, by simp only [putAll, Act.put, List.setIfInBounds_toArray, List.set_cons_zero, List.set_cons_succ, d7] <;> rfl, h0, h1, h2, h3, h4, h5, h6, h7, h8, h9, h10, h11, fun _ => rfl, h13, h14, hB, hF⟩
    · obtain rfl := Option.some.inj hi
      clear hi hil
      have d11 := h11 (hall ⟨11, .data⟩ (by simp) rfl)
      have d12 := h12 (hall ⟨12, .data⟩ (by simp) rfl)
      have d7 := h7 (hall ⟨7, .guard⟩ (by simp) rfl)
      refine StepOk.on 7 false rfl rfl d7 (fun K hK => ?_)
      have HKK := Lib.hid hK; clear hK
      simp only [putAll, Act.put, List.setIfInBounds_toArray, List.set_cons_zero, List.set_cons_succ]
      go_simp
      rw [HIF.out]
      go_simp
      exact HKK.out _ _ ⟨_, by simp only [putAll, Act.put, List.setIfInBounds_toArray, List.set_cons_zero, List.set_cons_succ, d11, d12, d7] <;> rfl, h0, h1, h2, h3, h4, h5, h6, h7, h8, h9, h10, h11, h12, fun _ => rfl, h14, hB, hF⟩
    · obtain rfl := Option.some.inj hi
      clear hi hil
      have d7 := h7 (hall ⟨7, .data⟩ (by simp) rfl)
      have d13 := h13 (hall ⟨13, .data⟩ (by simp) rfl)
      refine StepOk.plain rfl (fun K hK => ?_)
      have HKK := Lib.hid hK; clear hK
      simp only [putAll, Act.put, List.setIfInBounds_toArray, List.set_cons_zero, List.set_cons_succ]
      go_simp
      exact HKK.out _ _ ⟨_, by simp only [putAll, Act.put, List.setIfInBounds_toArray, List.set_cons_zero, List.set_cons_succ, d7, d13] <;> rfl, h0, h1, h2, h3, h4, h5, h6, h7, h8, h9, h10, h11, h12, h13, fun _ => rfl, hB, hF⟩
    · omega
  · rintro b' vs w2 hall ⟨h0, h1, h2, h3, h4, h5, h6, h7, h8, h9, h10, h11, h12, h13, h14, hB, hF⟩
    have d0 := h0 (hall 0 (by simp))
    have d1 := h1 (hall 1 (by simp))
    have d2 := h2 (hall 2 (by simp))
    have d3 := h3 (hall 3 (by simp))
    have d4 := h4 (hall 4 (by simp))
    have d5 := h5 (hall 5 (by simp))
    have d6 := h6 (hall 6 (by simp))
    have d7 := h7 (hall 7 (by simp))
    have d8 := h8 (hall 8 (by simp))
    have d9 := h9 (hall 9 (by simp))
    have d10 := h10 (hall 10 (by simp))
    have d11 := h11 (hall 11 (by simp))
    have d12 := h12 (hall 12 (by simp))
    have d13 := h13 (hall 13 (by simp))
    have d14 := h14 (hall 14 (by simp))
    have BB := hB
    have FF := hF
    simp only [putAll, Act.put, List.setIfInBounds_toArray, List.set_cons_zero, List.set_cons_succ, d0, d1, d2, d3, d4, d5, d6, d7, d8, d9, d10, d11, d12, d13, d14]
    clear hall h0 d0 h1 d1 h2 d2 h3 d3 h4 d4 h5 d5 h6 d6 h7 d7 h8 d8 h9 d9 h10 d10 h11 d11 h12 d12 h13 d13 h14 d14 hB hF
    have P2 : Hid (Below w.heap.size w w2 ∧ Blk w2 w.heap.size 24 #[.int .i64 W, .int .i64 H, .slice ao n cp] ∧ Blk w2 (w.heap.size + 1) 26 (fourB ⟨x0, y0, x1, y1⟩) ∧ Blk w2 (w.heap.size + 2) 24 #[.int .i64 0, .int .i64 0, .slice none 0 0]) := ⟨FF.out.1, FF.out.2.1, FF.out.2.2.1, FF.out.2.2.2⟩
    have z0 : w2.cell? ⟨w.heap.size + 2, 0, none⟩ = some (.int .i64 0) := P2.out.2.2.2.cell 0
    have z1 : w2.cell? ⟨w.heap.size + 2, 1, none⟩ = some (.int .i64 0) := P2.out.2.2.2.cell 1
    have z2 : w2.cell? ⟨w.heap.size + 2, 2, none⟩ = some (.slice none 0 0) := P2.out.2.2.2.cell 2
    have f0 := P2.out.2.2.2.free 0
    have f1 := P2.out.2.2.2.free 1
    have f2 := P2.out.2.2.2.free 2
    have lg := P2.out.2.2.2.lt
    clear FF BB P1
    go_wp2_with fail
    exact bodyPost_ret (results_imG rfl rfl rfl (P2.out.2.2.2.set3 _ _ _)) rfl ⟨_, rfl, .inl ⟨rfl, rfl⟩, below_three P2.out.1 (by omega) _ _ _⟩
end Go.Proofs.Ytoppmlfibllhlaa
