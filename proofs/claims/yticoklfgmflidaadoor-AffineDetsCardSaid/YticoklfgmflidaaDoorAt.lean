/- Layer 4: Det; a region that draws its order and stores into a block that was there. -/
import Derived.Test.YticoklfgmflidaaDoorAk
import Derived.Test.YticoklfgmflidaaDoorAs
namespace Go.Proofs.YticoklfgmflidaaDoor
open Go.RowKit

/-- A block that was there ahead of the region, and is stored into by the operation st alone. -/
def ResG (n : Nat) (w0 : World) (g : Nat) (t : TypeId) (z cs : Array Value) (l : BlkL) (st : Nat) (b : Nat → Bool) (_ : Nat → Value) (w : World) : Prop :=
  Below n w0 w ∧ Blk w g t (if b st = true then cs else z) ∧ Lays w l
section
variable {n : Nat} {w0 w w' : World} {g : Nat} {t : TypeId} {z cs : Array Value} {l : BlkL} {st : Nat} {b : Nat → Bool} {vs : Nat → Value}
theorem ResG.start (h : Below n w0 w ∧ Blk w g t z ∧ Lays w l) (vs : Nat → Value) : ResG n w0 g t z cs l st (fun _ => false) vs w.drew :=
  ⟨below_drewN h.1 1, h.2.1, h.2.2.grow ⟨rfl, rfl, rfl, Nat.le_refl _, fun _ _ => rfl⟩⟩
theorem ResG.below (h : ResG n w0 g t z cs l st b vs w) : Below n w0 w := h.1
theorem ResG.grow (h : ResG n w0 g t z cs l st b vs w) (hb : Below w.heap.size w w') (hn : n ≤ g := by omega) : ResG n w0 g t z cs l st b vs w' :=
  ⟨h.1.trans (hb.mono (by have := h.2.1.lt; omega)), h.2.1.grow hb, h.2.2.grow hb⟩
theorem ResG.other (h : ResG n w0 g t z cs l st b vs w) (i : Nat) (v : Value) (hi : decide (st ≠ i) = true) : ResG n w0 g t z cs l st (upd b i true) (upd vs i v) w := by
  simp only [decide_eq_true_eq] at hi
  exact ⟨h.1, by rw [upd_other _ _ _ _ hi]; exact h.2.1, h.2.2⟩
theorem ResG.at (h : ResG n w0 g t z cs l st b vs w) (hun : b st = false) : Blk w g t z := by
  have := h.2.1
  rw [hun] at this
  exact this
theorem ResG.done (h : ResG n w0 g t z cs l st b vs w) (hd : b st = true) : Blk w g t cs := by
  have := h.2.1
  rw [hd] at this
  exact this
/-- Two cells stored. -/
theorem ResG.stored (h : ResG n w0 g t z cs l st b vs w) (u : Value) (hg : n ≤ g) (hl : ∀ x ∈ l, x.1 ≠ g) (v0 v1 : Value) (hun : b st = false) (hc : (z.setIfInBounds 0 v0).setIfInBounds 1 v1 = cs) :
    ResG n w0 g t z cs l st (upd b st true) (upd vs st u) ((w.setCell ⟨g, 0, none⟩ v0).setCell ⟨g, 1, none⟩ v1) := by
  refine ⟨below_two h.1 hg _ _, ?_, (h.2.2.other _ _ hl).other _ _ hl⟩
  rw [upd_same, if_pos rfl, ← hc]
  exact ((h.at hun).set 0 v0).set 1 v1
end
set_option maxHeartbeats 2000000 in
set_option maxRecDepth 100000 in
theorem det_walk (m : Mx) (u1 l1 u2 l2 u3 l3 : Int) (w0 : World)
    (HM1 : Hid (∀ w, Calls Tryd.prog 30 #[.int .i64 m.a, .int .i64 m.d] w fun e w' => e = .returned (.agg #[.int .i64 u1, .int .u64 l1]) ∧ Below w.heap.size w w'))
    (HM2 : Hid (∀ w, Calls Tryd.prog 30 #[.int .i64 m.b, .int .i64 m.c] w fun e w' => e = .returned (.agg #[.int .i64 u2, .int .u64 l2]) ∧ Below w.heap.size w w'))
    (HS : Hid (∀ w, Calls Tryd.prog 39 #[.agg #[.int .i64 u1, .int .u64 l1], .agg #[.int .i64 u2, .int .u64 l2]] w fun e w' => e = .returned (.agg #[.int .i64 u3, .int .u64 l3]) ∧ Below w.heap.size w w')) :
    Calls Tryd.prog 27 #[.agg (six m)] w0 fun e w' => e = .returned (.agg #[.int .i64 u3, .int .u64 l3]) ∧ Below w0.heap.size w0 w' := by
  have hB : Below w0.heap.size w0 ((w0.alloc (.cells (six m) 23)).alloc (.cells #[.int .i64 0, .int .u64 0] 65)) ∧ Blk ((w0.alloc (.cells (six m) 23)).alloc (.cells #[.int .i64 0, .int .u64 0] 65)) (w0.heap.size + 1) 65 #[.int .i64 0, .int .u64 0] ∧ Lays ((w0.alloc (.cells (six m) 23)).alloc (.cells #[.int .i64 0, .int .u64 0] 65)) [(w0.heap.size, 23, six m)] := by
    have S := (((Mem.refl w0).add 23 (six m)).addAt 65 #[.int .i64 0, .int .u64 0] (w0.heap.size + 1) (by simp))
    exact ⟨S.below, S.lays⟩
  obtain ⟨n, hn⟩ : ∃ n, w0.heap.size = n := ⟨_, rfl⟩
  rw [hn] at hB ⊢
  have HB := Lib.hid hB
  clear hB
  go_enter Tryd.func27, Tryd.ntmps27
  go_wp2_with fail
  refine wp_region_put (by kernel_rfl) (by kernel_rfl) (by kernel_rfl) (fun b' vs w' => (b' 0 = true → vs 0 = .pointer (some ⟨n, 0, none⟩)) ∧ (b' 1 = true → vs 1 = .int .i64 m.a) ∧ (b' 2 = true → vs 2 = .pointer (some ⟨n, 3, none⟩)) ∧ (b' 3 = true → vs 3 = .int .i64 m.d) ∧ (b' 4 = true → vs 4 = .agg #[.int .i64 u1, .int .u64 l1]) ∧ (b' 5 = true → vs 5 = .pointer (some ⟨n, 1, none⟩)) ∧ (b' 6 = true → vs 6 = .int .i64 m.b) ∧ (b' 7 = true → vs 7 = .pointer (some ⟨n, 2, none⟩)) ∧ (b' 8 = true → vs 8 = .int .i64 m.c) ∧ (b' 9 = true → vs 9 = .agg #[.int .i64 u2, .int .u64 l2]) ∧ (b' 10 = true → vs 10 = .agg #[.int .i64 u3, .int .u64 l3]) ∧ Hid (ResG n w0 (n + 1) 65 #[.int .i64 0, .int .u64 0] #[.int .i64 u3, .int .u64 l3] [(n, 23, six m)] 11 b' vs w')) ?_ ?_ ?_
  · intro vs
    exact ⟨fun h => Bool.noConfusion h, fun h => Bool.noConfusion h, fun h => Bool.noConfusion h, fun h => Bool.noConfusion h, fun h => Bool.noConfusion h, fun h => Bool.noConfusion h, fun h => Bool.noConfusion h, fun h => Bool.noConfusion h, fun h => Bool.noConfusion h, fun h => Bool.noConfusion h, fun h => Bool.noConfusion h, ResG.start HB.out vs⟩
  · rintro b' vs w' i op hi hun hall ⟨h0, h1, h2, h3, h4, h5, h6, h7, h8, h9, h10, hM⟩
    have hil : i < 12 := (List.getElem?_eq_some_iff.1 hi).1
    have hbelow := ResG.below hM.out
    rcases i with _ | _ | _ | _ | _ | _ | _ | _ | _ | _ | _ | _ | i
    · obtain rfl := Option.some.inj hi
      refine wpOp_step rfl (fun K hK => ?_)
      have HKK := Lib.hid hK; clear hK
      simp only [putAll, Act.put, List.setIfInBounds_toArray, List.set_cons_zero, List.set_cons_succ]
      go_simp
      exact HKK.out _ _ ⟨_, by simp only [putAll, Act.put, List.setIfInBounds_toArray, List.set_cons_zero, List.set_cons_succ] <;> rfl, fun _ => rfl, h1, h2, h3, h4, h5, h6, h7, h8, h9, h10, ResG.other hM.out 0 _ rfl⟩
    · obtain rfl := Option.some.inj hi
      have d0 := h0 (hall ⟨0, .data⟩ (by simp) rfl)
      have c0 := hM.out.2.2.1.m0
      refine wpOp_step rfl (fun K hK => ?_)
      have HKK := Lib.hid hK; clear hK
      simp only [putAll, Act.put, List.setIfInBounds_toArray, List.set_cons_zero, List.set_cons_succ]
      go_simp
      exact HKK.out _ _ ⟨_, by simp only [putAll, Act.put, List.setIfInBounds_toArray, List.set_cons_zero, List.set_cons_succ, d0] <;> rfl, h0, fun _ => rfl, h2, h3, h4, h5, h6, h7, h8, h9, h10, ResG.other hM.out 1 _ rfl⟩
    · obtain rfl := Option.some.inj hi
      refine wpOp_step rfl (fun K hK => ?_)
      have HKK := Lib.hid hK; clear hK
      simp only [putAll, Act.put, List.setIfInBounds_toArray, List.set_cons_zero, List.set_cons_succ]
      go_simp
      exact HKK.out _ _ ⟨_, by simp only [putAll, Act.put, List.setIfInBounds_toArray, List.set_cons_zero, List.set_cons_succ] <;> rfl, h0, h1, fun _ => rfl, h3, h4, h5, h6, h7, h8, h9, h10, ResG.other hM.out 2 _ rfl⟩
    · obtain rfl := Option.some.inj hi
      have d2 := h2 (hall ⟨2, .data⟩ (by simp) rfl)
      have c0 := hM.out.2.2.1.m3
      refine wpOp_step rfl (fun K hK => ?_)
      have HKK := Lib.hid hK; clear hK
      simp only [putAll, Act.put, List.setIfInBounds_toArray, List.set_cons_zero, List.set_cons_succ]
      go_simp
      exact HKK.out _ _ ⟨_, by simp only [putAll, Act.put, List.setIfInBounds_toArray, List.set_cons_zero, List.set_cons_succ, d2] <;> rfl, h0, h1, h2, fun _ => rfl, h4, h5, h6, h7, h8, h9, h10, ResG.other hM.out 3 _ rfl⟩
    · obtain rfl := Option.some.inj hi
      have d1 := h1 (hall ⟨1, .data⟩ (by simp) rfl)
      have d3 := h3 (hall ⟨3, .data⟩ (by simp) rfl)
      refine wpOp_step rfl (fun K hK => ?_)
      have HKK := Lib.hid hK; clear hK
      simp only [putAll, Act.put, List.setIfInBounds_toArray, List.set_cons_zero, List.set_cons_succ]
      go_simp
      refine (HM1.out _).mono ?_
      rintro e w2 ⟨rfl, hb2⟩
      exact HKK.out _ _ ⟨_, by simp only [putAll, Act.put, List.setIfInBounds_toArray, List.set_cons_zero, List.set_cons_succ, d1, d3] <;> rfl, h0, h1, h2, h3, fun _ => rfl, h5, h6, h7, h8, h9, h10, (ResG.other hM.out 4 _ rfl).grow hb2⟩
    · obtain rfl := Option.some.inj hi
      refine wpOp_step rfl (fun K hK => ?_)
      have HKK := Lib.hid hK; clear hK
      simp only [putAll, Act.put, List.setIfInBounds_toArray, List.set_cons_zero, List.set_cons_succ]
      go_simp
      exact HKK.out _ _ ⟨_, by simp only [putAll, Act.put, List.setIfInBounds_toArray, List.set_cons_zero, List.set_cons_succ] <;> rfl, h0, h1, h2, h3, h4, fun _ => rfl, h6, h7, h8, h9, h10, ResG.other hM.out 5 _ rfl⟩
    · obtain rfl := Option.some.inj hi
      have d5 := h5 (hall ⟨5, .data⟩ (by simp) rfl)
      have c0 := hM.out.2.2.1.m1
      refine wpOp_step rfl (fun K hK => ?_)
      have HKK := Lib.hid hK; clear hK
      simp only [putAll, Act.put, List.setIfInBounds_toArray, List.set_cons_zero, List.set_cons_succ]
      go_simp
      exact HKK.out _ _ ⟨_, by simp only [putAll, Act.put, List.setIfInBounds_toArray, List.set_cons_zero, List.set_cons_succ, d5] <;> rfl, h0, h1, h2, h3, h4, h5, fun _ => rfl, h7, h8, h9, h10, ResG.other hM.out 6 _ rfl⟩
    · obtain rfl := Option.some.inj hi
      refine wpOp_step rfl (fun K hK => ?_)
      have HKK := Lib.hid hK; clear hK
      simp only [putAll, Act.put, List.setIfInBounds_toArray, List.set_cons_zero, List.set_cons_succ]
      go_simp
      exact HKK.out _ _ ⟨_, by simp only [putAll, Act.put, List.setIfInBounds_toArray, List.set_cons_zero, List.set_cons_succ] <;> rfl, h0, h1, h2, h3, h4, h5, h6, fun _ => rfl, h8, h9, h10, ResG.other hM.out 7 _ rfl⟩
    · obtain rfl := Option.some.inj hi
      have d7 := h7 (hall ⟨7, .data⟩ (by simp) rfl)
      have c0 := hM.out.2.2.1.m2
      refine wpOp_step rfl (fun K hK => ?_)
      have HKK := Lib.hid hK; clear hK
      simp only [putAll, Act.put, List.setIfInBounds_toArray, List.set_cons_zero, List.set_cons_succ]
      go_simp
      exact HKK.out _ _ ⟨_, by simp only [putAll, Act.put, List.setIfInBounds_toArray, List.set_cons_zero, List.set_cons_succ, d7] <;> rfl, h0, h1, h2, h3, h4, h5, h6, h7, fun _ => rfl, h9, h10, ResG.other hM.out 8 _ rfl⟩
    · obtain rfl := Option.some.inj hi
      have d6 := h6 (hall ⟨6, .data⟩ (by simp) rfl)
      have d8 := h8 (hall ⟨8, .data⟩ (by simp) rfl)
      refine wpOp_step rfl (fun K hK => ?_)
      have HKK := Lib.hid hK; clear hK
      simp only [putAll, Act.put, List.setIfInBounds_toArray, List.set_cons_zero, List.set_cons_succ]
      go_simp
      refine (HM2.out _).mono ?_
      rintro e w2 ⟨rfl, hb2⟩
      exact HKK.out _ _ ⟨_, by simp only [putAll, Act.put, List.setIfInBounds_toArray, List.set_cons_zero, List.set_cons_succ, d6, d8] <;> rfl, h0, h1, h2, h3, h4, h5, h6, h7, h8, fun _ => rfl, h10, (ResG.other hM.out 9 _ rfl).grow hb2⟩
    · obtain rfl := Option.some.inj hi
      have d4 := h4 (hall ⟨4, .data⟩ (by simp) rfl)
      have d9 := h9 (hall ⟨9, .data⟩ (by simp) rfl)
      refine wpOp_step rfl (fun K hK => ?_)
      have HKK := Lib.hid hK; clear hK
      simp only [putAll, Act.put, List.setIfInBounds_toArray, List.set_cons_zero, List.set_cons_succ]
      go_simp
      refine (HS.out _).mono ?_
      rintro e w2 ⟨rfl, hb2⟩
      exact HKK.out _ _ ⟨_, by simp only [putAll, Act.put, List.setIfInBounds_toArray, List.set_cons_zero, List.set_cons_succ, d4, d9] <;> rfl, h0, h1, h2, h3, h4, h5, h6, h7, h8, h9, fun _ => rfl, (ResG.other hM.out 10 _ rfl).grow hb2⟩
    · obtain rfl := Option.some.inj hi
      have d10 := h10 (hall ⟨10, .data⟩ (by simp) rfl)
      have kg := ResG.at hM.out hun
      have z0 := kg.cell 0; have z1 := kg.cell 1; have f0 := kg.free 0; have f1 := kg.free 1
      simp at z0 z1
      refine wpOp_step rfl (fun K hK => ?_)
      have HKK := Lib.hid hK; clear hK
      simp only [putAll, Act.put, List.setIfInBounds_toArray, List.set_cons_zero, List.set_cons_succ]
      go_simp
      exact HKK.out _ _ ⟨_, by simp only [putAll, Act.put, List.setIfInBounds_toArray, List.set_cons_zero, List.set_cons_succ, d10] <;> rfl, h0, h1, h2, h3, h4, h5, h6, h7, h8, h9, h10, ResG.stored hM.out undef (by omega) (by simp) (.int .i64 u3) (.int .u64 l3) hun rfl⟩
    · omega
  · rintro b' vs w2 hall ⟨h0, h1, h2, h3, h4, h5, h6, h7, h8, h9, h10, hM⟩
    have d0 := h0 (hall 0 (by simp)); have d1 := h1 (hall 1 (by simp)); have d2 := h2 (hall 2 (by simp)); have d3 := h3 (hall 3 (by simp)); have d4 := h4 (hall 4 (by simp)); have d5 := h5 (hall 5 (by simp)); have d6 := h6 (hall 6 (by simp)); have d7 := h7 (hall 7 (by simp)); have d8 := h8 (hall 8 (by simp)); have d9 := h9 (hall 9 (by simp)); have d10 := h10 (hall 10 (by simp))
    have k1 := ResG.done hM.out (hall 11 (by simp))
    have B1 := Lib.hid (ResG.below hM.out)
    simp only [putAll, Act.put, List.setIfInBounds_toArray, List.set_cons_zero, List.set_cons_succ, d0, d1, d2, d3, d4, d5, d6, d7, d8, d9, d10]
    have K1 := Lib.hid k1
    go_wp2_with fail
    exact bodyPost_ret (results_num 2 rfl rfl (K1.out.cell 0) (K1.out.cell 1)) rfl ⟨rfl, B1.out⟩
def detI (m : Mx) : BitVec 128 := ofI m.a * ofI m.d - ofI m.b * ofI m.c
theorem det_c (m : Mx) (w : World) (ha : I64 m.a) (hb : I64 m.b) (hc : I64 m.c) (hd : I64 m.d) : Calls Tryd.prog 27 #[.agg (six m)] w fun e w' => e = .returned (.agg #[.int .i64 (hiOf (detI m)), .int .u64 (loOf (detI m))]) ∧ Below w.heap.size w w' :=
  det_walk m _ _ _ _ _ _ w (Lib.hid fun w => mul_c m.a m.d w ha hd) (Lib.hid fun w => mul_c m.b m.c w hb hc) (Lib.hid fun w => sub_c _ _ w)
end Go.Proofs.YticoklfgmflidaaDoor
