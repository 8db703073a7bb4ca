/- A region that ends in a store into a result's block; geom.sides. -/
import Derived.Test.YtbllbncmeihaaaaHf
namespace Go.Proofs.Ytbllbncmeihaaaa
open Go.RowKit
/-- What holds in such a region: block g holds z, or, behind the store, cs. -/
def ResM (W : World) (B g : Nat) (t : TypeId) (st : Nat) (z cs : Array Value) (b : Nat → Bool) (_ : Nat → Value) (w : World) : Prop :=
  Below B W w ∧ B ≤ g ∧ Blk w g t (if b st = true then cs else z)
section
variable {W w w' : World} {B g st : Nat} {t : TypeId} {z cs : Array Value} {b : Nat → Bool} {vs : Nat → Value}
theorem ResM.begin (hB : B ≤ g) (h : Blk W g t z) (vs : Nat → Value) : ResM W B g t st z cs (fun _ => false) vs W.drew := ⟨⟨rfl, rfl, rfl, Nat.le_refl _, fun _ _ => rfl⟩, hB, h⟩
theorem ResM.below (h : ResM W B g t st z cs b vs w) : Below B W w := h.1
theorem ResM.grow (h : ResM W B g t st z cs b vs w) (hb : Below w.heap.size w w') : ResM W B g t st z cs b vs w' :=
  ⟨h.1.trans (hb.mono (by have := h.2.2.lt; have := h.2.1; omega)), h.2.1, h.2.2.grow hb⟩
theorem ResM.other (h : ResM W B g t st z cs b vs w) (i : Nat) (v : Value) (hi : decide (i ≠ st) = true) : ResM W B g t st z cs (upd b i true) (upd vs i v) w := by
  refine ⟨h.1, h.2.1, ?_⟩
  rw [upd_other _ _ _ _ (Ne.symm (by simpa using hi))]; exact h.2.2
theorem ResM.at (h : ResM W B g t st z cs b vs w) (hun : b st = false) : Blk w g t z := by
  have := h.2.2; rw [hun] at this; exact this
theorem ResM.stored (h : ResM W B g t st z cs b vs w) (v : Value) (hB : Below B W w') (hblk : Blk w' g t cs) : ResM W B g t st z cs (upd b st true) (upd vs st v) w' :=
  ⟨hB, h.2.1, by rw [upd_same]; exact hblk⟩
theorem ResM.done (h : ResM W B g t st z cs b vs w) (hst : b st = true) : Blk w g t cs := by
  have := h.2.2; rw [hst] at this; exact this
end
abbrev ints4 (a b c d : Int) : Array Value := #[.int .i64 a, .int .i64 b, .int .i64 c, .int .i64 d]
section
variable {w : World} {g : Nat} {t : TypeId} {a b c d : Int}
theorem Blk.i0 (h : Blk w g t (ints4 a b c d)) : w.cell? ⟨g, 0, none⟩ = some (.int .i64 a) := h.cell 0
theorem Blk.i1 (h : Blk w g t (ints4 a b c d)) : w.cell? ⟨g, 1, none⟩ = some (.int .i64 b) := h.cell 1
theorem Blk.i2 (h : Blk w g t (ints4 a b c d)) : w.cell? ⟨g, 2, none⟩ = some (.int .i64 c) := h.cell 2
theorem Blk.i3 (h : Blk w g t (ints4 a b c d)) : w.cell? ⟨g, 3, none⟩ = some (.int .i64 d) := h.cell 3
theorem Blk.setI (h : Blk w g t (ints4 a b c d)) (a' b' c' d' : Int) : Blk ((((w.setCell ⟨g, 0, none⟩ (.int .i64 a')).setCell ⟨g, 1, none⟩ (.int .i64 b')).setCell ⟨g, 2, none⟩ (.int .i64 c')).setCell ⟨g, 3, none⟩ (.int .i64 d')) g t (ints4 a' b' c' d') := (((h.set 0 _).set 1 _).set 2 _).set 3 _
end
theorem results_ints {fn : Func} {tmps : Array Value} {w : World} {g : Nat} {a b c d : Int} (t : Nat) (hres : fn.results = #[.cell t 58]) (ht : tmps[t]? = some (.pointer (some ⟨g, 0, none⟩))) (h : Blk w g 58 (ints4 a b c d)) :
    (results fn tmps).run Try.prog w = .ok (.agg (ints4 a b c d)) w := by
  have h0 := h.i0
  have h1 := h.i1
  have h2 := h.i2
  have h3 := h.i3
  simp [results, hres, ht, go_sem, h0, h1, h2, h3]
/-- Four points at hand, from block n on. -/
def FourAt (w : World) (n : Nat) (a b c d : Pt) : Prop := Blk w n 23 (two a) ∧ Blk w (n + 1) 23 (two b) ∧ Blk w (n + 2) 23 (two c) ∧ Blk w (n + 3) 23 (two d)
theorem FourAt.on {w w' : World} {n B : Nat} {a b c d : Pt} (h : FourAt w n a b c d) (hb : Below B w w') (hB : n + 4 ≤ B) : FourAt w' n a b c d :=
  ⟨h.1.on hb (by omega), h.2.1.on hb (by omega), h.2.2.1.on hb (by omega), h.2.2.2.on hb (by omega)⟩
theorem FourAt.cells {w : World} {n : Nat} {ax ay bx bY cx cy dx dy : Int} (h : FourAt w n (ax, ay) (bx, bY) (cx, cy) (dx, dy)) :
    (w.cell? ⟨n, 0, none⟩ = some (.int .i64 ax) ∧ w.cell? ⟨n, 1, none⟩ = some (.int .i64 ay)) ∧ (w.cell? ⟨n + 1, 0, none⟩ = some (.int .i64 bx) ∧ w.cell? ⟨n + 1, 1, none⟩ = some (.int .i64 bY)) ∧
    (w.cell? ⟨n + 2, 0, none⟩ = some (.int .i64 cx) ∧ w.cell? ⟨n + 2, 1, none⟩ = some (.int .i64 cy)) ∧ w.cell? ⟨n + 3, 0, none⟩ = some (.int .i64 dx) ∧ w.cell? ⟨n + 3, 1, none⟩ = some (.int .i64 dy) :=
  ⟨⟨h.1.p0, h.1.p1⟩, ⟨h.2.1.p0, h.2.1.p1⟩, ⟨h.2.2.1.p0, h.2.2.1.p1⟩, h.2.2.2.p0, h.2.2.2.p1⟩
theorem four_pts (w : World) (a b c d : Pt) (W : World) (hW : (((w.alloc (.cells (two a) 23)).alloc (.cells (two b) 23)).alloc (.cells (two c) 23)).alloc (.cells (two d) 23) = W) :
    FourAt W w.heap.size a b c d ∧ Below w.heap.size w W ∧ W.heap.size = w.heap.size + 4 := by
  subst hW
  refine ⟨⟨(((Blk.newAt _ _ _ rfl).alloc _).alloc _).alloc _, ((Blk.newAt _ _ _ (by simp)).alloc _).alloc _, (Blk.newAt _ _ _ (by simp)).alloc _, Blk.newAt _ _ _ (by simp)⟩, ?_, by simp⟩
  exact ((((Below.refl _ _).alloc (Nat.le_refl _) _).alloc (by simp) _).alloc (by simp; omega) _).alloc (by simp; omega) _
set_option maxHeartbeats 2000000 in
set_option maxRecDepth 100000 in
theorem sides_walk (ax ay bx bY cx cy dx dy s0 s1 s2 s3 : Int) (w : World)
    (Hs0 : Hid (∀ w, Calls Try.prog 12 #[.agg #[.int .i64 ax, .int .i64 ay], .agg #[.int .i64 bx, .int .i64 bY], .agg #[.int .i64 cx, .int .i64 cy]] w fun e w' => e = .returned (.int .i64 s0) ∧ Below w.heap.size w w'))
    (Hs1 : Hid (∀ w, Calls Try.prog 12 #[.agg #[.int .i64 ax, .int .i64 ay], .agg #[.int .i64 bx, .int .i64 bY], .agg #[.int .i64 dx, .int .i64 dy]] w fun e w' => e = .returned (.int .i64 s1) ∧ Below w.heap.size w w'))
    (Hs2 : Hid (∀ w, Calls Try.prog 12 #[.agg #[.int .i64 cx, .int .i64 cy], .agg #[.int .i64 dx, .int .i64 dy], .agg #[.int .i64 ax, .int .i64 ay]] w fun e w' => e = .returned (.int .i64 s2) ∧ Below w.heap.size w w'))
    (Hs3 : Hid (∀ w, Calls Try.prog 12 #[.agg #[.int .i64 cx, .int .i64 cy], .agg #[.int .i64 dx, .int .i64 dy], .agg #[.int .i64 bx, .int .i64 bY]] w fun e w' => e = .returned (.int .i64 s3) ∧ Below w.heap.size w w')) :
    Calls Try.prog 33 #[.agg #[.int .i64 ax, .int .i64 ay], .agg #[.int .i64 bx, .int .i64 bY], .agg #[.int .i64 cx, .int .i64 cy], .agg #[.int .i64 dx, .int .i64 dy]] w fun e w' => e = .returned (.agg (ints4 s0 s1 s2 s3)) ∧ Below w.heap.size w w' := by
  go_enter Try.func33, Try.ntmps33
  go_wp2_with fail
  obtain ⟨W0, hW0⟩ : ∃ W, (((w.alloc (.cells (two (ax, ay)) 23)).alloc (.cells (two (bx, bY)) 23)).alloc (.cells (two (cx, cy)) 23)).alloc (.cells (two (dx, dy)) 23) = W := ⟨_, rfl⟩
  obtain ⟨hF, hB, hs⟩ := four_pts w _ _ _ _ W0 hW0
  obtain ⟨W, hW⟩ : ∃ W, W0.alloc (.cells (ints4 0 0 0 0) 58) = W := ⟨_, rfl⟩
  have hz : Blk W (w.heap.size + 4) 58 (ints4 0 0 0 0) := by rw [← hW]; exact Blk.newAt _ _ _ hs
  have hF' : FourAt W w.heap.size (ax, ay) (bx, bY) (cx, cy) (dx, dy) := hF.on (B := W0.heap.size) (by rw [← hW]; exact (Below.refl _ _).alloc (Nat.le_refl _) _) (by omega)
  have hB' : Below w.heap.size w W := by rw [← hW]; exact hB.alloc (by omega) _
  have hs' : W.heap.size = w.heap.size + 5 := by rw [← hW]; simp; omega
  have hW0' : (((w.alloc (.cells #[.int .i64 ax, .int .i64 ay] 23)).alloc (.cells #[.int .i64 bx, .int .i64 bY] 23)).alloc (.cells #[.int .i64 cx, .int .i64 cy] 23)).alloc (.cells #[.int .i64 dx, .int .i64 dy] 23) = W0 := hW0
  have hW' : W0.alloc (.cells #[.int .i64 0, .int .i64 0, .int .i64 0, .int .i64 0] 58) = W := hW
  rw [hW0', hW']
  clear hW0' hW'
  clear hW hW0 hF hB hs
  obtain ⟨n, hn⟩ : ∃ n, w.heap.size = n := ⟨_, rfl⟩
  simp only [hn] at hz hF' hB' hs' ⊢
  have HF : Hid (∀ w', Below (n + 4) W w' → FourAt w' n (ax, ay) (bx, bY) (cx, cy) (dx, dy)) := fun w' h => hF'.on h (Nat.le_refl _)
  have HB := Lib.hid hB'; have Hn := Lib.hid hn; have HZ := Lib.hid hz
  clear hF' hB' hn hz
  refine wp_region_put (by kernel_rfl) (by kernel_rfl) (by kernel_rfl) (fun b' vs w' => (b' 0 = true → vs 0 = .agg #[.int .i64 ax, .int .i64 ay]) ∧ (b' 1 = true → vs 1 = .agg #[.int .i64 bx, .int .i64 bY]) ∧ (b' 2 = true → vs 2 = .agg #[.int .i64 cx, .int .i64 cy]) ∧ (b' 3 = true → vs 3 = .int .i64 s0) ∧ (b' 4 = true → vs 4 = .agg #[.int .i64 ax, .int .i64 ay]) ∧ (b' 5 = true → vs 5 = .agg #[.int .i64 bx, .int .i64 bY]) ∧ (b' 6 = true → vs 6 = .agg #[.int .i64 dx, .int .i64 dy]) ∧ (b' 7 = true → vs 7 = .int .i64 s1) ∧ (b' 8 = true → vs 8 = .agg #[.int .i64 cx, .int .i64 cy]) ∧ (b' 9 = true → vs 9 = .agg #[.int .i64 dx, .int .i64 dy]) ∧ (b' 10 = true → vs 10 = .agg #[.int .i64 ax, .int .i64 ay]) ∧ (b' 11 = true → vs 11 = .int .i64 s2) ∧ (b' 12 = true → vs 12 = .agg #[.int .i64 cx, .int .i64 cy]) ∧ (b' 13 = true → vs 13 = .agg #[.int .i64 dx, .int .i64 dy]) ∧ (b' 14 = true → vs 14 = .agg #[.int .i64 bx, .int .i64 bY]) ∧ (b' 15 = true → vs 15 = .int .i64 s3) ∧ (b' 16 = true → vs 16 = .agg #[.int .i64 s0, .int .i64 s1, .int .i64 s2, .int .i64 s3]) ∧ Hid (ResM W (n + 4) (n + 4) 58 17 (ints4 0 0 0 0) (ints4 s0 s1 s2 s3) b' vs w')) ?_ ?_ ?_
  · intro vs
    exact ⟨fun h => Bool.noConfusion h, fun h => Bool.noConfusion h, fun h => Bool.noConfusion h, fun h => Bool.noConfusion h, fun h => Bool.noConfusion h, fun h => Bool.noConfusion h, fun h => Bool.noConfusion h, fun h => Bool.noConfusion h, fun h => Bool.noConfusion h, fun h => Bool.noConfusion h, fun h => Bool.noConfusion h, fun h => Bool.noConfusion h, fun h => Bool.noConfusion h, fun h => Bool.noConfusion h, fun h => Bool.noConfusion h, fun h => Bool.noConfusion h, fun h => Bool.noConfusion h, ResM.begin (Nat.le_refl _) HZ.out vs⟩
  · rintro b' vs w' i op hi hun hall ⟨h0, h1, h2, h3, h4, h5, h6, h7, h8, h9, h10, h11, h12, h13, h14, h15, h16, hM⟩
    have hil : i < 18 := (List.getElem?_eq_some_iff.1 hi).1
    have hbelow := ResM.below hM.out
    rcases i with _ | _ | _ | _ | _ | _ | _ | _ | _ | _ | _ | _ | _ | _ | _ | _ | _ | _ | i
    · obtain rfl := Option.some.inj hi
      obtain ⟨⟨c0, c1⟩, ⟨c2, c3⟩, ⟨c4, c5⟩, c6, c7⟩ := FourAt.cells (HF.out _ hbelow)
      refine wpOp_step rfl (fun K hK => ?_)
      have HKK := Lib.hid hK; clear hK
      simp only [putAll, Act.put, List.setIfInBounds_toArray, List.set_cons_zero, List.set_cons_succ]
      go_simp
      exact HKK.out _ _ ⟨_, by simp only [putAll, Act.put, List.setIfInBounds_toArray, List.set_cons_zero, List.set_cons_succ] <;> rfl, fun _ => rfl, h1, h2, h3, h4, h5, h6, h7, h8, h9, h10, h11, h12, h13, h14, h15, h16, ResM.other hM.out 0 _ rfl⟩
    · obtain rfl := Option.some.inj hi
      obtain ⟨⟨c0, c1⟩, ⟨c2, c3⟩, ⟨c4, c5⟩, c6, c7⟩ := FourAt.cells (HF.out _ hbelow)
      refine wpOp_step rfl (fun K hK => ?_)
      have HKK := Lib.hid hK; clear hK
      simp only [putAll, Act.put, List.setIfInBounds_toArray, List.set_cons_zero, List.set_cons_succ]
      go_simp
      exact HKK.out _ _ ⟨_, by simp only [putAll, Act.put, List.setIfInBounds_toArray, List.set_cons_zero, List.set_cons_succ] <;> rfl, h0, fun _ => rfl, h2, h3, h4, h5, h6, h7, h8, h9, h10, h11, h12, h13, h14, h15, h16, ResM.other hM.out 1 _ rfl⟩
    · obtain rfl := Option.some.inj hi
      obtain ⟨⟨c0, c1⟩, ⟨c2, c3⟩, ⟨c4, c5⟩, c6, c7⟩ := FourAt.cells (HF.out _ hbelow)
      refine wpOp_step rfl (fun K hK => ?_)
      have HKK := Lib.hid hK; clear hK
      simp only [putAll, Act.put, List.setIfInBounds_toArray, List.set_cons_zero, List.set_cons_succ]
      go_simp
      exact HKK.out _ _ ⟨_, by simp only [putAll, Act.put, List.setIfInBounds_toArray, List.set_cons_zero, List.set_cons_succ] <;> rfl, h0, h1, fun _ => rfl, h3, h4, h5, h6, h7, h8, h9, h10, h11, h12, h13, h14, h15, h16, ResM.other hM.out 2 _ rfl⟩
    · obtain rfl := Option.some.inj hi
      have d0 := h0 (hall ⟨0, .data⟩ (by simp) rfl)
      have d1 := h1 (hall ⟨1, .data⟩ (by simp) rfl)
      have d2 := h2 (hall ⟨2, .data⟩ (by simp) rfl)
      refine wpOp_step rfl (fun K hK => ?_)
      have HKK := Lib.hid hK; clear hK
      simp only [putAll, Act.put, List.setIfInBounds_toArray, List.set_cons_zero, List.set_cons_succ]
      go_simp
      refine (Hs0.out _).mono ?_
      rintro e w2 ⟨rfl, hb2⟩
      exact HKK.out _ _ ⟨_, by simp only [putAll, Act.put, List.setIfInBounds_toArray, List.set_cons_zero, List.set_cons_succ, d0, d1, d2] <;> rfl, h0, h1, h2, fun _ => rfl, h4, h5, h6, h7, h8, h9, h10, h11, h12, h13, h14, h15, h16, (ResM.other hM.out 3 _ rfl).grow hb2⟩
    · obtain rfl := Option.some.inj hi
      obtain ⟨⟨c0, c1⟩, ⟨c2, c3⟩, ⟨c4, c5⟩, c6, c7⟩ := FourAt.cells (HF.out _ hbelow)
      refine wpOp_step rfl (fun K hK => ?_)
      have HKK := Lib.hid hK; clear hK
      simp only [putAll, Act.put, List.setIfInBounds_toArray, List.set_cons_zero, List.set_cons_succ]
      go_simp
      exact HKK.out _ _ ⟨_, by simp only [putAll, Act.put, List.setIfInBounds_toArray, List.set_cons_zero, List.set_cons_succ] <;> rfl, h0, h1, h2, h3, fun _ => rfl, h5, h6, h7, h8, h9, h10, h11, h12, h13, h14, h15, h16, ResM.other hM.out 4 _ rfl⟩
    · obtain rfl := Option.some.inj hi
      obtain ⟨⟨c0, c1⟩, ⟨c2, c3⟩, ⟨c4, c5⟩, c6, c7⟩ := FourAt.cells (HF.out _ hbelow)
      refine wpOp_step rfl (fun K hK => ?_)
      have HKK := Lib.hid hK; clear hK
      simp only [putAll, Act.put, List.setIfInBounds_toArray, List.set_cons_zero, List.set_cons_succ]
      go_simp
      exact HKK.out _ _ ⟨_, by simp only [putAll, Act.put, List.setIfInBounds_toArray, List.set_cons_zero, List.set_cons_succ] <;> rfl, h0, h1, h2, h3, h4, fun _ => rfl, h6, h7, h8, h9, h10, h11, h12, h13, h14, h15, h16, ResM.other hM.out 5 _ rfl⟩
    · obtain rfl := Option.some.inj hi
      obtain ⟨⟨c0, c1⟩, ⟨c2, c3⟩, ⟨c4, c5⟩, c6, c7⟩ := FourAt.cells (HF.out _ hbelow)
      refine wpOp_step rfl (fun K hK => ?_)
      have HKK := Lib.hid hK; clear hK
      simp only [putAll, Act.put, List.setIfInBounds_toArray, List.set_cons_zero, List.set_cons_succ]
      go_simp
      exact HKK.out _ _ ⟨_, by simp only [putAll, Act.put, List.setIfInBounds_toArray, List.set_cons_zero, List.set_cons_succ] <;> rfl, h0, h1, h2, h3, h4, h5, fun _ => rfl, h7, h8, h9, h10, h11, h12, h13, h14, h15, h16, ResM.other hM.out 6 _ rfl⟩
    · obtain rfl := Option.some.inj hi
      have d4 := h4 (hall ⟨4, .data⟩ (by simp) rfl)
      have d5 := h5 (hall ⟨5, .data⟩ (by simp) rfl)
      have d6 := h6 (hall ⟨6, .data⟩ (by simp) rfl)
      refine wpOp_step rfl (fun K hK => ?_)
      have HKK := Lib.hid hK; clear hK
      simp only [putAll, Act.put, List.setIfInBounds_toArray, List.set_cons_zero, List.set_cons_succ]
      go_simp
      refine (Hs1.out _).mono ?_
      rintro e w2 ⟨rfl, hb2⟩
      exact HKK.out _ _ ⟨_, by simp only [putAll, Act.put, List.setIfInBounds_toArray, List.set_cons_zero, List.set_cons_succ, d4, d5, d6] <;> rfl, h0, h1, h2, h3, h4, h5, h6, fun _ => rfl, h8, h9, h10, h11, h12, h13, h14, h15, h16, (ResM.other hM.out 7 _ rfl).grow hb2⟩
    · obtain rfl := Option.some.inj hi
      obtain ⟨⟨c0, c1⟩, ⟨c2, c3⟩, ⟨c4, c5⟩, c6, c7⟩ := FourAt.cells (HF.out _ hbelow)
      refine wpOp_step rfl (fun K hK => ?_)
      have HKK := Lib.hid hK; clear hK
      simp only [putAll, Act.put, List.setIfInBounds_toArray, List.set_cons_zero, List.set_cons_succ]
      go_simp
      exact HKK.out _ _ ⟨_, by simp only [putAll, Act.put, List.setIfInBounds_toArray, List.set_cons_zero, List.set_cons_succ] <;> rfl, h0, h1, h2, h3, h4, h5, h6, h7, fun _ => rfl, h9, h10, h11, h12, h13, h14, h15, h16, ResM.other hM.out 8 _ rfl⟩
    · obtain rfl := Option.some.inj hi
      obtain ⟨⟨c0, c1⟩, ⟨c2, c3⟩, ⟨c4, c5⟩, c6, c7⟩ := FourAt.cells (HF.out _ hbelow)
      refine wpOp_step rfl (fun K hK => ?_)
      have HKK := Lib.hid hK; clear hK
      simp only [putAll, Act.put, List.setIfInBounds_toArray, List.set_cons_zero, List.set_cons_succ]
      go_simp
      exact HKK.out _ _ ⟨_, by simp only [putAll, Act.put, List.setIfInBounds_toArray, List.set_cons_zero, List.set_cons_succ] <;> rfl, h0, h1, h2, h3, h4, h5, h6, h7, h8, fun _ => rfl, h10, h11, h12, h13, h14, h15, h16, ResM.other hM.out 9 _ rfl⟩
    · obtain rfl := Option.some.inj hi
      obtain ⟨⟨c0, c1⟩, ⟨c2, c3⟩, ⟨c4, c5⟩, c6, c7⟩ := FourAt.cells (HF.out _ hbelow)
      refine wpOp_step rfl (fun K hK => ?_)
      have HKK := Lib.hid hK; clear hK
      simp only [putAll, Act.put, List.setIfInBounds_toArray, List.set_cons_zero, List.set_cons_succ]
      go_simp
      exact HKK.out _ _ ⟨_, by simp only [putAll, Act.put, List.setIfInBounds_toArray, List.set_cons_zero, List.set_cons_succ] <;> rfl, h0, h1, h2, h3, h4, h5, h6, h7, h8, h9, fun _ => rfl, h11, h12, h13, h14, h15, h16, ResM.other hM.out 10 _ rfl⟩
    · obtain rfl := Option.some.inj hi
      have d8 := h8 (hall ⟨8, .data⟩ (by simp) rfl)
      have d9 := h9 (hall ⟨9, .data⟩ (by simp) rfl)
      have d10 := h10 (hall ⟨10, .data⟩ (by simp) rfl)
      refine wpOp_step rfl (fun K hK => ?_)
      have HKK := Lib.hid hK; clear hK
      simp only [putAll, Act.put, List.setIfInBounds_toArray, List.set_cons_zero, List.set_cons_succ]
      go_simp
      refine (Hs2.out _).mono ?_
      rintro e w2 ⟨rfl, hb2⟩
      exact HKK.out _ _ ⟨_, by simp only [putAll, Act.put, List.setIfInBounds_toArray, List.set_cons_zero, List.set_cons_succ, d8, d9, d10] <;> rfl, h0, h1, h2, h3, h4, h5, h6, h7, h8, h9, h10, fun _ => rfl, h12, h13, h14, h15, h16, (ResM.other hM.out 11 _ rfl).grow hb2⟩
    · obtain rfl := Option.some.inj hi
      obtain ⟨⟨c0, c1⟩, ⟨c2, c3⟩, ⟨c4, c5⟩, c6, c7⟩ := FourAt.cells (HF.out _ hbelow)
      refine wpOp_step rfl (fun K hK => ?_)
      have HKK := Lib.hid hK; clear hK
      simp only [putAll, Act.put, List.setIfInBounds_toArray, List.set_cons_zero, List.set_cons_succ]
      go_simp
      exact HKK.out _ _ ⟨_, by simp only [putAll, Act.put, List.setIfInBounds_toArray, List.set_cons_zero, List.set_cons_succ] <;> rfl, h0, h1, h2, h3, h4, h5, h6, h7, h8, h9, h10, h11, fun _ => rfl, h13, h14, h15, h16, ResM.other hM.out 12 _ rfl⟩
    · obtain rfl := Option.some.inj hi
      obtain ⟨⟨c0, c1⟩, ⟨c2, c3⟩, ⟨c4, c5⟩, c6, c7⟩ := FourAt.cells (HF.out _ hbelow)
      refine wpOp_step rfl (fun K hK => ?_)
      have HKK := Lib.hid hK; clear hK
      simp only [putAll, Act.put, List.setIfInBounds_toArray, List.set_cons_zero, List.set_cons_succ]
      go_simp
      exact HKK.out _ _ ⟨_, by simp only [putAll, Act.put, List.setIfInBounds_toArray, List.set_cons_zero, List.set_cons_succ] <;> rfl, h0, h1, h2, h3, h4, h5, h6, h7, h8, h9, h10, h11, h12, fun _ => rfl, h14, h15, h16, ResM.other hM.out 13 _ rfl⟩
    · obtain rfl := Option.some.inj hi
      obtain ⟨⟨c0, c1⟩, ⟨c2, c3⟩, ⟨c4, c5⟩, c6, c7⟩ := FourAt.cells (HF.out _ hbelow)
      refine wpOp_step rfl (fun K hK => ?_)
      have HKK := Lib.hid hK; clear hK
      simp only [putAll, Act.put, List.setIfInBounds_toArray, List.set_cons_zero, List.set_cons_succ]
      go_simp
      exact HKK.out _ _ ⟨_, by simp only [putAll, Act.put, List.setIfInBounds_toArray, List.set_cons_zero, List.set_cons_succ] <;> rfl, h0, h1, h2, h3, h4, h5, h6, h7, h8, h9, h10, h11, h12, h13, fun _ => rfl, h15, h16, ResM.other hM.out 14 _ rfl⟩
    · obtain rfl := Option.some.inj hi
      have d12 := h12 (hall ⟨12, .data⟩ (by simp) rfl)
      have d13 := h13 (hall ⟨13, .data⟩ (by simp) rfl)
      have d14 := h14 (hall ⟨14, .data⟩ (by simp) rfl)
      refine wpOp_step rfl (fun K hK => ?_)
      have HKK := Lib.hid hK; clear hK
      simp only [putAll, Act.put, List.setIfInBounds_toArray, List.set_cons_zero, List.set_cons_succ]
      go_simp
      refine (Hs3.out _).mono ?_
      rintro e w2 ⟨rfl, hb2⟩
      exact HKK.out _ _ ⟨_, by simp only [putAll, Act.put, List.setIfInBounds_toArray, List.set_cons_zero, List.set_cons_succ, d12, d13, d14] <;> rfl, h0, h1, h2, h3, h4, h5, h6, h7, h8, h9, h10, h11, h12, h13, h14, fun _ => rfl, h16, (ResM.other hM.out 15 _ rfl).grow hb2⟩
    · obtain rfl := Option.some.inj hi
      have d3 := h3 (hall ⟨3, .data⟩ (by simp) rfl)
      have d7 := h7 (hall ⟨7, .data⟩ (by simp) rfl)
      have d11 := h11 (hall ⟨11, .data⟩ (by simp) rfl)
      have d15 := h15 (hall ⟨15, .data⟩ (by simp) rfl)
      refine wpOp_step rfl (fun K hK => ?_)
      have HKK := Lib.hid hK; clear hK
      simp only [putAll, Act.put, List.setIfInBounds_toArray, List.set_cons_zero, List.set_cons_succ]
      go_simp
      exact HKK.out _ _ ⟨_, by simp only [putAll, Act.put, List.setIfInBounds_toArray, List.set_cons_zero, List.set_cons_succ, d3, d7, d11, d15] <;> rfl, h0, h1, h2, h3, h4, h5, h6, h7, h8, h9, h10, h11, h12, h13, h14, h15, fun _ => rfl, ResM.other hM.out 16 _ rfl⟩
    · obtain rfl := Option.some.inj hi
      have d16 := h16 (hall ⟨16, .data⟩ (by simp) rfl)
      have kg := ResM.at hM.out hun
      have c0 := kg.i0; have c1 := kg.i1; have c2 := kg.i2; have c3 := kg.i3
      have f0 := kg.free 0; have f1 := kg.free 1; have f2 := kg.free 2; have f3 := kg.free 3
      have lgw := kg.lt
      refine wpOp_step rfl (fun K hK => ?_)
      have HKK := Lib.hid hK; clear hK
      simp only [putAll, Act.put, List.setIfInBounds_toArray, List.set_cons_zero, List.set_cons_succ]
      go_simp
      exact HKK.out _ _ ⟨_, by simp only [putAll, Act.put, List.setIfInBounds_toArray, List.set_cons_zero, List.set_cons_succ, d16] <;> rfl, h0, h1, h2, h3, h4, h5, h6, h7, h8, h9, h10, h11, h12, h13, h14, h15, h16, ResM.stored hM.out undef (below_four (g := n + 4) hbelow (Nat.le_refl _) _ _ _ _) (kg.setI _ _ _ _)⟩
    · omega
  · rintro b' vs w1 hall ⟨h0, h1, h2, h3, h4, h5, h6, h7, h8, h9, h10, h11, h12, h13, h14, h15, h16, hM⟩
    have d16 := h16 (hall 16 (by simp))
    have kz := ResM.done hM.out (hall 17 (by simp))
    have hb := ResM.below hM.out
    have KZ := Lib.hid kz
    have B1 : Hid (Below n w w1) := HB.out.trans (hb.mono (by omega))
    simp only [putAll, Act.put, List.setIfInBounds_toArray, List.set_cons_zero, List.set_cons_succ, d16]
    clear h0 h1 h2 h3 h4 h5 h6 h7 h8 h9 h10 h11 h12 h13 h14 h15 h16 hM hb kz hall
    go_wp2_with fail
    exact bodyPost_ret (v := .agg (ints4 s0 s1 s2 s3)) (results_ints 8 rfl rfl KZ.out) rfl ⟨rfl, by rw [Hn.out]; exact B1.out⟩
theorem sides_c (ax ay bx bY cx cy dx dy : Int) (w : World) (h : room ax = true ∧ room ay = true ∧ room bx = true ∧ room bY = true ∧ room cx = true ∧ room cy = true ∧ room dx = true ∧ room dy = true) :
    Calls Try.prog 33 #[.agg #[.int .i64 ax, .int .i64 ay], .agg #[.int .i64 bx, .int .i64 bY], .agg #[.int .i64 cx, .int .i64 cy], .agg #[.int .i64 dx, .int .i64 dy]] w fun e w' => e = .returned (.agg (ints4 (sideI ax ay bx bY cx cy) (sideI ax ay bx bY dx dy) (sideI cx cy dx dy ax ay) (sideI cx cy dx dy bx bY))) ∧ Below w.heap.size w w' := by
  obtain ⟨h1, h2, h3, h4, h5, h6, h7, h8⟩ := h
  exact sides_walk ax ay bx bY cx cy dx dy _ _ _ _ w (Lib.hid fun w => side_c _ _ _ _ _ _ w ⟨h1, h2, h3, h4, h5, h6⟩) (Lib.hid fun w => side_c _ _ _ _ _ _ w ⟨h1, h2, h3, h4, h7, h8⟩) (Lib.hid fun w => side_c _ _ _ _ _ _ w ⟨h5, h6, h7, h8, h1, h2⟩) (Lib.hid fun w => side_c _ _ _ _ _ _ w ⟨h5, h6, h7, h8, h3, h4⟩)
end Go.Proofs.Ytbllbncmeihaaaa
