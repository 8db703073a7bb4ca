/- Layer 10: the document's Blend. -/
import Derived.Test.YtoppmlfibllhlaaPf
import Derived.BigQuiet
namespace Go.Proofs.Ytoppmlfibllhlaa
open Go.RowKit
/-- What a way makes of two numbers s and t, under the alphas A and B. -/
def blendN (A B s t m : Int) : Int :=
  if m = 1 then ofI s t + ofI (255 - B) s + ofI (255 - A) t else if m = 2 then s + t - ofI s t
  else if decide (m = 3) = decide (ofI B s > ofI A t) then s + t - ofI B s else s + t - ofI A t
def blendC (c d : Col) (m : Int) : Col := if m = 0 then overC c d else fun i => if i < 3 then min (max (blendN (c 3) (d 3) (c i) (d i) m) 0) (overC c d 3) else overC c d i
theorem blend_0 (c d : Col) : blendC c d 0 = overC c d := if_pos rfl
theorem blend_3 (c d : Col) (m : Int) : blendC c d m 3 = overC c d 3 := by unfold blendC; split <;> simp
theorem blend_lt {c d : Col} {m : Int} (hm : m ≠ 0) {i : Nat} (hi : i < 3) : blendC c d m i = min (max (blendN (c 3) (d 3) (c i) (d i) m) 0) (overC c d 3) := by unfold blendC; rw [if_neg hm]; simp [hi]
theorem blend_ok {c d : Col} {m : Int} (hc : OkC c) (hd : OkC d) : OkC (blendC c d m) := fun i hi => by
  have ho := over_ok hc hd
  have h3 := ho 3 (by decide)
  by_cases hm : m = 0
  · rw [hm, blend_0]; exact ho i hi
  · by_cases h : i < 3
    · rw [blend_lt hm h]; omega
    · rw [show i = 3 by omega, blend_3]; exact h3
theorem upto_three64 (new old : Col) (h : new 3 = old 3) : c64 (upto 3 new old) = c64 new := four_congr fun i hi => by
  unfold upto
  by_cases e : i < 3
  · rw [if_pos e]
  · rw [if_neg e, show i = 3 by omega, h]
theorem refOfB_c (a b v : Int) (ha : 0 ≤ a ∧ a ≤ 255) (hb : 0 ≤ b ∧ b ≤ 255) (hv : ofI a b = v) (w : World) : Calls Try.prog 63 #[.int .i64 a, .int .i64 b] w fun e w' => e = .returned (.int .i64 v) ∧ Below w.heap.size w w' :=
  (refOf_c a b ha hb w).mono fun _ _ ⟨h1, h2⟩ => ⟨hv ▸ h1, h2 ▸ Below.refl _ _⟩
/-- What lies at hand while Blend runs. -/
structure BlendM (w : World) (c d x : Col) (g : Nat) (A : World) : Prop where
  below : Below w.heap.size w A
  c : Blk A w.heap.size 43 (c64 c)
  d : Blk A (w.heap.size + 1) 43 (c64 d)
  z : Blk A (w.heap.size + 1 + 1) 43 (four fun _ => .int .i64 0)
  x : Blk A g 43 (c64 x)
  g : w.heap.size + 3 ≤ g
theorem BlendM.grow {w A B : World} {c d x : Col} {g : Nat} (h : BlendM w c d x g A) (hb : Below A.heap.size A B) : BlendM w c d x g B :=
  ⟨h.below.trans (hb.mono h.below.size), h.c.grow hb, h.d.grow hb, h.z.grow hb, h.x.grow hb, h.g⟩
theorem BlendM.put {w A : World} {c d new old : Col} {g k : Nat} (h : BlendM w c d (upto k new old) g A) (hk : k < 4) {v : Int} (hv : new k = v) : BlendM w c d (upto (k + 1) new old) g (A.setCell ⟨g, k, none⟩ (.int .i64 v)) := by
  have hg := h.g
  refine ⟨h.below.setCell (by simp; omega) _, h.c.other _ _ (by simp; omega), h.d.other _ _ (by simp; omega), h.z.other _ _ (by simp; omega), ?_, hg⟩
  rw [← upto_set64 _ _ hk, hv]
  exact h.x.set k _
set_option maxHeartbeats 2000000 in
set_option maxRecDepth 100000 in
theorem refBlend_0 (c d : Col) (hc : OkC c) (hd : OkC d) (w : World) : Calls Try.prog 43 #[.agg #[.int .i64 (c 0), .int .i64 (c 1), .int .i64 (c 2), .int .i64 (c 3)], .agg #[.int .i64 (d 0), .int .i64 (d 1), .int .i64 (d 2), .int .i64 (d 3)], .int .i64 0] w fun e w' => e = .returned (.agg #[.int .i64 (overC c d 0), .int .i64 (overC c d 1), .int .i64 (overC c d 2), .int .i64 (overC c d 3)]) ∧ Below w.heap.size w w' := by
  have HC := Lib.hid hc
  have HD := Lib.hid hd
  have HOV := Lib.hid (refOver_c c d hc hd)
  have HOK := Lib.hid (over_ok hc hd)
  clear hc hd
  go_enter Try.func43, Try.ntmps43
  go_wp2_with fail
  obtain ⟨w1, hw1⟩ : ∃ W, ((w.alloc (.cells #[.int .i64 (c 0), .int .i64 (c 1), .int .i64 (c 2), .int .i64 (c 3)] 43)).alloc (.cells #[.int .i64 (d 0), .int .i64 (d 1), .int .i64 (d 2), .int .i64 (d 3)] 43)).alloc (.cells #[.int .i64 0, .int .i64 0, .int .i64 0, .int .i64 0] 43) = W := ⟨_, rfl⟩
  have S1 : Hid (Below w.heap.size w w1 ∧ Blk w1 w.heap.size 43 (c64 c) ∧ Blk w1 (w.heap.size + 1) 43 (c64 d) ∧ Blk w1 (w.heap.size + 1 + 1) 43 (four fun _ => .int .i64 0) ∧ w.heap.size + 3 ≤ w1.heap.size) := by
    rw [← hw1]
    exact ⟨(((Below.refl _ _).alloc (Nat.le_refl _) _).alloc (by simp) _).alloc (by simp; omega) _, ((Blk.new _ _ _).alloc _).alloc _, (Blk.newAt _ _ _ (by simp)).alloc _, Blk.newAt _ _ _ (by simp), by simp⟩
  rw [hw1]
  clear hw1
  refine (HOV.out _).mono ?_
  rintro e w2 ⟨rfl, hb⟩
  have S2 : Hid (Below w.heap.size w w2 ∧ Blk w2 w.heap.size 43 (c64 c) ∧ Blk w2 (w.heap.size + 1) 43 (c64 d) ∧ Blk w2 (w.heap.size + 1 + 1) 43 (four fun _ => .int .i64 0) ∧ w.heap.size + 3 ≤ w2.heap.size) := ⟨S1.out.1.trans (hb.mono S1.out.1.size), S1.out.2.1.grow hb, S1.out.2.2.1.grow hb, S1.out.2.2.2.1.grow hb, Nat.le_trans S1.out.2.2.2.2 hb.size⟩
  clear hb S1
  go_upto_if 18 with fail
  obtain ⟨w3, hw3⟩ : ∃ W, (w2.alloc (.cells #[.int .i64 (overC c d 0), .int .i64 (overC c d 1), .int .i64 (overC c d 2), .int .i64 (overC c d 3)] 43)) = W := ⟨_, rfl⟩
  have M3 : Hid (BlendM w c d (overC c d) w2.heap.size w3) := by
    rw [← hw3]
    exact ⟨S2.out.1.alloc S2.out.1.size _, S2.out.2.1.alloc _, S2.out.2.2.1.alloc _, S2.out.2.2.2.1.alloc _, Blk.new _ _ _, S2.out.2.2.2.2⟩
  rw [hw3]
  clear hw3
  obtain ⟨c0, c1, c2, c3⟩ := M3.out.x.c0
  obtain ⟨z0, z1, z2, z3⟩ := M3.out.z.c0
  have f0 := M3.out.z.free 0
  have f1 := M3.out.z.free 1
  have f2 := M3.out.z.free 2
  have f3 := M3.out.z.free 3
  have lg := M3.out.z.lt
  go_wp2_with fail
  exact bodyPost_ret (results_col (.inl rfl) 6 rfl rfl (M3.out.z.set4 fun i => .int .i64 (overC c d i))) rfl ⟨rfl, below_four4 M3.out.below (by omega) _ _ _ _⟩
set_option maxHeartbeats 4000000 in
set_option maxRecDepth 100000 in
theorem refBlend_1 (c d : Col) (hc : OkC c) (hd : OkC d) (w : World) : Calls Try.prog 43 #[.agg #[.int .i64 (c 0), .int .i64 (c 1), .int .i64 (c 2), .int .i64 (c 3)], .agg #[.int .i64 (d 0), .int .i64 (d 1), .int .i64 (d 2), .int .i64 (d 3)], .int .i64 1] w fun e w' => e = .returned (.agg #[.int .i64 (blendC c d 1 0), .int .i64 (blendC c d 1 1), .int .i64 (blendC c d 1 2), .int .i64 (blendC c d 1 3)]) ∧ Below w.heap.size w w' := by
  have HC := Lib.hid hc
  have HD := Lib.hid hd
  have HOV := Lib.hid (refOver_c c d hc hd)
  have HOK := Lib.hid (over_ok hc hd)
  clear hc hd
  go_enter Try.func43, Try.ntmps43
  go_wp2_with fail
  obtain ⟨w1, hw1⟩ : ∃ W, ((w.alloc (.cells #[.int .i64 (c 0), .int .i64 (c 1), .int .i64 (c 2), .int .i64 (c 3)] 43)).alloc (.cells #[.int .i64 (d 0), .int .i64 (d 1), .int .i64 (d 2), .int .i64 (d 3)] 43)).alloc (.cells #[.int .i64 0, .int .i64 0, .int .i64 0, .int .i64 0] 43) = W := ⟨_, rfl⟩
  have S1 : Hid (Below w.heap.size w w1 ∧ Blk w1 w.heap.size 43 (c64 c) ∧ Blk w1 (w.heap.size + 1) 43 (c64 d) ∧ Blk w1 (w.heap.size + 1 + 1) 43 (four fun _ => .int .i64 0) ∧ w.heap.size + 3 ≤ w1.heap.size) := by
    rw [← hw1]
    exact ⟨(((Below.refl _ _).alloc (Nat.le_refl _) _).alloc (by simp) _).alloc (by simp; omega) _, ((Blk.new _ _ _).alloc _).alloc _, (Blk.newAt _ _ _ (by simp)).alloc _, Blk.newAt _ _ _ (by simp), by simp⟩
  rw [hw1]
  clear hw1
  refine (HOV.out _).mono ?_
  rintro e w2 ⟨rfl, hb⟩
  have S2 : Hid (Below w.heap.size w w2 ∧ Blk w2 w.heap.size 43 (c64 c) ∧ Blk w2 (w.heap.size + 1) 43 (c64 d) ∧ Blk w2 (w.heap.size + 1 + 1) 43 (four fun _ => .int .i64 0) ∧ w.heap.size + 3 ≤ w2.heap.size) := ⟨S1.out.1.trans (hb.mono S1.out.1.size), S1.out.2.1.grow hb, S1.out.2.2.1.grow hb, S1.out.2.2.2.1.grow hb, Nat.le_trans S1.out.2.2.2.2 hb.size⟩
  clear hb S1
  go_wp2_with fail
  go_loopw [8] (fun i wr => ∃ k : Nat, k ≤ 3 ∧ i = .int .i64 (k : Int) ∧ Hid (BlendM w c d (upto k (blendC c d 1) (overC c d)) w2.heap.size wr)) (fun i _ => 3 - (intOf i).toNat)
  case atStart =>
    refine ⟨0, by omega, rfl, S2.out.1.alloc S2.out.1.size _, S2.out.2.1.alloc _, S2.out.2.2.1.alloc _, S2.out.2.2.2.1.alloc _, ?_, S2.out.2.2.2.2⟩
    rw [upto_none64]
    exact Blk.new _ _ _
  case round =>
    obtain ⟨k, hk, rfl, hw⟩ := hrel
    by_cases hlt : k < 3
    · have hd : decide ((k : Int) < 3) = true := by simp; omega
      have hki : (k : Int) < 4 := by omega
      have hk4 : k < 4 := by omega
      obtain ⟨p, hp⟩ : ∃ p, ofI (d 3) (c k) = p := ⟨_, rfl⟩
      obtain ⟨q, hq⟩ : ∃ q, ofI (c 3) (d k) = q := ⟨_, rfl⟩
      have a3 := HC.out 3 (by decide)
      have b3 := HD.out 3 (by decide)
      have ak := HC.out k hk4
      have bk := HD.out k hk4
      have o3b := HOK.out 3 (by decide)
      have HP : Hid (∀ w, Calls Try.prog 63 #[.int .i64 (d 3), .int .i64 (c k)] w fun e w' => e = .returned (.int .i64 p) ∧ Below w.heap.size w w') := refOfB_c _ _ p b3 ak hp
      have HQ : Hid (∀ w, Calls Try.prog 63 #[.int .i64 (c 3), .int .i64 (d k)] w fun e w' => e = .returned (.int .i64 q) ∧ Below w.heap.size w w') := refOfB_c _ _ q a3 bk hq
      have pb := ofI_in b3.1 b3.2 ak.1 ak.2
      have qb := ofI_in a3.1 a3.2 bk.1 bk.2
      rw [hp] at pb
      rw [hq] at qb
      obtain ⟨nv, hnv⟩ : ∃ nv, blendN (c 3) (d 3) (c k) (d k) 1 = nv := ⟨_, rfl⟩
      obtain ⟨o3, ho3⟩ : ∃ o3, overC c d 3 = o3 := ⟨_, rfl⟩
      rw [ho3] at o3b
      have HV : Hid (blendC c d 1 k = min (max nv 0) o3) := by unfold Hid; rw [blend_lt (by decide) hlt, hnv, ho3]
      have HB : Hid (∀ A, Below wr.heap.size wr A → BlendM w c d (upto k (blendC c d 1) (overC c d)) w2.heap.size A) := fun A hA => hw.out.grow hA
      obtain ⟨x1, hx1⟩ : ∃ x, ofI (c k) (d k) = x := ⟨_, rfl⟩
      have x1b := ofI_in ak.1 ak.2 bk.1 bk.2
      rw [hx1] at x1b
      have HX1 : Hid (∀ w, Calls Try.prog 63 #[.int .i64 (c k), .int .i64 (d k)] w fun e w' => e = .returned (.int .i64 x1) ∧ Below w.heap.size w w') := refOfB_c _ _ x1 ak bk hx1
      obtain ⟨zb, hzb⟩ : ∃ z, 255 - d 3 = z := ⟨_, rfl⟩
      obtain ⟨za, hza⟩ : ∃ z, 255 - c 3 = z := ⟨_, rfl⟩
      obtain ⟨x2, hx2⟩ : ∃ x, ofI zb (c k) = x := ⟨_, rfl⟩
      obtain ⟨x3, hx3⟩ : ∃ x, ofI za (d k) = x := ⟨_, rfl⟩
      have x2b := ofI_in (a := zb) (by omega) (by omega) ak.1 ak.2
      rw [hx2] at x2b
      have x3b := ofI_in (a := za) (by omega) (by omega) bk.1 bk.2
      rw [hx3] at x3b
      have HX2 : Hid (∀ w, Calls Try.prog 63 #[.int .i64 zb, .int .i64 (c k)] w fun e w' => e = .returned (.int .i64 x2) ∧ Below w.heap.size w w') := refOfB_c _ _ x2 (by omega) ak hx2
      have HX3 : Hid (∀ w, Calls Try.prog 63 #[.int .i64 za, .int .i64 (d k)] w fun e w' => e = .returned (.int .i64 x3) ∧ Below w.heap.size w w') := refOfB_c _ _ x3 (by omega) bk hx3
      obtain ⟨y1, hy1⟩ : ∃ y, x1 + x2 = y := ⟨_, rfl⟩
      have hn : y1 + x3 = nv := by rw [← hnv]; unfold blendN; rw [if_pos rfl, hx1, hzb, hza, hx2, hx3, hy1]
      have E1 : Hid (wrap64 (255 - d 3) = zb) := by unfold Hid; rw [hzb]; exact wrapR _ (by omega) (by omega)
      have E2 : Hid (wrap64 (255 - c 3) = za) := by unfold Hid; rw [hza]; exact wrapR _ (by omega) (by omega)
      have E3 : Hid (wrap64 (x1 + x2) = y1) := by unfold Hid; rw [hy1]; exact wrapR _ (by omega) (by omega)
      have E4 : Hid (wrap64 (y1 + x3) = nv) := by unfold Hid; rw [hn]; exact wrapR _ (by omega) (by omega)
      clear hp hq a3 b3 ak bk pb qb hnv hx1 x1b hzb hza hx2 hx3 x2b x3b hy1 hn
      go_wp2_with fail
      refine wp_region_quiet (C := Out wr) (by kernel_rfl) (by kernel_rfl) ⟨rfl, rfl, rfl, Nat.le_refl _, fun _ _ => rfl⟩ ?_
      refine BigFrame.wpQuiet_want rfl (fun K hK => ?_)
      refine quiet_val (.int .i64 (k : Int)) (fun w' hw' => by go_simp) (hK _ ?_)
      clear hK K
      simp only [Act.put, List.setIfInBounds_toArray, List.set_cons_zero, List.set_cons_succ]
      refine BigFrame.wpQuiet_want rfl (fun K hK => ?_)
      refine quiet_val (.pointer (some ⟨w.heap.size, k, none⟩)) (fun w' hw' => by go_simp) (hK _ ?_)
      clear hK K
      simp only [Act.put, List.setIfInBounds_toArray, List.set_cons_zero, List.set_cons_succ]
      refine BigFrame.wpQuiet_want rfl (fun K hK => ?_)
      refine quiet_val (.int .i64 (c k)) (fun w' hw' => by have cc := (HB.out w' hw').c.ck (k := k) (by omega); go_simp) (hK _ ?_)
      clear hK K
      simp only [Act.put, List.setIfInBounds_toArray, List.set_cons_zero, List.set_cons_succ]
      refine BigFrame.wpQuiet_want rfl (fun K hK => ?_)
      refine quiet_val (.int .i64 (k : Int)) (fun w' hw' => by go_simp) (hK _ ?_)
      clear hK K
      simp only [Act.put, List.setIfInBounds_toArray, List.set_cons_zero, List.set_cons_succ]
      refine BigFrame.wpQuiet_want rfl (fun K hK => ?_)
      refine quiet_val (.pointer (some ⟨w.heap.size + 1, k, none⟩)) (fun w' hw' => by go_simp) (hK _ ?_)
      clear hK K
      simp only [Act.put, List.setIfInBounds_toArray, List.set_cons_zero, List.set_cons_succ]
      refine BigFrame.wpQuiet_want rfl (fun K hK => ?_)
      refine quiet_val (.int .i64 (d k)) (fun w' hw' => by have cc := (HB.out w' hw').d.ck (k := k) (by omega); go_simp) (hK _ ?_)
      clear hK K
      simp only [Act.put, List.setIfInBounds_toArray, List.set_cons_zero, List.set_cons_succ]
      refine BigFrame.wpQuiet_want rfl (fun K hK => ?_)
      refine quiet_val (.int .i64 (c k)) (fun w' hw' => by go_simp) (hK _ ?_)
      clear hK K
      simp only [Act.put, List.setIfInBounds_toArray, List.set_cons_zero, List.set_cons_succ]
      refine BigFrame.wpQuiet_want rfl (fun K hK => ?_)
      refine quiet_val (.int .i64 (d k)) (fun w' hw' => by go_simp) (hK _ ?_)
      clear hK K
      simp only [Act.put, List.setIfInBounds_toArray, List.set_cons_zero, List.set_cons_succ]
      refine wpQuiet_nil ?_
      intro w4 hb4
      have HB4 : Hid (∀ A, Below w4.heap.size w4 A → BlendM w c d (upto k (blendC c d 1) (overC c d)) w2.heap.size A) := fun A hA => (HB.out w4 hb4).grow hA
      clear hb4 HB
      go_wp2_with fail
      refine wp_region_quiet (C := Out w4) (by kernel_rfl) (by kernel_rfl) ⟨rfl, rfl, rfl, Nat.le_refl _, fun _ _ => rfl⟩ ?_
      refine BigFrame.wpQuiet_want rfl (fun K hK => ?_)
      refine quiet_val (.pointer (some ⟨w.heap.size + 1, 3, none⟩)) (fun w' hw' => by go_simp) (hK _ ?_)
      clear hK K
      simp only [Act.put, List.setIfInBounds_toArray, List.set_cons_zero, List.set_cons_succ]
      refine BigFrame.wpQuiet_want rfl (fun K hK => ?_)
      refine quiet_val (.int .i64 (d 3)) (fun w' hw' => by have cc := (HB4.out w' hw').d.ck (k := 3) (by omega); go_simp) (hK _ ?_)
      clear hK K
      simp only [Act.put, List.setIfInBounds_toArray, List.set_cons_zero, List.set_cons_succ]
      refine BigFrame.wpQuiet_want rfl (fun K hK => ?_)
      refine quiet_val (.int .i64 (c k)) (fun w' hw' => by go_simp) (hK _ ?_)
      clear hK K
      simp only [Act.put, List.setIfInBounds_toArray, List.set_cons_zero, List.set_cons_succ]
      refine BigFrame.wpQuiet_want rfl (fun K hK => ?_)
      refine quiet_call 63 #[.int .i64 (d 3), .int .i64 (c k)] (.int .i64 p) (fun w' _ => by go_simp) (fun w' hw' => Calls.out hw' (HP.out w')) (hK _ ?_)
      clear hK K
      simp only [Act.put, List.setIfInBounds_toArray, List.set_cons_zero, List.set_cons_succ]
      refine BigFrame.wpQuiet_want rfl (fun K hK => ?_)
      refine quiet_val (.pointer (some ⟨w.heap.size, 3, none⟩)) (fun w' hw' => by go_simp) (hK _ ?_)
      clear hK K
      simp only [Act.put, List.setIfInBounds_toArray, List.set_cons_zero, List.set_cons_succ]
      refine BigFrame.wpQuiet_want rfl (fun K hK => ?_)
      refine quiet_val (.int .i64 (c 3)) (fun w' hw' => by have cc := (HB4.out w' hw').c.ck (k := 3) (by omega); go_simp) (hK _ ?_)
      clear hK K
      simp only [Act.put, List.setIfInBounds_toArray, List.set_cons_zero, List.set_cons_succ]
      refine BigFrame.wpQuiet_want rfl (fun K hK => ?_)
      refine quiet_val (.int .i64 (d k)) (fun w' hw' => by go_simp) (hK _ ?_)
      clear hK K
      simp only [Act.put, List.setIfInBounds_toArray, List.set_cons_zero, List.set_cons_succ]
      refine BigFrame.wpQuiet_want rfl (fun K hK => ?_)
      refine quiet_call 63 #[.int .i64 (c 3), .int .i64 (d k)] (.int .i64 q) (fun w' _ => by go_simp) (fun w' hw' => Calls.out hw' (HQ.out w')) (hK _ ?_)
      clear hK K
      simp only [Act.put, List.setIfInBounds_toArray, List.set_cons_zero, List.set_cons_succ]
      refine BigFrame.wpQuiet_want rfl (fun K hK => ?_)
      refine quiet_val (.int .i64 p) (fun w' hw' => by go_simp) (hK _ ?_)
      clear hK K
      simp only [Act.put, List.setIfInBounds_toArray, List.set_cons_zero, List.set_cons_succ]
      refine BigFrame.wpQuiet_want rfl (fun K hK => ?_)
      refine quiet_val (.int .i64 q) (fun w' hw' => by go_simp) (hK _ ?_)
      clear hK K
      simp only [Act.put, List.setIfInBounds_toArray, List.set_cons_zero, List.set_cons_succ]
      refine wpQuiet_nil ?_
      intro w5 hb5
      have HB5 : Hid (∀ A, Below w5.heap.size w5 A → BlendM w c d (upto k (blendC c d 1) (overC c d)) w2.heap.size A) := fun A hA => (HB4.out w5 hb5).grow hA
      clear hb5 HB4
      go_wp2_with fail
      refine wp_region_quiet (C := Out w5) (by kernel_rfl) (by kernel_rfl) ⟨rfl, rfl, rfl, Nat.le_refl _, fun _ _ => rfl⟩ ?_
      refine BigFrame.wpQuiet_want rfl (fun K hK => ?_)
      refine quiet_val (.int .i64 (c k)) (fun w' hw' => by go_simp) (hK _ ?_)
      clear hK K
      simp only [Act.put, List.setIfInBounds_toArray, List.set_cons_zero, List.set_cons_succ]
      refine BigFrame.wpQuiet_want rfl (fun K hK => ?_)
      refine quiet_val (.int .i64 (d k)) (fun w' hw' => by go_simp) (hK _ ?_)
      clear hK K
      simp only [Act.put, List.setIfInBounds_toArray, List.set_cons_zero, List.set_cons_succ]
      refine BigFrame.wpQuiet_want rfl (fun K hK => ?_)
      refine quiet_call 63 #[.int .i64 (c k), .int .i64 (d k)] (.int .i64 x1) (fun w' _ => by go_simp) (fun w' hw' => Calls.out hw' (HX1.out w')) (hK _ ?_)
      clear hK K
      simp only [Act.put, List.setIfInBounds_toArray, List.set_cons_zero, List.set_cons_succ]
      refine BigFrame.wpQuiet_want rfl (fun K hK => ?_)
      refine quiet_val (.pointer (some ⟨w.heap.size + 1, 3, none⟩)) (fun w' hw' => by go_simp) (hK _ ?_)
      clear hK K
      simp only [Act.put, List.setIfInBounds_toArray, List.set_cons_zero, List.set_cons_succ]
      refine BigFrame.wpQuiet_want rfl (fun K hK => ?_)
      refine quiet_val (.int .i64 (d 3)) (fun w' hw' => by have cc := (HB5.out w' hw').d.ck (k := 3) (by omega); go_simp) (hK _ ?_)
      clear hK K
      simp only [Act.put, List.setIfInBounds_toArray, List.set_cons_zero, List.set_cons_succ]
      refine BigFrame.wpQuiet_want rfl (fun K hK => ?_)
      refine quiet_val (.int .i64 zb) (fun w' hw' => by have e := E1.out; have e' := (wrap_is _).trans E1.out; go_simp) (hK _ ?_)
      clear hK K
      simp only [Act.put, List.setIfInBounds_toArray, List.set_cons_zero, List.set_cons_succ]
      refine BigFrame.wpQuiet_want rfl (fun K hK => ?_)
      refine quiet_val (.int .i64 (c k)) (fun w' hw' => by go_simp) (hK _ ?_)
      clear hK K
      simp only [Act.put, List.setIfInBounds_toArray, List.set_cons_zero, List.set_cons_succ]
      refine BigFrame.wpQuiet_want rfl (fun K hK => ?_)
      refine quiet_call 63 #[.int .i64 zb, .int .i64 (c k)] (.int .i64 x2) (fun w' _ => by go_simp) (fun w' hw' => Calls.out hw' (HX2.out w')) (hK _ ?_)
      clear hK K
      simp only [Act.put, List.setIfInBounds_toArray, List.set_cons_zero, List.set_cons_succ]
      refine BigFrame.wpQuiet_want rfl (fun K hK => ?_)
      refine quiet_val (.int .i64 y1) (fun w' hw' => by have e := E3.out; have e' := (wrap_is _).trans E3.out; go_simp) (hK _ ?_)
      clear hK K
      simp only [Act.put, List.setIfInBounds_toArray, List.set_cons_zero, List.set_cons_succ]
      refine BigFrame.wpQuiet_want rfl (fun K hK => ?_)
      refine quiet_val (.pointer (some ⟨w.heap.size, 3, none⟩)) (fun w' hw' => by go_simp) (hK _ ?_)
      clear hK K
      simp only [Act.put, List.setIfInBounds_toArray, List.set_cons_zero, List.set_cons_succ]
      refine BigFrame.wpQuiet_want rfl (fun K hK => ?_)
      refine quiet_val (.int .i64 (c 3)) (fun w' hw' => by have cc := (HB5.out w' hw').c.ck (k := 3) (by omega); go_simp) (hK _ ?_)
      clear hK K
      simp only [Act.put, List.setIfInBounds_toArray, List.set_cons_zero, List.set_cons_succ]
      refine BigFrame.wpQuiet_want rfl (fun K hK => ?_)
      refine quiet_val (.int .i64 za) (fun w' hw' => by have e := E2.out; have e' := (wrap_is _).trans E2.out; go_simp) (hK _ ?_)
      clear hK K
      simp only [Act.put, List.setIfInBounds_toArray, List.set_cons_zero, List.set_cons_succ]
      refine BigFrame.wpQuiet_want rfl (fun K hK => ?_)
      refine quiet_val (.int .i64 (d k)) (fun w' hw' => by go_simp) (hK _ ?_)
      clear hK K
      simp only [Act.put, List.setIfInBounds_toArray, List.set_cons_zero, List.set_cons_succ]
      refine BigFrame.wpQuiet_want rfl (fun K hK => ?_)
      refine quiet_call 63 #[.int .i64 za, .int .i64 (d k)] (.int .i64 x3) (fun w' _ => by go_simp) (fun w' hw' => Calls.out hw' (HX3.out w')) (hK _ ?_)
      clear hK K
      simp only [Act.put, List.setIfInBounds_toArray, List.set_cons_zero, List.set_cons_succ]
      refine BigFrame.wpQuiet_want rfl (fun K hK => ?_)
      refine quiet_val (.int .i64 nv) (fun w' hw' => by have e := E4.out; have e' := (wrap_is _).trans E4.out; go_simp) (hK _ ?_)
      clear hK K
      simp only [Act.put, List.setIfInBounds_toArray, List.set_cons_zero, List.set_cons_succ]
      refine BigFrame.wpQuiet_want rfl (fun K hK => ?_)
      refine quiet_val (.int .i64 nv) (fun w' hw' => by go_simp) (hK _ ?_)
      clear hK K
      simp only [Act.put, List.setIfInBounds_toArray, List.set_cons_zero, List.set_cons_succ]
      refine wpQuiet_nil ?_
      intro w6 hb6
      have M6 := Lib.hid (HB5.out w6 hb6)
      clear hb6 HB5
      have x3c : w6.cell? ⟨w2.heap.size, 3, none⟩ = some (.int .i64 o3) := (M6.out.x.ck (by decide)).trans (by rw [upto_ge _ _ (by omega), ho3])
      have xkc : w6.cell? ⟨w2.heap.size, k, none⟩ = some (.int .i64 (overC c d k)) := (M6.out.x.ck hk4).trans (by rw [upto_at])
      have xf := M6.out.x.free k
      have xl := M6.out.x.lt
      clear ho3
      rcases Int.lt_or_le nv 0 with hn | hn
      · have hv : blendC c d 1 k = 0 := by rw [HV.out]; omega
        have HV2 := Lib.hid hv
        have hn0 : decide (nv < 0) = true := by simp; omega
        have hn3 : decide (0 > o3) = false := by simp; omega
        clear hv hn o3b HV
        go_wp2_with fail
        exact ⟨⟨k + 1, by omega, by go_num, M6.out.put hk4 HV2.out⟩, by simp [intOf]; omega⟩
      · rcases Int.lt_or_le o3 nv with hn2 | hn2
        · have hv : blendC c d 1 k = o3 := by rw [HV.out]; omega
          have HV2 := Lib.hid hv
          have hn0 : decide (nv < 0) = false := by simp; omega
          have hn3 : decide (nv > o3) = true := by simp; omega
          clear hv hn hn2 o3b HV
          go_wp2_with fail
          exact ⟨⟨k + 1, by omega, by go_num, M6.out.put hk4 HV2.out⟩, by simp [intOf]; omega⟩
        · have hv : blendC c d 1 k = nv := by rw [HV.out]; omega
          have HV2 := Lib.hid hv
          have hn0 : decide (nv < 0) = false := by simp; omega
          have hn3 : decide (nv > o3) = false := by simp; omega
          clear hv hn hn2 o3b HV
          go_wp2_with fail
          exact ⟨⟨k + 1, by omega, by go_num, M6.out.put hk4 HV2.out⟩, by simp [intOf]; omega⟩
    · have hd : decide ((k : Int) < 3) = false := by simp; omega
      obtain rfl : k = 3 := by omega
      have hb4 := hw.out.x
      rw [upto_three64 _ _ (blend_3 c d 1)] at hb4
      have HB4 := Lib.hid hb4
      obtain ⟨c0, c1, c2, c3⟩ := HB4.out.c0
      obtain ⟨z0, z1, z2, z3⟩ := hw.out.z.c0
      have f0 := hw.out.z.free 0
      have f1 := hw.out.z.free 1
      have f2 := hw.out.z.free 2
      have f3 := hw.out.z.free 3
      have lg := hw.out.z.lt
      clear hb4
      go_wp2_with fail
      exact bodyPost_ret (results_col (.inl rfl) 6 rfl rfl (hw.out.z.set4 fun i => .int .i64 (blendC c d 1 i))) rfl ⟨rfl, below_four4 hw.out.below (by omega) _ _ _ _⟩
set_option maxHeartbeats 4000000 in
set_option maxRecDepth 100000 in
theorem refBlend_2 (c d : Col) (hc : OkC c) (hd : OkC d) (w : World) : Calls Try.prog 43 #[.agg #[.int .i64 (c 0), .int .i64 (c 1), .int .i64 (c 2), .int .i64 (c 3)], .agg #[.int .i64 (d 0), .int .i64 (d 1), .int .i64 (d 2), .int .i64 (d 3)], .int .i64 2] w fun e w' => e = .returned (.agg #[.int .i64 (blendC c d 2 0), .int .i64 (blendC c d 2 1), .int .i64 (blendC c d 2 2), .int .i64 (blendC c d 2 3)]) ∧ Below w.heap.size w w' := by
  have HC := Lib.hid hc
  have HD := Lib.hid hd
  have HOV := Lib.hid (refOver_c c d hc hd)
  have HOK := Lib.hid (over_ok hc hd)
  clear hc hd
  go_enter Try.func43, Try.ntmps43
  go_wp2_with fail
  obtain ⟨w1, hw1⟩ : ∃ W, ((w.alloc (.cells #[.int .i64 (c 0), .int .i64 (c 1), .int .i64 (c 2), .int .i64 (c 3)] 43)).alloc (.cells #[.int .i64 (d 0), .int .i64 (d 1), .int .i64 (d 2), .int .i64 (d 3)] 43)).alloc (.cells #[.int .i64 0, .int .i64 0, .int .i64 0, .int .i64 0] 43) = W := ⟨_, rfl⟩
  have S1 : Hid (Below w.heap.size w w1 ∧ Blk w1 w.heap.size 43 (c64 c) ∧ Blk w1 (w.heap.size + 1) 43 (c64 d) ∧ Blk w1 (w.heap.size + 1 + 1) 43 (four fun _ => .int .i64 0) ∧ w.heap.size + 3 ≤ w1.heap.size) := by
    rw [← hw1]
    exact ⟨(((Below.refl _ _).alloc (Nat.le_refl _) _).alloc (by simp) _).alloc (by simp; omega) _, ((Blk.new _ _ _).alloc _).alloc _, (Blk.newAt _ _ _ (by simp)).alloc _, Blk.newAt _ _ _ (by simp), by simp⟩
  rw [hw1]
  clear hw1
  refine (HOV.out _).mono ?_
  rintro e w2 ⟨rfl, hb⟩
  have S2 : Hid (Below w.heap.size w w2 ∧ Blk w2 w.heap.size 43 (c64 c) ∧ Blk w2 (w.heap.size + 1) 43 (c64 d) ∧ Blk w2 (w.heap.size + 1 + 1) 43 (four fun _ => .int .i64 0) ∧ w.heap.size + 3 ≤ w2.heap.size) := ⟨S1.out.1.trans (hb.mono S1.out.1.size), S1.out.2.1.grow hb, S1.out.2.2.1.grow hb, S1.out.2.2.2.1.grow hb, Nat.le_trans S1.out.2.2.2.2 hb.size⟩
  clear hb S1
  go_wp2_with fail
  go_loopw [8] (fun i wr => ∃ k : Nat, k ≤ 3 ∧ i = .int .i64 (k : Int) ∧ Hid (BlendM w c d (upto k (blendC c d 2) (overC c d)) w2.heap.size wr)) (fun i _ => 3 - (intOf i).toNat)
  case atStart =>
    refine ⟨0, by omega, rfl, S2.out.1.alloc S2.out.1.size _, S2.out.2.1.alloc _, S2.out.2.2.1.alloc _, S2.out.2.2.2.1.alloc _, ?_, S2.out.2.2.2.2⟩
    rw [upto_none64]
    exact Blk.new _ _ _
  case round =>
    obtain ⟨k, hk, rfl, hw⟩ := hrel
    by_cases hlt : k < 3
    · have hd : decide ((k : Int) < 3) = true := by simp; omega
      have hki : (k : Int) < 4 := by omega
      have hk4 : k < 4 := by omega
      obtain ⟨p, hp⟩ : ∃ p, ofI (d 3) (c k) = p := ⟨_, rfl⟩
      obtain ⟨q, hq⟩ : ∃ q, ofI (c 3) (d k) = q := ⟨_, rfl⟩
      have a3 := HC.out 3 (by decide)
      have b3 := HD.out 3 (by decide)
      have ak := HC.out k hk4
      have bk := HD.out k hk4
      have o3b := HOK.out 3 (by decide)
      have HP : Hid (∀ w, Calls Try.prog 63 #[.int .i64 (d 3), .int .i64 (c k)] w fun e w' => e = .returned (.int .i64 p) ∧ Below w.heap.size w w') := refOfB_c _ _ p b3 ak hp
      have HQ : Hid (∀ w, Calls Try.prog 63 #[.int .i64 (c 3), .int .i64 (d k)] w fun e w' => e = .returned (.int .i64 q) ∧ Below w.heap.size w w') := refOfB_c _ _ q a3 bk hq
      have pb := ofI_in b3.1 b3.2 ak.1 ak.2
      have qb := ofI_in a3.1 a3.2 bk.1 bk.2
      rw [hp] at pb
      rw [hq] at qb
      obtain ⟨nv, hnv⟩ : ∃ nv, blendN (c 3) (d 3) (c k) (d k) 2 = nv := ⟨_, rfl⟩
      obtain ⟨o3, ho3⟩ : ∃ o3, overC c d 3 = o3 := ⟨_, rfl⟩
      rw [ho3] at o3b
      have HV : Hid (blendC c d 2 k = min (max nv 0) o3) := by unfold Hid; rw [blend_lt (by decide) hlt, hnv, ho3]
      have HB : Hid (∀ A, Below wr.heap.size wr A → BlendM w c d (upto k (blendC c d 2) (overC c d)) w2.heap.size A) := fun A hA => hw.out.grow hA
      obtain ⟨x1, hx1⟩ : ∃ x, ofI (c k) (d k) = x := ⟨_, rfl⟩
      have x1b := ofI_in ak.1 ak.2 bk.1 bk.2
      rw [hx1] at x1b
      have HX1 : Hid (∀ w, Calls Try.prog 63 #[.int .i64 (c k), .int .i64 (d k)] w fun e w' => e = .returned (.int .i64 x1) ∧ Below w.heap.size w w') := refOfB_c _ _ x1 ak bk hx1
      obtain ⟨y1, hy1⟩ : ∃ y, c k + d k = y := ⟨_, rfl⟩
      have hn : y1 - x1 = nv := by rw [← hnv]; unfold blendN; rw [if_neg (by decide), if_pos rfl, hx1, hy1]
      have e3 : wrap64 (c k + d k) = y1 := by rw [hy1]; exact wrapR _ (by omega) (by omega)
      have e4 : wrap64 (y1 - x1) = nv := by rw [hn]; exact wrapR _ (by omega) (by omega)
      clear hp hq a3 b3 ak bk pb qb hnv hx1 x1b hy1 hn
      go_wp2_with fail
      refine wp_region_quiet (C := Out wr) (by kernel_rfl) (by kernel_rfl) ⟨rfl, rfl, rfl, Nat.le_refl _, fun _ _ => rfl⟩ ?_
      refine BigFrame.wpQuiet_want rfl (fun K hK => ?_)
      refine quiet_val (.int .i64 (k : Int)) (fun w' hw' => by go_simp) (hK _ ?_)
      clear hK K
      simp only [Act.put, List.setIfInBounds_toArray, List.set_cons_zero, List.set_cons_succ]
      refine BigFrame.wpQuiet_want rfl (fun K hK => ?_)
      refine quiet_val (.pointer (some ⟨w.heap.size, k, none⟩)) (fun w' hw' => by go_simp) (hK _ ?_)
      clear hK K
      simp only [Act.put, List.setIfInBounds_toArray, List.set_cons_zero, List.set_cons_succ]
      refine BigFrame.wpQuiet_want rfl (fun K hK => ?_)
      refine quiet_val (.int .i64 (c k)) (fun w' hw' => by have cc := (HB.out w' hw').c.ck (k := k) (by omega); go_simp) (hK _ ?_)
      clear hK K
      simp only [Act.put, List.setIfInBounds_toArray, List.set_cons_zero, List.set_cons_succ]
      refine BigFrame.wpQuiet_want rfl (fun K hK => ?_)
      refine quiet_val (.int .i64 (k : Int)) (fun w' hw' => by go_simp) (hK _ ?_)
      clear hK K
      simp only [Act.put, List.setIfInBounds_toArray, List.set_cons_zero, List.set_cons_succ]
      refine BigFrame.wpQuiet_want rfl (fun K hK => ?_)
      refine quiet_val (.pointer (some ⟨w.heap.size + 1, k, none⟩)) (fun w' hw' => by go_simp) (hK _ ?_)
      clear hK K
      simp only [Act.put, List.setIfInBounds_toArray, List.set_cons_zero, List.set_cons_succ]
      refine BigFrame.wpQuiet_want rfl (fun K hK => ?_)
      refine quiet_val (.int .i64 (d k)) (fun w' hw' => by have cc := (HB.out w' hw').d.ck (k := k) (by omega); go_simp) (hK _ ?_)
      clear hK K
      simp only [Act.put, List.setIfInBounds_toArray, List.set_cons_zero, List.set_cons_succ]
      refine BigFrame.wpQuiet_want rfl (fun K hK => ?_)
      refine quiet_val (.int .i64 (c k)) (fun w' hw' => by go_simp) (hK _ ?_)
      clear hK K
      simp only [Act.put, List.setIfInBounds_toArray, List.set_cons_zero, List.set_cons_succ]
      refine BigFrame.wpQuiet_want rfl (fun K hK => ?_)
      refine quiet_val (.int .i64 (d k)) (fun w' hw' => by go_simp) (hK _ ?_)
      clear hK K
      simp only [Act.put, List.setIfInBounds_toArray, List.set_cons_zero, List.set_cons_succ]
      refine wpQuiet_nil ?_
      intro w4 hb4
      have HB4 : Hid (∀ A, Below w4.heap.size w4 A → BlendM w c d (upto k (blendC c d 2) (overC c d)) w2.heap.size A) := fun A hA => (HB.out w4 hb4).grow hA
      clear hb4 HB
      go_wp2_with fail
      refine wp_region_quiet (C := Out w4) (by kernel_rfl) (by kernel_rfl) ⟨rfl, rfl, rfl, Nat.le_refl _, fun _ _ => rfl⟩ ?_
      refine BigFrame.wpQuiet_want rfl (fun K hK => ?_)
      refine quiet_val (.pointer (some ⟨w.heap.size + 1, 3, none⟩)) (fun w' hw' => by go_simp) (hK _ ?_)
      clear hK K
      simp only [Act.put, List.setIfInBounds_toArray, List.set_cons_zero, List.set_cons_succ]
      refine BigFrame.wpQuiet_want rfl (fun K hK => ?_)
      refine quiet_val (.int .i64 (d 3)) (fun w' hw' => by have cc := (HB4.out w' hw').d.ck (k := 3) (by omega); go_simp) (hK _ ?_)
      clear hK K
      simp only [Act.put, List.setIfInBounds_toArray, List.set_cons_zero, List.set_cons_succ]
      refine BigFrame.wpQuiet_want rfl (fun K hK => ?_)
      refine quiet_val (.int .i64 (c k)) (fun w' hw' => by go_simp) (hK _ ?_)
      clear hK K
      simp only [Act.put, List.setIfInBounds_toArray, List.set_cons_zero, List.set_cons_succ]
      refine BigFrame.wpQuiet_want rfl (fun K hK => ?_)
      refine quiet_call 63 #[.int .i64 (d 3), .int .i64 (c k)] (.int .i64 p) (fun w' _ => by go_simp) (fun w' hw' => Calls.out hw' (HP.out w')) (hK _ ?_)
      clear hK K
      simp only [Act.put, List.setIfInBounds_toArray, List.set_cons_zero, List.set_cons_succ]
      refine BigFrame.wpQuiet_want rfl (fun K hK => ?_)
      refine quiet_val (.pointer (some ⟨w.heap.size, 3, none⟩)) (fun w' hw' => by go_simp) (hK _ ?_)
      clear hK K
      simp only [Act.put, List.setIfInBounds_toArray, List.set_cons_zero, List.set_cons_succ]
      refine BigFrame.wpQuiet_want rfl (fun K hK => ?_)
      refine quiet_val (.int .i64 (c 3)) (fun w' hw' => by have cc := (HB4.out w' hw').c.ck (k := 3) (by omega); go_simp) (hK _ ?_)
      clear hK K
      simp only [Act.put, List.setIfInBounds_toArray, List.set_cons_zero, List.set_cons_succ]
      refine BigFrame.wpQuiet_want rfl (fun K hK => ?_)
      refine quiet_val (.int .i64 (d k)) (fun w' hw' => by go_simp) (hK _ ?_)
      clear hK K
      simp only [Act.put, List.setIfInBounds_toArray, List.set_cons_zero, List.set_cons_succ]
      refine BigFrame.wpQuiet_want rfl (fun K hK => ?_)
      refine quiet_call 63 #[.int .i64 (c 3), .int .i64 (d k)] (.int .i64 q) (fun w' _ => by go_simp) (fun w' hw' => Calls.out hw' (HQ.out w')) (hK _ ?_)
      clear hK K
      simp only [Act.put, List.setIfInBounds_toArray, List.set_cons_zero, List.set_cons_succ]
      refine BigFrame.wpQuiet_want rfl (fun K hK => ?_)
      refine quiet_val (.int .i64 p) (fun w' hw' => by go_simp) (hK _ ?_)
      clear hK K
      simp only [Act.put, List.setIfInBounds_toArray, List.set_cons_zero, List.set_cons_succ]
      refine BigFrame.wpQuiet_want rfl (fun K hK => ?_)
      refine quiet_val (.int .i64 q) (fun w' hw' => by go_simp) (hK _ ?_)
      clear hK K
      simp only [Act.put, List.setIfInBounds_toArray, List.set_cons_zero, List.set_cons_succ]
      refine wpQuiet_nil ?_
      intro w5 hb5
      have HB5 : Hid (∀ A, Below w5.heap.size w5 A → BlendM w c d (upto k (blendC c d 2) (overC c d)) w2.heap.size A) := fun A hA => (HB4.out w5 hb5).grow hA
      clear hb5 HB4
      go_wp2_with fail
      refine (HX1.out _).mono ?_
      rintro e w6 ⟨rfl, hb6⟩
      have M6 := Lib.hid (HB5.out w6 hb6)
      clear hb6 HB5
      have x3c : w6.cell? ⟨w2.heap.size, 3, none⟩ = some (.int .i64 o3) := (M6.out.x.ck (by decide)).trans (by rw [upto_ge _ _ (by omega), ho3])
      have xkc : w6.cell? ⟨w2.heap.size, k, none⟩ = some (.int .i64 (overC c d k)) := (M6.out.x.ck hk4).trans (by rw [upto_at])
      have xf := M6.out.x.free k
      have xl := M6.out.x.lt
      clear ho3
      rcases Int.lt_or_le nv 0 with hn | hn
      · have hv : blendC c d 2 k = 0 := by rw [HV.out]; omega
        have HV2 := Lib.hid hv
        have hn0 : decide (nv < 0) = true := by simp; omega
        have hn3 : decide (0 > o3) = false := by simp; omega
        clear hv hn o3b HV
        go_wp2_with fail
        exact ⟨⟨k + 1, by omega, by go_num, M6.out.put hk4 HV2.out⟩, by simp [intOf]; omega⟩
      · rcases Int.lt_or_le o3 nv with hn2 | hn2
        · have hv : blendC c d 2 k = o3 := by rw [HV.out]; omega
          have HV2 := Lib.hid hv
          have hn0 : decide (nv < 0) = false := by simp; omega
          have hn3 : decide (nv > o3) = true := by simp; omega
          clear hv hn hn2 o3b HV
          go_wp2_with fail
          exact ⟨⟨k + 1, by omega, by go_num, M6.out.put hk4 HV2.out⟩, by simp [intOf]; omega⟩
        · have hv : blendC c d 2 k = nv := by rw [HV.out]; omega
          have HV2 := Lib.hid hv
          have hn0 : decide (nv < 0) = false := by simp; omega
          have hn3 : decide (nv > o3) = false := by simp; omega
          clear hv hn hn2 o3b HV
          go_wp2_with fail
          exact ⟨⟨k + 1, by omega, by go_num, M6.out.put hk4 HV2.out⟩, by simp [intOf]; omega⟩
    · have hd : decide ((k : Int) < 3) = false := by simp; omega
      obtain rfl : k = 3 := by omega
      have hb4 := hw.out.x
      rw [upto_three64 _ _ (blend_3 c d 2)] at hb4
      have HB4 := Lib.hid hb4
      obtain ⟨c0, c1, c2, c3⟩ := HB4.out.c0
      obtain ⟨z0, z1, z2, z3⟩ := hw.out.z.c0
      have f0 := hw.out.z.free 0
      have f1 := hw.out.z.free 1
      have f2 := hw.out.z.free 2
      have f3 := hw.out.z.free 3
      have lg := hw.out.z.lt
      clear hb4
      go_wp2_with fail
      exact bodyPost_ret (results_col (.inl rfl) 6 rfl rfl (hw.out.z.set4 fun i => .int .i64 (blendC c d 2 i))) rfl ⟨rfl, below_four4 hw.out.below (by omega) _ _ _ _⟩
set_option maxHeartbeats 4000000 in
set_option maxRecDepth 100000 in
theorem refBlend_3 (c d : Col) (hc : OkC c) (hd : OkC d) (w : World) : Calls Try.prog 43 #[.agg #[.int .i64 (c 0), .int .i64 (c 1), .int .i64 (c 2), .int .i64 (c 3)], .agg #[.int .i64 (d 0), .int .i64 (d 1), .int .i64 (d 2), .int .i64 (d 3)], .int .i64 3] w fun e w' => e = .returned (.agg #[.int .i64 (blendC c d 3 0), .int .i64 (blendC c d 3 1), .int .i64 (blendC c d 3 2), .int .i64 (blendC c d 3 3)]) ∧ Below w.heap.size w w' := by
  have HC := Lib.hid hc
  have HD := Lib.hid hd
  have HOV := Lib.hid (refOver_c c d hc hd)
  have HOK := Lib.hid (over_ok hc hd)
  clear hc hd
  go_enter Try.func43, Try.ntmps43
  go_wp2_with fail
  obtain ⟨w1, hw1⟩ : ∃ W, ((w.alloc (.cells #[.int .i64 (c 0), .int .i64 (c 1), .int .i64 (c 2), .int .i64 (c 3)] 43)).alloc (.cells #[.int .i64 (d 0), .int .i64 (d 1), .int .i64 (d 2), .int .i64 (d 3)] 43)).alloc (.cells #[.int .i64 0, .int .i64 0, .int .i64 0, .int .i64 0] 43) = W := ⟨_, rfl⟩
  have S1 : Hid (Below w.heap.size w w1 ∧ Blk w1 w.heap.size 43 (c64 c) ∧ Blk w1 (w.heap.size + 1) 43 (c64 d) ∧ Blk w1 (w.heap.size + 1 + 1) 43 (four fun _ => .int .i64 0) ∧ w.heap.size + 3 ≤ w1.heap.size) := by
    rw [← hw1]
    exact ⟨(((Below.refl _ _).alloc (Nat.le_refl _) _).alloc (by simp) _).alloc (by simp; omega) _, ((Blk.new _ _ _).alloc _).alloc _, (Blk.newAt _ _ _ (by simp)).alloc _, Blk.newAt _ _ _ (by simp), by simp⟩
  rw [hw1]
  clear hw1
  refine (HOV.out _).mono ?_
  rintro e w2 ⟨rfl, hb⟩
  have S2 : Hid (Below w.heap.size w w2 ∧ Blk w2 w.heap.size 43 (c64 c) ∧ Blk w2 (w.heap.size + 1) 43 (c64 d) ∧ Blk w2 (w.heap.size + 1 + 1) 43 (four fun _ => .int .i64 0) ∧ w.heap.size + 3 ≤ w2.heap.size) := ⟨S1.out.1.trans (hb.mono S1.out.1.size), S1.out.2.1.grow hb, S1.out.2.2.1.grow hb, S1.out.2.2.2.1.grow hb, Nat.le_trans S1.out.2.2.2.2 hb.size⟩
  clear hb S1
  go_wp2_with fail
  go_loopw [8] (fun i wr => ∃ k : Nat, k ≤ 3 ∧ i = .int .i64 (k : Int) ∧ Hid (BlendM w c d (upto k (blendC c d 3) (overC c d)) w2.heap.size wr)) (fun i _ => 3 - (intOf i).toNat)
  case atStart =>
    refine ⟨0, by omega, rfl, S2.out.1.alloc S2.out.1.size _, S2.out.2.1.alloc _, S2.out.2.2.1.alloc _, S2.out.2.2.2.1.alloc _, ?_, S2.out.2.2.2.2⟩
    rw [upto_none64]
    exact Blk.new _ _ _
  case round =>
    obtain ⟨k, hk, rfl, hw⟩ := hrel
    by_cases hlt : k < 3
    · have hd : decide ((k : Int) < 3) = true := by simp; omega
      have hki : (k : Int) < 4 := by omega
      have hk4 : k < 4 := by omega
      obtain ⟨p, hp⟩ : ∃ p, ofI (d 3) (c k) = p := ⟨_, rfl⟩
      obtain ⟨q, hq⟩ : ∃ q, ofI (c 3) (d k) = q := ⟨_, rfl⟩
      have a3 := HC.out 3 (by decide)
      have b3 := HD.out 3 (by decide)
      have ak := HC.out k hk4
      have bk := HD.out k hk4
      have o3b := HOK.out 3 (by decide)
      have HP : Hid (∀ w, Calls Try.prog 63 #[.int .i64 (d 3), .int .i64 (c k)] w fun e w' => e = .returned (.int .i64 p) ∧ Below w.heap.size w w') := refOfB_c _ _ p b3 ak hp
      have HQ : Hid (∀ w, Calls Try.prog 63 #[.int .i64 (c 3), .int .i64 (d k)] w fun e w' => e = .returned (.int .i64 q) ∧ Below w.heap.size w w') := refOfB_c _ _ q a3 bk hq
      have pb := ofI_in b3.1 b3.2 ak.1 ak.2
      have qb := ofI_in a3.1 a3.2 bk.1 bk.2
      rw [hp] at pb
      rw [hq] at qb
      rcases Int.lt_or_le q p with hlt2 | hlt2
      · have hpq : decide (p > q) = true := by simp; omega
        obtain ⟨nv, hnv⟩ : ∃ nv, blendN (c 3) (d 3) (c k) (d k) 3 = nv := ⟨_, rfl⟩
        obtain ⟨o3, ho3⟩ : ∃ o3, overC c d 3 = o3 := ⟨_, rfl⟩
        rw [ho3] at o3b
        have HV : Hid (blendC c d 3 k = min (max nv 0) o3) := by unfold Hid; rw [blend_lt (by decide) hlt, hnv, ho3]
        have HB : Hid (∀ A, Below wr.heap.size wr A → BlendM w c d (upto k (blendC c d 3) (overC c d)) w2.heap.size A) := fun A hA => hw.out.grow hA
        obtain ⟨y1, hy1⟩ : ∃ y, c k + d k = y := ⟨_, rfl⟩
        have hn : y1 - p = nv := by rw [← hnv]; unfold blendN; rw [if_neg (by decide), if_neg (by decide), hp, hq, hpq, if_pos (by decide), hy1]
        have e3 : wrap64 (c k + d k) = y1 := by rw [hy1]; exact wrapR _ (by omega) (by omega)
        have e4 : wrap64 (y1 - p) = nv := by rw [hn]; exact wrapR _ (by omega) (by omega)
        clear hp hq a3 b3 ak bk pb qb hnv hy1 hn
        go_wp2_with fail
        refine wp_region_quiet (C := Out wr) (by kernel_rfl) (by kernel_rfl) ⟨rfl, rfl, rfl, Nat.le_refl _, fun _ _ => rfl⟩ ?_
        refine BigFrame.wpQuiet_want rfl (fun K hK => ?_)
        refine quiet_val (.int .i64 (k : Int)) (fun w' hw' => by go_simp) (hK _ ?_)
        clear hK K
        simp only [Act.put, List.setIfInBounds_toArray, List.set_cons_zero, List.set_cons_succ]
        refine BigFrame.wpQuiet_want rfl (fun K hK => ?_)
        refine quiet_val (.pointer (some ⟨w.heap.size, k, none⟩)) (fun w' hw' => by go_simp) (hK _ ?_)
        clear hK K
        simp only [Act.put, List.setIfInBounds_toArray, List.set_cons_zero, List.set_cons_succ]
        refine BigFrame.wpQuiet_want rfl (fun K hK => ?_)
        refine quiet_val (.int .i64 (c k)) (fun w' hw' => by have cc := (HB.out w' hw').c.ck (k := k) (by omega); go_simp) (hK _ ?_)
        clear hK K
        simp only [Act.put, List.setIfInBounds_toArray, List.set_cons_zero, List.set_cons_succ]
        refine BigFrame.wpQuiet_want rfl (fun K hK => ?_)
        refine quiet_val (.int .i64 (k : Int)) (fun w' hw' => by go_simp) (hK _ ?_)
        clear hK K
        simp only [Act.put, List.setIfInBounds_toArray, List.set_cons_zero, List.set_cons_succ]
        refine BigFrame.wpQuiet_want rfl (fun K hK => ?_)
        refine quiet_val (.pointer (some ⟨w.heap.size + 1, k, none⟩)) (fun w' hw' => by go_simp) (hK _ ?_)
        clear hK K
        simp only [Act.put, List.setIfInBounds_toArray, List.set_cons_zero, List.set_cons_succ]
        refine BigFrame.wpQuiet_want rfl (fun K hK => ?_)
        refine quiet_val (.int .i64 (d k)) (fun w' hw' => by have cc := (HB.out w' hw').d.ck (k := k) (by omega); go_simp) (hK _ ?_)
        clear hK K
        simp only [Act.put, List.setIfInBounds_toArray, List.set_cons_zero, List.set_cons_succ]
        refine BigFrame.wpQuiet_want rfl (fun K hK => ?_)
        refine quiet_val (.int .i64 (c k)) (fun w' hw' => by go_simp) (hK _ ?_)
        clear hK K
        simp only [Act.put, List.setIfInBounds_toArray, List.set_cons_zero, List.set_cons_succ]
        refine BigFrame.wpQuiet_want rfl (fun K hK => ?_)
        refine quiet_val (.int .i64 (d k)) (fun w' hw' => by go_simp) (hK _ ?_)
        clear hK K
        simp only [Act.put, List.setIfInBounds_toArray, List.set_cons_zero, List.set_cons_succ]
        refine wpQuiet_nil ?_
        intro w4 hb4
        have HB4 : Hid (∀ A, Below w4.heap.size w4 A → BlendM w c d (upto k (blendC c d 3) (overC c d)) w2.heap.size A) := fun A hA => (HB.out w4 hb4).grow hA
        clear hb4 HB
        go_wp2_with fail
        refine wp_region_quiet (C := Out w4) (by kernel_rfl) (by kernel_rfl) ⟨rfl, rfl, rfl, Nat.le_refl _, fun _ _ => rfl⟩ ?_
        refine BigFrame.wpQuiet_want rfl (fun K hK => ?_)
        refine quiet_val (.pointer (some ⟨w.heap.size + 1, 3, none⟩)) (fun w' hw' => by go_simp) (hK _ ?_)
        clear hK K
        simp only [Act.put, List.setIfInBounds_toArray, List.set_cons_zero, List.set_cons_succ]
        refine BigFrame.wpQuiet_want rfl (fun K hK => ?_)
        refine quiet_val (.int .i64 (d 3)) (fun w' hw' => by have cc := (HB4.out w' hw').d.ck (k := 3) (by omega); go_simp) (hK _ ?_)
        clear hK K
        simp only [Act.put, List.setIfInBounds_toArray, List.set_cons_zero, List.set_cons_succ]
        refine BigFrame.wpQuiet_want rfl (fun K hK => ?_)
        refine quiet_val (.int .i64 (c k)) (fun w' hw' => by go_simp) (hK _ ?_)
        clear hK K
        simp only [Act.put, List.setIfInBounds_toArray, List.set_cons_zero, List.set_cons_succ]
        refine BigFrame.wpQuiet_want rfl (fun K hK => ?_)
        refine quiet_call 63 #[.int .i64 (d 3), .int .i64 (c k)] (.int .i64 p) (fun w' _ => by go_simp) (fun w' hw' => Calls.out hw' (HP.out w')) (hK _ ?_)
        clear hK K
        simp only [Act.put, List.setIfInBounds_toArray, List.set_cons_zero, List.set_cons_succ]
        refine BigFrame.wpQuiet_want rfl (fun K hK => ?_)
        refine quiet_val (.pointer (some ⟨w.heap.size, 3, none⟩)) (fun w' hw' => by go_simp) (hK _ ?_)
        clear hK K
        simp only [Act.put, List.setIfInBounds_toArray, List.set_cons_zero, List.set_cons_succ]
        refine BigFrame.wpQuiet_want rfl (fun K hK => ?_)
        refine quiet_val (.int .i64 (c 3)) (fun w' hw' => by have cc := (HB4.out w' hw').c.ck (k := 3) (by omega); go_simp) (hK _ ?_)
        clear hK K
        simp only [Act.put, List.setIfInBounds_toArray, List.set_cons_zero, List.set_cons_succ]
        refine BigFrame.wpQuiet_want rfl (fun K hK => ?_)
        refine quiet_val (.int .i64 (d k)) (fun w' hw' => by go_simp) (hK _ ?_)
        clear hK K
        simp only [Act.put, List.setIfInBounds_toArray, List.set_cons_zero, List.set_cons_succ]
        refine BigFrame.wpQuiet_want rfl (fun K hK => ?_)
        refine quiet_call 63 #[.int .i64 (c 3), .int .i64 (d k)] (.int .i64 q) (fun w' _ => by go_simp) (fun w' hw' => Calls.out hw' (HQ.out w')) (hK _ ?_)
        clear hK K
        simp only [Act.put, List.setIfInBounds_toArray, List.set_cons_zero, List.set_cons_succ]
        refine BigFrame.wpQuiet_want rfl (fun K hK => ?_)
        refine quiet_val (.int .i64 p) (fun w' hw' => by go_simp) (hK _ ?_)
        clear hK K
        simp only [Act.put, List.setIfInBounds_toArray, List.set_cons_zero, List.set_cons_succ]
        refine BigFrame.wpQuiet_want rfl (fun K hK => ?_)
        refine quiet_val (.int .i64 q) (fun w' hw' => by go_simp) (hK _ ?_)
        clear hK K
        simp only [Act.put, List.setIfInBounds_toArray, List.set_cons_zero, List.set_cons_succ]
        refine wpQuiet_nil ?_
        intro w5 hb5
        have HB5 : Hid (∀ A, Below w5.heap.size w5 A → BlendM w c d (upto k (blendC c d 3) (overC c d)) w2.heap.size A) := fun A hA => (HB4.out w5 hb5).grow hA
        clear hb5 HB4
        have M6 := Lib.hid (HB5.out w5 (Below.refl _ _))
        clear HB5
        have x3c : w5.cell? ⟨w2.heap.size, 3, none⟩ = some (.int .i64 o3) := (M6.out.x.ck (by decide)).trans (by rw [upto_ge _ _ (by omega), ho3])
        have xkc : w5.cell? ⟨w2.heap.size, k, none⟩ = some (.int .i64 (overC c d k)) := (M6.out.x.ck hk4).trans (by rw [upto_at])
        have xf := M6.out.x.free k
        have xl := M6.out.x.lt
        clear ho3
        rcases Int.lt_or_le nv 0 with hn | hn
        · have hv : blendC c d 3 k = 0 := by rw [HV.out]; omega
          have HV2 := Lib.hid hv
          have hn0 : decide (nv < 0) = true := by simp; omega
          have hn3 : decide (0 > o3) = false := by simp; omega
          clear hv hn o3b HV
          go_wp2_with fail
          exact ⟨⟨k + 1, by omega, by go_num, M6.out.put hk4 HV2.out⟩, by simp [intOf]; omega⟩
        · rcases Int.lt_or_le o3 nv with hn2 | hn2
          · have hv : blendC c d 3 k = o3 := by rw [HV.out]; omega
            have HV2 := Lib.hid hv
            have hn0 : decide (nv < 0) = false := by simp; omega
            have hn3 : decide (nv > o3) = true := by simp; omega
            clear hv hn hn2 o3b HV
            go_wp2_with fail
            exact ⟨⟨k + 1, by omega, by go_num, M6.out.put hk4 HV2.out⟩, by simp [intOf]; omega⟩
          · have hv : blendC c d 3 k = nv := by rw [HV.out]; omega
            have HV2 := Lib.hid hv
            have hn0 : decide (nv < 0) = false := by simp; omega
            have hn3 : decide (nv > o3) = false := by simp; omega
            clear hv hn hn2 o3b HV
            go_wp2_with fail
            exact ⟨⟨k + 1, by omega, by go_num, M6.out.put hk4 HV2.out⟩, by simp [intOf]; omega⟩
      · have hpq : decide (p > q) = false := by simp; omega
        obtain ⟨nv, hnv⟩ : ∃ nv, blendN (c 3) (d 3) (c k) (d k) 3 = nv := ⟨_, rfl⟩
        obtain ⟨o3, ho3⟩ : ∃ o3, overC c d 3 = o3 := ⟨_, rfl⟩
        rw [ho3] at o3b
        have HV : Hid (blendC c d 3 k = min (max nv 0) o3) := by unfold Hid; rw [blend_lt (by decide) hlt, hnv, ho3]
        have HB : Hid (∀ A, Below wr.heap.size wr A → BlendM w c d (upto k (blendC c d 3) (overC c d)) w2.heap.size A) := fun A hA => hw.out.grow hA
        obtain ⟨y1, hy1⟩ : ∃ y, c k + d k = y := ⟨_, rfl⟩
        have hn : y1 - q = nv := by rw [← hnv]; unfold blendN; rw [if_neg (by decide), if_neg (by decide), hp, hq, hpq, if_neg (by decide), hy1]
        have e3 : wrap64 (c k + d k) = y1 := by rw [hy1]; exact wrapR _ (by omega) (by omega)
        have e4 : wrap64 (y1 - q) = nv := by rw [hn]; exact wrapR _ (by omega) (by omega)
        clear hp hq a3 b3 ak bk pb qb hnv hy1 hn
        go_wp2_with fail
        refine wp_region_quiet (C := Out wr) (by kernel_rfl) (by kernel_rfl) ⟨rfl, rfl, rfl, Nat.le_refl _, fun _ _ => rfl⟩ ?_
        refine BigFrame.wpQuiet_want rfl (fun K hK => ?_)
        refine quiet_val (.int .i64 (k : Int)) (fun w' hw' => by go_simp) (hK _ ?_)
        clear hK K
        simp only [Act.put, List.setIfInBounds_toArray, List.set_cons_zero, List.set_cons_succ]
        refine BigFrame.wpQuiet_want rfl (fun K hK => ?_)
        refine quiet_val (.pointer (some ⟨w.heap.size, k, none⟩)) (fun w' hw' => by go_simp) (hK _ ?_)
        clear hK K
        simp only [Act.put, List.setIfInBounds_toArray, List.set_cons_zero, List.set_cons_succ]
        refine BigFrame.wpQuiet_want rfl (fun K hK => ?_)
        refine quiet_val (.int .i64 (c k)) (fun w' hw' => by have cc := (HB.out w' hw').c.ck (k := k) (by omega); go_simp) (hK _ ?_)
        clear hK K
        simp only [Act.put, List.setIfInBounds_toArray, List.set_cons_zero, List.set_cons_succ]
        refine BigFrame.wpQuiet_want rfl (fun K hK => ?_)
        refine quiet_val (.int .i64 (k : Int)) (fun w' hw' => by go_simp) (hK _ ?_)
        clear hK K
        simp only [Act.put, List.setIfInBounds_toArray, List.set_cons_zero, List.set_cons_succ]
        refine BigFrame.wpQuiet_want rfl (fun K hK => ?_)
        refine quiet_val (.pointer (some ⟨w.heap.size + 1, k, none⟩)) (fun w' hw' => by go_simp) (hK _ ?_)
        clear hK K
        simp only [Act.put, List.setIfInBounds_toArray, List.set_cons_zero, List.set_cons_succ]
        refine BigFrame.wpQuiet_want rfl (fun K hK => ?_)
        refine quiet_val (.int .i64 (d k)) (fun w' hw' => by have cc := (HB.out w' hw').d.ck (k := k) (by omega); go_simp) (hK _ ?_)
        clear hK K
        simp only [Act.put, List.setIfInBounds_toArray, List.set_cons_zero, List.set_cons_succ]
        refine BigFrame.wpQuiet_want rfl (fun K hK => ?_)
        refine quiet_val (.int .i64 (c k)) (fun w' hw' => by go_simp) (hK _ ?_)
        clear hK K
        simp only [Act.put, List.setIfInBounds_toArray, List.set_cons_zero, List.set_cons_succ]
        refine BigFrame.wpQuiet_want rfl (fun K hK => ?_)
        refine quiet_val (.int .i64 (d k)) (fun w' hw' => by go_simp) (hK _ ?_)
        clear hK K
        simp only [Act.put, List.setIfInBounds_toArray, List.set_cons_zero, List.set_cons_succ]
        refine wpQuiet_nil ?_
        intro w4 hb4
        have HB4 : Hid (∀ A, Below w4.heap.size w4 A → BlendM w c d (upto k (blendC c d 3) (overC c d)) w2.heap.size A) := fun A hA => (HB.out w4 hb4).grow hA
        clear hb4 HB
        go_wp2_with fail
        refine wp_region_quiet (C := Out w4) (by kernel_rfl) (by kernel_rfl) ⟨rfl, rfl, rfl, Nat.le_refl _, fun _ _ => rfl⟩ ?_
        refine BigFrame.wpQuiet_want rfl (fun K hK => ?_)
        refine quiet_val (.pointer (some ⟨w.heap.size + 1, 3, none⟩)) (fun w' hw' => by go_simp) (hK _ ?_)
        clear hK K
        simp only [Act.put, List.setIfInBounds_toArray, List.set_cons_zero, List.set_cons_succ]
        refine BigFrame.wpQuiet_want rfl (fun K hK => ?_)
        refine quiet_val (.int .i64 (d 3)) (fun w' hw' => by have cc := (HB4.out w' hw').d.ck (k := 3) (by omega); go_simp) (hK _ ?_)
        clear hK K
        simp only [Act.put, List.setIfInBounds_toArray, List.set_cons_zero, List.set_cons_succ]
        refine BigFrame.wpQuiet_want rfl (fun K hK => ?_)
        refine quiet_val (.int .i64 (c k)) (fun w' hw' => by go_simp) (hK _ ?_)
        clear hK K
        simp only [Act.put, List.setIfInBounds_toArray, List.set_cons_zero, List.set_cons_succ]
        refine BigFrame.wpQuiet_want rfl (fun K hK => ?_)
        refine quiet_call 63 #[.int .i64 (d 3), .int .i64 (c k)] (.int .i64 p) (fun w' _ => by go_simp) (fun w' hw' => Calls.out hw' (HP.out w')) (hK _ ?_)
        clear hK K
        simp only [Act.put, List.setIfInBounds_toArray, List.set_cons_zero, List.set_cons_succ]
        refine BigFrame.wpQuiet_want rfl (fun K hK => ?_)
        refine quiet_val (.pointer (some ⟨w.heap.size, 3, none⟩)) (fun w' hw' => by go_simp) (hK _ ?_)
        clear hK K
        simp only [Act.put, List.setIfInBounds_toArray, List.set_cons_zero, List.set_cons_succ]
        refine BigFrame.wpQuiet_want rfl (fun K hK => ?_)
        refine quiet_val (.int .i64 (c 3)) (fun w' hw' => by have cc := (HB4.out w' hw').c.ck (k := 3) (by omega); go_simp) (hK _ ?_)
        clear hK K
        simp only [Act.put, List.setIfInBounds_toArray, List.set_cons_zero, List.set_cons_succ]
        refine BigFrame.wpQuiet_want rfl (fun K hK => ?_)
        refine quiet_val (.int .i64 (d k)) (fun w' hw' => by go_simp) (hK _ ?_)
        clear hK K
        simp only [Act.put, List.setIfInBounds_toArray, List.set_cons_zero, List.set_cons_succ]
        refine BigFrame.wpQuiet_want rfl (fun K hK => ?_)
        refine quiet_call 63 #[.int .i64 (c 3), .int .i64 (d k)] (.int .i64 q) (fun w' _ => by go_simp) (fun w' hw' => Calls.out hw' (HQ.out w')) (hK _ ?_)
        clear hK K
        simp only [Act.put, List.setIfInBounds_toArray, List.set_cons_zero, List.set_cons_succ]
        refine BigFrame.wpQuiet_want rfl (fun K hK => ?_)
        refine quiet_val (.int .i64 p) (fun w' hw' => by go_simp) (hK _ ?_)
        clear hK K
        simp only [Act.put, List.setIfInBounds_toArray, List.set_cons_zero, List.set_cons_succ]
        refine BigFrame.wpQuiet_want rfl (fun K hK => ?_)
        refine quiet_val (.int .i64 q) (fun w' hw' => by go_simp) (hK _ ?_)
        clear hK K
        simp only [Act.put, List.setIfInBounds_toArray, List.set_cons_zero, List.set_cons_succ]
        refine wpQuiet_nil ?_
        intro w5 hb5
        have HB5 : Hid (∀ A, Below w5.heap.size w5 A → BlendM w c d (upto k (blendC c d 3) (overC c d)) w2.heap.size A) := fun A hA => (HB4.out w5 hb5).grow hA
        clear hb5 HB4
        have M6 := Lib.hid (HB5.out w5 (Below.refl _ _))
        clear HB5
        have x3c : w5.cell? ⟨w2.heap.size, 3, none⟩ = some (.int .i64 o3) := (M6.out.x.ck (by decide)).trans (by rw [upto_ge _ _ (by omega), ho3])
        have xkc : w5.cell? ⟨w2.heap.size, k, none⟩ = some (.int .i64 (overC c d k)) := (M6.out.x.ck hk4).trans (by rw [upto_at])
        have xf := M6.out.x.free k
        have xl := M6.out.x.lt
        clear ho3
        rcases Int.lt_or_le nv 0 with hn | hn
        · have hv : blendC c d 3 k = 0 := by rw [HV.out]; omega
          have HV2 := Lib.hid hv
          have hn0 : decide (nv < 0) = true := by simp; omega
          have hn3 : decide (0 > o3) = false := by simp; omega
          clear hv hn o3b HV
          go_wp2_with fail
          exact ⟨⟨k + 1, by omega, by go_num, M6.out.put hk4 HV2.out⟩, by simp [intOf]; omega⟩
        · rcases Int.lt_or_le o3 nv with hn2 | hn2
          · have hv : blendC c d 3 k = o3 := by rw [HV.out]; omega
            have HV2 := Lib.hid hv
            have hn0 : decide (nv < 0) = false := by simp; omega
            have hn3 : decide (nv > o3) = true := by simp; omega
            clear hv hn hn2 o3b HV
            go_wp2_with fail
            exact ⟨⟨k + 1, by omega, by go_num, M6.out.put hk4 HV2.out⟩, by simp [intOf]; omega⟩
          · have hv : blendC c d 3 k = nv := by rw [HV.out]; omega
            have HV2 := Lib.hid hv
            have hn0 : decide (nv < 0) = false := by simp; omega
            have hn3 : decide (nv > o3) = false := by simp; omega
            clear hv hn hn2 o3b HV
            go_wp2_with fail
            exact ⟨⟨k + 1, by omega, by go_num, M6.out.put hk4 HV2.out⟩, by simp [intOf]; omega⟩
    · have hd : decide ((k : Int) < 3) = false := by simp; omega
      obtain rfl : k = 3 := by omega
      have hb4 := hw.out.x
      rw [upto_three64 _ _ (blend_3 c d 3)] at hb4
      have HB4 := Lib.hid hb4
      obtain ⟨c0, c1, c2, c3⟩ := HB4.out.c0
      obtain ⟨z0, z1, z2, z3⟩ := hw.out.z.c0
      have f0 := hw.out.z.free 0
      have f1 := hw.out.z.free 1
      have f2 := hw.out.z.free 2
      have f3 := hw.out.z.free 3
      have lg := hw.out.z.lt
      clear hb4
      go_wp2_with fail
      exact bodyPost_ret (results_col (.inl rfl) 6 rfl rfl (hw.out.z.set4 fun i => .int .i64 (blendC c d 3 i))) rfl ⟨rfl, below_four4 hw.out.below (by omega) _ _ _ _⟩
set_option maxHeartbeats 4000000 in
set_option maxRecDepth 100000 in
theorem refBlend_4 (c d : Col) (hc : OkC c) (hd : OkC d) (w : World) : Calls Try.prog 43 #[.agg #[.int .i64 (c 0), .int .i64 (c 1), .int .i64 (c 2), .int .i64 (c 3)], .agg #[.int .i64 (d 0), .int .i64 (d 1), .int .i64 (d 2), .int .i64 (d 3)], .int .i64 4] w fun e w' => e = .returned (.agg #[.int .i64 (blendC c d 4 0), .int .i64 (blendC c d 4 1), .int .i64 (blendC c d 4 2), .int .i64 (blendC c d 4 3)]) ∧ Below w.heap.size w w' := by
  have HC := Lib.hid hc
  have HD := Lib.hid hd
  have HOV := Lib.hid (refOver_c c d hc hd)
  have HOK := Lib.hid (over_ok hc hd)
  clear hc hd
  go_enter Try.func43, Try.ntmps43
  go_wp2_with fail
  obtain ⟨w1, hw1⟩ : ∃ W, ((w.alloc (.cells #[.int .i64 (c 0), .int .i64 (c 1), .int .i64 (c 2), .int .i64 (c 3)] 43)).alloc (.cells #[.int .i64 (d 0), .int .i64 (d 1), .int .i64 (d 2), .int .i64 (d 3)] 43)).alloc (.cells #[.int .i64 0, .int .i64 0, .int .i64 0, .int .i64 0] 43) = W := ⟨_, rfl⟩
  have S1 : Hid (Below w.heap.size w w1 ∧ Blk w1 w.heap.size 43 (c64 c) ∧ Blk w1 (w.heap.size + 1) 43 (c64 d) ∧ Blk w1 (w.heap.size + 1 + 1) 43 (four fun _ => .int .i64 0) ∧ w.heap.size + 3 ≤ w1.heap.size) := by
    rw [← hw1]
    exact ⟨(((Below.refl _ _).alloc (Nat.le_refl _) _).alloc (by simp) _).alloc (by simp; omega) _, ((Blk.new _ _ _).alloc _).alloc _, (Blk.newAt _ _ _ (by simp)).alloc _, Blk.newAt _ _ _ (by simp), by simp⟩
  rw [hw1]
  clear hw1
  refine (HOV.out _).mono ?_
  rintro e w2 ⟨rfl, hb⟩
  have S2 : Hid (Below w.heap.size w w2 ∧ Blk w2 w.heap.size 43 (c64 c) ∧ Blk w2 (w.heap.size + 1) 43 (c64 d) ∧ Blk w2 (w.heap.size + 1 + 1) 43 (four fun _ => .int .i64 0) ∧ w.heap.size + 3 ≤ w2.heap.size) := ⟨S1.out.1.trans (hb.mono S1.out.1.size), S1.out.2.1.grow hb, S1.out.2.2.1.grow hb, S1.out.2.2.2.1.grow hb, Nat.le_trans S1.out.2.2.2.2 hb.size⟩
  clear hb S1
  go_wp2_with fail
  go_loopw [8] (fun i wr => ∃ k : Nat, k ≤ 3 ∧ i = .int .i64 (k : Int) ∧ Hid (BlendM w c d (upto k (blendC c d 4) (overC c d)) w2.heap.size wr)) (fun i _ => 3 - (intOf i).toNat)
  case atStart =>
    refine ⟨0, by omega, rfl, S2.out.1.alloc S2.out.1.size _, S2.out.2.1.alloc _, S2.out.2.2.1.alloc _, S2.out.2.2.2.1.alloc _, ?_, S2.out.2.2.2.2⟩
    rw [upto_none64]
    exact Blk.new _ _ _
  case round =>
    obtain ⟨k, hk, rfl, hw⟩ := hrel
    by_cases hlt : k < 3
    · have hd : decide ((k : Int) < 3) = true := by simp; omega
      have hki : (k : Int) < 4 := by omega
      have hk4 : k < 4 := by omega
      obtain ⟨p, hp⟩ : ∃ p, ofI (d 3) (c k) = p := ⟨_, rfl⟩
      obtain ⟨q, hq⟩ : ∃ q, ofI (c 3) (d k) = q := ⟨_, rfl⟩
      have a3 := HC.out 3 (by decide)
      have b3 := HD.out 3 (by decide)
      have ak := HC.out k hk4
      have bk := HD.out k hk4
      have o3b := HOK.out 3 (by decide)
      have HP : Hid (∀ w, Calls Try.prog 63 #[.int .i64 (d 3), .int .i64 (c k)] w fun e w' => e = .returned (.int .i64 p) ∧ Below w.heap.size w w') := refOfB_c _ _ p b3 ak hp
      have HQ : Hid (∀ w, Calls Try.prog 63 #[.int .i64 (c 3), .int .i64 (d k)] w fun e w' => e = .returned (.int .i64 q) ∧ Below w.heap.size w w') := refOfB_c _ _ q a3 bk hq
      have pb := ofI_in b3.1 b3.2 ak.1 ak.2
      have qb := ofI_in a3.1 a3.2 bk.1 bk.2
      rw [hp] at pb
      rw [hq] at qb
      rcases Int.lt_or_le q p with hlt2 | hlt2
      · have hpq : decide (p > q) = true := by simp; omega
        obtain ⟨nv, hnv⟩ : ∃ nv, blendN (c 3) (d 3) (c k) (d k) 4 = nv := ⟨_, rfl⟩
        obtain ⟨o3, ho3⟩ : ∃ o3, overC c d 3 = o3 := ⟨_, rfl⟩
        rw [ho3] at o3b
        have HV : Hid (blendC c d 4 k = min (max nv 0) o3) := by unfold Hid; rw [blend_lt (by decide) hlt, hnv, ho3]
        have HB : Hid (∀ A, Below wr.heap.size wr A → BlendM w c d (upto k (blendC c d 4) (overC c d)) w2.heap.size A) := fun A hA => hw.out.grow hA
        obtain ⟨y1, hy1⟩ : ∃ y, c k + d k = y := ⟨_, rfl⟩
        have hn : y1 - q = nv := by rw [← hnv]; unfold blendN; rw [if_neg (by decide), if_neg (by decide), hp, hq, hpq, if_neg (by decide), hy1]
        have e3 : wrap64 (c k + d k) = y1 := by rw [hy1]; exact wrapR _ (by omega) (by omega)
        have e4 : wrap64 (y1 - q) = nv := by rw [hn]; exact wrapR _ (by omega) (by omega)
        clear hp hq a3 b3 ak bk pb qb hnv hy1 hn
        go_wp2_with fail
        refine wp_region_quiet (C := Out wr) (by kernel_rfl) (by kernel_rfl) ⟨rfl, rfl, rfl, Nat.le_refl _, fun _ _ => rfl⟩ ?_
        refine BigFrame.wpQuiet_want rfl (fun K hK => ?_)
        refine quiet_val (.int .i64 (k : Int)) (fun w' hw' => by go_simp) (hK _ ?_)
        clear hK K
        simp only [Act.put, List.setIfInBounds_toArray, List.set_cons_zero, List.set_cons_succ]
        refine BigFrame.wpQuiet_want rfl (fun K hK => ?_)
        refine quiet_val (.pointer (some ⟨w.heap.size, k, none⟩)) (fun w' hw' => by go_simp) (hK _ ?_)
        clear hK K
        simp only [Act.put, List.setIfInBounds_toArray, List.set_cons_zero, List.set_cons_succ]
        refine BigFrame.wpQuiet_want rfl (fun K hK => ?_)
        refine quiet_val (.int .i64 (c k)) (fun w' hw' => by have cc := (HB.out w' hw').c.ck (k := k) (by omega); go_simp) (hK _ ?_)
        clear hK K
        simp only [Act.put, List.setIfInBounds_toArray, List.set_cons_zero, List.set_cons_succ]
        refine BigFrame.wpQuiet_want rfl (fun K hK => ?_)
        refine quiet_val (.int .i64 (k : Int)) (fun w' hw' => by go_simp) (hK _ ?_)
        clear hK K
        simp only [Act.put, List.setIfInBounds_toArray, List.set_cons_zero, List.set_cons_succ]
        refine BigFrame.wpQuiet_want rfl (fun K hK => ?_)
        refine quiet_val (.pointer (some ⟨w.heap.size + 1, k, none⟩)) (fun w' hw' => by go_simp) (hK _ ?_)
        clear hK K
        simp only [Act.put, List.setIfInBounds_toArray, List.set_cons_zero, List.set_cons_succ]
        refine BigFrame.wpQuiet_want rfl (fun K hK => ?_)
        refine quiet_val (.int .i64 (d k)) (fun w' hw' => by have cc := (HB.out w' hw').d.ck (k := k) (by omega); go_simp) (hK _ ?_)
        clear hK K
        simp only [Act.put, List.setIfInBounds_toArray, List.set_cons_zero, List.set_cons_succ]
        refine BigFrame.wpQuiet_want rfl (fun K hK => ?_)
        refine quiet_val (.int .i64 (c k)) (fun w' hw' => by go_simp) (hK _ ?_)
        clear hK K
        simp only [Act.put, List.setIfInBounds_toArray, List.set_cons_zero, List.set_cons_succ]
        refine BigFrame.wpQuiet_want rfl (fun K hK => ?_)
        refine quiet_val (.int .i64 (d k)) (fun w' hw' => by go_simp) (hK _ ?_)
        clear hK K
        simp only [Act.put, List.setIfInBounds_toArray, List.set_cons_zero, List.set_cons_succ]
        refine wpQuiet_nil ?_
        intro w4 hb4
        have HB4 : Hid (∀ A, Below w4.heap.size w4 A → BlendM w c d (upto k (blendC c d 4) (overC c d)) w2.heap.size A) := fun A hA => (HB.out w4 hb4).grow hA
        clear hb4 HB
        go_wp2_with fail
        refine wp_region_quiet (C := Out w4) (by kernel_rfl) (by kernel_rfl) ⟨rfl, rfl, rfl, Nat.le_refl _, fun _ _ => rfl⟩ ?_
        refine BigFrame.wpQuiet_want rfl (fun K hK => ?_)
        refine quiet_val (.pointer (some ⟨w.heap.size + 1, 3, none⟩)) (fun w' hw' => by go_simp) (hK _ ?_)
        clear hK K
        simp only [Act.put, List.setIfInBounds_toArray, List.set_cons_zero, List.set_cons_succ]
        refine BigFrame.wpQuiet_want rfl (fun K hK => ?_)
        refine quiet_val (.int .i64 (d 3)) (fun w' hw' => by have cc := (HB4.out w' hw').d.ck (k := 3) (by omega); go_simp) (hK _ ?_)
        clear hK K
        simp only [Act.put, List.setIfInBounds_toArray, List.set_cons_zero, List.set_cons_succ]
        refine BigFrame.wpQuiet_want rfl (fun K hK => ?_)
        refine quiet_val (.int .i64 (c k)) (fun w' hw' => by go_simp) (hK _ ?_)
        clear hK K
        simp only [Act.put, List.setIfInBounds_toArray, List.set_cons_zero, List.set_cons_succ]
        refine BigFrame.wpQuiet_want rfl (fun K hK => ?_)
        refine quiet_call 63 #[.int .i64 (d 3), .int .i64 (c k)] (.int .i64 p) (fun w' _ => by go_simp) (fun w' hw' => Calls.out hw' (HP.out w')) (hK _ ?_)
        clear hK K
        simp only [Act.put, List.setIfInBounds_toArray, List.set_cons_zero, List.set_cons_succ]
        refine BigFrame.wpQuiet_want rfl (fun K hK => ?_)
        refine quiet_val (.pointer (some ⟨w.heap.size, 3, none⟩)) (fun w' hw' => by go_simp) (hK _ ?_)
        clear hK K
        simp only [Act.put, List.setIfInBounds_toArray, List.set_cons_zero, List.set_cons_succ]
        refine BigFrame.wpQuiet_want rfl (fun K hK => ?_)
        refine quiet_val (.int .i64 (c 3)) (fun w' hw' => by have cc := (HB4.out w' hw').c.ck (k := 3) (by omega); go_simp) (hK _ ?_)
        clear hK K
        simp only [Act.put, List.setIfInBounds_toArray, List.set_cons_zero, List.set_cons_succ]
        refine BigFrame.wpQuiet_want rfl (fun K hK => ?_)
        refine quiet_val (.int .i64 (d k)) (fun w' hw' => by go_simp) (hK _ ?_)
        clear hK K
        simp only [Act.put, List.setIfInBounds_toArray, List.set_cons_zero, List.set_cons_succ]
        refine BigFrame.wpQuiet_want rfl (fun K hK => ?_)
        refine quiet_call 63 #[.int .i64 (c 3), .int .i64 (d k)] (.int .i64 q) (fun w' _ => by go_simp) (fun w' hw' => Calls.out hw' (HQ.out w')) (hK _ ?_)
        clear hK K
        simp only [Act.put, List.setIfInBounds_toArray, List.set_cons_zero, List.set_cons_succ]
        refine BigFrame.wpQuiet_want rfl (fun K hK => ?_)
        refine quiet_val (.int .i64 p) (fun w' hw' => by go_simp) (hK _ ?_)
        clear hK K
        simp only [Act.put, List.setIfInBounds_toArray, List.set_cons_zero, List.set_cons_succ]
        refine BigFrame.wpQuiet_want rfl (fun K hK => ?_)
        refine quiet_val (.int .i64 q) (fun w' hw' => by go_simp) (hK _ ?_)
        clear hK K
        simp only [Act.put, List.setIfInBounds_toArray, List.set_cons_zero, List.set_cons_succ]
        refine wpQuiet_nil ?_
        intro w5 hb5
        have HB5 : Hid (∀ A, Below w5.heap.size w5 A → BlendM w c d (upto k (blendC c d 4) (overC c d)) w2.heap.size A) := fun A hA => (HB4.out w5 hb5).grow hA
        clear hb5 HB4
        have M6 := Lib.hid (HB5.out w5 (Below.refl _ _))
        clear HB5
        have x3c : w5.cell? ⟨w2.heap.size, 3, none⟩ = some (.int .i64 o3) := (M6.out.x.ck (by decide)).trans (by rw [upto_ge _ _ (by omega), ho3])
        have xkc : w5.cell? ⟨w2.heap.size, k, none⟩ = some (.int .i64 (overC c d k)) := (M6.out.x.ck hk4).trans (by rw [upto_at])
        have xf := M6.out.x.free k
        have xl := M6.out.x.lt
        clear ho3
        rcases Int.lt_or_le nv 0 with hn | hn
        · have hv : blendC c d 4 k = 0 := by rw [HV.out]; omega
          have HV2 := Lib.hid hv
          have hn0 : decide (nv < 0) = true := by simp; omega
          have hn3 : decide (0 > o3) = false := by simp; omega
          clear hv hn o3b HV
          go_wp2_with fail
          exact ⟨⟨k + 1, by omega, by go_num, M6.out.put hk4 HV2.out⟩, by simp [intOf]; omega⟩
        · rcases Int.lt_or_le o3 nv with hn2 | hn2
          · have hv : blendC c d 4 k = o3 := by rw [HV.out]; omega
            have HV2 := Lib.hid hv
            have hn0 : decide (nv < 0) = false := by simp; omega
            have hn3 : decide (nv > o3) = true := by simp; omega
            clear hv hn hn2 o3b HV
            go_wp2_with fail
            exact ⟨⟨k + 1, by omega, by go_num, M6.out.put hk4 HV2.out⟩, by simp [intOf]; omega⟩
          · have hv : blendC c d 4 k = nv := by rw [HV.out]; omega
            have HV2 := Lib.hid hv
            have hn0 : decide (nv < 0) = false := by simp; omega
            have hn3 : decide (nv > o3) = false := by simp; omega
            clear hv hn hn2 o3b HV
            go_wp2_with fail
            exact ⟨⟨k + 1, by omega, by go_num, M6.out.put hk4 HV2.out⟩, by simp [intOf]; omega⟩
      · have hpq : decide (p > q) = false := by simp; omega
        obtain ⟨nv, hnv⟩ : ∃ nv, blendN (c 3) (d 3) (c k) (d k) 4 = nv := ⟨_, rfl⟩
        obtain ⟨o3, ho3⟩ : ∃ o3, overC c d 3 = o3 := ⟨_, rfl⟩
        rw [ho3] at o3b
        have HV : Hid (blendC c d 4 k = min (max nv 0) o3) := by unfold Hid; rw [blend_lt (by decide) hlt, hnv, ho3]
        have HB : Hid (∀ A, Below wr.heap.size wr A → BlendM w c d (upto k (blendC c d 4) (overC c d)) w2.heap.size A) := fun A hA => hw.out.grow hA
        obtain ⟨y1, hy1⟩ : ∃ y, c k + d k = y := ⟨_, rfl⟩
        have hn : y1 - p = nv := by rw [← hnv]; unfold blendN; rw [if_neg (by decide), if_neg (by decide), hp, hq, hpq, if_pos (by decide), hy1]
        have e3 : wrap64 (c k + d k) = y1 := by rw [hy1]; exact wrapR _ (by omega) (by omega)
        have e4 : wrap64 (y1 - p) = nv := by rw [hn]; exact wrapR _ (by omega) (by omega)
        clear hp hq a3 b3 ak bk pb qb hnv hy1 hn
        go_wp2_with fail
        refine wp_region_quiet (C := Out wr) (by kernel_rfl) (by kernel_rfl) ⟨rfl, rfl, rfl, Nat.le_refl _, fun _ _ => rfl⟩ ?_
        refine BigFrame.wpQuiet_want rfl (fun K hK => ?_)
        refine quiet_val (.int .i64 (k : Int)) (fun w' hw' => by go_simp) (hK _ ?_)
        clear hK K
        simp only [Act.put, List.setIfInBounds_toArray, List.set_cons_zero, List.set_cons_succ]
        refine BigFrame.wpQuiet_want rfl (fun K hK => ?_)
        refine quiet_val (.pointer (some ⟨w.heap.size, k, none⟩)) (fun w' hw' => by go_simp) (hK _ ?_)
        clear hK K
        simp only [Act.put, List.setIfInBounds_toArray, List.set_cons_zero, List.set_cons_succ]
        refine BigFrame.wpQuiet_want rfl (fun K hK => ?_)
        refine quiet_val (.int .i64 (c k)) (fun w' hw' => by have cc := (HB.out w' hw').c.ck (k := k) (by omega); go_simp) (hK _ ?_)
        clear hK K
        simp only [Act.put, List.setIfInBounds_toArray, List.set_cons_zero, List.set_cons_succ]
        refine BigFrame.wpQuiet_want rfl (fun K hK => ?_)
        refine quiet_val (.int .i64 (k : Int)) (fun w' hw' => by go_simp) (hK _ ?_)
        clear hK K
        simp only [Act.put, List.setIfInBounds_toArray, List.set_cons_zero, List.set_cons_succ]
        refine BigFrame.wpQuiet_want rfl (fun K hK => ?_)
        refine quiet_val (.pointer (some ⟨w.heap.size + 1, k, none⟩)) (fun w' hw' => by go_simp) (hK _ ?_)
        clear hK K
        simp only [Act.put, List.setIfInBounds_toArray, List.set_cons_zero, List.set_cons_succ]
        refine BigFrame.wpQuiet_want rfl (fun K hK => ?_)
        refine quiet_val (.int .i64 (d k)) (fun w' hw' => by have cc := (HB.out w' hw').d.ck (k := k) (by omega); go_simp) (hK _ ?_)
        clear hK K
        simp only [Act.put, List.setIfInBounds_toArray, List.set_cons_zero, List.set_cons_succ]
        refine BigFrame.wpQuiet_want rfl (fun K hK => ?_)
        refine quiet_val (.int .i64 (c k)) (fun w' hw' => by go_simp) (hK _ ?_)
        clear hK K
        simp only [Act.put, List.setIfInBounds_toArray, List.set_cons_zero, List.set_cons_succ]
        refine BigFrame.wpQuiet_want rfl (fun K hK => ?_)
        refine quiet_val (.int .i64 (d k)) (fun w' hw' => by go_simp) (hK _ ?_)
        clear hK K
        simp only [Act.put, List.setIfInBounds_toArray, List.set_cons_zero, List.set_cons_succ]
        refine wpQuiet_nil ?_
        intro w4 hb4
        have HB4 : Hid (∀ A, Below w4.heap.size w4 A → BlendM w c d (upto k (blendC c d 4) (overC c d)) w2.heap.size A) := fun A hA => (HB.out w4 hb4).grow hA
        clear hb4 HB
        go_wp2_with fail
        refine wp_region_quiet (C := Out w4) (by kernel_rfl) (by kernel_rfl) ⟨rfl, rfl, rfl, Nat.le_refl _, fun _ _ => rfl⟩ ?_
        refine BigFrame.wpQuiet_want rfl (fun K hK => ?_)
        refine quiet_val (.pointer (some ⟨w.heap.size + 1, 3, none⟩)) (fun w' hw' => by go_simp) (hK _ ?_)
        clear hK K
        simp only [Act.put, List.setIfInBounds_toArray, List.set_cons_zero, List.set_cons_succ]
        refine BigFrame.wpQuiet_want rfl (fun K hK => ?_)
        refine quiet_val (.int .i64 (d 3)) (fun w' hw' => by have cc := (HB4.out w' hw').d.ck (k := 3) (by omega); go_simp) (hK _ ?_)
        clear hK K
        simp only [Act.put, List.setIfInBounds_toArray, List.set_cons_zero, List.set_cons_succ]
        refine BigFrame.wpQuiet_want rfl (fun K hK => ?_)
        refine quiet_val (.int .i64 (c k)) (fun w' hw' => by go_simp) (hK _ ?_)
        clear hK K
        simp only [Act.put, List.setIfInBounds_toArray, List.set_cons_zero, List.set_cons_succ]
        refine BigFrame.wpQuiet_want rfl (fun K hK => ?_)
        refine quiet_call 63 #[.int .i64 (d 3), .int .i64 (c k)] (.int .i64 p) (fun w' _ => by go_simp) (fun w' hw' => Calls.out hw' (HP.out w')) (hK _ ?_)
        clear hK K
        simp only [Act.put, List.setIfInBounds_toArray, List.set_cons_zero, List.set_cons_succ]
        refine BigFrame.wpQuiet_want rfl (fun K hK => ?_)
        refine quiet_val (.pointer (some ⟨w.heap.size, 3, none⟩)) (fun w' hw' => by go_simp) (hK _ ?_)
        clear hK K
        simp only [Act.put, List.setIfInBounds_toArray, List.set_cons_zero, List.set_cons_succ]
        refine BigFrame.wpQuiet_want rfl (fun K hK => ?_)
        refine quiet_val (.int .i64 (c 3)) (fun w' hw' => by have cc := (HB4.out w' hw').c.ck (k := 3) (by omega); go_simp) (hK _ ?_)
        clear hK K
        simp only [Act.put, List.setIfInBounds_toArray, List.set_cons_zero, List.set_cons_succ]
        refine BigFrame.wpQuiet_want rfl (fun K hK => ?_)
        refine quiet_val (.int .i64 (d k)) (fun w' hw' => by go_simp) (hK _ ?_)
        clear hK K
        simp only [Act.put, List.setIfInBounds_toArray, List.set_cons_zero, List.set_cons_succ]
        refine BigFrame.wpQuiet_want rfl (fun K hK => ?_)
        refine quiet_call 63 #[.int .i64 (c 3), .int .i64 (d k)] (.int .i64 q) (fun w' _ => by go_simp) (fun w' hw' => Calls.out hw' (HQ.out w')) (hK _ ?_)
        clear hK K
        simp only [Act.put, List.setIfInBounds_toArray, List.set_cons_zero, List.set_cons_succ]
        refine BigFrame.wpQuiet_want rfl (fun K hK => ?_)
        refine quiet_val (.int .i64 p) (fun w' hw' => by go_simp) (hK _ ?_)
        clear hK K
        simp only [Act.put, List.setIfInBounds_toArray, List.set_cons_zero, List.set_cons_succ]
        refine BigFrame.wpQuiet_want rfl (fun K hK => ?_)
        refine quiet_val (.int .i64 q) (fun w' hw' => by go_simp) (hK _ ?_)
        clear hK K
        simp only [Act.put, List.setIfInBounds_toArray, List.set_cons_zero, List.set_cons_succ]
        refine wpQuiet_nil ?_
        intro w5 hb5
        have HB5 : Hid (∀ A, Below w5.heap.size w5 A → BlendM w c d (upto k (blendC c d 4) (overC c d)) w2.heap.size A) := fun A hA => (HB4.out w5 hb5).grow hA
        clear hb5 HB4
        have M6 := Lib.hid (HB5.out w5 (Below.refl _ _))
        clear HB5
        have x3c : w5.cell? ⟨w2.heap.size, 3, none⟩ = some (.int .i64 o3) := (M6.out.x.ck (by decide)).trans (by rw [upto_ge _ _ (by omega), ho3])
        have xkc : w5.cell? ⟨w2.heap.size, k, none⟩ = some (.int .i64 (overC c d k)) := (M6.out.x.ck hk4).trans (by rw [upto_at])
        have xf := M6.out.x.free k
        have xl := M6.out.x.lt
        clear ho3
        rcases Int.lt_or_le nv 0 with hn | hn
        · have hv : blendC c d 4 k = 0 := by rw [HV.out]; omega
          have HV2 := Lib.hid hv
          have hn0 : decide (nv < 0) = true := by simp; omega
          have hn3 : decide (0 > o3) = false := by simp; omega
          clear hv hn o3b HV
          go_wp2_with fail
          exact ⟨⟨k + 1, by omega, by go_num, M6.out.put hk4 HV2.out⟩, by simp [intOf]; omega⟩
        · rcases Int.lt_or_le o3 nv with hn2 | hn2
          · have hv : blendC c d 4 k = o3 := by rw [HV.out]; omega
            have HV2 := Lib.hid hv
            have hn0 : decide (nv < 0) = false := by simp; omega
            have hn3 : decide (nv > o3) = true := by simp; omega
            clear hv hn hn2 o3b HV
            go_wp2_with fail
            exact ⟨⟨k + 1, by omega, by go_num, M6.out.put hk4 HV2.out⟩, by simp [intOf]; omega⟩
          · have hv : blendC c d 4 k = nv := by rw [HV.out]; omega
            have HV2 := Lib.hid hv
            have hn0 : decide (nv < 0) = false := by simp; omega
            have hn3 : decide (nv > o3) = false := by simp; omega
            clear hv hn hn2 o3b HV
            go_wp2_with fail
            exact ⟨⟨k + 1, by omega, by go_num, M6.out.put hk4 HV2.out⟩, by simp [intOf]; omega⟩
    · have hd : decide ((k : Int) < 3) = false := by simp; omega
      obtain rfl : k = 3 := by omega
      have hb4 := hw.out.x
      rw [upto_three64 _ _ (blend_3 c d 4)] at hb4
      have HB4 := Lib.hid hb4
      obtain ⟨c0, c1, c2, c3⟩ := HB4.out.c0
      obtain ⟨z0, z1, z2, z3⟩ := hw.out.z.c0
      have f0 := hw.out.z.free 0
      have f1 := hw.out.z.free 1
      have f2 := hw.out.z.free 2
      have f3 := hw.out.z.free 3
      have lg := hw.out.z.lt
      clear hb4
      go_wp2_with fail
      exact bodyPost_ret (results_col (.inl rfl) 6 rfl rfl (hw.out.z.set4 fun i => .int .i64 (blendC c d 4 i))) rfl ⟨rfl, below_four4 hw.out.below (by omega) _ _ _ _⟩
theorem refBlend_c (c d : Col) (m : Int) (hc : OkC c) (hd : OkC d) (hm : 0 ≤ m ∧ m ≤ 4) (w : World) : Calls Try.prog 43 #[.agg #[.int .i64 (c 0), .int .i64 (c 1), .int .i64 (c 2), .int .i64 (c 3)], .agg #[.int .i64 (d 0), .int .i64 (d 1), .int .i64 (d 2), .int .i64 (d 3)], .int .i64 m] w fun e w' => e = .returned (.agg #[.int .i64 (blendC c d m 0), .int .i64 (blendC c d m 1), .int .i64 (blendC c d m 2), .int .i64 (blendC c d m 3)]) ∧ Below w.heap.size w w' := by
  have h : m = 0 ∨ m = 1 ∨ m = 2 ∨ m = 3 ∨ m = 4 := by omega
  rcases h with rfl | rfl | rfl | rfl | rfl
  · rw [blend_0]; exact refBlend_0 c d hc hd w
  · exact refBlend_1 c d hc hd w
  · exact refBlend_2 c d hc hd w
  · exact refBlend_3 c d hc hd w
  · exact refBlend_4 c d hc hd w
end Go.Proofs.Ytoppmlfibllhlaa

