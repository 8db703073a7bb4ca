/- Layer 10: the ways of blending, as functions. -/
import Derived.Test.YtoppmlfibllhlaaQc
import Derived.BigQuiet
namespace Go.Proofs.Ytoppmlfibllhlaa
open Go.RowKit
theorem pOfB_c (a b v : Int) (ha : byteI a) (hb : byteI b) (hv : ofI a b = v) (w : World) : Calls Try.prog 57 #[.int .i64 a, .int .i64 b] w fun e w' => e = .returned (.int .i64 v) ∧ Below w.heap.size w w' :=
  (pOfIn_c a b v ha hb hv w).mono fun _ _ ⟨h1, h2⟩ => ⟨h1, h2 ▸ Below.refl _ _⟩
theorem blend_n1 (A B s t : Int) : blendN A B s t 1 = ofI s t + ofI (255 - B) s + ofI (255 - A) t := by unfold blendN; rw [if_pos rfl]
theorem blend_n2 (A B s t : Int) : blendN A B s t 2 = s + t - ofI s t := by unfold blendN; rw [if_neg (by decide), if_pos rfl]
theorem blend_n3 (A B s t : Int) : blendN A B s t 3 = s + t - max (ofI B s) (ofI A t) := by
  unfold blendN
  rw [if_neg (by decide), if_neg (by decide)]
  generalize ofI B s = x
  generalize ofI A t = y
  by_cases h : x > y
  · rw [if_pos (by simp [h])]; omega
  · rw [if_neg (by simp [h])]; omega
theorem blend_n4 (A B s t : Int) : blendN A B s t 4 = s + t - min (ofI B s) (ofI A t) := by
  unfold blendN
  rw [if_neg (by decide), if_neg (by decide)]
  generalize ofI B s = x
  generalize ofI A t = y
  by_cases h : x > y
  · rw [if_neg (by simp [h])]; omega
  · rw [if_pos (by simp [h])]; omega
theorem blend_in {A B s t : Int} (hA : byteI A) (hB : byteI B) (hs : byteI s) (ht : byteI t) (m : Int) : -1000 ≤ blendN A B s t m ∧ blendN A B s t m ≤ 1000 := by
  have h1 := ofI_in hs.1 hs.2 ht.1 ht.2
  have h2 := ofI_in (a := 255 - B) (b := s) (by have := hB.2; omega) (by have := hB.1; omega) hs.1 hs.2
  have h3 := ofI_in (a := 255 - A) (b := t) (by have := hA.2; omega) (by have := hA.1; omega) ht.1 ht.2
  have h4 := ofI_in hB.1 hB.2 hs.1 hs.2
  have h5 := ofI_in hA.1 hA.2 ht.1 ht.2
  obtain ⟨hs0, hs1⟩ := hs
  obtain ⟨ht0, ht1⟩ := ht
  unfold blendN
  split
  · omega
  · split
    · omega
    · split <;> omega
set_option maxHeartbeats 2000000 in
set_option maxRecDepth 100000 in
theorem way1_c (A B s t : Int) (ga gb : Nat) (w : World) (hA : byteI A) (hB : byteI B) (hs : byteI s) (ht : byteI t) (KA : Blk w ga 3 #[.int .i64 A]) (KB : Blk w gb 3 #[.int .i64 B]) : Calls Try.prog 70 #[.int .i64 s, .int .i64 t, .pointer (some ⟨gb, 0, none⟩), .pointer (some ⟨ga, 0, none⟩)] w fun e w' => e = .returned (.int .i64 (blendN A B s t 1)) ∧ Below w.heap.size w w' := by
  have HI := Lib.hid (blend_in hA hB hs ht 1)
  obtain ⟨v, hv⟩ : ∃ v, blendN A B s t 1 = v := ⟨_, rfl⟩
  rw [hv] at HI ⊢
  have HV := Lib.hid ((blend_n1 A B s t).symm.trans hv)
  obtain ⟨hs0, hs1⟩ := hs
  obtain ⟨ht0, ht1⟩ := ht
  obtain ⟨hA0, hA1⟩ := hA
  obtain ⟨hB0, hB1⟩ := hB
  obtain ⟨x, hx⟩ : ∃ x, ofI s t = x := ⟨_, rfl⟩
  obtain ⟨y, hy⟩ : ∃ y, ofI (255 - B) s = y := ⟨_, rfl⟩
  obtain ⟨z, hz⟩ : ∃ z, ofI (255 - A) t = z := ⟨_, rfl⟩
  obtain ⟨p, hp⟩ : ∃ p, 255 - B = p := ⟨_, rfl⟩
  obtain ⟨q, hq⟩ : ∃ q, 255 - A = q := ⟨_, rfl⟩
  have i1 := ofI_in hs0 hs1 ht0 ht1
  have i2 := ofI_in (a := 255 - B) (b := s) (by omega) (by omega) hs0 hs1
  have i3 := ofI_in (a := 255 - A) (b := t) (by omega) (by omega) ht0 ht1
  rw [hx] at i1
  rw [hy] at i2
  rw [hz] at i3
  rw [hp] at hy
  rw [hq] at hz
  have H1 := Lib.hid (pOfB_c s t x ⟨hs0, hs1⟩ ⟨ht0, ht1⟩ hx)
  have H2 := Lib.hid (pOfB_c p s y ⟨by omega, by omega⟩ ⟨hs0, hs1⟩ hy)
  have H3 := Lib.hid (pOfB_c q t z ⟨by omega, by omega⟩ ⟨ht0, ht1⟩ hz)
  have HE : Hid (x + y + z = v) := by
    rw [← HV.out, hx, hp, hq, hy, hz]; rfl
  obtain ⟨r, hr⟩ : ∃ r, x + y = r := ⟨_, rfl⟩
  have e1 : IntKind.i64.wrap (255 - B) = p := by rw [wrap_is, hp]; exact wrapR _ (by omega) (by omega)
  have e2 : IntKind.i64.wrap (255 - A) = q := by rw [wrap_is, hq]; exact wrapR _ (by omega) (by omega)
  have e3 : IntKind.i64.wrap (x + y) = r := by rw [wrap_is, hr]; exact wrapR _ (by omega) (by omega)
  have e4 : IntKind.i64.wrap (r + z) = v := by rw [wrap_is, ← hr, HE.out]; exact wrapR _ (by have := HI.out.1; omega) (by have := HI.out.2; omega)
  clear hs0 hs1 ht0 ht1 hA0 hA1 hB0 hB1 i1 i2 i3 hx hy hz hp hq hr HE HV HI hv
  have HB : Hid (∀ W, Below w.heap.size w W → W.cell? ⟨ga, 0, none⟩ = some (.int .i64 A) ∧ W.cell? ⟨gb, 0, none⟩ = some (.int .i64 B)) := fun W hW => ⟨(KA.grow hW).cell 0, (KB.grow hW).cell 0⟩
  clear KA KB
  go_enter Try.func70, Try.ntmps70
  go_wp2_with fail
  refine wp_region_quiet (C := Out w) (by kernel_rfl) (by kernel_rfl) ⟨rfl, rfl, rfl, Nat.le_refl _, fun _ _ => rfl⟩ ?_
  refine BigFrame.wpQuiet_want rfl (fun K hK => ?_)
  refine quiet_val (.int .i64 s) (fun w' hw' => by go_simp) (hK _ ?_)
  clear hK K
  simp only [Act.put, List.setIfInBounds_toArray, List.set_cons_zero, List.set_cons_succ]
  refine BigFrame.wpQuiet_want rfl (fun K hK => ?_)
  refine quiet_val (.int .i64 t) (fun w' hw' => by go_simp) (hK _ ?_)
  clear hK K
  simp only [Act.put, List.setIfInBounds_toArray, List.set_cons_zero, List.set_cons_succ]
  refine BigFrame.wpQuiet_want rfl (fun K hK => ?_)
  refine quiet_call 57 #[.int .i64 s, .int .i64 t] (.int .i64 x) (fun w' _ => by go_simp) (fun w' hw' => Calls.out hw' (H1.out w')) (hK _ ?_)
  clear hK K
  simp only [Act.put, List.setIfInBounds_toArray, List.set_cons_zero, List.set_cons_succ]
  refine BigFrame.wpQuiet_want rfl (fun K hK => ?_)
  refine quiet_val (.int .i64 B) (fun w' hw' => by have cc := (HB.out w' hw').2; go_simp) (hK _ ?_)
  clear hK K
  simp only [Act.put, List.setIfInBounds_toArray, List.set_cons_zero, List.set_cons_succ]
  refine BigFrame.wpQuiet_want rfl (fun K hK => ?_)
  refine quiet_val (.int .i64 p) (fun w' hw' => by go_simp) (hK _ ?_)
  clear hK K
  simp only [Act.put, List.setIfInBounds_toArray, List.set_cons_zero, List.set_cons_succ]
  refine BigFrame.wpQuiet_want rfl (fun K hK => ?_)
  refine quiet_val (.int .i64 s) (fun w' hw' => by go_simp) (hK _ ?_)
  clear hK K
  simp only [Act.put, List.setIfInBounds_toArray, List.set_cons_zero, List.set_cons_succ]
  refine BigFrame.wpQuiet_want rfl (fun K hK => ?_)
  refine quiet_call 57 #[.int .i64 p, .int .i64 s] (.int .i64 y) (fun w' _ => by go_simp) (fun w' hw' => Calls.out hw' (H2.out w')) (hK _ ?_)
  clear hK K
  simp only [Act.put, List.setIfInBounds_toArray, List.set_cons_zero, List.set_cons_succ]
  refine BigFrame.wpQuiet_want rfl (fun K hK => ?_)
  refine quiet_val (.int .i64 r) (fun w' hw' => by go_simp) (hK _ ?_)
  clear hK K
  simp only [Act.put, List.setIfInBounds_toArray, List.set_cons_zero, List.set_cons_succ]
  refine BigFrame.wpQuiet_want rfl (fun K hK => ?_)
  refine quiet_val (.int .i64 A) (fun w' hw' => by have cc := (HB.out w' hw').1; go_simp) (hK _ ?_)
  clear hK K
  simp only [Act.put, List.setIfInBounds_toArray, List.set_cons_zero, List.set_cons_succ]
  refine BigFrame.wpQuiet_want rfl (fun K hK => ?_)
  refine quiet_val (.int .i64 q) (fun w' hw' => by go_simp) (hK _ ?_)
  clear hK K
  simp only [Act.put, List.setIfInBounds_toArray, List.set_cons_zero, List.set_cons_succ]
  refine BigFrame.wpQuiet_want rfl (fun K hK => ?_)
  refine quiet_val (.int .i64 t) (fun w' hw' => by go_simp) (hK _ ?_)
  clear hK K
  simp only [Act.put, List.setIfInBounds_toArray, List.set_cons_zero, List.set_cons_succ]
  refine BigFrame.wpQuiet_want rfl (fun K hK => ?_)
  refine quiet_call 57 #[.int .i64 q, .int .i64 t] (.int .i64 z) (fun w' _ => by go_simp) (fun w' hw' => Calls.out hw' (H3.out w')) (hK _ ?_)
  clear hK K
  simp only [Act.put, List.setIfInBounds_toArray, List.set_cons_zero, List.set_cons_succ]
  refine BigFrame.wpQuiet_want rfl (fun K hK => ?_)
  refine quiet_val (.int .i64 v) (fun w' hw' => by go_simp) (hK _ ?_)
  clear hK K
  simp only [Act.put, List.setIfInBounds_toArray, List.set_cons_zero, List.set_cons_succ]
  refine BigFrame.wpQuiet_want rfl (fun K hK => ?_)
  refine quiet_val (.int .i64 v) (fun w' hw' => by go_simp) (hK _ ?_)
  clear hK K
  simp only [Act.put, List.setIfInBounds_toArray, List.set_cons_zero, List.set_cons_succ]
  refine wpQuiet_nil ?_
  intro w1 hb
  have BW := Lib.hid hb
  clear hb
  go_wp2_with fail
  go_ret
  exact ⟨rfl, BW.out⟩
set_option maxHeartbeats 2000000 in
set_option maxRecDepth 100000 in
theorem way2_c (A B s t : Int) (ga gb : Nat) (w : World) (hA : byteI A) (hB : byteI B) (hs : byteI s) (ht : byteI t) (_ : Blk w ga 3 #[.int .i64 A]) (_ : Blk w gb 3 #[.int .i64 B]) : Calls Try.prog 71 #[.int .i64 s, .int .i64 t] w fun e w' => e = .returned (.int .i64 (blendN A B s t 2)) ∧ Below w.heap.size w w' := by
  have HI := Lib.hid (blend_in hA hB hs ht 2)
  obtain ⟨v, hv⟩ : ∃ v, blendN A B s t 2 = v := ⟨_, rfl⟩
  rw [hv] at HI ⊢
  have HV := Lib.hid ((blend_n2 A B s t).symm.trans hv)
  have i1 := ofI_in hs.1 hs.2 ht.1 ht.2
  obtain ⟨x, hx⟩ : ∃ x, ofI s t = x := ⟨_, rfl⟩
  have HO := Lib.hid (pOfB_c s t x hs ht hx)
  have hs0 := hs.1
  have hs1 := hs.2
  have ht0 := ht.1
  have ht1 := ht.2
  rw [hx] at i1
  obtain ⟨r, hr⟩ : ∃ r, s + t = r := ⟨_, rfl⟩
  have HE : Hid (r - x = v) := by
    rw [← HV.out, hx, hr]; rfl
  have e1 : wrap64 (s + t) = r := by rw [hr]; exact wrapR _ (by omega) (by omega)
  have e2 : wrap64 (r - x) = v := by rw [HE.out]; exact wrapR _ (by have := HI.out.1; omega) (by have := HI.out.2; omega)
  clear hs ht hA hB hs0 hs1 ht0 ht1 i1 hx hr HE HV HI hv
  go_enter Try.func71, Try.ntmps71
  go_wp2_with fail
  refine (HO.out _).mono ?_
  rintro e w1 ⟨rfl, hb⟩
  have BW := Lib.hid hb
  clear hb
  go_wp2_with fail
  go_ret
  exact ⟨by show Ending.returned (.int .i64 (wrap64 (r - x))) = _; rw [e2], BW.out⟩
set_option maxHeartbeats 2000000 in
set_option maxRecDepth 100000 in
theorem way3_c (A B s t : Int) (ga gb : Nat) (w : World) (hA : byteI A) (hB : byteI B) (hs : byteI s) (ht : byteI t) (KA : Blk w ga 3 #[.int .i64 A]) (KB : Blk w gb 3 #[.int .i64 B]) : Calls Try.prog 72 #[.int .i64 s, .int .i64 t, .pointer (some ⟨gb, 0, none⟩), .pointer (some ⟨ga, 0, none⟩)] w fun e w' => e = .returned (.int .i64 (blendN A B s t 3)) ∧ Below w.heap.size w w' := by
  have HI := Lib.hid (blend_in hA hB hs ht 3)
  obtain ⟨v, hv⟩ : ∃ v, blendN A B s t 3 = v := ⟨_, rfl⟩
  rw [hv] at HI ⊢
  have HV := Lib.hid ((blend_n3 A B s t).symm.trans hv)
  have i1 := ofI_in hB.1 hB.2 hs.1 hs.2
  have i2 := ofI_in hA.1 hA.2 ht.1 ht.2
  obtain ⟨x, hx⟩ : ∃ x, ofI B s = x := ⟨_, rfl⟩
  obtain ⟨y, hy⟩ : ∃ y, ofI A t = y := ⟨_, rfl⟩
  have H1 := Lib.hid (pOfB_c B s x hB hs hx)
  have H2 := Lib.hid (pOfB_c A t y hA ht hy)
  have hs0 := hs.1
  have hs1 := hs.2
  have ht0 := ht.1
  have ht1 := ht.2
  rw [hx] at i1
  rw [hy] at i2
  obtain ⟨r, hr⟩ : ∃ r, s + t = r := ⟨_, rfl⟩
  have HE : Hid (r - max x y = v) := by
    rw [← HV.out, hx, hy, hr]; rfl
  have e1 : IntKind.i64.wrap (s + t) = r := by rw [wrap_is, hr]; exact wrapR _ (by omega) (by omega)
  have e2 : IntKind.i64.wrap (r - max x y) = v := by rw [wrap_is, HE.out]; exact wrapR _ (by have := HI.out.1; omega) (by have := HI.out.2; omega)
  clear hs ht hA hB hs0 hs1 ht0 ht1 i1 i2 hx hy hr HE HV HI hv
  have HB : Hid (∀ W, Below w.heap.size w W → W.cell? ⟨ga, 0, none⟩ = some (.int .i64 A) ∧ W.cell? ⟨gb, 0, none⟩ = some (.int .i64 B)) := fun W hW => ⟨(KA.grow hW).cell 0, (KB.grow hW).cell 0⟩
  clear KA KB
  go_enter Try.func72, Try.ntmps72
  go_wp2_with fail
  refine wp_region_quiet (C := Out w) (by kernel_rfl) (by kernel_rfl) ⟨rfl, rfl, rfl, Nat.le_refl _, fun _ _ => rfl⟩ ?_
  refine BigFrame.wpQuiet_want rfl (fun K hK => ?_)
  refine quiet_val (.int .i64 s) (fun w' hw' => by go_simp) (hK _ ?_)
  clear hK K
  simp only [Act.put, List.setIfInBounds_toArray, List.set_cons_zero, List.set_cons_succ]
  refine BigFrame.wpQuiet_want rfl (fun K hK => ?_)
  refine quiet_val (.int .i64 t) (fun w' hw' => by go_simp) (hK _ ?_)
  clear hK K
  simp only [Act.put, List.setIfInBounds_toArray, List.set_cons_zero, List.set_cons_succ]
  refine BigFrame.wpQuiet_want rfl (fun K hK => ?_)
  refine quiet_val (.int .i64 r) (fun w' hw' => by go_simp) (hK _ ?_)
  clear hK K
  simp only [Act.put, List.setIfInBounds_toArray, List.set_cons_zero, List.set_cons_succ]
  refine BigFrame.wpQuiet_want rfl (fun K hK => ?_)
  refine quiet_val (.int .i64 B) (fun w' hw' => by have cc := (HB.out w' hw').2; go_simp) (hK _ ?_)
  clear hK K
  simp only [Act.put, List.setIfInBounds_toArray, List.set_cons_zero, List.set_cons_succ]
  refine BigFrame.wpQuiet_want rfl (fun K hK => ?_)
  refine quiet_val (.int .i64 s) (fun w' hw' => by go_simp) (hK _ ?_)
  clear hK K
  simp only [Act.put, List.setIfInBounds_toArray, List.set_cons_zero, List.set_cons_succ]
  refine BigFrame.wpQuiet_want rfl (fun K hK => ?_)
  refine quiet_call 57 #[.int .i64 B, .int .i64 s] (.int .i64 x) (fun w' _ => by go_simp) (fun w' hw' => Calls.out hw' (H1.out w')) (hK _ ?_)
  clear hK K
  simp only [Act.put, List.setIfInBounds_toArray, List.set_cons_zero, List.set_cons_succ]
  refine BigFrame.wpQuiet_want rfl (fun K hK => ?_)
  refine quiet_val (.int .i64 A) (fun w' hw' => by have cc := (HB.out w' hw').1; go_simp) (hK _ ?_)
  clear hK K
  simp only [Act.put, List.setIfInBounds_toArray, List.set_cons_zero, List.set_cons_succ]
  refine BigFrame.wpQuiet_want rfl (fun K hK => ?_)
  refine quiet_val (.int .i64 t) (fun w' hw' => by go_simp) (hK _ ?_)
  clear hK K
  simp only [Act.put, List.setIfInBounds_toArray, List.set_cons_zero, List.set_cons_succ]
  refine BigFrame.wpQuiet_want rfl (fun K hK => ?_)
  refine quiet_call 57 #[.int .i64 A, .int .i64 t] (.int .i64 y) (fun w' _ => by go_simp) (fun w' hw' => Calls.out hw' (H2.out w')) (hK _ ?_)
  clear hK K
  simp only [Act.put, List.setIfInBounds_toArray, List.set_cons_zero, List.set_cons_succ]
  refine BigFrame.wpQuiet_want rfl (fun K hK => ?_)
  refine quiet_val (.int .i64 (max x y)) (fun w' hw' => by go_simp) (hK _ ?_)
  clear hK K
  simp only [Act.put, List.setIfInBounds_toArray, List.set_cons_zero, List.set_cons_succ]
  refine BigFrame.wpQuiet_want rfl (fun K hK => ?_)
  refine quiet_val (.int .i64 v) (fun w' hw' => by go_simp) (hK _ ?_)
  clear hK K
  simp only [Act.put, List.setIfInBounds_toArray, List.set_cons_zero, List.set_cons_succ]
  refine BigFrame.wpQuiet_want rfl (fun K hK => ?_)
  refine quiet_val (.int .i64 v) (fun w' hw' => by go_simp) (hK _ ?_)
  clear hK K
  simp only [Act.put, List.setIfInBounds_toArray, List.set_cons_zero, List.set_cons_succ]
  refine wpQuiet_nil ?_
  intro w1 hb
  have BW := Lib.hid hb
  clear hb
  go_wp2_with fail
  go_ret
  exact ⟨rfl, BW.out⟩
set_option maxHeartbeats 2000000 in
set_option maxRecDepth 100000 in
theorem way4_c (A B s t : Int) (ga gb : Nat) (w : World) (hA : byteI A) (hB : byteI B) (hs : byteI s) (ht : byteI t) (KA : Blk w ga 3 #[.int .i64 A]) (KB : Blk w gb 3 #[.int .i64 B]) : Calls Try.prog 73 #[.int .i64 s, .int .i64 t, .pointer (some ⟨gb, 0, none⟩), .pointer (some ⟨ga, 0, none⟩)] w fun e w' => e = .returned (.int .i64 (blendN A B s t 4)) ∧ Below w.heap.size w w' := by
  have HI := Lib.hid (blend_in hA hB hs ht 4)
  obtain ⟨v, hv⟩ : ∃ v, blendN A B s t 4 = v := ⟨_, rfl⟩
  rw [hv] at HI ⊢
  have HV := Lib.hid ((blend_n4 A B s t).symm.trans hv)
  have i1 := ofI_in hB.1 hB.2 hs.1 hs.2
  have i2 := ofI_in hA.1 hA.2 ht.1 ht.2
  obtain ⟨x, hx⟩ : ∃ x, ofI B s = x := ⟨_, rfl⟩
  obtain ⟨y, hy⟩ : ∃ y, ofI A t = y := ⟨_, rfl⟩
  have H1 := Lib.hid (pOfB_c B s x hB hs hx)
  have H2 := Lib.hid (pOfB_c A t y hA ht hy)
  have hs0 := hs.1
  have hs1 := hs.2
  have ht0 := ht.1
  have ht1 := ht.2
  rw [hx] at i1
  rw [hy] at i2
  obtain ⟨r, hr⟩ : ∃ r, s + t = r := ⟨_, rfl⟩
  have HE : Hid (r - min x y = v) := by
    rw [← HV.out, hx, hy, hr]; rfl
  have e1 : IntKind.i64.wrap (s + t) = r := by rw [wrap_is, hr]; exact wrapR _ (by omega) (by omega)
  have e2 : IntKind.i64.wrap (r - min x y) = v := by rw [wrap_is, HE.out]; exact wrapR _ (by have := HI.out.1; omega) (by have := HI.out.2; omega)
  clear hs ht hA hB hs0 hs1 ht0 ht1 i1 i2 hx hy hr HE HV HI hv
  have HB : Hid (∀ W, Below w.heap.size w W → W.cell? ⟨ga, 0, none⟩ = some (.int .i64 A) ∧ W.cell? ⟨gb, 0, none⟩ = some (.int .i64 B)) := fun W hW => ⟨(KA.grow hW).cell 0, (KB.grow hW).cell 0⟩
  clear KA KB
  go_enter Try.func73, Try.ntmps73
  go_wp2_with fail
  refine wp_region_quiet (C := Out w) (by kernel_rfl) (by kernel_rfl) ⟨rfl, rfl, rfl, Nat.le_refl _, fun _ _ => rfl⟩ ?_
  refine BigFrame.wpQuiet_want rfl (fun K hK => ?_)
  refine quiet_val (.int .i64 s) (fun w' hw' => by go_simp) (hK _ ?_)
  clear hK K
  simp only [Act.put, List.setIfInBounds_toArray, List.set_cons_zero, List.set_cons_succ]
  refine BigFrame.wpQuiet_want rfl (fun K hK => ?_)
  refine quiet_val (.int .i64 t) (fun w' hw' => by go_simp) (hK _ ?_)
  clear hK K
  simp only [Act.put, List.setIfInBounds_toArray, List.set_cons_zero, List.set_cons_succ]
  refine BigFrame.wpQuiet_want rfl (fun K hK => ?_)
  refine quiet_val (.int .i64 r) (fun w' hw' => by go_simp) (hK _ ?_)
  clear hK K
  simp only [Act.put, List.setIfInBounds_toArray, List.set_cons_zero, List.set_cons_succ]
  refine BigFrame.wpQuiet_want rfl (fun K hK => ?_)
  refine quiet_val (.int .i64 B) (fun w' hw' => by have cc := (HB.out w' hw').2; go_simp) (hK _ ?_)
  clear hK K
  simp only [Act.put, List.setIfInBounds_toArray, List.set_cons_zero, List.set_cons_succ]
  refine BigFrame.wpQuiet_want rfl (fun K hK => ?_)
  refine quiet_val (.int .i64 s) (fun w' hw' => by go_simp) (hK _ ?_)
  clear hK K
  simp only [Act.put, List.setIfInBounds_toArray, List.set_cons_zero, List.set_cons_succ]
  refine BigFrame.wpQuiet_want rfl (fun K hK => ?_)
  refine quiet_call 57 #[.int .i64 B, .int .i64 s] (.int .i64 x) (fun w' _ => by go_simp) (fun w' hw' => Calls.out hw' (H1.out w')) (hK _ ?_)
  clear hK K
  simp only [Act.put, List.setIfInBounds_toArray, List.set_cons_zero, List.set_cons_succ]
  refine BigFrame.wpQuiet_want rfl (fun K hK => ?_)
  refine quiet_val (.int .i64 A) (fun w' hw' => by have cc := (HB.out w' hw').1; go_simp) (hK _ ?_)
  clear hK K
  simp only [Act.put, List.setIfInBounds_toArray, List.set_cons_zero, List.set_cons_succ]
  refine BigFrame.wpQuiet_want rfl (fun K hK => ?_)
  refine quiet_val (.int .i64 t) (fun w' hw' => by go_simp) (hK _ ?_)
  clear hK K
  simp only [Act.put, List.setIfInBounds_toArray, List.set_cons_zero, List.set_cons_succ]
  refine BigFrame.wpQuiet_want rfl (fun K hK => ?_)
  refine quiet_call 57 #[.int .i64 A, .int .i64 t] (.int .i64 y) (fun w' _ => by go_simp) (fun w' hw' => Calls.out hw' (H2.out w')) (hK _ ?_)
  clear hK K
  simp only [Act.put, List.setIfInBounds_toArray, List.set_cons_zero, List.set_cons_succ]
  refine BigFrame.wpQuiet_want rfl (fun K hK => ?_)
  refine quiet_val (.int .i64 (min x y)) (fun w' hw' => by go_simp) (hK _ ?_)
  clear hK K
  simp only [Act.put, List.setIfInBounds_toArray, List.set_cons_zero, List.set_cons_succ]
  refine BigFrame.wpQuiet_want rfl (fun K hK => ?_)
  refine quiet_val (.int .i64 v) (fun w' hw' => by go_simp) (hK _ ?_)
  clear hK K
  simp only [Act.put, List.setIfInBounds_toArray, List.set_cons_zero, List.set_cons_succ]
  refine BigFrame.wpQuiet_want rfl (fun K hK => ?_)
  refine quiet_val (.int .i64 v) (fun w' hw' => by go_simp) (hK _ ?_)
  clear hK K
  simp only [Act.put, List.setIfInBounds_toArray, List.set_cons_zero, List.set_cons_succ]
  refine wpQuiet_nil ?_
  intro w1 hb
  have BW := Lib.hid hb
  clear hb
  go_wp2_with fail
  go_ret
  exact ⟨rfl, BW.out⟩
set_option maxHeartbeats 2000000 in
set_option maxRecDepth 100000 in
theorem blender1_c (a b : Int) (w : World) : Calls Try.prog 59 #[.int .i64 1, .int .i64 a, .int .i64 b] w fun e w' => e = .returned (.func (.func 70) #[] #[.pointer (some ⟨w.heap.size + 1, 0, none⟩), .pointer (some ⟨w.heap.size, 0, none⟩)]) ∧ Below w.heap.size w w' ∧ Blk w' w.heap.size 3 #[.int .i64 a] ∧ Blk w' (w.heap.size + 1) 3 #[.int .i64 b] := by
  go_enter Try.func59, Try.ntmps59
  go_wp2_with fail
  go_ret
  exact ⟨rfl, ((Below.refl _ _).alloc (Nat.le_refl _) _).alloc (by simp) _, (Blk.new _ _ _).alloc _, Blk.newAt _ _ _ (by simp)⟩
set_option maxHeartbeats 2000000 in
set_option maxRecDepth 100000 in
theorem blender2_c (a b : Int) (w : World) : Calls Try.prog 59 #[.int .i64 2, .int .i64 a, .int .i64 b] w fun e w' => e = .returned (.func (.func 71) #[] #[]) ∧ Below w.heap.size w w' ∧ Blk w' w.heap.size 3 #[.int .i64 a] ∧ Blk w' (w.heap.size + 1) 3 #[.int .i64 b] := by
  go_enter Try.func59, Try.ntmps59
  go_wp2_with fail
  go_ret
  exact ⟨rfl, ((Below.refl _ _).alloc (Nat.le_refl _) _).alloc (by simp) _, (Blk.new _ _ _).alloc _, Blk.newAt _ _ _ (by simp)⟩
set_option maxHeartbeats 2000000 in
set_option maxRecDepth 100000 in
theorem blender3_c (a b : Int) (w : World) : Calls Try.prog 59 #[.int .i64 3, .int .i64 a, .int .i64 b] w fun e w' => e = .returned (.func (.func 72) #[] #[.pointer (some ⟨w.heap.size + 1, 0, none⟩), .pointer (some ⟨w.heap.size, 0, none⟩)]) ∧ Below w.heap.size w w' ∧ Blk w' w.heap.size 3 #[.int .i64 a] ∧ Blk w' (w.heap.size + 1) 3 #[.int .i64 b] := by
  go_enter Try.func59, Try.ntmps59
  go_wp2_with fail
  go_ret
  exact ⟨rfl, ((Below.refl _ _).alloc (Nat.le_refl _) _).alloc (by simp) _, (Blk.new _ _ _).alloc _, Blk.newAt _ _ _ (by simp)⟩
set_option maxHeartbeats 2000000 in
set_option maxRecDepth 100000 in
theorem blender4_c (a b : Int) (w : World) : Calls Try.prog 59 #[.int .i64 4, .int .i64 a, .int .i64 b] w fun e w' => e = .returned (.func (.func 73) #[] #[.pointer (some ⟨w.heap.size + 1, 0, none⟩), .pointer (some ⟨w.heap.size, 0, none⟩)]) ∧ Below w.heap.size w w' ∧ Blk w' w.heap.size 3 #[.int .i64 a] ∧ Blk w' (w.heap.size + 1) 3 #[.int .i64 b] := by
  go_enter Try.func59, Try.ntmps59
  go_wp2_with fail
  go_ret
  exact ⟨rfl, ((Below.refl _ _).alloc (Nat.le_refl _) _).alloc (by simp) _, (Blk.new _ _ _).alloc _, Blk.newAt _ _ _ (by simp)⟩
set_option maxHeartbeats 2000000 in
set_option maxRecDepth 100000 in
theorem blend1_1 (A B M s t v : Int) (ga gb g9 g10 : Nat) (w : World) (hA : byteI A) (hB : byteI B) (hs : byteI s) (ht : byteI t) (KA : Blk w ga 3 #[.int .i64 A]) (KB : Blk w gb 3 #[.int .i64 B]) (K9 : Blk w g9 93 #[.func (.func 70) #[] #[.pointer (some ⟨gb, 0, none⟩), .pointer (some ⟨ga, 0, none⟩)]]) (K10 : Blk w g10 3 #[.int .i64 M]) (hv : min (max (blendN A B s t 1) 0) M = v) : Calls Try.prog 61 #[.int .i64 s, .int .i64 t, .pointer (some ⟨g9, 0, none⟩), .pointer (some ⟨g10, 0, none⟩)] w fun e w' => e = .returned (.int .i64 v) ∧ Below w.heap.size w w' := by
  obtain ⟨x, hx⟩ : ∃ x, blendN A B s t 1 = x := ⟨_, rfl⟩
  rw [hx] at hv
  have HW : Hid (∀ W, Below w.heap.size w W → Calls Try.prog 70 #[.int .i64 s, .int .i64 t, .pointer (some ⟨gb, 0, none⟩), .pointer (some ⟨ga, 0, none⟩)] W fun e w' => e = .returned (.int .i64 x) ∧ Below W.heap.size W w') := fun W hW => by
    rw [← hx]
    exact way1_c A B s t ga gb W hA hB hs ht (KA.grow hW) (KB.grow hW)
  have HB : Hid (∀ W, Below w.heap.size w W → W.cell? ⟨g9, 0, none⟩ = some (.func (.func 70) #[] #[.pointer (some ⟨gb, 0, none⟩), .pointer (some ⟨ga, 0, none⟩)]) ∧ W.cell? ⟨g10, 0, none⟩ = some (.int .i64 M)) := fun W hW => ⟨(K9.grow hW).cell 0, (K10.grow hW).cell 0⟩
  have HV := Lib.hid hv
  clear hv hx hA hB hs ht KA KB K9 K10
  go_enter Try.func61, Try.ntmps61
  go_wp2_with fail
  refine wp_region_quiet (C := Out w) (by kernel_rfl) (by kernel_rfl) ⟨rfl, rfl, rfl, Nat.le_refl _, fun _ _ => rfl⟩ ?_
  refine BigFrame.wpQuiet_want rfl (fun K hK => ?_)
  refine quiet_val (.func (.func 70) #[] #[.pointer (some ⟨gb, 0, none⟩), .pointer (some ⟨ga, 0, none⟩)]) (fun w' hw' => by have cc := (HB.out w' hw').1; go_simp) (hK _ ?_)
  clear hK K
  simp only [Act.put, List.setIfInBounds_toArray, List.set_cons_zero, List.set_cons_succ]
  refine BigFrame.wpQuiet_want rfl (fun K hK => ?_)
  refine quiet_val (.int .i64 s) (fun w' hw' => by go_simp) (hK _ ?_)
  clear hK K
  simp only [Act.put, List.setIfInBounds_toArray, List.set_cons_zero, List.set_cons_succ]
  refine BigFrame.wpQuiet_want rfl (fun K hK => ?_)
  refine quiet_val (.int .i64 t) (fun w' hw' => by go_simp) (hK _ ?_)
  clear hK K
  simp only [Act.put, List.setIfInBounds_toArray, List.set_cons_zero, List.set_cons_succ]
  refine BigFrame.wpQuiet_want rfl (fun K hK => ?_)
  refine quiet_call 70 #[.int .i64 s, .int .i64 t, .pointer (some ⟨gb, 0, none⟩), .pointer (some ⟨ga, 0, none⟩)] (.int .i64 x) (fun w' _ => by go_simp) (fun w' hw' => Calls.out hw' (HW.out w' hw')) (hK _ ?_)
  clear hK K
  simp only [Act.put, List.setIfInBounds_toArray, List.set_cons_zero, List.set_cons_succ]
  refine BigFrame.wpQuiet_want rfl (fun K hK => ?_)
  refine quiet_val (.int .i64 (max x 0)) (fun w' hw' => by go_simp) (hK _ ?_)
  clear hK K
  simp only [Act.put, List.setIfInBounds_toArray, List.set_cons_zero, List.set_cons_succ]
  refine BigFrame.wpQuiet_want rfl (fun K hK => ?_)
  refine quiet_val (.int .i64 M) (fun w' hw' => by have cc := (HB.out w' hw').2; go_simp) (hK _ ?_)
  clear hK K
  simp only [Act.put, List.setIfInBounds_toArray, List.set_cons_zero, List.set_cons_succ]
  refine BigFrame.wpQuiet_want rfl (fun K hK => ?_)
  refine quiet_val (.int .i64 (min (max x 0) M)) (fun w' hw' => by go_simp) (hK _ ?_)
  clear hK K
  simp only [Act.put, List.setIfInBounds_toArray, List.set_cons_zero, List.set_cons_succ]
  refine BigFrame.wpQuiet_want rfl (fun K hK => ?_)
  refine quiet_val (.int .i64 (min (max x 0) M)) (fun w' hw' => by go_simp) (hK _ ?_)
  clear hK K
  simp only [Act.put, List.setIfInBounds_toArray, List.set_cons_zero, List.set_cons_succ]
  refine wpQuiet_nil ?_
  intro w1 hb
  have BW := Lib.hid hb
  clear hb
  go_wp2_with fail
  go_ret
  exact ⟨by show Ending.returned (.int .i64 (min (max x 0) M)) = _; rw [HV.out], BW.out⟩
set_option maxHeartbeats 2000000 in
set_option maxRecDepth 100000 in
theorem blend1_2 (A B M s t v : Int) (ga gb g9 g10 : Nat) (w : World) (hA : byteI A) (hB : byteI B) (hs : byteI s) (ht : byteI t) (KA : Blk w ga 3 #[.int .i64 A]) (KB : Blk w gb 3 #[.int .i64 B]) (K9 : Blk w g9 93 #[.func (.func 71) #[] #[]]) (K10 : Blk w g10 3 #[.int .i64 M]) (hv : min (max (blendN A B s t 2) 0) M = v) : Calls Try.prog 61 #[.int .i64 s, .int .i64 t, .pointer (some ⟨g9, 0, none⟩), .pointer (some ⟨g10, 0, none⟩)] w fun e w' => e = .returned (.int .i64 v) ∧ Below w.heap.size w w' := by
  obtain ⟨x, hx⟩ : ∃ x, blendN A B s t 2 = x := ⟨_, rfl⟩
  rw [hx] at hv
  have HW : Hid (∀ W, Below w.heap.size w W → Calls Try.prog 71 #[.int .i64 s, .int .i64 t] W fun e w' => e = .returned (.int .i64 x) ∧ Below W.heap.size W w') := fun W hW => by
    rw [← hx]
    exact way2_c A B s t ga gb W hA hB hs ht (KA.grow hW) (KB.grow hW)
  have HB : Hid (∀ W, Below w.heap.size w W → W.cell? ⟨g9, 0, none⟩ = some (.func (.func 71) #[] #[]) ∧ W.cell? ⟨g10, 0, none⟩ = some (.int .i64 M)) := fun W hW => ⟨(K9.grow hW).cell 0, (K10.grow hW).cell 0⟩
  have HV := Lib.hid hv
  clear hv hx hA hB hs ht KA KB K9 K10
  go_enter Try.func61, Try.ntmps61
  go_wp2_with fail
  refine wp_region_quiet (C := Out w) (by kernel_rfl) (by kernel_rfl) ⟨rfl, rfl, rfl, Nat.le_refl _, fun _ _ => rfl⟩ ?_
  refine BigFrame.wpQuiet_want rfl (fun K hK => ?_)
  refine quiet_val (.func (.func 71) #[] #[]) (fun w' hw' => by have cc := (HB.out w' hw').1; go_simp) (hK _ ?_)
  clear hK K
  simp only [Act.put, List.setIfInBounds_toArray, List.set_cons_zero, List.set_cons_succ]
  refine BigFrame.wpQuiet_want rfl (fun K hK => ?_)
  refine quiet_val (.int .i64 s) (fun w' hw' => by go_simp) (hK _ ?_)
  clear hK K
  simp only [Act.put, List.setIfInBounds_toArray, List.set_cons_zero, List.set_cons_succ]
  refine BigFrame.wpQuiet_want rfl (fun K hK => ?_)
  refine quiet_val (.int .i64 t) (fun w' hw' => by go_simp) (hK _ ?_)
  clear hK K
  simp only [Act.put, List.setIfInBounds_toArray, List.set_cons_zero, List.set_cons_succ]
  refine BigFrame.wpQuiet_want rfl (fun K hK => ?_)
  refine quiet_call 71 #[.int .i64 s, .int .i64 t] (.int .i64 x) (fun w' _ => by go_simp) (fun w' hw' => Calls.out hw' (HW.out w' hw')) (hK _ ?_)
  clear hK K
  simp only [Act.put, List.setIfInBounds_toArray, List.set_cons_zero, List.set_cons_succ]
  refine BigFrame.wpQuiet_want rfl (fun K hK => ?_)
  refine quiet_val (.int .i64 (max x 0)) (fun w' hw' => by go_simp) (hK _ ?_)
  clear hK K
  simp only [Act.put, List.setIfInBounds_toArray, List.set_cons_zero, List.set_cons_succ]
  refine BigFrame.wpQuiet_want rfl (fun K hK => ?_)
  refine quiet_val (.int .i64 M) (fun w' hw' => by have cc := (HB.out w' hw').2; go_simp) (hK _ ?_)
  clear hK K
  simp only [Act.put, List.setIfInBounds_toArray, List.set_cons_zero, List.set_cons_succ]
  refine BigFrame.wpQuiet_want rfl (fun K hK => ?_)
  refine quiet_val (.int .i64 (min (max x 0) M)) (fun w' hw' => by go_simp) (hK _ ?_)
  clear hK K
  simp only [Act.put, List.setIfInBounds_toArray, List.set_cons_zero, List.set_cons_succ]
  refine BigFrame.wpQuiet_want rfl (fun K hK => ?_)
  refine quiet_val (.int .i64 (min (max x 0) M)) (fun w' hw' => by go_simp) (hK _ ?_)
  clear hK K
  simp only [Act.put, List.setIfInBounds_toArray, List.set_cons_zero, List.set_cons_succ]
  refine wpQuiet_nil ?_
  intro w1 hb
  have BW := Lib.hid hb
  clear hb
  go_wp2_with fail
  go_ret
  exact ⟨by show Ending.returned (.int .i64 (min (max x 0) M)) = _; rw [HV.out], BW.out⟩
set_option maxHeartbeats 2000000 in
set_option maxRecDepth 100000 in
theorem blend1_3 (A B M s t v : Int) (ga gb g9 g10 : Nat) (w : World) (hA : byteI A) (hB : byteI B) (hs : byteI s) (ht : byteI t) (KA : Blk w ga 3 #[.int .i64 A]) (KB : Blk w gb 3 #[.int .i64 B]) (K9 : Blk w g9 93 #[.func (.func 72) #[] #[.pointer (some ⟨gb, 0, none⟩), .pointer (some ⟨ga, 0, none⟩)]]) (K10 : Blk w g10 3 #[.int .i64 M]) (hv : min (max (blendN A B s t 3) 0) M = v) : Calls Try.prog 61 #[.int .i64 s, .int .i64 t, .pointer (some ⟨g9, 0, none⟩), .pointer (some ⟨g10, 0, none⟩)] w fun e w' => e = .returned (.int .i64 v) ∧ Below w.heap.size w w' := by
  obtain ⟨x, hx⟩ : ∃ x, blendN A B s t 3 = x := ⟨_, rfl⟩
  rw [hx] at hv
  have HW : Hid (∀ W, Below w.heap.size w W → Calls Try.prog 72 #[.int .i64 s, .int .i64 t, .pointer (some ⟨gb, 0, none⟩), .pointer (some ⟨ga, 0, none⟩)] W fun e w' => e = .returned (.int .i64 x) ∧ Below W.heap.size W w') := fun W hW => by
    rw [← hx]
    exact way3_c A B s t ga gb W hA hB hs ht (KA.grow hW) (KB.grow hW)
  have HB : Hid (∀ W, Below w.heap.size w W → W.cell? ⟨g9, 0, none⟩ = some (.func (.func 72) #[] #[.pointer (some ⟨gb, 0, none⟩), .pointer (some ⟨ga, 0, none⟩)]) ∧ W.cell? ⟨g10, 0, none⟩ = some (.int .i64 M)) := fun W hW => ⟨(K9.grow hW).cell 0, (K10.grow hW).cell 0⟩
  have HV := Lib.hid hv
  clear hv hx hA hB hs ht KA KB K9 K10
  go_enter Try.func61, Try.ntmps61
  go_wp2_with fail
  refine wp_region_quiet (C := Out w) (by kernel_rfl) (by kernel_rfl) ⟨rfl, rfl, rfl, Nat.le_refl _, fun _ _ => rfl⟩ ?_
  refine BigFrame.wpQuiet_want rfl (fun K hK => ?_)
  refine quiet_val (.func (.func 72) #[] #[.pointer (some ⟨gb, 0, none⟩), .pointer (some ⟨ga, 0, none⟩)]) (fun w' hw' => by have cc := (HB.out w' hw').1; go_simp) (hK _ ?_)
  clear hK K
  simp only [Act.put, List.setIfInBounds_toArray, List.set_cons_zero, List.set_cons_succ]
  refine BigFrame.wpQuiet_want rfl (fun K hK => ?_)
  refine quiet_val (.int .i64 s) (fun w' hw' => by go_simp) (hK _ ?_)
  clear hK K
  simp only [Act.put, List.setIfInBounds_toArray, List.set_cons_zero, List.set_cons_succ]
  refine BigFrame.wpQuiet_want rfl (fun K hK => ?_)
  refine quiet_val (.int .i64 t) (fun w' hw' => by go_simp) (hK _ ?_)
  clear hK K
  simp only [Act.put, List.setIfInBounds_toArray, List.set_cons_zero, List.set_cons_succ]
  refine BigFrame.wpQuiet_want rfl (fun K hK => ?_)
  refine quiet_call 72 #[.int .i64 s, .int .i64 t, .pointer (some ⟨gb, 0, none⟩), .pointer (some ⟨ga, 0, none⟩)] (.int .i64 x) (fun w' _ => by go_simp) (fun w' hw' => Calls.out hw' (HW.out w' hw')) (hK _ ?_)
  clear hK K
  simp only [Act.put, List.setIfInBounds_toArray, List.set_cons_zero, List.set_cons_succ]
  refine BigFrame.wpQuiet_want rfl (fun K hK => ?_)
  refine quiet_val (.int .i64 (max x 0)) (fun w' hw' => by go_simp) (hK _ ?_)
  clear hK K
  simp only [Act.put, List.setIfInBounds_toArray, List.set_cons_zero, List.set_cons_succ]
  refine BigFrame.wpQuiet_want rfl (fun K hK => ?_)
  refine quiet_val (.int .i64 M) (fun w' hw' => by have cc := (HB.out w' hw').2; go_simp) (hK _ ?_)
  clear hK K
  simp only [Act.put, List.setIfInBounds_toArray, List.set_cons_zero, List.set_cons_succ]
  refine BigFrame.wpQuiet_want rfl (fun K hK => ?_)
  refine quiet_val (.int .i64 (min (max x 0) M)) (fun w' hw' => by go_simp) (hK _ ?_)
  clear hK K
  simp only [Act.put, List.setIfInBounds_toArray, List.set_cons_zero, List.set_cons_succ]
  refine BigFrame.wpQuiet_want rfl (fun K hK => ?_)
  refine quiet_val (.int .i64 (min (max x 0) M)) (fun w' hw' => by go_simp) (hK _ ?_)
  clear hK K
  simp only [Act.put, List.setIfInBounds_toArray, List.set_cons_zero, List.set_cons_succ]
  refine wpQuiet_nil ?_
  intro w1 hb
  have BW := Lib.hid hb
  clear hb
  go_wp2_with fail
  go_ret
  exact ⟨by show Ending.returned (.int .i64 (min (max x 0) M)) = _; rw [HV.out], BW.out⟩
set_option maxHeartbeats 2000000 in
set_option maxRecDepth 100000 in
theorem blend1_4 (A B M s t v : Int) (ga gb g9 g10 : Nat) (w : World) (hA : byteI A) (hB : byteI B) (hs : byteI s) (ht : byteI t) (KA : Blk w ga 3 #[.int .i64 A]) (KB : Blk w gb 3 #[.int .i64 B]) (K9 : Blk w g9 93 #[.func (.func 73) #[] #[.pointer (some ⟨gb, 0, none⟩), .pointer (some ⟨ga, 0, none⟩)]]) (K10 : Blk w g10 3 #[.int .i64 M]) (hv : min (max (blendN A B s t 4) 0) M = v) : Calls Try.prog 61 #[.int .i64 s, .int .i64 t, .pointer (some ⟨g9, 0, none⟩), .pointer (some ⟨g10, 0, none⟩)] w fun e w' => e = .returned (.int .i64 v) ∧ Below w.heap.size w w' := by
  obtain ⟨x, hx⟩ : ∃ x, blendN A B s t 4 = x := ⟨_, rfl⟩
  rw [hx] at hv
  have HW : Hid (∀ W, Below w.heap.size w W → Calls Try.prog 73 #[.int .i64 s, .int .i64 t, .pointer (some ⟨gb, 0, none⟩), .pointer (some ⟨ga, 0, none⟩)] W fun e w' => e = .returned (.int .i64 x) ∧ Below W.heap.size W w') := fun W hW => by
    rw [← hx]
    exact way4_c A B s t ga gb W hA hB hs ht (KA.grow hW) (KB.grow hW)
  have HB : Hid (∀ W, Below w.heap.size w W → W.cell? ⟨g9, 0, none⟩ = some (.func (.func 73) #[] #[.pointer (some ⟨gb, 0, none⟩), .pointer (some ⟨ga, 0, none⟩)]) ∧ W.cell? ⟨g10, 0, none⟩ = some (.int .i64 M)) := fun W hW => ⟨(K9.grow hW).cell 0, (K10.grow hW).cell 0⟩
  have HV := Lib.hid hv
  clear hv hx hA hB hs ht KA KB K9 K10
  go_enter Try.func61, Try.ntmps61
  go_wp2_with fail
  refine wp_region_quiet (C := Out w) (by kernel_rfl) (by kernel_rfl) ⟨rfl, rfl, rfl, Nat.le_refl _, fun _ _ => rfl⟩ ?_
  refine BigFrame.wpQuiet_want rfl (fun K hK => ?_)
  refine quiet_val (.func (.func 73) #[] #[.pointer (some ⟨gb, 0, none⟩), .pointer (some ⟨ga, 0, none⟩)]) (fun w' hw' => by have cc := (HB.out w' hw').1; go_simp) (hK _ ?_)
  clear hK K
  simp only [Act.put, List.setIfInBounds_toArray, List.set_cons_zero, List.set_cons_succ]
  refine BigFrame.wpQuiet_want rfl (fun K hK => ?_)
  refine quiet_val (.int .i64 s) (fun w' hw' => by go_simp) (hK _ ?_)
  clear hK K
  simp only [Act.put, List.setIfInBounds_toArray, List.set_cons_zero, List.set_cons_succ]
  refine BigFrame.wpQuiet_want rfl (fun K hK => ?_)
  refine quiet_val (.int .i64 t) (fun w' hw' => by go_simp) (hK _ ?_)
  clear hK K
  simp only [Act.put, List.setIfInBounds_toArray, List.set_cons_zero, List.set_cons_succ]
  refine BigFrame.wpQuiet_want rfl (fun K hK => ?_)
  refine quiet_call 73 #[.int .i64 s, .int .i64 t, .pointer (some ⟨gb, 0, none⟩), .pointer (some ⟨ga, 0, none⟩)] (.int .i64 x) (fun w' _ => by go_simp) (fun w' hw' => Calls.out hw' (HW.out w' hw')) (hK _ ?_)
  clear hK K
  simp only [Act.put, List.setIfInBounds_toArray, List.set_cons_zero, List.set_cons_succ]
  refine BigFrame.wpQuiet_want rfl (fun K hK => ?_)
  refine quiet_val (.int .i64 (max x 0)) (fun w' hw' => by go_simp) (hK _ ?_)
  clear hK K
  simp only [Act.put, List.setIfInBounds_toArray, List.set_cons_zero, List.set_cons_succ]
  refine BigFrame.wpQuiet_want rfl (fun K hK => ?_)
  refine quiet_val (.int .i64 M) (fun w' hw' => by have cc := (HB.out w' hw').2; go_simp) (hK _ ?_)
  clear hK K
  simp only [Act.put, List.setIfInBounds_toArray, List.set_cons_zero, List.set_cons_succ]
  refine BigFrame.wpQuiet_want rfl (fun K hK => ?_)
  refine quiet_val (.int .i64 (min (max x 0) M)) (fun w' hw' => by go_simp) (hK _ ?_)
  clear hK K
  simp only [Act.put, List.setIfInBounds_toArray, List.set_cons_zero, List.set_cons_succ]
  refine BigFrame.wpQuiet_want rfl (fun K hK => ?_)
  refine quiet_val (.int .i64 (min (max x 0) M)) (fun w' hw' => by go_simp) (hK _ ?_)
  clear hK K
  simp only [Act.put, List.setIfInBounds_toArray, List.set_cons_zero, List.set_cons_succ]
  refine wpQuiet_nil ?_
  intro w1 hb
  have BW := Lib.hid hb
  clear hb
  go_wp2_with fail
  go_ret
  exact ⟨by show Ending.returned (.int .i64 (min (max x 0) M)) = _; rw [HV.out], BW.out⟩
end Go.Proofs.Ytoppmlfibllhlaa

