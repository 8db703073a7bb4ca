/- Layer 10: what package paint answers; the laws' ref, is, awake. -/
import Derived.Test.YtcbldamlfjkppaaPg
import Derived.BigQuiet
namespace Go.Proofs.Ytcbldamlfjkppaa
open Go.RowKit
def col4 (a b c d : Int) : Col := fun i => match i with | 0 => a | 1 => b | 2 => c | _ => d
def ofP (a b : Int) : Int := if 0 ≤ a ∧ a ≤ 255 ∧ 0 ≤ b ∧ b ≤ 255 then ofI a b else 0
def straightC (r g b a : Int) : Col := fadeC (col4 r g b 255) a
def clampI (n hi : Int) : Int := min (max n 0) hi
def zeroC : Col := fun _ => 0
def blendP (c d : Col) (m : Int) : Col := if 0 ≤ m ∧ m ≤ 4 then (if rightC c && rightC d then blendC c d m else zeroC) else zeroC
def blendE (c d : Col) (m : Int) : Int := if 0 ≤ m ∧ m ≤ 4 then (if rightC c && rightC d then 0 else 30) else 33
def byteI (x : Int) : Prop := 0 ≤ x ∧ x ≤ 255
theorem col4_ok {a b c d : Int} (ha : byteI a) (hb : byteI b) (hc : byteI c) (hd : byteI d) : OkC (col4 a b c d) := fun i hi => by
  match i, hi with
  | 0, _ => exact ha
  | 1, _ => exact hb
  | 2, _ => exact hc
  | 3, _ => exact hd
/-- What package paint answers. -/
structure PaintOk : Prop where
  of : ∀ (a b : Int) (w : World), Calls Try.prog 10 #[.int .i64 a, .int .i64 b] w fun e w' => e = .returned (.int .i64 (ofP a b)) ∧ Below w.heap.size w w'
  straight : ∀ (r g b a : Int) (w : World), byteI r → byteI g → byteI b → byteI a → Calls Try.prog 21 #[.int .u8 r, .int .u8 g, .int .u8 b, .int .u8 a] w fun e w' => e = .returned (.agg #[.int .u8 (straightC r g b a 0), .int .u8 (straightC r g b a 1), .int .u8 (straightC r g b a 2), .int .u8 (straightC r g b a 3)]) ∧ Below w.heap.size w w'
  right : ∀ (c : Col) (w : World), OkC c → Calls Try.prog 19 #[.agg #[.int .u8 (c 0), .int .u8 (c 1), .int .u8 (c 2), .int .u8 (c 3)]] w fun e w' => e = .returned (.bool (rightC c)) ∧ Below w.heap.size w w'
  fade : ∀ (c : Col) (b : Int) (w : World), OkC c → byteI b → Calls Try.prog 13 #[.agg #[.int .u8 (c 0), .int .u8 (c 1), .int .u8 (c 2), .int .u8 (c 3)], .int .u8 b] w fun e w' => e = .returned (.agg #[.int .u8 (fadeC c b 0), .int .u8 (fadeC c b 1), .int .u8 (fadeC c b 2), .int .u8 (fadeC c b 3)]) ∧ Below w.heap.size w w'
  part : ∀ (c : Col) (n : Int) (w : World), OkC c → Calls Try.prog 14 #[.agg #[.int .u8 (c 0), .int .u8 (c 1), .int .u8 (c 2), .int .u8 (c 3)], .int .i64 n] w fun e w' => e = .returned (.agg #[.int .u8 (partC c (clampI n 16) 0), .int .u8 (partC c (clampI n 16) 1), .int .u8 (partC c (clampI n 16) 2), .int .u8 (partC c (clampI n 16) 3)]) ∧ Below w.heap.size w w'
  over : ∀ (c d : Col) (w : World), OkC c → OkC d → Calls Try.prog 22 #[.agg #[.int .u8 (c 0), .int .u8 (c 1), .int .u8 (c 2), .int .u8 (c 3)], .agg #[.int .u8 (d 0), .int .u8 (d 1), .int .u8 (d 2), .int .u8 (d 3)]] w fun e w' => e = .returned (.agg #[.int .u8 (overC c d 0), .int .u8 (overC c d 1), .int .u8 (overC c d 2), .int .u8 (overC c d 3)]) ∧ Below w.heap.size w w'
  blend : ∀ (c d : Col) (m : Int) (w : World), OkC c → OkC d → Calls Try.prog 24 #[.agg #[.int .u8 (c 0), .int .u8 (c 1), .int .u8 (c 2), .int .u8 (c 3)], .agg #[.int .u8 (d 0), .int .u8 (d 1), .int .u8 (d 2), .int .u8 (d 3)], .int .i64 m] w fun e w' => e = .returned (.tuple #[.agg #[.int .u8 (blendP c d m 0), .int .u8 (blendP c d m 1), .int .u8 (blendP c d m 2), .int .u8 (blendP c d m 3)], .int .i64 (blendE c d m)]) ∧ Below w.heap.size w w'
  mix : ∀ (c d : Col) (t : Int) (w : World), OkC c → OkC d → Calls Try.prog 26 #[.agg #[.int .u8 (c 0), .int .u8 (c 1), .int .u8 (c 2), .int .u8 (c 3)], .agg #[.int .u8 (d 0), .int .u8 (d 1), .int .u8 (d 2), .int .u8 (d 3)], .int .i64 t] w fun e w' => e = .returned (.agg #[.int .u8 (mixC c d (clampI t 65536) 0), .int .u8 (mixC c d (clampI t 65536) 1), .int .u8 (mixC c d (clampI t 65536) 2), .int .u8 (mixC c d (clampI t 65536) 3)]) ∧ Below w.heap.size w w'
set_option maxHeartbeats 2000000 in
set_option maxRecDepth 100000 in
theorem law_ref_c (c : Col) (hc : OkC c) (w : World) : Calls Try.prog 17 #[.agg #[.int .u8 (c 0), .int .u8 (c 1), .int .u8 (c 2), .int .u8 (c 3)]] w fun e w' => e = .returned (.agg #[.int .i64 (c 0), .int .i64 (c 1), .int .i64 (c 2), .int .i64 (c 3)]) ∧ Below w.heap.size w w' := by
  have k0 := hc 0 (by decide)
  have k1 := hc 1 (by decide)
  have k2 := hc 2 (by decide)
  have k3 := hc 3 (by decide)
  have e0 := u8_i64 k0.1 k0.2
  have e1 := u8_i64 k1.1 k1.2
  have e2 := u8_i64 k2.1 k2.2
  have e3 := u8_i64 k3.1 k3.2
  clear k0 k1 k2 k3 hc
  go_enter Try.func17, Try.ntmps17
  go_wp2_with fail
  exact bodyPost_ret (results_col (f := fun i => .int .i64 (c i)) (.inl rfl) 2 rfl rfl (Blk.newAt _ _ _ (by simp))) rfl ⟨rfl, ((Below.refl _ _).alloc (Nat.le_refl _) _).alloc (by simp) _⟩
set_option maxHeartbeats 2000000 in
set_option maxRecDepth 100000 in
theorem law_is_c (c : Col) (hc : OkC c) (w : World) : Calls Try.prog 15 #[.agg #[.int .u8 (c 0), .int .u8 (c 1), .int .u8 (c 2), .int .u8 (c 3)], .agg #[.int .i64 (c 0), .int .i64 (c 1), .int .i64 (c 2), .int .i64 (c 3)]] w fun e w' => e = .returned (.bool true) ∧ Below w.heap.size w w' := by
  have HR := Lib.hid (law_ref_c c hc)
  have EQ := equal_c64 c
  clear hc
  go_enter Try.func15, Try.ntmps15
  go_wp2_with fail
  obtain ⟨w1, hw1⟩ : ∃ W, (w.alloc (.cells #[.int .u8 (c 0), .int .u8 (c 1), .int .u8 (c 2), .int .u8 (c 3)] 26)).alloc (.cells #[.int .i64 (c 0), .int .i64 (c 1), .int .i64 (c 2), .int .i64 (c 3)] 31) = W := ⟨_, rfl⟩
  have S1 : Hid (Below w.heap.size w w1 ∧ Blk w1 w.heap.size 26 (c8 c) ∧ Blk w1 (w.heap.size + 1) 31 (c64 c)) := by
    rw [← hw1]
    exact ⟨((Below.refl _ _).alloc (Nat.le_refl _) _).alloc (by simp) _, (Blk.new _ _ _).alloc _, Blk.newAt _ _ _ (by simp)⟩
  have HB : Hid (∀ A, Below w1.heap.size w1 A → Blk A w.heap.size 26 (c8 c) ∧ Blk A (w.heap.size + 1) 31 (c64 c)) := fun A hA => ⟨S1.out.2.1.grow hA, S1.out.2.2.grow hA⟩
  rw [hw1]
  clear hw1
  refine wp_region_quiet (C := Out w1) (by kernel_rfl) (by kernel_rfl) ⟨rfl, rfl, rfl, Nat.le_refl _, fun _ _ => rfl⟩ ?_
  refine BigFrame.wpQuiet_want rfl (fun K hK => ?_)
  refine quiet_val (.agg #[.int .u8 (c 0), .int .u8 (c 1), .int .u8 (c 2), .int .u8 (c 3)]) (fun w' hw' => by obtain ⟨c0, c1, c2, c3⟩ := (HB.out w' hw').1.c0; go_simp) (hK _ ?_)
  clear hK K
  simp only [Act.put, List.setIfInBounds_toArray, List.set_cons_zero, List.set_cons_succ]
  refine BigFrame.wpQuiet_want rfl (fun K hK => ?_)
  refine quiet_call 17 #[.agg #[.int .u8 (c 0), .int .u8 (c 1), .int .u8 (c 2), .int .u8 (c 3)]] (.agg #[.int .i64 (c 0), .int .i64 (c 1), .int .i64 (c 2), .int .i64 (c 3)]) (fun w' _ => by go_simp) (fun w' hw' => Calls.out hw' (HR.out w')) (hK _ ?_)
  clear hK K
  simp only [Act.put, List.setIfInBounds_toArray, List.set_cons_zero, List.set_cons_succ]
  refine BigFrame.wpQuiet_want rfl (fun K hK => ?_)
  refine quiet_val (.agg #[.int .i64 (c 0), .int .i64 (c 1), .int .i64 (c 2), .int .i64 (c 3)]) (fun w' hw' => by obtain ⟨c0, c1, c2, c3⟩ := (HB.out w' hw').2.c0; go_simp) (hK _ ?_)
  clear hK K
  simp only [Act.put, List.setIfInBounds_toArray, List.set_cons_zero, List.set_cons_succ]
  refine BigFrame.wpQuiet_want rfl (fun K hK => ?_)
  refine quiet_val (.bool true) (fun w' hw' => by go_simp) (hK _ ?_)
  clear hK K
  simp only [Act.put, List.setIfInBounds_toArray, List.set_cons_zero, List.set_cons_succ]
  refine BigFrame.wpQuiet_want rfl (fun K hK => ?_)
  refine quiet_val (.bool true) (fun w' hw' => by go_simp) (hK _ ?_)
  clear hK K
  simp only [Act.put, List.setIfInBounds_toArray, List.set_cons_zero, List.set_cons_succ]
  refine wpQuiet_nil ?_
  intro w2 hb
  have B2 : Hid (Below w.heap.size w w2) := S1.out.1.trans (hb.mono S1.out.1.size)
  clear hb
  go_wp2_with fail
  go_ret
  exact ⟨rfl, B2.out⟩
set_option maxHeartbeats 2000000 in
set_option maxRecDepth 100000 in
theorem law_awake_c (P : PaintOk) (w : World) : Calls Try.prog 11 #[] w fun e w' => e = .returned (.bool true) ∧ Below w.heap.size w w' := by
  have HS : Hid (∀ w : World, Calls Try.prog 21 #[.int .u8 255, .int .u8 0, .int .u8 0, .int .u8 128] w fun e w' => e = .returned (.agg #[.int .u8 128, .int .u8 0, .int .u8 0, .int .u8 128]) ∧ Below w.heap.size w w') := fun w => P.straight 255 0 0 128 w (by unfold byteI; decide) (by unfold byteI; decide) (by unfold byteI; decide) (by unfold byteI; decide)
  have HO : Hid (∀ w : World, Calls Try.prog 22 #[.agg #[.int .u8 128, .int .u8 0, .int .u8 0, .int .u8 128], .agg #[.int .u8 255, .int .u8 255, .int .u8 255, .int .u8 255]] w fun e w' => e = .returned (.agg #[.int .u8 255, .int .u8 127, .int .u8 127, .int .u8 255]) ∧ Below w.heap.size w w') := fun w => P.over (col4 128 0 0 128) (col4 255 255 255 255) w (col4_ok (by unfold byteI; decide) (by unfold byteI; decide) (by unfold byteI; decide) (by unfold byteI; decide)) (col4_ok (by unfold byteI; decide) (by unfold byteI; decide) (by unfold byteI; decide) (by unfold byteI; decide))
  have E1 := equal_c8 (col4 128 0 0 128)
  have E2 := equal_c8 (col4 255 127 127 255)
  simp only [col4] at E1 E2
  go_enter Try.func11, Try.ntmps11
  go_wp2_with fail
  refine (HS.out _).mono ?_
  rintro e w1 ⟨rfl, hb1⟩
  have B1 := Lib.hid hb1
  clear hb1
  go_wp2_with fail
  refine (HO.out _).mono ?_
  rintro e w2 ⟨rfl, hb2⟩
  have B2 : Hid (Below w.heap.size w w2) := (B1.out.alloc B1.out.size _).trans (hb2.mono (by have := B1.out.size; simp; omega))
  clear hb2
  go_wp2_with fail
  go_ret
  exact ⟨rfl, B2.out⟩
end Go.Proofs.Ytcbldamlfjkppaa
