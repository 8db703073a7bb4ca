/- Layer 13: numbers, zig and zag, in groups of seven bits; the document's Int. -/
import Derived.Test.YteobffggfcmghaaDoorSc
namespace Go.Proofs.YteobffggfcmghaaDoor
open Go.RowKit
/-- Zig and zag. -/
def zigI (n : Int) : Int := if 0 ≤ n then 2 * n else -2 * n - 1
theorem zigI_in {n : Int} (h : -9223372036854775808 ≤ n ∧ n ≤ 9223372036854775807) : 0 ≤ zigI n ∧ zigI n ≤ 18446744073709551615 := by
  unfold zigI
  split <;> omega
theorem zig_c (n : Int) (w : World) (h : -9223372036854775808 ≤ n ∧ n ≤ 9223372036854775807) : Calls Tryd.prog 33 #[.int .i64 n] w fun e w' => e = .returned (.int .u64 (zigI n)) ∧ w = w' := by
  by_cases h0 : 0 ≤ n
  · have d1 : decide (n ≥ 0) = true := by simp; omega
    have HZ : Hid (zigI n = 2 * n) := by unfold zigI Hid; rw [if_pos h0]
    rw [HZ.out]
    have r1 : IntKind.u64.wrap n = n := by unfold IntKind.wrap; simp [IntKind.bits, IntKind.signed]; omega
    have r2 : IntKind.u64.wrap (2 * n) = 2 * n := by unfold IntKind.wrap; simp [IntKind.bits, IntKind.signed]; omega
    clear h
    go_enter Tryd.func33, Tryd.ntmps33
    go_wp2_with fail
    go_ret
    exact ⟨rfl, rfl⟩
  · have d1 : decide (n ≥ 0) = false := by simp; omega
    have d2 : decide (0 ≤ n) = false := by simp; omega
    have HZ : Hid (zigI n = 2 * (-(n + 1)) + 1) := by unfold zigI Hid; rw [if_neg h0]; omega
    rw [HZ.out]
    have r3 : wrap64 (n + 1) = n + 1 := wrapR _ (by omega) (by omega)
    obtain ⟨m, hm⟩ : ∃ m, n + 1 = m := ⟨_, rfl⟩
    have r4 : wrap64 (-m) = -m := wrapR _ (by omega) (by omega)
    have r1 : IntKind.u64.wrap (-m) = -m := by unfold IntKind.wrap; simp [IntKind.bits, IntKind.signed]; omega
    have r2 : IntKind.u64.wrap (2 * -m) = 2 * -m := by unfold IntKind.wrap; simp [IntKind.bits, IntKind.signed]; omega
    have r5 : IntKind.u64.wrap (2 * -m + 1) = 2 * -m + 1 := by unfold IntKind.wrap; simp [IntKind.bits, IntKind.signed]; omega
    rw [hm] at r3 ⊢
    clear h h0 HZ
    go_enter Tryd.func33, Tryd.ntmps33
    go_wp2_with fail
    go_ret
    exact ⟨rfl, rfl⟩
/-- Groups of seven bits, the lowest first, as many as are needed. -/
def digI : Nat → Int → List Int
  | 0, z => [z]
  | f + 1, z => if 127 < z then (z % 128 + 128) :: digI f (z / 128) else [z]
def intI (n : Int) : List Int := digI 9 (zigI n)
theorem digI_len : ∀ f z, 1 ≤ (digI f z).length ∧ (digI f z).length ≤ f + 1
  | 0, z => by simp [digI]
  | f + 1, z => by
    rw [digI]
    split
    · have := digI_len f (z / 128); rw [List.length_cons]; omega
    · simp
theorem digI_ok : ∀ f z, 0 ≤ z → z < 128 ^ (f + 1) → OkB (digI f z)
  | 0, z, h0, h1 => fun x hx => by rw [digI, List.mem_singleton] at hx; subst hx; simp at h1; omega
  | f + 1, z, h0, h1 => by
    rw [digI]
    split
    · intro x hx
      rcases List.mem_cons.1 hx with rfl | hx
      · omega
      · exact digI_ok f (z / 128) (by omega) (by rw [Int.pow_succ] at h1; omega) x hx
    · intro x hx
      rw [List.mem_singleton] at hx; subst hx; omega
theorem intI_len (n : Int) : 1 ≤ (intI n).length ∧ (intI n).length ≤ 10 := digI_len 9 _
theorem intI_ok {n : Int} (h : -9223372036854775808 ≤ n ∧ n ≤ 9223372036854775807) : OkB (intI n) := digI_ok 9 _ (zigI_in h).1 (by have := (zigI_in h).2; omega)
set_option maxHeartbeats 4000000 in
set_option maxRecDepth 100000 in
theorem refInt_c (n : Int) (w : World) (h : -9223372036854775808 ≤ n ∧ n ≤ 9223372036854775807) : Calls Tryd.prog 18 #[.int .i64 n] w fun e w' => ∃ v, e = .returned v ∧ OwnB w' w.heap.size v (intI n) ∧ Below w.heap.size w w' := by
  have HZ := Lib.hid (zig_c n w h)
  have HIN := Lib.hid (zigI_in h)
  obtain ⟨z0, hz0⟩ : ∃ z, zigI n = z := ⟨_, rfl⟩
  have HI : Hid (intI n = digI 9 z0) := by unfold intI Hid; rw [hz0]
  rw [hz0] at HZ HIN
  rw [HI.out]
  clear h hz0
  go_enter Tryd.func18, Tryd.ntmps18
  go_wp2_with fail
  refine (HZ.out).mono ?_
  rintro e w1 ⟨rfl, rfl⟩
  clear HZ
  go_wp2_with fail
  go_loopw [3, 4] (fun s3 s4 wr => ∃ (z : Int) (f : Nat) (L : List Int), s3 = .int .u64 z ∧ Hid (0 ≤ z ∧ z ≤ 18446744073709551615 ∧ z < 128 ^ (f + 1) ∧ L.length + f ≤ 9 ∧ L ++ digI f z = digI 9 z0) ∧ Hid (Below w.heap.size w wr ∧ OwnB wr w.heap.size s4 L)) (fun s3 _ _ => (intOf s3).toNat)
  case atStart => exact ⟨z0, 9, [], rfl, ⟨HIN.out.1, HIN.out.2, by have := HIN.out.2; omega, by simp, rfl⟩, Below.refl _ _, World.ownsRow_nil _ _ _ _⟩
  case round =>
    obtain ⟨z, f, L, rfl, hz, hw⟩ := hrel
    by_cases hlt : 127 < z
    · have hd : decide (z > 127) = true := by simp; omega
      have hf : ∃ f', f = f' + 1 := by
        cases f with
        | zero => have := hz.out.2.2.1; simp at this; omega
        | succ f' => exact ⟨f', rfl⟩
      obtain ⟨f', rfl⟩ := hf
      have HZ1 : Hid (0 ≤ z / 128 ∧ z / 128 ≤ 18446744073709551615 ∧ z / 128 < 128 ^ (f' + 1)) := ⟨by omega, by have := hz.out; omega, by have := hz.out.2.2.1; rw [Int.pow_succ] at this; omega⟩
      have HST : Hid (digI (f' + 1) z = (z % 128 + 128) :: digI f' (z / 128)) := by rw [Hid, digI, if_pos hlt]
      have HLT : Hid ((z / 128).toNat < z.toNat) := Lib.hid (by omega)
      have r1 : z.tmod 128 = z % 128 := Int.tmod_eq_emod_of_nonneg hz.out.1
      have r2 : z.tdiv 128 = z / 128 := Int.tdiv_eq_ediv_of_nonneg hz.out.1
      have hm := Int.emod_nonneg z (show (128 : Int) ≠ 0 by decide)
      have hm2 := Int.emod_lt_of_pos z (show (0 : Int) < 128 by decide)
      have hq1 := HZ1.out.2.1
      have hq0 := HZ1.out.1
      obtain ⟨q, hq⟩ : ∃ q, z / 128 = q := ⟨_, rfl⟩
      obtain ⟨x, hx⟩ : ∃ x, z % 128 = x := ⟨_, rfl⟩
      rw [hq] at r2 HZ1 HST HLT hq1 hq0
      rw [hx] at r1 HST hm hm2
      have r3 : IntKind.u64.wrap x = x := by unfold IntKind.wrap; simp [IntKind.bits, IntKind.signed]; omega
      have r4 : IntKind.u64.wrap (x + 128) = x + 128 := by unfold IntKind.wrap; simp [IntKind.bits, IntKind.signed]; omega
      have r5 : IntKind.u8.wrap (x + 128) = x + 128 := by unfold IntKind.wrap; simp [IntKind.bits, IntKind.signed]; omega
      have r6 : IntKind.u64.wrap q = q := by unfold IntKind.wrap; simp [IntKind.bits, IntKind.signed]; omega
      have HX3 : Hid (∀ j u, (bytV [x + 128])[j]? = some u → (wr.alloc (.cells #[.int .u8 (x + 128)] 5)).cell? ((⟨wr.heap.size, 0, none⟩ : Addr).add j) = some u) := news_byt wr [x + 128] 5 #[.int .u8 (x + 128)] rfl
      have HA3 : Hid (OwnB (wr.alloc (.cells #[.int .u8 (x + 128)] 5)) w.heap.size u4 L ∧ Below w.heap.size w (wr.alloc (.cells #[.int .u8 (x + 128)] 5))) := ⟨hw.out.2.grow ((Below.refl _ _).alloc (Nat.le_refl _) _), hw.out.1.alloc hw.out.1.size _⟩
      have HL3 : Hid (L.length + 1 ≤ 100000) := Lib.hid (by have := hz.out.2.2.2.1; omega)
      clear hq hx hm hm2 hq0 hq1 hlt
      go_wp2_with (at_builtin; refine wpList_append_byts rfl _ _ 22 rfl Tryd.underlying22 w.heap.size _ L rfl HA3.out.1 ⟨wr.heap.size, 0, none⟩ 1 1 [x + 128] rfl rfl HX3.out HL3.out HA3.out.2.size ?_)
      intro v' w2 ho hg _
      have HS : Hid (Below w.heap.size w w2 ∧ OwnB w2 w.heap.size v' (L ++ [x + 128])) := ⟨own_below HA3.out.1 hg HA3.out.2 (Nat.le_refl _) HA3.out.2.size, ho⟩
      clear ho hg
      go_wp2_with fail
      refine ⟨⟨q, f', L ++ [x + 128], by first | rfl | (rw [r6]), ⟨HZ1.out.1, HZ1.out.2.1, HZ1.out.2.2, by have := hz.out.2.2.2.1; rw [List.length_append, List.length_singleton]; omega, ?_⟩, HS.out⟩, ?_⟩
      · rw [List.append_assoc, List.singleton_append, ← HST.out]; exact hz.out.2.2.2.2
      · have := HLT.out; simp [intOf]; omega
    · have hd : decide (z > 127) = false := by simp; omega
      have hd2 : decide (127 < z) = false := by simp; omega
      have hz0 := hz.out.1
      have r5 : IntKind.u8.wrap z = z := by unfold IntKind.wrap; simp [IntKind.bits, IntKind.signed]; omega
      have HST : Hid (digI 9 z0 = L ++ [z]) := by
        rw [Hid, ← hz.out.2.2.2.2]
        cases f with
        | zero => rfl
        | succ f' => rw [digI, if_neg hlt]
      have HX3 : Hid (∀ j u, (bytV [z])[j]? = some u → (wr.alloc (.cells #[.int .u8 z] 5)).cell? ((⟨wr.heap.size, 0, none⟩ : Addr).add j) = some u) := news_byt wr [z] 5 #[.int .u8 z] rfl
      have HA3 : Hid (OwnB (wr.alloc (.cells #[.int .u8 z] 5)) w.heap.size u4 L ∧ Below w.heap.size w (wr.alloc (.cells #[.int .u8 z] 5))) := ⟨hw.out.2.grow ((Below.refl _ _).alloc (Nat.le_refl _) _), hw.out.1.alloc hw.out.1.size _⟩
      have HL3 : Hid (L.length + 1 ≤ 100000) := Lib.hid (by have := hz.out.2.2.2.1; omega)
      clear hz0 hlt
      go_wp2_with (at_builtin; refine wpList_append_byts rfl _ _ 22 rfl Tryd.underlying22 w.heap.size _ L rfl HA3.out.1 ⟨wr.heap.size, 0, none⟩ 1 1 [z] rfl rfl HX3.out HL3.out HA3.out.2.size ?_)
      intro v' w2 ho hg _
      have HS : Hid (OwnB w2 w.heap.size v' (L ++ [z]) ∧ Below w.heap.size w w2) := ⟨ho, own_below HA3.out.1 hg HA3.out.2 (Nat.le_refl _) HA3.out.2.size⟩
      clear ho hg
      go_wp2_with fail
      go_ret
      exact ⟨_, rfl, by rw [HST.out]; exact HS.out.1, HS.out.2⟩
end Go.Proofs.YteobffggfcmghaaDoor
