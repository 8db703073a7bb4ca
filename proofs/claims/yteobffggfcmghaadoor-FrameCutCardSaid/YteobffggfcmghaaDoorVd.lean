/- Layer 13: package frame: the record that bytes begin with: told just if there is one. -/
import Derived.Test.YteobffggfcmghaaDoorVc
namespace Go.Proofs.YteobffggfcmghaaDoor
open Go.RowKit
set_option maxHeartbeats 4000000 in
theorem bytesEqual_c (s s' : Value) (E E' : List Int) (w : World) (row : RowB w s E) (row' : RowB w s' E') (h : OkB E) (h' : OkB E') : Calls Tryd.prog 38 #[s, s'] w fun e w' => ∃ r : Bool, e = .returned (.bool r) ∧ (r = true ↔ E = E') ∧ w = w' := by
  have c1 := conv_b row h
  have c2 := conv_b row' h'
  obtain ⟨ao, cp, rfl⟩ := row.shape
  obtain ⟨av, cv, rfl⟩ := row'.shape
  obtain ⟨S, hS⟩ : ∃ S, strI E = S := ⟨_, rfl⟩
  obtain ⟨S', hS'⟩ : ∃ S, strI E' = S := ⟨_, rfl⟩
  have HR : Hid ((S.toList == S'.toList) = true ↔ E = E') := by
    unfold Hid
    rw [beq_iff_eq, ByteArray.toList_eq, ByteArray.toList_eq, ← hS, ← hS']
    refine ⟨fun e => strI_inj h h' ?_, fun e => by rw [e]⟩
    have e2 : (strI E).data = (strI E').data := Array.toList_inj.1 e
    exact ByteArray.ext e2
  rw [hS] at c1
  rw [hS'] at c2
  generalize E.length = n at *
  generalize E'.length = n' at *
  clear row row' h h' hS hS'
  obtain ⟨r, hr⟩ : ∃ r, (S.toList == S'.toList) = r := ⟨_, rfl⟩
  rw [hr] at HR
  go_enter Tryd.func38, Tryd.ntmps38
  go_wp2_with fail
  go_ret
  exact ⟨r, rfl, HR.out, rfl⟩
/-- What is told of the record that bytes begin with. -/
def FirstR (w : World) : Option (Int × Int × List Int) → Ending → World → Prop
  | none => FirstQ w 0 0 0 []
  | some r => FirstQ w r.1 r.2.1 (17 + (r.2.2.length : Int)) r.2.2
set_option maxHeartbeats 8000000 in
set_option maxRecDepth 100000 in
theorem first_c13 (s : Value) (B : List Int) (w : World) (hrd : Rd w) (row : RowB w s B) (hB : OkB B) (hcap : CapS s) (hl : B.length ≤ 60000) : Calls Tryd.prog 29 #[s] w (FirstR w (firstO B)) := by
  obtain ⟨ao, c, rfl⟩ := row.shape
  obtain ⟨n, hn⟩ : ∃ n, B.length = n := ⟨_, rfl⟩
  by_cases h17 : n < 17
  · have e : firstO B = none := by unfold firstO; rw [if_neg (by omega)]
    rw [e, hn]
    exact first_short ao n c w h17
  obtain ⟨bk, ofs, rfl, hbk, _⟩ := row.addr (by omega)
  have hnc : n ≤ c := by rw [← hn]; exact hcap _ _ _ rfl
  have hwi := wordI_in (a := 0) hB (by omega)
  obtain ⟨wd, hwd⟩ : ∃ wd : Nat, wordI B 0 = (wd : Int) := ⟨(wordI B 0).toNat, by omega⟩
  rw [hn] at row
  have HR := Lib.hid row
  have HB : Hid (OkB B ∧ B.length = n ∧ 17 ≤ n ∧ n ≤ c ∧ n ≤ 60000) := ⟨hB, hn, by omega, hnc, by omega⟩
  have HRD := Lib.hid hrd
  have HWD := Lib.hid hwd
  rw [hwd] at hwi
  have e4 : cutA (some ⟨bk, ofs, none⟩) 0 c = some ⟨bk, ofs, none⟩ := by
    unfold cutA
    rw [if_neg (by omega), Option.map_some, Addr.add_lit, Nat.add_zero]
  obtain ⟨w0, hw0⟩ : ∃ x, x = w.alloc (.cells #[.int .i64 0, .int .i64 0, .slice none 0 0] 29) := ⟨_, rfl⟩
  have H0 : Hid (Blk w0 w.heap.size 29 #[.int .i64 0, .int .i64 0, .slice none 0 0] ∧ Below w.heap.size w w0) := by
    subst hw0
    exact ⟨Blk.new _ _ _, (Below.refl _ _).alloc (Nat.le_refl _) _⟩
  have HW4 : Hid (Calls Tryd.prog 37 #[.slice (some ⟨bk, ofs, none⟩) 4 c] w0 fun e w' => e = .returned (.int .u64 (wd : Int)) ∧ w0 = w') := by
    have r4 := RowB.cutU (l := 0) (k := 4) (m := c) (HR.out.on H0.out.2) hn (by omega) (by omega) (Nat.le_refl _)
    rw [e4] at r4
    have key := word_c _ _ w0 r4 (cutL_ok hB 0 4) (by rw [cutL_len (by omega)]; omega)
    rw [word_cut (by omega), hwd] at key
    exact key
  have d1 : decide ((n : Int) < 17) = false := by simp; omega
  have d1' : decide (n < 17) = false := by simp; omega
  have hw17 : wrap64 ((n : Int) - 17) = (n : Int) - 17 := wrapR _ (by omega) (by omega)
  have us : IntKind.u64.wrap ((n : Int) - 17) = (n : Int) - 17 := by rw [u64_wrap]; omega
  have i4 : (4 : Int) ≤ (c : Int) := by omega
  by_cases hbig : (wd : Int) > (n : Int) - 17
  · have d2 : decide ((wd : Int) > (n : Int) - 17) = true := by simp; omega
    have d2' : decide ((n : Int) - 17 < (wd : Int)) = true := by simp; omega
    have e : firstO B = none := by unfold firstO; rw [if_neg (by rw [hwd]; omega)]
    rw [e, hn]
    have c0 : w0.cell? ⟨w.heap.size, 0, none⟩ = some (.int .i64 0) := H0.out.1.cell 0
    have c1 : w0.cell? ⟨w.heap.size, 1, none⟩ = some (.int .i64 0) := H0.out.1.cell 1
    have c2 : w0.cell? ⟨w.heap.size, 2, none⟩ = some (.slice none 0 0) := H0.out.1.cell 2
    have f0 := H0.out.1.free 0
    have f1 := H0.out.1.free 1
    have f2 := H0.out.1.free 2
    have hlt := H0.out.1.lt
    clear row hB hcap hl h17 hbk hnc hwi hwd hbig e hrd hn
    go_enter Tryd.func29, Tryd.ntmps29
    go_upto_region 1 with fail
    rw [← hw0]
    clear hw0
    go_wp2_with (refine wpList_cut rfl _ _ _ _ rfl (some ⟨bk, ofs, none⟩) n c 0 4 c 4 rfl (.inr ⟨rfl, rfl⟩) (.inr ⟨rfl, rfl, .inl rfl⟩) (by decide) (by have := HB.out; omega) rfl ?_)
    refine (HW4.out).mono ?_
    rintro e w' ⟨rfl, rfl⟩
    go_wp2_with fail
    exact bodyPost_ret (results_first rfl rfl rfl (H0.out.1.rec3 _ _ _) ⟨_, _, _, rfl⟩) rfl ⟨_, rfl, below_rec3 H0.out.2 (Nat.le_refl _) _ _ _, .inl ⟨rfl, rfl⟩⟩
  · have d2 : decide ((wd : Int) > (n : Int) - 17) = false := by simp; omega
    have d2' : decide ((n : Int) - 17 < (wd : Int)) = false := by simp; omega
    have wi : IntKind.i64.wrap (wd : Int) = (wd : Int) := (wrap_is _).trans (wrapR _ (by omega) (by omega))
    obtain ⟨r, hr⟩ : ∃ r, 13 + wd = r := ⟨_, rfl⟩
    obtain ⟨z, hz⟩ : ∃ z, 17 + wd = z := ⟨_, rfl⟩
    have HSZ : Hid (17 + (wd : Int) = (z : Int)) := by unfold Hid; omega
    have ew : wrap64 ((z : Int) - 4) = (r : Int) := by rw [wrapR _ (by omega) (by omega)]; omega
    have HEW := Lib.hid ew
    have HZN : Hid (z ≤ n ∧ 17 + wd = z ∧ 13 + wd = r ∧ z ≤ c ∧ r ≤ c ∧ 13 ≤ r ∧ r - 13 = wd) := ⟨by omega, by omega, by omega, by omega, by omega, by omega, by omega⟩
    have HSIZE := Lib.hid (size_c (wd : Int) w0 ⟨by omega, by omega⟩)
    rw [HSZ.out] at HSIZE
    obtain ⟨sq, hsq⟩ : ∃ q, seqI B = q := ⟨_, rfl⟩
    obtain ⟨u8, hu8⟩ : ∃ q, wordL (cutL B 4 8) = q := ⟨_, rfl⟩
    have hus : IntKind.i64.wrap u8 = sq := by rw [← hu8, ← hsq, wrap_is]; rfl
    obtain ⟨kd, hkd⟩ : ∃ q, bAt B 12 = q := ⟨_, rfl⟩
    have hb12 := bAt_some (E := B) (k := 12) (by omega)
    have hkr := hB _ (List.mem_of_getElem? hb12)
    rw [hkd] at hb12 hkr
    have uk : IntKind.i64.wrap kd = kd := (wrap_is _).trans (wrapR _ (by omega) (by omega))
    obtain ⟨E, hE⟩ : ∃ E, cutL B 13 wd = E := ⟨_, rfl⟩
    have hel : E.length = wd := by rw [← hE]; exact cutL_len (by omega)
    obtain ⟨F, hF⟩ : ∃ F, cutL B 0 z = F := ⟨_, rfl⟩
    have hfo : firstO B = if 0 ≤ sq ∧ frameI sq kd E = F then some (sq, kd, E) else none := by
      unfold firstO
      rw [hwd, Int.toNat_natCast, hsq, hkd, hE, hz, hF]
      by_cases hq : 0 ≤ sq ∧ frameI sq kd E = F
      · rw [if_pos ⟨by omega, by omega, hq⟩, if_pos hq]
      · rw [if_neg (fun h => hq h.2.2), if_neg hq]
    rw [hfo, hn]
    obtain ⟨res, hres⟩ : ∃ r, (if 0 ≤ sq ∧ frameI sq kd E = F then some (sq, kd, E) else none) = r := ⟨_, rfl⟩
    have HRES := Lib.hid hres
    rw [hres]
    clear hres
    have HE : Hid (OkB E ∧ E.length = wd ∧ OkB F ∧ (0 ≤ kd ∧ kd ≤ 255) ∧ sq ≤ 9223372036854775807) := ⟨by rw [← hE]; exact cutL_ok hB _ _, hel, by rw [← hF]; exact cutL_ok hB _ _, hkr, by rw [← hsq]; unfold seqI wrap64; omega⟩
    have HCUT : Hid (∀ W, Below w.heap.size w W → RowB W (.slice (some ⟨bk, ofs + 4, none⟩) 8 (c - 4)) (cutL B 4 8) ∧ RowB W (.slice (some ⟨bk, ofs + 13, none⟩) wd (c - 13)) E ∧ RowB W (.slice (some ⟨bk, ofs, none⟩) z c) F ∧ W.cell? ⟨bk, ofs + 12, none⟩ = some (.int .u8 kd)) := fun W hW => by
      have hrw := HR.out.on hW
      have x1 := RowB.cut hrw hn (at0 := 4) (k := 8) (by omega) (by omega)
      refine ⟨x1, ?_, ?_, ?_⟩
      · have key := RowB.cutU hrw hn (l := 13) (k := wd) (m := c) (by omega) (by omega) (Nat.le_refl _)
        rw [show cutA (some ⟨bk, ofs, none⟩) 13 c = some ⟨bk, ofs + 13, none⟩ by unfold cutA; rw [if_neg (by omega), Option.map_some, Addr.add_lit], hE] at key
        exact key
      · have key := RowB.cut hrw hn (at0 := 0) (k := z) (by omega) (by omega)
        rw [hF, Nat.add_zero, Nat.sub_zero] at key
        exact key
      · obtain ⟨b', o', e', _, hc⟩ := hrw.addr (by omega)
        cases e'
        exact hc 12 _ hb12
    have HW8 : Hid (∀ W, Below w.heap.size w W → Calls Tryd.prog 37 #[.slice (some ⟨bk, ofs + 4, none⟩) 8 (c - 4)] W fun e w' => e = .returned (.int .u64 u8) ∧ W = w') := fun W hW => by
      have key := word_c _ _ W (HCUT.out W hW).1 (cutL_ok hB 4 8) (by rw [cutL_len (by omega)]; omega)
      rw [hu8] at key
      exact key
    clear row hB hcap hl h17 hbk hnc hwi hwd hbig hrd hn hsq hu8 hkd hb12 hkr hE hel hF hfo hr hz ew
    go_enter Tryd.func29, Tryd.ntmps29
    go_upto_region 1 with fail
    rw [← hw0]
    clear hw0
    go_wp2_with (refine wpList_cut rfl _ _ _ _ rfl (some ⟨bk, ofs, none⟩) n c 0 4 c 4 rfl (.inr ⟨rfl, rfl⟩) (.inr ⟨rfl, rfl, .inl rfl⟩) (by decide) (by have := HB.out; omega) rfl ?_)
    refine (HW4.out).mono ?_
    rintro e w' ⟨rfl, rfl⟩
    go_wp2_with fail
    refine (HSIZE.out).mono ?_
    rintro e w' ⟨rfl, rfl⟩
    clear HW4 HSIZE d1 d1' hw17 us i4 d2 d2' wi
    go_upto_region 7 with fail
    refine wp_region_put (by kernel_rfl) (by kernel_rfl) (by kernel_rfl) (fun b' vs w' => (b' 0 = true → vs 0 = .slice (some ⟨bk, ofs, none⟩) n c) ∧ (b' 1 = true → vs 1 = .slice (some ⟨bk, ofs + 4, none⟩) 8 (c - 4)) ∧ (b' 2 = true → vs 2 = .int .u64 u8) ∧ (b' 3 = true → vs 3 = .int .i64 sq) ∧ (b' 4 = true → vs 4 = .slice (some ⟨bk, ofs, none⟩) n c) ∧ (b' 5 = true → vs 5 = .pointer (some ⟨bk, ofs + 12, none⟩)) ∧ (b' 6 = true → vs 6 = .int .u8 kd) ∧ (b' 7 = true → vs 7 = .int .i64 kd) ∧ (b' 8 = true → vs 8 = .slice (some ⟨bk, ofs, none⟩) n c) ∧ (b' 9 = true → vs 9 = .int .i64 (z : Int)) ∧ (b' 10 = true → vs 10 = .int .i64 (r : Int)) ∧ (b' 11 = true → vs 11 = .slice (some ⟨bk, ofs + 13, none⟩) wd (c - 13)) ∧ (b' 12 = true → vs 12 = .agg #[.int .i64 sq, .int .i64 kd, .slice (some ⟨bk, ofs + 13, none⟩) wd (c - 13)]) ∧ (Hid (Below w.heap.size w w')) ∧ (b' 13 = false → Hid (Blk w' w.heap.size 29 #[.int .i64 0, .int .i64 0, .slice none 0 0])) ∧ (b' 13 = true → Hid (Blk w' w.heap.size 29 #[.int .i64 sq, .int .i64 kd, .slice (some ⟨bk, ofs + 13, none⟩) wd (c - 13)]))) ?_ ?_ ?_
    · intro vs
      exact ⟨fun h => Bool.noConfusion h, fun h => Bool.noConfusion h, fun h => Bool.noConfusion h, fun h => Bool.noConfusion h, fun h => Bool.noConfusion h, fun h => Bool.noConfusion h, fun h => Bool.noConfusion h, fun h => Bool.noConfusion h, fun h => Bool.noConfusion h, fun h => Bool.noConfusion h, fun h => Bool.noConfusion h, fun h => Bool.noConfusion h, fun h => Bool.noConfusion h, below_drewN H0.out.2 1, fun _ => Lib.hid ((Keep.drew (fun _ => True) _).blk H0.out.1 trivial), fun h => Bool.noConfusion h⟩
    · rintro b' vs w' i op hi hun hall ⟨h0, h1, h2, h3, h4, h5, h6, h7, h8, h9, h10, h11, h12, hB, hF, hG⟩
      have hil : i < 14 := (List.getElem?_eq_some_iff.1 hi).1
      rcases i with _ | _ | _ | _ | _ | _ | _ | _ | _ | _ | _ | _ | _ | _ | i
      · obtain rfl := Option.some.inj hi
        clear hi hil
        refine wpOp_step rfl (fun K hK => ?_)
        have HKK := Lib.hid hK; clear hK
        simp only [putAll, Act.put, List.setIfInBounds_toArray, List.set_cons_zero, List.set_cons_succ]
        go_simp
        exact HKK.out _ _ ⟨_, by simp only [putAll, Act.put, List.setIfInBounds_toArray, List.set_cons_zero, List.set_cons_succ] <;> rfl, fun _ => rfl, h1, h2, h3, h4, h5, h6, h7, h8, h9, h10, h11, h12, hB, hF, hG⟩
      · obtain rfl := Option.some.inj hi
        clear hi hil
        have d0 := h0 (hall ⟨0, .data⟩ (by simp) rfl)
        have s0 : (4 : Int) ≤ 12 := by decide
        have s1 : (12 : Int) ≤ (c : Int) := by have := HB.out; omega
        have s2 : ¬ c = 4 := by have := HB.out; omega
        refine wpOp_step rfl (fun K hK => ?_)
        have HKK := Lib.hid hK; clear hK
        simp only [putAll, Act.put, List.setIfInBounds_toArray, List.set_cons_zero, List.set_cons_succ]
        go_simp
        exact HKK.out _ _ ⟨_, by simp only [putAll, Act.put, List.setIfInBounds_toArray, List.set_cons_zero, List.set_cons_succ, d0] <;> rfl, h0, fun _ => rfl, h2, h3, h4, h5, h6, h7, h8, h9, h10, h11, h12, hB, hF, hG⟩
      · obtain rfl := Option.some.inj hi
        clear hi hil
        have d1 := h1 (hall ⟨1, .data⟩ (by simp) rfl)
        refine wpOp_step rfl (fun K hK => ?_)
        have HKK := Lib.hid hK; clear hK
        simp only [putAll, Act.put, List.setIfInBounds_toArray, List.set_cons_zero, List.set_cons_succ]
        go_simp
        refine (HW8.out w' hB.out).mono ?_
        rintro e w2 ⟨rfl, rfl⟩
        exact HKK.out _ _ ⟨_, by simp only [putAll, Act.put, List.setIfInBounds_toArray, List.set_cons_zero, List.set_cons_succ, d1] <;> rfl, h0, h1, fun _ => rfl, h3, h4, h5, h6, h7, h8, h9, h10, h11, h12, hB, hF, hG⟩
      · obtain rfl := Option.some.inj hi
        clear hi hil
        have d2 := h2 (hall ⟨2, .data⟩ (by simp) rfl)
        refine wpOp_step rfl (fun K hK => ?_)
        have HKK := Lib.hid hK; clear hK
        simp only [putAll, Act.put, List.setIfInBounds_toArray, List.set_cons_zero, List.set_cons_succ]
        go_simp
        exact HKK.out _ _ ⟨_, by simp only [putAll, Act.put, List.setIfInBounds_toArray, List.set_cons_zero, List.set_cons_succ, d2] <;> rfl, h0, h1, h2, fun _ => rfl, h4, h5, h6, h7, h8, h9, h10, h11, h12, hB, hF, hG⟩
      · obtain rfl := Option.some.inj hi
        clear hi hil
        refine wpOp_step rfl (fun K hK => ?_)
        have HKK := Lib.hid hK; clear hK
        simp only [putAll, Act.put, List.setIfInBounds_toArray, List.set_cons_zero, List.set_cons_succ]
        go_simp
        exact HKK.out _ _ ⟨_, by simp only [putAll, Act.put, List.setIfInBounds_toArray, List.set_cons_zero, List.set_cons_succ] <;> rfl, h0, h1, h2, h3, fun _ => rfl, h5, h6, h7, h8, h9, h10, h11, h12, hB, hF, hG⟩
      · obtain rfl := Option.some.inj hi
        clear hi hil
        have d4 := h4 (hall ⟨4, .data⟩ (by simp) rfl)
        have s1 : (12 : Int) < (n : Int) := by have := HB.out; omega
        have s2 : 12 < n := by have := HB.out; omega
        refine wpOp_step rfl (fun K hK => ?_)
        have HKK := Lib.hid hK; clear hK
        simp only [putAll, Act.put, List.setIfInBounds_toArray, List.set_cons_zero, List.set_cons_succ]
        go_simp
        exact HKK.out _ _ ⟨_, by simp only [putAll, Act.put, List.setIfInBounds_toArray, List.set_cons_zero, List.set_cons_succ, d4] <;> rfl, h0, h1, h2, h3, h4, fun _ => rfl, h6, h7, h8, h9, h10, h11, h12, hB, hF, hG⟩
      · obtain rfl := Option.some.inj hi
        clear hi hil
        have d5 := h5 (hall ⟨5, .data⟩ (by simp) rfl)
        have c12 := (HCUT.out w' hB.out).2.2.2
        refine wpOp_step rfl (fun K hK => ?_)
        have HKK := Lib.hid hK; clear hK
        simp only [putAll, Act.put, List.setIfInBounds_toArray, List.set_cons_zero, List.set_cons_succ]
        go_simp
        exact HKK.out _ _ ⟨_, by simp only [putAll, Act.put, List.setIfInBounds_toArray, List.set_cons_zero, List.set_cons_succ, d5] <;> rfl, h0, h1, h2, h3, h4, h5, fun _ => rfl, h7, h8, h9, h10, h11, h12, hB, hF, hG⟩
      · obtain rfl := Option.some.inj hi
        clear hi hil
        have d6 := h6 (hall ⟨6, .data⟩ (by simp) rfl)
        refine wpOp_step rfl (fun K hK => ?_)
        have HKK := Lib.hid hK; clear hK
        simp only [putAll, Act.put, List.setIfInBounds_toArray, List.set_cons_zero, List.set_cons_succ]
        go_simp
        exact HKK.out _ _ ⟨_, by simp only [putAll, Act.put, List.setIfInBounds_toArray, List.set_cons_zero, List.set_cons_succ, d6] <;> rfl, h0, h1, h2, h3, h4, h5, h6, fun _ => rfl, h8, h9, h10, h11, h12, hB, hF, hG⟩
      · obtain rfl := Option.some.inj hi
        clear hi hil
        refine wpOp_step rfl (fun K hK => ?_)
        have HKK := Lib.hid hK; clear hK
        simp only [putAll, Act.put, List.setIfInBounds_toArray, List.set_cons_zero, List.set_cons_succ]
        go_simp
        exact HKK.out _ _ ⟨_, by simp only [putAll, Act.put, List.setIfInBounds_toArray, List.set_cons_zero, List.set_cons_succ] <;> rfl, h0, h1, h2, h3, h4, h5, h6, h7, fun _ => rfl, h9, h10, h11, h12, hB, hF, hG⟩
      · obtain rfl := Option.some.inj hi
        clear hi hil
        refine wpOp_step rfl (fun K hK => ?_)
        have HKK := Lib.hid hK; clear hK
        simp only [putAll, Act.put, List.setIfInBounds_toArray, List.set_cons_zero, List.set_cons_succ]
        go_simp
        exact HKK.out _ _ ⟨_, by simp only [putAll, Act.put, List.setIfInBounds_toArray, List.set_cons_zero, List.set_cons_succ] <;> rfl, h0, h1, h2, h3, h4, h5, h6, h7, h8, fun _ => rfl, h10, h11, h12, hB, hF, hG⟩
      · obtain rfl := Option.some.inj hi
        clear hi hil
        have d9 := h9 (hall ⟨9, .data⟩ (by simp) rfl)
        have ew := (wrap_is _).trans HEW.out
        refine wpOp_step rfl (fun K hK => ?_)
        have HKK := Lib.hid hK; clear hK
        simp only [putAll, Act.put, List.setIfInBounds_toArray, List.set_cons_zero, List.set_cons_succ]
        go_simp
        exact HKK.out _ _ ⟨_, by simp only [putAll, Act.put, List.setIfInBounds_toArray, List.set_cons_zero, List.set_cons_succ, d9] <;> rfl, h0, h1, h2, h3, h4, h5, h6, h7, h8, h9, fun _ => rfl, h11, h12, hB, hF, hG⟩
      · obtain rfl := Option.some.inj hi
        clear hi hil
        have d8 := h8 (hall ⟨8, .data⟩ (by simp) rfl)
        have d10 := h10 (hall ⟨10, .data⟩ (by simp) rfl)
        have s0 : (13 : Int) ≤ (r : Int) := by have := HZN.out; omega
        have s1 : (r : Int) ≤ (c : Int) := by have := HZN.out; omega
        have s2 : r - 13 = wd := HZN.out.2.2.2.2.2.2
        have s3 : ¬ c = 13 := by have := HB.out; omega
        have s4 : 13 ≤ r := HZN.out.2.2.2.2.2.1
        refine wpOp_step rfl (fun K hK => ?_)
        have HKK := Lib.hid hK; clear hK
        simp only [putAll, Act.put, List.setIfInBounds_toArray, List.set_cons_zero, List.set_cons_succ]
        go_simp
        exact HKK.out _ _ ⟨_, by simp only [putAll, Act.put, List.setIfInBounds_toArray, List.set_cons_zero, List.set_cons_succ, d8, d10] <;> rfl, h0, h1, h2, h3, h4, h5, h6, h7, h8, h9, h10, fun _ => rfl, h12, hB, hF, hG⟩
      · obtain rfl := Option.some.inj hi
        clear hi hil
        have d3 := h3 (hall ⟨3, .data⟩ (by simp) rfl)
        have d7 := h7 (hall ⟨7, .data⟩ (by simp) rfl)
        have d11 := h11 (hall ⟨11, .data⟩ (by simp) rfl)
        refine wpOp_step rfl (fun K hK => ?_)
        have HKK := Lib.hid hK; clear hK
        simp only [putAll, Act.put, List.setIfInBounds_toArray, List.set_cons_zero, List.set_cons_succ]
        go_simp
        exact HKK.out _ _ ⟨_, by simp only [putAll, Act.put, List.setIfInBounds_toArray, List.set_cons_zero, List.set_cons_succ, d3, d7, d11] <;> rfl, h0, h1, h2, h3, h4, h5, h6, h7, h8, h9, h10, h11, fun _ => rfl, hB, hF, hG⟩
      · obtain rfl := Option.some.inj hi
        clear hi hil
        have d12 := h12 (hall ⟨12, .data⟩ (by simp) rfl)
        have hS := (hF hun).out
        have c0 : w'.cell? ⟨w.heap.size, 0, none⟩ = some (.int .i64 0) := hS.cell 0
        have c1 : w'.cell? ⟨w.heap.size, 1, none⟩ = some (.int .i64 0) := hS.cell 1
        have c2 : w'.cell? ⟨w.heap.size, 2, none⟩ = some (.slice none 0 0) := hS.cell 2
        have f0 := hS.free 0
        have f1 := hS.free 1
        have f2 := hS.free 2
        have hlt := hS.lt
        refine wpOp_step rfl (fun K hK => ?_)
        have HKK := Lib.hid hK; clear hK
        simp only [putAll, Act.put, List.setIfInBounds_toArray, List.set_cons_zero, List.set_cons_succ]
        go_simp
        exact HKK.out _ _ ⟨undef, by simp only [putAll, Act.put, List.setIfInBounds_toArray, List.set_cons_zero, List.set_cons_succ, d12] <;> rfl, h0, h1, h2, h3, h4, h5, h6, h7, h8, h9, h10, h11, h12, below_rec3 hB.out (Nat.le_refl _) _ _ _, fun h => Bool.noConfusion h, fun _ => Lib.hid (hS.rec3 _ _ _)⟩
      · omega
    · rintro b' vs wq hall ⟨h0, h1, h2, h3, h4, h5, h6, h7, h8, h9, h10, h11, h12, hB, hF, hG⟩
      have d0 := h0 (hall 0 (by simp))
      have d1 := h1 (hall 1 (by simp))
      have d2 := h2 (hall 2 (by simp))
      have d3 := h3 (hall 3 (by simp))
      have d4 := h4 (hall 4 (by simp))
      have d5 := h5 (hall 5 (by simp))
      have d6 := h6 (hall 6 (by simp))
      have d7 := h7 (hall 7 (by simp))
      have d8 := h8 (hall 8 (by simp))
      have d9 := h9 (hall 9 (by simp))
      have d10 := h10 (hall 10 (by simp))
      have d11 := h11 (hall 11 (by simp))
      have d12 := h12 (hall 12 (by simp))
      have HGG := hG (hall 13 (by simp))
      have HBB := hB
      simp only [putAll, Act.put, List.setIfInBounds_toArray, List.set_cons_zero, List.set_cons_succ, d0, d1, d2, d3, d4, d5, d6, d7, d8, d9, d10, d11, d12]
      clear hall h0 d0 h1 d1 h2 d2 h3 d3 h4 d4 h5 d5 h6 d6 h7 d7 h8 d8 h9 d9 h10 d10 h11 d11 h12 d12 hB hF hG
      have c0 : wq.cell? ⟨w.heap.size, 0, none⟩ = some (.int .i64 sq) := HGG.out.cell 0
      have c1 : wq.cell? ⟨w.heap.size, 1, none⟩ = some (.int .i64 kd) := HGG.out.cell 1
      have c2 : wq.cell? ⟨w.heap.size, 2, none⟩ = some (.slice (some ⟨bk, ofs + 13, none⟩) wd (c - 13)) := HGG.out.cell 2
      have hlt := HGG.out.lt
      clear hus uk HW8
      by_cases hneg : sq < 0
      · have HFR : Hid (res = none) := by rw [Hid, ← HRES.out]; exact if_neg (by omega)
        have HF := Lib.hid (frame_no sq kd (some ⟨bk, ofs + 13, none⟩) wd (c - 13) wq (.inl hneg))
        clear hneg
        go_wp2_with fail
        refine (HF.out).mono ?_
        rintro e w3 ⟨rfl, hb3⟩
        have H3 : Hid (Blk w3 w.heap.size 29 #[.int .i64 sq, .int .i64 kd, .slice (some ⟨bk, ofs + 13, none⟩) wd (c - 13)] ∧ Below w.heap.size w w3) := ⟨(Keep.of_below (S := fun _ => True) hb3).blk HGG.out trivial, HBB.out.trans (hb3.mono HBB.out.size)⟩
        clear c0 c1 c2 hb3 hlt HF
        have c0 : w3.cell? ⟨w.heap.size, 0, none⟩ = some (.int .i64 sq) := H3.out.1.cell 0
        have c1 : w3.cell? ⟨w.heap.size, 1, none⟩ = some (.int .i64 kd) := H3.out.1.cell 1
        have c2 : w3.cell? ⟨w.heap.size, 2, none⟩ = some (.slice (some ⟨bk, ofs + 13, none⟩) wd (c - 13)) := H3.out.1.cell 2
        have f0 := H3.out.1.free 0
        have f1 := H3.out.1.free 1
        have f2 := H3.out.1.free 2
        have hlt := H3.out.1.lt
        go_wp2_with fail
        rw [HFR.out]
        exact bodyPost_ret (results_first rfl rfl rfl (H3.out.1.rec3 _ _ _) ⟨_, _, _, rfl⟩) rfl ⟨_, rfl, below_rec3 H3.out.2 (Nat.le_refl _) _ _ _, .inl ⟨rfl, rfl⟩⟩
      · have HF := Lib.hid (frame_c sq kd _ E wq (HRD.out.on HBB.out) (HCUT.out wq HBB.out).2.1 HE.out.1 (by rw [HE.out.2.1]; have := HZN.out; have := HB.out; omega) ⟨by omega, HE.out.2.2.2.2⟩ HE.out.2.2.2.1)
        have HSQ : Hid (0 ≤ sq) := Lib.hid (by omega)
        clear hneg
        go_wp2_with fail
        refine (HF.out).mono ?_
        rintro e w3 ⟨v3, rfl, ho3, hb3⟩
        have H3 : Hid (Blk w3 w.heap.size 29 #[.int .i64 sq, .int .i64 kd, .slice (some ⟨bk, ofs + 13, none⟩) wd (c - 13)] ∧ Below w.heap.size w w3) := ⟨(Keep.of_below (S := fun _ => True) hb3).blk HGG.out trivial, HBB.out.trans (hb3.mono HBB.out.size)⟩
        have HEQ : Hid (Calls Tryd.prog 38 #[v3, .slice (some ⟨bk, ofs, none⟩) z c] w3 fun e w' => ∃ r : Bool, e = .returned (.bool r) ∧ (r = true ↔ frameI sq kd E = F) ∧ w3 = w') := bytesEqual_c _ _ _ _ w3 ho3.row (HCUT.out w3 H3.out.2).2.2.1 (frameI_ok HE.out.2.2.2.1 HE.out.1) HE.out.2.2.1
        have s1 : (z : Int) ≤ (c : Int) := by have := HZN.out; omega
        have s2 : ¬ c = 0 := by have := HB.out; omega
        clear c0 c1 c2 hb3 hlt HF ho3
        have c0 : w3.cell? ⟨w.heap.size, 0, none⟩ = some (.int .i64 sq) := H3.out.1.cell 0
        have c1 : w3.cell? ⟨w.heap.size, 1, none⟩ = some (.int .i64 kd) := H3.out.1.cell 1
        have c2 : w3.cell? ⟨w.heap.size, 2, none⟩ = some (.slice (some ⟨bk, ofs + 13, none⟩) wd (c - 13)) := H3.out.1.cell 2
        have f0 := H3.out.1.free 0
        have f1 := H3.out.1.free 1
        have f2 := H3.out.1.free 2
        have hlt := H3.out.1.lt
        go_wp2_with fail
        refine (HEQ.out).mono ?_
        rintro e w' ⟨b, rfl, hb, rfl⟩
        have HBQ := Lib.hid hb
        clear hb HEQ
        cases b with
        | true =>
          have HFR : Hid (res = some (sq, kd, E)) := by rw [Hid, ← HRES.out]; exact if_pos ⟨HSQ.out, HBQ.out.1 rfl⟩
          have HLE : Hid (17 + (E.length : Int) = (z : Int)) := by rw [HE.out.2.1]; exact HSZ.out
          go_wp2_with fail
          rw [HFR.out]
          refine bodyPost_ret (results_first rfl rfl rfl (H3.out.1.rec3 _ _ _) ⟨_, _, _, rfl⟩) rfl ⟨.slice (some ⟨bk, ofs + 13, none⟩) wd (c - 13), ?_, below_rec3 H3.out.2 (Nat.le_refl _) _ _ _, ?_⟩
          · show _ = Ending.returned (.tuple #[_, .int .i64 (17 + (E.length : Int))])
            rw [HLE.out]
          · exact (HCUT.out _ (below_rec3 H3.out.2 (Nat.le_refl _) _ _ _)).2.1
        | false =>
          have HFR : Hid (res = none) := by rw [Hid, ← HRES.out]; exact if_neg (fun h => by have := HBQ.out.2 h.2; cases this)
          go_wp2_with fail
          rw [HFR.out]
          exact bodyPost_ret (results_first rfl rfl rfl (H3.out.1.rec3 _ _ _) ⟨_, _, _, rfl⟩) rfl ⟨_, rfl, below_rec3 H3.out.2 (Nat.le_refl _) _ _ _, .inl ⟨rfl, rfl⟩⟩
end Go.Proofs.YteobffggfcmghaaDoor
