/- Layer 13: numbers read; the document's Read. -/
import Derived.Test.YteobffggfcmghaaDoorSd
import Derived.BigQuiet
namespace Go.Proofs.YteobffggfcmghaaDoor
open Go.RowKit
theorem strI_inj {E E' : List Int} (h : OkB E) (h' : OkB E') (e : strI E = strI E') : E = E' := by
  unfold strI at e
  have e2 : (E.map fun x => UInt8.ofNat x.toNat) = E'.map fun x => UInt8.ofNat x.toNat := by
    have := congrArg (fun b : ByteArray => b.data.toList) e
    simpa using this
  have hl : E.length = E'.length := by simpa using congrArg List.length e2
  apply List.ext_getElem hl
  intro i h1 h2
  have e3 : (E.map fun x => UInt8.ofNat x.toNat)[i]? = (E'.map fun x => UInt8.ofNat x.toNat)[i]? := by rw [e2]
  rw [List.getElem?_map, List.getElem?_map, List.getElem?_eq_getElem h1, List.getElem?_eq_getElem h2] at e3
  have e4 : UInt8.ofNat (E[i]).toNat = UInt8.ofNat (E'[i]).toNat := by simpa using e3
  have b1 := h _ (List.getElem_mem h1)
  have b2 := h' _ (List.getElem_mem h2)
  have e5 := congrArg UInt8.toNat e4
  simp only [UInt8.toNat_ofNat'] at e5
  omega
set_option maxHeartbeats 1000000 in
theorem strI_beq {E E' : List Int} (h : OkB E) (h' : OkB E') : ((strI E).toList == (strI E').toList) = decide (E = E') := by
  rw [Bool.eq_iff_iff, beq_iff_eq, ByteArray.toList_eq, ByteArray.toList_eq, decide_eq_true_iff]
  refine ⟨fun e => strI_inj h h' ?_, fun e => by rw [e]⟩
  have e2 : (strI E).data = (strI E').data := Array.toList_inj.1 e
  exact ByteArray.ext e2
def CapS (s : Value) : Prop := ∀ a n c, s = .slice a n c → n ≤ c
/-- What groups say, modulo 2^64; from zig and zag to the number. -/
def valL : List Int → Int
  | [] => 0
  | x :: r => (valL r * 128 + x % 128) % 18446744073709551616
theorem valL_in : ∀ l, 0 ≤ valL l ∧ valL l ≤ 18446744073709551615
  | [] => by decide
  | x :: r => by rw [valL]; omega
def unzigI (z : Int) : Int := if z % 2 = 1 then -(z / 2) - 1 else z / 2
theorem unzigI_in {z : Int} (h : 0 ≤ z ∧ z ≤ 18446744073709551615) : -9223372036854775808 ≤ unzigI z ∧ unzigI z ≤ 9223372036854775807 := by
  unfold unzigI
  split <;> omega
/-- The bytes of some length at a place. -/
def cutL (B : List Int) (at0 n : Nat) : List Int := (B.drop at0).take n
theorem cutL_len {B : List Int} {at0 n : Nat} (h : at0 + n ≤ B.length) : (cutL B at0 n).length = n := by unfold cutL; rw [List.length_take, List.length_drop]; omega
theorem cutL_at {B : List Int} {at0 n j : Nat} (h : j < n) : (cutL B at0 n)[j]? = B[at0 + j]? := by
  unfold cutL; rw [List.getElem?_take_of_lt h, List.getElem?_drop]
theorem cutL_ok {B : List Int} (h : OkB B) (at0 n : Nat) : OkB (cutL B at0 n) := fun x hx => h x (List.mem_of_mem_drop (List.mem_of_mem_take hx))
theorem RowB.cut {w : World} {b o n c : Nat} {B : List Int} (h : RowB w (.slice (some ⟨b, o, none⟩) n c) B) (hn : B.length = n) {at0 k : Nat} (hk : at0 + k ≤ n) (h0 : 0 < k) : RowB w (.slice (some ⟨b, o + at0, none⟩) k (c - at0)) (cutL B at0 k) := by
  obtain ⟨b', o', e, hb, hc⟩ := h.addr (by omega)
  cases e
  refine .inr (.inr ⟨b, o + at0, c - at0, by rw [cutL_len (by omega)], hb, fun i x hx => ?_⟩)
  have hi : i < k := by have := (List.getElem?_eq_some_iff.1 hx).1; rw [cutL_len (by omega)] at this; exact this
  rw [cutL_at hi] at hx
  rw [Nat.add_assoc]; exact hc _ _ hx
/-- The number at a place, and where it ends. -/
def readN (B : List Int) (at0 : Nat) : Nat → Nat → Int × Int
  | 0, _ => (0, -1)
  | f + 1, n => if at0 + n ≤ B.length then (if 128 ≤ bAt B (at0 + n - 1) then readN B at0 f (n + 1) else if intI (unzigI (valL (cutL B at0 n))) = cutL B at0 n then (unzigI (valL (cutL B at0 n)), ((at0 + n : Nat) : Int)) else (0, -1)) else (0, -1)
def readI (B : List Int) (at0 : Nat) : Int × Int := readN B at0 10 1
theorem u64_wrap {z : Int} : IntKind.u64.wrap z = z % 18446744073709551616 := by unfold IntKind.wrap; simp [IntKind.bits, IntKind.signed]
set_option maxHeartbeats 4000000 in
set_option maxRecDepth 100000 in
theorem refRead_c (s : Value) (B : List Int) (a0 : Nat) (w : World) (row : RowB w s B) (hcap : CapS s) (hB : OkB B) (hl : B.length ≤ 100000) (ha : a0 ≤ B.length) : Calls Tryd.prog 26 #[s, .int .i64 (a0 : Int)] w fun e w' => e = .returned (.tuple #[.int .i64 (readI B a0).1, .int .i64 (readI B a0).2]) ∧ Below w.heap.size w w' := by
  unfold readI
  obtain ⟨ao, c, rfl⟩ := row.shape
  obtain ⟨n, hn⟩ : ∃ n, B.length = n := ⟨_, rfl⟩
  have HN := Lib.hid hn
  have HR := Lib.hid row
  have HE := Lib.hid hB
  have HL : Hid (n ≤ 100000 ∧ a0 ≤ n ∧ n ≤ c) := ⟨by omega, by omega, by rw [← hn]; exact hcap _ _ _ rfl⟩
  rw [hn] at HR ⊢
  clear row hB hl hn ha hcap
  go_enter Tryd.func26, Tryd.ntmps26
  go_wp2_with fail
  go_loopw [6] (fun s6 wr => ∃ k : Nat, s6 = .int .i64 (k : Int) ∧ Hid (1 ≤ k ∧ k ≤ 11 ∧ readN B a0 10 1 = readN B a0 (11 - k) k) ∧ Hid (wr = w)) (fun s6 _ => 11 - (intOf s6).toNat)
  case atStart => exact ⟨1, rfl, ⟨by omega, by omega, rfl⟩, rfl⟩
  case round =>
    obtain ⟨k, rfl, hk, hw⟩ := hrel
    have hw' := hw.out
    subst hw'
    clear hw
    obtain ⟨w2, rfl⟩ : ∃ x, x = wr := ⟨_, rfl⟩
    by_cases h10 : k ≤ 10
    · have hd : decide ((k : Int) ≤ 10) = true := by simp; omega
      obtain ⟨m, hm⟩ : ∃ m, a0 + k = m := ⟨_, rfl⟩
      have HM := Lib.hid hm
      have HLL := HL.out
      have ew : wrap64 ((a0 : Int) + (k : Int)) = (m : Int) := by rw [wrapR _ (by omega) (by omega)]; omega
      have HEW : Hid (wrap64 ((a0 : Int) + (k : Int)) = (m : Int)) := ew
      obtain ⟨f, hf⟩ : ∃ f, 11 - k = f + 1 := ⟨10 - k, by omega⟩
      have HK1 := Lib.hid hk.out.1
      by_cases hmn : m ≤ n
      · have hd2 : decide ((m : Int) ≤ (n : Int)) = true := by simp; omega
        have hd2' : decide (m ≤ n) = true := by simp; omega
        obtain ⟨q, hq⟩ : ∃ q, q + 1 = m := ⟨m - 1, by have := hk.out.1; omega⟩
        have hqw : wrap64 ((m : Int) - 1) = (q : Int) := by rw [wrapR _ (by omega) (by omega)]; omega
        have hqn : (q : Int) < (n : Int) := by omega
        obtain ⟨b, o, rfl, hb, hc⟩ := RowB.addr HR.out (by rw [HN.out]; omega)
        have hx := bAt_some (E := B) (k := q) (by rw [HN.out]; omega)
        have c0 := hc q _ hx
        have hxr := HE.out _ (List.mem_of_getElem? hx)
        have HRD : Hid (readN B a0 10 1 = if 128 ≤ bAt B q then readN B a0 f (k + 1) else if intI (unzigI (valL (cutL B a0 k))) = cutL B a0 k then (unzigI (valL (cutL B a0 k)), ((a0 + k : Nat) : Int)) else (0, -1)) := by
          rw [Hid, hk.out.2.2, hf, readN, if_pos (by rw [HN.out]; omega), show a0 + k - 1 = q by omega]
        generalize bAt B q = x at *
        by_cases hx128 : 128 ≤ x
        · have hd3 : decide (x ≥ 128) = true := by simp; omega
          have HN2 : Hid (readN B a0 10 1 = readN B a0 (11 - (k + 1)) (k + 1)) := by
            rw [Hid, HRD.out, if_pos hx128, show 11 - (k + 1) = f by omega]
          have HK2 : Hid (k ≤ 10) := h10
          clear hx hxr hb hc hx128 HRD hq hm hmn hf HLL
          go_wp2_with fail
          exact ⟨⟨k + 1, by go_num, ⟨by omega, by have := HK2.out; omega, HN2.out⟩, Lib.hid trivial⟩, by have := HK2.out; simp [intOf]; omega⟩
        · have hd3 : decide (x ≥ 128) = false := by simp; omega
          have hd4 : decide (128 ≤ x) = false := by simp; omega
          rw [if_neg hx128] at HRD
          obtain ⟨T, hT⟩ : ∃ T, cutL B a0 k = T := ⟨_, rfl⟩
          have HT := Lib.hid hT
          rw [hT] at HRD
          have HTL : Hid (T.length = k) := by rw [Hid, ← hT]; exact cutL_len (by rw [HN.out]; omega)
          have HOT : Hid (OkB T) := by rw [Hid, ← hT]; exact cutL_ok HE.out _ _
          have HCUT : Hid (∀ W, Below w2.heap.size w2 W → RowB W (.slice (some ⟨b, o + a0, none⟩) (m - a0) (c - a0)) T) := fun W hW => by
            rw [← HT.out, show m - a0 = k by have := HM.out; omega]
            exact (HR.out.on hW).cut HN.out (by have := HM.out; omega) HK1.out
          have HSL : Hid ((a0 : Int) ≤ (m : Int) ∧ (m : Int) ≤ (c : Int) ∧ ¬ c = a0 ∧ a0 ≤ m) := (by have := HK1.out; exact ⟨by omega, by omega, by omega, by omega⟩)
          have hk1w : wrap64 ((k : Int) - 1) = (k : Int) - 1 := wrapR _ (by omega) (by omega)
          have HC : Hid (∀ i x, B[i]? = some x → w2.cell? ⟨b, o + i, none⟩ = some (.int .u8 x)) := hc
          have HTA : Hid (∀ j, j < k → T[j]? = B[a0 + j]?) := fun j hj => by rw [← HT.out]; exact cutL_at hj
          have HMN : Hid (m ≤ n) := hmn
          have HK10 : Hid (k ≤ 10) := h10
          clear hx hxr hb hc hx128 hT hq hm hf HLL hk
          go_wp2_with fail
          clear c0 hqw hqn hd4 ew hd hd2 hd2' hd3 hmn h10
          go_loopw [7, 8] (fun s7 s8 wr => ∃ j : Nat, Hid (j ≤ k) ∧ s8 = .int .i64 ((j : Int) - 1) ∧ s7 = .int .u64 (valL (T.drop j)) ∧ Hid (wr = w2)) (fun _ s8 _ => (intOf s8 + 1).toNat)
          case atStart => exact ⟨k, Lib.hid (Nat.le_refl _), by first | rfl | rw [hk1w], by rw [List.drop_of_length_le (by rw [HTL.out]; exact Nat.le_refl _)]; rfl, rfl⟩
          case round =>
            obtain ⟨j, hj, rfl, rfl, hv⟩ := hrel
            have hv' := hv.out
            subst hv'
            clear hv hk1w
            obtain ⟨w2, rfl⟩ : ∃ x, x = wr := ⟨_, rfl⟩
            cases j with
            | succ j =>
              have hj1 : ((j + 1 : Nat) : Int) - 1 = (j : Int) := by omega
              rw [hj1]
              have hd : decide ((j : Int) ≥ 0) = true := by simp
              have hjw : wrap64 ((j : Int) - 1) = (j : Int) - 1 := wrapR _ (by have := HK10.out; have := hj.out; omega) (by have := HK10.out; have := hj.out; omega)
              obtain ⟨q, hq⟩ : ∃ q, a0 + j = q := ⟨_, rfl⟩
              have hqw : wrap64 ((a0 : Int) + (j : Int)) = (q : Int) := by rw [wrapR _ (by have := HK10.out; have := HL.out; have := hj.out; omega) (by have := HK10.out; have := HL.out; have := hj.out; omega)]; omega
              have hqn : (q : Int) < (n : Int) := by have := hj.out; have := HM.out; have := HMN.out; omega
              have hx := bAt_some (E := B) (k := q) (by rw [HN.out]; omega)
              have c0 := HC.out q _ hx
              have hxr := HE.out _ (List.mem_of_getElem? hx)
              have htj := HTA.out j (by have := hj.out; omega)
              rw [hq, hx] at htj
              obtain ⟨z, hz⟩ : ∃ z, valL (T.drop (j + 1)) = z := ⟨_, rfl⟩
              have hzi := valL_in (T.drop (j + 1))
              rw [hz] at hzi
              have hst : valL (T.drop j) = (z * 128 + bAt B q % 128) % 18446744073709551616 := by
                obtain ⟨hjl, hje⟩ := List.getElem?_eq_some_iff.1 htj
                rw [List.drop_eq_getElem_cons hjl, hje, valL, hz]
              generalize bAt B q = x at *
              have r1 : IntKind.u64.wrap (z * 128) = z * 128 % 18446744073709551616 := u64_wrap
              have r2 : x.tmod 128 = x % 128 := Int.tmod_eq_emod_of_nonneg (by omega)
              obtain ⟨y, hy⟩ : ∃ y, x % 128 = y := ⟨_, rfl⟩
              have r3 : IntKind.u8.wrap y = y := by unfold IntKind.wrap; simp [IntKind.bits, IntKind.signed]; omega
              have r4 : IntKind.u64.wrap y = y := by rw [u64_wrap]; omega
              obtain ⟨p, hp⟩ : ∃ p, z * 128 % 18446744073709551616 = p := ⟨_, rfl⟩
              have r5 : IntKind.u64.wrap (p + y) = (z * 128 + y) % 18446744073709551616 := by rw [u64_wrap]; omega
              rw [hy] at r2 hst
              rw [hp] at r1
              have HST := Lib.hid hst
              rw [hz]
              clear hx hxr htj hzi hst hy hp hq hz
              go_wp2_with fail
              exact ⟨⟨j, Lib.hid (by have := hj.out; omega), by first | rfl | rw [hjw], by rw [HST.out], Lib.hid trivial⟩, by simp [intOf]; omega⟩
            | zero =>
              have hj1 : ((0 : Nat) : Int) - 1 = -1 := by omega
              rw [hj1, List.drop_zero]
              obtain ⟨z, hz⟩ : ∃ z, valL T = z := ⟨_, rfl⟩
              have hzi := valL_in T
              rw [hz] at hzi HRD ⊢
              have HZI := Lib.hid hzi
              have r1 : z.tdiv 2 = z / 2 := Int.tdiv_eq_ediv_of_nonneg hzi.1
              have r2 : z.tmod 2 = z % 2 := Int.tmod_eq_emod_of_nonneg hzi.1
              obtain ⟨v, hv⟩ : ∃ v, z / 2 = v := ⟨_, rfl⟩
              have hvi : 0 ≤ v ∧ v ≤ 9223372036854775807 := by omega
              have HVI := Lib.hid hvi
              have r3 : IntKind.u64.wrap v = v := by rw [u64_wrap]; omega
              have r4 : IntKind.i64.wrap v = v := (wrap_is _).trans (wrapR _ (by omega) (by omega))
              have r4' : wrap64 v = v := wrapR _ (by omega) (by omega)
              rw [hv] at r1
              by_cases hodd : z % 2 = 1
              · have r5 : IntKind.u64.wrap 1 = 1 := by rw [u64_wrap]; omega
                have r6 : wrap64 (-v) = -v := wrapR _ (by omega) (by omega)
                have r7 : wrap64 (-v - 1) = -v - 1 := wrapR _ (by omega) (by omega)
                rw [hodd] at r2
                have HU : Hid (unzigI z = -v - 1) := by rw [Hid, unzigI, if_pos hodd, hv]
                rw [HU.out] at HRD
                clear hodd hv hvi hzi hz
                go_upto_region 13 with fail
                simp only [HEW.out, r6, r7]
                clear r1 r2 r3 r4 r4' r5 r6 r7
                obtain ⟨V, hV⟩ : ∃ V, -v - 1 = V := ⟨_, rfl⟩
                rw [hV] at HRD
                have HVI : -9223372036854775808 ≤ V ∧ V ≤ 9223372036854775807 := by have := HVI.out; omega
                simp only [hV]
                clear hV
                have HV : Hid (-9223372036854775808 ≤ V ∧ V ≤ 9223372036854775807) := Lib.hid HVI
                have HOI := Lib.hid (intI_ok HV.out)
                obtain ⟨s1, hs1⟩ : ∃ s, strI (intI V) = s := ⟨_, rfl⟩
                have HS1 := Lib.hid hs1
                obtain ⟨s2, hs2⟩ : ∃ s, strI T = s := ⟨_, rfl⟩
                have HS2 := Lib.hid hs2
                clear hs1 hs2
                by_cases hT : intI V = T
                · have HRES : Hid (readN B a0 10 1 = (V, (m : Int))) := by
                    rw [Hid, HRD.out, if_pos hT, HM.out]
                  have HBQ : Hid ((s1.toList == s2.toList) = true) := Lib.hid (by rw [← HS1.out, ← HS2.out, strI_beq HOI.out HOT.out]; exact decide_eq_true hT)
                  clear hT
                  refine wp_region_put (by kernel_rfl) (by kernel_rfl) (by kernel_rfl) (fun b' vs w' => (b' 0 = true → vs 0 = .int .i64 V) ∧ (b' 2 = true → vs 2 = .string s1) ∧ (b' 3 = true → vs 3 = .slice (some ⟨b, o, none⟩) n c) ∧ (b' 4 = true → vs 4 = .int .i64 (a0 : Int)) ∧ (b' 5 = true → vs 5 = .int .i64 (a0 : Int)) ∧ (b' 6 = true → vs 6 = .int .i64 (k : Int)) ∧ (b' 7 = true → vs 7 = .int .i64 (m : Int)) ∧ (b' 8 = true → vs 8 = .slice (some ⟨b, o + a0, none⟩) (m - a0) (c - a0)) ∧ (b' 9 = true → vs 9 = .string s2) ∧ (b' 10 = true → vs 10 = .bool true) ∧ (b' 1 = true → Hid (RowB w' (vs 1) (intI V))) ∧ (Hid (Below w2.heap.size w2 w' ∧ w2.heap.size ≤ w'.heap.size))) ?_ ?_ ?_
                  · intro vs
                    exact ⟨fun h => Bool.noConfusion h, fun h => Bool.noConfusion h, fun h => Bool.noConfusion h, fun h => Bool.noConfusion h, fun h => Bool.noConfusion h, fun h => Bool.noConfusion h, fun h => Bool.noConfusion h, fun h => Bool.noConfusion h, fun h => Bool.noConfusion h, fun h => Bool.noConfusion h, fun h => Bool.noConfusion h, Lib.hid ⟨below_drewN (Below.refl _ _) 1, Nat.le_refl _⟩⟩
                  · rintro b' vs w' i op hi hun hall ⟨h0, h2, h3, h4, h5, h6, h7, h8, h9, h10, y1, hB⟩
                    have hil : i < 11 := (List.getElem?_eq_some_iff.1 hi).1
                    rcases i with _ | _ | _ | _ | _ | _ | _ | _ | _ | _ | _ | i
                    · obtain rfl := Option.some.inj hi
                      clear hi hil
                      refine wpOp_step rfl (fun K hK => ?_)
                      have HKK := Lib.hid hK; clear hK
                      simp only [putAll, Act.put, List.setIfInBounds_toArray, List.set_cons_zero, List.set_cons_succ]
                      go_simp
                      exact HKK.out _ _ ⟨_, by simp only [putAll, Act.put, List.setIfInBounds_toArray, List.set_cons_zero, List.set_cons_succ] <;> rfl, fun _ => rfl, h2, h3, h4, h5, h6, h7, h8, h9, h10, y1, hB⟩
                    · obtain rfl := Option.some.inj hi
                      clear hi hil
                      have d0 := h0 (hall ⟨0, .data⟩ (by simp) rfl)
                      refine wpOp_step rfl (fun K hK => ?_)
                      have HKK := Lib.hid hK; clear hK
                      simp only [putAll, Act.put, List.setIfInBounds_toArray, List.set_cons_zero, List.set_cons_succ]
                      go_simp
                      refine (refInt_c V w' HV.out).mono ?_
                      rintro e w2' ⟨u2, rfl, ho2, hb2⟩
                      exact HKK.out _ _ ⟨_, by simp only [putAll, Act.put, List.setIfInBounds_toArray, List.set_cons_zero, List.set_cons_succ, d0] <;> rfl, h0, h2, h3, h4, h5, h6, h7, h8, h9, h10, fun _ => Lib.hid (ho2.row), Lib.hid ⟨(hB).out.1.trans (hb2.mono (hB).out.2), Nat.le_trans (hB).out.2 hb2.size⟩⟩
                    · obtain rfl := Option.some.inj hi
                      clear hi hil
                      have o1 := y1 (hall ⟨1, .data⟩ (by simp) rfl)
                      have cv := conv_b o1.out HOI.out
                      rw [HS1.out] at cv
                      refine wpOp_step rfl (fun K hK => ?_)
                      have HKK := Lib.hid hK; clear hK
                      simp only [putAll, Act.put, List.setIfInBounds_toArray, List.set_cons_zero, List.set_cons_succ]
                      go_simp
                      exact HKK.out _ _ ⟨_, by simp only [putAll, Act.put, List.setIfInBounds_toArray, List.set_cons_zero, List.set_cons_succ] <;> rfl, h0, fun _ => rfl, h3, h4, h5, h6, h7, h8, h9, h10, y1, hB⟩
                    · obtain rfl := Option.some.inj hi
                      clear hi hil
                      refine wpOp_step rfl (fun K hK => ?_)
                      have HKK := Lib.hid hK; clear hK
                      simp only [putAll, Act.put, List.setIfInBounds_toArray, List.set_cons_zero, List.set_cons_succ]
                      go_simp
                      exact HKK.out _ _ ⟨_, by simp only [putAll, Act.put, List.setIfInBounds_toArray, List.set_cons_zero, List.set_cons_succ] <;> rfl, h0, h2, fun _ => rfl, h4, h5, h6, h7, h8, h9, h10, y1, hB⟩
                    · obtain rfl := Option.some.inj hi
                      clear hi hil
                      refine wpOp_step rfl (fun K hK => ?_)
                      have HKK := Lib.hid hK; clear hK
                      simp only [putAll, Act.put, List.setIfInBounds_toArray, List.set_cons_zero, List.set_cons_succ]
                      go_simp
                      exact HKK.out _ _ ⟨_, by simp only [putAll, Act.put, List.setIfInBounds_toArray, List.set_cons_zero, List.set_cons_succ] <;> rfl, h0, h2, h3, fun _ => rfl, h5, h6, h7, h8, h9, h10, y1, hB⟩
                    · obtain rfl := Option.some.inj hi
                      clear hi hil
                      refine wpOp_step rfl (fun K hK => ?_)
                      have HKK := Lib.hid hK; clear hK
                      simp only [putAll, Act.put, List.setIfInBounds_toArray, List.set_cons_zero, List.set_cons_succ]
                      go_simp
                      exact HKK.out _ _ ⟨_, by simp only [putAll, Act.put, List.setIfInBounds_toArray, List.set_cons_zero, List.set_cons_succ] <;> rfl, h0, h2, h3, h4, fun _ => rfl, h6, h7, h8, h9, h10, y1, hB⟩
                    · obtain rfl := Option.some.inj hi
                      clear hi hil
                      refine wpOp_step rfl (fun K hK => ?_)
                      have HKK := Lib.hid hK; clear hK
                      simp only [putAll, Act.put, List.setIfInBounds_toArray, List.set_cons_zero, List.set_cons_succ]
                      go_simp
                      exact HKK.out _ _ ⟨_, by simp only [putAll, Act.put, List.setIfInBounds_toArray, List.set_cons_zero, List.set_cons_succ] <;> rfl, h0, h2, h3, h4, h5, fun _ => rfl, h7, h8, h9, h10, y1, hB⟩
                    · obtain rfl := Option.some.inj hi
                      clear hi hil
                      have d5 := h5 (hall ⟨5, .data⟩ (by simp) rfl)
                      have d6 := h6 (hall ⟨6, .data⟩ (by simp) rfl)
                      have ew := (wrap_is _).trans HEW.out
                      refine wpOp_step rfl (fun K hK => ?_)
                      have HKK := Lib.hid hK; clear hK
                      simp only [putAll, Act.put, List.setIfInBounds_toArray, List.set_cons_zero, List.set_cons_succ]
                      go_simp
                      exact HKK.out _ _ ⟨_, by simp only [putAll, Act.put, List.setIfInBounds_toArray, List.set_cons_zero, List.set_cons_succ, d5, d6] <;> rfl, h0, h2, h3, h4, h5, h6, fun _ => rfl, h8, h9, h10, y1, hB⟩
                    · obtain rfl := Option.some.inj hi
                      clear hi hil
                      have d3 := h3 (hall ⟨3, .data⟩ (by simp) rfl)
                      have d4 := h4 (hall ⟨4, .data⟩ (by simp) rfl)
                      have d7 := h7 (hall ⟨7, .data⟩ (by simp) rfl)
                      have s0 : (0 : Int) ≤ (a0 : Int) := by omega
                      have s1' : (a0 : Int) ≤ (m : Int) := HSL.out.1
                      have s2' : (m : Int) ≤ (c : Int) := HSL.out.2.1
                      have s4 : ¬ c = a0 := HSL.out.2.2.1
                      have s5 : a0 ≤ m := HSL.out.2.2.2
                      refine wpOp_step rfl (fun K hK => ?_)
                      have HKK := Lib.hid hK; clear hK
                      simp only [putAll, Act.put, List.setIfInBounds_toArray, List.set_cons_zero, List.set_cons_succ]
                      go_simp
                      exact HKK.out _ _ ⟨_, by simp only [putAll, Act.put, List.setIfInBounds_toArray, List.set_cons_zero, List.set_cons_succ, d3, d4, d7] <;> rfl, h0, h2, h3, h4, h5, h6, h7, fun _ => rfl, h9, h10, y1, hB⟩
                    · obtain rfl := Option.some.inj hi
                      clear hi hil
                      have d8 := h8 (hall ⟨8, .data⟩ (by simp) rfl)
                      have cv := conv_b (HCUT.out w' hB.out.1) HOT.out
                      rw [HS2.out] at cv
                      refine wpOp_step rfl (fun K hK => ?_)
                      have HKK := Lib.hid hK; clear hK
                      simp only [putAll, Act.put, List.setIfInBounds_toArray, List.set_cons_zero, List.set_cons_succ]
                      go_simp
                      exact HKK.out _ _ ⟨_, by simp only [putAll, Act.put, List.setIfInBounds_toArray, List.set_cons_zero, List.set_cons_succ, d8] <;> rfl, h0, h2, h3, h4, h5, h6, h7, h8, fun _ => rfl, h10, y1, hB⟩
                    · obtain rfl := Option.some.inj hi
                      clear hi hil
                      have d2 := h2 (hall ⟨2, .data⟩ (by simp) rfl)
                      have d9 := h9 (hall ⟨9, .data⟩ (by simp) rfl)
                      have hq1 := HBQ.out
                      refine wpOp_step rfl (fun K hK => ?_)
                      have HKK := Lib.hid hK; clear hK
                      simp only [putAll, Act.put, List.setIfInBounds_toArray, List.set_cons_zero, List.set_cons_succ]
                      go_simp
                      exact HKK.out _ _ ⟨_, by simp only [putAll, Act.put, List.setIfInBounds_toArray, List.set_cons_zero, List.set_cons_succ, d2, d9] <;> rfl, h0, h2, h3, h4, h5, h6, h7, h8, h9, fun _ => rfl, y1, hB⟩
                    · omega
                  · rintro b' vs wz hall ⟨h0, h2, h3, h4, h5, h6, h7, h8, h9, h10, y1, hB⟩
                    have d0 := h0 (hall 0 (by simp))
                    have d2 := h2 (hall 2 (by simp))
                    have d3 := h3 (hall 3 (by simp))
                    have d4 := h4 (hall 4 (by simp))
                    have d5 := h5 (hall 5 (by simp))
                    have d6 := h6 (hall 6 (by simp))
                    have d7 := h7 (hall 7 (by simp))
                    have d8 := h8 (hall 8 (by simp))
                    have d9 := h9 (hall 9 (by simp))
                    have d10 := h10 (hall 10 (by simp))
                    have o1 := y1 (hall 1 (by simp))
                    have BB := hB
                    simp only [putAll, Act.put, List.setIfInBounds_toArray, List.set_cons_zero, List.set_cons_succ, d0, d2, d3, d4, d5, d6, d7, d8, d9, d10]
                    clear hall h0 d0 h2 d2 h3 d3 h4 d4 h5 d5 h6 d6 h7 d7 h8 d8 h9 d9 h10 d10 y1 hB
                    clear o1 HCUT
                    generalize vs 1 = u57 at *
                    go_wp2_with fail
                    go_ret2
                    exact ⟨by rw [HRES.out]; first | rfl | (rw [HEW.out]; rfl), BB.out.1⟩
                · have HRES : Hid (readN B a0 10 1 = (0, -1)) := by
                    rw [Hid, HRD.out, if_neg hT]
                  have HBQ : Hid ((s1.toList == s2.toList) = false) := Lib.hid (by rw [← HS1.out, ← HS2.out, strI_beq HOI.out HOT.out]; exact decide_eq_false hT)
                  clear hT
                  refine wp_region_put (by kernel_rfl) (by kernel_rfl) (by kernel_rfl) (fun b' vs w' => (b' 0 = true → vs 0 = .int .i64 V) ∧ (b' 2 = true → vs 2 = .string s1) ∧ (b' 3 = true → vs 3 = .slice (some ⟨b, o, none⟩) n c) ∧ (b' 4 = true → vs 4 = .int .i64 (a0 : Int)) ∧ (b' 5 = true → vs 5 = .int .i64 (a0 : Int)) ∧ (b' 6 = true → vs 6 = .int .i64 (k : Int)) ∧ (b' 7 = true → vs 7 = .int .i64 (m : Int)) ∧ (b' 8 = true → vs 8 = .slice (some ⟨b, o + a0, none⟩) (m - a0) (c - a0)) ∧ (b' 9 = true → vs 9 = .string s2) ∧ (b' 10 = true → vs 10 = .bool false) ∧ (b' 1 = true → Hid (RowB w' (vs 1) (intI V))) ∧ (Hid (Below w2.heap.size w2 w' ∧ w2.heap.size ≤ w'.heap.size))) ?_ ?_ ?_
                  · intro vs
                    exact ⟨fun h => Bool.noConfusion h, fun h => Bool.noConfusion h, fun h => Bool.noConfusion h, fun h => Bool.noConfusion h, fun h => Bool.noConfusion h, fun h => Bool.noConfusion h, fun h => Bool.noConfusion h, fun h => Bool.noConfusion h, fun h => Bool.noConfusion h, fun h => Bool.noConfusion h, fun h => Bool.noConfusion h, Lib.hid ⟨below_drewN (Below.refl _ _) 1, Nat.le_refl _⟩⟩
                  · rintro b' vs w' i op hi hun hall ⟨h0, h2, h3, h4, h5, h6, h7, h8, h9, h10, y1, hB⟩
                    have hil : i < 11 := (List.getElem?_eq_some_iff.1 hi).1
                    rcases i with _ | _ | _ | _ | _ | _ | _ | _ | _ | _ | _ | i
                    · obtain rfl := Option.some.inj hi
                      clear hi hil
                      refine wpOp_step rfl (fun K hK => ?_)
                      have HKK := Lib.hid hK; clear hK
                      simp only [putAll, Act.put, List.setIfInBounds_toArray, List.set_cons_zero, List.set_cons_succ]
                      go_simp
                      exact HKK.out _ _ ⟨_, by simp only [putAll, Act.put, List.setIfInBounds_toArray, List.set_cons_zero, List.set_cons_succ] <;> rfl, fun _ => rfl, h2, h3, h4, h5, h6, h7, h8, h9, h10, y1, hB⟩
                    · obtain rfl := Option.some.inj hi
                      clear hi hil
                      have d0 := h0 (hall ⟨0, .data⟩ (by simp) rfl)
                      refine wpOp_step rfl (fun K hK => ?_)
                      have HKK := Lib.hid hK; clear hK
                      simp only [putAll, Act.put, List.setIfInBounds_toArray, List.set_cons_zero, List.set_cons_succ]
                      go_simp
                      refine (refInt_c V w' HV.out).mono ?_
                      rintro e w2' ⟨u2, rfl, ho2, hb2⟩
                      exact HKK.out _ _ ⟨_, by simp only [putAll, Act.put, List.setIfInBounds_toArray, List.set_cons_zero, List.set_cons_succ, d0] <;> rfl, h0, h2, h3, h4, h5, h6, h7, h8, h9, h10, fun _ => Lib.hid (ho2.row), Lib.hid ⟨(hB).out.1.trans (hb2.mono (hB).out.2), Nat.le_trans (hB).out.2 hb2.size⟩⟩
                    · obtain rfl := Option.some.inj hi
                      clear hi hil
                      have o1 := y1 (hall ⟨1, .data⟩ (by simp) rfl)
                      have cv := conv_b o1.out HOI.out
                      rw [HS1.out] at cv
                      refine wpOp_step rfl (fun K hK => ?_)
                      have HKK := Lib.hid hK; clear hK
                      simp only [putAll, Act.put, List.setIfInBounds_toArray, List.set_cons_zero, List.set_cons_succ]
                      go_simp
                      exact HKK.out _ _ ⟨_, by simp only [putAll, Act.put, List.setIfInBounds_toArray, List.set_cons_zero, List.set_cons_succ] <;> rfl, h0, fun _ => rfl, h3, h4, h5, h6, h7, h8, h9, h10, y1, hB⟩
                    · obtain rfl := Option.some.inj hi
                      clear hi hil
                      refine wpOp_step rfl (fun K hK => ?_)
                      have HKK := Lib.hid hK; clear hK
                      simp only [putAll, Act.put, List.setIfInBounds_toArray, List.set_cons_zero, List.set_cons_succ]
                      go_simp
                      exact HKK.out _ _ ⟨_, by simp only [putAll, Act.put, List.setIfInBounds_toArray, List.set_cons_zero, List.set_cons_succ] <;> rfl, h0, h2, fun _ => rfl, h4, h5, h6, h7, h8, h9, h10, y1, hB⟩
                    · obtain rfl := Option.some.inj hi
                      clear hi hil
                      refine wpOp_step rfl (fun K hK => ?_)
                      have HKK := Lib.hid hK; clear hK
                      simp only [putAll, Act.put, List.setIfInBounds_toArray, List.set_cons_zero, List.set_cons_succ]
                      go_simp
                      exact HKK.out _ _ ⟨_, by simp only [putAll, Act.put, List.setIfInBounds_toArray, List.set_cons_zero, List.set_cons_succ] <;> rfl, h0, h2, h3, fun _ => rfl, h5, h6, h7, h8, h9, h10, y1, hB⟩
                    · obtain rfl := Option.some.inj hi
                      clear hi hil
                      refine wpOp_step rfl (fun K hK => ?_)
                      have HKK := Lib.hid hK; clear hK
                      simp only [putAll, Act.put, List.setIfInBounds_toArray, List.set_cons_zero, List.set_cons_succ]
                      go_simp
                      exact HKK.out _ _ ⟨_, by simp only [putAll, Act.put, List.setIfInBounds_toArray, List.set_cons_zero, List.set_cons_succ] <;> rfl, h0, h2, h3, h4, fun _ => rfl, h6, h7, h8, h9, h10, y1, hB⟩
                    · obtain rfl := Option.some.inj hi
                      clear hi hil
                      refine wpOp_step rfl (fun K hK => ?_)
                      have HKK := Lib.hid hK; clear hK
                      simp only [putAll, Act.put, List.setIfInBounds_toArray, List.set_cons_zero, List.set_cons_succ]
                      go_simp
                      exact HKK.out _ _ ⟨_, by simp only [putAll, Act.put, List.setIfInBounds_toArray, List.set_cons_zero, List.set_cons_succ] <;> rfl, h0, h2, h3, h4, h5, fun _ => rfl, h7, h8, h9, h10, y1, hB⟩
                    · obtain rfl := Option.some.inj hi
                      clear hi hil
                      have d5 := h5 (hall ⟨5, .data⟩ (by simp) rfl)
                      have d6 := h6 (hall ⟨6, .data⟩ (by simp) rfl)
                      have ew := (wrap_is _).trans HEW.out
                      refine wpOp_step rfl (fun K hK => ?_)
                      have HKK := Lib.hid hK; clear hK
                      simp only [putAll, Act.put, List.setIfInBounds_toArray, List.set_cons_zero, List.set_cons_succ]
                      go_simp
                      exact HKK.out _ _ ⟨_, by simp only [putAll, Act.put, List.setIfInBounds_toArray, List.set_cons_zero, List.set_cons_succ, d5, d6] <;> rfl, h0, h2, h3, h4, h5, h6, fun _ => rfl, h8, h9, h10, y1, hB⟩
                    · obtain rfl := Option.some.inj hi
                      clear hi hil
                      have d3 := h3 (hall ⟨3, .data⟩ (by simp) rfl)
                      have d4 := h4 (hall ⟨4, .data⟩ (by simp) rfl)
                      have d7 := h7 (hall ⟨7, .data⟩ (by simp) rfl)
                      have s0 : (0 : Int) ≤ (a0 : Int) := by omega
                      have s1' : (a0 : Int) ≤ (m : Int) := HSL.out.1
                      have s2' : (m : Int) ≤ (c : Int) := HSL.out.2.1
                      have s4 : ¬ c = a0 := HSL.out.2.2.1
                      have s5 : a0 ≤ m := HSL.out.2.2.2
                      refine wpOp_step rfl (fun K hK => ?_)
                      have HKK := Lib.hid hK; clear hK
                      simp only [putAll, Act.put, List.setIfInBounds_toArray, List.set_cons_zero, List.set_cons_succ]
                      go_simp
                      exact HKK.out _ _ ⟨_, by simp only [putAll, Act.put, List.setIfInBounds_toArray, List.set_cons_zero, List.set_cons_succ, d3, d4, d7] <;> rfl, h0, h2, h3, h4, h5, h6, h7, fun _ => rfl, h9, h10, y1, hB⟩
                    · obtain rfl := Option.some.inj hi
                      clear hi hil
                      have d8 := h8 (hall ⟨8, .data⟩ (by simp) rfl)
                      have cv := conv_b (HCUT.out w' hB.out.1) HOT.out
                      rw [HS2.out] at cv
                      refine wpOp_step rfl (fun K hK => ?_)
                      have HKK := Lib.hid hK; clear hK
                      simp only [putAll, Act.put, List.setIfInBounds_toArray, List.set_cons_zero, List.set_cons_succ]
                      go_simp
                      exact HKK.out _ _ ⟨_, by simp only [putAll, Act.put, List.setIfInBounds_toArray, List.set_cons_zero, List.set_cons_succ, d8] <;> rfl, h0, h2, h3, h4, h5, h6, h7, h8, fun _ => rfl, h10, y1, hB⟩
                    · obtain rfl := Option.some.inj hi
                      clear hi hil
                      have d2 := h2 (hall ⟨2, .data⟩ (by simp) rfl)
                      have d9 := h9 (hall ⟨9, .data⟩ (by simp) rfl)
                      have hq1 := HBQ.out
                      refine wpOp_step rfl (fun K hK => ?_)
                      have HKK := Lib.hid hK; clear hK
                      simp only [putAll, Act.put, List.setIfInBounds_toArray, List.set_cons_zero, List.set_cons_succ]
                      go_simp
                      exact HKK.out _ _ ⟨_, by simp only [putAll, Act.put, List.setIfInBounds_toArray, List.set_cons_zero, List.set_cons_succ, d2, d9] <;> rfl, h0, h2, h3, h4, h5, h6, h7, h8, h9, fun _ => rfl, y1, hB⟩
                    · omega
                  · rintro b' vs wz hall ⟨h0, h2, h3, h4, h5, h6, h7, h8, h9, h10, y1, hB⟩
                    have d0 := h0 (hall 0 (by simp))
                    have d2 := h2 (hall 2 (by simp))
                    have d3 := h3 (hall 3 (by simp))
                    have d4 := h4 (hall 4 (by simp))
                    have d5 := h5 (hall 5 (by simp))
                    have d6 := h6 (hall 6 (by simp))
                    have d7 := h7 (hall 7 (by simp))
                    have d8 := h8 (hall 8 (by simp))
                    have d9 := h9 (hall 9 (by simp))
                    have d10 := h10 (hall 10 (by simp))
                    have o1 := y1 (hall 1 (by simp))
                    have BB := hB
                    simp only [putAll, Act.put, List.setIfInBounds_toArray, List.set_cons_zero, List.set_cons_succ, d0, d2, d3, d4, d5, d6, d7, d8, d9, d10]
                    clear hall h0 d0 h2 d2 h3 d3 h4 d4 h5 d5 h6 d6 h7 d7 h8 d8 h9 d9 h10 d10 y1 hB
                    clear o1 HCUT
                    generalize vs 1 = u57 at *
                    go_wp2_with fail
                    go_ret2
                    exact ⟨by rw [HRES.out]; first | rfl | (rw [HEW.out]; rfl), BB.out.1⟩
              · obtain ⟨hodd', hz0⟩ : z % 2 = 0 ∧ True := ⟨by omega, trivial⟩
                have r5 : IntKind.u64.wrap 0 = 0 := by rw [u64_wrap]; omega
                rw [hodd'] at r2
                have HU : Hid (unzigI z = v) := by rw [Hid, unzigI, if_neg hodd, hv]
                rw [HU.out] at HRD
                clear hodd hodd' hz0 hv hvi hzi hz
                go_upto_region 13 with fail
                simp only [HEW.out]
                clear r1 r2 r3 r4 r4' r5
                obtain ⟨V, hV⟩ : ∃ V, v = V := ⟨_, rfl⟩
                rw [hV] at HRD
                have HVI : -9223372036854775808 ≤ V ∧ V ≤ 9223372036854775807 := by have := HVI.out; omega
                simp only [hV]
                clear hV
                have HV : Hid (-9223372036854775808 ≤ V ∧ V ≤ 9223372036854775807) := Lib.hid HVI
                have HOI := Lib.hid (intI_ok HV.out)
                obtain ⟨s1, hs1⟩ : ∃ s, strI (intI V) = s := ⟨_, rfl⟩
                have HS1 := Lib.hid hs1
                obtain ⟨s2, hs2⟩ : ∃ s, strI T = s := ⟨_, rfl⟩
                have HS2 := Lib.hid hs2
                clear hs1 hs2
                by_cases hT : intI V = T
                · have HRES : Hid (readN B a0 10 1 = (V, (m : Int))) := by
                    rw [Hid, HRD.out, if_pos hT, HM.out]
                  have HBQ : Hid ((s1.toList == s2.toList) = true) := Lib.hid (by rw [← HS1.out, ← HS2.out, strI_beq HOI.out HOT.out]; exact decide_eq_true hT)
                  clear hT
                  refine wp_region_put (by kernel_rfl) (by kernel_rfl) (by kernel_rfl) (fun b' vs w' => (b' 0 = true → vs 0 = .int .i64 V) ∧ (b' 2 = true → vs 2 = .string s1) ∧ (b' 3 = true → vs 3 = .slice (some ⟨b, o, none⟩) n c) ∧ (b' 4 = true → vs 4 = .int .i64 (a0 : Int)) ∧ (b' 5 = true → vs 5 = .int .i64 (a0 : Int)) ∧ (b' 6 = true → vs 6 = .int .i64 (k : Int)) ∧ (b' 7 = true → vs 7 = .int .i64 (m : Int)) ∧ (b' 8 = true → vs 8 = .slice (some ⟨b, o + a0, none⟩) (m - a0) (c - a0)) ∧ (b' 9 = true → vs 9 = .string s2) ∧ (b' 10 = true → vs 10 = .bool true) ∧ (b' 1 = true → Hid (RowB w' (vs 1) (intI V))) ∧ (Hid (Below w2.heap.size w2 w' ∧ w2.heap.size ≤ w'.heap.size))) ?_ ?_ ?_
                  · intro vs
                    exact ⟨fun h => Bool.noConfusion h, fun h => Bool.noConfusion h, fun h => Bool.noConfusion h, fun h => Bool.noConfusion h, fun h => Bool.noConfusion h, fun h => Bool.noConfusion h, fun h => Bool.noConfusion h, fun h => Bool.noConfusion h, fun h => Bool.noConfusion h, fun h => Bool.noConfusion h, fun h => Bool.noConfusion h, Lib.hid ⟨below_drewN (Below.refl _ _) 1, Nat.le_refl _⟩⟩
                  · rintro b' vs w' i op hi hun hall ⟨h0, h2, h3, h4, h5, h6, h7, h8, h9, h10, y1, hB⟩
                    have hil : i < 11 := (List.getElem?_eq_some_iff.1 hi).1
                    rcases i with _ | _ | _ | _ | _ | _ | _ | _ | _ | _ | _ | i
                    · obtain rfl := Option.some.inj hi
                      clear hi hil
                      refine wpOp_step rfl (fun K hK => ?_)
                      have HKK := Lib.hid hK; clear hK
                      simp only [putAll, Act.put, List.setIfInBounds_toArray, List.set_cons_zero, List.set_cons_succ]
                      go_simp
                      exact HKK.out _ _ ⟨_, by simp only [putAll, Act.put, List.setIfInBounds_toArray, List.set_cons_zero, List.set_cons_succ] <;> rfl, fun _ => rfl, h2, h3, h4, h5, h6, h7, h8, h9, h10, y1, hB⟩
                    · obtain rfl := Option.some.inj hi
                      clear hi hil
                      have d0 := h0 (hall ⟨0, .data⟩ (by simp) rfl)
                      refine wpOp_step rfl (fun K hK => ?_)
                      have HKK := Lib.hid hK; clear hK
                      simp only [putAll, Act.put, List.setIfInBounds_toArray, List.set_cons_zero, List.set_cons_succ]
                      go_simp
                      refine (refInt_c V w' HV.out).mono ?_
                      rintro e w2' ⟨u2, rfl, ho2, hb2⟩
                      exact HKK.out _ _ ⟨_, by simp only [putAll, Act.put, List.setIfInBounds_toArray, List.set_cons_zero, List.set_cons_succ, d0] <;> rfl, h0, h2, h3, h4, h5, h6, h7, h8, h9, h10, fun _ => Lib.hid (ho2.row), Lib.hid ⟨(hB).out.1.trans (hb2.mono (hB).out.2), Nat.le_trans (hB).out.2 hb2.size⟩⟩
                    · obtain rfl := Option.some.inj hi
                      clear hi hil
                      have o1 := y1 (hall ⟨1, .data⟩ (by simp) rfl)
                      have cv := conv_b o1.out HOI.out
                      rw [HS1.out] at cv
                      refine wpOp_step rfl (fun K hK => ?_)
                      have HKK := Lib.hid hK; clear hK
                      simp only [putAll, Act.put, List.setIfInBounds_toArray, List.set_cons_zero, List.set_cons_succ]
                      go_simp
                      exact HKK.out _ _ ⟨_, by simp only [putAll, Act.put, List.setIfInBounds_toArray, List.set_cons_zero, List.set_cons_succ] <;> rfl, h0, fun _ => rfl, h3, h4, h5, h6, h7, h8, h9, h10, y1, hB⟩
                    · obtain rfl := Option.some.inj hi
                      clear hi hil
                      refine wpOp_step rfl (fun K hK => ?_)
                      have HKK := Lib.hid hK; clear hK
                      simp only [putAll, Act.put, List.setIfInBounds_toArray, List.set_cons_zero, List.set_cons_succ]
                      go_simp
                      exact HKK.out _ _ ⟨_, by simp only [putAll, Act.put, List.setIfInBounds_toArray, List.set_cons_zero, List.set_cons_succ] <;> rfl, h0, h2, fun _ => rfl, h4, h5, h6, h7, h8, h9, h10, y1, hB⟩
                    · obtain rfl := Option.some.inj hi
                      clear hi hil
                      refine wpOp_step rfl (fun K hK => ?_)
                      have HKK := Lib.hid hK; clear hK
                      simp only [putAll, Act.put, List.setIfInBounds_toArray, List.set_cons_zero, List.set_cons_succ]
                      go_simp
                      exact HKK.out _ _ ⟨_, by simp only [putAll, Act.put, List.setIfInBounds_toArray, List.set_cons_zero, List.set_cons_succ] <;> rfl, h0, h2, h3, fun _ => rfl, h5, h6, h7, h8, h9, h10, y1, hB⟩
                    · obtain rfl := Option.some.inj hi
                      clear hi hil
                      refine wpOp_step rfl (fun K hK => ?_)
                      have HKK := Lib.hid hK; clear hK
                      simp only [putAll, Act.put, List.setIfInBounds_toArray, List.set_cons_zero, List.set_cons_succ]
                      go_simp
                      exact HKK.out _ _ ⟨_, by simp only [putAll, Act.put, List.setIfInBounds_toArray, List.set_cons_zero, List.set_cons_succ] <;> rfl, h0, h2, h3, h4, fun _ => rfl, h6, h7, h8, h9, h10, y1, hB⟩
                    · obtain rfl := Option.some.inj hi
                      clear hi hil
                      refine wpOp_step rfl (fun K hK => ?_)
                      have HKK := Lib.hid hK; clear hK
                      simp only [putAll, Act.put, List.setIfInBounds_toArray, List.set_cons_zero, List.set_cons_succ]
                      go_simp
                      exact HKK.out _ _ ⟨_, by simp only [putAll, Act.put, List.setIfInBounds_toArray, List.set_cons_zero, List.set_cons_succ] <;> rfl, h0, h2, h3, h4, h5, fun _ => rfl, h7, h8, h9, h10, y1, hB⟩
                    · obtain rfl := Option.some.inj hi
                      clear hi hil
                      have d5 := h5 (hall ⟨5, .data⟩ (by simp) rfl)
                      have d6 := h6 (hall ⟨6, .data⟩ (by simp) rfl)
                      have ew := (wrap_is _).trans HEW.out
                      refine wpOp_step rfl (fun K hK => ?_)
                      have HKK := Lib.hid hK; clear hK
                      simp only [putAll, Act.put, List.setIfInBounds_toArray, List.set_cons_zero, List.set_cons_succ]
                      go_simp
                      exact HKK.out _ _ ⟨_, by simp only [putAll, Act.put, List.setIfInBounds_toArray, List.set_cons_zero, List.set_cons_succ, d5, d6] <;> rfl, h0, h2, h3, h4, h5, h6, fun _ => rfl, h8, h9, h10, y1, hB⟩
                    · obtain rfl := Option.some.inj hi
                      clear hi hil
                      have d3 := h3 (hall ⟨3, .data⟩ (by simp) rfl)
                      have d4 := h4 (hall ⟨4, .data⟩ (by simp) rfl)
                      have d7 := h7 (hall ⟨7, .data⟩ (by simp) rfl)
                      have s0 : (0 : Int) ≤ (a0 : Int) := by omega
                      have s1' : (a0 : Int) ≤ (m : Int) := HSL.out.1
                      have s2' : (m : Int) ≤ (c : Int) := HSL.out.2.1
                      have s4 : ¬ c = a0 := HSL.out.2.2.1
                      have s5 : a0 ≤ m := HSL.out.2.2.2
                      refine wpOp_step rfl (fun K hK => ?_)
                      have HKK := Lib.hid hK; clear hK
                      simp only [putAll, Act.put, List.setIfInBounds_toArray, List.set_cons_zero, List.set_cons_succ]
                      go_simp
                      exact HKK.out _ _ ⟨_, by simp only [putAll, Act.put, List.setIfInBounds_toArray, List.set_cons_zero, List.set_cons_succ, d3, d4, d7] <;> rfl, h0, h2, h3, h4, h5, h6, h7, fun _ => rfl, h9, h10, y1, hB⟩
                    · obtain rfl := Option.some.inj hi
                      clear hi hil
                      have d8 := h8 (hall ⟨8, .data⟩ (by simp) rfl)
                      have cv := conv_b (HCUT.out w' hB.out.1) HOT.out
                      rw [HS2.out] at cv
                      refine wpOp_step rfl (fun K hK => ?_)
                      have HKK := Lib.hid hK; clear hK
                      simp only [putAll, Act.put, List.setIfInBounds_toArray, List.set_cons_zero, List.set_cons_succ]
                      go_simp
                      exact HKK.out _ _ ⟨_, by simp only [putAll, Act.put, List.setIfInBounds_toArray, List.set_cons_zero, List.set_cons_succ, d8] <;> rfl, h0, h2, h3, h4, h5, h6, h7, h8, fun _ => rfl, h10, y1, hB⟩
                    · obtain rfl := Option.some.inj hi
                      clear hi hil
                      have d2 := h2 (hall ⟨2, .data⟩ (by simp) rfl)
                      have d9 := h9 (hall ⟨9, .data⟩ (by simp) rfl)
                      have hq1 := HBQ.out
                      refine wpOp_step rfl (fun K hK => ?_)
                      have HKK := Lib.hid hK; clear hK
                      simp only [putAll, Act.put, List.setIfInBounds_toArray, List.set_cons_zero, List.set_cons_succ]
                      go_simp
                      exact HKK.out _ _ ⟨_, by simp only [putAll, Act.put, List.setIfInBounds_toArray, List.set_cons_zero, List.set_cons_succ, d2, d9] <;> rfl, h0, h2, h3, h4, h5, h6, h7, h8, h9, fun _ => rfl, y1, hB⟩
                    · omega
                  · rintro b' vs wz hall ⟨h0, h2, h3, h4, h5, h6, h7, h8, h9, h10, y1, hB⟩
                    have d0 := h0 (hall 0 (by simp))
                    have d2 := h2 (hall 2 (by simp))
                    have d3 := h3 (hall 3 (by simp))
                    have d4 := h4 (hall 4 (by simp))
                    have d5 := h5 (hall 5 (by simp))
                    have d6 := h6 (hall 6 (by simp))
                    have d7 := h7 (hall 7 (by simp))
                    have d8 := h8 (hall 8 (by simp))
                    have d9 := h9 (hall 9 (by simp))
                    have d10 := h10 (hall 10 (by simp))
                    have o1 := y1 (hall 1 (by simp))
                    have BB := hB
                    simp only [putAll, Act.put, List.setIfInBounds_toArray, List.set_cons_zero, List.set_cons_succ, d0, d2, d3, d4, d5, d6, d7, d8, d9, d10]
                    clear hall h0 d0 h2 d2 h3 d3 h4 d4 h5 d5 h6 d6 h7 d7 h8 d8 h9 d9 h10 d10 y1 hB
                    clear o1 HCUT
                    generalize vs 1 = u57 at *
                    go_wp2_with fail
                    go_ret2
                    exact ⟨by rw [HRES.out]; first | rfl | (rw [HEW.out]; rfl), BB.out.1⟩
                · have HRES : Hid (readN B a0 10 1 = (0, -1)) := by
                    rw [Hid, HRD.out, if_neg hT]
                  have HBQ : Hid ((s1.toList == s2.toList) = false) := Lib.hid (by rw [← HS1.out, ← HS2.out, strI_beq HOI.out HOT.out]; exact decide_eq_false hT)
                  clear hT
                  refine wp_region_put (by kernel_rfl) (by kernel_rfl) (by kernel_rfl) (fun b' vs w' => (b' 0 = true → vs 0 = .int .i64 V) ∧ (b' 2 = true → vs 2 = .string s1) ∧ (b' 3 = true → vs 3 = .slice (some ⟨b, o, none⟩) n c) ∧ (b' 4 = true → vs 4 = .int .i64 (a0 : Int)) ∧ (b' 5 = true → vs 5 = .int .i64 (a0 : Int)) ∧ (b' 6 = true → vs 6 = .int .i64 (k : Int)) ∧ (b' 7 = true → vs 7 = .int .i64 (m : Int)) ∧ (b' 8 = true → vs 8 = .slice (some ⟨b, o + a0, none⟩) (m - a0) (c - a0)) ∧ (b' 9 = true → vs 9 = .string s2) ∧ (b' 10 = true → vs 10 = .bool false) ∧ (b' 1 = true → Hid (RowB w' (vs 1) (intI V))) ∧ (Hid (Below w2.heap.size w2 w' ∧ w2.heap.size ≤ w'.heap.size))) ?_ ?_ ?_
                  · intro vs
                    exact ⟨fun h => Bool.noConfusion h, fun h => Bool.noConfusion h, fun h => Bool.noConfusion h, fun h => Bool.noConfusion h, fun h => Bool.noConfusion h, fun h => Bool.noConfusion h, fun h => Bool.noConfusion h, fun h => Bool.noConfusion h, fun h => Bool.noConfusion h, fun h => Bool.noConfusion h, fun h => Bool.noConfusion h, Lib.hid ⟨below_drewN (Below.refl _ _) 1, Nat.le_refl _⟩⟩
                  · rintro b' vs w' i op hi hun hall ⟨h0, h2, h3, h4, h5, h6, h7, h8, h9, h10, y1, hB⟩
                    have hil : i < 11 := (List.getElem?_eq_some_iff.1 hi).1
                    rcases i with _ | _ | _ | _ | _ | _ | _ | _ | _ | _ | _ | i
                    · obtain rfl := Option.some.inj hi
                      clear hi hil
                      refine wpOp_step rfl (fun K hK => ?_)
                      have HKK := Lib.hid hK; clear hK
                      simp only [putAll, Act.put, List.setIfInBounds_toArray, List.set_cons_zero, List.set_cons_succ]
                      go_simp
                      exact HKK.out _ _ ⟨_, by simp only [putAll, Act.put, List.setIfInBounds_toArray, List.set_cons_zero, List.set_cons_succ] <;> rfl, fun _ => rfl, h2, h3, h4, h5, h6, h7, h8, h9, h10, y1, hB⟩
                    · obtain rfl := Option.some.inj hi
                      clear hi hil
                      have d0 := h0 (hall ⟨0, .data⟩ (by simp) rfl)
                      refine wpOp_step rfl (fun K hK => ?_)
                      have HKK := Lib.hid hK; clear hK
                      simp only [putAll, Act.put, List.setIfInBounds_toArray, List.set_cons_zero, List.set_cons_succ]
                      go_simp
                      refine (refInt_c V w' HV.out).mono ?_
                      rintro e w2' ⟨u2, rfl, ho2, hb2⟩
                      exact HKK.out _ _ ⟨_, by simp only [putAll, Act.put, List.setIfInBounds_toArray, List.set_cons_zero, List.set_cons_succ, d0] <;> rfl, h0, h2, h3, h4, h5, h6, h7, h8, h9, h10, fun _ => Lib.hid (ho2.row), Lib.hid ⟨(hB).out.1.trans (hb2.mono (hB).out.2), Nat.le_trans (hB).out.2 hb2.size⟩⟩
                    · obtain rfl := Option.some.inj hi
                      clear hi hil
                      have o1 := y1 (hall ⟨1, .data⟩ (by simp) rfl)
                      have cv := conv_b o1.out HOI.out
                      rw [HS1.out] at cv
                      refine wpOp_step rfl (fun K hK => ?_)
                      have HKK := Lib.hid hK; clear hK
                      simp only [putAll, Act.put, List.setIfInBounds_toArray, List.set_cons_zero, List.set_cons_succ]
                      go_simp
                      exact HKK.out _ _ ⟨_, by simp only [putAll, Act.put, List.setIfInBounds_toArray, List.set_cons_zero, List.set_cons_succ] <;> rfl, h0, fun _ => rfl, h3, h4, h5, h6, h7, h8, h9, h10, y1, hB⟩
                    · obtain rfl := Option.some.inj hi
                      clear hi hil
                      refine wpOp_step rfl (fun K hK => ?_)
                      have HKK := Lib.hid hK; clear hK
                      simp only [putAll, Act.put, List.setIfInBounds_toArray, List.set_cons_zero, List.set_cons_succ]
                      go_simp
                      exact HKK.out _ _ ⟨_, by simp only [putAll, Act.put, List.setIfInBounds_toArray, List.set_cons_zero, List.set_cons_succ] <;> rfl, h0, h2, fun _ => rfl, h4, h5, h6, h7, h8, h9, h10, y1, hB⟩
                    · obtain rfl := Option.some.inj hi
                      clear hi hil
                      refine wpOp_step rfl (fun K hK => ?_)
                      have HKK := Lib.hid hK; clear hK
                      simp only [putAll, Act.put, List.setIfInBounds_toArray, List.set_cons_zero, List.set_cons_succ]
                      go_simp
                      exact HKK.out _ _ ⟨_, by simp only [putAll, Act.put, List.setIfInBounds_toArray, List.set_cons_zero, List.set_cons_succ] <;> rfl, h0, h2, h3, fun _ => rfl, h5, h6, h7, h8, h9, h10, y1, hB⟩
                    · obtain rfl := Option.some.inj hi
                      clear hi hil
                      refine wpOp_step rfl (fun K hK => ?_)
                      have HKK := Lib.hid hK; clear hK
                      simp only [putAll, Act.put, List.setIfInBounds_toArray, List.set_cons_zero, List.set_cons_succ]
                      go_simp
                      exact HKK.out _ _ ⟨_, by simp only [putAll, Act.put, List.setIfInBounds_toArray, List.set_cons_zero, List.set_cons_succ] <;> rfl, h0, h2, h3, h4, fun _ => rfl, h6, h7, h8, h9, h10, y1, hB⟩
                    · obtain rfl := Option.some.inj hi
                      clear hi hil
                      refine wpOp_step rfl (fun K hK => ?_)
                      have HKK := Lib.hid hK; clear hK
                      simp only [putAll, Act.put, List.setIfInBounds_toArray, List.set_cons_zero, List.set_cons_succ]
                      go_simp
                      exact HKK.out _ _ ⟨_, by simp only [putAll, Act.put, List.setIfInBounds_toArray, List.set_cons_zero, List.set_cons_succ] <;> rfl, h0, h2, h3, h4, h5, fun _ => rfl, h7, h8, h9, h10, y1, hB⟩
                    · obtain rfl := Option.some.inj hi
                      clear hi hil
                      have d5 := h5 (hall ⟨5, .data⟩ (by simp) rfl)
                      have d6 := h6 (hall ⟨6, .data⟩ (by simp) rfl)
                      have ew := (wrap_is _).trans HEW.out
                      refine wpOp_step rfl (fun K hK => ?_)
                      have HKK := Lib.hid hK; clear hK
                      simp only [putAll, Act.put, List.setIfInBounds_toArray, List.set_cons_zero, List.set_cons_succ]
                      go_simp
                      exact HKK.out _ _ ⟨_, by simp only [putAll, Act.put, List.setIfInBounds_toArray, List.set_cons_zero, List.set_cons_succ, d5, d6] <;> rfl, h0, h2, h3, h4, h5, h6, fun _ => rfl, h8, h9, h10, y1, hB⟩
                    · obtain rfl := Option.some.inj hi
                      clear hi hil
                      have d3 := h3 (hall ⟨3, .data⟩ (by simp) rfl)
                      have d4 := h4 (hall ⟨4, .data⟩ (by simp) rfl)
                      have d7 := h7 (hall ⟨7, .data⟩ (by simp) rfl)
                      have s0 : (0 : Int) ≤ (a0 : Int) := by omega
                      have s1' : (a0 : Int) ≤ (m : Int) := HSL.out.1
                      have s2' : (m : Int) ≤ (c : Int) := HSL.out.2.1
                      have s4 : ¬ c = a0 := HSL.out.2.2.1
                      have s5 : a0 ≤ m := HSL.out.2.2.2
                      refine wpOp_step rfl (fun K hK => ?_)
                      have HKK := Lib.hid hK; clear hK
                      simp only [putAll, Act.put, List.setIfInBounds_toArray, List.set_cons_zero, List.set_cons_succ]
                      go_simp
                      exact HKK.out _ _ ⟨_, by simp only [putAll, Act.put, List.setIfInBounds_toArray, List.set_cons_zero, List.set_cons_succ, d3, d4, d7] <;> rfl, h0, h2, h3, h4, h5, h6, h7, fun _ => rfl, h9, h10, y1, hB⟩
                    · obtain rfl := Option.some.inj hi
                      clear hi hil
                      have d8 := h8 (hall ⟨8, .data⟩ (by simp) rfl)
                      have cv := conv_b (HCUT.out w' hB.out.1) HOT.out
                      rw [HS2.out] at cv
                      refine wpOp_step rfl (fun K hK => ?_)
                      have HKK := Lib.hid hK; clear hK
                      simp only [putAll, Act.put, List.setIfInBounds_toArray, List.set_cons_zero, List.set_cons_succ]
                      go_simp
                      exact HKK.out _ _ ⟨_, by simp only [putAll, Act.put, List.setIfInBounds_toArray, List.set_cons_zero, List.set_cons_succ, d8] <;> rfl, h0, h2, h3, h4, h5, h6, h7, h8, fun _ => rfl, h10, y1, hB⟩
                    · obtain rfl := Option.some.inj hi
                      clear hi hil
                      have d2 := h2 (hall ⟨2, .data⟩ (by simp) rfl)
                      have d9 := h9 (hall ⟨9, .data⟩ (by simp) rfl)
                      have hq1 := HBQ.out
                      refine wpOp_step rfl (fun K hK => ?_)
                      have HKK := Lib.hid hK; clear hK
                      simp only [putAll, Act.put, List.setIfInBounds_toArray, List.set_cons_zero, List.set_cons_succ]
                      go_simp
                      exact HKK.out _ _ ⟨_, by simp only [putAll, Act.put, List.setIfInBounds_toArray, List.set_cons_zero, List.set_cons_succ, d2, d9] <;> rfl, h0, h2, h3, h4, h5, h6, h7, h8, h9, fun _ => rfl, y1, hB⟩
                    · omega
                  · rintro b' vs wz hall ⟨h0, h2, h3, h4, h5, h6, h7, h8, h9, h10, y1, hB⟩
                    have d0 := h0 (hall 0 (by simp))
                    have d2 := h2 (hall 2 (by simp))
                    have d3 := h3 (hall 3 (by simp))
                    have d4 := h4 (hall 4 (by simp))
                    have d5 := h5 (hall 5 (by simp))
                    have d6 := h6 (hall 6 (by simp))
                    have d7 := h7 (hall 7 (by simp))
                    have d8 := h8 (hall 8 (by simp))
                    have d9 := h9 (hall 9 (by simp))
                    have d10 := h10 (hall 10 (by simp))
                    have o1 := y1 (hall 1 (by simp))
                    have BB := hB
                    simp only [putAll, Act.put, List.setIfInBounds_toArray, List.set_cons_zero, List.set_cons_succ, d0, d2, d3, d4, d5, d6, d7, d8, d9, d10]
                    clear hall h0 d0 h2 d2 h3 d3 h4 d4 h5 d5 h6 d6 h7 d7 h8 d8 h9 d9 h10 d10 y1 hB
                    clear o1 HCUT
                    generalize vs 1 = u57 at *
                    go_wp2_with fail
                    go_ret2
                    exact ⟨by rw [HRES.out]; first | rfl | (rw [HEW.out]; rfl), BB.out.1⟩
      · have hd2 : decide ((m : Int) ≤ (n : Int)) = false := by simp; omega
        have hd2' : decide (m ≤ n) = false := by simp; omega
        have HRES : Hid (readN B a0 10 1 = (0, -1)) := by
          rw [Hid, hk.out.2.2, hf, readN, if_neg (by rw [HN.out]; omega)]
        clear hmn hf hm HLL
        go_wp2_with fail
        go_ret2
        exact ⟨by rw [HRES.out]; rfl, Below.refl _ _⟩
    · have hd : decide ((k : Int) ≤ 10) = false := by simp; omega
      have HRES : Hid (readN B a0 10 1 = (0, -1)) := by
        have := hk.out
        rw [Hid, this.2.2, show 11 - k = 0 by omega]; rfl
      clear h10
      go_wp2_with fail
      go_ret2
      exact ⟨by rw [HRES.out]; rfl, Below.refl _ _⟩
end Go.Proofs.YteobffggfcmghaaDoor
