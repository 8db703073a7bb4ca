/- Layer 13: the law FrameFrames. -/
import Derived.Test.YteobffggfcmghaaDoorVf
import Derived.Test.YteobffggfcmghaaDoorUj
import Derived.Test.YteobffggfcmghaaDoorVh
namespace Go.Proofs.YteobffggfcmghaaDoor
open Go.RowKit
theorem scan_one {seq kind : Int} {E : List Int} (hs : 0 ≤ seq ∧ seq ≤ 9223372036854775807) (hE : E.length ≤ 60000) : scanI (frameI seq kind E) ((frameI seq kind E).length + 1) 0 seq = ([(seq, kind, E)], (frameI seq kind E).length) := by
  have hl := frameI_len seq kind E
  have hr : recAt (frameI seq kind E) 0 seq = some (kind, E) := by
    have key := recAt_mid [] [] (seq := seq) (kind := kind) (E := E) hs.1 (by omega)
    simpa using key
  have hn : ∀ q, recAt (frameI seq kind E) (0 + 17 + E.length) q = none := fun q => by
    unfold recAt
    rw [if_neg (by omega)]
  rw [scanI_some hs.2 hr, scanI_none (hn _), hl, Nat.zero_add]
theorem Blk.recs {w : World} {g : Nat} {q k : Int} {s : Value} (h : Blk w g 29 #[.int .i64 q, .int .i64 k, s]) : w.cell? ⟨g, 0, none⟩ = some (.int .i64 q) ∧ w.cell? ⟨g, 1, none⟩ = some (.int .i64 k) ∧ w.cell? ⟨g, 2, none⟩ = some s := ⟨h.cell 0, h.cell 1, h.cell 2⟩
set_option maxHeartbeats 8000000 in
set_option maxRecDepth 100000 in
theorem frames_law (seq kind : Int) (s : Value) (E : List Int) (w : World) (hrd : Rd w) (row : RowB w s E) (hE : OkB E) (hsq : rngN seq) : Calls Tryd.prog 4 #[recA seq kind s] w fun e w' => e = .returned (.bool true) ∧ Below w.heap.size w w' := by
  obtain ⟨ao, ac, rfl⟩ := row.shape
  obtain ⟨n, hn⟩ : ∃ n, E.length = n := ⟨_, rfl⟩
  rw [hn] at row ⊢
  obtain ⟨w0, hw0⟩ : ∃ x, x = w.alloc (.cells #[.int .i64 seq, .int .i64 kind, .slice ao n ac] 29) := ⟨_, rfl⟩
  have H0 : Hid (Blk w0 w.heap.size 29 #[.int .i64 seq, .int .i64 kind, .slice ao n ac] ∧ Below w.heap.size w w0) := by
    subst hw0
    exact ⟨Blk.new _ _ _, (Below.refl _ _).alloc (Nat.le_refl _) _⟩
  have HN : Hid (E.length = n ∧ OkB E) := ⟨hn, hE⟩
  have HR := Lib.hid row
  have HRD := Lib.hid hrd
  have HSQ := Lib.hid hsq
  obtain ⟨c0, c1, c2⟩ := H0.out.1.recs
  have hlt := H0.out.1.lt
  clear row hrd hE hn hsq
  by_cases hbig : n > 3000
  · have d1 : decide ((n : Int) > 3000) = true := by simp; omega
    have d1' : decide (3000 < n) = true := by simp; omega
    clear hbig
    go_enter Tryd.func4, Tryd.ntmps4
    go_upto_region 1 with fail
    rw [← hw0]
    clear hw0
    go_wp2_with fail
    refine (awake13_c w0 (HRD.out.on H0.out.2)).mono ?_
    rintro e w1 ⟨rfl, hb⟩
    have H1 : Hid (Below w.heap.size w w1) := H0.out.2.trans (hb.mono H0.out.2.size)
    clear hb
    go_wp2_with fail
    go_ret
    exact ⟨rfl, H1.out⟩
  have d1 : decide ((n : Int) > 3000) = false := by simp; omega
  have d1' : decide (3000 < n) = false := by simp; omega
  have HL : Hid (n ≤ 3000) := Lib.hid (by omega)
  clear hbig
  by_cases hbad : seq < 0 ∨ kind < 0 ∨ kind > 255
  · have HF := Lib.hid (frame_no seq kind ao n ac w0 hbad)
    have hcase : seq < 0 ∨ (¬ seq < 0 ∧ kind < 0) ∨ (¬ seq < 0 ∧ ¬ kind < 0 ∧ kind > 255) := by omega
    clear hbad
    have fin : ∀ w1, Below w0.heap.size w0 w1 → Hid (Blk w1 w.heap.size 29 #[.int .i64 seq, .int .i64 kind, .slice ao n ac] ∧ Below w.heap.size w w1) := fun w1 hb => ⟨(Keep.of_below (S := fun _ => True) hb).blk H0.out.1 trivial, H0.out.2.trans (hb.mono H0.out.2.size)⟩
    have FIN := Lib.hid fin
    clear fin
    rcases hcase with q1 | ⟨q1, q2⟩ | ⟨q1, q2, q3⟩
    · have d2 : decide (seq < 0) = true := by simp; omega
      clear q1
      go_enter Tryd.func4, Tryd.ntmps4
      go_upto_region 1 with fail
      rw [← hw0]
      clear hw0
      go_wp2_with fail
      refine (HF.out).mono ?_
      rintro e w1 ⟨rfl, hb⟩
      have H1 := FIN.out w1 hb
      clear c0 c1 c2 hlt hb HF
      obtain ⟨c0, c1, c2⟩ := H1.out.1.recs
      have hlt := H1.out.1.lt
      go_wp2_with fail
      refine (awake13_c w1 (HRD.out.on H1.out.2)).mono ?_
      rintro e w2 ⟨rfl, hb⟩
      have H2 : Hid (Below w.heap.size w w2) := H1.out.2.trans (hb.mono H1.out.2.size)
      clear hb
      go_wp2_with fail
      go_ret
      exact ⟨rfl, H2.out⟩
    · have d2 : decide (seq < 0) = false := by simp; omega
      have d3 : decide (kind < 0) = true := by simp; omega
      clear q1 q2
      go_enter Tryd.func4, Tryd.ntmps4
      go_upto_region 1 with fail
      rw [← hw0]
      clear hw0
      go_wp2_with fail
      refine (HF.out).mono ?_
      rintro e w1 ⟨rfl, hb⟩
      have H1 := FIN.out w1 hb
      clear c0 c1 c2 hlt hb HF
      obtain ⟨c0, c1, c2⟩ := H1.out.1.recs
      have hlt := H1.out.1.lt
      go_wp2_with fail
      refine (awake13_c w1 (HRD.out.on H1.out.2)).mono ?_
      rintro e w2 ⟨rfl, hb⟩
      have H2 : Hid (Below w.heap.size w w2) := H1.out.2.trans (hb.mono H1.out.2.size)
      clear hb
      go_wp2_with fail
      go_ret
      exact ⟨rfl, H2.out⟩
    · have d2 : decide (seq < 0) = false := by simp; omega
      have d3 : decide (kind < 0) = false := by simp; omega
      have d4 : decide (kind > 255) = true := by simp; omega
      clear q1 q2 q3
      go_enter Tryd.func4, Tryd.ntmps4
      go_upto_region 1 with fail
      rw [← hw0]
      clear hw0
      go_wp2_with fail
      refine (HF.out).mono ?_
      rintro e w1 ⟨rfl, hb⟩
      have H1 := FIN.out w1 hb
      clear c0 c1 c2 hlt hb HF
      obtain ⟨c0, c1, c2⟩ := H1.out.1.recs
      have hlt := H1.out.1.lt
      go_wp2_with fail
      refine (awake13_c w1 (HRD.out.on H1.out.2)).mono ?_
      rintro e w2 ⟨rfl, hb⟩
      have H2 : Hid (Below w.heap.size w w2) := H1.out.2.trans (hb.mono H1.out.2.size)
      clear hb
      go_wp2_with fail
      go_ret
      exact ⟨rfl, H2.out⟩
  · have hsr : 0 ≤ seq ∧ seq ≤ 9223372036854775807 := ⟨by omega, HSQ.out.2⟩
    have hkr : 0 ≤ kind ∧ kind ≤ 255 := ⟨by omega, by omega⟩
    have d2 : decide (seq < 0) = false := by simp; omega
    have d3 : decide (kind < 0) = false := by simp; omega
    have d4 : decide (kind > 255) = false := by simp; omega
    have HK : Hid ((0 ≤ seq ∧ seq ≤ 9223372036854775807) ∧ 0 ≤ kind ∧ kind ≤ 255) := ⟨hsr, hkr⟩
    have HF := Lib.hid (frame_c seq kind (.slice ao n ac) E w0 (HRD.out.on H0.out.2) (HR.out.on H0.out.2) HN.out.2 (by rw [HN.out.1]; have := HL.out; omega) hsr hkr)
    obtain ⟨F, hF⟩ : ∃ F, frameI seq kind E = F := ⟨_, rfl⟩
    have HFF : Hid (frameI seq kind E = F ∧ F.length = 17 + n ∧ OkB F) := ⟨hF, by rw [← hF, frameI_len, HN.out.1], by rw [← hF]; exact frameI_ok hkr HN.out.2⟩
    rw [hF] at HF
    clear hbad hsr hkr hF
    go_enter Tryd.func4, Tryd.ntmps4
    go_upto_region 1 with fail
    rw [← hw0]
    clear hw0
    go_wp2_with fail
    refine (HF.out).mono ?_
    rintro e w1 ⟨v1, rfl, ho1, hb⟩
    obtain ⟨fa, fc, rfl⟩ := ho1.shape
    rw [HFF.out.2.1] at ho1 ⊢
    have H1 : Hid (Blk w1 w.heap.size 29 #[.int .i64 seq, .int .i64 kind, .slice ao n ac] ∧ Below w.heap.size w w1 ∧ OwnB w1 w.heap.size (.slice fa (17 + n) fc) F) := ⟨(Keep.of_below (S := fun _ => True) hb).blk H0.out.1 trivial, H0.out.2.trans (hb.mono H0.out.2.size), owns_base ho1 H0.out.2.size⟩
    clear c0 c1 c2 hlt hb HF ho1
    obtain ⟨c0, c1, c2⟩ := H1.out.1.recs
    have hlt := H1.out.1.lt
    have HSC : Hid (Calls Tryd.prog 13 #[.slice fa (17 + n) fc, .int .i64 seq] w1 (ScanQ w1 29 ([(seq, kind, E)], 17 + n))) := by
      have key := scan_c _ F seq w1 (HRD.out.on H1.out.2.1) H1.out.2.2.row HFF.out.2.2 H1.out.2.2.cap (by rw [HFF.out.2.1]; have := HL.out; omega) HSQ.out
      have e := scan_one (kind := kind) (E := E) HK.out.1 (by rw [HN.out.1]; have := HL.out; omega)
      rw [HFF.out.1, HFF.out.2.1] at e
      rw [HFF.out.2.1, e] at key
      exact key
    go_wp2_with fail
    refine (HSC.out).mono ?_
    rintro e w2 ⟨v2, X, rfl, hX, hm, hb⟩
    obtain ⟨r, rfl⟩ : ∃ r, X = [r] := by
      have hl := congrArg List.length hm
      rw [List.length_map] at hl
      match X, hl with
      | [r], _ => exact ⟨r, rfl⟩
    obtain ⟨q', k', dv, E'⟩ := r
    have hcore : q' = seq ∧ k' = kind ∧ E' = E := by simpa [coreR] using hm
    obtain ⟨rfl, rfl, rfl⟩ := hcore
    obtain ⟨va, vc, rfl⟩ := hX.shape
    obtain ⟨g2, rfl, hg2, k0, k1, k2⟩ := hX.at (i := 0) rfl
    have hdv := hX.2 _ (List.mem_singleton.2 rfl)
    simp only at hdv k0 k1 k2
    obtain ⟨da, dc, rfl⟩ := hdv.shape
    rw [HN.out.1] at hdv k2
    have H2 : Hid (Blk w2 w.heap.size 29 #[.int .i64 q', .int .i64 k', .slice ao n ac] ∧ Below w.heap.size w w2 ∧ RowB w2 (.slice fa (17 + n) fc) F ∧ RowB w2 (.slice da n dc) E') := ⟨(Keep.of_below (S := fun _ => True) hb).blk H1.out.1 trivial, H1.out.2.1.trans (hb.mono H1.out.2.1.size), H1.out.2.2.row.on hb, hdv.row⟩
    have HC2 : Hid (g2 < w2.heap.size ∧ w2.cell? ⟨g2, 0, none⟩ = some (.int .i64 q') ∧ w2.cell? ⟨g2, 1, none⟩ = some (.int .i64 k') ∧ w2.cell? ⟨g2, 2, none⟩ = some (.slice da n dc)) := ⟨hg2, k0, k1, k2⟩
    clear c0 c1 c2 hlt hb HSC hX hm hdv k0 k1 k2 hg2
    have HFAC : Hid (∀ W, Below w2.heap.size w2 W → W.cell? ⟨w.heap.size, 0, none⟩ = some (.int .i64 q') ∧ W.cell? ⟨w.heap.size, 1, none⟩ = some (.int .i64 k') ∧ W.cell? ⟨w.heap.size, 2, none⟩ = some (.slice ao n ac) ∧ W.cell? ⟨g2, 0, none⟩ = some (.int .i64 q') ∧ W.cell? ⟨g2, 1, none⟩ = some (.int .i64 k') ∧ W.cell? ⟨g2, 2, none⟩ = some (.slice da n dc) ∧ RowB W (.slice da n dc) E' ∧ RowB W (.slice ao n ac) E') := fun W hW => by
      have hb' : Blk W w.heap.size 29 #[.int .i64 q', .int .i64 k', .slice ao n ac] := (Keep.of_below (S := fun _ => True) hW).blk H2.out.1 trivial
      exact ⟨hb'.cell 0, hb'.cell 1, hb'.cell 2, (cell_below hW HC2.out.1).trans HC2.out.2.1, (cell_below hW HC2.out.1).trans HC2.out.2.2.1, (cell_below hW HC2.out.1).trans HC2.out.2.2.2, H2.out.2.2.2.on hW, HR.out.on (H2.out.2.1.trans (hW.mono H2.out.2.1.size))⟩
    have HRF : Hid (∀ W, Below w2.heap.size w2 W → Calls Tryd.prog 14 #[.int .i64 q', .int .i64 k', .slice ao n ac] W fun e w' => ∃ v a c, e = .returned v ∧ v = .slice a (17 + n) c ∧ RowB w' (.slice a (17 + n) c) F ∧ Below W.heap.size W w') := fun W hW => by
      have key := refFrame_c q' k' (.slice ao n ac) E' W (HFAC.out W hW).2.2.2.2.2.2.2 HN.out.2 (by rw [HN.out.1]; have := HL.out; omega) HK.out.1 HK.out.2
      rw [HFF.out.1] at key
      refine key.mono ?_
      rintro e w' ⟨v, rfl, ho, hb⟩
      obtain ⟨a, c, rfl⟩ := ho.shape
      rw [HFF.out.2.1] at ho ⊢
      exact ⟨_, a, c, rfl, rfl, ho.row, hb⟩
    obtain ⟨sF, hsF⟩ : ∃ q, strI F = q := ⟨_, rfl⟩
    obtain ⟨sE, hsE⟩ : ∃ q, strI E' = q := ⟨_, rfl⟩
    have HSF := Lib.hid hsF
    have HSE := Lib.hid hsE
    have HHLT : Hid (w.heap.size < w2.heap.size) := H2.out.1.lt
    clear hsF hsE
    go_upto_region 7 with fail
    clear d1 d1' d2 d3 d4
    simp only [List.append_eq, List.cons_append, List.nil_append]
    obtain ⟨V, hV⟩ : ∃ V : Nat → Value, V = fun i => ([.int .i64 0, .bool true, .bool true, .slice fa (17 + n) fc, .string sF, .pointer (some ⟨w.heap.size, 0, none⟩), .int .i64 q', .pointer (some ⟨w.heap.size, 1, none⟩), .int .i64 k', .pointer (some ⟨w.heap.size, 2, none⟩), .slice ao n ac, undef, .string sF, .bool true, .bool true, .bool true, .pointer (some ⟨w.heap.size, 2, none⟩), .slice ao n ac, .int .i64 (n : Int), .int .i64 (17 + (n : Int)), .slice fa (17 + n) fc, .int .i64 (17 + (n : Int)), .bool true, .bool true, .bool true, .int .i64 0, .bool true, .bool true, .bool true, .int .i64 (17 + (n : Int)), .slice fa (17 + n) fc, .int .i64 (17 + (n : Int)), .bool true, .bool true, .bool true, .slice (some ⟨g2, 0, none⟩) 1 vc, .int .i64 1, .bool true, .bool true, .bool true, .slice (some ⟨g2, 0, none⟩) 1 vc, .pointer (some ⟨g2, 0, none⟩), .pointer (some ⟨g2, 0, none⟩), .int .i64 q', .pointer (some ⟨w.heap.size, 0, none⟩), .int .i64 q', .bool true, .bool true, .bool true, .slice (some ⟨g2, 0, none⟩) 1 vc, .pointer (some ⟨g2, 0, none⟩), .pointer (some ⟨g2, 1, none⟩), .int .i64 k', .pointer (some ⟨w.heap.size, 1, none⟩), .int .i64 k', .bool true, .bool true, .bool true, .slice (some ⟨g2, 0, none⟩) 1 vc, .pointer (some ⟨g2, 0, none⟩), .pointer (some ⟨g2, 2, none⟩), .slice da n dc, .string sE, .pointer (some ⟨w.heap.size, 2, none⟩), .slice ao n ac, .string sE, .bool true, .bool true, .bool true, .bool true, .bool true, .bool true] : List Value).getD i undef := ⟨_, rfl⟩
    have HV := Lib.hid hV
    clear hV
    refine wp_region_tab (by kernel_rfl) (by kernel_rfl) (by kernel_rfl) (fun b' vs w' => TabI V 11 b' vs ∧ (b' 11 = true → Hid (∃ a c, (vs 11) = .slice a (17 + n) c ∧ RowB w' (.slice a (17 + n) c) F)) ∧ Hid (Below w2.heap.size w2 w')) ?_ ?_ ?_
    · intro vs
      exact ⟨TabI.start _ _ _, fun h => Bool.noConfusion h, below_drewN (Below.refl _ _) 1⟩
    · rintro b' vs w' i op A hi hun hall ⟨ht, hy, hB⟩ hst
      have hil : i < 72 := (List.getElem?_eq_some_iff.1 hi).1
      have o1 : A.tmps[1]? = some (.pointer (some ⟨w.heap.size, 0, none⟩)) := (hst.old 1 (by kernel_rfl)).trans rfl
      have o3 : A.tmps[3]? = some (.slice fa (17 + n) fc) := (hst.old 3 (by kernel_rfl)).trans rfl
      have o4 : A.tmps[4]? = some (.int .i64 0) := (hst.old 4 (by kernel_rfl)).trans rfl
      have o5 : A.tmps[5]? = some (.slice (some ⟨g2, 0, none⟩) 1 vc) := (hst.old 5 (by kernel_rfl)).trans rfl
      have o6 : A.tmps[6]? = some (.int .i64 (17 + (n : Int))) := (hst.old 6 (by kernel_rfl)).trans rfl
      rcases i with _ | _ | _ | _ | _ | _ | _ | _ | _ | _ | _ | _ | _ | _ | _ | _ | _ | _ | _ | _ | _ | _ | _ | _ | _ | _ | _ | _ | _ | _ | _ | _ | _ | _ | _ | _ | _ | _ | _ | _ | _ | _ | _ | _ | _ | _ | _ | _ | _ | _ | _ | _ | _ | _ | _ | _ | _ | _ | _ | _ | _ | _ | _ | _ | _ | _ | _ | _ | _ | _ | _ | _ | i
      · obtain rfl := Option.some.inj hi
        clear hi hil
        refine StepOk.plain rfl (fun K hK => ?_)
        have HKK := Lib.hid hK; clear hK
        go_simp
        exact HKK.out _ _ ⟨_, rfl, ht.put (.inr (by rw [HV.out]; rfl)), hy, hB⟩
      · obtain rfl := Option.some.inj hi
        clear hi hil
        have d0 : vs 0 = .int .i64 0 := (ht 0 (by decide) (hall ⟨0, .data⟩ (by simp) rfl)).trans (by rw [HV.out]; rfl)
        have t47 := (hst.at' 0 _ 47 rfl rfl).trans (congrArg some d0)
        refine StepOk.plain rfl (fun K hK => ?_)
        have HKK := Lib.hid hK; clear hK
        go_simp
        exact HKK.out _ _ ⟨_, rfl, ht.put (.inr (by rw [HV.out]; rfl)), hy, hB⟩
      · obtain rfl := Option.some.inj hi
        clear hi hil
        have d1 : vs 1 = .bool true := (ht 1 (by decide) (hall ⟨1, .data⟩ (by simp) rfl)).trans (by rw [HV.out]; rfl)
        have t48 := (hst.at' 1 _ 48 rfl rfl).trans (congrArg some d1)
        refine StepOk.plain rfl (fun K hK => ?_)
        have HKK := Lib.hid hK; clear hK
        go_simp
        exact HKK.out _ _ ⟨_, rfl, ht.put (.inr (by rw [HV.out]; rfl)), hy, hB⟩
      · obtain rfl := Option.some.inj hi
        clear hi hil
        have d2 : vs 2 = .bool true := (ht 2 (by decide) (hall ⟨2, .guard⟩ (by simp) rfl)).trans (by rw [HV.out]; rfl)
        have t49 := (hst.at' 2 _ 49 rfl rfl).trans (congrArg some d2)
        refine StepOk.on 2 true rfl rfl d2 (fun K hK => ?_)
        have HKK := Lib.hid hK; clear hK
        go_simp
        exact HKK.out _ _ ⟨_, rfl, ht.put (.inr (by rw [HV.out]; rfl)), hy, hB⟩
      · obtain rfl := Option.some.inj hi
        clear hi hil
        have d3 : vs 3 = .slice fa (17 + n) fc := (ht 3 (by decide) (hall ⟨3, .data⟩ (by simp) rfl)).trans (by rw [HV.out]; rfl)
        have t50 := (hst.at' 3 _ 50 rfl rfl).trans (congrArg some d3)
        have d2 : vs 2 = .bool true := (ht 2 (by decide) (hall ⟨2, .guard⟩ (by simp) rfl)).trans (by rw [HV.out]; rfl)
        have t49 := (hst.at' 2 _ 49 rfl rfl).trans (congrArg some d2)
        have cv := conv_b (H2.out.2.2.1.on hB.out) HFF.out.2.2
        rw [HSF.out] at cv
        refine StepOk.on 2 true rfl rfl d2 (fun K hK => ?_)
        have HKK := Lib.hid hK; clear hK
        go_simp
        exact HKK.out _ _ ⟨_, rfl, ht.put (.inr (by rw [HV.out]; rfl)), hy, hB⟩
      · obtain rfl := Option.some.inj hi
        clear hi hil
        have d2 : vs 2 = .bool true := (ht 2 (by decide) (hall ⟨2, .guard⟩ (by simp) rfl)).trans (by rw [HV.out]; rfl)
        have t49 := (hst.at' 2 _ 49 rfl rfl).trans (congrArg some d2)
        refine StepOk.on 2 true rfl rfl d2 (fun K hK => ?_)
        have HKK := Lib.hid hK; clear hK
        go_simp
        exact HKK.out _ _ ⟨_, rfl, ht.put (.inr (by rw [HV.out]; rfl)), hy, hB⟩
      · obtain rfl := Option.some.inj hi
        clear hi hil
        have d5 : vs 5 = .pointer (some ⟨w.heap.size, 0, none⟩) := (ht 5 (by decide) (hall ⟨5, .data⟩ (by simp) rfl)).trans (by rw [HV.out]; rfl)
        have t52 := (hst.at' 5 _ 52 rfl rfl).trans (congrArg some d5)
        have d2 : vs 2 = .bool true := (ht 2 (by decide) (hall ⟨2, .guard⟩ (by simp) rfl)).trans (by rw [HV.out]; rfl)
        have t49 := (hst.at' 2 _ 49 rfl rfl).trans (congrArg some d2)
        obtain ⟨c0, c1, c2, k0, k1, k2, x1, x2⟩ := HFAC.out w' hB.out
        refine StepOk.on 2 true rfl rfl d2 (fun K hK => ?_)
        have HKK := Lib.hid hK; clear hK
        go_simp
        exact HKK.out _ _ ⟨_, rfl, ht.put (.inr (by rw [HV.out]; rfl)), hy, hB⟩
      · obtain rfl := Option.some.inj hi
        clear hi hil
        have d2 : vs 2 = .bool true := (ht 2 (by decide) (hall ⟨2, .guard⟩ (by simp) rfl)).trans (by rw [HV.out]; rfl)
        have t49 := (hst.at' 2 _ 49 rfl rfl).trans (congrArg some d2)
        refine StepOk.on 2 true rfl rfl d2 (fun K hK => ?_)
        have HKK := Lib.hid hK; clear hK
        go_simp
        exact HKK.out _ _ ⟨_, rfl, ht.put (.inr (by rw [HV.out]; rfl)), hy, hB⟩
      · obtain rfl := Option.some.inj hi
        clear hi hil
        have d7 : vs 7 = .pointer (some ⟨w.heap.size, 1, none⟩) := (ht 7 (by decide) (hall ⟨7, .data⟩ (by simp) rfl)).trans (by rw [HV.out]; rfl)
        have t54 := (hst.at' 7 _ 54 rfl rfl).trans (congrArg some d7)
        have d2 : vs 2 = .bool true := (ht 2 (by decide) (hall ⟨2, .guard⟩ (by simp) rfl)).trans (by rw [HV.out]; rfl)
        have t49 := (hst.at' 2 _ 49 rfl rfl).trans (congrArg some d2)
        obtain ⟨c0, c1, c2, k0, k1, k2, x1, x2⟩ := HFAC.out w' hB.out
        refine StepOk.on 2 true rfl rfl d2 (fun K hK => ?_)
        have HKK := Lib.hid hK; clear hK
        go_simp
        exact HKK.out _ _ ⟨_, rfl, ht.put (.inr (by rw [HV.out]; rfl)), hy, hB⟩
      · obtain rfl := Option.some.inj hi
        clear hi hil
        have d2 : vs 2 = .bool true := (ht 2 (by decide) (hall ⟨2, .guard⟩ (by simp) rfl)).trans (by rw [HV.out]; rfl)
        have t49 := (hst.at' 2 _ 49 rfl rfl).trans (congrArg some d2)
        refine StepOk.on 2 true rfl rfl d2 (fun K hK => ?_)
        have HKK := Lib.hid hK; clear hK
        go_simp
        exact HKK.out _ _ ⟨_, rfl, ht.put (.inr (by rw [HV.out]; rfl)), hy, hB⟩
      · obtain rfl := Option.some.inj hi
        clear hi hil
        have d9 : vs 9 = .pointer (some ⟨w.heap.size, 2, none⟩) := (ht 9 (by decide) (hall ⟨9, .data⟩ (by simp) rfl)).trans (by rw [HV.out]; rfl)
        have t56 := (hst.at' 9 _ 56 rfl rfl).trans (congrArg some d9)
        have d2 : vs 2 = .bool true := (ht 2 (by decide) (hall ⟨2, .guard⟩ (by simp) rfl)).trans (by rw [HV.out]; rfl)
        have t49 := (hst.at' 2 _ 49 rfl rfl).trans (congrArg some d2)
        obtain ⟨c0, c1, c2, k0, k1, k2, x1, x2⟩ := HFAC.out w' hB.out
        refine StepOk.on 2 true rfl rfl d2 (fun K hK => ?_)
        have HKK := Lib.hid hK; clear hK
        go_simp
        exact HKK.out _ _ ⟨_, rfl, ht.put (.inr (by rw [HV.out]; rfl)), hy, hB⟩
      · obtain rfl := Option.some.inj hi
        clear hi hil
        have d6 : vs 6 = .int .i64 q' := (ht 6 (by decide) (hall ⟨6, .data⟩ (by simp) rfl)).trans (by rw [HV.out]; rfl)
        have t53 := (hst.at' 6 _ 53 rfl rfl).trans (congrArg some d6)
        have d8 : vs 8 = .int .i64 k' := (ht 8 (by decide) (hall ⟨8, .data⟩ (by simp) rfl)).trans (by rw [HV.out]; rfl)
        have t55 := (hst.at' 8 _ 55 rfl rfl).trans (congrArg some d8)
        have d10 : vs 10 = .slice ao n ac := (ht 10 (by decide) (hall ⟨10, .data⟩ (by simp) rfl)).trans (by rw [HV.out]; rfl)
        have t57 := (hst.at' 10 _ 57 rfl rfl).trans (congrArg some d10)
        have d2 : vs 2 = .bool true := (ht 2 (by decide) (hall ⟨2, .guard⟩ (by simp) rfl)).trans (by rw [HV.out]; rfl)
        have t49 := (hst.at' 2 _ 49 rfl rfl).trans (congrArg some d2)
        refine StepOk.on 2 true rfl rfl d2 (fun K hK => ?_)
        have HKK := Lib.hid hK; clear hK
        go_simp
        refine (HRF.out w' hB.out).mono ?_
        rintro e w2' ⟨vv, va', vc', rfl, rfl, hrow, hb2⟩
        exact HKK.out _ _ ⟨_, rfl, ht.put (.inl rfl), fun _ => Lib.hid (⟨_, _, rfl, hrow⟩), hB.out.trans (hb2.mono hB.out.size)⟩
      · obtain rfl := Option.some.inj hi
        clear hi hil
        have oy := hy (hall ⟨11, .data⟩ (by simp) rfl)
        obtain ⟨ya, yc, hyv, hyr⟩ := oy.out
        have t58 := (hst.at' 11 _ 58 rfl rfl).trans (congrArg some hyv)
        have d2 : vs 2 = .bool true := (ht 2 (by decide) (hall ⟨2, .guard⟩ (by simp) rfl)).trans (by rw [HV.out]; rfl)
        have t49 := (hst.at' 2 _ 49 rfl rfl).trans (congrArg some d2)
        have cv := conv_b hyr HFF.out.2.2
        rw [HSF.out] at cv
        refine StepOk.on 2 true rfl rfl d2 (fun K hK => ?_)
        have HKK := Lib.hid hK; clear hK
        go_simp
        exact HKK.out _ _ ⟨_, rfl, ht.put (.inr (by rw [HV.out]; rfl)), hy, hB⟩
      · obtain rfl := Option.some.inj hi
        clear hi hil
        have d4 : vs 4 = .string sF := (ht 4 (by decide) (hall ⟨4, .data⟩ (by simp) rfl)).trans (by rw [HV.out]; rfl)
        have t51 := (hst.at' 4 _ 51 rfl rfl).trans (congrArg some d4)
        have d12 : vs 12 = .string sF := (ht 12 (by decide) (hall ⟨12, .data⟩ (by simp) rfl)).trans (by rw [HV.out]; rfl)
        have t59 := (hst.at' 12 _ 59 rfl rfl).trans (congrArg some d12)
        have d2 : vs 2 = .bool true := (ht 2 (by decide) (hall ⟨2, .guard⟩ (by simp) rfl)).trans (by rw [HV.out]; rfl)
        have t49 := (hst.at' 2 _ 49 rfl rfl).trans (congrArg some d2)
        refine StepOk.on 2 true rfl rfl d2 (fun K hK => ?_)
        have HKK := Lib.hid hK; clear hK
        go_simp
        exact HKK.out _ _ ⟨_, rfl, ht.put (.inr (by rw [HV.out]; rfl)), hy, hB⟩
      · obtain rfl := Option.some.inj hi
        clear hi hil
        have d2 : vs 2 = .bool true := (ht 2 (by decide) (hall ⟨2, .data⟩ (by simp) rfl)).trans (by rw [HV.out]; rfl)
        have t49 := (hst.at' 2 _ 49 rfl rfl).trans (congrArg some d2)
        have d13 : vs 13 = .bool true := (ht 13 (by decide) (hall ⟨13, .data⟩ (by simp) rfl)).trans (by rw [HV.out]; rfl)
        have t60 := (hst.at' 13 _ 60 rfl rfl).trans (congrArg some d13)
        refine StepOk.plain rfl (fun K hK => ?_)
        have HKK := Lib.hid hK; clear hK
        go_simp
        exact HKK.out _ _ ⟨_, rfl, ht.put (.inr (by rw [HV.out]; rfl)), hy, hB⟩
      · obtain rfl := Option.some.inj hi
        clear hi hil
        have d14 : vs 14 = .bool true := (ht 14 (by decide) (hall ⟨14, .data⟩ (by simp) rfl)).trans (by rw [HV.out]; rfl)
        have t61 := (hst.at' 14 _ 61 rfl rfl).trans (congrArg some d14)
        refine StepOk.plain rfl (fun K hK => ?_)
        have HKK := Lib.hid hK; clear hK
        go_simp
        exact HKK.out _ _ ⟨_, rfl, ht.put (.inr (by rw [HV.out]; rfl)), hy, hB⟩
      · obtain rfl := Option.some.inj hi
        clear hi hil
        have d15 : vs 15 = .bool true := (ht 15 (by decide) (hall ⟨15, .guard⟩ (by simp) rfl)).trans (by rw [HV.out]; rfl)
        have t62 := (hst.at' 15 _ 62 rfl rfl).trans (congrArg some d15)
        refine StepOk.on 15 true rfl rfl d15 (fun K hK => ?_)
        have HKK := Lib.hid hK; clear hK
        go_simp
        exact HKK.out _ _ ⟨_, rfl, ht.put (.inr (by rw [HV.out]; rfl)), hy, hB⟩
      · obtain rfl := Option.some.inj hi
        clear hi hil
        have d16 : vs 16 = .pointer (some ⟨w.heap.size, 2, none⟩) := (ht 16 (by decide) (hall ⟨16, .data⟩ (by simp) rfl)).trans (by rw [HV.out]; rfl)
        have t63 := (hst.at' 16 _ 63 rfl rfl).trans (congrArg some d16)
        have d15 : vs 15 = .bool true := (ht 15 (by decide) (hall ⟨15, .guard⟩ (by simp) rfl)).trans (by rw [HV.out]; rfl)
        have t62 := (hst.at' 15 _ 62 rfl rfl).trans (congrArg some d15)
        obtain ⟨c0, c1, c2, k0, k1, k2, x1, x2⟩ := HFAC.out w' hB.out
        refine StepOk.on 15 true rfl rfl d15 (fun K hK => ?_)
        have HKK := Lib.hid hK; clear hK
        go_simp
        exact HKK.out _ _ ⟨_, rfl, ht.put (.inr (by rw [HV.out]; rfl)), hy, hB⟩
      · obtain rfl := Option.some.inj hi
        clear hi hil
        have d17 : vs 17 = .slice ao n ac := (ht 17 (by decide) (hall ⟨17, .data⟩ (by simp) rfl)).trans (by rw [HV.out]; rfl)
        have t64 := (hst.at' 17 _ 64 rfl rfl).trans (congrArg some d17)
        have d15 : vs 15 = .bool true := (ht 15 (by decide) (hall ⟨15, .guard⟩ (by simp) rfl)).trans (by rw [HV.out]; rfl)
        have t62 := (hst.at' 15 _ 62 rfl rfl).trans (congrArg some d15)
        refine StepOk.on 15 true rfl rfl d15 (fun K hK => ?_)
        have HKK := Lib.hid hK; clear hK
        go_simp
        exact HKK.out _ _ ⟨_, rfl, ht.put (.inr (by rw [HV.out]; rfl)), hy, hB⟩
      · obtain rfl := Option.some.inj hi
        clear hi hil
        have d18 : vs 18 = .int .i64 (n : Int) := (ht 18 (by decide) (hall ⟨18, .data⟩ (by simp) rfl)).trans (by rw [HV.out]; rfl)
        have t65 := (hst.at' 18 _ 65 rfl rfl).trans (congrArg some d18)
        have d15 : vs 15 = .bool true := (ht 15 (by decide) (hall ⟨15, .guard⟩ (by simp) rfl)).trans (by rw [HV.out]; rfl)
        have t62 := (hst.at' 15 _ 62 rfl rfl).trans (congrArg some d15)
        refine StepOk.on 15 true rfl rfl d15 (fun K hK => ?_)
        have HKK := Lib.hid hK; clear hK
        go_simp
        refine (size_c (n : Int) w' ⟨by omega, by have := HL.out; omega⟩).mono ?_
        rintro e w2' ⟨rfl, rfl⟩
        exact HKK.out _ _ ⟨_, rfl, ht.put (.inr (by rw [HV.out]; rfl)), hy, hB⟩
      · obtain rfl := Option.some.inj hi
        clear hi hil
        have d15 : vs 15 = .bool true := (ht 15 (by decide) (hall ⟨15, .guard⟩ (by simp) rfl)).trans (by rw [HV.out]; rfl)
        have t62 := (hst.at' 15 _ 62 rfl rfl).trans (congrArg some d15)
        refine StepOk.on 15 true rfl rfl d15 (fun K hK => ?_)
        have HKK := Lib.hid hK; clear hK
        go_simp
        exact HKK.out _ _ ⟨_, rfl, ht.put (.inr (by rw [HV.out]; rfl)), hy, hB⟩
      · obtain rfl := Option.some.inj hi
        clear hi hil
        have d20 : vs 20 = .slice fa (17 + n) fc := (ht 20 (by decide) (hall ⟨20, .data⟩ (by simp) rfl)).trans (by rw [HV.out]; rfl)
        have t67 := (hst.at' 20 _ 67 rfl rfl).trans (congrArg some d20)
        have d15 : vs 15 = .bool true := (ht 15 (by decide) (hall ⟨15, .guard⟩ (by simp) rfl)).trans (by rw [HV.out]; rfl)
        have t62 := (hst.at' 15 _ 62 rfl rfl).trans (congrArg some d15)
        refine StepOk.on 15 true rfl rfl d15 (fun K hK => ?_)
        have HKK := Lib.hid hK; clear hK
        go_simp
        exact HKK.out _ _ ⟨_, rfl, ht.put (.inr (by rw [HV.out]; rfl)), hy, hB⟩
      · obtain rfl := Option.some.inj hi
        clear hi hil
        have d19 : vs 19 = .int .i64 (17 + (n : Int)) := (ht 19 (by decide) (hall ⟨19, .data⟩ (by simp) rfl)).trans (by rw [HV.out]; rfl)
        have t66 := (hst.at' 19 _ 66 rfl rfl).trans (congrArg some d19)
        have d21 : vs 21 = .int .i64 (17 + (n : Int)) := (ht 21 (by decide) (hall ⟨21, .data⟩ (by simp) rfl)).trans (by rw [HV.out]; rfl)
        have t68 := (hst.at' 21 _ 68 rfl rfl).trans (congrArg some d21)
        have d15 : vs 15 = .bool true := (ht 15 (by decide) (hall ⟨15, .guard⟩ (by simp) rfl)).trans (by rw [HV.out]; rfl)
        have t62 := (hst.at' 15 _ 62 rfl rfl).trans (congrArg some d15)
        refine StepOk.on 15 true rfl rfl d15 (fun K hK => ?_)
        have HKK := Lib.hid hK; clear hK
        go_simp
        exact HKK.out _ _ ⟨_, rfl, ht.put (.inr (by rw [HV.out]; rfl)), hy, hB⟩
      · obtain rfl := Option.some.inj hi
        clear hi hil
        have d15 : vs 15 = .bool true := (ht 15 (by decide) (hall ⟨15, .data⟩ (by simp) rfl)).trans (by rw [HV.out]; rfl)
        have t62 := (hst.at' 15 _ 62 rfl rfl).trans (congrArg some d15)
        have d22 : vs 22 = .bool true := (ht 22 (by decide) (hall ⟨22, .data⟩ (by simp) rfl)).trans (by rw [HV.out]; rfl)
        have t69 := (hst.at' 22 _ 69 rfl rfl).trans (congrArg some d22)
        refine StepOk.plain rfl (fun K hK => ?_)
        have HKK := Lib.hid hK; clear hK
        go_simp
        exact HKK.out _ _ ⟨_, rfl, ht.put (.inr (by rw [HV.out]; rfl)), hy, hB⟩
      · obtain rfl := Option.some.inj hi
        clear hi hil
        have d23 : vs 23 = .bool true := (ht 23 (by decide) (hall ⟨23, .data⟩ (by simp) rfl)).trans (by rw [HV.out]; rfl)
        have t70 := (hst.at' 23 _ 70 rfl rfl).trans (congrArg some d23)
        refine StepOk.plain rfl (fun K hK => ?_)
        have HKK := Lib.hid hK; clear hK
        go_simp
        exact HKK.out _ _ ⟨_, rfl, ht.put (.inr (by rw [HV.out]; rfl)), hy, hB⟩
      · obtain rfl := Option.some.inj hi
        clear hi hil
        have d24 : vs 24 = .bool true := (ht 24 (by decide) (hall ⟨24, .guard⟩ (by simp) rfl)).trans (by rw [HV.out]; rfl)
        have t71 := (hst.at' 24 _ 71 rfl rfl).trans (congrArg some d24)
        refine StepOk.on 24 true rfl rfl d24 (fun K hK => ?_)
        have HKK := Lib.hid hK; clear hK
        go_simp
        refine (size_neg w').mono ?_
        rintro e w2' ⟨rfl, rfl⟩
        exact HKK.out _ _ ⟨_, rfl, ht.put (.inr (by rw [HV.out]; rfl)), hy, hB⟩
      · obtain rfl := Option.some.inj hi
        clear hi hil
        have d25 : vs 25 = .int .i64 0 := (ht 25 (by decide) (hall ⟨25, .data⟩ (by simp) rfl)).trans (by rw [HV.out]; rfl)
        have t72 := (hst.at' 25 _ 72 rfl rfl).trans (congrArg some d25)
        have d24 : vs 24 = .bool true := (ht 24 (by decide) (hall ⟨24, .guard⟩ (by simp) rfl)).trans (by rw [HV.out]; rfl)
        have t71 := (hst.at' 24 _ 71 rfl rfl).trans (congrArg some d24)
        refine StepOk.on 24 true rfl rfl d24 (fun K hK => ?_)
        have HKK := Lib.hid hK; clear hK
        go_simp
        exact HKK.out _ _ ⟨_, rfl, ht.put (.inr (by rw [HV.out]; rfl)), hy, hB⟩
      · obtain rfl := Option.some.inj hi
        clear hi hil
        have d24 : vs 24 = .bool true := (ht 24 (by decide) (hall ⟨24, .data⟩ (by simp) rfl)).trans (by rw [HV.out]; rfl)
        have t71 := (hst.at' 24 _ 71 rfl rfl).trans (congrArg some d24)
        have d26 : vs 26 = .bool true := (ht 26 (by decide) (hall ⟨26, .data⟩ (by simp) rfl)).trans (by rw [HV.out]; rfl)
        have t73 := (hst.at' 26 _ 73 rfl rfl).trans (congrArg some d26)
        refine StepOk.plain rfl (fun K hK => ?_)
        have HKK := Lib.hid hK; clear hK
        go_simp
        exact HKK.out _ _ ⟨_, rfl, ht.put (.inr (by rw [HV.out]; rfl)), hy, hB⟩
      · obtain rfl := Option.some.inj hi
        clear hi hil
        have d27 : vs 27 = .bool true := (ht 27 (by decide) (hall ⟨27, .data⟩ (by simp) rfl)).trans (by rw [HV.out]; rfl)
        have t74 := (hst.at' 27 _ 74 rfl rfl).trans (congrArg some d27)
        refine StepOk.plain rfl (fun K hK => ?_)
        have HKK := Lib.hid hK; clear hK
        go_simp
        exact HKK.out _ _ ⟨_, rfl, ht.put (.inr (by rw [HV.out]; rfl)), hy, hB⟩
      · obtain rfl := Option.some.inj hi
        clear hi hil
        have d28 : vs 28 = .bool true := (ht 28 (by decide) (hall ⟨28, .guard⟩ (by simp) rfl)).trans (by rw [HV.out]; rfl)
        have t75 := (hst.at' 28 _ 75 rfl rfl).trans (congrArg some d28)
        refine StepOk.on 28 true rfl rfl d28 (fun K hK => ?_)
        have HKK := Lib.hid hK; clear hK
        go_simp
        exact HKK.out _ _ ⟨_, rfl, ht.put (.inr (by rw [HV.out]; rfl)), hy, hB⟩
      · obtain rfl := Option.some.inj hi
        clear hi hil
        have d28 : vs 28 = .bool true := (ht 28 (by decide) (hall ⟨28, .guard⟩ (by simp) rfl)).trans (by rw [HV.out]; rfl)
        have t75 := (hst.at' 28 _ 75 rfl rfl).trans (congrArg some d28)
        refine StepOk.on 28 true rfl rfl d28 (fun K hK => ?_)
        have HKK := Lib.hid hK; clear hK
        go_simp
        exact HKK.out _ _ ⟨_, rfl, ht.put (.inr (by rw [HV.out]; rfl)), hy, hB⟩
      · obtain rfl := Option.some.inj hi
        clear hi hil
        have d30 : vs 30 = .slice fa (17 + n) fc := (ht 30 (by decide) (hall ⟨30, .data⟩ (by simp) rfl)).trans (by rw [HV.out]; rfl)
        have t77 := (hst.at' 30 _ 77 rfl rfl).trans (congrArg some d30)
        have d28 : vs 28 = .bool true := (ht 28 (by decide) (hall ⟨28, .guard⟩ (by simp) rfl)).trans (by rw [HV.out]; rfl)
        have t75 := (hst.at' 28 _ 75 rfl rfl).trans (congrArg some d28)
        refine StepOk.on 28 true rfl rfl d28 (fun K hK => ?_)
        have HKK := Lib.hid hK; clear hK
        go_simp
        exact HKK.out _ _ ⟨_, rfl, ht.put (.inr (by rw [HV.out]; rfl)), hy, hB⟩
      · obtain rfl := Option.some.inj hi
        clear hi hil
        have d29 : vs 29 = .int .i64 (17 + (n : Int)) := (ht 29 (by decide) (hall ⟨29, .data⟩ (by simp) rfl)).trans (by rw [HV.out]; rfl)
        have t76 := (hst.at' 29 _ 76 rfl rfl).trans (congrArg some d29)
        have d31 : vs 31 = .int .i64 (17 + (n : Int)) := (ht 31 (by decide) (hall ⟨31, .data⟩ (by simp) rfl)).trans (by rw [HV.out]; rfl)
        have t78 := (hst.at' 31 _ 78 rfl rfl).trans (congrArg some d31)
        have d28 : vs 28 = .bool true := (ht 28 (by decide) (hall ⟨28, .guard⟩ (by simp) rfl)).trans (by rw [HV.out]; rfl)
        have t75 := (hst.at' 28 _ 75 rfl rfl).trans (congrArg some d28)
        refine StepOk.on 28 true rfl rfl d28 (fun K hK => ?_)
        have HKK := Lib.hid hK; clear hK
        go_simp
        exact HKK.out _ _ ⟨_, rfl, ht.put (.inr (by rw [HV.out]; rfl)), hy, hB⟩
      · obtain rfl := Option.some.inj hi
        clear hi hil
        have d28 : vs 28 = .bool true := (ht 28 (by decide) (hall ⟨28, .data⟩ (by simp) rfl)).trans (by rw [HV.out]; rfl)
        have t75 := (hst.at' 28 _ 75 rfl rfl).trans (congrArg some d28)
        have d32 : vs 32 = .bool true := (ht 32 (by decide) (hall ⟨32, .data⟩ (by simp) rfl)).trans (by rw [HV.out]; rfl)
        have t79 := (hst.at' 32 _ 79 rfl rfl).trans (congrArg some d32)
        refine StepOk.plain rfl (fun K hK => ?_)
        have HKK := Lib.hid hK; clear hK
        go_simp
        exact HKK.out _ _ ⟨_, rfl, ht.put (.inr (by rw [HV.out]; rfl)), hy, hB⟩
      · obtain rfl := Option.some.inj hi
        clear hi hil
        have d33 : vs 33 = .bool true := (ht 33 (by decide) (hall ⟨33, .data⟩ (by simp) rfl)).trans (by rw [HV.out]; rfl)
        have t80 := (hst.at' 33 _ 80 rfl rfl).trans (congrArg some d33)
        refine StepOk.plain rfl (fun K hK => ?_)
        have HKK := Lib.hid hK; clear hK
        go_simp
        exact HKK.out _ _ ⟨_, rfl, ht.put (.inr (by rw [HV.out]; rfl)), hy, hB⟩
      · obtain rfl := Option.some.inj hi
        clear hi hil
        have d34 : vs 34 = .bool true := (ht 34 (by decide) (hall ⟨34, .guard⟩ (by simp) rfl)).trans (by rw [HV.out]; rfl)
        have t81 := (hst.at' 34 _ 81 rfl rfl).trans (congrArg some d34)
        refine StepOk.on 34 true rfl rfl d34 (fun K hK => ?_)
        have HKK := Lib.hid hK; clear hK
        go_simp
        exact HKK.out _ _ ⟨_, rfl, ht.put (.inr (by rw [HV.out]; rfl)), hy, hB⟩
      · obtain rfl := Option.some.inj hi
        clear hi hil
        have d35 : vs 35 = .slice (some ⟨g2, 0, none⟩) 1 vc := (ht 35 (by decide) (hall ⟨35, .data⟩ (by simp) rfl)).trans (by rw [HV.out]; rfl)
        have t82 := (hst.at' 35 _ 82 rfl rfl).trans (congrArg some d35)
        have d34 : vs 34 = .bool true := (ht 34 (by decide) (hall ⟨34, .guard⟩ (by simp) rfl)).trans (by rw [HV.out]; rfl)
        have t81 := (hst.at' 34 _ 81 rfl rfl).trans (congrArg some d34)
        refine StepOk.on 34 true rfl rfl d34 (fun K hK => ?_)
        have HKK := Lib.hid hK; clear hK
        go_simp
        exact HKK.out _ _ ⟨_, rfl, ht.put (.inr (by rw [HV.out]; rfl)), hy, hB⟩
      · obtain rfl := Option.some.inj hi
        clear hi hil
        have d36 : vs 36 = .int .i64 1 := (ht 36 (by decide) (hall ⟨36, .data⟩ (by simp) rfl)).trans (by rw [HV.out]; rfl)
        have t83 := (hst.at' 36 _ 83 rfl rfl).trans (congrArg some d36)
        have d34 : vs 34 = .bool true := (ht 34 (by decide) (hall ⟨34, .guard⟩ (by simp) rfl)).trans (by rw [HV.out]; rfl)
        have t81 := (hst.at' 34 _ 81 rfl rfl).trans (congrArg some d34)
        refine StepOk.on 34 true rfl rfl d34 (fun K hK => ?_)
        have HKK := Lib.hid hK; clear hK
        go_simp
        exact HKK.out _ _ ⟨_, rfl, ht.put (.inr (by rw [HV.out]; rfl)), hy, hB⟩
      · obtain rfl := Option.some.inj hi
        clear hi hil
        have d34 : vs 34 = .bool true := (ht 34 (by decide) (hall ⟨34, .data⟩ (by simp) rfl)).trans (by rw [HV.out]; rfl)
        have t81 := (hst.at' 34 _ 81 rfl rfl).trans (congrArg some d34)
        have d37 : vs 37 = .bool true := (ht 37 (by decide) (hall ⟨37, .data⟩ (by simp) rfl)).trans (by rw [HV.out]; rfl)
        have t84 := (hst.at' 37 _ 84 rfl rfl).trans (congrArg some d37)
        refine StepOk.plain rfl (fun K hK => ?_)
        have HKK := Lib.hid hK; clear hK
        go_simp
        exact HKK.out _ _ ⟨_, rfl, ht.put (.inr (by rw [HV.out]; rfl)), hy, hB⟩
      · obtain rfl := Option.some.inj hi
        clear hi hil
        have d38 : vs 38 = .bool true := (ht 38 (by decide) (hall ⟨38, .data⟩ (by simp) rfl)).trans (by rw [HV.out]; rfl)
        have t85 := (hst.at' 38 _ 85 rfl rfl).trans (congrArg some d38)
        refine StepOk.plain rfl (fun K hK => ?_)
        have HKK := Lib.hid hK; clear hK
        go_simp
        exact HKK.out _ _ ⟨_, rfl, ht.put (.inr (by rw [HV.out]; rfl)), hy, hB⟩
      · obtain rfl := Option.some.inj hi
        clear hi hil
        have d39 : vs 39 = .bool true := (ht 39 (by decide) (hall ⟨39, .guard⟩ (by simp) rfl)).trans (by rw [HV.out]; rfl)
        have t86 := (hst.at' 39 _ 86 rfl rfl).trans (congrArg some d39)
        refine StepOk.on 39 true rfl rfl d39 (fun K hK => ?_)
        have HKK := Lib.hid hK; clear hK
        go_simp
        exact HKK.out _ _ ⟨_, rfl, ht.put (.inr (by rw [HV.out]; rfl)), hy, hB⟩
      · obtain rfl := Option.some.inj hi
        clear hi hil
        have d40 : vs 40 = .slice (some ⟨g2, 0, none⟩) 1 vc := (ht 40 (by decide) (hall ⟨40, .data⟩ (by simp) rfl)).trans (by rw [HV.out]; rfl)
        have t87 := (hst.at' 40 _ 87 rfl rfl).trans (congrArg some d40)
        have d39 : vs 39 = .bool true := (ht 39 (by decide) (hall ⟨39, .guard⟩ (by simp) rfl)).trans (by rw [HV.out]; rfl)
        have t86 := (hst.at' 39 _ 86 rfl rfl).trans (congrArg some d39)
        refine StepOk.on 39 true rfl rfl d39 (fun K hK => ?_)
        have HKK := Lib.hid hK; clear hK
        go_simp
        exact HKK.out _ _ ⟨_, rfl, ht.put (.inr (by rw [HV.out]; rfl)), hy, hB⟩
      · obtain rfl := Option.some.inj hi
        clear hi hil
        have d41 : vs 41 = .pointer (some ⟨g2, 0, none⟩) := (ht 41 (by decide) (hall ⟨41, .data⟩ (by simp) rfl)).trans (by rw [HV.out]; rfl)
        have t88 := (hst.at' 41 _ 88 rfl rfl).trans (congrArg some d41)
        have d39 : vs 39 = .bool true := (ht 39 (by decide) (hall ⟨39, .guard⟩ (by simp) rfl)).trans (by rw [HV.out]; rfl)
        have t86 := (hst.at' 39 _ 86 rfl rfl).trans (congrArg some d39)
        refine StepOk.on 39 true rfl rfl d39 (fun K hK => ?_)
        have HKK := Lib.hid hK; clear hK
        go_simp
        exact HKK.out _ _ ⟨_, rfl, ht.put (.inr (by rw [HV.out]; rfl)), hy, hB⟩
      · obtain rfl := Option.some.inj hi
        clear hi hil
        have d42 : vs 42 = .pointer (some ⟨g2, 0, none⟩) := (ht 42 (by decide) (hall ⟨42, .data⟩ (by simp) rfl)).trans (by rw [HV.out]; rfl)
        have t89 := (hst.at' 42 _ 89 rfl rfl).trans (congrArg some d42)
        have d39 : vs 39 = .bool true := (ht 39 (by decide) (hall ⟨39, .guard⟩ (by simp) rfl)).trans (by rw [HV.out]; rfl)
        have t86 := (hst.at' 39 _ 86 rfl rfl).trans (congrArg some d39)
        obtain ⟨c0, c1, c2, k0, k1, k2, x1, x2⟩ := HFAC.out w' hB.out
        refine StepOk.on 39 true rfl rfl d39 (fun K hK => ?_)
        have HKK := Lib.hid hK; clear hK
        go_simp
        exact HKK.out _ _ ⟨_, rfl, ht.put (.inr (by rw [HV.out]; rfl)), hy, hB⟩
      · obtain rfl := Option.some.inj hi
        clear hi hil
        have d39 : vs 39 = .bool true := (ht 39 (by decide) (hall ⟨39, .guard⟩ (by simp) rfl)).trans (by rw [HV.out]; rfl)
        have t86 := (hst.at' 39 _ 86 rfl rfl).trans (congrArg some d39)
        refine StepOk.on 39 true rfl rfl d39 (fun K hK => ?_)
        have HKK := Lib.hid hK; clear hK
        go_simp
        exact HKK.out _ _ ⟨_, rfl, ht.put (.inr (by rw [HV.out]; rfl)), hy, hB⟩
      · obtain rfl := Option.some.inj hi
        clear hi hil
        have d44 : vs 44 = .pointer (some ⟨w.heap.size, 0, none⟩) := (ht 44 (by decide) (hall ⟨44, .data⟩ (by simp) rfl)).trans (by rw [HV.out]; rfl)
        have t91 := (hst.at' 44 _ 91 rfl rfl).trans (congrArg some d44)
        have d39 : vs 39 = .bool true := (ht 39 (by decide) (hall ⟨39, .guard⟩ (by simp) rfl)).trans (by rw [HV.out]; rfl)
        have t86 := (hst.at' 39 _ 86 rfl rfl).trans (congrArg some d39)
        obtain ⟨c0, c1, c2, k0, k1, k2, x1, x2⟩ := HFAC.out w' hB.out
        refine StepOk.on 39 true rfl rfl d39 (fun K hK => ?_)
        have HKK := Lib.hid hK; clear hK
        go_simp
        exact HKK.out _ _ ⟨_, rfl, ht.put (.inr (by rw [HV.out]; rfl)), hy, hB⟩
      · obtain rfl := Option.some.inj hi
        clear hi hil
        have d43 : vs 43 = .int .i64 q' := (ht 43 (by decide) (hall ⟨43, .data⟩ (by simp) rfl)).trans (by rw [HV.out]; rfl)
        have t90 := (hst.at' 43 _ 90 rfl rfl).trans (congrArg some d43)
        have d45 : vs 45 = .int .i64 q' := (ht 45 (by decide) (hall ⟨45, .data⟩ (by simp) rfl)).trans (by rw [HV.out]; rfl)
        have t92 := (hst.at' 45 _ 92 rfl rfl).trans (congrArg some d45)
        have d39 : vs 39 = .bool true := (ht 39 (by decide) (hall ⟨39, .guard⟩ (by simp) rfl)).trans (by rw [HV.out]; rfl)
        have t86 := (hst.at' 39 _ 86 rfl rfl).trans (congrArg some d39)
        refine StepOk.on 39 true rfl rfl d39 (fun K hK => ?_)
        have HKK := Lib.hid hK; clear hK
        go_simp
        exact HKK.out _ _ ⟨_, rfl, ht.put (.inr (by rw [HV.out]; rfl)), hy, hB⟩
      · obtain rfl := Option.some.inj hi
        clear hi hil
        have d39 : vs 39 = .bool true := (ht 39 (by decide) (hall ⟨39, .data⟩ (by simp) rfl)).trans (by rw [HV.out]; rfl)
        have t86 := (hst.at' 39 _ 86 rfl rfl).trans (congrArg some d39)
        have d46 : vs 46 = .bool true := (ht 46 (by decide) (hall ⟨46, .data⟩ (by simp) rfl)).trans (by rw [HV.out]; rfl)
        have t93 := (hst.at' 46 _ 93 rfl rfl).trans (congrArg some d46)
        refine StepOk.plain rfl (fun K hK => ?_)
        have HKK := Lib.hid hK; clear hK
        go_simp
        exact HKK.out _ _ ⟨_, rfl, ht.put (.inr (by rw [HV.out]; rfl)), hy, hB⟩
      · obtain rfl := Option.some.inj hi
        clear hi hil
        have d47 : vs 47 = .bool true := (ht 47 (by decide) (hall ⟨47, .data⟩ (by simp) rfl)).trans (by rw [HV.out]; rfl)
        have t94 := (hst.at' 47 _ 94 rfl rfl).trans (congrArg some d47)
        refine StepOk.plain rfl (fun K hK => ?_)
        have HKK := Lib.hid hK; clear hK
        go_simp
        exact HKK.out _ _ ⟨_, rfl, ht.put (.inr (by rw [HV.out]; rfl)), hy, hB⟩
      · obtain rfl := Option.some.inj hi
        clear hi hil
        have d48 : vs 48 = .bool true := (ht 48 (by decide) (hall ⟨48, .guard⟩ (by simp) rfl)).trans (by rw [HV.out]; rfl)
        have t95 := (hst.at' 48 _ 95 rfl rfl).trans (congrArg some d48)
        refine StepOk.on 48 true rfl rfl d48 (fun K hK => ?_)
        have HKK := Lib.hid hK; clear hK
        go_simp
        exact HKK.out _ _ ⟨_, rfl, ht.put (.inr (by rw [HV.out]; rfl)), hy, hB⟩
      · obtain rfl := Option.some.inj hi
        clear hi hil
        have d49 : vs 49 = .slice (some ⟨g2, 0, none⟩) 1 vc := (ht 49 (by decide) (hall ⟨49, .data⟩ (by simp) rfl)).trans (by rw [HV.out]; rfl)
        have t96 := (hst.at' 49 _ 96 rfl rfl).trans (congrArg some d49)
        have d48 : vs 48 = .bool true := (ht 48 (by decide) (hall ⟨48, .guard⟩ (by simp) rfl)).trans (by rw [HV.out]; rfl)
        have t95 := (hst.at' 48 _ 95 rfl rfl).trans (congrArg some d48)
        refine StepOk.on 48 true rfl rfl d48 (fun K hK => ?_)
        have HKK := Lib.hid hK; clear hK
        go_simp
        exact HKK.out _ _ ⟨_, rfl, ht.put (.inr (by rw [HV.out]; rfl)), hy, hB⟩
      · obtain rfl := Option.some.inj hi
        clear hi hil
        have d50 : vs 50 = .pointer (some ⟨g2, 0, none⟩) := (ht 50 (by decide) (hall ⟨50, .data⟩ (by simp) rfl)).trans (by rw [HV.out]; rfl)
        have t97 := (hst.at' 50 _ 97 rfl rfl).trans (congrArg some d50)
        have d48 : vs 48 = .bool true := (ht 48 (by decide) (hall ⟨48, .guard⟩ (by simp) rfl)).trans (by rw [HV.out]; rfl)
        have t95 := (hst.at' 48 _ 95 rfl rfl).trans (congrArg some d48)
        refine StepOk.on 48 true rfl rfl d48 (fun K hK => ?_)
        have HKK := Lib.hid hK; clear hK
        go_simp
        exact HKK.out _ _ ⟨_, rfl, ht.put (.inr (by rw [HV.out]; rfl)), hy, hB⟩
      · obtain rfl := Option.some.inj hi
        clear hi hil
        have d51 : vs 51 = .pointer (some ⟨g2, 1, none⟩) := (ht 51 (by decide) (hall ⟨51, .data⟩ (by simp) rfl)).trans (by rw [HV.out]; rfl)
        have t98 := (hst.at' 51 _ 98 rfl rfl).trans (congrArg some d51)
        have d48 : vs 48 = .bool true := (ht 48 (by decide) (hall ⟨48, .guard⟩ (by simp) rfl)).trans (by rw [HV.out]; rfl)
        have t95 := (hst.at' 48 _ 95 rfl rfl).trans (congrArg some d48)
        obtain ⟨c0, c1, c2, k0, k1, k2, x1, x2⟩ := HFAC.out w' hB.out
        refine StepOk.on 48 true rfl rfl d48 (fun K hK => ?_)
        have HKK := Lib.hid hK; clear hK
        go_simp
        exact HKK.out _ _ ⟨_, rfl, ht.put (.inr (by rw [HV.out]; rfl)), hy, hB⟩
      · obtain rfl := Option.some.inj hi
        clear hi hil
        have d48 : vs 48 = .bool true := (ht 48 (by decide) (hall ⟨48, .guard⟩ (by simp) rfl)).trans (by rw [HV.out]; rfl)
        have t95 := (hst.at' 48 _ 95 rfl rfl).trans (congrArg some d48)
        refine StepOk.on 48 true rfl rfl d48 (fun K hK => ?_)
        have HKK := Lib.hid hK; clear hK
        go_simp
        exact HKK.out _ _ ⟨_, rfl, ht.put (.inr (by rw [HV.out]; rfl)), hy, hB⟩
      · obtain rfl := Option.some.inj hi
        clear hi hil
        have d53 : vs 53 = .pointer (some ⟨w.heap.size, 1, none⟩) := (ht 53 (by decide) (hall ⟨53, .data⟩ (by simp) rfl)).trans (by rw [HV.out]; rfl)
        have t100 := (hst.at' 53 _ 100 rfl rfl).trans (congrArg some d53)
        have d48 : vs 48 = .bool true := (ht 48 (by decide) (hall ⟨48, .guard⟩ (by simp) rfl)).trans (by rw [HV.out]; rfl)
        have t95 := (hst.at' 48 _ 95 rfl rfl).trans (congrArg some d48)
        obtain ⟨c0, c1, c2, k0, k1, k2, x1, x2⟩ := HFAC.out w' hB.out
        refine StepOk.on 48 true rfl rfl d48 (fun K hK => ?_)
        have HKK := Lib.hid hK; clear hK
        go_simp
        exact HKK.out _ _ ⟨_, rfl, ht.put (.inr (by rw [HV.out]; rfl)), hy, hB⟩
      · obtain rfl := Option.some.inj hi
        clear hi hil
        have d52 : vs 52 = .int .i64 k' := (ht 52 (by decide) (hall ⟨52, .data⟩ (by simp) rfl)).trans (by rw [HV.out]; rfl)
        have t99 := (hst.at' 52 _ 99 rfl rfl).trans (congrArg some d52)
        have d54 : vs 54 = .int .i64 k' := (ht 54 (by decide) (hall ⟨54, .data⟩ (by simp) rfl)).trans (by rw [HV.out]; rfl)
        have t101 := (hst.at' 54 _ 101 rfl rfl).trans (congrArg some d54)
        have d48 : vs 48 = .bool true := (ht 48 (by decide) (hall ⟨48, .guard⟩ (by simp) rfl)).trans (by rw [HV.out]; rfl)
        have t95 := (hst.at' 48 _ 95 rfl rfl).trans (congrArg some d48)
        refine StepOk.on 48 true rfl rfl d48 (fun K hK => ?_)
        have HKK := Lib.hid hK; clear hK
        go_simp
        exact HKK.out _ _ ⟨_, rfl, ht.put (.inr (by rw [HV.out]; rfl)), hy, hB⟩
      · obtain rfl := Option.some.inj hi
        clear hi hil
        have d48 : vs 48 = .bool true := (ht 48 (by decide) (hall ⟨48, .data⟩ (by simp) rfl)).trans (by rw [HV.out]; rfl)
        have t95 := (hst.at' 48 _ 95 rfl rfl).trans (congrArg some d48)
        have d55 : vs 55 = .bool true := (ht 55 (by decide) (hall ⟨55, .data⟩ (by simp) rfl)).trans (by rw [HV.out]; rfl)
        have t102 := (hst.at' 55 _ 102 rfl rfl).trans (congrArg some d55)
        refine StepOk.plain rfl (fun K hK => ?_)
        have HKK := Lib.hid hK; clear hK
        go_simp
        exact HKK.out _ _ ⟨_, rfl, ht.put (.inr (by rw [HV.out]; rfl)), hy, hB⟩
      · obtain rfl := Option.some.inj hi
        clear hi hil
        have d56 : vs 56 = .bool true := (ht 56 (by decide) (hall ⟨56, .data⟩ (by simp) rfl)).trans (by rw [HV.out]; rfl)
        have t103 := (hst.at' 56 _ 103 rfl rfl).trans (congrArg some d56)
        refine StepOk.plain rfl (fun K hK => ?_)
        have HKK := Lib.hid hK; clear hK
        go_simp
        exact HKK.out _ _ ⟨_, rfl, ht.put (.inr (by rw [HV.out]; rfl)), hy, hB⟩
      · obtain rfl := Option.some.inj hi
        clear hi hil
        have d57 : vs 57 = .bool true := (ht 57 (by decide) (hall ⟨57, .guard⟩ (by simp) rfl)).trans (by rw [HV.out]; rfl)
        have t104 := (hst.at' 57 _ 104 rfl rfl).trans (congrArg some d57)
        refine StepOk.on 57 true rfl rfl d57 (fun K hK => ?_)
        have HKK := Lib.hid hK; clear hK
        go_simp
        exact HKK.out _ _ ⟨_, rfl, ht.put (.inr (by rw [HV.out]; rfl)), hy, hB⟩
      · obtain rfl := Option.some.inj hi
        clear hi hil
        have d58 : vs 58 = .slice (some ⟨g2, 0, none⟩) 1 vc := (ht 58 (by decide) (hall ⟨58, .data⟩ (by simp) rfl)).trans (by rw [HV.out]; rfl)
        have t105 := (hst.at' 58 _ 105 rfl rfl).trans (congrArg some d58)
        have d57 : vs 57 = .bool true := (ht 57 (by decide) (hall ⟨57, .guard⟩ (by simp) rfl)).trans (by rw [HV.out]; rfl)
        have t104 := (hst.at' 57 _ 104 rfl rfl).trans (congrArg some d57)
        refine StepOk.on 57 true rfl rfl d57 (fun K hK => ?_)
        have HKK := Lib.hid hK; clear hK
        go_simp
        exact HKK.out _ _ ⟨_, rfl, ht.put (.inr (by rw [HV.out]; rfl)), hy, hB⟩
      · obtain rfl := Option.some.inj hi
        clear hi hil
        have d59 : vs 59 = .pointer (some ⟨g2, 0, none⟩) := (ht 59 (by decide) (hall ⟨59, .data⟩ (by simp) rfl)).trans (by rw [HV.out]; rfl)
        have t106 := (hst.at' 59 _ 106 rfl rfl).trans (congrArg some d59)
        have d57 : vs 57 = .bool true := (ht 57 (by decide) (hall ⟨57, .guard⟩ (by simp) rfl)).trans (by rw [HV.out]; rfl)
        have t104 := (hst.at' 57 _ 104 rfl rfl).trans (congrArg some d57)
        refine StepOk.on 57 true rfl rfl d57 (fun K hK => ?_)
        have HKK := Lib.hid hK; clear hK
        go_simp
        exact HKK.out _ _ ⟨_, rfl, ht.put (.inr (by rw [HV.out]; rfl)), hy, hB⟩
      · obtain rfl := Option.some.inj hi
        clear hi hil
        have d60 : vs 60 = .pointer (some ⟨g2, 2, none⟩) := (ht 60 (by decide) (hall ⟨60, .data⟩ (by simp) rfl)).trans (by rw [HV.out]; rfl)
        have t107 := (hst.at' 60 _ 107 rfl rfl).trans (congrArg some d60)
        have d57 : vs 57 = .bool true := (ht 57 (by decide) (hall ⟨57, .guard⟩ (by simp) rfl)).trans (by rw [HV.out]; rfl)
        have t104 := (hst.at' 57 _ 104 rfl rfl).trans (congrArg some d57)
        obtain ⟨c0, c1, c2, k0, k1, k2, x1, x2⟩ := HFAC.out w' hB.out
        refine StepOk.on 57 true rfl rfl d57 (fun K hK => ?_)
        have HKK := Lib.hid hK; clear hK
        go_simp
        exact HKK.out _ _ ⟨_, rfl, ht.put (.inr (by rw [HV.out]; rfl)), hy, hB⟩
      · obtain rfl := Option.some.inj hi
        clear hi hil
        have d61 : vs 61 = .slice da n dc := (ht 61 (by decide) (hall ⟨61, .data⟩ (by simp) rfl)).trans (by rw [HV.out]; rfl)
        have t108 := (hst.at' 61 _ 108 rfl rfl).trans (congrArg some d61)
        have d57 : vs 57 = .bool true := (ht 57 (by decide) (hall ⟨57, .guard⟩ (by simp) rfl)).trans (by rw [HV.out]; rfl)
        have t104 := (hst.at' 57 _ 104 rfl rfl).trans (congrArg some d57)
        obtain ⟨c0, c1, c2, k0, k1, k2, x1, x2⟩ := HFAC.out w' hB.out
        have cv := conv_b x1 HN.out.2
        rw [HSE.out] at cv
        refine StepOk.on 57 true rfl rfl d57 (fun K hK => ?_)
        have HKK := Lib.hid hK; clear hK
        go_simp
        exact HKK.out _ _ ⟨_, rfl, ht.put (.inr (by rw [HV.out]; rfl)), hy, hB⟩
      · obtain rfl := Option.some.inj hi
        clear hi hil
        have d57 : vs 57 = .bool true := (ht 57 (by decide) (hall ⟨57, .guard⟩ (by simp) rfl)).trans (by rw [HV.out]; rfl)
        have t104 := (hst.at' 57 _ 104 rfl rfl).trans (congrArg some d57)
        refine StepOk.on 57 true rfl rfl d57 (fun K hK => ?_)
        have HKK := Lib.hid hK; clear hK
        go_simp
        exact HKK.out _ _ ⟨_, rfl, ht.put (.inr (by rw [HV.out]; rfl)), hy, hB⟩
      · obtain rfl := Option.some.inj hi
        clear hi hil
        have d63 : vs 63 = .pointer (some ⟨w.heap.size, 2, none⟩) := (ht 63 (by decide) (hall ⟨63, .data⟩ (by simp) rfl)).trans (by rw [HV.out]; rfl)
        have t110 := (hst.at' 63 _ 110 rfl rfl).trans (congrArg some d63)
        have d57 : vs 57 = .bool true := (ht 57 (by decide) (hall ⟨57, .guard⟩ (by simp) rfl)).trans (by rw [HV.out]; rfl)
        have t104 := (hst.at' 57 _ 104 rfl rfl).trans (congrArg some d57)
        obtain ⟨c0, c1, c2, k0, k1, k2, x1, x2⟩ := HFAC.out w' hB.out
        refine StepOk.on 57 true rfl rfl d57 (fun K hK => ?_)
        have HKK := Lib.hid hK; clear hK
        go_simp
        exact HKK.out _ _ ⟨_, rfl, ht.put (.inr (by rw [HV.out]; rfl)), hy, hB⟩
      · obtain rfl := Option.some.inj hi
        clear hi hil
        have d64 : vs 64 = .slice ao n ac := (ht 64 (by decide) (hall ⟨64, .data⟩ (by simp) rfl)).trans (by rw [HV.out]; rfl)
        have t111 := (hst.at' 64 _ 111 rfl rfl).trans (congrArg some d64)
        have d57 : vs 57 = .bool true := (ht 57 (by decide) (hall ⟨57, .guard⟩ (by simp) rfl)).trans (by rw [HV.out]; rfl)
        have t104 := (hst.at' 57 _ 104 rfl rfl).trans (congrArg some d57)
        obtain ⟨c0, c1, c2, k0, k1, k2, x1, x2⟩ := HFAC.out w' hB.out
        have cv := conv_b x2 HN.out.2
        rw [HSE.out] at cv
        refine StepOk.on 57 true rfl rfl d57 (fun K hK => ?_)
        have HKK := Lib.hid hK; clear hK
        go_simp
        exact HKK.out _ _ ⟨_, rfl, ht.put (.inr (by rw [HV.out]; rfl)), hy, hB⟩
      · obtain rfl := Option.some.inj hi
        clear hi hil
        have d62 : vs 62 = .string sE := (ht 62 (by decide) (hall ⟨62, .data⟩ (by simp) rfl)).trans (by rw [HV.out]; rfl)
        have t109 := (hst.at' 62 _ 109 rfl rfl).trans (congrArg some d62)
        have d65 : vs 65 = .string sE := (ht 65 (by decide) (hall ⟨65, .data⟩ (by simp) rfl)).trans (by rw [HV.out]; rfl)
        have t112 := (hst.at' 65 _ 112 rfl rfl).trans (congrArg some d65)
        have d57 : vs 57 = .bool true := (ht 57 (by decide) (hall ⟨57, .guard⟩ (by simp) rfl)).trans (by rw [HV.out]; rfl)
        have t104 := (hst.at' 57 _ 104 rfl rfl).trans (congrArg some d57)
        refine StepOk.on 57 true rfl rfl d57 (fun K hK => ?_)
        have HKK := Lib.hid hK; clear hK
        go_simp
        exact HKK.out _ _ ⟨_, rfl, ht.put (.inr (by rw [HV.out]; rfl)), hy, hB⟩
      · obtain rfl := Option.some.inj hi
        clear hi hil
        have d57 : vs 57 = .bool true := (ht 57 (by decide) (hall ⟨57, .data⟩ (by simp) rfl)).trans (by rw [HV.out]; rfl)
        have t104 := (hst.at' 57 _ 104 rfl rfl).trans (congrArg some d57)
        have d66 : vs 66 = .bool true := (ht 66 (by decide) (hall ⟨66, .data⟩ (by simp) rfl)).trans (by rw [HV.out]; rfl)
        have t113 := (hst.at' 66 _ 113 rfl rfl).trans (congrArg some d66)
        refine StepOk.plain rfl (fun K hK => ?_)
        have HKK := Lib.hid hK; clear hK
        go_simp
        exact HKK.out _ _ ⟨_, rfl, ht.put (.inr (by rw [HV.out]; rfl)), hy, hB⟩
      · obtain rfl := Option.some.inj hi
        clear hi hil
        have d67 : vs 67 = .bool true := (ht 67 (by decide) (hall ⟨67, .data⟩ (by simp) rfl)).trans (by rw [HV.out]; rfl)
        have t114 := (hst.at' 67 _ 114 rfl rfl).trans (congrArg some d67)
        refine StepOk.plain rfl (fun K hK => ?_)
        have HKK := Lib.hid hK; clear hK
        go_simp
        exact HKK.out _ _ ⟨_, rfl, ht.put (.inr (by rw [HV.out]; rfl)), hy, hB⟩
      · obtain rfl := Option.some.inj hi
        clear hi hil
        have d68 : vs 68 = .bool true := (ht 68 (by decide) (hall ⟨68, .guard⟩ (by simp) rfl)).trans (by rw [HV.out]; rfl)
        have t115 := (hst.at' 68 _ 115 rfl rfl).trans (congrArg some d68)
        refine StepOk.on 68 true rfl rfl d68 (fun K hK => ?_)
        have HKK := Lib.hid hK; clear hK
        go_simp
        refine (awake13_c w' (HRD.out.on (H2.out.2.1.trans (hB.out.mono H2.out.2.1.size)))).mono ?_
        rintro e w2' ⟨rfl, hb2⟩
        exact HKK.out _ _ ⟨_, rfl, ht.put (.inr (by rw [HV.out]; rfl)), fun h => Lib.hid (by obtain ⟨a, c, e1, e2⟩ := (hy h).out; exact ⟨a, c, e1, e2.on hb2⟩), hB.out.trans (hb2.mono hB.out.size)⟩
      · obtain rfl := Option.some.inj hi
        clear hi hil
        have d68 : vs 68 = .bool true := (ht 68 (by decide) (hall ⟨68, .data⟩ (by simp) rfl)).trans (by rw [HV.out]; rfl)
        have t115 := (hst.at' 68 _ 115 rfl rfl).trans (congrArg some d68)
        have d69 : vs 69 = .bool true := (ht 69 (by decide) (hall ⟨69, .data⟩ (by simp) rfl)).trans (by rw [HV.out]; rfl)
        have t116 := (hst.at' 69 _ 116 rfl rfl).trans (congrArg some d69)
        refine StepOk.plain rfl (fun K hK => ?_)
        have HKK := Lib.hid hK; clear hK
        go_simp
        exact HKK.out _ _ ⟨_, rfl, ht.put (.inr (by rw [HV.out]; rfl)), hy, hB⟩
      · obtain rfl := Option.some.inj hi
        clear hi hil
        have d70 : vs 70 = .bool true := (ht 70 (by decide) (hall ⟨70, .data⟩ (by simp) rfl)).trans (by rw [HV.out]; rfl)
        have t117 := (hst.at' 70 _ 117 rfl rfl).trans (congrArg some d70)
        refine StepOk.plain rfl (fun K hK => ?_)
        have HKK := Lib.hid hK; clear hK
        go_simp
        exact HKK.out _ _ ⟨_, rfl, ht.put (.inr (by rw [HV.out]; rfl)), hy, hB⟩
      · omega
    · rintro b' vs wq A hall ⟨ht, hy, hB⟩ hst
      have d71 : vs 71 = .bool true := (ht 71 (by decide) (hall 71 (by simp))).trans (by rw [HV.out]; rfl)
      have t2 := (hst.at' 71 _ 2 rfl rfl).trans (congrArg some d71)
      have HBB := hB
      have hdef := hst.defers
      clear hall ht hy hB hst
      have H4 : Hid (Below w.heap.size w wq) := H2.out.2.1.trans (HBB.out.mono H2.out.2.1.size)
      go_wp2_with fail
      refine bodyPost_ret (results_tmp rfl _ _ _) (hdef.trans rfl) ⟨?_, H4.out⟩
      rw [Array.getD_eq_getD_getElem?, t2]
      rfl
end Go.Proofs.YteobffggfcmghaaDoor
