/- Layer 13: the document's Scan. -/
import Derived.Test.YteobffggfcmghaaDoorVf
namespace Go.Proofs.YteobffggfcmghaaDoor
open Go.RowKit
theorem w_byte {k : Int} (h : 0 ≤ k ∧ k ≤ 255) : IntKind.i64.wrap k = k := (wrap_is _).trans (wrapR _ (by omega) (by omega))
theorem w_12 {a p : Nat} (h : a + 12 = p) (hp : p ≤ 60000) : wrap64 ((a : Int) + 12) = (p : Int) := by rw [wrapR _ (by omega) (by omega)]; omega
theorem w_13 {a p : Nat} (h : a + 13 = p) (hp : p ≤ 60000) : wrap64 ((a : Int) + 13) = (p : Int) := by rw [wrapR _ (by omega) (by omega)]; omega
theorem w_17 {a p : Nat} (h : 17 + a = p) (hp : a ≤ 60000) : wrap64 (17 + (a : Int)) = (p : Int) := by rw [wrapR _ (by omega) (by omega)]; omega
theorem w_add {x y z : Nat} (h : x + y = z) (hz : z ≤ 60000) : wrap64 ((x : Int) + (y : Int)) = (z : Int) := by rw [wrapR _ (by omega) (by omega)]; omega
theorem RowB.news2 {w : World} {ad : Addr} {n c : Nat} {E : List Int} (h : RowB w (.slice (some ad) n c) E) : ∀ j u, (bytV E)[j]? = some u → w.cell? (ad.add j) = some u := by
  rcases h.news with ⟨e, _⟩ | ⟨ad', c', e, hx⟩
  · cases e
  · cases e; exact hx
set_option maxHeartbeats 8000000 in
set_option maxRecDepth 100000 in
theorem refScan_c (s : Value) (B : List Int) (seq : Int) (w : World) (row : RowB w s B) (hB : OkB B) (hcap : CapS s) (hl : B.length ≤ 60000) (hq : rngN seq) : Calls Tryd.prog 16 #[s, .int .i64 seq] w (ScanQ w 42 (scanI B (B.length + 1) 0 seq)) := by
  obtain ⟨ao, c, rfl⟩ := row.shape
  obtain ⟨n, hn⟩ : ∃ n, B.length = n := ⟨_, rfl⟩
  have hnc : n ≤ c := by rw [← hn]; exact hcap _ _ _ rfl
  rw [hn] at row
  have HR := Lib.hid row
  have HB : Hid (OkB B ∧ B.length = n ∧ n ≤ c ∧ n ≤ 60000) := ⟨hB, hn, hnc, by omega⟩
  have HQ := Lib.hid hq
  obtain ⟨R, hR⟩ : ∃ R, scanI B (B.length + 1) 0 seq = R := ⟨_, rfl⟩
  have HRR := Lib.hid hR
  rw [hR, hn]
  clear row hB hcap hl hn hnc hq hR
  go_enter Tryd.func16, Tryd.ntmps16
  go_wp2_with fail
  go_loopw [1, 6, 7] (fun s1 s6 s7 wr => ∃ (a f : Nat) (q : Int) (X : List Rcd), s7 = .int .i64 (a : Int) ∧ s1 = .int .i64 q ∧ Hid (ScanSt B seq w wr 42 s6 a f q X)) (fun _ _ s7 _ => n + 1 - (intOf s7).toNat)
  case atStart => exact ⟨0, n + 1, seq, [], rfl, rfl, ⟨Nat.zero_le _, by rw [HB.out.2.1]; omega, HQ.out, by rw [HB.out.2.1]; simp, Nat.le_refl _, OwnR.nil _ _ _, Below.refl _ _⟩⟩
  case round =>
    obtain ⟨a, f, q, X, rfl, rfl, hst⟩ := hrel
    have HA : Hid (a ≤ n) := by have := hst.out.le; rw [HB.out.2.1] at this; exact this
    obtain ⟨p17, hp17⟩ : ∃ p, a + 17 = p := ⟨_, rfl⟩
    have HW17 : Hid (wrap64 ((a : Int) + 17) = (p17 : Int)) := by
      have h1 := HA.out
      have h2 := HB.out.2.2.2
      rw [Hid, wrapR _ (by omega) (by omega)]; omega
    have hw17 := HW17.out
    by_cases hA17 : p17 ≤ n
    case neg =>
      have HNONE : Hid (recAt B a q = none) := by unfold recAt; rw [Hid, if_neg (by rw [HB.out.2.1]; omega)]
      have d1 : decide ((p17 : Int) ≤ (n : Int)) = false := by simp; omega
      have d1' : decide (p17 ≤ n) = false := by simp; omega
      have HD := Lib.hid (hst.out.stop HNONE.out (w' := wr) (Below.refl _ _))
      rw [HRR.out] at HD
      clear hA17 hp17
      go_wp2_with fail
      go_ret2
      exact ⟨u6, X, by rw [HD.out.1]; rfl, HD.out.2.1, HD.out.2.2.1, HD.out.2.2.2⟩
    have d1 : decide ((p17 : Int) ≤ (n : Int)) = true := by simp; omega
    have d1' : decide (p17 ≤ n) = true := by simp; omega
    by_cases hq0 : 0 ≤ q
    case neg =>
      have HNONE : Hid (recAt B a q = none) := recAt_neg (by omega)
      have d2 : decide (q ≥ 0) = false := by simp; omega
      have d2' : decide (0 ≤ q) = false := by simp; omega
      have HD := Lib.hid (hst.out.stop HNONE.out (w' := wr) (Below.refl _ _))
      rw [HRR.out] at HD
      clear hA17 hp17 hq0
      go_wp2_with fail
      go_ret2
      exact ⟨u6, X, by rw [HD.out.1]; rfl, HD.out.2.1, HD.out.2.2.1, HD.out.2.2.2⟩
    have d2 : decide (q ≥ 0) = true := by simp; omega
    obtain ⟨bk, o, rfl, hbk, hcl⟩ := RowB.addr HR.out (by rw [HB.out.2.1]; omega)
    have HP17 : Hid (a + 17 = p17 ∧ p17 ≤ n ∧ 0 ≤ q) := ⟨hp17, hA17, hq0⟩
    have HCL : Hid (∀ W, Below w.heap.size w W → ∀ i, i < n → W.cell? ⟨bk, o + i, none⟩ = some (.int .u8 (bAt B i))) := fun W hW i hi => by
      rw [cell_below hW hbk]
      exact hcl i _ (bAt_some (by rw [HB.out.2.1]; exact hi))
    clear hbk hcl hA17 hp17 hq0
    go_wp2_with fail
    clear hw17 d1 d1' d2
    go_loopw [8, 9] (fun s8 s9 wi => ∃ i : Nat, i ≤ 4 ∧ s9 = .int .i64 (i : Int) ∧ s8 = .int .i64 (wordL (cutL B a i)) ∧ Hid (wi = wr)) (fun _ s9 _ => 4 - (intOf s9).toNat)
    case atStart => exact ⟨0, by omega, rfl, by unfold cutL; rw [List.take_zero]; rfl, rfl⟩
    case round =>
      obtain ⟨i, hi, rfl, rfl, hw⟩ := hrel
      have hw' := hw.out
      subst hw'
      clear hw
      by_cases hi4 : i < 4
      · have d1 : decide ((i : Int) < 4) = true := by simp; omega
        obtain ⟨pi, hpi⟩ : ∃ p, a + i = p := ⟨_, rfl⟩
        have hpn : pi < n := by have := HP17.out; omega
        have hwi : wrap64 ((a : Int) + (i : Int)) = (pi : Int) := by
          have h2 := HB.out.2.2.2
          rw [wrapR _ (by omega) (by omega)]; omega
        have c0 := HCL.out wr hst.out.below pi hpn
        have hpi2 : (pi : Int) < (n : Int) := by omega
        have hbr := HB.out.1 _ (List.mem_of_getElem? (bAt_some (E := B) (k := pi) (by rw [HB.out.2.1]; exact hpn)))
        have HTK : Hid (wordL (cutL B a (i + 1)) = wordL (cutL B a i) * 256 + bAt B pi) := by
          have e : cutL B a (i + 1) = cutL B a i ++ [bAt B pi] := by
            unfold cutL
            rw [List.take_add_one, List.getElem?_drop, hpi, bAt_some (by rw [HB.out.2.1]; exact hpn)]
            rfl
          rw [Hid, e, wordL_snoc]
        have hwl := wordL_in (cutL B a i) (cutL_ok HB.out.1 a i)
        rw [cutL_len (by rw [HB.out.2.1]; omega)] at hwl
        have hwl2 : wordL (cutL B a i) < 16777216 := by
          have hi3 : i = 0 ∨ i = 1 ∨ i = 2 ∨ i = 3 := by omega
          rcases hi3 with h | h | h | h <;> rw [h] at hwl <;> simp only [Int.reducePow, Int.pow_zero] at hwl <;> have := hwl.2 <;> (rw [h]; omega)
        generalize wordL (cutL B a i) = x at *
        generalize bAt B pi = y at *
        have uy : IntKind.i64.wrap y = y := (wrap_is _).trans (wrapR _ (by omega) (by omega))
        have m1 : wrap64 (x * 256) = x * 256 := wrapR _ (by omega) (by omega)
        have m2 : wrap64 (x * 256 + y) = x * 256 + y := wrapR _ (by omega) (by omega)
        have HM2 := Lib.hid m2
        clear hpi hwl hwl2 hbr hpn
        go_wp2_with fail
        exact ⟨⟨i + 1, by omega, by go_num, by rw [HTK.out, HM2.out], Lib.hid trivial⟩, by simp [intOf]; omega⟩
      · have d1 : decide ((i : Int) < 4) = false := by simp; omega
        have hi4e : i = 4 := by omega
        have hwi := wordI_in (a := a) HB.out.1 (by rw [HB.out.2.1]; have := HP17.out; omega)
        obtain ⟨wd, hwd⟩ : ∃ wd : Nat, wordI B a = (wd : Int) := ⟨(wordI B a).toNat, by omega⟩
        have hwv : wordL (cutL B a i) = (wd : Int) := by
          rw [hi4e, word_cut (by rw [HB.out.2.1]; have := HP17.out; omega)]; exact hwd
        rw [hwd] at hwi
        rw [hwv]
        clear hwv hi4e
        obtain ⟨z, hz⟩ : ∃ z, p17 + wd = z := ⟨_, rfl⟩
        have HWZ : Hid (wrap64 ((p17 : Int) + (wd : Int)) = (z : Int)) := by
          have h1 := HP17.out
          have h2 := HB.out.2.2.2
          rw [Hid, wrapR _ (by omega) (by omega)]; omega
        clear hi4 hi
        by_cases hbig : (wd : Int) > 1048576
        · have HNONE : Hid (recAt B a q = none) := by
            unfold recAt
            rw [Hid, hwd]
            split
            · rw [if_neg (by omega)]
            · rfl
          have d3 : decide ((wd : Int) > 1048576) = true := by simp; omega
          have d3' : decide (1048576 < wd) = true := by simp; omega
          have HD := Lib.hid (hst.out.stop HNONE.out (w' := wr) (Below.refl _ _))
          rw [HRR.out] at HD
          clear hbig hwi hwd hz
          have hw17 := HW17.out
          go_wp2_with fail
          go_ret2
          exact ⟨u6, X, by rw [HD.out.1]; rfl, HD.out.2.1, HD.out.2.2.1, HD.out.2.2.2⟩
        have D3 : Hid (decide ((wd : Int) > 1048576) = false ∧ decide (1048576 < wd) = false) := ⟨by simp; omega, by simp; omega⟩
        by_cases hzn : z > n
        · have HNONE : Hid (recAt B a q = none) := by
            unfold recAt
            rw [Hid, hwd]
            split
            · rw [if_neg (by rw [HB.out.2.1, Int.toNat_natCast]; have := HP17.out; omega)]
            · rfl
          have d4 : decide ((z : Int) > (n : Int)) = true := by simp; omega
          have d4' : decide (n < z) = true := by simp; omega
          have HD := Lib.hid (hst.out.stop HNONE.out (w' := wr) (Below.refl _ _))
          rw [HRR.out] at HD
          clear hbig hwi hwd hz hzn
          have hw17 := HW17.out
          have hwz := HWZ.out
          obtain ⟨d3, d3'⟩ := D3.out
          go_wp2_with fail
          go_ret2
          exact ⟨u6, X, by rw [HD.out.1]; rfl, HD.out.2.1, HD.out.2.2.1, HD.out.2.2.2⟩
        have D4 : Hid (decide ((z : Int) > (n : Int)) = false ∧ decide (n < z) = false) := ⟨by simp; omega, by simp; omega⟩
        have D1 := Lib.hid d1
        clear d1
        obtain ⟨p13, hp13⟩ : ∃ p, a + 13 = p := ⟨_, rfl⟩
        obtain ⟨p12, hp12⟩ : ∃ p, a + 12 = p := ⟨_, rfl⟩
        obtain ⟨pe, hpe⟩ : ∃ p, p13 + wd = p := ⟨_, rfl⟩
        obtain ⟨fl, hfl⟩ : ∃ p, 17 + wd = p := ⟨_, rfl⟩
        have h17 := HP17.out
        have hnn := HB.out.2.2
        have HQ1 : Hid (p12 < n ∧ n ≤ c ∧ n ≤ 60000) := ⟨by omega, by omega, by omega⟩
        have HQ2 : Hid (p13 ≤ pe ∧ pe ≤ c ∧ pe - p13 = wd) := ⟨by omega, by omega, by omega⟩
        have HQ3 : Hid (a ≤ z ∧ z ≤ c ∧ z ≤ n) := ⟨by omega, by omega, by omega⟩
        have HQ4 : Hid (z - a = fl) := Lib.hid (by omega)
        have HQ5 : Hid (¬ c = a) := Lib.hid (by omega)
        have HQ6 : Hid (¬ c = p13) := Lib.hid (by omega)
        have HQ7 : Hid (wd ≤ 60000 ∧ fl = 17 + wd ∧ a + fl = z ∧ a + 17 + wd = z ∧ p13 + wd ≤ n ∧ p13 + wd ≤ c ∧ a + fl ≤ n) := ⟨by omega, by omega, by omega, by omega, by omega, by omega, by omega⟩
        have HW12 : Hid (wrap64 ((a : Int) + 12) = (p12 : Int)) := w_12 hp12 (Nat.le_trans (Nat.le_of_lt HQ1.out.1) HQ1.out.2.2)
        have HW13 : Hid (wrap64 ((a : Int) + 13) = (p13 : Int)) := w_13 hp13 (Nat.le_trans HQ2.out.1 (Nat.le_trans (Nat.le_of_eq hpe.symm) (Nat.le_trans HQ7.out.2.2.2.2.1 HQ1.out.2.2)))
        have HWE : Hid (wrap64 ((p13 : Int) + (wd : Int)) = (pe : Int)) := w_add hpe (Nat.le_trans (Nat.le_of_eq hpe.symm) (Nat.le_trans HQ7.out.2.2.2.2.1 HQ1.out.2.2))
        have e13 : cutA (some ⟨bk, o, none⟩) p13 c = some ⟨bk, o + p13, none⟩ := by
          unfold cutA
          rw [if_neg HQ6.out, Option.map_some, Addr.add_lit]
        clear h17 hnn
        obtain ⟨kd, hkd⟩ : ∃ q, bAt B p12 = q := ⟨_, rfl⟩
        obtain ⟨E, hE⟩ : ∃ E, cutL B p13 wd = E := ⟨_, rfl⟩
        obtain ⟨CU, hCU⟩ : ∃ E, cutL B a fl = E := ⟨_, rfl⟩
        obtain ⟨FR, hFR⟩ : ∃ G, frameI q kd E = G := ⟨_, rfl⟩
        have hlB : B.length = n := HB.out.2.1
        have hkr : 0 ≤ kd ∧ kd ≤ 255 := by
          rw [← hkd]
          exact HB.out.1 _ (List.mem_of_getElem? (bAt_some (by rw [hlB]; exact HQ1.out.1)))
        have HUK : Hid (IntKind.i64.wrap kd = kd) := w_byte hkr
        have HEL : Hid (E.length = wd) := by rw [Hid, ← hE]; exact cutL_len (by rw [hlB]; exact HQ7.out.2.2.2.2.1)
        have HEO : Hid (OkB E) := by rw [Hid, ← hE]; exact cutL_ok HB.out.1 _ _
        have HCO : Hid (OkB CU) := by rw [Hid, ← hCU]; exact cutL_ok HB.out.1 _ _
        have HFR : Hid (FR.length = fl ∧ OkB FR) := ⟨by rw [← hFR, frameI_len, HEL.out]; exact hfl, by rw [← hFR]; exact frameI_ok hkr HEO.out⟩
        have HREC : Hid (recAt B a q = if FR = CU then some (kd, E) else none) := by
          unfold recAt
          have h1 := HP17.out
          have h2 := HQ7.out
          have h3 := HQ3.out
          rw [Hid, if_pos ⟨by omega, h1.2.2⟩, hwd, Int.toNat_natCast, if_pos ⟨by omega, by omega⟩, hp12, hkd, hp13, hE, hfl, hCU, hFR]
        have HCUT : Hid (∀ W, Below wr.heap.size wr W → RowB W (.slice (some ⟨bk, o + p13, none⟩) wd (c - p13)) E ∧ RowB W (.slice (some ⟨bk, o + a, none⟩) fl (c - a)) CU ∧ W.cell? ⟨bk, o + p12, none⟩ = some (.int .u8 kd)) := fun W hW => by
          have hbw : Below w.heap.size w W := hst.out.below.trans (hW.mono hst.out.below.size)
          have hrw := HR.out.on hbw
          refine ⟨?_, ?_, ?_⟩
          · have key := RowB.cutU hrw hlB (l := p13) (k := wd) (m := c) HQ7.out.2.2.2.2.1 HQ7.out.2.2.2.2.2.1 (Nat.le_refl _)
            rw [e13, hE] at key
            exact key
          · have key := RowB.cut hrw hlB (at0 := a) (k := fl) HQ7.out.2.2.2.2.2.2 (by have := HQ7.out.2.1; omega)
            rw [hCU] at key
            exact key
          · have := HCL.out W hbw p12 HQ1.out.1
            rw [hkd] at this
            exact this
        have HCK : Hid (∀ W, Below w.heap.size w W → W.cell? ⟨bk, o + p12, none⟩ = some (.int .u8 kd)) := fun W hW => by
          have := HCL.out W hW p12 HQ1.out.1
          rw [hkd] at this
          exact this
        have HDAT : Hid (∀ W, Below w.heap.size w W → RowB W (.slice (some ⟨bk, o + p13, none⟩) wd (c - p13)) E) := fun W hW => by
          have key := RowB.cutU (HR.out.on hW) hlB (l := p13) (k := wd) (m := c) HQ7.out.2.2.2.2.1 HQ7.out.2.2.2.2.2.1 (Nat.le_refl _)
          rw [e13, hE] at key
          exact key
        have HRF : Hid (∀ W, Below wr.heap.size wr W → Calls Tryd.prog 14 #[.int .i64 q, .int .i64 kd, .slice (some ⟨bk, o + p13, none⟩) wd (c - p13)] W fun e w' => ∃ v a' c', e = .returned v ∧ v = .slice a' fl c' ∧ RowB w' (.slice a' fl c') FR ∧ Below W.heap.size W w') := fun W hW => by
          have key := refFrame_c q kd _ E W (HCUT.out W hW).1 HEO.out (by rw [HEL.out]; exact HQ7.out.1) ⟨HP17.out.2.2, hst.out.rng.2⟩ hkr
          rw [hFR] at key
          refine key.mono ?_
          rintro e w' ⟨v, rfl, ho, hb⟩
          obtain ⟨a', c', rfl⟩ := ho.shape
          rw [HFR.out.1] at ho ⊢
          exact ⟨_, a', c', rfl, rfl, ho.row, hb⟩
        obtain ⟨sF, hsF⟩ : ∃ q, strI FR = q := ⟨_, rfl⟩
        have HSF := Lib.hid hsF
        have HKR := Lib.hid hkr
        by_cases hcmp : FR = CU
        · have HSOME : Hid (recAt B a q = some (kd, E)) := by rw [Hid, HREC.out, if_pos hcmp]
          have HSC : Hid (strI CU = sF) := by rw [Hid, ← hcmp]; exact hsF
          have HXL : Hid (X.length + 1 ≤ 100000) := Lib.hid (by have h1 := hst.out.len; have h2 := HA.out; have h3 := HB.out.2.2.2; omega)
          clear hcmp hsF hbig hwi hwd hz hzn hp13 hp12 hpe hfl hkd hE hCU hFR hlB hkr
          have hw17 := HW17.out
          have hwz := HWZ.out
          have hw13 := HW13.out
          have hwe := HWE.out
          have d1 := D1.out
          obtain ⟨d3, d3'⟩ := D3.out
          obtain ⟨d4, d4'⟩ := D4.out
          have n1 : pe ≤ c := HQ2.out.2.1
          have n2 : p13 ≤ pe := HQ2.out.1
          have n3 : pe - p13 = wd := HQ2.out.2.2
          have n4 : ¬ c = p13 := HQ6.out
          go_upto_region 11 with fail
          clear n1 n2 n3 n4 hw13 hwe d3 d3' d4 d4' hwz hw17 d1
          refine wp_region_put (by kernel_rfl) (by kernel_rfl) (by kernel_rfl) (fun b' vs w' => (b' 0 = true → vs 0 = .int .i64 q) ∧ (b' 1 = true → vs 1 = .slice (some ⟨bk, o, none⟩) n c) ∧ (b' 2 = true → vs 2 = .int .i64 (a : Int)) ∧ (b' 3 = true → vs 3 = .int .i64 (p12 : Int)) ∧ (b' 4 = true → vs 4 = .pointer (some ⟨bk, o + p12, none⟩)) ∧ (b' 5 = true → vs 5 = .int .u8 kd) ∧ (b' 6 = true → vs 6 = .int .i64 kd) ∧ (b' 7 = true → vs 7 = .slice (some ⟨bk, o + p13, none⟩) wd (c - p13)) ∧ (b' 9 = true → vs 9 = .string sF) ∧ (b' 10 = true → vs 10 = .slice (some ⟨bk, o, none⟩) n c) ∧ (b' 11 = true → vs 11 = .int .i64 (a : Int)) ∧ (b' 12 = true → vs 12 = .int .i64 (a : Int)) ∧ (b' 13 = true → vs 13 = .int .i64 (p17 : Int)) ∧ (b' 14 = true → vs 14 = .int .i64 (wd : Int)) ∧ (b' 15 = true → vs 15 = .int .i64 (z : Int)) ∧ (b' 16 = true → vs 16 = .slice (some ⟨bk, o + a, none⟩) fl (c - a)) ∧ (b' 17 = true → vs 17 = .string sF) ∧ (b' 18 = true → vs 18 = .bool false) ∧ (b' 8 = true → Hid (∃ a' c', vs 8 = .slice a' fl c' ∧ RowB w' (.slice a' fl c') FR)) ∧ (Hid (Below wr.heap.size wr w'))) ?_ ?_ ?_
          · intro vs
            exact ⟨fun h => Bool.noConfusion h, fun h => Bool.noConfusion h, fun h => Bool.noConfusion h, fun h => Bool.noConfusion h, fun h => Bool.noConfusion h, fun h => Bool.noConfusion h, fun h => Bool.noConfusion h, fun h => Bool.noConfusion h, fun h => Bool.noConfusion h, fun h => Bool.noConfusion h, fun h => Bool.noConfusion h, fun h => Bool.noConfusion h, fun h => Bool.noConfusion h, fun h => Bool.noConfusion h, fun h => Bool.noConfusion h, fun h => Bool.noConfusion h, fun h => Bool.noConfusion h, fun h => Bool.noConfusion h, fun h => Bool.noConfusion h, below_drewN (Below.refl _ _) 1⟩
          · rintro b' vs w' i op hi hun hall ⟨h0, h1, h2, h3, h4, h5, h6, h7, h9, h10, h11, h12, h13, h14, h15, h16, h17, h18, y8, hB⟩
            have hil : i < 19 := (List.getElem?_eq_some_iff.1 hi).1
            rcases i with _ | _ | _ | _ | _ | _ | _ | _ | _ | _ | _ | _ | _ | _ | _ | _ | _ | _ | _ | i
            · obtain rfl := Option.some.inj hi
              clear hi hil
              refine wpOp_step rfl (fun K hK => ?_)
              have HKK := Lib.hid hK; clear hK
              simp only [putAll, Act.put, List.setIfInBounds_toArray, List.set_cons_zero, List.set_cons_succ]
              go_simp
              exact HKK.out _ _ ⟨_, by simp only [putAll, Act.put, List.setIfInBounds_toArray, List.set_cons_zero, List.set_cons_succ] <;> rfl, fun _ => rfl, h1, h2, h3, h4, h5, h6, h7, h9, h10, h11, h12, h13, h14, h15, h16, h17, h18, y8, hB⟩
            · obtain rfl := Option.some.inj hi
              clear hi hil
              refine wpOp_step rfl (fun K hK => ?_)
              have HKK := Lib.hid hK; clear hK
              simp only [putAll, Act.put, List.setIfInBounds_toArray, List.set_cons_zero, List.set_cons_succ]
              go_simp
              exact HKK.out _ _ ⟨_, by simp only [putAll, Act.put, List.setIfInBounds_toArray, List.set_cons_zero, List.set_cons_succ] <;> rfl, h0, fun _ => rfl, h2, h3, h4, h5, h6, h7, h9, h10, h11, h12, h13, h14, h15, h16, h17, h18, y8, hB⟩
            · obtain rfl := Option.some.inj hi
              clear hi hil
              refine wpOp_step rfl (fun K hK => ?_)
              have HKK := Lib.hid hK; clear hK
              simp only [putAll, Act.put, List.setIfInBounds_toArray, List.set_cons_zero, List.set_cons_succ]
              go_simp
              exact HKK.out _ _ ⟨_, by simp only [putAll, Act.put, List.setIfInBounds_toArray, List.set_cons_zero, List.set_cons_succ] <;> rfl, h0, h1, fun _ => rfl, h3, h4, h5, h6, h7, h9, h10, h11, h12, h13, h14, h15, h16, h17, h18, y8, hB⟩
            · obtain rfl := Option.some.inj hi
              clear hi hil
              have d2 := h2 (hall ⟨2, .data⟩ (by simp) rfl)
              have ew := (wrap_is _).trans HW12.out
              refine wpOp_step rfl (fun K hK => ?_)
              have HKK := Lib.hid hK; clear hK
              simp only [putAll, Act.put, List.setIfInBounds_toArray, List.set_cons_zero, List.set_cons_succ]
              go_simp
              exact HKK.out _ _ ⟨_, by simp only [putAll, Act.put, List.setIfInBounds_toArray, List.set_cons_zero, List.set_cons_succ, d2] <;> rfl, h0, h1, h2, fun _ => rfl, h4, h5, h6, h7, h9, h10, h11, h12, h13, h14, h15, h16, h17, h18, y8, hB⟩
            · obtain rfl := Option.some.inj hi
              clear hi hil
              have d1 := h1 (hall ⟨1, .data⟩ (by simp) rfl)
              have d3 := h3 (hall ⟨3, .data⟩ (by simp) rfl)
              have s1 : (p12 : Int) < (n : Int) := by have := HQ1.out.1; omega
              have s2 : p12 < n := HQ1.out.1
              refine wpOp_step rfl (fun K hK => ?_)
              have HKK := Lib.hid hK; clear hK
              simp only [putAll, Act.put, List.setIfInBounds_toArray, List.set_cons_zero, List.set_cons_succ]
              go_simp
              exact HKK.out _ _ ⟨_, by simp only [putAll, Act.put, List.setIfInBounds_toArray, List.set_cons_zero, List.set_cons_succ, d1, d3] <;> rfl, h0, h1, h2, h3, fun _ => rfl, h5, h6, h7, h9, h10, h11, h12, h13, h14, h15, h16, h17, h18, y8, hB⟩
            · obtain rfl := Option.some.inj hi
              clear hi hil
              have d4 := h4 (hall ⟨4, .data⟩ (by simp) rfl)
              have ck := (HCUT.out w' hB.out).2.2
              refine wpOp_step rfl (fun K hK => ?_)
              have HKK := Lib.hid hK; clear hK
              simp only [putAll, Act.put, List.setIfInBounds_toArray, List.set_cons_zero, List.set_cons_succ]
              go_simp
              exact HKK.out _ _ ⟨_, by simp only [putAll, Act.put, List.setIfInBounds_toArray, List.set_cons_zero, List.set_cons_succ, d4] <;> rfl, h0, h1, h2, h3, h4, fun _ => rfl, h6, h7, h9, h10, h11, h12, h13, h14, h15, h16, h17, h18, y8, hB⟩
            · obtain rfl := Option.some.inj hi
              clear hi hil
              have d5 := h5 (hall ⟨5, .data⟩ (by simp) rfl)
              have uk := HUK.out
              refine wpOp_step rfl (fun K hK => ?_)
              have HKK := Lib.hid hK; clear hK
              simp only [putAll, Act.put, List.setIfInBounds_toArray, List.set_cons_zero, List.set_cons_succ]
              go_simp
              exact HKK.out _ _ ⟨_, by simp only [putAll, Act.put, List.setIfInBounds_toArray, List.set_cons_zero, List.set_cons_succ, d5] <;> rfl, h0, h1, h2, h3, h4, h5, fun _ => rfl, h7, h9, h10, h11, h12, h13, h14, h15, h16, h17, h18, y8, hB⟩
            · obtain rfl := Option.some.inj hi
              clear hi hil
              refine wpOp_step rfl (fun K hK => ?_)
              have HKK := Lib.hid hK; clear hK
              simp only [putAll, Act.put, List.setIfInBounds_toArray, List.set_cons_zero, List.set_cons_succ]
              go_simp
              exact HKK.out _ _ ⟨_, by simp only [putAll, Act.put, List.setIfInBounds_toArray, List.set_cons_zero, List.set_cons_succ] <;> rfl, h0, h1, h2, h3, h4, h5, h6, fun _ => rfl, h9, h10, h11, h12, h13, h14, h15, h16, h17, h18, y8, hB⟩
            · obtain rfl := Option.some.inj hi
              clear hi hil
              have d0 := h0 (hall ⟨0, .data⟩ (by simp) rfl)
              have d6 := h6 (hall ⟨6, .data⟩ (by simp) rfl)
              have d7 := h7 (hall ⟨7, .data⟩ (by simp) rfl)
              refine wpOp_step rfl (fun K hK => ?_)
              have HKK := Lib.hid hK; clear hK
              simp only [putAll, Act.put, List.setIfInBounds_toArray, List.set_cons_zero, List.set_cons_succ]
              go_simp
              refine (HRF.out w' hB.out).mono ?_
              rintro e w2' ⟨vv, va', vc', rfl, rfl, hrow, hb2⟩
              exact HKK.out _ _ ⟨_, by simp only [putAll, Act.put, List.setIfInBounds_toArray, List.set_cons_zero, List.set_cons_succ, d0, d6, d7] <;> rfl, h0, h1, h2, h3, h4, h5, h6, h7, h9, h10, h11, h12, h13, h14, h15, h16, h17, h18, fun _ => Lib.hid ⟨_, _, rfl, hrow⟩, hB.out.trans (hb2.mono hB.out.size)⟩
            · obtain rfl := Option.some.inj hi
              clear hi hil
              have oy := y8 (hall ⟨8, .data⟩ (by simp) rfl)
              obtain ⟨ya, yc, hyv, hyr⟩ := oy.out
              have cv := conv_b hyr HFR.out.2
              rw [HSF.out] at cv
              refine wpOp_step rfl (fun K hK => ?_)
              have HKK := Lib.hid hK; clear hK
              simp only [putAll, Act.put, List.setIfInBounds_toArray, List.set_cons_zero, List.set_cons_succ]
              go_simp
              exact HKK.out _ _ ⟨_, by simp only [putAll, Act.put, List.setIfInBounds_toArray, List.set_cons_zero, List.set_cons_succ, hyv] <;> rfl, h0, h1, h2, h3, h4, h5, h6, h7, fun _ => rfl, h10, h11, h12, h13, h14, h15, h16, h17, h18, y8, hB⟩
            · obtain rfl := Option.some.inj hi
              clear hi hil
              refine wpOp_step rfl (fun K hK => ?_)
              have HKK := Lib.hid hK; clear hK
              simp only [putAll, Act.put, List.setIfInBounds_toArray, List.set_cons_zero, List.set_cons_succ]
              go_simp
              exact HKK.out _ _ ⟨_, by simp only [putAll, Act.put, List.setIfInBounds_toArray, List.set_cons_zero, List.set_cons_succ] <;> rfl, h0, h1, h2, h3, h4, h5, h6, h7, h9, fun _ => rfl, h11, h12, h13, h14, h15, h16, h17, h18, y8, hB⟩
            · obtain rfl := Option.some.inj hi
              clear hi hil
              refine wpOp_step rfl (fun K hK => ?_)
              have HKK := Lib.hid hK; clear hK
              simp only [putAll, Act.put, List.setIfInBounds_toArray, List.set_cons_zero, List.set_cons_succ]
              go_simp
              exact HKK.out _ _ ⟨_, by simp only [putAll, Act.put, List.setIfInBounds_toArray, List.set_cons_zero, List.set_cons_succ] <;> rfl, h0, h1, h2, h3, h4, h5, h6, h7, h9, h10, fun _ => rfl, h12, h13, h14, h15, h16, h17, h18, y8, hB⟩
            · obtain rfl := Option.some.inj hi
              clear hi hil
              refine wpOp_step rfl (fun K hK => ?_)
              have HKK := Lib.hid hK; clear hK
              simp only [putAll, Act.put, List.setIfInBounds_toArray, List.set_cons_zero, List.set_cons_succ]
              go_simp
              exact HKK.out _ _ ⟨_, by simp only [putAll, Act.put, List.setIfInBounds_toArray, List.set_cons_zero, List.set_cons_succ] <;> rfl, h0, h1, h2, h3, h4, h5, h6, h7, h9, h10, h11, fun _ => rfl, h13, h14, h15, h16, h17, h18, y8, hB⟩
            · obtain rfl := Option.some.inj hi
              clear hi hil
              have d12 := h12 (hall ⟨12, .data⟩ (by simp) rfl)
              have ew := (wrap_is _).trans HW17.out
              refine wpOp_step rfl (fun K hK => ?_)
              have HKK := Lib.hid hK; clear hK
              simp only [putAll, Act.put, List.setIfInBounds_toArray, List.set_cons_zero, List.set_cons_succ]
              go_simp
              exact HKK.out _ _ ⟨_, by simp only [putAll, Act.put, List.setIfInBounds_toArray, List.set_cons_zero, List.set_cons_succ, d12] <;> rfl, h0, h1, h2, h3, h4, h5, h6, h7, h9, h10, h11, h12, fun _ => rfl, h14, h15, h16, h17, h18, y8, hB⟩
            · obtain rfl := Option.some.inj hi
              clear hi hil
              refine wpOp_step rfl (fun K hK => ?_)
              have HKK := Lib.hid hK; clear hK
              simp only [putAll, Act.put, List.setIfInBounds_toArray, List.set_cons_zero, List.set_cons_succ]
              go_simp
              exact HKK.out _ _ ⟨_, by simp only [putAll, Act.put, List.setIfInBounds_toArray, List.set_cons_zero, List.set_cons_succ] <;> rfl, h0, h1, h2, h3, h4, h5, h6, h7, h9, h10, h11, h12, h13, fun _ => rfl, h15, h16, h17, h18, y8, hB⟩
            · obtain rfl := Option.some.inj hi
              clear hi hil
              have d13 := h13 (hall ⟨13, .data⟩ (by simp) rfl)
              have d14 := h14 (hall ⟨14, .data⟩ (by simp) rfl)
              have ew := (wrap_is _).trans HWZ.out
              refine wpOp_step rfl (fun K hK => ?_)
              have HKK := Lib.hid hK; clear hK
              simp only [putAll, Act.put, List.setIfInBounds_toArray, List.set_cons_zero, List.set_cons_succ]
              go_simp
              exact HKK.out _ _ ⟨_, by simp only [putAll, Act.put, List.setIfInBounds_toArray, List.set_cons_zero, List.set_cons_succ, d13, d14] <;> rfl, h0, h1, h2, h3, h4, h5, h6, h7, h9, h10, h11, h12, h13, h14, fun _ => rfl, h16, h17, h18, y8, hB⟩
            · obtain rfl := Option.some.inj hi
              clear hi hil
              have d10 := h10 (hall ⟨10, .data⟩ (by simp) rfl)
              have d11 := h11 (hall ⟨11, .data⟩ (by simp) rfl)
              have d15 := h15 (hall ⟨15, .data⟩ (by simp) rfl)
              have s0 : (a : Int) ≤ (z : Int) := by have := HQ3.out.1; omega
              have s1 : (z : Int) ≤ (c : Int) := by have := HQ3.out.2.1; omega
              have s2 : z - a = fl := HQ4.out
              have s3 : ¬ c = a := HQ5.out
              have s4 : a ≤ z := HQ3.out.1
              refine wpOp_step rfl (fun K hK => ?_)
              have HKK := Lib.hid hK; clear hK
              simp only [putAll, Act.put, List.setIfInBounds_toArray, List.set_cons_zero, List.set_cons_succ]
              go_simp
              exact HKK.out _ _ ⟨_, by simp only [putAll, Act.put, List.setIfInBounds_toArray, List.set_cons_zero, List.set_cons_succ, d10, d11, d15] <;> rfl, h0, h1, h2, h3, h4, h5, h6, h7, h9, h10, h11, h12, h13, h14, h15, fun _ => rfl, h17, h18, y8, hB⟩
            · obtain rfl := Option.some.inj hi
              clear hi hil
              have d16 := h16 (hall ⟨16, .data⟩ (by simp) rfl)
              have cv := conv_b (HCUT.out w' hB.out).2.1 HCO.out
              rw [HSC.out] at cv
              refine wpOp_step rfl (fun K hK => ?_)
              have HKK := Lib.hid hK; clear hK
              simp only [putAll, Act.put, List.setIfInBounds_toArray, List.set_cons_zero, List.set_cons_succ]
              go_simp
              exact HKK.out _ _ ⟨_, by simp only [putAll, Act.put, List.setIfInBounds_toArray, List.set_cons_zero, List.set_cons_succ, d16] <;> rfl, h0, h1, h2, h3, h4, h5, h6, h7, h9, h10, h11, h12, h13, h14, h15, h16, fun _ => rfl, h18, y8, hB⟩
            · obtain rfl := Option.some.inj hi
              clear hi hil
              have d9 := h9 (hall ⟨9, .data⟩ (by simp) rfl)
              have d17 := h17 (hall ⟨17, .data⟩ (by simp) rfl)
              refine wpOp_step rfl (fun K hK => ?_)
              have HKK := Lib.hid hK; clear hK
              simp only [putAll, Act.put, List.setIfInBounds_toArray, List.set_cons_zero, List.set_cons_succ]
              go_simp
              exact HKK.out _ _ ⟨_, by simp only [putAll, Act.put, List.setIfInBounds_toArray, List.set_cons_zero, List.set_cons_succ, d9, d17] <;> rfl, h0, h1, h2, h3, h4, h5, h6, h7, h9, h10, h11, h12, h13, h14, h15, h16, h17, fun _ => rfl, y8, hB⟩
            · omega
          · rintro b' vs wq hall ⟨h0, h1, h2, h3, h4, h5, h6, h7, h9, h10, h11, h12, h13, h14, h15, h16, h17, h18, y8, hB⟩
            have d0 := h0 (hall 0 (by simp))
            have d1 := h1 (hall 1 (by simp))
            have d2 := h2 (hall 2 (by simp))
            have d3 := h3 (hall 3 (by simp))
            have d4 := h4 (hall 4 (by simp))
            have d5 := h5 (hall 5 (by simp))
            have d6 := h6 (hall 6 (by simp))
            have d7 := h7 (hall 7 (by simp))
            have d9 := h9 (hall 9 (by simp))
            have d10 := h10 (hall 10 (by simp))
            have d11 := h11 (hall 11 (by simp))
            have d12 := h12 (hall 12 (by simp))
            have d13 := h13 (hall 13 (by simp))
            have d14 := h14 (hall 14 (by simp))
            have d15 := h15 (hall 15 (by simp))
            have d16 := h16 (hall 16 (by simp))
            have d17 := h17 (hall 17 (by simp))
            have d18 := h18 (hall 18 (by simp))
            have HBB := hB
            simp only [putAll, Act.put, List.setIfInBounds_toArray, List.set_cons_zero, List.set_cons_succ, d0, d1, d2, d3, d4, d5, d6, d7, d9, d10, d11, d12, d13, d14, d15, d16, d17, d18]
            clear hall y8 hB h0 d0 h1 d1 h2 d2 h3 d3 h4 d4 h5 d5 h6 d6 h7 d7 h9 d9 h10 d10 h11 d11 h12 d12 h13 d13 h14 d14 h15 d15 h16 d16 h17 d17 h18 d18
            generalize vs 8 = vM8 at *
            go_upto_region 13 with fail
            have HQ0 : Hid (OwnR wq w.heap.size 42 u6 X ∧ Below w.heap.size w wq) := ⟨hst.out.own.grow HBB.out, hst.out.below.trans (HBB.out.mono hst.out.below.size)⟩
            refine wp_region_put2 (by kernel_rfl) (by kernel_rfl) (by kernel_rfl) (fun b' vs w' => (b' 0 = true → vs 0 = u6) ∧ (b' 1 = true → vs 1 = .int .i64 q) ∧ (b' 2 = true → vs 2 = .slice (some ⟨bk, o, none⟩) n c) ∧ (b' 3 = true → vs 3 = .int .i64 (a : Int)) ∧ (b' 4 = true → vs 4 = .int .i64 (p12 : Int)) ∧ (b' 5 = true → vs 5 = .pointer (some ⟨bk, o + p12, none⟩)) ∧ (b' 6 = true → vs 6 = .int .u8 kd) ∧ (b' 7 = true → vs 7 = .int .i64 kd) ∧ (b' 8 = true → vs 8 = .slice none 0 0) ∧ (b' 9 = true → vs 9 = .slice (some ⟨bk, o + p13, none⟩) wd (c - p13)) ∧ (b' 10 = true → b' 13 = false → Hid (∃ a' c', vs 10 = .slice a' wd c' ∧ OwnB w' w.heap.size (.slice a' wd c') E)) ∧ (b' 11 = true → b' 13 = false → Hid (∃ a' c', vs 11 = .agg #[.int .i64 q, .int .i64 kd, .slice a' wd c'] ∧ OwnB w' w.heap.size (.slice a' wd c') E)) ∧ (b' 12 = true → b' 13 = false → Hid (∃ g a' c', vs 12 = .slice (some ⟨g, 0, none⟩) 1 1 ∧ (w'.cell? ⟨g, 0, none⟩ = some (.int .i64 q) ∧ w'.cell? ⟨g, 1, none⟩ = some (.int .i64 kd) ∧ w'.cell? ⟨g, 2, none⟩ = some (.slice a' wd c')) ∧ OwnB w' w.heap.size (.slice a' wd c') E)) ∧ (b' 13 = false → Hid (OwnR w' w.heap.size 42 u6 X)) ∧ (b' 13 = true → Hid (∃ d, OwnR w' w.heap.size 42 (vs 13) (X ++ [(q, kd, d, E)]))) ∧ (b' 14 = true → b' 13 = true ∧ vs 14 = vs 13) ∧ (Hid (Below w.heap.size w w')) ∧ (b' 14 = false → vs 14 = u6) ∧ (b' 14 = true → b' 0 = true) ∧ (b' 13 = true → b' 0 = true) ∧ (b' 13 = true → b' 12 = true) ∧ (b' 12 = true → b' 11 = true) ∧ (b' 11 = true → b' 10 = true)) ?_ ?_ ?_
            · intro vs hvs
              exact ⟨fun h => Bool.noConfusion h, fun h => Bool.noConfusion h, fun h => Bool.noConfusion h, fun h => Bool.noConfusion h, fun h => Bool.noConfusion h, fun h => Bool.noConfusion h, fun h => Bool.noConfusion h, fun h => Bool.noConfusion h, fun h => Bool.noConfusion h, fun h => Bool.noConfusion h, fun h => Bool.noConfusion h, fun h => Bool.noConfusion h, fun h => Bool.noConfusion h, fun _ => Lib.hid (HQ0.out.1.grow (below_drewN (Below.refl _ _) 1)), fun h => Bool.noConfusion h, fun h => Bool.noConfusion h, (HQ0.out.2.trans ((below_drewN (Below.refl _ _) 1).mono HQ0.out.2.size)), fun _ => hvs 14 _ _ rfl rfl, fun h => Bool.noConfusion h, fun h => Bool.noConfusion h, fun h => Bool.noConfusion h, fun h => Bool.noConfusion h, fun h => Bool.noConfusion h⟩
            · rintro b' vs w' i op hi hun hall ⟨h0, h1, h2, h3, h4, h5, h6, h7, h8, h9, y10, y11, y12, hF, hG, hA, hB, hR, hZ, hE0, hE12, hE11, hE10⟩
              have hil : i < 15 := (List.getElem?_eq_some_iff.1 hi).1
              rcases i with _ | _ | _ | _ | _ | _ | _ | _ | _ | _ | _ | _ | _ | _ | _ | i
              · obtain rfl := Option.some.inj hi
                clear hi hil
                have hz : b' 14 = false := by
                  cases hzz : b' 14 with
                  | false => rfl
                  | true => exact absurd (hZ hzz) (by rw [hun]; decide)
                have hx := hR hz
                refine wpOp_step rfl (fun K hK => ?_)
                have HKK := Lib.hid hK; clear hK
                simp only [putAll, Act.put, List.setIfInBounds_toArray, List.set_cons_zero, List.set_cons_succ]
                go_simp
                exact HKK.out _ _ ⟨_, by simp only [putAll, Act.put, List.setIfInBounds_toArray, List.set_cons_zero, List.set_cons_succ, hx] <;> rfl, fun _ => rfl, h1, h2, h3, h4, h5, h6, h7, h8, h9, y10, y11, y12, hF, hG, hA, hB, hR, fun _ => rfl, fun _ => rfl, hE12, hE11, hE10⟩
              · obtain rfl := Option.some.inj hi
                clear hi hil
                refine wpOp_step rfl (fun K hK => ?_)
                have HKK := Lib.hid hK; clear hK
                simp only [putAll, Act.put, List.setIfInBounds_toArray, List.set_cons_zero, List.set_cons_succ]
                go_simp
                exact HKK.out _ _ ⟨_, by simp only [putAll, Act.put, List.setIfInBounds_toArray, List.set_cons_zero, List.set_cons_succ] <;> rfl, h0, fun _ => rfl, h2, h3, h4, h5, h6, h7, h8, h9, y10, y11, y12, hF, hG, hA, hB, hR, hZ, hE0, hE12, hE11, hE10⟩
              · obtain rfl := Option.some.inj hi
                clear hi hil
                refine wpOp_step rfl (fun K hK => ?_)
                have HKK := Lib.hid hK; clear hK
                simp only [putAll, Act.put, List.setIfInBounds_toArray, List.set_cons_zero, List.set_cons_succ]
                go_simp
                exact HKK.out _ _ ⟨_, by simp only [putAll, Act.put, List.setIfInBounds_toArray, List.set_cons_zero, List.set_cons_succ] <;> rfl, h0, h1, fun _ => rfl, h3, h4, h5, h6, h7, h8, h9, y10, y11, y12, hF, hG, hA, hB, hR, hZ, hE0, hE12, hE11, hE10⟩
              · obtain rfl := Option.some.inj hi
                clear hi hil
                refine wpOp_step rfl (fun K hK => ?_)
                have HKK := Lib.hid hK; clear hK
                simp only [putAll, Act.put, List.setIfInBounds_toArray, List.set_cons_zero, List.set_cons_succ]
                go_simp
                exact HKK.out _ _ ⟨_, by simp only [putAll, Act.put, List.setIfInBounds_toArray, List.set_cons_zero, List.set_cons_succ] <;> rfl, h0, h1, h2, fun _ => rfl, h4, h5, h6, h7, h8, h9, y10, y11, y12, hF, hG, hA, hB, hR, hZ, hE0, hE12, hE11, hE10⟩
              · obtain rfl := Option.some.inj hi
                clear hi hil
                have d3 := h3 (hall ⟨3, .data⟩ (by simp) rfl)
                have ew := (wrap_is _).trans HW12.out
                refine wpOp_step rfl (fun K hK => ?_)
                have HKK := Lib.hid hK; clear hK
                simp only [putAll, Act.put, List.setIfInBounds_toArray, List.set_cons_zero, List.set_cons_succ]
                go_simp
                exact HKK.out _ _ ⟨_, by simp only [putAll, Act.put, List.setIfInBounds_toArray, List.set_cons_zero, List.set_cons_succ, d3] <;> rfl, h0, h1, h2, h3, fun _ => rfl, h5, h6, h7, h8, h9, y10, y11, y12, hF, hG, hA, hB, hR, hZ, hE0, hE12, hE11, hE10⟩
              · obtain rfl := Option.some.inj hi
                clear hi hil
                have d2 := h2 (hall ⟨2, .data⟩ (by simp) rfl)
                have d4 := h4 (hall ⟨4, .data⟩ (by simp) rfl)
                have s1 : (p12 : Int) < (n : Int) := by have := HQ1.out.1; omega
                have s2 : p12 < n := HQ1.out.1
                refine wpOp_step rfl (fun K hK => ?_)
                have HKK := Lib.hid hK; clear hK
                simp only [putAll, Act.put, List.setIfInBounds_toArray, List.set_cons_zero, List.set_cons_succ]
                go_simp
                exact HKK.out _ _ ⟨_, by simp only [putAll, Act.put, List.setIfInBounds_toArray, List.set_cons_zero, List.set_cons_succ, d2, d4] <;> rfl, h0, h1, h2, h3, h4, fun _ => rfl, h6, h7, h8, h9, y10, y11, y12, hF, hG, hA, hB, hR, hZ, hE0, hE12, hE11, hE10⟩
              · obtain rfl := Option.some.inj hi
                clear hi hil
                have d5 := h5 (hall ⟨5, .data⟩ (by simp) rfl)
                have ck := HCK.out w' hB.out
                refine wpOp_step rfl (fun K hK => ?_)
                have HKK := Lib.hid hK; clear hK
                simp only [putAll, Act.put, List.setIfInBounds_toArray, List.set_cons_zero, List.set_cons_succ]
                go_simp
                exact HKK.out _ _ ⟨_, by simp only [putAll, Act.put, List.setIfInBounds_toArray, List.set_cons_zero, List.set_cons_succ, d5] <;> rfl, h0, h1, h2, h3, h4, h5, fun _ => rfl, h7, h8, h9, y10, y11, y12, hF, hG, hA, hB, hR, hZ, hE0, hE12, hE11, hE10⟩
              · obtain rfl := Option.some.inj hi
                clear hi hil
                have d6 := h6 (hall ⟨6, .data⟩ (by simp) rfl)
                have uk := HUK.out
                refine wpOp_step rfl (fun K hK => ?_)
                have HKK := Lib.hid hK; clear hK
                simp only [putAll, Act.put, List.setIfInBounds_toArray, List.set_cons_zero, List.set_cons_succ]
                go_simp
                exact HKK.out _ _ ⟨_, by simp only [putAll, Act.put, List.setIfInBounds_toArray, List.set_cons_zero, List.set_cons_succ, d6] <;> rfl, h0, h1, h2, h3, h4, h5, h6, fun _ => rfl, h8, h9, y10, y11, y12, hF, hG, hA, hB, hR, hZ, hE0, hE12, hE11, hE10⟩
              · obtain rfl := Option.some.inj hi
                clear hi hil
                refine wpOp_step rfl (fun K hK => ?_)
                have HKK := Lib.hid hK; clear hK
                simp only [putAll, Act.put, List.setIfInBounds_toArray, List.set_cons_zero, List.set_cons_succ]
                go_simp
                exact HKK.out _ _ ⟨_, by simp only [putAll, Act.put, List.setIfInBounds_toArray, List.set_cons_zero, List.set_cons_succ] <;> rfl, h0, h1, h2, h3, h4, h5, h6, h7, fun _ => rfl, h9, y10, y11, y12, hF, hG, hA, hB, hR, hZ, hE0, hE12, hE11, hE10⟩
              · obtain rfl := Option.some.inj hi
                clear hi hil
                refine wpOp_step rfl (fun K hK => ?_)
                have HKK := Lib.hid hK; clear hK
                simp only [putAll, Act.put, List.setIfInBounds_toArray, List.set_cons_zero, List.set_cons_succ]
                go_simp
                exact HKK.out _ _ ⟨_, by simp only [putAll, Act.put, List.setIfInBounds_toArray, List.set_cons_zero, List.set_cons_succ] <;> rfl, h0, h1, h2, h3, h4, h5, h6, h7, h8, fun _ => rfl, y10, y11, y12, hF, hG, hA, hB, hR, hZ, hE0, hE12, hE11, hE10⟩
              · obtain rfl := Option.some.inj hi
                clear hi hil
                have d8 := h8 (hall ⟨8, .data⟩ (by simp) rfl)
                have d9 := h9 (hall ⟨9, .data⟩ (by simp) rfl)
                have na : b' 13 = false := by
                  cases hz : b' 13 with
                  | false => rfl
                  | true => exact absurd (hE10 (hE11 (hE12 hz))) (by rw [hun]; decide)
                have hS := (hF na).out
                have hrw := (HDAT.out w' hB.out).news2
                refine wpOp_step rfl (fun K hK => ?_)
                have HKK := Lib.hid hK; clear hK
                simp only [putAll, Act.put, List.setIfInBounds_toArray, List.set_cons_zero, List.set_cons_succ]
                refine (if_pos rfl).mpr (wp_append_byts _ _ 22 rfl Tryd.underlying22 w.heap.size (.slice none 0 0) [] d8 (World.ownsRow_nil _ _ _ _) ⟨bk, o + p13, none⟩ wd (c - p13) E d9 HEL.out hrw (by have := HQ7.out.1; simp; omega) hB.out.size ?_)
                intro v2 w2' ho2 hg2 hm2
                have hX2 : OwnR w2' w.heap.size 42 u6 X := hS.keep (Keep.of_grown hg2) (fun k _ e => by cases e)
                have hb2 : Below w.heap.size w w2' := own_below (World.ownsRow_nil w' w.heap.size 5 1) hg2 hB.out (Nat.le_refl _) hB.out.size
                obtain ⟨a2, c2, rfl⟩ := ho2.shape
                simp only [List.nil_append] at ho2 ⊢
                rw [HEL.out] at ho2 ⊢
                exact HKK.out _ _ ⟨_, by simp only [putAll, Act.put, List.setIfInBounds_toArray, List.set_cons_zero, List.set_cons_succ, d8, d9] <;> rfl, h0, h1, h2, h3, h4, h5, h6, h7, h8, h9, fun _ _ => Lib.hid ⟨_, _, rfl, ho2⟩, fun h => absurd (hE10 h) (by rw [hun]; decide), fun h => absurd (hE10 (hE11 h)) (by rw [hun]; decide), fun _ => Lib.hid hX2, fun h => absurd (hE10 (hE11 (hE12 h))) (by rw [hun]; decide), hA, hb2, hR, hZ, hE0, hE12, hE11, fun _ => rfl⟩
              · obtain rfl := Option.some.inj hi
                clear hi hil
                have d1 := h1 (hall ⟨1, .data⟩ (by simp) rfl)
                have d7 := h7 (hall ⟨7, .data⟩ (by simp) rfl)
                have na : b' 13 = false := by
                  cases hz : b' 13 with
                  | false => rfl
                  | true => exact absurd (hE11 (hE12 hz)) (by rw [hun]; decide)
                have oy := y10 (hall ⟨10, .data⟩ (by simp) rfl) na
                obtain ⟨a', c', e1, e2⟩ := oy.out
                refine wpOp_step rfl (fun K hK => ?_)
                have HKK := Lib.hid hK; clear hK
                simp only [putAll, Act.put, List.setIfInBounds_toArray, List.set_cons_zero, List.set_cons_succ]
                go_simp
                exact HKK.out _ _ ⟨_, by simp only [putAll, Act.put, List.setIfInBounds_toArray, List.set_cons_zero, List.set_cons_succ, d1, d7, e1] <;> rfl, h0, h1, h2, h3, h4, h5, h6, h7, h8, h9, y10, fun _ _ => Lib.hid ⟨_, _, rfl, e2⟩, fun h => absurd (hE11 h) (by rw [hun]; decide), hF, fun h => absurd (hE11 (hE12 h)) (by rw [hun]; decide), hA, hB, hR, hZ, hE0, hE12, fun _ => rfl, fun _ => hall ⟨10, .data⟩ (by simp) rfl⟩
              · obtain rfl := Option.some.inj hi
                clear hi hil
                have na : b' 13 = false := by
                  cases hz : b' 13 with
                  | false => rfl
                  | true => exact absurd (hE12 hz) (by rw [hun]; decide)
                have oy := y11 (hall ⟨11, .data⟩ (by simp) rfl) na
                obtain ⟨a', c', e1, e2⟩ := oy.out
                have hb2 : Below w'.heap.size w' (w'.alloc (.cells #[.int .i64 q, .int .i64 kd, .slice a' wd c'] 42)) := (Below.refl _ _).alloc (Nat.le_refl _) _
                refine wpOp_step rfl (fun K hK => ?_)
                have HKK := Lib.hid hK; clear hK
                simp only [putAll, Act.put, List.setIfInBounds_toArray, List.set_cons_zero, List.set_cons_succ]
                go_simp
                exact HKK.out _ _ ⟨_, by simp only [putAll, Act.put, List.setIfInBounds_toArray, List.set_cons_zero, List.set_cons_succ, e1] <;> rfl, h0, h1, h2, h3, h4, h5, h6, h7, h8, h9, fun h ha => Lib.hid (by obtain ⟨a', c', e1, e2⟩ := (y10 h ha).out; exact ⟨a', c', e1, e2.grow hb2⟩), fun h ha => Lib.hid (by obtain ⟨a', c', e1, e2⟩ := (y11 h ha).out; exact ⟨a', c', e1, e2.grow hb2⟩), fun _ _ => Lib.hid ⟨_, a', c', rfl, ⟨(Blk.new _ _ _).cell 0, (Blk.new _ _ _).cell 1, (Blk.new _ _ _).cell 2⟩, e2.grow hb2⟩, fun ha => Lib.hid ((hF ha).out.grow hb2), fun h => absurd (hE12 h) (by rw [hun]; decide), hA, hB.out.alloc hB.out.size _, hR, hZ, hE0, fun _ => rfl, fun _ => hall ⟨11, .data⟩ (by simp) rfl, hE10⟩
              · obtain rfl := Option.some.inj hi
                clear hi hil
                have d0 := h0 (hall ⟨0, .data⟩ (by simp) rfl)
                have oy := y12 (hall ⟨12, .data⟩ (by simp) rfl) hun
                obtain ⟨g, a', c', e1, ec, e2⟩ := oy.out
                have hS := (hF hun).out
                refine wpOp_step rfl (fun K hK => ?_)
                have HKK := Lib.hid hK; clear hK
                simp only [putAll, Act.put, List.setIfInBounds_toArray, List.set_cons_zero, List.set_cons_succ]
                refine (if_pos rfl).mpr (wp_append_rec _ _ 39 42 rfl Tryd.underlying39 infoRef (by decide) w.heap.size u6 X (q, kd, .slice a' wd c', E) d0 hS g e1 ec rfl e2 HXL.out hB.out.size ?_)
                intro v5 w5' ho5 hg5
                exact HKK.out _ _ ⟨_, by simp only [putAll, Act.put, List.setIfInBounds_toArray, List.set_cons_zero, List.set_cons_succ, d0, e1] <;> rfl, h0, h1, h2, h3, h4, h5, h6, h7, h8, h9, fun _ h => Bool.noConfusion h, fun _ h => Bool.noConfusion h, fun _ h => Bool.noConfusion h, fun h => Bool.noConfusion h, fun _ => Lib.hid ⟨.slice a' wd c', ho5⟩, fun h => absurd (hA h).1 (by rw [hun]; decide), own_below hS.1 hg5 hB.out (Nat.le_refl _) hB.out.size, hR, hZ, fun _ => hall ⟨0, .data⟩ (by simp) rfl, fun _ => hall ⟨12, .data⟩ (by simp) rfl, hE11, hE10⟩
              · obtain rfl := Option.some.inj hi
                clear hi hil
                refine wpOp_step rfl (fun K hK => ?_)
                have HKK := Lib.hid hK; clear hK
                simp only [putAll, Act.put, List.setIfInBounds_toArray, List.set_cons_zero, List.set_cons_succ]
                go_simp
                exact HKK.out _ _ ⟨_, by simp only [putAll, Act.put, List.setIfInBounds_toArray, List.set_cons_zero, List.set_cons_succ] <;> rfl, h0, h1, h2, h3, h4, h5, h6, h7, h8, h9, y10, y11, y12, hF, hG, fun _ => ⟨hall ⟨13, .data⟩ (by simp) rfl, rfl⟩, hB, fun h => Bool.noConfusion h, fun _ => hE0 (hall ⟨13, .data⟩ (by simp) rfl), hE0, hE12, hE11, hE10⟩
              · omega
            · rintro b' vs wq' hall ⟨h0, h1, h2, h3, h4, h5, h6, h7, h8, h9, y10, y11, y12, hF, hG, hA, hB, hR, hZ, hE0, hE12, hE11, hE10⟩
              have d0 := h0 (hall 0 (by simp))
              have d1 := h1 (hall 1 (by simp))
              have d2 := h2 (hall 2 (by simp))
              have d3 := h3 (hall 3 (by simp))
              have d4 := h4 (hall 4 (by simp))
              have d5 := h5 (hall 5 (by simp))
              have d6 := h6 (hall 6 (by simp))
              have d7 := h7 (hall 7 (by simp))
              have d8 := h8 (hall 8 (by simp))
              have d9 := h9 (hall 9 (by simp))
              have HBB' := hB
              have HGG := hG (hall 13 (by simp))
              have dA := (hA (hall 14 (by simp))).2
              simp only [putAll, Act.put, List.setIfInBounds_toArray, List.set_cons_zero, List.set_cons_succ, d0, d1, d2, d3, d4, d5, d6, d7, d8, d9, dA]
              clear hall y10 y11 y12 hF hG hA dA hB hR hZ hE0 hE12 hE11 hE10 h0 d0 h1 d1 h2 d2 h3 d3 h4 d4 h5 d5 h6 d6 h7 d7 h8 d8 h9 d9
              generalize vs 10 = vM10 at *
              generalize vs 11 = vM11 at *
              generalize vs 12 = vM12 at *
              generalize vs 13 = v5 at *
              obtain ⟨dd, ho5⟩ := HGG.out
              obtain ⟨f', hs'⟩ := hst.out.step HSOME.out ho5 HBB'.out
              rw [HEL.out, HQ7.out.2.2.2.1] at hs'
              have HS5 := Lib.hid hs'
              clear ho5 hs' HGG
              have hx1 : wrap64 (17 + (wd : Int)) = (fl : Int) := w_17 HQ7.out.2.1.symm HQ7.out.1
              have hx2 : wrap64 ((a : Int) + (fl : Int)) = (z : Int) := w_add HQ7.out.2.2.1 (Nat.le_trans HQ3.out.2.2 HQ1.out.2.2)
              have HX2 := Lib.hid hx2
              by_cases hmax : q = 9223372036854775807
              · have hneg : wrap64 (q + 1) < 0 := by rw [hmax]; unfold wrap64; omega
                have HD := Lib.hid (HS5.out.stop (recAt_neg hneg) (w' := wq') (Below.refl _ _))
                rw [HRR.out] at HD
                have dm : (q == 9223372036854775807) = true := by simpa using hmax
                clear hneg hmax HS5
                go_wp2_with fail
                go_ret2
                exact ⟨v5, _, by rw [HD.out.1, ← HX2.out]; rfl, HD.out.2.1, HD.out.2.2.1, HD.out.2.2.2⟩
              · have dm : (q == 9223372036854775807) = false := by simpa using hmax
                clear hmax
                go_wp2_with fail
                rw [HX2.out]
                refine ⟨⟨z, f', wrap64 (q + 1), _, rfl, rfl, HS5.out⟩, ?_⟩
                have hle9 := HQ7.out.2.2.2.1
                have hle8 := HQ3.out
                clear HS5
                show n + 1 - ((z : Int)).toNat < n + 1 - ((a : Int)).toNat
                rw [Int.toNat_natCast, Int.toNat_natCast]
                omega
        · have HNONE : Hid (recAt B a q = none) := by rw [Hid, HREC.out, if_neg hcmp]
          obtain ⟨sC, hsC⟩ : ∃ q, strI CU = q := ⟨_, rfl⟩
          have HSC := Lib.hid hsC
          have HNE : Hid ((sF.toList == sC.toList) = false) := by
            have := strI_beq HFR.out.2 HCO.out
            rw [hsF, hsC] at this
            rw [Hid, this]
            simpa using hcmp
          clear hcmp hsF hsC hbig hwi hwd hz hzn hp13 hp12 hpe hfl hkd hE hCU hFR hlB hkr
          have hw17 := HW17.out
          have hwz := HWZ.out
          have hw13 := HW13.out
          have hwe := HWE.out
          have d1 := D1.out
          obtain ⟨d3, d3'⟩ := D3.out
          obtain ⟨d4, d4'⟩ := D4.out
          have n1 : pe ≤ c := HQ2.out.2.1
          have n2 : p13 ≤ pe := HQ2.out.1
          have n3 : pe - p13 = wd := HQ2.out.2.2
          have n4 : ¬ c = p13 := HQ6.out
          go_upto_region 11 with fail
          clear n1 n2 n3 n4 hw13 hwe d3 d3' d4 d4' hwz hw17 d1
          refine wp_region_put (by kernel_rfl) (by kernel_rfl) (by kernel_rfl) (fun b' vs w' => (b' 0 = true → vs 0 = .int .i64 q) ∧ (b' 1 = true → vs 1 = .slice (some ⟨bk, o, none⟩) n c) ∧ (b' 2 = true → vs 2 = .int .i64 (a : Int)) ∧ (b' 3 = true → vs 3 = .int .i64 (p12 : Int)) ∧ (b' 4 = true → vs 4 = .pointer (some ⟨bk, o + p12, none⟩)) ∧ (b' 5 = true → vs 5 = .int .u8 kd) ∧ (b' 6 = true → vs 6 = .int .i64 kd) ∧ (b' 7 = true → vs 7 = .slice (some ⟨bk, o + p13, none⟩) wd (c - p13)) ∧ (b' 9 = true → vs 9 = .string sF) ∧ (b' 10 = true → vs 10 = .slice (some ⟨bk, o, none⟩) n c) ∧ (b' 11 = true → vs 11 = .int .i64 (a : Int)) ∧ (b' 12 = true → vs 12 = .int .i64 (a : Int)) ∧ (b' 13 = true → vs 13 = .int .i64 (p17 : Int)) ∧ (b' 14 = true → vs 14 = .int .i64 (wd : Int)) ∧ (b' 15 = true → vs 15 = .int .i64 (z : Int)) ∧ (b' 16 = true → vs 16 = .slice (some ⟨bk, o + a, none⟩) fl (c - a)) ∧ (b' 17 = true → vs 17 = .string sC) ∧ (b' 18 = true → vs 18 = .bool true) ∧ (b' 8 = true → Hid (∃ a' c', vs 8 = .slice a' fl c' ∧ RowB w' (.slice a' fl c') FR)) ∧ (Hid (Below wr.heap.size wr w'))) ?_ ?_ ?_
          · intro vs
            exact ⟨fun h => Bool.noConfusion h, fun h => Bool.noConfusion h, fun h => Bool.noConfusion h, fun h => Bool.noConfusion h, fun h => Bool.noConfusion h, fun h => Bool.noConfusion h, fun h => Bool.noConfusion h, fun h => Bool.noConfusion h, fun h => Bool.noConfusion h, fun h => Bool.noConfusion h, fun h => Bool.noConfusion h, fun h => Bool.noConfusion h, fun h => Bool.noConfusion h, fun h => Bool.noConfusion h, fun h => Bool.noConfusion h, fun h => Bool.noConfusion h, fun h => Bool.noConfusion h, fun h => Bool.noConfusion h, fun h => Bool.noConfusion h, below_drewN (Below.refl _ _) 1⟩
          · rintro b' vs w' i op hi hun hall ⟨h0, h1, h2, h3, h4, h5, h6, h7, h9, h10, h11, h12, h13, h14, h15, h16, h17, h18, y8, hB⟩
            have hil : i < 19 := (List.getElem?_eq_some_iff.1 hi).1
            rcases i with _ | _ | _ | _ | _ | _ | _ | _ | _ | _ | _ | _ | _ | _ | _ | _ | _ | _ | _ | i
            · obtain rfl := Option.some.inj hi
              clear hi hil
              refine wpOp_step rfl (fun K hK => ?_)
              have HKK := Lib.hid hK; clear hK
              simp only [putAll, Act.put, List.setIfInBounds_toArray, List.set_cons_zero, List.set_cons_succ]
              go_simp
              exact HKK.out _ _ ⟨_, by simp only [putAll, Act.put, List.setIfInBounds_toArray, List.set_cons_zero, List.set_cons_succ] <;> rfl, fun _ => rfl, h1, h2, h3, h4, h5, h6, h7, h9, h10, h11, h12, h13, h14, h15, h16, h17, h18, y8, hB⟩
            · obtain rfl := Option.some.inj hi
              clear hi hil
              refine wpOp_step rfl (fun K hK => ?_)
              have HKK := Lib.hid hK; clear hK
              simp only [putAll, Act.put, List.setIfInBounds_toArray, List.set_cons_zero, List.set_cons_succ]
              go_simp
              exact HKK.out _ _ ⟨_, by simp only [putAll, Act.put, List.setIfInBounds_toArray, List.set_cons_zero, List.set_cons_succ] <;> rfl, h0, fun _ => rfl, h2, h3, h4, h5, h6, h7, h9, h10, h11, h12, h13, h14, h15, h16, h17, h18, y8, hB⟩
            · obtain rfl := Option.some.inj hi
              clear hi hil
              refine wpOp_step rfl (fun K hK => ?_)
              have HKK := Lib.hid hK; clear hK
              simp only [putAll, Act.put, List.setIfInBounds_toArray, List.set_cons_zero, List.set_cons_succ]
              go_simp
              exact HKK.out _ _ ⟨_, by simp only [putAll, Act.put, List.setIfInBounds_toArray, List.set_cons_zero, List.set_cons_succ] <;> rfl, h0, h1, fun _ => rfl, h3, h4, h5, h6, h7, h9, h10, h11, h12, h13, h14, h15, h16, h17, h18, y8, hB⟩
            · obtain rfl := Option.some.inj hi
              clear hi hil
              have d2 := h2 (hall ⟨2, .data⟩ (by simp) rfl)
              have ew := (wrap_is _).trans HW12.out
              refine wpOp_step rfl (fun K hK => ?_)
              have HKK := Lib.hid hK; clear hK
              simp only [putAll, Act.put, List.setIfInBounds_toArray, List.set_cons_zero, List.set_cons_succ]
              go_simp
              exact HKK.out _ _ ⟨_, by simp only [putAll, Act.put, List.setIfInBounds_toArray, List.set_cons_zero, List.set_cons_succ, d2] <;> rfl, h0, h1, h2, fun _ => rfl, h4, h5, h6, h7, h9, h10, h11, h12, h13, h14, h15, h16, h17, h18, y8, hB⟩
            · obtain rfl := Option.some.inj hi
              clear hi hil
              have d1 := h1 (hall ⟨1, .data⟩ (by simp) rfl)
              have d3 := h3 (hall ⟨3, .data⟩ (by simp) rfl)
              have s1 : (p12 : Int) < (n : Int) := by have := HQ1.out.1; omega
              have s2 : p12 < n := HQ1.out.1
              refine wpOp_step rfl (fun K hK => ?_)
              have HKK := Lib.hid hK; clear hK
              simp only [putAll, Act.put, List.setIfInBounds_toArray, List.set_cons_zero, List.set_cons_succ]
              go_simp
              exact HKK.out _ _ ⟨_, by simp only [putAll, Act.put, List.setIfInBounds_toArray, List.set_cons_zero, List.set_cons_succ, d1, d3] <;> rfl, h0, h1, h2, h3, fun _ => rfl, h5, h6, h7, h9, h10, h11, h12, h13, h14, h15, h16, h17, h18, y8, hB⟩
            · obtain rfl := Option.some.inj hi
              clear hi hil
              have d4 := h4 (hall ⟨4, .data⟩ (by simp) rfl)
              have ck := (HCUT.out w' hB.out).2.2
              refine wpOp_step rfl (fun K hK => ?_)
              have HKK := Lib.hid hK; clear hK
              simp only [putAll, Act.put, List.setIfInBounds_toArray, List.set_cons_zero, List.set_cons_succ]
              go_simp
              exact HKK.out _ _ ⟨_, by simp only [putAll, Act.put, List.setIfInBounds_toArray, List.set_cons_zero, List.set_cons_succ, d4] <;> rfl, h0, h1, h2, h3, h4, fun _ => rfl, h6, h7, h9, h10, h11, h12, h13, h14, h15, h16, h17, h18, y8, hB⟩
            · obtain rfl := Option.some.inj hi
              clear hi hil
              have d5 := h5 (hall ⟨5, .data⟩ (by simp) rfl)
              have uk := HUK.out
              refine wpOp_step rfl (fun K hK => ?_)
              have HKK := Lib.hid hK; clear hK
              simp only [putAll, Act.put, List.setIfInBounds_toArray, List.set_cons_zero, List.set_cons_succ]
              go_simp
              exact HKK.out _ _ ⟨_, by simp only [putAll, Act.put, List.setIfInBounds_toArray, List.set_cons_zero, List.set_cons_succ, d5] <;> rfl, h0, h1, h2, h3, h4, h5, fun _ => rfl, h7, h9, h10, h11, h12, h13, h14, h15, h16, h17, h18, y8, hB⟩
            · obtain rfl := Option.some.inj hi
              clear hi hil
              refine wpOp_step rfl (fun K hK => ?_)
              have HKK := Lib.hid hK; clear hK
              simp only [putAll, Act.put, List.setIfInBounds_toArray, List.set_cons_zero, List.set_cons_succ]
              go_simp
              exact HKK.out _ _ ⟨_, by simp only [putAll, Act.put, List.setIfInBounds_toArray, List.set_cons_zero, List.set_cons_succ] <;> rfl, h0, h1, h2, h3, h4, h5, h6, fun _ => rfl, h9, h10, h11, h12, h13, h14, h15, h16, h17, h18, y8, hB⟩
            · obtain rfl := Option.some.inj hi
              clear hi hil
              have d0 := h0 (hall ⟨0, .data⟩ (by simp) rfl)
              have d6 := h6 (hall ⟨6, .data⟩ (by simp) rfl)
              have d7 := h7 (hall ⟨7, .data⟩ (by simp) rfl)
              refine wpOp_step rfl (fun K hK => ?_)
              have HKK := Lib.hid hK; clear hK
              simp only [putAll, Act.put, List.setIfInBounds_toArray, List.set_cons_zero, List.set_cons_succ]
              go_simp
              refine (HRF.out w' hB.out).mono ?_
              rintro e w2' ⟨vv, va', vc', rfl, rfl, hrow, hb2⟩
              exact HKK.out _ _ ⟨_, by simp only [putAll, Act.put, List.setIfInBounds_toArray, List.set_cons_zero, List.set_cons_succ, d0, d6, d7] <;> rfl, h0, h1, h2, h3, h4, h5, h6, h7, h9, h10, h11, h12, h13, h14, h15, h16, h17, h18, fun _ => Lib.hid ⟨_, _, rfl, hrow⟩, hB.out.trans (hb2.mono hB.out.size)⟩
            · obtain rfl := Option.some.inj hi
              clear hi hil
              have oy := y8 (hall ⟨8, .data⟩ (by simp) rfl)
              obtain ⟨ya, yc, hyv, hyr⟩ := oy.out
              have cv := conv_b hyr HFR.out.2
              rw [HSF.out] at cv
              refine wpOp_step rfl (fun K hK => ?_)
              have HKK := Lib.hid hK; clear hK
              simp only [putAll, Act.put, List.setIfInBounds_toArray, List.set_cons_zero, List.set_cons_succ]
              go_simp
              exact HKK.out _ _ ⟨_, by simp only [putAll, Act.put, List.setIfInBounds_toArray, List.set_cons_zero, List.set_cons_succ, hyv] <;> rfl, h0, h1, h2, h3, h4, h5, h6, h7, fun _ => rfl, h10, h11, h12, h13, h14, h15, h16, h17, h18, y8, hB⟩
            · obtain rfl := Option.some.inj hi
              clear hi hil
              refine wpOp_step rfl (fun K hK => ?_)
              have HKK := Lib.hid hK; clear hK
              simp only [putAll, Act.put, List.setIfInBounds_toArray, List.set_cons_zero, List.set_cons_succ]
              go_simp
              exact HKK.out _ _ ⟨_, by simp only [putAll, Act.put, List.setIfInBounds_toArray, List.set_cons_zero, List.set_cons_succ] <;> rfl, h0, h1, h2, h3, h4, h5, h6, h7, h9, fun _ => rfl, h11, h12, h13, h14, h15, h16, h17, h18, y8, hB⟩
            · obtain rfl := Option.some.inj hi
              clear hi hil
              refine wpOp_step rfl (fun K hK => ?_)
              have HKK := Lib.hid hK; clear hK
              simp only [putAll, Act.put, List.setIfInBounds_toArray, List.set_cons_zero, List.set_cons_succ]
              go_simp
              exact HKK.out _ _ ⟨_, by simp only [putAll, Act.put, List.setIfInBounds_toArray, List.set_cons_zero, List.set_cons_succ] <;> rfl, h0, h1, h2, h3, h4, h5, h6, h7, h9, h10, fun _ => rfl, h12, h13, h14, h15, h16, h17, h18, y8, hB⟩
            · obtain rfl := Option.some.inj hi
              clear hi hil
              refine wpOp_step rfl (fun K hK => ?_)
              have HKK := Lib.hid hK; clear hK
              simp only [putAll, Act.put, List.setIfInBounds_toArray, List.set_cons_zero, List.set_cons_succ]
              go_simp
              exact HKK.out _ _ ⟨_, by simp only [putAll, Act.put, List.setIfInBounds_toArray, List.set_cons_zero, List.set_cons_succ] <;> rfl, h0, h1, h2, h3, h4, h5, h6, h7, h9, h10, h11, fun _ => rfl, h13, h14, h15, h16, h17, h18, y8, hB⟩
            · obtain rfl := Option.some.inj hi
              clear hi hil
              have d12 := h12 (hall ⟨12, .data⟩ (by simp) rfl)
              have ew := (wrap_is _).trans HW17.out
              refine wpOp_step rfl (fun K hK => ?_)
              have HKK := Lib.hid hK; clear hK
              simp only [putAll, Act.put, List.setIfInBounds_toArray, List.set_cons_zero, List.set_cons_succ]
              go_simp
              exact HKK.out _ _ ⟨_, by simp only [putAll, Act.put, List.setIfInBounds_toArray, List.set_cons_zero, List.set_cons_succ, d12] <;> rfl, h0, h1, h2, h3, h4, h5, h6, h7, h9, h10, h11, h12, fun _ => rfl, h14, h15, h16, h17, h18, y8, hB⟩
            · obtain rfl := Option.some.inj hi
              clear hi hil
              refine wpOp_step rfl (fun K hK => ?_)
              have HKK := Lib.hid hK; clear hK
              simp only [putAll, Act.put, List.setIfInBounds_toArray, List.set_cons_zero, List.set_cons_succ]
              go_simp
              exact HKK.out _ _ ⟨_, by simp only [putAll, Act.put, List.setIfInBounds_toArray, List.set_cons_zero, List.set_cons_succ] <;> rfl, h0, h1, h2, h3, h4, h5, h6, h7, h9, h10, h11, h12, h13, fun _ => rfl, h15, h16, h17, h18, y8, hB⟩
            · obtain rfl := Option.some.inj hi
              clear hi hil
              have d13 := h13 (hall ⟨13, .data⟩ (by simp) rfl)
              have d14 := h14 (hall ⟨14, .data⟩ (by simp) rfl)
              have ew := (wrap_is _).trans HWZ.out
              refine wpOp_step rfl (fun K hK => ?_)
              have HKK := Lib.hid hK; clear hK
              simp only [putAll, Act.put, List.setIfInBounds_toArray, List.set_cons_zero, List.set_cons_succ]
              go_simp
              exact HKK.out _ _ ⟨_, by simp only [putAll, Act.put, List.setIfInBounds_toArray, List.set_cons_zero, List.set_cons_succ, d13, d14] <;> rfl, h0, h1, h2, h3, h4, h5, h6, h7, h9, h10, h11, h12, h13, h14, fun _ => rfl, h16, h17, h18, y8, hB⟩
            · obtain rfl := Option.some.inj hi
              clear hi hil
              have d10 := h10 (hall ⟨10, .data⟩ (by simp) rfl)
              have d11 := h11 (hall ⟨11, .data⟩ (by simp) rfl)
              have d15 := h15 (hall ⟨15, .data⟩ (by simp) rfl)
              have s0 : (a : Int) ≤ (z : Int) := by have := HQ3.out.1; omega
              have s1 : (z : Int) ≤ (c : Int) := by have := HQ3.out.2.1; omega
              have s2 : z - a = fl := HQ4.out
              have s3 : ¬ c = a := HQ5.out
              have s4 : a ≤ z := HQ3.out.1
              refine wpOp_step rfl (fun K hK => ?_)
              have HKK := Lib.hid hK; clear hK
              simp only [putAll, Act.put, List.setIfInBounds_toArray, List.set_cons_zero, List.set_cons_succ]
              go_simp
              exact HKK.out _ _ ⟨_, by simp only [putAll, Act.put, List.setIfInBounds_toArray, List.set_cons_zero, List.set_cons_succ, d10, d11, d15] <;> rfl, h0, h1, h2, h3, h4, h5, h6, h7, h9, h10, h11, h12, h13, h14, h15, fun _ => rfl, h17, h18, y8, hB⟩
            · obtain rfl := Option.some.inj hi
              clear hi hil
              have d16 := h16 (hall ⟨16, .data⟩ (by simp) rfl)
              have cv := conv_b (HCUT.out w' hB.out).2.1 HCO.out
              rw [HSC.out] at cv
              refine wpOp_step rfl (fun K hK => ?_)
              have HKK := Lib.hid hK; clear hK
              simp only [putAll, Act.put, List.setIfInBounds_toArray, List.set_cons_zero, List.set_cons_succ]
              go_simp
              exact HKK.out _ _ ⟨_, by simp only [putAll, Act.put, List.setIfInBounds_toArray, List.set_cons_zero, List.set_cons_succ, d16] <;> rfl, h0, h1, h2, h3, h4, h5, h6, h7, h9, h10, h11, h12, h13, h14, h15, h16, fun _ => rfl, h18, y8, hB⟩
            · obtain rfl := Option.some.inj hi
              clear hi hil
              have d9 := h9 (hall ⟨9, .data⟩ (by simp) rfl)
              have d17 := h17 (hall ⟨17, .data⟩ (by simp) rfl)
              have hne := HNE.out
              have hne2 : (sF.toList != sC.toList) = true := by rw [bne, hne]; rfl
              refine wpOp_step rfl (fun K hK => ?_)
              have HKK := Lib.hid hK; clear hK
              simp only [putAll, Act.put, List.setIfInBounds_toArray, List.set_cons_zero, List.set_cons_succ]
              go_simp
              exact HKK.out _ _ ⟨_, by simp only [putAll, Act.put, List.setIfInBounds_toArray, List.set_cons_zero, List.set_cons_succ, d9, d17] <;> rfl, h0, h1, h2, h3, h4, h5, h6, h7, h9, h10, h11, h12, h13, h14, h15, h16, h17, fun _ => rfl, y8, hB⟩
            · omega
          · rintro b' vs wq hall ⟨h0, h1, h2, h3, h4, h5, h6, h7, h9, h10, h11, h12, h13, h14, h15, h16, h17, h18, y8, hB⟩
            have d0 := h0 (hall 0 (by simp))
            have d1 := h1 (hall 1 (by simp))
            have d2 := h2 (hall 2 (by simp))
            have d3 := h3 (hall 3 (by simp))
            have d4 := h4 (hall 4 (by simp))
            have d5 := h5 (hall 5 (by simp))
            have d6 := h6 (hall 6 (by simp))
            have d7 := h7 (hall 7 (by simp))
            have d9 := h9 (hall 9 (by simp))
            have d10 := h10 (hall 10 (by simp))
            have d11 := h11 (hall 11 (by simp))
            have d12 := h12 (hall 12 (by simp))
            have d13 := h13 (hall 13 (by simp))
            have d14 := h14 (hall 14 (by simp))
            have d15 := h15 (hall 15 (by simp))
            have d16 := h16 (hall 16 (by simp))
            have d17 := h17 (hall 17 (by simp))
            have d18 := h18 (hall 18 (by simp))
            have HBB := hB
            simp only [putAll, Act.put, List.setIfInBounds_toArray, List.set_cons_zero, List.set_cons_succ, d0, d1, d2, d3, d4, d5, d6, d7, d9, d10, d11, d12, d13, d14, d15, d16, d17, d18]
            clear hall y8 hB h0 d0 h1 d1 h2 d2 h3 d3 h4 d4 h5 d5 h6 d6 h7 d7 h9 d9 h10 d10 h11 d11 h12 d12 h13 d13 h14 d14 h15 d15 h16 d16 h17 d17 h18 d18
            generalize vs 8 = vM8 at *
            have HD := Lib.hid (hst.out.stop HNONE.out (w' := wq) HBB.out)
            rw [HRR.out] at HD
            go_wp2_with fail
            go_ret2
            exact ⟨u6, X, by rw [HD.out.1]; rfl, HD.out.2.1, HD.out.2.2.1, HD.out.2.2.2⟩
end Go.Proofs.YteobffggfcmghaaDoor
