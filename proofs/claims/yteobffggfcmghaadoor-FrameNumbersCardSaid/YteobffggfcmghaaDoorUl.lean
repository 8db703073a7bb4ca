/- Layer 13: the law FrameNumbers. -/
import Derived.Test.YteobffggfcmghaaDoorUk
import Derived.Test.YteobffggfcmghaaDoorUj
namespace Go.Proofs.YteobffggfcmghaaDoor
open Go.RowKit
set_option maxHeartbeats 8000000 in
set_option maxRecDepth 100000 in
theorem numbers_law (s t : Value) (L : List Int) (S : List (Value × List Int)) (w : World) (hrd : Rd w) (rowL : VRow w s (L.map (Value.int .i64))) (okL : ∀ x ∈ L, rngN x) (rowS : TxtR w t S) : Calls Tryd.prog 7 #[s, t] w fun e w' => e = .returned (.bool true) ∧ Below w.heap.size w w' := by
  obtain ⟨ao, ac, rfl⟩ := rowL.shape
  obtain ⟨bo, bc, rfl⟩ := rowS.shape
  rw [List.length_map] at rowL ⊢
  obtain ⟨n, hn⟩ : ∃ n, L.length = n := ⟨_, rfl⟩
  obtain ⟨m, hm⟩ : ∃ m, S.length = m := ⟨_, rfl⟩
  rw [hn] at rowL ⊢
  rw [hm] at rowS ⊢
  have HN : Hid (L.length = n ∧ S.length = m) := ⟨hn, hm⟩
  have HL := Lib.hid (And.intro rowL okL)
  have HS := Lib.hid rowS
  have HRD := Lib.hid hrd
  clear rowL okL rowS hrd hn hm
  by_cases hb1 : n > 60
  · have d1 : decide ((n : Int) > 60) = true := by simp; omega
    have d2 : decide (60 < n) = true := by simp; omega
    clear hb1
    go_enter Tryd.func7, Tryd.ntmps7
    go_wp2_with fail
    refine (awake13_c w HRD.out).mono ?_
    rintro e w1 ⟨rfl, hb⟩
    have H1 := Lib.hid hb
    clear hb
    go_wp2_with fail
    go_ret
    exact ⟨rfl, H1.out⟩
  have d1 : decide ((n : Int) > 60) = false := by simp; omega
  have d1' : decide (60 < n) = false := by simp; omega
  by_cases hb2 : m > 30
  · have d2 : decide ((m : Int) > 30) = true := by simp; omega
    have d2' : decide (30 < m) = true := by simp; omega
    clear hb1 hb2
    go_enter Tryd.func7, Tryd.ntmps7
    go_wp2_with fail
    refine (awake13_c w HRD.out).mono ?_
    rintro e w1 ⟨rfl, hb⟩
    have H1 := Lib.hid hb
    clear hb
    go_wp2_with fail
    go_ret
    exact ⟨rfl, H1.out⟩
  have d2 : decide ((m : Int) > 30) = false := by simp; omega
  have d2' : decide (30 < m) = false := by simp; omega
  have HB : Hid (n ≤ 60 ∧ m ≤ 30) := ⟨by omega, by omega⟩
  clear hb1 hb2
  have HST := Lib.hid (PutSt.start w)
  go_enter Tryd.func7, Tryd.ntmps7
  go_wp2_with fail
  clear d1 d1' d2 d2'
  go_loopw [6, 29] (fun s6 s29 wr => ∃ k : Nat, k ≤ n ∧ s29 = .int .i64 (k : Int) ∧ Hid (∃ T, PutSt w wr T w.heap.size s6 (numsB (L.take k)) (numsB (L.take k)))) (fun _ s29 _ => n - (intOf s29).toNat)
  case atStart => exact ⟨0, by omega, rfl, _, HST.out⟩
  case round =>
    clear HST
    obtain ⟨k, hk, rfl, hw⟩ := hrel
    obtain ⟨T, st⟩ := hw.out
    have ST := Lib.hid st
    have HRDR : Hid (Rd wr) := HRD.out.on st.far.below
    clear hw st
    have hnl := HB.out.1
    by_cases hlt : k < n
    · have hd : decide ((k : Int) < (n : Int)) = true := by simp; omega
      have hki : (k : Int) < (n : Int) := by omega
      obtain ⟨x, hx⟩ : ∃ x, L[k]? = some x := ⟨_, List.getElem?_eq_getElem (by rw [HN.out.1]; exact hlt)⟩
      have HX : Hid (L[k]? = some x ∧ rngN x) := ⟨hx, HL.out.2 x (List.mem_of_getElem? hx)⟩
      obtain ⟨b, of, rfl, hb, hc⟩ := VRow.addr (HL.out.1.on ST.out.far.below) (k := k) (x := .int .i64 x) (by rw [List.getElem?_map, hx]; rfl)
      have HXL : Hid ((numsB (L.take k)).length ≤ 1000) := by
        have := numsB_len (L.take k)
        rw [List.length_take] at this
        rw [Hid]; omega
      clear hx hb
      go_wp2_with fail
      refine (outInt_c T wr w.heap.size _ x ST.out.out (by have := HXL.out; omega) HX.out.2).mono ?_
      rintro e w1 ⟨T1, rfl, ho, hto⟩
      have ST1 := Lib.hid (ST.out.put ho hto)
      clear ho hto hc
      go_wp2_with fail
      refine (refInt_c x w1 HX.out.2).mono ?_
      rintro e w2 ⟨v2, rfl, ho2, hb2⟩
      have ST2 := Lib.hid (And.intro (ST1.out.grow hb2) ho2.row)
      clear ho2 hb2
      have HLE : Hid ((numsB (L.take k)).length + (intI x).length ≤ 100000) := Lib.hid (by have := HXL.out; have := (intI_len x).2; omega)
      go_wp2_with (at_builtin; refine wpList_append_row rfl _ _ 22 rfl Tryd.underlying22 w.heap.size _ (numsB (L.take k)) rfl ST2.out.1.want v2 (intI x) rfl ST2.out.2 HLE.out ST2.out.1.far.below.size ?_)
      intro v3 w3 ho3 hg3 hm3
      have ST3 : Hid (PutSt w w3 T1 w.heap.size v3 (numsB (L.take (k + 1))) (numsB (L.take (k + 1)))) := by
        rw [Hid, take_snoc HX.out.1, numsB_snoc]
        exact ST2.out.1.app ho3 hg3 hm3
      clear ho3 hg3 hm3
      go_wp2_with fail
      exact ⟨⟨k + 1, by omega, by go_num, _, ST3.out⟩, by simp [intOf]; omega⟩
    · have hd : decide ((k : Int) < (n : Int)) = false := by simp; omega
      have hkn : k = n := by omega
      subst hkn
      have ST1 : Hid (PutSt w wr T w.heap.size u6 (numsB L) (numsB L)) := by
        have := ST.out
        rw [List.take_of_length_le (by rw [HN.out.1]; exact Nat.le_refl _)] at this
        exact this
      clear hlt ST
      go_wp2_with fail
      clear hd
      go_loopw [6, 42] (fun s6 s42 wr => ∃ j : Nat, j ≤ m ∧ s42 = .int .i64 (j : Int) ∧ Hid ((∃ T, PutSt w wr T w.heap.size s6 (numsB L ++ textsB (S.take j)) (numsB L ++ textsB (S.take j))) ∧ ∀ x ∈ S.take j, x.2.length ≤ 300)) (fun _ s42 _ => m - (intOf s42).toNat)
      case atStart => exact ⟨0, by omega, rfl, ⟨T, by simpa [textsB] using ST1.out⟩, fun x hx => by simp at hx⟩
      case round =>
        clear ST1 HRDR
        obtain ⟨j, hj, rfl, hw⟩ := hrel
        obtain ⟨⟨T, st⟩, hsm⟩ := hw.out
        have ST := Lib.hid st
        have HSM := Lib.hid hsm
        have HRDR : Hid (Rd wr) := HRD.out.on st.far.below
        have hml := HB.out.2
        have HXL : Hid ((numsB L ++ textsB (S.take j)).length ≤ 12000) := by
          have h1 := numsB_len L
          have h2 := textsB_len (S.take j) hsm
          rw [HN.out.1] at h1
          rw [List.length_take] at h2
          rw [Hid, List.length_append]; omega
        clear hw st hsm
        by_cases hlt : j < m
        · have hd : decide ((j : Int) < (m : Int)) = true := by simp; omega
          have hji : (j : Int) < (m : Int) := by omega
          obtain ⟨x, hx⟩ : ∃ x, S[j]? = some x := ⟨_, List.getElem?_eq_getElem (by rw [HN.out.2]; exact hlt)⟩
          obtain ⟨xr, xo, xc⟩ := HS.out.2 x (List.mem_of_getElem? hx)
          obtain ⟨b, of, rfl, hb, hc⟩ := TxtR.at (HS.out.on ST.out.far.below) hx
          obtain ⟨v, E⟩ := x
          obtain ⟨va, vc, hv⟩ := xr.shape
          simp only at hv xr xo xc hc
          subst hv
          obtain ⟨p, hp⟩ : ∃ p, E.length = p := ⟨_, rfl⟩
          rw [hp] at hc xr hx
          have HX : Hid (S[j]? = some (.slice va p vc, E) ∧ RowB w (.slice va p vc) E ∧ OkB E ∧ E.length = p) := ⟨hx, xr, xo, hp⟩
          clear hx xr xo xc hb hp
          by_cases h300 : p > 300
          · have d3 : decide ((p : Int) > 300) = true := by simp; omega
            have d3' : decide (300 < p) = true := by simp; omega
            clear h300
            go_wp2_with fail
            refine (awake13_c wr HRDR.out).mono ?_
            rintro e w1 ⟨rfl, hb⟩
            have H1 : Hid (Below w.heap.size w w1) := (ST.out.far.grow hb).below
            clear hb
            go_wp2_with fail
            go_ret
            exact ⟨rfl, H1.out⟩
          · have d3 : decide ((p : Int) > 300) = false := by simp; omega
            have d3' : decide (300 < p) = false := by simp; omega
            have HP : Hid (p ≤ 300) := Lib.hid (by omega)
            clear h300
            go_wp2_with fail
            refine (outText_c T wr w.heap.size _ (.slice va p vc) E ST.out.out (by have := HXL.out; omega) (HX.out.2.1.on ST.out.far.below) (by rw [HX.out.2.2.2]; have := HP.out; omega) (fun h0 k e hT => by have h1 := HX.out.2.1.lt h0 k e; have h2 := ST.out.far.far k hT; omega)).mono ?_
            rintro e w1 ⟨T1, rfl, ho, hto⟩
            have ST1 := Lib.hid (ST.out.put ho hto)
            clear ho hto hc
            have hpr : rngN (p : Int) := ⟨by omega, by have := HP.out; omega⟩
            have HPR := Lib.hid hpr
            clear hpr
            go_wp2_with fail
            refine (refInt_c (p : Int) w1 HPR.out).mono ?_
            rintro e w2 ⟨v2, rfl, ho2, hb2⟩
            have ST2 := Lib.hid (And.intro (ST1.out.grow hb2) ho2.row)
            clear ho2 hb2
            have HLE : Hid ((numsB L ++ textsB (S.take j)).length + (intI (p : Int)).length ≤ 100000) := Lib.hid (by have := HXL.out; have := (intI_len (p : Int)).2; omega)
            go_wp2_with (at_builtin; refine wpList_append_row rfl _ _ 22 rfl Tryd.underlying22 w.heap.size _ (numsB L ++ textsB (S.take j)) rfl ST2.out.1.want v2 (intI (p : Int)) rfl ST2.out.2 HLE.out ST2.out.1.far.below.size ?_)
            intro v3 w3 ho3 hg3 hm3
            have ho3' : OwnB w3 w.heap.size v3 (numsB L ++ textsB (S.take j) ++ intI (p : Int)) := by
              rw [List.append_assoc] at *
              exact ho3
            have ST3 := Lib.hid (ST2.out.1.app ho3' hg3 hm3)
            have HR3 : Hid (RowB w3 (.slice va p vc) E) := HX.out.2.1.on ST3.out.far.below
            have HLE2 : Hid ((numsB L ++ textsB (S.take j) ++ intI (p : Int)).length + E.length ≤ 100000) := Lib.hid (by rw [List.length_append, HX.out.2.2.2]; have := HLE.out; have := HP.out; have := HXL.out; have := (intI_len (p : Int)).2; omega)
            clear ho3 ho3' hg3 hm3
            go_wp2_with (at_builtin; refine wpList_append_row rfl _ _ 22 rfl Tryd.underlying22 w.heap.size _ _ rfl ST3.out.want (.slice va p vc) E rfl HR3.out HLE2.out ST3.out.far.below.size ?_)
            intro v4 w4 ho4 hg4 hm4
            have ST4 : Hid (PutSt w w4 T1 w.heap.size v4 (numsB L ++ textsB (S.take (j + 1))) (numsB L ++ textsB (S.take (j + 1)))) := by
              have key := ST3.out.app ho4 hg4 hm4
              rw [Hid, take_snoc HX.out.1, textsB_snoc]
              unfold textB
              rw [HX.out.2.2.2] at key ⊢
              simp only [List.append_assoc] at key ⊢
              exact key
            have HSM2 : Hid (∀ x ∈ S.take (j + 1), x.2.length ≤ 300) := fun x hx => by
              rw [take_snoc HX.out.1] at hx
              rcases List.mem_append.1 hx with hx | hx
              · exact HSM.out x hx
              · rw [List.mem_singleton] at hx
                subst hx
                show E.length ≤ 300
                rw [HX.out.2.2.2]; exact HP.out
            clear ho4 hg4 hm4
            go_wp2_with fail
            exact ⟨⟨j + 1, by omega, by go_num, ⟨_, ST4.out⟩, HSM2.out⟩, by simp [intOf]; omega⟩
        · have hd : decide ((j : Int) < (m : Int)) = false := by simp; omega
          have hjm : j = m := by omega
          subst hjm
          obtain ⟨B, hB⟩ : ∃ B, numsB L ++ textsB S = B := ⟨_, rfl⟩
          have HALL : Hid (∀ x ∈ S, OkB x.2 ∧ x.2.length ≤ 300) := fun x hx => by
            have h := HSM.out
            rw [List.take_of_length_le (by rw [HN.out.2]; exact Nat.le_refl _)] at h
            exact ⟨(HS.out.2 x hx).2.1, h x hx⟩
          have HBB : Hid (numsB L ++ textsB S = B ∧ OkB B ∧ B.length ≤ 12000) := by
            have h := HXL.out
            rw [List.take_of_length_le (by rw [HN.out.2]; exact Nat.le_refl _), hB] at h
            refine ⟨hB, ?_, h⟩
            rw [← hB]
            exact (numsB_ok HL.out.2).append (textsB_ok HALL.out)
          have ST1 : Hid (PutSt w wr T w.heap.size u6 B B) := by
            have := ST.out
            rw [List.take_of_length_le (by rw [HN.out.2]; exact Nat.le_refl _), hB] at this
            exact this
          clear hlt ST HSM HXL hB
          go_wp2_with fail
          clear hd
          refine (outBytes_c T wr w.heap.size B ST1.out.out (by have := HBB.out.2.2; omega)).mono ?_
          rintro e w1 ⟨v1, rfl, ho1, hb1, _⟩
          obtain ⟨va, vc, rfl⟩ := ho1.shape
          obtain ⟨lb, hlb⟩ : ∃ lb, B.length = lb := ⟨_, rfl⟩
          rw [hlb] at ho1 ⊢
          have HLB := Lib.hid hlb
          have H1 : Hid (OwnB w1 w.heap.size (.slice va lb vc) B ∧ Below w.heap.size w w1) := ⟨owns_base ho1 ST1.out.far.below.size, (ST1.out.far.grow hb1).below⟩
          have hcv1 := conv_b H1.out.1.row HBB.out.2.1
          have hcv2 := conv_b (ST1.out.want.grow hb1).row HBB.out.2.1
          clear ho1 hb1 hlb
          obtain ⟨sB, hsB⟩ : ∃ q, strI B = q := ⟨_, rfl⟩
          rw [hsB] at hcv1 hcv2
          clear hsB
          go_wp2_with fail
          clear hcv1 hcv2
          refine (newIn_c _ B w1 H1.out.1.row HBB.out.2.1 (by have := HBB.out.2.2; omega)).mono ?_
          rintro e w2 ⟨T2, g2, rfl, hi, hb2, hT2⟩
          have H2 : Hid (OwnB w2 w.heap.size (.slice va lb vc) B ∧ InAt T2 w2 g2 B (some 0) ∧ Far w w2 T2 ∧ ∀ k, (Value.slice va lb vc).ownBlock = some k → ¬ T2 k) := by
            refine ⟨H1.out.1.grow hb2, hi, ⟨fun k hk => Nat.le_trans H1.out.2.size (hT2 k hk), H1.out.2.trans (hb2.mono H1.out.2.size)⟩, fun k e hk => ?_⟩
            have q1 := (H1.out.1.lt k e).2
            have q2 := hT2 k hk
            omega
          clear hi hb2 hT2 H1 ST1 HRDR
          go_wp2_with fail
          go_loopw [70] (fun s70 wr => ∃ i : Nat, i ≤ lb ∧ s70 = .int .i64 (i : Int) ∧ Hid (∃ E, E.length = lb ∧ OwnB wr w.heap.size (.slice va lb vc) E ∧ InAt T2 wr g2 B (some 0) ∧ Far w wr T2)) (fun s70 _ => lb - (intOf s70).toNat)
          case atStart => exact ⟨0, by omega, rfl, B, HLB.out, H2.out.1, H2.out.2.1, H2.out.2.2.1⟩
          case round =>
            obtain ⟨i, hi, rfl, hw⟩ := hrel
            obtain ⟨E, hE, ho, hin, hfar⟩ := hw.out
            have hlbl := HBB.out.2.2
            rw [HLB.out] at hlbl
            by_cases hlt : i < lb
            · have hd : decide ((i : Int) < (lb : Int)) = true := by simp; omega
              have hii : (i : Int) < (lb : Int) := by omega
              obtain ⟨g, c, hform, _, hgl⟩ := ho.form (by omega)
              rw [hE] at hform
              obtain ⟨rfl, rfl⟩ : va = some ⟨g, 0, none⟩ ∧ vc = c := by cases hform; exact ⟨rfl, rfl⟩
              clear hform
              obtain ⟨x, hx⟩ : ∃ x, E[i]? = some x := ⟨_, List.getElem?_eq_getElem (by rw [hE]; exact hlt)⟩
              obtain ⟨b', o', e', _, hcell⟩ := RowB.addr (ho.row) (by omega)
              cases e'
              have c0 := hcell i x hx
              rw [Nat.zero_add] at c0
              have f0 := ho.frozen i
              have hgT := H2.out.2.2.2 g rfl
              obtain ⟨z, hz⟩ : ∃ z, IntKind.u8.wrap (x + 1) = z := ⟨_, rfl⟩
              have HW : Hid (∃ E', E'.length = lb ∧ OwnB (wr.setCell ⟨g, i, none⟩ (.int .u8 z)) w.heap.size (.slice (some ⟨g, 0, none⟩) lb vc) E' ∧ InAt T2 (wr.setCell ⟨g, i, none⟩ (.int .u8 z)) g2 B (some 0) ∧ Far w (wr.setCell ⟨g, i, none⟩ (.int .u8 z)) T2) := by
                obtain ⟨u, q⟩ := hin
                exact ⟨E.set i z, by rw [List.length_set]; exact hE, ho.store hlt z, ⟨u, q.keep (Keep.setCell _ _ _ hgT)⟩, hfar.far, hfar.below.setCell (ho.lt g rfl).1 _⟩
              clear hcell hx ho hin hfar hw
              go_wp2_with fail
              exact ⟨⟨i + 1, by omega, by go_num, HW.out⟩, by simp [intOf]; omega⟩
            · have hd : decide ((i : Int) < (lb : Int)) = false := by simp; omega
              have hil : i = lb := by omega
              subst hil
              have H3 : Hid (InAt T2 wr g2 B (some 0) ∧ Far w wr T2) := ⟨hin, hfar⟩
              clear hlt hin hfar ho hw H2
              go_wp2_with fail
              clear hd
              go_loopw [82] (fun s82 wr => ∃ k2 : Nat, k2 ≤ k ∧ s82 = .int .i64 (k2 : Int) ∧ Hid (∃ T, InAt T wr g2 B (some (numsB (L.take k2)).length) ∧ Far w wr T)) (fun s82 _ => k - (intOf s82).toNat)
              case atStart => exact ⟨0, by omega, rfl, T2, H3.out.1, H3.out.2⟩
              case round =>
                clear H3
                obtain ⟨k2, hk2, rfl, hw⟩ := hrel
                obtain ⟨T3, hin, hfar⟩ := hw.out
                have H4 : Hid (InAt T3 wr g2 B (some (numsB (L.take k2)).length) ∧ Far w wr T3) := ⟨hin, hfar⟩
                clear hw hin hfar
                have hnl := HB.out.1
                by_cases hlt : k2 < k
                · have hd : decide ((k2 : Int) < (k : Int)) = true := by simp; omega
                  have hki : (k2 : Int) < (k : Int) := by omega
                  obtain ⟨x, hx⟩ : ∃ x, L[k2]? = some x := ⟨_, List.getElem?_eq_getElem (by rw [HN.out.1]; exact hlt)⟩
                  obtain ⟨b, of, rfl, hb, hc⟩ := VRow.addr (HL.out.1.on H4.out.2.below) (k := k2) (x := .int .i64 x) (by rw [List.getElem?_map, hx]; rfl)
                  have hsplit : B = numsB (L.take k2) ++ (intI x ++ (numsB (L.drop (k2 + 1)) ++ textsB S)) := by
                    rw [← HBB.out.1]
                    have e : L = L.take k2 ++ (x :: L.drop (k2 + 1)) := by rw [← drop_cons hx, List.take_append_drop]
                    have e2 : numsB L = numsB (L.take k2) ++ (intI x ++ numsB (L.drop (k2 + 1))) := by
                      conv => lhs; rw [e]
                      simp [numsB, List.flatMap_append]
                    rw [e2]
                    simp only [List.append_assoc]
                  have HCI : Hid (Calls Tryd.prog 22 #[ptrG g2] wr fun e w' => ∃ T', e = .returned (.int .i64 x) ∧ InAt T' w' g2 B (some (numsB (L.take (k2 + 1))).length) ∧ To T3 wr T' w') := by
                    have hwi : WithinD B (some (numsB (L.take k2)).length) := fun q hq => by
                      cases hq
                      rw [hsplit, List.length_append]
                      omega
                    have key := int_c T3 wr g2 B _ H4.out.1 hwi
                    have hd := intD_put (HL.out.2 x (List.mem_of_getElem? hx)) (numsB (L.take k2)) (numsB (L.drop (k2 + 1)) ++ textsB S)
                    rw [← hsplit] at hd
                    rw [hd] at key
                    rw [take_snoc hx, numsB_snoc, List.length_append]
                    exact key
                  clear hx hb hsplit
                  go_wp2_with fail
                  refine (HCI.out).mono ?_
                  rintro e w3 ⟨T4, rfl, hi4, ht4⟩
                  have H5 : Hid (InAt T4 w3 g2 B (some (numsB (L.take (k2 + 1))).length) ∧ Far w w3 T4) := ⟨hi4, H4.out.2.step ht4⟩
                  have hne : (x != x) = false := by simp
                  clear hi4 ht4 HCI hc
                  go_wp2_with fail
                  exact ⟨⟨k2 + 1, by omega, by go_num, T4, H5.out.1, H5.out.2⟩, by simp [intOf]; omega⟩
                · have hd : decide ((k2 : Int) < (k : Int)) = false := by simp; omega
                  have hkk : k2 = k := by omega
                  subst hkk
                  have H5 : Hid (InAt T3 wr g2 B (some ((numsB L).length + (textsB (S.take 0)).length)) ∧ Far w wr T3) := by
                    have := H4.out
                    rw [List.take_of_length_le (by rw [HN.out.1]; exact Nat.le_refl _)] at this
                    rw [Hid]
                    simpa [textsB] using this
                  clear hlt H4
                  go_wp2_with fail
                  clear hd
                  go_loopw [93] (fun s93 wr => ∃ j2 : Nat, j2 ≤ j ∧ s93 = .int .i64 (j2 : Int) ∧ Hid (∃ T, InAt T wr g2 B (some ((numsB L).length + (textsB (S.take j2)).length)) ∧ Far w wr T)) (fun s93 _ => j - (intOf s93).toNat)
                  case atStart => exact ⟨0, by omega, rfl, T3, H5.out.1, H5.out.2⟩
                  case round =>
                    clear H5
                    obtain ⟨j2, hj2, rfl, hw⟩ := hrel
                    obtain ⟨T5, hin, hfar⟩ := hw.out
                    have H6 : Hid (InAt T5 wr g2 B (some ((numsB L).length + (textsB (S.take j2)).length)) ∧ Far w wr T5) := ⟨hin, hfar⟩
                    clear hw hin hfar
                    have hml := HB.out.2
                    by_cases hlt : j2 < j
                    · have hd : decide ((j2 : Int) < (j : Int)) = true := by simp; omega
                      have hji : (j2 : Int) < (j : Int) := by omega
                      obtain ⟨x, hx⟩ : ∃ x, S[j2]? = some x := ⟨_, List.getElem?_eq_getElem (by rw [HN.out.2]; exact hlt)⟩
                      obtain ⟨xr, xo, xc⟩ := HS.out.2 x (List.mem_of_getElem? hx)
                      obtain ⟨b, of, rfl, hb, hc⟩ := TxtR.at (HS.out.on H6.out.2.below) hx
                      obtain ⟨v, E⟩ := x
                      simp only at xr xo xc hc
                      have hx300 : E.length ≤ 300 := (HALL.out _ (List.mem_of_getElem? hx)).2
                      have hsplit : B = (numsB L ++ textsB (S.take j2)) ++ (intI (E.length : Int) ++ (E ++ textsB (S.drop (j2 + 1)))) := by
                        rw [← HBB.out.1]
                        have e : S = S.take j2 ++ ((v, E) :: S.drop (j2 + 1)) := by rw [← drop_cons hx, List.take_append_drop]
                        have e2 : textsB S = textsB (S.take j2) ++ (intI (E.length : Int) ++ (E ++ textsB (S.drop (j2 + 1)))) := by
                          conv => lhs; rw [e]
                          simp [textsB, textB, List.flatMap_append]
                        rw [e2]
                        simp only [List.append_assoc]
                      obtain ⟨p2, hp2⟩ : ∃ p2, (numsB L).length + (textsB (S.take (j2 + 1))).length = p2 := ⟨_, rfl⟩
                      have HP2 := Lib.hid hp2
                      obtain ⟨p1, hp1⟩ : ∃ p1, (numsB L).length + (textsB (S.take j2)).length = p1 := ⟨_, rfl⟩
                      rw [hp1] at H6
                      have HCT : Hid (∀ W, InAt T5 W g2 B (some p1) → Calls Tryd.prog 23 #[ptrG g2] W fun e w' => ∃ T' u, e = .returned u ∧ InAt T' w' g2 B (some p2) ∧ To T5 W T' w' ∧ RowB w' u E) := fun W hW => by
                        have hl1 : (numsB L ++ textsB (S.take j2)).length = p1 := by rw [List.length_append]; exact hp1
                        have hwi : WithinD B (some p1) := fun q hq => by
                          cases hq
                          rw [hsplit, List.length_append, hl1]
                          omega
                        have key := text_c T5 W g2 B _ hW hwi
                        have hd := textD_put E (numsB L ++ textsB (S.take j2)) (textsB (S.drop (j2 + 1))) (by omega)
                        rw [← hsplit, hl1] at hd
                        rw [hd] at key
                        rw [← hp2, take_snoc hx, textsB_snoc, List.length_append]
                        unfold textB
                        rw [List.length_append, ← Nat.add_assoc, ← Nat.add_assoc, hp1]
                        exact key
                      have HRE : Hid (∀ W, Below w.heap.size w W → RowB W v E) := fun W hW => xr.on hW
                      have HOE := Lib.hid xo
                      obtain ⟨va2, vc2, rfl⟩ := xr.shape
                      clear hx hb hsplit xr xo xc hp2 hp1 hx300
                      obtain ⟨sE, hsE⟩ : ∃ q, strI E = q := ⟨_, rfl⟩
                      have HSE := Lib.hid hsE
                      clear hsE
                      obtain ⟨el, hel⟩ : ∃ el, E.length = el := ⟨_, rfl⟩
                      rw [hel] at hc HRE
                      clear hel
                      have HLT := Lib.hid hlt
                      go_upto_region 37 with fail
                      clear hd hji hlt hc
                      refine wp_region_put (by kernel_rfl) (by kernel_rfl) (by kernel_rfl) (fun b' vs w' => (b' 0 = true → vs 0 = ptrG g2) ∧ (b' 2 = true → vs 2 = .string sE) ∧ (b' 3 = true → vs 3 = .slice va2 el vc2) ∧ (b' 4 = true → vs 4 = .string sE) ∧ (b' 5 = true → vs 5 = .bool false) ∧ (b' 1 = true → Hid (RowB w' (vs 1) E)) ∧ (b' 1 = false → Hid (InAt T5 w' g2 B (some p1) ∧ Far w w' T5)) ∧ (b' 1 = true → Hid (∃ T', InAt T' w' g2 B (some p2) ∧ Far w w' T')) ∧ (Hid (Below w.heap.size w w'))) ?_ ?_ ?_
                      · intro vs
                        exact ⟨fun h => Bool.noConfusion h, fun h => Bool.noConfusion h, fun h => Bool.noConfusion h, fun h => Bool.noConfusion h, fun h => Bool.noConfusion h, fun h => Bool.noConfusion h, fun _ => Lib.hid (⟨by obtain ⟨u, q⟩ := H6.out.1; exact ⟨u, q.keep (Keep.drew _ _)⟩, H6.out.2.grow (below_drewN (Below.refl _ _) 1)⟩), fun h => Bool.noConfusion h, (H6.out.2.grow (below_drewN (Below.refl _ _) 1)).below⟩
                      · rintro b' vs w' i op hi hun hall ⟨h0, h2, h3, h4, h5, y1, hF, hG, hB⟩
                        have hil : i < 6 := (List.getElem?_eq_some_iff.1 hi).1
                        rcases i with _ | _ | _ | _ | _ | _ | i
                        · obtain rfl := Option.some.inj hi
                          clear hi hil
                          refine wpOp_step rfl (fun K hK => ?_)
                          have HKK := Lib.hid hK; clear hK
                          simp only [putAll, Act.put, List.setIfInBounds_toArray, List.set_cons_zero, List.set_cons_succ]
                          go_simp
                          exact HKK.out _ _ ⟨_, by simp only [putAll, Act.put, List.setIfInBounds_toArray, List.set_cons_zero, List.set_cons_succ] <;> rfl, fun _ => rfl, h2, h3, h4, h5, y1, hF, hG, hB⟩
                        · obtain rfl := Option.some.inj hi
                          clear hi hil
                          have d0 := h0 (hall ⟨0, .data⟩ (by simp) rfl)
                          have hS := hF hun
                          refine wpOp_step rfl (fun K hK => ?_)
                          have HKK := Lib.hid hK; clear hK
                          simp only [putAll, Act.put, List.setIfInBounds_toArray, List.set_cons_zero, List.set_cons_succ]
                          go_simp
                          refine (HCT.out w' hS.out.1).mono ?_
                          rintro e w2 ⟨T6, u, rfl, ha, ht, hv⟩
                          exact HKK.out _ _ ⟨_, by simp only [putAll, Act.put, List.setIfInBounds_toArray, List.set_cons_zero, List.set_cons_succ, d0] <;> rfl, h0, h2, h3, h4, h5, fun _ => Lib.hid hv, fun h => Bool.noConfusion h, fun _ => Lib.hid ⟨T6, ha, hS.out.2.step ht⟩, (hS.out.2.step ht).below⟩
                        · obtain rfl := Option.some.inj hi
                          clear hi hil
                          have hy := y1 (hall ⟨1, .data⟩ (by simp) rfl)
                          have cv := conv_b hy.out HOE.out
                          rw [HSE.out] at cv
                          refine wpOp_step rfl (fun K hK => ?_)
                          have HKK := Lib.hid hK; clear hK
                          simp only [putAll, Act.put, List.setIfInBounds_toArray, List.set_cons_zero, List.set_cons_succ]
                          go_simp
                          exact HKK.out _ _ ⟨_, by simp only [putAll, Act.put, List.setIfInBounds_toArray, List.set_cons_zero, List.set_cons_succ] <;> rfl, h0, fun _ => rfl, h3, h4, h5, y1, hF, hG, hB⟩
                        · obtain rfl := Option.some.inj hi
                          clear hi hil
                          refine wpOp_step rfl (fun K hK => ?_)
                          have HKK := Lib.hid hK; clear hK
                          simp only [putAll, Act.put, List.setIfInBounds_toArray, List.set_cons_zero, List.set_cons_succ]
                          go_simp
                          exact HKK.out _ _ ⟨_, by simp only [putAll, Act.put, List.setIfInBounds_toArray, List.set_cons_zero, List.set_cons_succ] <;> rfl, h0, h2, fun _ => rfl, h4, h5, y1, hF, hG, hB⟩
                        · obtain rfl := Option.some.inj hi
                          clear hi hil
                          have d3 := h3 (hall ⟨3, .data⟩ (by simp) rfl)
                          have cv := conv_b (HRE.out w' hB.out) HOE.out
                          rw [HSE.out] at cv
                          refine wpOp_step rfl (fun K hK => ?_)
                          have HKK := Lib.hid hK; clear hK
                          simp only [putAll, Act.put, List.setIfInBounds_toArray, List.set_cons_zero, List.set_cons_succ]
                          go_simp
                          exact HKK.out _ _ ⟨_, by simp only [putAll, Act.put, List.setIfInBounds_toArray, List.set_cons_zero, List.set_cons_succ, d3] <;> rfl, h0, h2, h3, fun _ => rfl, h5, y1, hF, hG, hB⟩
                        · obtain rfl := Option.some.inj hi
                          clear hi hil
                          have d2 := h2 (hall ⟨2, .data⟩ (by simp) rfl)
                          have d4 := h4 (hall ⟨4, .data⟩ (by simp) rfl)
                          refine wpOp_step rfl (fun K hK => ?_)
                          have HKK := Lib.hid hK; clear hK
                          simp only [putAll, Act.put, List.setIfInBounds_toArray, List.set_cons_zero, List.set_cons_succ]
                          go_simp
                          exact HKK.out _ _ ⟨_, by simp only [putAll, Act.put, List.setIfInBounds_toArray, List.set_cons_zero, List.set_cons_succ, d2, d4] <;> rfl, h0, h2, h3, h4, fun _ => rfl, y1, hF, hG, hB⟩
                        · omega
                      · rintro b' vs wq hall ⟨h0, h2, h3, h4, h5, y1, hF, hG, hB⟩
                        have d0 := h0 (hall 0 (by simp))
                        have d2 := h2 (hall 2 (by simp))
                        have d3 := h3 (hall 3 (by simp))
                        have d4 := h4 (hall 4 (by simp))
                        have d5 := h5 (hall 5 (by simp))
                        have HG := hG (hall 1 (by simp))
                        simp only [putAll, Act.put, List.setIfInBounds_toArray, List.set_cons_zero, List.set_cons_succ, d0, d2, d3, d4, d5]
                        clear hall h0 d0 h2 d2 h3 d3 h4 d4 h5 d5 y1 hF hG hB
                        generalize vs 1 = vM1 at *
                        have hj9 := HB.out.2
                        have hlt9 := HLT.out
                        go_wp2_with fail
                        obtain ⟨T7, q1, q2⟩ := HG.out
                        exact ⟨⟨j2 + 1, by omega, by go_num, T7, by rw [HP2.out]; exact q1, q2⟩, by simp [intOf]; omega⟩
                    · have hd : decide ((j2 : Int) < (j : Int)) = false := by simp; omega
                      have hjj : j2 = j := by omega
                      subst hjj
                      have H7 : Hid (InAt T5 wr g2 B (some B.length) ∧ Far w wr T5) := by
                        have h := H6.out
                        rw [List.take_of_length_le (by rw [HN.out.2]; exact Nat.le_refl _), ← List.length_append, HBB.out.1] at h
                        exact h
                      have HD : Hid (Calls Tryd.prog 24 #[ptrG g2] wr fun e w' => e = .returned (.bool true) ∧ Below wr.heap.size wr w') := by
                        have key := done_c T5 wr g2 B _ H7.out.1 (fun q hq => by cases hq; exact Nat.le_refl _)
                        rw [decide_eq_true rfl] at key
                        exact key
                      clear hlt H6
                      go_wp2_with fail
                      refine (HD.out).mono ?_
                      rintro e w3 ⟨rfl, hb3⟩
                      have H8 : Hid (InAt T5 w3 g2 B (some B.length) ∧ Far w w3 T5) := ⟨by obtain ⟨u, q⟩ := H7.out.1; exact ⟨u, q.keep (Keep.of_below hb3)⟩, H7.out.2.grow hb3⟩
                      clear hb3 HD H7
                      go_wp2_with fail
                      refine (bad_c T5 w3 g2 B _ H8.out.1).mono ?_
                      rintro e w4 ⟨rfl, hb4⟩
                      have H9 : Hid (Below w.heap.size w w4) := (H8.out.2.grow hb4).below
                      have HNN : Hid ((some B.length).isNone = false) := rfl
                      rw [HNN.out]
                      clear hb4 H8
                      go_wp2_with fail
                      refine (awake13_c w4 (HRD.out.on H9.out)).mono ?_
                      rintro e w5 ⟨rfl, hb5⟩
                      have H10 : Hid (Below w.heap.size w w5) := H9.out.trans (hb5.mono H9.out.size)
                      clear hb5
                      go_wp2_with fail
                      go_ret
                      exact ⟨rfl, H10.out⟩
end Go.Proofs.YteobffggfcmghaaDoor
