/- Layer 13: the law FrameScans. -/
import Derived.Test.YteobffggfcmghaaDoorVj
import Derived.Test.YteobffggfcmghaaDoorUj
namespace Go.Proofs.YteobffggfcmghaaDoor
open Go.RowKit
theorem core_at {X Y : List Rcd} (h : X.map coreR = Y.map coreR) {i : Nat} {x : Rcd} (hx : X[i]? = some x) : ∃ y, Y[i]? = some y ∧ y.1 = x.1 ∧ y.2.1 = x.2.1 ∧ y.2.2.2 = x.2.2.2 := by
  have e : (X.map coreR)[i]? = (Y.map coreR)[i]? := by rw [h]
  rw [List.getElem?_map, List.getElem?_map, hx] at e
  cases hy : Y[i]? with
  | none => rw [hy] at e; cases e
  | some y =>
    rw [hy] at e
    have e2 : coreR x = coreR y := Option.some.inj e
    unfold coreR at e2
    refine ⟨y, rfl, ?_, ?_, ?_⟩
    · exact (congrArg (fun t : Int × Int × List Int => t.1) e2).symm
    · exact (congrArg (fun t : Int × Int × List Int => t.2.1) e2).symm
    · exact (congrArg (fun t : Int × Int × List Int => t.2.2) e2).symm
theorem scanI_ok {B : List Int} (hB : OkB B) : ∀ (f a : Nat) (q : Int), ∀ r ∈ (scanI B f a q).1, OkB r.2.2
  | 0, _, _, _, h => by cases h
  | f + 1, a, q, r, h => by
    rw [scanI] at h
    split at h
    · cases h
    · rename_i k hk
      have hok : OkB k.2 := by
        unfold recAt at hk
        split at hk
        · split at hk
          · split at hk
            · cases hk; exact cutL_ok hB _ _
            · cases hk
          · cases hk
        · cases hk
      split at h
      · rw [List.mem_singleton] at h
        subst h
        exact hok
      · rcases List.mem_cons.1 h with rfl | h
        · exact hok
        · exact scanI_ok hB f _ _ r h
set_option maxHeartbeats 8000000 in
set_option maxRecDepth 100000 in
theorem scans_law (s : Value) (B : List Int) (seq : Int) (w : World) (hrd : Rd w) (row : RowB w s B) (hB : OkB B) (hcap : CapS s) (hq : rngN seq) : Calls Tryd.prog 5 #[s, .int .i64 seq] w fun e w' => e = .returned (.bool true) ∧ Below w.heap.size w w' := by
  obtain ⟨ao, ac, rfl⟩ := row.shape
  obtain ⟨n, hn⟩ : ∃ n, B.length = n := ⟨_, rfl⟩
  have HN := Lib.hid hn
  have HR := Lib.hid row
  have HB : Hid (OkB B ∧ CapS (.slice ao B.length ac) ∧ rngN seq) := ⟨hB, hcap, hq⟩
  have HRD := Lib.hid hrd
  by_cases hbig : n > 3000
  · rw [hn]
    have d1 : decide ((n : Int) > 3000) = true := by simp; omega
    have d1' : decide (3000 < n) = true := by simp; omega
    clear hbig row hB hcap hq hrd hn
    go_enter Tryd.func5, Tryd.ntmps5
    go_wp2_with fail
    refine (awake13_c w HRD.out).mono ?_
    rintro e w1 ⟨rfl, hb⟩
    have H1 := Lib.hid hb
    clear hb
    go_wp2_with fail
    go_ret
    exact ⟨rfl, H1.out⟩
  have d1 : decide ((n : Int) > 3000) = false := by simp; omega
  have d1' : decide (3000 < n) = false := by simp; omega
  have HL : Hid (n ≤ 3000) := Lib.hid (by omega)
  have HS1 := Lib.hid (scan_c _ B seq w hrd row hB hcap (by omega) hq)
  have HS2 : Hid (∀ W, Below w.heap.size w W → Calls Tryd.prog 16 #[.slice ao n ac, .int .i64 seq] W (ScanQ W 42 (scanI B (B.length + 1) 0 seq))) := fun W hW => by
    have key := refScan_c _ B seq W (row.on hW) hB hcap (by omega) hq
    rw [hn] at key ⊢
    exact key
  rw [hn] at HS1 HS2 ⊢
  obtain ⟨R, hR⟩ : ∃ R, scanI B (n + 1) 0 seq = R := ⟨_, rfl⟩
  have HROK : Hid (∀ r ∈ R.1, OkB r.2.2) := by rw [Hid, ← hR]; exact scanI_ok hB _ _ _
  rw [hR] at HS1 HS2
  clear hbig row hB hcap hq hrd hn hR
  go_enter Tryd.func5, Tryd.ntmps5
  go_wp2_with fail
  refine (HS1.out).mono ?_
  rintro e w1 ⟨v1, X, rfl, hX, hmX, hb1⟩
  obtain ⟨a1, c1, rfl⟩ := hX.shape
  have HX1 := Lib.hid (And.intro hX (And.intro hmX hb1))
  have HS3 := Lib.hid (HS2.out w1 hb1)
  clear hX hmX hb1 HS1 HS2
  go_wp2_with fail
  refine (HS3.out).mono ?_
  rintro e w2 ⟨v2, Y, rfl, hY, hmY, hb2⟩
  obtain ⟨a2, c2, rfl⟩ := hY.shape
  have hlen : Y.length = X.length := by
    have h1 := congrArg List.length hmY
    have h2 := congrArg List.length HX1.out.2.1
    rw [List.length_map] at h1 h2
    omega
  obtain ⟨m, hm⟩ : ∃ m, X.length = m := ⟨_, rfl⟩
  rw [hlen, hm] at hY ⊢
  have H2 : Hid (OwnR w2 w.heap.size 29 (.slice a1 m c1) X ∧ OwnR w2 w1.heap.size 42 (.slice a2 m c2) Y ∧ X.map coreR = Y.map coreR ∧ Below w.heap.size w w2 ∧ X.length = m ∧ X.map coreR = R.1) := ⟨by rw [← hm]; exact HX1.out.1.grow hb2, hY, by rw [hmY]; exact HX1.out.2.1, HX1.out.2.2.trans (hb2.mono HX1.out.2.2.size), hm, HX1.out.2.1⟩
  have hne1 : ((R.2 : Int) != (R.2 : Int)) = false := by simp
  have hne2 : ((m : Int) != (m : Int)) = false := by simp
  have HM : Hid (m ≤ 9223372036854775807) := by
    have h1 := H2.out.1.1
    obtain ⟨_, ⟨_, h0⟩ | ⟨g, cap, cur, e, _, _, hc, hmx, _⟩⟩ := h1
    · rw [Hid, ← hm]; omega
    · have : X.length ≤ cap := hc
      unfold maxLen at hmx
      rw [Hid, ← hm]; omega
  clear hY hmY hb2 hlen hm HX1 HS3
  go_wp2_with fail
  clear hne1 hne2 d1 d1'
  go_loopw [38] (fun s38 wr => ∃ i : Nat, i ≤ m ∧ s38 = .int .i64 (i : Int) ∧ Hid (Below w2.heap.size w2 wr)) (fun s38 _ => m - (intOf s38).toNat)
  case atStart => exact ⟨0, by omega, rfl, Below.refl _ _⟩
  case round =>
    obtain ⟨i, hi, rfl, hw⟩ := hrel
    have hmm := HM.out
    by_cases hlt : i < m
    · have hd : decide ((i : Int) < (m : Int)) = true := by simp; omega
      have hii : (i : Int) < (m : Int) := by omega
      obtain ⟨x, hx⟩ : ∃ x, X[i]? = some x := ⟨_, List.getElem?_eq_getElem (by rw [H2.out.2.2.2.2.1]; exact hlt)⟩
      obtain ⟨y, hy, e1, e2, e3⟩ := core_at H2.out.2.2.1 hx
      obtain ⟨q, kd, d, E⟩ := x
      obtain ⟨q', kd', d', E'⟩ := y
      simp only at e1 e2 e3
      subst e1 e2 e3
      obtain ⟨g1, rfl, hg1, k0, k1, k2⟩ := H2.out.1.at hx
      obtain ⟨g2, rfl, hg2, k3, k4, k5⟩ := H2.out.2.1.at hy
      have r1 := H2.out.1.2 _ (List.mem_of_getElem? hx)
      have r2 := H2.out.2.1.2 _ (List.mem_of_getElem? hy)
      simp only at r1 r2 k0 k1 k2 k3 k4 k5
      obtain ⟨da, dc, rfl⟩ := r1.shape
      obtain ⟨ea, ec, rfl⟩ := r2.shape
      obtain ⟨el, hel⟩ : ∃ el, E'.length = el := ⟨_, rfl⟩
      rw [hel] at r1 r2 k2 k5
      have HOE : Hid (OkB E') := HROK.out (coreR (q', kd', .slice da E'.length dc, E')) (by rw [← H2.out.2.2.2.2.2]; exact List.mem_map_of_mem (List.mem_of_getElem? hx))
      obtain ⟨sE, hsE⟩ : ∃ q, strI E' = q := ⟨_, rfl⟩
      have HSE := Lib.hid hsE
      have HFAC : Hid (∀ W, Out wr W → W.cell? ⟨g1, i * 3, none⟩ = some (.int .i64 q') ∧ W.cell? ⟨g1, i * 3 + 1, none⟩ = some (.int .i64 kd') ∧ W.cell? ⟨g1, i * 3 + 2, none⟩ = some (.slice da el dc) ∧ W.cell? ⟨g2, i * 3, none⟩ = some (.int .i64 q') ∧ W.cell? ⟨g2, i * 3 + 1, none⟩ = some (.int .i64 kd') ∧ W.cell? ⟨g2, i * 3 + 2, none⟩ = some (.slice ea el ec) ∧ RowB W (.slice da el dc) E' ∧ RowB W (.slice ea el ec) E') := fun W hW => by
        have hb : Below w2.heap.size w2 W := hw.out.trans (Below.mono hW hw.out.size)
        exact ⟨(cell_below hb hg1).trans k0, (cell_below hb hg1).trans k1, (cell_below hb hg1).trans k2, (cell_below hb hg2).trans k3, (cell_below hb hg2).trans k4, (cell_below hb hg2).trans k5, r1.row.on hb, r2.row.on hb⟩
      clear hx hy k0 k1 k2 k3 k4 k5 r1 r2 hel hsE hg1 hg2
      go_upto_region 10 with fail
      clear hd
      refine wp_region_quiet (C := Out wr) (by kernel_rfl) (by kernel_rfl) ⟨rfl, rfl, rfl, Nat.le_refl _, fun _ _ => rfl⟩ ?_
      refine BigFrame.wpQuiet_want rfl (fun K hK => ?_)
      refine quiet_val (.slice (some ⟨g1, 0, none⟩) m c1) (fun w' hw' => by go_simp) (hK _ ?_)
      clear hK K
      simp only [Act.put, List.setIfInBounds_toArray, List.set_cons_zero, List.set_cons_succ]
      refine BigFrame.wpQuiet_want rfl (fun K hK => ?_)
      refine quiet_val (.int .i64 (i : Int)) (fun w' hw' => by go_simp) (hK _ ?_)
      clear hK K
      simp only [Act.put, List.setIfInBounds_toArray, List.set_cons_zero, List.set_cons_succ]
      refine BigFrame.wpQuiet_want rfl (fun K hK => ?_)
      refine quiet_val (.pointer (some ⟨g1, i * 3, none⟩)) (fun w' hw' => by go_simp) (hK _ ?_)
      clear hK K
      simp only [Act.put, List.setIfInBounds_toArray, List.set_cons_zero, List.set_cons_succ]
      refine BigFrame.wpQuiet_want rfl (fun K hK => ?_)
      refine quiet_val (.pointer (some ⟨g1, i * 3, none⟩)) (fun w' hw' => by go_simp) (hK _ ?_)
      clear hK K
      simp only [Act.put, List.setIfInBounds_toArray, List.set_cons_zero, List.set_cons_succ]
      refine BigFrame.wpQuiet_want rfl (fun K hK => ?_)
      refine quiet_val (.int .i64 q') (fun w' hw' => by obtain ⟨k0, k1, k2, k3, k4, k5, r1, r2⟩ := HFAC.out w' hw'; go_simp) (hK _ ?_)
      clear hK K
      simp only [Act.put, List.setIfInBounds_toArray, List.set_cons_zero, List.set_cons_succ]
      refine BigFrame.wpQuiet_want rfl (fun K hK => ?_)
      refine quiet_val (.slice (some ⟨g2, 0, none⟩) m c2) (fun w' hw' => by go_simp) (hK _ ?_)
      clear hK K
      simp only [Act.put, List.setIfInBounds_toArray, List.set_cons_zero, List.set_cons_succ]
      refine BigFrame.wpQuiet_want rfl (fun K hK => ?_)
      refine quiet_val (.int .i64 (i : Int)) (fun w' hw' => by go_simp) (hK _ ?_)
      clear hK K
      simp only [Act.put, List.setIfInBounds_toArray, List.set_cons_zero, List.set_cons_succ]
      refine BigFrame.wpQuiet_want rfl (fun K hK => ?_)
      refine quiet_val (.pointer (some ⟨g2, i * 3, none⟩)) (fun w' hw' => by go_simp) (hK _ ?_)
      clear hK K
      simp only [Act.put, List.setIfInBounds_toArray, List.set_cons_zero, List.set_cons_succ]
      refine BigFrame.wpQuiet_want rfl (fun K hK => ?_)
      refine quiet_val (.pointer (some ⟨g2, i * 3, none⟩)) (fun w' hw' => by go_simp) (hK _ ?_)
      clear hK K
      simp only [Act.put, List.setIfInBounds_toArray, List.set_cons_zero, List.set_cons_succ]
      refine BigFrame.wpQuiet_want rfl (fun K hK => ?_)
      refine quiet_val (.int .i64 q') (fun w' hw' => by obtain ⟨k0, k1, k2, k3, k4, k5, r1, r2⟩ := HFAC.out w' hw'; go_simp) (hK _ ?_)
      clear hK K
      simp only [Act.put, List.setIfInBounds_toArray, List.set_cons_zero, List.set_cons_succ]
      refine BigFrame.wpQuiet_want rfl (fun K hK => ?_)
      refine quiet_val (.bool false) (fun w' hw' => by go_simp) (hK _ ?_)
      clear hK K
      simp only [Act.put, List.setIfInBounds_toArray, List.set_cons_zero, List.set_cons_succ]
      refine BigFrame.wpQuiet_want rfl (fun K hK => ?_)
      refine quiet_val (.bool false) (fun w' hw' => by go_simp) (hK _ ?_)
      clear hK K
      simp only [Act.put, List.setIfInBounds_toArray, List.set_cons_zero, List.set_cons_succ]
      refine BigFrame.wpQuiet_want rfl (fun K hK => ?_)
      refine quiet_val (.slice (some ⟨g1, 0, none⟩) m c1) (fun w' hw' => by go_simp) (hK _ ?_)
      clear hK K
      simp only [Act.put, List.setIfInBounds_toArray, List.set_cons_zero, List.set_cons_succ]
      refine BigFrame.wpQuiet_want rfl (fun K hK => ?_)
      refine quiet_val (.int .i64 (i : Int)) (fun w' hw' => by go_simp) (hK _ ?_)
      clear hK K
      simp only [Act.put, List.setIfInBounds_toArray, List.set_cons_zero, List.set_cons_succ]
      refine BigFrame.wpQuiet_want rfl (fun K hK => ?_)
      refine quiet_val (.pointer (some ⟨g1, i * 3, none⟩)) (fun w' hw' => by go_simp) (hK _ ?_)
      clear hK K
      simp only [Act.put, List.setIfInBounds_toArray, List.set_cons_zero, List.set_cons_succ]
      refine BigFrame.wpQuiet_want rfl (fun K hK => ?_)
      refine quiet_val (.pointer (some ⟨g1, i * 3 + 1, none⟩)) (fun w' hw' => by go_simp) (hK _ ?_)
      clear hK K
      simp only [Act.put, List.setIfInBounds_toArray, List.set_cons_zero, List.set_cons_succ]
      refine BigFrame.wpQuiet_want rfl (fun K hK => ?_)
      refine quiet_val (.int .i64 kd') (fun w' hw' => by obtain ⟨k0, k1, k2, k3, k4, k5, r1, r2⟩ := HFAC.out w' hw'; go_simp) (hK _ ?_)
      clear hK K
      simp only [Act.put, List.setIfInBounds_toArray, List.set_cons_zero, List.set_cons_succ]
      refine BigFrame.wpQuiet_want rfl (fun K hK => ?_)
      refine quiet_val (.slice (some ⟨g2, 0, none⟩) m c2) (fun w' hw' => by go_simp) (hK _ ?_)
      clear hK K
      simp only [Act.put, List.setIfInBounds_toArray, List.set_cons_zero, List.set_cons_succ]
      refine BigFrame.wpQuiet_want rfl (fun K hK => ?_)
      refine quiet_val (.int .i64 (i : Int)) (fun w' hw' => by go_simp) (hK _ ?_)
      clear hK K
      simp only [Act.put, List.setIfInBounds_toArray, List.set_cons_zero, List.set_cons_succ]
      refine BigFrame.wpQuiet_want rfl (fun K hK => ?_)
      refine quiet_val (.pointer (some ⟨g2, i * 3, none⟩)) (fun w' hw' => by go_simp) (hK _ ?_)
      clear hK K
      simp only [Act.put, List.setIfInBounds_toArray, List.set_cons_zero, List.set_cons_succ]
      refine BigFrame.wpQuiet_want rfl (fun K hK => ?_)
      refine quiet_val (.pointer (some ⟨g2, i * 3 + 1, none⟩)) (fun w' hw' => by go_simp) (hK _ ?_)
      clear hK K
      simp only [Act.put, List.setIfInBounds_toArray, List.set_cons_zero, List.set_cons_succ]
      refine BigFrame.wpQuiet_want rfl (fun K hK => ?_)
      refine quiet_val (.int .i64 kd') (fun w' hw' => by obtain ⟨k0, k1, k2, k3, k4, k5, r1, r2⟩ := HFAC.out w' hw'; go_simp) (hK _ ?_)
      clear hK K
      simp only [Act.put, List.setIfInBounds_toArray, List.set_cons_zero, List.set_cons_succ]
      refine BigFrame.wpQuiet_want rfl (fun K hK => ?_)
      refine quiet_val (.bool false) (fun w' hw' => by go_simp) (hK _ ?_)
      clear hK K
      simp only [Act.put, List.setIfInBounds_toArray, List.set_cons_zero, List.set_cons_succ]
      refine BigFrame.wpQuiet_want rfl (fun K hK => ?_)
      refine quiet_val (.bool false) (fun w' hw' => by go_simp) (hK _ ?_)
      clear hK K
      simp only [Act.put, List.setIfInBounds_toArray, List.set_cons_zero, List.set_cons_succ]
      refine BigFrame.wpQuiet_want rfl (fun K hK => ?_)
      refine quiet_val (.bool false) (fun w' hw' => by go_simp) (hK _ ?_)
      clear hK K
      simp only [Act.put, List.setIfInBounds_toArray, List.set_cons_zero, List.set_cons_succ]
      refine BigFrame.wpQuiet_want rfl (fun K hK => ?_)
      refine quiet_val (.slice (some ⟨g1, 0, none⟩) m c1) (fun w' hw' => by go_simp) (hK _ ?_)
      clear hK K
      simp only [Act.put, List.setIfInBounds_toArray, List.set_cons_zero, List.set_cons_succ]
      refine BigFrame.wpQuiet_want rfl (fun K hK => ?_)
      refine quiet_val (.int .i64 (i : Int)) (fun w' hw' => by go_simp) (hK _ ?_)
      clear hK K
      simp only [Act.put, List.setIfInBounds_toArray, List.set_cons_zero, List.set_cons_succ]
      refine BigFrame.wpQuiet_want rfl (fun K hK => ?_)
      refine quiet_val (.pointer (some ⟨g1, i * 3, none⟩)) (fun w' hw' => by go_simp) (hK _ ?_)
      clear hK K
      simp only [Act.put, List.setIfInBounds_toArray, List.set_cons_zero, List.set_cons_succ]
      refine BigFrame.wpQuiet_want rfl (fun K hK => ?_)
      refine quiet_val (.pointer (some ⟨g1, i * 3 + 2, none⟩)) (fun w' hw' => by go_simp) (hK _ ?_)
      clear hK K
      simp only [Act.put, List.setIfInBounds_toArray, List.set_cons_zero, List.set_cons_succ]
      refine BigFrame.wpQuiet_want rfl (fun K hK => ?_)
      refine quiet_val (.slice da el dc) (fun w' hw' => by obtain ⟨k0, k1, k2, k3, k4, k5, r1, r2⟩ := HFAC.out w' hw'; go_simp) (hK _ ?_)
      clear hK K
      simp only [Act.put, List.setIfInBounds_toArray, List.set_cons_zero, List.set_cons_succ]
      refine BigFrame.wpQuiet_want rfl (fun K hK => ?_)
      refine quiet_val (.string sE) (fun w' hw' => by obtain ⟨k0, k1, k2, k3, k4, k5, r1, r2⟩ := HFAC.out w' hw'; have cv := conv_b r1 HOE.out; rw [HSE.out] at cv; go_simp) (hK _ ?_)
      clear hK K
      simp only [Act.put, List.setIfInBounds_toArray, List.set_cons_zero, List.set_cons_succ]
      refine BigFrame.wpQuiet_want rfl (fun K hK => ?_)
      refine quiet_val (.slice (some ⟨g2, 0, none⟩) m c2) (fun w' hw' => by go_simp) (hK _ ?_)
      clear hK K
      simp only [Act.put, List.setIfInBounds_toArray, List.set_cons_zero, List.set_cons_succ]
      refine BigFrame.wpQuiet_want rfl (fun K hK => ?_)
      refine quiet_val (.int .i64 (i : Int)) (fun w' hw' => by go_simp) (hK _ ?_)
      clear hK K
      simp only [Act.put, List.setIfInBounds_toArray, List.set_cons_zero, List.set_cons_succ]
      refine BigFrame.wpQuiet_want rfl (fun K hK => ?_)
      refine quiet_val (.pointer (some ⟨g2, i * 3, none⟩)) (fun w' hw' => by go_simp) (hK _ ?_)
      clear hK K
      simp only [Act.put, List.setIfInBounds_toArray, List.set_cons_zero, List.set_cons_succ]
      refine BigFrame.wpQuiet_want rfl (fun K hK => ?_)
      refine quiet_val (.pointer (some ⟨g2, i * 3 + 2, none⟩)) (fun w' hw' => by go_simp) (hK _ ?_)
      clear hK K
      simp only [Act.put, List.setIfInBounds_toArray, List.set_cons_zero, List.set_cons_succ]
      refine BigFrame.wpQuiet_want rfl (fun K hK => ?_)
      refine quiet_val (.slice ea el ec) (fun w' hw' => by obtain ⟨k0, k1, k2, k3, k4, k5, r1, r2⟩ := HFAC.out w' hw'; go_simp) (hK _ ?_)
      clear hK K
      simp only [Act.put, List.setIfInBounds_toArray, List.set_cons_zero, List.set_cons_succ]
      refine BigFrame.wpQuiet_want rfl (fun K hK => ?_)
      refine quiet_val (.string sE) (fun w' hw' => by obtain ⟨k0, k1, k2, k3, k4, k5, r1, r2⟩ := HFAC.out w' hw'; have cv := conv_b r2 HOE.out; rw [HSE.out] at cv; go_simp) (hK _ ?_)
      clear hK K
      simp only [Act.put, List.setIfInBounds_toArray, List.set_cons_zero, List.set_cons_succ]
      refine BigFrame.wpQuiet_want rfl (fun K hK => ?_)
      refine quiet_val (.bool false) (fun w' hw' => by go_simp) (hK _ ?_)
      clear hK K
      simp only [Act.put, List.setIfInBounds_toArray, List.set_cons_zero, List.set_cons_succ]
      refine BigFrame.wpQuiet_want rfl (fun K hK => ?_)
      refine quiet_val (.bool false) (fun w' hw' => by go_simp) (hK _ ?_)
      clear hK K
      simp only [Act.put, List.setIfInBounds_toArray, List.set_cons_zero, List.set_cons_succ]
      refine wpQuiet_nil ?_
      intro wq hbq
      have HW : Hid (Below w2.heap.size w2 wq) := hw.out.trans (Below.mono hbq hw.out.size)
      clear hbq hw HFAC
      go_wp2_with fail
      exact ⟨⟨i + 1, by omega, by go_num, HW.out⟩, by simp [intOf]; omega⟩
    · have hd : decide ((i : Int) < (m : Int)) = false := by simp; omega
      have HW : Hid (Below w.heap.size w wr) := H2.out.2.2.2.1.trans (hw.out.mono H2.out.2.2.2.1.size)
      have him : i = m := by omega
      clear hw hlt
      subst him
      go_wp2_with fail
      refine (awake13_c _ (HRD.out.on HW.out)).mono ?_
      rintro e w4 ⟨rfl, hb⟩
      have H4 : Hid (Below w.heap.size w w4) := HW.out.trans (hb.mono HW.out.size)
      clear hb
      go_wp2_with fail
      go_ret
      exact ⟨rfl, H4.out⟩
end Go.Proofs.YteobffggfcmghaaDoor
