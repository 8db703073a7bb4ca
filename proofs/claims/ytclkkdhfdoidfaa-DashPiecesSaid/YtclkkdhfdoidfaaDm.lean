/- Layer 9: the document's Way. -/
import Derived.Test.YtclkkdhfdoidfaaDe
import Derived.Test.YtclkkdhfdoidfaaRa
namespace Go.Proofs.Ytclkkdhfdoidfaa
open Go.RowKit
def refWayO (W : List Pt) : List Pt × Bool := if longB W then ([], false) else (W, true)
set_option maxHeartbeats 8000000 in
set_option maxRecDepth 100000 in
theorem refWay_c (s : Value) (l : List Pt) (cl : Bool) (w : World) (row : Row w s l) (hl : l.length ≤ 1000) (hr : l.all roomP = true) :
    Calls Try.prog 23 #[s, .bool cl] w fun e w' => ∃ v, e = .returned (.tuple #[v, .bool (refWayO (wayI l cl)).2]) ∧ Own w' w.heap.size 39 v (refWayO (wayI l cl)).1 ∧ Below w.heap.size w w' := by
  have HPL := Lib.hid (rplain_c s l false w row hl)
  have hap : apartI l false = compI l := by unfold apartI apartF; rw [if_neg (by simp)]
  rw [hap] at HPL
  have HQL : Hid ((compI l).length ≤ 1000) := Nat.le_trans (compI_len l) hl
  have HRQ : Hid (∀ p ∈ wayI l cl, roomP p = true) := fun p hp => List.all_eq_true.1 hr p (wayI_mem hp)
  unfold wayI at HRQ ⊢
  obtain ⟨ao, c, rfl⟩ := row.shape
  obtain ⟨n, hn⟩ : ∃ n, l.length = n := ⟨_, rfl⟩
  rw [hn] at HPL ⊢
  clear row hl hr hn hap
  generalize compI l = q at HPL HQL HRQ ⊢
  go_enter Try.func23, Try.ntmps23
  go_wp2_with fail
  refine HPL.out.mono ?_
  rintro e w3 ⟨v2, rfl, ho3, hb3⟩
  have B3 := Lib.hid hb3
  have O3 := Lib.hid ho3
  clear hb3 ho3 HPL
  obtain ⟨a2, n2, c2, rfl⟩ := own_shape' O3.out
  have hn2 : q.length = n2 := by
    rcases own_some O3.out with ⟨e, rfl⟩ | ⟨g, cap, e⟩
    · cases e; rfl
    · cases e; rfl
  obtain ⟨tb, htb⟩ : ∃ tb, (cl && decide (q[q.length - 1]? ≠ q[0]?)) = tb := ⟨_, rfl⟩
  have HTB := Lib.hid htb
  have HN2 := Lib.hid hn2
  clear hn2 htb
  go_wp2_with fail
  go_cut [27] from 10 to 27 (fun s27 wx => s27 = .bool tb ∧ Hid (Below w.heap.size w wx ∧ Own wx w.heap.size 39 (.slice a2 n2 c2) q))
  case first =>
    rcases own_some O3.out with ⟨e, rfl⟩ | ⟨g, cap, e⟩
    · cases e
      have HT : Hid (tb = false) := by unfold Hid; rw [← HTB.out]; cases cl <;> rfl
      cases cl
      · go_quiet (fail)
        go_wp2_with fail
        go_meet
        exact ⟨by rw [HT.out], B3.out.trans ((below_drewN (Below.refl _ _) _).mono B3.out.size), O3.out.grow (below_drewN (Below.refl _ _) _)⟩
      · go_quiet (fail)
        go_wp2_with fail
        go_meet
        exact ⟨by rw [HT.out], B3.out.trans ((below_drewN (Below.refl _ _) _).mono B3.out.size), O3.out.grow (below_drewN (Below.refl _ _) _)⟩
    · simp only [Value.slice.injEq] at e
      obtain ⟨rfl, hnx, rfl⟩ := e
      clear hnx
      rw [HN2.out] at HQL HTB
      have HM := HN2
      have hle := HQL.out
      obtain ⟨m, rfl⟩ : ∃ m, m = n2 := ⟨_, rfl⟩
      cases cl
      · have HT : Hid (tb = false) := HTB.out.symm
        go_quiet (fail)
        go_wp2_with fail
        go_meet
        exact ⟨by rw [HT.out], B3.out.trans ((below_drewN (Below.refl _ _) _).mono B3.out.size), O3.out.grow (below_drewN (Below.refl _ _) _)⟩
      · by_cases h0 : m ≤ 1
        · have hd : decide ((m : Int) > 1) = false := by simp; omega
          have hd2 : decide (1 < m) = false := by simp; omega
          have hd3 : decide (1 < (m : Int)) = false := by simp; omega
          have h1 : ¬ 1 < m := by omega
          have HT : Hid (tb = false) := by
            unfold Hid; rw [← HTB.out]
            rw [show m - 1 = 0 by omega]; simp
          go_quiet (fail)
          go_wp2_with fail
          go_meet
          exact ⟨by rw [HT.out], B3.out.trans ((below_drewN (Below.refl _ _) _).mono B3.out.size), O3.out.grow (below_drewN (Below.refl _ _) _)⟩
        · obtain ⟨mp, hmp⟩ : ∃ mp, m - 1 = mp := ⟨_, rfl⟩
          have hw1 : wrap64 ((m : Int) - 1) = (mp : Int) := by rw [wrapR _ (by omega) (by omega)]; omega
          have hlt : mp < m := by omega
          have hpos : 0 < m := by omega
          have h1m : 1 < m := by omega
          obtain ⟨⟨px, py⟩, hp⟩ : ∃ p, q[mp]? = some p := ⟨_, List.getElem?_eq_getElem (by rw [HM.out]; exact hlt)⟩
          obtain ⟨⟨qx, qy⟩, hq⟩ : ∃ p, q[0]? = some p := ⟨_, List.getElem?_eq_getElem (by rw [HM.out]; exact hpos)⟩
          obtain ⟨d0, d1⟩ := O3.out.pts HM.out hp
          obtain ⟨d2, d3⟩ := O3.out.pts HM.out hq
          have hd : decide ((m : Int) > 1) = true := by simp; omega
          have hd2 : decide (1 < m) = true := by simp; omega
          have hd3 : decide (1 < (m : Int)) = true := by simp; omega
          rw [hmp, hp, hq] at HTB
          have HP := Lib.hid hp; have HQ := Lib.hid hq
          have HMP := Lib.hid hmp
          clear hp hq hmp hle
          simp only [Nat.zero_mul, Nat.zero_add] at d0 d1 d2 d3
          by_cases hx : px = qx
          · by_cases hy : py = qy
            · have HT : Hid (tb = false) := by unfold Hid; rw [← HTB.out]; simp [hx, hy]
              subst hx hy
              go_quiet (fail)
              go_wp2_with fail
              go_meet
              exact ⟨by rw [HT.out], B3.out.trans ((below_drewN (Below.refl _ _) _).mono B3.out.size), O3.out.grow (below_drewN (Below.refl _ _) _)⟩
            · have HT : Hid (tb = true) := by unfold Hid; rw [← HTB.out]; simp [hx, hy]
              have _hx : px = qx ↔ True := ⟨fun _ => trivial, fun _ => hx⟩
              have HX := Lib.hid hx
              clear hx
              go_quiet (fail)
              go_wp2_with fail
              go_meet
              exact ⟨by rw [HT.out], B3.out.trans ((below_drewN (Below.refl _ _) _).mono B3.out.size), O3.out.grow (below_drewN (Below.refl _ _) _)⟩
          · have HT : Hid (tb = true) := by unfold Hid; rw [← HTB.out]; simp [hx]
            go_quiet (fail)
            go_wp2_with fail
            go_meet
            exact ⟨by rw [HT.out], B3.out.trans ((below_drewN (Below.refl _ _) _).mono B3.out.size), O3.out.grow (below_drewN (Below.refl _ _) _)⟩
  case rest =>
    obtain ⟨rfl, hM4⟩ := hcut
    have B4 := Lib.hid hM4.out.1
    have O4 := Lib.hid hM4.out.2
    clear hM4 B3 O3
    go_upto_if 27 with fail
    go_cut [6] from 28 to 33 (fun s6 wx => ∃ (a : Option Addr) (m k : Nat), s6 = .slice a m k ∧ Hid (Below w.heap.size w wx ∧ Own wx w.heap.size 39 (.slice a m k) (wayF q cl)))
    case first =>
      cases tb
      · have HWF : Hid (wayF q cl = q) := by
          unfold Hid wayF
          rw [if_neg]
          rintro ⟨h1, h2⟩
          have := HTB.out
          rw [h1] at this
          simp at this
          exact h2 this
        go_wp2_with fail
        go_meet
        exact ⟨_, _, _, rfl, B4.out, by rw [HWF.out]; exact O4.out⟩
      · have hcl : cl = true := by have := HTB.out; revert this; cases cl <;> simp
        have hne : q[q.length - 1]? ≠ q[0]? := by
          have := HTB.out
          rw [hcl] at this
          simpa using this
        have hpos : 0 < q.length := by
          rcases Nat.eq_zero_or_pos q.length with h | h
          · rw [h] at hne; exact absurd rfl hne
          · exact h
        obtain ⟨⟨qx, qy⟩, hq⟩ : ∃ p, q[0]? = some p := ⟨_, List.getElem?_eq_getElem hpos⟩
        have HWF : Hid (wayF q cl = q ++ [(qx, qy)]) := by
          unfold Hid wayF
          rw [if_pos ⟨hcl, hne⟩, hq]
          rfl
        rcases own_some O4.out with ⟨_, e⟩ | ⟨g, cap, e⟩
        · rw [e] at hpos; simp at hpos
        · simp only [Value.slice.injEq] at e
          obtain ⟨rfl, hnx, rfl⟩ := e
          clear hnx
          rw [HN2.out] at hpos HQL
          have HM := HN2
          obtain ⟨m, rfl⟩ : ∃ m, m = n2 := ⟨_, rfl⟩
          obtain ⟨d2, d3⟩ := O4.out.pts HM.out hq
          simp only [Nat.zero_mul, Nat.zero_add] at d2 d3
          have A1 : Hid (Below wc.heap.size wc (wc.alloc (.cells #[.int .i64 qx, .int .i64 qy] 39))) := (Below.refl _ _).alloc (Nat.le_refl _) _
          have OWX : Hid (Own (wc.alloc (.cells #[.int .i64 qx, .int .i64 qy] 39)) w.heap.size 39 (.slice (some ⟨g, 0, none⟩) m c2) q) := O4.out.grow A1.out
          have BX : Hid (Below w.heap.size w (wc.alloc (.cells #[.int .i64 qx, .int .i64 qy] 39))) := B4.out.trans (A1.out.mono B4.out.size)
          have ROWX : Hid (Row (wc.alloc (.cells #[.int .i64 qx, .int .i64 qy] 39)) (.slice (some ⟨wc.heap.size, 0, none⟩) 1 1) [(qx, qy)]) := Row.new wc [(qx, qy)] _ _ 1 rfl rfl
          have HLX : Hid (q.length + [(qx, qy)].length ≤ 100000) := by unfold Hid; rw [HM.out]; have := HQL.out; simp; omega
          have HBX : Hid (w.heap.size ≤ (wc.alloc (.cells #[.int .i64 qx, .int .i64 qy] 39)).heap.size) := BX.out.size
          clear hq hne hcl A1
          go_wp2_with (at_builtin; refine wpList_append_pts rfl _ _ 47 39 rfl Try.underlying47 infoR w.heap.size _ _ rfl OWX.out _ [(qx, qy)] rfl ROWX.out HLX.out HBX.out ?_)
          intro v' w5 hown hgrow _
          have B5 : Hid (Below w.heap.size w w5) := own_below OWX.out hgrow BX.out (Nat.le_refl _) HBX.out
          have O5 : Hid (Own w5 w.heap.size 39 v' (wayF q cl)) := by unfold Hid; rw [HWF.out]; exact hown
          obtain ⟨va, vn, vc, rfl⟩ := own_shape' hown
          clear hown hgrow d2 d3
          go_wp2_with fail
          go_meet
          exact ⟨_, _, _, rfl, B5.out, O5.out⟩
    case rest =>
      obtain ⟨a4, n4, c4, rfl, hM5⟩ := hcut
      have B5 := Lib.hid hM5.out.1
      have O5 := Lib.hid hM5.out.2
      have HWL : Hid ((wayF q cl).length ≤ 1001) := Nat.le_trans (wayF_len q cl) (by have := HQL.out; omega)
      clear hM5 B4 O4 HTB HN2 HQL
      obtain ⟨W, hWE⟩ : ∃ W, wayF q cl = W := ⟨_, rfl⟩
      have HWE := Lib.hid hWE
      rw [hWE] at O5 HWL HRQ
      clear hWE
      obtain ⟨w5, rfl⟩ : ∃ x, x = wc := ⟨_, rfl⟩
      have HN4 : Hid (W.length = n4) := by
        rcases own_some O5.out with ⟨e, rfl⟩ | ⟨g, cap, e⟩
        · cases e; rfl
        · cases e; rfl
      have HLE : Hid (n4 ≤ 1001) := by unfold Hid; rw [← HN4.out]; exact HWL.out
      go_wp2_with fail
      go_loopw [7] (fun s7 wr => ∃ k : Nat, 1 ≤ k ∧ k ≤ max n4 1 ∧ s7 = .int .i64 k ∧ Hid (longN W (k - 1) = false ∧ Below w5.heap.size w5 wr)) (fun s7 _ => n4 - (intOf s7).toNat)
      case atStart => exact ⟨1, Nat.le_refl _, by omega, rfl, rfl, Below.refl _ _⟩
      case round =>
        obtain ⟨k, hk1, hk, rfl, hw⟩ := hrel
        by_cases hlt : k < n4
        · have hd : decide ((k : Int) < (n4 : Int)) = true := by simp; omega
          obtain ⟨kp, hkp⟩ : ∃ kp, k - 1 = kp := ⟨_, rfl⟩
          have hle := HLE.out
          have hw1 : IntKind.i64.wrap ((k : Int) - 1) = (kp : Int) := (wrap_is _).trans (by rw [wrapR _ (by omega) (by omega)]; omega)
          have hkl : kp < n4 := by omega
          obtain ⟨⟨px, py⟩, hp⟩ : ∃ p, W[kp]? = some p := ⟨_, List.getElem?_eq_getElem (by rw [HN4.out]; exact hkl)⟩
          obtain ⟨⟨rx, rY⟩, hq⟩ : ∃ p, W[k]? = some p := ⟨_, List.getElem?_eq_getElem (by rw [HN4.out]; exact hlt)⟩
          rcases own_some O5.out with ⟨e, e2⟩ | ⟨g, cap, e⟩
          · rw [e2] at hp; simp at hp
          · simp only [Value.slice.injEq] at e
            obtain ⟨rfl, hnx, rfl⟩ := e
            clear hnx
            have HPT : Hid (∀ A, Below wr.heap.size wr A → (A.cell? ⟨g, kp * 2, none⟩ = some (.int .i64 px) ∧ A.cell? ⟨g, kp * 2 + 1, none⟩ = some (.int .i64 py)) ∧ (A.cell? ⟨g, k * 2, none⟩ = some (.int .i64 rx) ∧ A.cell? ⟨g, k * 2 + 1, none⟩ = some (.int .i64 rY))) := fun A hA => by
              have h := (O5.out.grow hw.out.2).grow hA
              exact ⟨h.pts HN4.out hp, h.pts HN4.out hq⟩
            have HLG : Hid (∀ A, Calls Try.prog 16 #[.agg #[.int .i64 px, .int .i64 py], .agg #[.int .i64 rx, .int .i64 rY]] A fun e w' => e = .returned (.bool (!lenB (subP (rx, rY) (px, py)))) ∧ Below A.heap.size A w') := fun A => long_c (px, py) (rx, rY) (HRQ.out _ (List.mem_of_getElem? hp)) (HRQ.out _ (List.mem_of_getElem? hq)) A
            have HLN := Lib.hid (longN_succ W (k - 1))
            rw [show k - 1 + 1 = k by omega, at0_eq hq, show k - 1 = kp from hkp, at0_eq hp, show longN W kp = false by rw [← hkp]; exact hw.out.1, Bool.false_or] at HLN
            have HLA : Hid (lenB (subP (rx, rY) (px, py)) = false → longB W = true) := fun h => longN_at (k := kp) (by have := HN4.out; omega) (by rw [show kp + 1 = k by omega, at0_eq hq, at0_eq hp]; exact h)
            generalize lenB (subP (rx, rY) (px, py)) = r at *
            clear hp hq hkp
            go_wp2_with fail
            refine wp_region_quiet (C := Out wr) (by kernel_rfl) (by kernel_rfl) ⟨rfl, rfl, rfl, Nat.le_refl _, fun _ _ => rfl⟩ ?_
            refine BigFrame.wpQuiet_want rfl (fun K hK => ?_)
            refine quiet_val (.slice (some ⟨g, 0, none⟩) n4 c4) (fun w' hw' => by go_simp) (hK _ ?_)
            clear hK K
            simp only [Act.put, List.setIfInBounds_toArray, List.set_cons_zero, List.set_cons_succ]
            refine BigFrame.wpQuiet_want rfl (fun K hK => ?_)
            refine quiet_val (.int .i64 (k : Int)) (fun w' hw' => by go_simp) (hK _ ?_)
            clear hK K
            simp only [Act.put, List.setIfInBounds_toArray, List.set_cons_zero, List.set_cons_succ]
            refine BigFrame.wpQuiet_want rfl (fun K hK => ?_)
            refine quiet_val (.int .i64 (kp : Int)) (fun w' hw' => by go_simp) (hK _ ?_)
            clear hK K
            simp only [Act.put, List.setIfInBounds_toArray, List.set_cons_zero, List.set_cons_succ]
            refine BigFrame.wpQuiet_want rfl (fun K hK => ?_)
            refine quiet_val (.pointer (some ⟨g, kp * 2, none⟩)) (fun w' hw' => by go_simp) (hK _ ?_)
            clear hK K
            simp only [Act.put, List.setIfInBounds_toArray, List.set_cons_zero, List.set_cons_succ]
            refine BigFrame.wpQuiet_want rfl (fun K hK => ?_)
            refine quiet_val (.agg #[.int .i64 px, .int .i64 py]) (fun w' hw' => by obtain ⟨⟨x0, x1⟩, _, _⟩ := HPT.out w' hw'; go_simp) (hK _ ?_)
            clear hK K
            simp only [Act.put, List.setIfInBounds_toArray, List.set_cons_zero, List.set_cons_succ]
            refine BigFrame.wpQuiet_want rfl (fun K hK => ?_)
            refine quiet_val (.slice (some ⟨g, 0, none⟩) n4 c4) (fun w' hw' => by go_simp) (hK _ ?_)
            clear hK K
            simp only [Act.put, List.setIfInBounds_toArray, List.set_cons_zero, List.set_cons_succ]
            refine BigFrame.wpQuiet_want rfl (fun K hK => ?_)
            refine quiet_val (.int .i64 (k : Int)) (fun w' hw' => by go_simp) (hK _ ?_)
            clear hK K
            simp only [Act.put, List.setIfInBounds_toArray, List.set_cons_zero, List.set_cons_succ]
            refine BigFrame.wpQuiet_want rfl (fun K hK => ?_)
            refine quiet_val (.pointer (some ⟨g, k * 2, none⟩)) (fun w' hw' => by go_simp) (hK _ ?_)
            clear hK K
            simp only [Act.put, List.setIfInBounds_toArray, List.set_cons_zero, List.set_cons_succ]
            refine BigFrame.wpQuiet_want rfl (fun K hK => ?_)
            refine quiet_val (.agg #[.int .i64 rx, .int .i64 rY]) (fun w' hw' => by obtain ⟨_, x0, x1⟩ := HPT.out w' hw'; go_simp) (hK _ ?_)
            clear hK K
            simp only [Act.put, List.setIfInBounds_toArray, List.set_cons_zero, List.set_cons_succ]
            refine BigFrame.wpQuiet_want rfl (fun K hK => ?_)
            refine quiet_call 16 #[.agg #[.int .i64 px, .int .i64 py], .agg #[.int .i64 rx, .int .i64 rY]] (.bool (!r)) (fun w' _ => by go_simp) (fun w' hw' => Calls.out hw' (HLG.out w')) (hK _ ?_)
            clear hK K
            simp only [Act.put, List.setIfInBounds_toArray, List.set_cons_zero, List.set_cons_succ]
            refine wpQuiet_nil ?_
            intro w6 hb
            have B6 : Hid (Below w5.heap.size w5 w6) := hw.out.2.trans (hb.mono hw.out.2.size)
            clear hb
            cases r
            · have HLB := Lib.hid (HLA.out rfl)
              have HRO : Hid (refWayO W = ([], false)) := by unfold Hid refWayO; rw [HLB.out]; rfl
              go_wp2_with fail
              go_ret2
              exact ⟨_, by rw [HWE.out, HRO.out]; rfl, by rw [HWE.out, HRO.out]; exact Own.nil _ _ _, B5.out.trans (B6.out.mono B5.out.size)⟩
            · go_wp2_with fail
              exact ⟨⟨k + 1, by omega, by omega, by go_num, by rw [show k + 1 - 1 = k by omega, HLN.out]; rfl, B6.out⟩, by simp [intOf]; omega⟩
        · have hd : decide ((k : Int) < (n4 : Int)) = false := by simp; omega
          have HLB : Hid (longB W = false) := by
            have h := hw.out.1
            unfold Hid longB
            rw [HN4.out]
            rcases Nat.eq_zero_or_pos n4 with h4 | h4
            · rw [h4]; rfl
            · rw [show n4 - 1 = k - 1 by omega]; exact h
          have HRO : Hid (refWayO W = (W, true)) := by unfold Hid refWayO; rw [HLB.out]; rfl
          go_wp2_with fail
          go_ret2
          exact ⟨_, by rw [HWE.out, HRO.out]; rfl, by rw [HWE.out, HRO.out]; exact O5.out.grow hw.out.2, B5.out.trans (hw.out.2.mono B5.out.size)⟩
end Go.Proofs.Ytclkkdhfdoidfaa
