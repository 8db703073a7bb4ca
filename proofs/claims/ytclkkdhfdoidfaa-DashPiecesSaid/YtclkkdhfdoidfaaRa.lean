/- Layer 7: the document's points that are told apart. -/
import Derived.Test.YtclkkdhfdoidfaaTb
import Derived.Test.YtclkkdhfdoidfaaSf
namespace Go.Proofs.Ytclkkdhfdoidfaa
open Go.RowKit
def condB (d : List Pt) (cl : Bool) : Prop := cl = true ∧ 2 ≤ d.length ∧ d[d.length - 1]? = d[0]?
theorem apartF_yes {c : List Pt} {cl : Bool} (h : condB c cl) : apartF c cl = c.take (c.length - 1) := if_pos h
theorem apartF_no {c : List Pt} {cl : Bool} (h : ¬ condB c cl) : apartF c cl = c := if_neg h
theorem apartF_done (l : List Pt) (cl : Bool) : ¬ condB (apartF (compI l) cl) cl := by
  by_cases h : condB (compI l) cl
  · rw [apartF_yes h]
    rintro ⟨_, h2, h3⟩
    have hlen : ((compI l).take ((compI l).length - 1)).length = (compI l).length - 1 := by rw [List.length_take]; omega
    rw [hlen] at h2 h3
    rw [List.getElem?_take, List.getElem?_take, if_pos (by omega), if_pos (by omega)] at h3
    obtain ⟨p, hp⟩ : ∃ p, (compI l)[(compI l).length - 1 - 1]? = some p := ⟨_, List.getElem?_eq_getElem (by omega)⟩
    obtain ⟨q, hq⟩ : ∃ q, (compI l)[(compI l).length - 1 - 1 + 1]? = some q := ⟨_, List.getElem?_eq_getElem (by omega)⟩
    have hne := compUp_adj l _ (Nat.le_refl _) _ p q hp hq
    have h5 := h.2.2
    rw [show (compI l).length - 1 = (compI l).length - 1 - 1 + 1 by omega] at h5
    rw [hq, ← h3, hp] at h5
    exact hne (Option.some.inj h5).symm
  · rw [apartF_no h]; exact h
def sliceLen : Value → Nat
  | .slice _ n _ => n
  | _ => 0
set_option maxHeartbeats 4000000 in
set_option maxRecDepth 100000 in
theorem rplain_c (s : Value) (l : List Pt) (cl : Bool) (w : World) (row : Row w s l) (hl : l.length ≤ 1000) :
    Calls Try.prog 46 #[s, .bool cl] w fun e w' => ∃ v, e = .returned v ∧ Own w' w.heap.size 39 v (apartI l cl) ∧ Below w.heap.size w w' := by
  have HROW := Lib.hid row
  have HL := Lib.hid hl
  obtain ⟨ao, c, rfl⟩ := row.shape
  obtain ⟨n, hn⟩ : ∃ n, l.length = n := ⟨_, rfl⟩
  rw [hn] at HROW ⊢
  have HN := Lib.hid hn
  have hn2 : n ≤ 1000 := by omega
  clear row hl hn
  go_enter Try.func46, Try.ntmps46
  go_wp2_with fail
  go_loopw [5, 6] (fun s5 s6 wr => ∃ k : Nat, k ≤ n ∧ s6 = .int .i64 k ∧ Hid (Own wr w.heap.size 39 s5 (compUp l k) ∧ Below w.heap.size w wr)) (fun _ s6 _ => n - (intOf s6).toNat)
  case atStart => exact ⟨0, by omega, rfl, Own.nil _ _ _, Below.refl _ _⟩
  case round =>
    obtain ⟨k, hk, rfl, hw⟩ := hrel
    obtain ⟨ua, un, uc, rfl⟩ := own_shape' hw.out.1
    by_cases hlt : k < n
    · have hd : decide ((k : Int) < (n : Int)) = true := by simp; omega
      obtain ⟨b, o, rfl, hbs, _⟩ := Row.addr HROW.out (k := k) (by rw [HN.out]; exact hlt)
      obtain ⟨⟨px, py⟩, hp⟩ : ∃ p, l[k]? = some p := ⟨_, List.getElem?_eq_getElem (by rw [HN.out]; exact hlt)⟩
      obtain ⟨c0, c1⟩ := (HROW.out.on hw.out.2).pts hp
      have HP := Lib.hid hp
      simp only at c0 c1
      clear hp
      by_cases hk0 : k = 0
      · subst hk0
        rw [Nat.zero_mul, Nat.add_zero] at c0 c1
        have HK : Hid (keepsB l 0 = true) := rfl
        go_wp2_with fail
        go_quiet (fail)
        have AX : Hid (Below wr.heap.size wr ((wr.drewN nq).alloc (.cells #[.int .i64 px, .int .i64 py] 39))) := (below_drewN (Below.refl _ _) nq).alloc (Nat.le_refl _) _
        have OWX : Hid (Own ((wr.drewN nq).alloc (.cells #[.int .i64 px, .int .i64 py] 39)) w.heap.size 39 (.slice ua un uc) (compUp l 0)) := hw.out.1.grow AX.out
        have ROWX : Hid (Row ((wr.drewN nq).alloc (.cells #[.int .i64 px, .int .i64 py] 39)) (.slice (some ⟨wr.heap.size, 0, none⟩) 1 1) [(px, py)]) := Row.new (wr.drewN nq) [(px, py)] _ _ 1 rfl rfl
        have HLX : Hid ((compUp l 0).length + [(px, py)].length ≤ 100000) := by unfold Hid; have := compUp_len l 0; have := HL.out; have := HN.out; simp; omega
        have HBX : Hid (w.heap.size ≤ ((wr.drewN nq).alloc (.cells #[.int .i64 px, .int .i64 py] 39)).heap.size) := Nat.le_trans hw.out.2.size AX.out.size
        go_wp2_with (at_builtin; refine wpList_append_pts rfl _ _ 47 39 rfl Try.underlying47 infoR w.heap.size _ _ rfl OWX.out _ [(px, py)] rfl ROWX.out HLX.out HBX.out ?_)
        intro v' w5 hown hgrow _
        have O5 : Hid (Own w5 w.heap.size 39 v' (compUp l (0 + 1))) := by
          unfold Hid
          rw [compUp, HK.out, if_pos rfl, HP.out]
          exact hown
        have B5 : Hid (Below w.heap.size w w5) := own_below OWX.out hgrow (hw.out.2.trans (AX.out.mono hw.out.2.size)) (Nat.le_refl _) HBX.out
        obtain ⟨va, vn, vc, rfl⟩ := own_shape' hown
        clear hown hgrow
        go_wp2_with fail
        exact ⟨⟨0 + 1, by omega, by first | go_num | rfl, O5.out, B5.out⟩, by simp [intOf]; omega⟩
      · have h1 : ((k : Int) == 0) = false := by simp; omega
        have h2 : decide ((k : Int) = 0) = false := by simp; omega
        have h3 : decide (k = 0) = false := by simp; omega
        obtain ⟨⟨qx, qy⟩, hq⟩ : ∃ p, l[k - 1]? = some p := ⟨_, List.getElem?_eq_getElem (by rw [HN.out]; omega)⟩
        obtain ⟨c2, c3⟩ := (HROW.out.on hw.out.2).pts hq
        have HQ := Lib.hid hq
        simp only at c2 c3
        clear hq
        by_cases hx : px = qx
        · by_cases hy : py = qy
          · have HK : Hid (keepsB l k = false) := keeps_neg (by omega) HP.out HQ.out (by rw [hx, hy])
            subst hx hy
            go_wp2_with fail
            go_quiet (fail)
            go_wp2_with fail
            have O5 : Hid (Own wr w.heap.size 39 (.slice ua un uc) (compUp l (k + 1))) := by
              unfold Hid
              rw [compUp, HK.out, if_neg (by decide), List.append_nil]
              exact hw.out.1
            exact ⟨⟨k + 1, by omega, by go_num, O5.out, below_drewN hw.out.2 _⟩, by simp [intOf]; omega⟩
          · have HK : Hid (keepsB l k = true) := keeps_pos HP.out HQ.out (fun e => hy (congrArg Prod.snd e))
            have _hx : px = qx ↔ True := ⟨fun _ => trivial, fun _ => hx⟩
            have HX := Lib.hid hx
            clear hx
            go_wp2_with fail
            go_quiet (fail)
            have AX : Hid (Below wr.heap.size wr ((wr.drewN nq).alloc (.cells #[.int .i64 px, .int .i64 py] 39))) := (below_drewN (Below.refl _ _) nq).alloc (Nat.le_refl _) _
            have OWX : Hid (Own ((wr.drewN nq).alloc (.cells #[.int .i64 px, .int .i64 py] 39)) w.heap.size 39 (.slice ua un uc) (compUp l k)) := hw.out.1.grow AX.out
            have ROWX : Hid (Row ((wr.drewN nq).alloc (.cells #[.int .i64 px, .int .i64 py] 39)) (.slice (some ⟨wr.heap.size, 0, none⟩) 1 1) [(px, py)]) := Row.new (wr.drewN nq) [(px, py)] _ _ 1 rfl rfl
            have HLX : Hid ((compUp l k).length + [(px, py)].length ≤ 100000) := by unfold Hid; have := compUp_len l k; have := HL.out; have := HN.out; simp; omega
            have HBX : Hid (w.heap.size ≤ ((wr.drewN nq).alloc (.cells #[.int .i64 px, .int .i64 py] 39)).heap.size) := Nat.le_trans hw.out.2.size AX.out.size
            go_wp2_with (at_builtin; refine wpList_append_pts rfl _ _ 47 39 rfl Try.underlying47 infoR w.heap.size _ _ rfl OWX.out _ [(px, py)] rfl ROWX.out HLX.out HBX.out ?_)
            intro v' w5 hown hgrow _
            have O5 : Hid (Own w5 w.heap.size 39 v' (compUp l (k + 1))) := by
              unfold Hid
              rw [compUp, HK.out, if_pos rfl, HP.out]
              exact hown
            have B5 : Hid (Below w.heap.size w w5) := own_below OWX.out hgrow (hw.out.2.trans (AX.out.mono hw.out.2.size)) (Nat.le_refl _) HBX.out
            obtain ⟨va, vn, vc, rfl⟩ := own_shape' hown
            clear hown hgrow
            go_wp2_with fail
            exact ⟨⟨k + 1, by omega, by go_num, O5.out, B5.out⟩, by simp [intOf]; omega⟩
        · have HK : Hid (keepsB l k = true) := keeps_pos HP.out HQ.out (fun e => hx (congrArg Prod.fst e))
          go_wp2_with fail
          go_quiet (fail)
          have AX : Hid (Below wr.heap.size wr ((wr.drewN nq).alloc (.cells #[.int .i64 px, .int .i64 py] 39))) := (below_drewN (Below.refl _ _) nq).alloc (Nat.le_refl _) _
          have OWX : Hid (Own ((wr.drewN nq).alloc (.cells #[.int .i64 px, .int .i64 py] 39)) w.heap.size 39 (.slice ua un uc) (compUp l k)) := hw.out.1.grow AX.out
          have ROWX : Hid (Row ((wr.drewN nq).alloc (.cells #[.int .i64 px, .int .i64 py] 39)) (.slice (some ⟨wr.heap.size, 0, none⟩) 1 1) [(px, py)]) := Row.new (wr.drewN nq) [(px, py)] _ _ 1 rfl rfl
          have HLX : Hid ((compUp l k).length + [(px, py)].length ≤ 100000) := by unfold Hid; have := compUp_len l k; have := HL.out; have := HN.out; simp; omega
          have HBX : Hid (w.heap.size ≤ ((wr.drewN nq).alloc (.cells #[.int .i64 px, .int .i64 py] 39)).heap.size) := Nat.le_trans hw.out.2.size AX.out.size
          go_wp2_with (at_builtin; refine wpList_append_pts rfl _ _ 47 39 rfl Try.underlying47 infoR w.heap.size _ _ rfl OWX.out _ [(px, py)] rfl ROWX.out HLX.out HBX.out ?_)
          intro v' w5 hown hgrow _
          have O5 : Hid (Own w5 w.heap.size 39 v' (compUp l (k + 1))) := by
            unfold Hid
            rw [compUp, HK.out, if_pos rfl, HP.out]
            exact hown
          have B5 : Hid (Below w.heap.size w w5) := own_below OWX.out hgrow (hw.out.2.trans (AX.out.mono hw.out.2.size)) (Nat.le_refl _) HBX.out
          obtain ⟨va, vn, vc, rfl⟩ := own_shape' hown
          clear hown hgrow
          go_wp2_with fail
          exact ⟨⟨k + 1, by omega, by go_num, O5.out, B5.out⟩, by simp [intOf]; omega⟩
    · have hd : decide ((k : Int) < (n : Int)) = false := by simp; omega
      have O1 : Hid (Own wr w.heap.size 39 (.slice ua un uc) (compI l)) := by
        have := hw.out.1
        rw [show k = l.length by rw [HN.out]; omega] at this
        exact this
      have HCD := Lib.hid (apartF_done l cl)
      have HCL : Hid ((compI l).length ≤ 1000) := Nat.le_trans (compI_len l) HL.out
      have B1 := Lib.hid hw.out.2
      obtain ⟨q, hq0⟩ : ∃ q, compI l = q := ⟨_, rfl⟩
      have HEQ : Hid (apartI l cl = apartF q cl) := by unfold Hid apartI; rw [hq0]
      rw [hq0] at O1 HCD HCL
      clear hq0
      go_wp2_with fail
      obtain ⟨wz, rfl⟩ : ∃ x, x = wr := ⟨_, rfl⟩
      go_loopw [5] (fun s5 wx => Hid (∃ d, (d = q ∨ d = apartF q cl) ∧ Own wx w.heap.size 39 s5 d ∧ Below w.heap.size w wx)) (fun s5 _ => sliceLen s5)
      case atStart => exact ⟨_, .inl rfl, O1.out, B1.out⟩
      case round =>
        obtain ⟨e, he, ho, hb⟩ := hrel.out
        have O2 := Lib.hid ho
        have B2 := Lib.hid hb
        clear ho hb hrel
        have HA : Hid (¬ condB e cl → apartF q cl = e) := fun hc => by
          rcases he with rfl | rfl
          · exact apartF_no hc
          · rfl
        have HT : Hid (condB e cl → apartF q cl = e.take (e.length - 1)) := fun hc => by
          rcases he with rfl | rfl
          · exact apartF_yes hc
          · exact absurd hc HCD.out
        have HEL : Hid (e.length ≤ 1000) := by
          rcases he with rfl | rfl
          · exact HCL.out
          · have h := HCL.out
            unfold Hid apartF
            split
            · rw [List.length_take]; omega
            · exact h
        clear he
        rcases own_some O2.out with ⟨rfl, rfl⟩ | ⟨g, cp, rfl⟩
        · have HX : Hid (apartF q cl = []) := HA.out (fun hc => by have := hc.2.1; simp at this)
          cases cl
          · go_wp2_with fail
            go_quiet (fail)
            go_wp2_with fail
            go_ret
            exact ⟨_, rfl, by rw [HEQ.out, HX.out]; exact O2.out, below_drewN B2.out _⟩
      
          · go_wp2_with fail
            go_quiet (fail)
            go_wp2_with fail
            go_ret
            exact ⟨_, rfl, by rw [HEQ.out, HX.out]; exact O2.out, below_drewN B2.out _⟩
      
        · obtain ⟨m, hm⟩ : ∃ m, e.length = m := ⟨_, rfl⟩
          rw [hm] at O2 HEL
          have HM := Lib.hid hm
          rw [hm]
          have hcap := (own_cap O2.out).1
          clear hm
          by_cases h2 : 2 ≤ m
          · obtain ⟨mp, hmp⟩ : ∃ mp, m - 1 = mp := ⟨_, rfl⟩
            have hle := HEL.out
            have hw1 : wrap64 ((m : Int) - 1) = (mp : Int) := by rw [wrapR _ (by omega) (by omega)]; omega
            have hlt2 : mp < m := by omega
            have H2 := Lib.hid h2
            obtain ⟨⟨px, py⟩, hp⟩ : ∃ p, e[mp]? = some p := ⟨_, List.getElem?_eq_getElem (by rw [HM.out]; omega)⟩
            obtain ⟨⟨qx, qy⟩, hq⟩ : ∃ p, e[0]? = some p := ⟨_, List.getElem?_eq_getElem (by rw [HM.out]; omega)⟩
            obtain ⟨c0, c1⟩ := O2.out.pts HM.out hp
            obtain ⟨c2, c3⟩ := O2.out.pts HM.out hq
            have HP := Lib.hid hp; have HQ := Lib.hid hq
            have HMP := Lib.hid hmp
            have hd1 : decide (1 < m) = true := by simp; omega
            have hd2 : decide ((m : Int) > 1) = true := by simp; omega
            have hd3 : decide (1 < (m : Int)) = true := by simp; omega
            have h1m : 1 < m := by omega
            have h0m : 0 < m := by omega
            clear hp hq hmp h2 hle
            simp only [Nat.zero_mul, Nat.zero_add] at c0 c1 c2 c3
            cases cl
            · have HX : Hid (apartF q false = e) := HA.out (fun hc => by have := hc.1; cases this)
              go_wp2_with fail
              go_quiet (fail)
              go_wp2_with fail
              go_ret
              exact ⟨_, rfl, by rw [HEQ.out, HX.out]; exact O2.out, below_drewN B2.out _⟩
      
            · by_cases hx : px = qx
              · by_cases hy : py = qy
                · have HX : Hid (apartF q true = e.take mp) := by
                    have h := HT.out ⟨rfl, by rw [HM.out]; exact H2.out, by rw [HM.out, HMP.out, HP.out, HQ.out, hx, hy]⟩
                    rw [HM.out, HMP.out] at h; exact h
                  subst hx hy
                  have OC : Hid (Own wr w.heap.size 39 (.slice (some ⟨g, 0, none⟩) mp cp) (e.take mp)) := O2.out.cut (by omega)
                  go_wp2_with fail
                  go_quiet (fail)
                  go_wp2_with fail
                  exact ⟨⟨_, .inr HX.out.symm, OC.out, below_drewN B2.out _⟩, by simp [sliceLen]; omega⟩
                · have HX : Hid (apartF q true = e) := HA.out (fun hc => by
                    have h := hc.2.2
                    rw [HM.out, HMP.out, HP.out, HQ.out] at h
                    exact hy (congrArg Prod.snd (Option.some.inj h)))
                  have _hx : px = qx ↔ True := ⟨fun _ => trivial, fun _ => hx⟩
                  have HXX := Lib.hid hx
                  clear hx
                  go_wp2_with fail
                  go_quiet (fail)
                  go_wp2_with fail
                  go_ret
                  exact ⟨_, rfl, by rw [HEQ.out, HX.out]; exact O2.out, below_drewN B2.out _⟩
      
              · have HX : Hid (apartF q true = e) := HA.out (fun hc => by
                  have h := hc.2.2
                  rw [HM.out, HMP.out, HP.out, HQ.out] at h
                  exact hx (congrArg Prod.fst (Option.some.inj h)))
                go_wp2_with fail
                go_quiet (fail)
                go_wp2_with fail
                go_ret
                exact ⟨_, rfl, by rw [HEQ.out, HX.out]; exact O2.out, below_drewN B2.out _⟩
      
          · have HX : Hid (apartF q cl = e) := HA.out (fun hc => by have := hc.2.1; rw [HM.out] at this; omega)
            obtain rfl | rfl : m = 0 ∨ m = 1 := by omega
            · cases cl
              · go_wp2_with fail
                go_quiet (fail)
                go_wp2_with fail
                go_ret
                exact ⟨_, rfl, by rw [HEQ.out, HX.out]; exact O2.out, below_drewN B2.out _⟩
      
              · go_wp2_with fail
                go_quiet (fail)
                go_wp2_with fail
                go_ret
                exact ⟨_, rfl, by rw [HEQ.out, HX.out]; exact O2.out, below_drewN B2.out _⟩
      
            · cases cl
              · go_wp2_with fail
                go_quiet (fail)
                go_wp2_with fail
                go_ret
                exact ⟨_, rfl, by rw [HEQ.out, HX.out]; exact O2.out, below_drewN B2.out _⟩
      
              · go_wp2_with fail
                go_quiet (fail)
                go_wp2_with fail
                go_ret
                exact ⟨_, rfl, by rw [HEQ.out, HX.out]; exact O2.out, below_drewN B2.out _⟩
end Go.Proofs.Ytclkkdhfdoidfaa

