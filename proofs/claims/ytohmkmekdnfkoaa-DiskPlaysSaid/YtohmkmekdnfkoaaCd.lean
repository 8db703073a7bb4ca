/- Layer 12: package disk: Image. -/
import Derived.Test.YtohmkmekdnfkoaaCc
namespace Go.Proofs.Ytohmkmekdnfkoaa
open Go.RowKit
set_option maxHeartbeats 4000000 in
set_option maxRecDepth 100000 in
theorem kImage_c (T : Nat → Prop) (w : World) (g : Nat) (d : DM) (h : At12 T w g d) (ok : OkD d 1000) : Calls Try.prog 15 #[ptrD g] w fun e w' => ∃ v, e = .returned v ∧ OwnB w' w.heap.size v (nowD d) ∧ Below w.heap.size w w' := by
  obtain ⟨x, hx, hr⟩ := h
  obtain ⟨z, hz⟩ := hr.okL ok
  obtain ⟨n, hn⟩ : ∃ n, x.L.length = n := ⟨_, rfl⟩
  obtain ⟨wo, wc, hwv⟩ := hx.wait.row.shape
  have HX := Lib.hid hx
  have HZ := Lib.hid hz
  have HN := Lib.hid hn
  have HW : Hid (x.wv = .slice wo n wc) := by rw [hwv, hn]; exact rfl
  have HF : Hid (nowD d = nowK x.size x.A x.L n) := by rw [← hn]; exact (nowK_all hr).symm
  rw [HF.out]
  have HCL := Lib.hid (clone_c x.sv x.A w hx.all.row (by have := hz.len; omega))
  obtain ⟨d0, d1, d2, d3, d4, d5, d6⟩ := hx.blk.k7
  clear hx hr ok hz hwv hn
  go_enter Try.func15, Try.ntmps15
  go_wp2_with fail
  refine (HCL.out).mono ?_
  rintro e w1 ⟨v, rfl, ho, hb⟩
  obtain ⟨ga, ca, hv, _, _⟩ := ho.form HZ.out.pos
  obtain ⟨m, hm⟩ : ∃ m, x.A.length = m := ⟨_, rfl⟩
  rw [hm] at hv
  have HM := Lib.hid hm
  subst hv
  have H1 : Hid (Below w.heap.size w w1 ∧ OwnB w1 w.heap.size (.slice (some ⟨ga, 0, none⟩) m ca) (nowK x.size x.A x.L 0)) := ⟨hb, ho⟩
  clear ho hb hm d0 d1 d2 d3 d4 d5 d6
  obtain ⟨d0, d1, d2, d3, d4, d5, d6⟩ := (HX.out.blk.grow H1.out.1).k7
  rw [HW.out] at d2
  go_wp2_with fail
  go_loopw [16] (fun s16 wr => ∃ k : Nat, k ≤ n ∧ s16 = .int .i64 (k : Int) ∧ Hid (Below w.heap.size w wr ∧ OwnB wr w.heap.size (.slice (some ⟨ga, 0, none⟩) m ca) (nowK x.size x.A x.L k))) (fun s16 _ => n - (intOf s16).toNat)
  case atStart => exact ⟨0, by omega, rfl, H1.out⟩
  case round =>
    obtain ⟨k, hk, rfl, hw⟩ := hrel
    by_cases hlt : k < n
    · have hd : decide ((k : Int) < (n : Int)) = true := by simp; omega
      have hki : (k : Int) < (n : Int) := by omega
      obtain ⟨y, hy⟩ : ∃ y, x.L[k]? = some y := ⟨_, List.getElem?_eq_getElem (by rw [HN.out]; exact hlt)⟩
      have hmem := List.mem_of_getElem? hy
      have hkat := HX.out.grow hw.out.1
      have hrow : RowW wr x.wv x.L := hkat.wait.row
      rw [HW.out] at hrow
      obtain ⟨wb, wof, rfl, hwb, hwc⟩ := RowW.addr hrow (by rw [HN.out]; omega)
      obtain ⟨c0, c1⟩ := hwc k y hy
      obtain ⟨i, hi, hfit, hbl⟩ := HZ.out.each y hmem
      have hz1 := HZ.out.z1
      have hbn := hkat.byts y hmem
      have hby := hbn.1
      obtain ⟨b, bc, hbv, _, hbz⟩ := hby.form (by omega)
      rw [hbl] at hbv
      rw [hi] at c0
      rw [hbv] at c1 hby
      obtain ⟨B, hB⟩ : ∃ B, y.2.2 = B := ⟨_, rfl⟩
      rw [hB] at hby hbl
      obtain ⟨w2, hw2⟩ : ∃ WW, wr.alloc (.cells #[.int .i64 (i : Int), .slice (some ⟨b, 0, none⟩) z bc] 63) = WW := ⟨_, rfl⟩
      obtain ⟨g2, hg2⟩ : ∃ G, wr.heap.size = G := ⟨_, rfl⟩
      have H2 : Hid (Below wr.heap.size wr w2 ∧ Blk w2 g2 63 #[.int .i64 (i : Int), .slice (some ⟨b, 0, none⟩) z bc] ∧ OwnB w2 0 (.slice (some ⟨b, 0, none⟩) z bc) B) := by
        rw [← hw2]
        exact ⟨(Below.refl _ _).alloc (Nat.le_refl _) _, by rw [← hg2]; exact Blk.new _ _ _, hby.grow ((Below.refl _ _).alloc (Nat.le_refl _) _)⟩
      have HB1 : Hid (B.take z = B) := by unfold Hid; rw [← hbl, List.take_length]
      have HNX : Hid (nowK x.size x.A x.L (k + 1) = layB (nowK x.size x.A x.L k) B ((i * z : Nat) : Int)) := by
        have e := nowK_succ (size := x.size) (A := x.A) hy
        rw [hi, hB, HZ.out.size] at e
        rw [Hid, HZ.out.size, e]
        simp
      have HLAY : Hid (∀ W, Below w2.heap.size w2 W → Calls Try.prog 30 #[.agg #[.int .i64 (i : Int), .slice (some ⟨b, 0, none⟩) z bc], .slice (some ⟨ga, 0, none⟩) m ca, .int .i64 (z : Int)] W fun e w' => e = .returned (.tuple #[]) ∧ OwnB w' 0 (.slice (some ⟨ga, 0, none⟩) m ca) (layB (nowK x.size x.A x.L k) (B.take z) ((i * z : Nat) : Int)) ∧ Keep (fun k => k ≠ ga) W w') := fun W hW => layK_c W ga m ca _ (owns_base ((hw.out.2.grow H2.out.1).grow hW) (Nat.zero_le _)) b z bc B (H2.out.2.2.grow hW) i z (by omega) (by rw [← HM.out]; exact hfit) (by have := HZ.out.len; rw [HM.out] at this; omega) (Nat.le_refl _)
      have HC9 : Hid (∀ W, Below w2.heap.size w2 W → Blk W g2 63 #[.int .i64 (i : Int), .slice (some ⟨b, 0, none⟩) z bc] ∧ W.cell? ⟨g, 0, none⟩ = some (.int .i64 (z : Int)) ∧ W.cell? ⟨g, 1, none⟩ = some x.sv) := fun W hW => by
        obtain ⟨q0, q1, q2, q3, q4, q5, q6⟩ := (((hkat.blk).grow H2.out.1).grow hW).k7
        rw [HZ.out.size] at q0
        exact ⟨H2.out.2.1.grow hW, q0, q1⟩
      clear hkat hrow hwb hwc hy hmem hi hfit hbl hz1 hbn hby hbv hbz hB
      go_upto_region 5 with fail
      clear c0 c1 hw2 hg2 d0 d1 d2 d3 d4 d5 d6
      refine wp_region_put (by kernel_rfl) (by kernel_rfl) (by kernel_rfl) (fun b' vs w' => (b' 0 = true → vs 0 = .agg #[.int .i64 (i : Int), .slice (some ⟨b, 0, none⟩) z bc]) ∧ (b' 1 = true → vs 1 = .slice (some ⟨ga, 0, none⟩) m ca) ∧ (b' 2 = true → vs 2 = .pointer (some ⟨g, 0, none⟩)) ∧ (b' 3 = true → vs 3 = .pointer (some ⟨g, 0, none⟩)) ∧ (b' 4 = true → vs 4 = .pointer (some ⟨g, 0, none⟩)) ∧ (b' 5 = true → vs 5 = .int .i64 (z : Int)) ∧ (b' 6 = false → Hid (Below w2.heap.size w2 w' ∧ w2.heap.size ≤ w'.heap.size)) ∧ (b' 6 = true → Hid (OwnB w' 0 (.slice (some ⟨ga, 0, none⟩) m ca) (layB (nowK x.size x.A x.L k) (B.take z) ((i * z : Nat) : Int)) ∧ Keep (fun k => k ≠ ga) w2 w')) ∧ (b' 6 = true → b' 0 = true) ∧ (b' 6 = true → b' 5 = true)) ?_ ?_ ?_
      · intro vs
        exact ⟨fun h => Bool.noConfusion h, fun h => Bool.noConfusion h, fun h => Bool.noConfusion h, fun h => Bool.noConfusion h, fun h => Bool.noConfusion h, fun h => Bool.noConfusion h, fun _ => Lib.hid ⟨below_drewN (Below.refl _ _) 1, Nat.le_refl _⟩, fun h => Bool.noConfusion h, fun h => Bool.noConfusion h, fun h => Bool.noConfusion h⟩
      · rintro b' vs w' i op hi hun hall ⟨h0, h1, h2, h3, h4, h5, hB, hG, hW0, hW5⟩
        have hil : i < 7 := (List.getElem?_eq_some_iff.1 hi).1
        rcases i with _ | _ | _ | _ | _ | _ | _ | i
        · obtain rfl := Option.some.inj hi
          clear hi hil
          have hap : b' 6 = false := by
            cases hz : b' 6 with
            | false => rfl
            | true => exact absurd (hW0 hz) (by rw [hun]; decide)
          have m0 := (HC9.out w' (hB hap).out.1).1.cell 0
          have m1 := (HC9.out w' (hB hap).out.1).1.cell 1
          refine wpOp_step rfl (fun K hK => ?_)
          have HKK := Lib.hid hK; clear hK
          simp only [putAll, Act.put, List.setIfInBounds_toArray, List.set_cons_zero, List.set_cons_succ]
          go_simp
          exact HKK.out _ _ ⟨_, by simp only [putAll, Act.put, List.setIfInBounds_toArray, List.set_cons_zero, List.set_cons_succ] <;> rfl, fun _ => rfl, h1, h2, h3, h4, h5, hB, hG, fun _ => rfl, hW5⟩
        · obtain rfl := Option.some.inj hi
          clear hi hil
          refine wpOp_step rfl (fun K hK => ?_)
          have HKK := Lib.hid hK; clear hK
          simp only [putAll, Act.put, List.setIfInBounds_toArray, List.set_cons_zero, List.set_cons_succ]
          go_simp
          exact HKK.out _ _ ⟨_, by simp only [putAll, Act.put, List.setIfInBounds_toArray, List.set_cons_zero, List.set_cons_succ] <;> rfl, h0, fun _ => rfl, h2, h3, h4, h5, hB, hG, hW0, hW5⟩
        · obtain rfl := Option.some.inj hi
          clear hi hil
          refine wpOp_step rfl (fun K hK => ?_)
          have HKK := Lib.hid hK; clear hK
          simp only [putAll, Act.put, List.setIfInBounds_toArray, List.set_cons_zero, List.set_cons_succ]
          go_simp
          exact HKK.out _ _ ⟨_, by simp only [putAll, Act.put, List.setIfInBounds_toArray, List.set_cons_zero, List.set_cons_succ] <;> rfl, h0, h1, fun _ => rfl, h3, h4, h5, hB, hG, hW0, hW5⟩
        · obtain rfl := Option.some.inj hi
          clear hi hil
          have d2 := h2 (hall ⟨2, .data⟩ (by simp) rfl)
          refine wpOp_step rfl (fun K hK => ?_)
          have HKK := Lib.hid hK; clear hK
          simp only [putAll, Act.put, List.setIfInBounds_toArray, List.set_cons_zero, List.set_cons_succ]
          go_simp
          exact HKK.out _ _ ⟨_, by simp only [putAll, Act.put, List.setIfInBounds_toArray, List.set_cons_zero, List.set_cons_succ, d2] <;> rfl, h0, h1, h2, fun _ => rfl, h4, h5, hB, hG, hW0, hW5⟩
        · obtain rfl := Option.some.inj hi
          clear hi hil
          have d3 := h3 (hall ⟨3, .data⟩ (by simp) rfl)
          refine wpOp_step rfl (fun K hK => ?_)
          have HKK := Lib.hid hK; clear hK
          simp only [putAll, Act.put, List.setIfInBounds_toArray, List.set_cons_zero, List.set_cons_succ]
          go_simp
          exact HKK.out _ _ ⟨_, by simp only [putAll, Act.put, List.setIfInBounds_toArray, List.set_cons_zero, List.set_cons_succ, d3] <;> rfl, h0, h1, h2, h3, fun _ => rfl, h5, hB, hG, hW0, hW5⟩
        · obtain rfl := Option.some.inj hi
          clear hi hil
          have hap : b' 6 = false := by
            cases hz : b' 6 with
            | false => rfl
            | true => exact absurd (hW5 hz) (by rw [hun]; decide)
          have d4 := h4 (hall ⟨4, .data⟩ (by simp) rfl)
          have m2 := (HC9.out w' (hB hap).out.1).2.1
          refine wpOp_step rfl (fun K hK => ?_)
          have HKK := Lib.hid hK; clear hK
          simp only [putAll, Act.put, List.setIfInBounds_toArray, List.set_cons_zero, List.set_cons_succ]
          go_simp
          exact HKK.out _ _ ⟨_, by simp only [putAll, Act.put, List.setIfInBounds_toArray, List.set_cons_zero, List.set_cons_succ, d4] <;> rfl, h0, h1, h2, h3, h4, fun _ => rfl, hB, hG, hW0, fun _ => rfl⟩
        · obtain rfl := Option.some.inj hi
          clear hi hil
          have hap : b' 6 = false := hun
          have d0 := h0 (hall ⟨0, .data⟩ (by simp) rfl)
          have d1 := h1 (hall ⟨1, .data⟩ (by simp) rfl)
          have d5 := h5 (hall ⟨5, .data⟩ (by simp) rfl)
          refine wpOp_step rfl (fun K hK => ?_)
          have HKK := Lib.hid hK; clear hK
          simp only [putAll, Act.put, List.setIfInBounds_toArray, List.set_cons_zero, List.set_cons_succ]
          go_simp
          refine (HLAY.out w' (hB hap).out.1).mono ?_
          rintro e w2' ⟨rfl, ho2, hk2⟩
          exact HKK.out _ _ ⟨_, by simp only [putAll, Act.put, List.setIfInBounds_toArray, List.set_cons_zero, List.set_cons_succ, d0, d1, d5] <;> rfl, h0, h1, h2, h3, h4, h5, fun h => Bool.noConfusion h, fun _ => Lib.hid (⟨ho2, (Keep.of_below (hB hap).out.1).trans hk2⟩), fun _ => hall ⟨0, .data⟩ (by simp) rfl, fun _ => hall ⟨5, .data⟩ (by simp) rfl⟩
        · omega
      · rintro b' vs wz hall ⟨h0, h1, h2, h3, h4, h5, hB, hG, hW0, hW5⟩
        have d0 := h0 (hall 0 (by simp))
        have d1 := h1 (hall 1 (by simp))
        have d2 := h2 (hall 2 (by simp))
        have d3 := h3 (hall 3 (by simp))
        have d4 := h4 (hall 4 (by simp))
        have d5 := h5 (hall 5 (by simp))
        have GG := hG (hall 6 (by simp))
        simp only [putAll, Act.put, List.setIfInBounds_toArray, List.set_cons_zero, List.set_cons_succ, d0, d1, d2, d3, d4, d5]
        clear hall h0 d0 h1 d1 h2 d2 h3 d3 h4 d4 h5 d5 hB hG hW0 hW5
        have HS : Hid (Below w.heap.size w wz ∧ OwnB wz w.heap.size (.slice (some ⟨ga, 0, none⟩) m ca) (nowK x.size x.A x.L (k + 1))) := by
          have hgl := (World.ownsRow.lt hw.out.2 ga rfl).1
          refine ⟨(hw.out.1.trans (H2.out.1.mono hw.out.1.size)).trans ((GG.out.2).below (fun k hk e => by omega) (Nat.le_trans hw.out.1.size H2.out.1.size)), owns_raise (by rw [HNX.out]; have := GG.out.1; rw [HB1.out] at this; exact this) hw.out.2⟩
        clear GG HC9 HLAY
        have hn9 := HZ.out.few
        rw [HN.out] at hn9
        go_wp2_with fail
        exact ⟨⟨k + 1, by omega, by go_num, HS.out⟩, by simp [intOf]; omega⟩
    · have hd : decide ((k : Int) < (n : Int)) = false := by simp; omega
      have hkn : k = n := by omega
      rw [hkn] at hw
      clear hkn
      go_wp2_with fail
      go_ret
      exact ⟨_, rfl, hw.out.2, hw.out.1⟩
end Go.Proofs.Ytohmkmekdnfkoaa
