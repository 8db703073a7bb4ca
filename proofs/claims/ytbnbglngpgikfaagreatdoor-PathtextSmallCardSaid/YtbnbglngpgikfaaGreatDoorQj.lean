/- Layer 15: package pathtext: a line or a curve that is whole. -/
import Derived.Test.YtbnbglngpgikfaaGreatDoorQi
namespace Go.Proofs.YtbnbglngpgikfaaGreatDoor
open Go.RowKit Go.Shelf
attribute [local go_sem] Oper.semAt_some
set_option maxHeartbeats 4000000 in
set_option maxRecDepth 100000 in
theorem finish_line (N g : Nat) (st : Rs) (v : Value) (w : World) (h : RdAt N g st v w) (hl : st.l.length + 1 ≤ 100000) (hk : st.s.k = 2)(hr : Ev N w) : Calls Tryz.prog 62 #[ptrR g] w fun e w' => (∃ u, e = .returned u) ∧ StepQ N g (finR st) v w w' := by
  obtain ⟨va, vc, rfl⟩ := h.row.row.shape
  obtain ⟨vn, hvn⟩ : ∃ n, st.l.length = n := ⟨_, rfl⟩
  rw [hvn] at h
  have H := Lib.hid h
  have HLL := Lib.hid hl
  have HKI := Lib.hid hk
  have HR := Lib.hid hr
  clear hr
  rw [hvn]
  clear h hl hvn hk
  go_enter Tryz.func62, Tryz.ntmps62
  go_upto_region 0 with fail
  refine wp_region_put (by kernel_rfl) (by kernel_rfl) (by kernel_rfl) (fun b' vs w' => (b' 0 = true → vs 0 = ptrR g) ∧ (b' 1 = true → vs 1 = ptrR g) ∧ (b' 2 = true → vs 2 = .pointer (some ⟨g, 0, none⟩)) ∧ (b' 3 = true → vs 3 = .pointer (some ⟨g, 0, none⟩)) ∧ (b' 4 = true → vs 4 = .slice va vn vc) ∧ (b' 5 = true → vs 5 = ptrR g) ∧ (b' 6 = true → vs 6 = .pointer (some ⟨g, 0, none⟩)) ∧ (b' 7 = true → vs 7 = .pointer (some ⟨g, 1, none⟩)) ∧ (b' 8 = true → vs 8 = .agg #[.int .i64 st.s.k, .int .i64 st.s.p.1, .int .i64 st.s.p.2, .int .i64 st.s.q.1, .int .i64 st.s.q.2, .int .i64 st.s.r.1, .int .i64 st.s.r.2]) ∧ (b' 11 = true → vs 11 = .pointer (some ⟨g, 0, none⟩)) ∧ (b' 12 = true → vs 12 = .pointer (some ⟨g, 0, none⟩)) ∧ (b' 9 = true → b' 10 = false → Hid (NewS1 st.s (vs 9) w')) ∧ (b' 10 = false → Hid (RdAt N g st (.slice va vn vc) w' ∧ Below w.heap.size w w')) ∧ (b' 10 = true → b' 13 = false → Hid (∃ w2, AppR N g st (.slice va vn vc) w (vs 10) w2 w')) ∧ (b' 13 = true → Hid (∃ v' w2 w3, AppR N g st (.slice va vn vc) w v' w2 w3 ∧ w' = w3.setCell ⟨g, 0, none⟩ v')) ∧ (b' 9 = true → b' 8 = true) ∧ (b' 10 = true → b' 4 = true) ∧ (b' 10 = true → b' 8 = true) ∧ (b' 10 = true → b' 9 = true) ∧ (b' 13 = true → b' 10 = true)) ?_ ?_ ?_
  · intro vs
    exact ⟨fun h => Bool.noConfusion h, fun h => Bool.noConfusion h, fun h => Bool.noConfusion h, fun h => Bool.noConfusion h, fun h => Bool.noConfusion h, fun h => Bool.noConfusion h, fun h => Bool.noConfusion h, fun h => Bool.noConfusion h, fun h => Bool.noConfusion h, fun h => Bool.noConfusion h, fun h => Bool.noConfusion h, fun h => Bool.noConfusion h, fun _ => Lib.hid (⟨H.out.grow (below_drewN (Below.refl _ _) 1), below_drewN (Below.refl _ _) 1⟩), fun h => Bool.noConfusion h, fun h => Bool.noConfusion h, fun h => Bool.noConfusion h, fun h => Bool.noConfusion h, fun h => Bool.noConfusion h, fun h => Bool.noConfusion h, fun h => Bool.noConfusion h⟩
  · rintro b' vs w' i op hi hun hall ⟨h0, h1, h2, h3, h4, h5, h6, h7, h8, h11, h12, y9, hF, yA, yS, hE9_8, hW4, hW8, hW9, hX⟩
    have hil : i < 14 := (List.getElem?_eq_some_iff.1 hi).1
    rcases i with _ | _ | _ | _ | _ | _ | _ | _ | _ | _ | _ | _ | _ | _ | i
    · obtain rfl := Option.some.inj hi
      clear hi hil
      refine wpOp_step rfl (fun K hK => ?_)
      have HKK := Lib.hid hK; clear hK
      simp only [putAll, Act.put, List.setIfInBounds_toArray, List.set_cons_zero, List.set_cons_succ]
      go_simp
      exact HKK.out _ _ ⟨_, by simp only [putAll, Act.put, List.setIfInBounds_toArray, List.set_cons_zero, List.set_cons_succ] <;> rfl, fun _ => rfl, h1, h2, h3, h4, h5, h6, h7, h8, h11, h12, y9, hF, yA, yS, hE9_8, hW4, hW8, hW9, hX⟩
    · obtain rfl := Option.some.inj hi
      clear hi hil
      refine wpOp_step rfl (fun K hK => ?_)
      have HKK := Lib.hid hK; clear hK
      simp only [putAll, Act.put, List.setIfInBounds_toArray, List.set_cons_zero, List.set_cons_succ]
      go_simp
      exact HKK.out _ _ ⟨_, by simp only [putAll, Act.put, List.setIfInBounds_toArray, List.set_cons_zero, List.set_cons_succ] <;> rfl, h0, fun _ => rfl, h2, h3, h4, h5, h6, h7, h8, h11, h12, y9, hF, yA, yS, hE9_8, hW4, hW8, hW9, hX⟩
    · obtain rfl := Option.some.inj hi
      clear hi hil
      have d1 := h1 (hall ⟨1, .data⟩ (by simp) rfl)
      refine wpOp_step rfl (fun K hK => ?_)
      have HKK := Lib.hid hK; clear hK
      simp only [putAll, Act.put, List.setIfInBounds_toArray, List.set_cons_zero, List.set_cons_succ]
      go_simp
      exact HKK.out _ _ ⟨_, by simp only [putAll, Act.put, List.setIfInBounds_toArray, List.set_cons_zero, List.set_cons_succ, d1] <;> rfl, h0, h1, fun _ => rfl, h3, h4, h5, h6, h7, h8, h11, h12, y9, hF, yA, yS, hE9_8, hW4, hW8, hW9, hX⟩
    · obtain rfl := Option.some.inj hi
      clear hi hil
      have d2 := h2 (hall ⟨2, .data⟩ (by simp) rfl)
      refine wpOp_step rfl (fun K hK => ?_)
      have HKK := Lib.hid hK; clear hK
      simp only [putAll, Act.put, List.setIfInBounds_toArray, List.set_cons_zero, List.set_cons_succ]
      go_simp
      exact HKK.out _ _ ⟨_, by simp only [putAll, Act.put, List.setIfInBounds_toArray, List.set_cons_zero, List.set_cons_succ, d2] <;> rfl, h0, h1, h2, fun _ => rfl, h4, h5, h6, h7, h8, h11, h12, y9, hF, yA, yS, hE9_8, hW4, hW8, hW9, hX⟩
    · obtain rfl := Option.some.inj hi
      clear hi hil
      have d3 := h3 (hall ⟨3, .data⟩ (by simp) rfl)
      have na : b' 10 = false := by
        cases hz : b' 10 with
        | false => rfl
        | true => exact absurd (hW4 hz) (by rw [hun]; decide)
      have hS := hF na
      have k0 := hS.out.1.c0
      refine wpOp_step rfl (fun K hK => ?_)
      have HKK := Lib.hid hK; clear hK
      simp only [putAll, Act.put, List.setIfInBounds_toArray, List.set_cons_zero, List.set_cons_succ]
      go_simp
      exact HKK.out _ _ ⟨_, by simp only [putAll, Act.put, List.setIfInBounds_toArray, List.set_cons_zero, List.set_cons_succ, d3] <;> rfl, h0, h1, h2, h3, fun _ => rfl, h5, h6, h7, h8, h11, h12, y9, hF, yA, yS, hE9_8, fun _ => rfl, hW8, hW9, hX⟩
    · obtain rfl := Option.some.inj hi
      clear hi hil
      refine wpOp_step rfl (fun K hK => ?_)
      have HKK := Lib.hid hK; clear hK
      simp only [putAll, Act.put, List.setIfInBounds_toArray, List.set_cons_zero, List.set_cons_succ]
      go_simp
      exact HKK.out _ _ ⟨_, by simp only [putAll, Act.put, List.setIfInBounds_toArray, List.set_cons_zero, List.set_cons_succ] <;> rfl, h0, h1, h2, h3, h4, fun _ => rfl, h6, h7, h8, h11, h12, y9, hF, yA, yS, hE9_8, hW4, hW8, hW9, hX⟩
    · obtain rfl := Option.some.inj hi
      clear hi hil
      have d5 := h5 (hall ⟨5, .data⟩ (by simp) rfl)
      refine wpOp_step rfl (fun K hK => ?_)
      have HKK := Lib.hid hK; clear hK
      simp only [putAll, Act.put, List.setIfInBounds_toArray, List.set_cons_zero, List.set_cons_succ]
      go_simp
      exact HKK.out _ _ ⟨_, by simp only [putAll, Act.put, List.setIfInBounds_toArray, List.set_cons_zero, List.set_cons_succ, d5] <;> rfl, h0, h1, h2, h3, h4, h5, fun _ => rfl, h7, h8, h11, h12, y9, hF, yA, yS, hE9_8, hW4, hW8, hW9, hX⟩
    · obtain rfl := Option.some.inj hi
      clear hi hil
      have d6 := h6 (hall ⟨6, .data⟩ (by simp) rfl)
      refine wpOp_step rfl (fun K hK => ?_)
      have HKK := Lib.hid hK; clear hK
      simp only [putAll, Act.put, List.setIfInBounds_toArray, List.set_cons_zero, List.set_cons_succ]
      go_simp
      exact HKK.out _ _ ⟨_, by simp only [putAll, Act.put, List.setIfInBounds_toArray, List.set_cons_zero, List.set_cons_succ, d6] <;> rfl, h0, h1, h2, h3, h4, h5, h6, fun _ => rfl, h8, h11, h12, y9, hF, yA, yS, hE9_8, hW4, hW8, hW9, hX⟩
    · obtain rfl := Option.some.inj hi
      clear hi hil
      have d7 := h7 (hall ⟨7, .data⟩ (by simp) rfl)
      have na : b' 10 = false := by
        cases hz : b' 10 with
        | false => rfl
        | true => exact absurd (hW8 hz) (by rw [hun]; decide)
      have hS := hF na
      have k1 := hS.out.1.ck
      have k2 := hS.out.1.c2
      have k3 := hS.out.1.c3
      have k4 := hS.out.1.c4
      have k5 := hS.out.1.c5
      have k6 := hS.out.1.c6
      have k7 := hS.out.1.c7
      refine wpOp_step rfl (fun K hK => ?_)
      have HKK := Lib.hid hK; clear hK
      simp only [putAll, Act.put, List.setIfInBounds_toArray, List.set_cons_zero, List.set_cons_succ]
      go_simp
      exact HKK.out _ _ ⟨_, by simp only [putAll, Act.put, List.setIfInBounds_toArray, List.set_cons_zero, List.set_cons_succ, d7] <;> rfl, h0, h1, h2, h3, h4, h5, h6, h7, fun _ => rfl, h11, h12, y9, hF, yA, yS, fun _ => rfl, hW4, fun _ => rfl, hW9, hX⟩
    · obtain rfl := Option.some.inj hi
      clear hi hil
      have d8 := h8 (hall ⟨8, .data⟩ (by simp) rfl)
      have na : b' 10 = false := by
        cases hz : b' 10 with
        | false => rfl
        | true => exact absurd (hW9 hz) (by rw [hun]; decide)
      have hS := hF na
      refine wpOp_step rfl (fun K hK => ?_)
      have HKK := Lib.hid hK; clear hK
      simp only [putAll, Act.put, List.setIfInBounds_toArray, List.set_cons_zero, List.set_cons_succ]
      go_simp
      have hb2 : Below w'.heap.size w' (w'.alloc (.cells #[.int .i64 st.s.k, .int .i64 st.s.p.1, .int .i64 st.s.p.2, .int .i64 st.s.q.1, .int .i64 st.s.q.2, .int .i64 st.s.r.1, .int .i64 st.s.r.2] 53)) := (Below.refl _ _).alloc (Nat.le_refl _) _
      exact HKK.out _ _ ⟨_, by simp only [putAll, Act.put, List.setIfInBounds_toArray, List.set_cons_zero, List.set_cons_succ, d8] <;> rfl, h0, h1, h2, h3, h4, h5, h6, h7, h8, h11, h12, fun _ _ => Lib.hid (⟨_, rfl, Blk.new _ _ _⟩), fun ha => Lib.hid (⟨hS.out.1.grow hb2, hS.out.2.trans (hb2.mono hS.out.2.size)⟩), fun h => absurd (show b' 10 = true from h) (by rw [na]; decide), fun h => absurd (hX (show b' 13 = true from h)) (by rw [na]; decide), fun _ => hall ⟨8, .data⟩ (by simp) rfl, hW4, hW8, fun _ => rfl, hX⟩
    · obtain rfl := Option.some.inj hi
      clear hi hil
      have d4 := h4 (hall ⟨4, .data⟩ (by simp) rfl)
      have hS := hF hun
      have o9 := y9 (hall ⟨9, .data⟩ (by simp) rfl) hun
      obtain ⟨q, e9, hq⟩ := o9.out
      refine wpOp_step rfl (fun K hK => ?_)
      have HKK := Lib.hid hK; clear hK
      simp only [putAll, Act.put, List.setIfInBounds_toArray, List.set_cons_zero, List.set_cons_succ]
      refine (if_pos rfl).mpr (wp_append_sg _ _ 22 53 rfl Tryz.underlying22 infoS N (.slice va vn vc) st.l st.s d4 hS.out.1.row q e9 (fun j u hj => (hq.cell j).trans hj) HLL.out hS.out.1.hb ?_)
      intro v' w2 ho2 hg2 hm2
      exact HKK.out _ _ ⟨_, by simp only [putAll, Act.put, List.setIfInBounds_toArray, List.set_cons_zero, List.set_cons_succ, d4] <;> rfl, h0, h1, h2, h3, h4, h5, h6, h7, h8, h11, h12, fun _ h => Bool.noConfusion h, fun h => Bool.noConfusion h, fun _ _ => Lib.hid (⟨_, hS.out.1, hS.out.2, hg2, ho2, hm2⟩), fun h => absurd (hX (show b' 13 = true from h)) (by rw [hun]; decide), hE9_8, fun _ => hall ⟨4, .data⟩ (by simp) rfl, fun _ => hE9_8 (hall ⟨9, .data⟩ (by simp) rfl), fun _ => hall ⟨9, .data⟩ (by simp) rfl, fun _ => rfl⟩
    · obtain rfl := Option.some.inj hi
      clear hi hil
      have d0 := h0 (hall ⟨0, .data⟩ (by simp) rfl)
      refine wpOp_step rfl (fun K hK => ?_)
      have HKK := Lib.hid hK; clear hK
      simp only [putAll, Act.put, List.setIfInBounds_toArray, List.set_cons_zero, List.set_cons_succ]
      go_simp
      exact HKK.out _ _ ⟨_, by simp only [putAll, Act.put, List.setIfInBounds_toArray, List.set_cons_zero, List.set_cons_succ, d0] <;> rfl, h0, h1, h2, h3, h4, h5, h6, h7, h8, fun _ => rfl, h12, y9, hF, yA, yS, hE9_8, hW4, hW8, hW9, hX⟩
    · obtain rfl := Option.some.inj hi
      clear hi hil
      have d11 := h11 (hall ⟨11, .data⟩ (by simp) rfl)
      refine wpOp_step rfl (fun K hK => ?_)
      have HKK := Lib.hid hK; clear hK
      simp only [putAll, Act.put, List.setIfInBounds_toArray, List.set_cons_zero, List.set_cons_succ]
      go_simp
      exact HKK.out _ _ ⟨_, by simp only [putAll, Act.put, List.setIfInBounds_toArray, List.set_cons_zero, List.set_cons_succ, d11] <;> rfl, h0, h1, h2, h3, h4, h5, h6, h7, h8, h11, fun _ => rfl, y9, hF, yA, yS, hE9_8, hW4, hW8, hW9, hX⟩
    · obtain rfl := Option.some.inj hi
      clear hi hil
      have d12 := h12 (hall ⟨12, .data⟩ (by simp) rfl)
      have ta : b' 10 = true := hall ⟨10, .data⟩ (by simp) rfl
      have oA := yA ta hun
      have q4 := h4 (hW4 ta)
      have q8 := h8 (hW8 ta)
      obtain ⟨w2, hA⟩ := oA.out
      have k0 := hA.blk.cell 0
      simp only [cellsR, List.getElem?_toArray, List.getElem?_cons_zero] at k0
      have f0 := hA.blk.free 0
      have lg := hA.blk.lt
      have hsl := hA.row.row.shape
      obtain ⟨ra, rc, e10⟩ := hsl
      simp only [List.length_append, List.length_cons, List.length_nil, Nat.zero_add] at e10
      refine wpOp_step rfl (fun K hK => ?_)
      have HKK := Lib.hid hK; clear hK
      simp only [putAll, Act.put, List.setIfInBounds_toArray, List.set_cons_zero, List.set_cons_succ]
      go_simp
      exact HKK.out _ _ ⟨undef, by simp only [putAll, Act.put, List.setIfInBounds_toArray, List.set_cons_zero, List.set_cons_succ, d12, e10, q4, q8] <;> rfl, h0, h1, h2, h3, h4, h5, h6, h7, h8, h11, h12, fun _ h => absurd (show b' 10 = false from h) (by rw [ta]; decide), fun h => absurd (show b' 10 = false from h) (by rw [ta]; decide), fun _ h => Bool.noConfusion h, fun _ => Lib.hid (⟨_, _, _, hA, by rw [e10]⟩), hE9_8, hW4, hW8, hW9, fun _ => ta⟩
    · omega
  · rintro b' vs w2 hall ⟨h0, h1, h2, h3, h4, h5, h6, h7, h8, h11, h12, y9, hF, yA, yS, hE9_8, hW4, hW8, hW9, hX⟩
    have d0 := h0 (hall 0 (by simp))
    have d1 := h1 (hall 1 (by simp))
    have d2 := h2 (hall 2 (by simp))
    have d3 := h3 (hall 3 (by simp))
    have d4 := h4 (hall 4 (by simp))
    have d5 := h5 (hall 5 (by simp))
    have d6 := h6 (hall 6 (by simp))
    have d7 := h7 (hall 7 (by simp))
    have d8 := h8 (hall 8 (by simp))
    have d11 := h11 (hall 11 (by simp))
    have d12 := h12 (hall 12 (by simp))
    have PP := yS (hall 13 (by simp))
    simp only [putAll, Act.put, List.setIfInBounds_toArray, List.set_cons_zero, List.set_cons_succ, d0, d1, d2, d3, d4, d5, d6, d7, d8, d11, d12]
    clear hall h0 d0 h1 d1 h2 d2 h3 d3 h4 d4 h5 d5 h6 d6 h7 d7 h8 d8 h11 d11 h12 d12 y9 hF yA yS hE9_8 hW4 hW8 hW9 hX
    generalize vs 9 = vM9 at *
    generalize vs 10 = vM10 at *
    obtain ⟨v', w2', w3', hA, rfl⟩ := PP.out
    obtain ⟨q1, q2, q3⟩ := hA.done
    have H2 := Lib.hid (And.intro q1 (And.intro q2 q3))
    clear PP hA q1 q2 q3
    generalize w3'.setCell ⟨g, 0, none⟩ v' = w4 at *
    obtain ⟨hA, hkA, hmA⟩ := H2.out
    have HA := Lib.hid hA
    have HQ : Hid (StepQ N g { st with l := st.l ++ [st.s] } (.slice va vn vc) w w4) := ⟨v', hA, hkA, hmA⟩
    have c1 := hA.ck
    have c2 := hA.c2; have c3 := hA.c3; have c4 := hA.c4; have c5 := hA.c5; have c6 := hA.c6; have c7 := hA.c7
    have co := hA.co; have cb1 := hA.cb1; have cb2 := hA.cb2; have ce1 := hA.ce1; have ce2 := hA.ce2
    have f1 := hA.blk.free 1; have f10 := hA.blk.free 10; have f11 := hA.blk.free 11; have f12 := hA.blk.free 12; have f13 := hA.blk.free 13; have f14 := hA.blk.free 14
    have lA := hA.blk.lt
    simp only [HKI.out] at c1
    clear hA hkA hmA
    go_upto_region 3 with fail
    obtain ⟨w5, hw5⟩ : ∃ W, w4.setCell ⟨g, 10, none⟩ (.bool true) = W := ⟨_, rfl⟩
    rw [hw5]
    have HQ5 : Hid (StepQ N g { st with l := st.l ++ [st.s], opn := true } (.slice va vn vc) w w5.drew) := by
      rw [← hw5]
      exact (HQ.out.cell (st2 := { st with l := st.l ++ [st.s], opn := true }) (Keep.setCell (S := fun j => j ≠ g) _ _ _ (by simp)) (fun v2 hb => by simpa [cellsR] using hb.set 10 (.bool true)) rfl).cell (Keep.drew _ _) (fun _ hb => hb) rfl
    have hB5 : Blk w5.drew g 59 (cellsR { st with l := st.l ++ [st.s], opn := true } v') := by
      have hb0 : Blk (w4.setCell ⟨g, 10, none⟩ (.bool true)) g 59 (cellsR { st with l := st.l ++ [st.s], opn := true } v') := by simpa [cellsR] using HA.out.blk.set 10 (.bool true)
      rw [← hw5]
      exact hb0
    clear c1 c2 c3 c4 c5 c6 c7 co cb1 cb2 ce1 ce2 f1 f10 f11 f12 f13 f14 lA hw5
    obtain ⟨D, hD⟩ : ∃ D, w5.drew = D := ⟨_, rfl⟩
    rw [hD] at HQ5 hB5
    have HKD : Hid (w5.drew = D) := hD
    have HBD : Hid (D.cell? ⟨g, 1, none⟩ = some (.int .i64 2) ∧ D.cell? ⟨g, 2, none⟩ = some (.int .i64 st.s.p.1) ∧ D.cell? ⟨g, 3, none⟩ = some (.int .i64 st.s.p.2) ∧ D.cell? ⟨g, 13, none⟩ = some (.int .i64 st.e.1) ∧ D.cell? ⟨g, 14, none⟩ = some (.int .i64 st.e.2) ∧ D.frozen? ⟨g, 13, none⟩ = false ∧ D.frozen? ⟨g, 14, none⟩ = false ∧ g < D.heap.size) := by
      refine ⟨?_, hB5.cell 2, hB5.cell 3, hB5.cell 13, hB5.cell 14, hB5.free 13, hB5.free 14, hB5.lt⟩
      rw [← HKI.out]; exact hB5.cell 1
    have HND : Hid (Calls Tryz.prog 22 #[.int .i64 2] D fun e w' => e = .returned (.int .i64 1) ∧ D = w') := by
      obtain ⟨v3, h1, h2, _⟩ := HQ5.out
      exact need_c 2 D (HR.out D (h2.below (fun j hj => ⟨by have := h1.ge; omega, fun e => by have := (World.ownsRow.lt H.out.row j e).1; omega⟩) H.out.hb)).1
    clear hB5 hD
    refine wp_region_put (by kernel_rfl) (by kernel_rfl) (by kernel_rfl) (fun b' vs w' => (b' 0 = true → vs 0 = ptrR g) ∧ (b' 1 = true → vs 1 = ptrR g) ∧ (b' 2 = true → vs 2 = ptrR g) ∧ (b' 3 = true → vs 3 = .pointer (some ⟨g, 0, none⟩)) ∧ (b' 4 = true → vs 4 = .pointer (some ⟨g, 1, none⟩)) ∧ (b' 5 = true → vs 5 = .pointer (some ⟨g, 1, none⟩)) ∧ (b' 6 = true → vs 6 = .int .i64 2) ∧ (b' 7 = true → vs 7 = .int .i64 1) ∧ (b' 8 = true → vs 8 = .int .i64 0) ∧ (b' 9 = true → vs 9 = .pointer (some ⟨g, 0, none⟩)) ∧ (b' 10 = true → vs 10 = .pointer (some ⟨g, 1, none⟩)) ∧ (b' 11 = true → vs 11 = .pointer (some ⟨g, 2, none⟩)) ∧ (b' 12 = true → vs 12 = .pointer (some ⟨g, 2, none⟩)) ∧ (b' 13 = true → vs 13 = .agg #[.int .i64 st.s.p.1, .int .i64 st.s.p.2]) ∧ (b' 14 = true → vs 14 = .pointer (some ⟨g, 0, none⟩)) ∧ (b' 15 = true → vs 15 = .pointer (some ⟨g, 13, none⟩)) ∧ (b' 16 = false → Hid (w' = D)) ∧ (b' 16 = true → Hid (w' = (D.setCell ⟨g, 13, none⟩ (.int .i64 st.s.p.1)).setCell ⟨g, 14, none⟩ (.int .i64 st.s.p.2))) ∧ (b' 13 = true → b' 12 = true) ∧ (b' 12 = true → b' 8 = true) ∧ (b' 8 = true → b' 7 = true) ∧ (b' 7 = true → b' 6 = true) ∧ (b' 16 = true → b' 6 = true) ∧ (b' 16 = true → b' 7 = true) ∧ (b' 16 = true → b' 13 = true)) ?_ ?_ ?_
    · intro vs
      exact ⟨fun h => Bool.noConfusion h, fun h => Bool.noConfusion h, fun h => Bool.noConfusion h, fun h => Bool.noConfusion h, fun h => Bool.noConfusion h, fun h => Bool.noConfusion h, fun h => Bool.noConfusion h, fun h => Bool.noConfusion h, fun h => Bool.noConfusion h, fun h => Bool.noConfusion h, fun h => Bool.noConfusion h, fun h => Bool.noConfusion h, fun h => Bool.noConfusion h, fun h => Bool.noConfusion h, fun h => Bool.noConfusion h, fun h => Bool.noConfusion h, fun _ => HKD, fun h => Bool.noConfusion h, fun h => Bool.noConfusion h, fun h => Bool.noConfusion h, fun h => Bool.noConfusion h, fun h => Bool.noConfusion h, fun h => Bool.noConfusion h, fun h => Bool.noConfusion h, fun h => Bool.noConfusion h⟩
    · rintro b' vs w' i op hi hun hall ⟨h0, h1, h2, h3, h4, h5, h6, h7, h8, h9, h10, h11, h12, h13, h14, h15, hF, yS, hE13_12, hE12_8, hE8_7, hE7_6, hW6, hW7, hW13⟩
      have hil : i < 17 := (List.getElem?_eq_some_iff.1 hi).1
      rcases i with _ | _ | _ | _ | _ | _ | _ | _ | _ | _ | _ | _ | _ | _ | _ | _ | _ | i
      · obtain rfl := Option.some.inj hi
        clear hi hil
        refine wpOp_step rfl (fun K hK => ?_)
        have HKK := Lib.hid hK; clear hK
        simp only [putAll, Act.put, List.setIfInBounds_toArray, List.set_cons_zero, List.set_cons_succ]
        go_simp
        exact HKK.out _ _ ⟨_, by simp only [putAll, Act.put, List.setIfInBounds_toArray, List.set_cons_zero, List.set_cons_succ] <;> rfl, fun _ => rfl, h1, h2, h3, h4, h5, h6, h7, h8, h9, h10, h11, h12, h13, h14, h15, hF, yS, hE13_12, hE12_8, hE8_7, hE7_6, hW6, hW7, hW13⟩
      · obtain rfl := Option.some.inj hi
        clear hi hil
        refine wpOp_step rfl (fun K hK => ?_)
        have HKK := Lib.hid hK; clear hK
        simp only [putAll, Act.put, List.setIfInBounds_toArray, List.set_cons_zero, List.set_cons_succ]
        go_simp
        exact HKK.out _ _ ⟨_, by simp only [putAll, Act.put, List.setIfInBounds_toArray, List.set_cons_zero, List.set_cons_succ] <;> rfl, h0, fun _ => rfl, h2, h3, h4, h5, h6, h7, h8, h9, h10, h11, h12, h13, h14, h15, hF, yS, hE13_12, hE12_8, hE8_7, hE7_6, hW6, hW7, hW13⟩
      · obtain rfl := Option.some.inj hi
        clear hi hil
        refine wpOp_step rfl (fun K hK => ?_)
        have HKK := Lib.hid hK; clear hK
        simp only [putAll, Act.put, List.setIfInBounds_toArray, List.set_cons_zero, List.set_cons_succ]
        go_simp
        exact HKK.out _ _ ⟨_, by simp only [putAll, Act.put, List.setIfInBounds_toArray, List.set_cons_zero, List.set_cons_succ] <;> rfl, h0, h1, fun _ => rfl, h3, h4, h5, h6, h7, h8, h9, h10, h11, h12, h13, h14, h15, hF, yS, hE13_12, hE12_8, hE8_7, hE7_6, hW6, hW7, hW13⟩
      · obtain rfl := Option.some.inj hi
        clear hi hil
        have d2 := h2 (hall ⟨2, .data⟩ (by simp) rfl)
        refine wpOp_step rfl (fun K hK => ?_)
        have HKK := Lib.hid hK; clear hK
        simp only [putAll, Act.put, List.setIfInBounds_toArray, List.set_cons_zero, List.set_cons_succ]
        go_simp
        exact HKK.out _ _ ⟨_, by simp only [putAll, Act.put, List.setIfInBounds_toArray, List.set_cons_zero, List.set_cons_succ, d2] <;> rfl, h0, h1, h2, fun _ => rfl, h4, h5, h6, h7, h8, h9, h10, h11, h12, h13, h14, h15, hF, yS, hE13_12, hE12_8, hE8_7, hE7_6, hW6, hW7, hW13⟩
      · obtain rfl := Option.some.inj hi
        clear hi hil
        have d3 := h3 (hall ⟨3, .data⟩ (by simp) rfl)
        refine wpOp_step rfl (fun K hK => ?_)
        have HKK := Lib.hid hK; clear hK
        simp only [putAll, Act.put, List.setIfInBounds_toArray, List.set_cons_zero, List.set_cons_succ]
        go_simp
        exact HKK.out _ _ ⟨_, by simp only [putAll, Act.put, List.setIfInBounds_toArray, List.set_cons_zero, List.set_cons_succ, d3] <;> rfl, h0, h1, h2, h3, fun _ => rfl, h5, h6, h7, h8, h9, h10, h11, h12, h13, h14, h15, hF, yS, hE13_12, hE12_8, hE8_7, hE7_6, hW6, hW7, hW13⟩
      · obtain rfl := Option.some.inj hi
        clear hi hil
        have d4 := h4 (hall ⟨4, .data⟩ (by simp) rfl)
        refine wpOp_step rfl (fun K hK => ?_)
        have HKK := Lib.hid hK; clear hK
        simp only [putAll, Act.put, List.setIfInBounds_toArray, List.set_cons_zero, List.set_cons_succ]
        go_simp
        exact HKK.out _ _ ⟨_, by simp only [putAll, Act.put, List.setIfInBounds_toArray, List.set_cons_zero, List.set_cons_succ, d4] <;> rfl, h0, h1, h2, h3, h4, fun _ => rfl, h6, h7, h8, h9, h10, h11, h12, h13, h14, h15, hF, yS, hE13_12, hE12_8, hE8_7, hE7_6, hW6, hW7, hW13⟩
      · obtain rfl := Option.some.inj hi
        clear hi hil
        have d5 := h5 (hall ⟨5, .data⟩ (by simp) rfl)
        have na : b' 16 = false := by
          cases hz : b' 16 with
          | false => rfl
          | true => exact absurd (hW6 hz) (by rw [hun]; decide)
        have hS := (hF na).out
        subst hS
        have k1 := HBD.out.1
        refine wpOp_step rfl (fun K hK => ?_)
        have HKK := Lib.hid hK; clear hK
        simp only [putAll, Act.put, List.setIfInBounds_toArray, List.set_cons_zero, List.set_cons_succ]
        go_simp
        exact HKK.out _ _ ⟨_, by simp only [putAll, Act.put, List.setIfInBounds_toArray, List.set_cons_zero, List.set_cons_succ, d5] <;> rfl, h0, h1, h2, h3, h4, h5, fun _ => rfl, h7, h8, h9, h10, h11, h12, h13, h14, h15, hF, yS, hE13_12, hE12_8, hE8_7, fun _ => rfl, fun _ => rfl, hW7, hW13⟩
      · obtain rfl := Option.some.inj hi
        clear hi hil
        have d6 := h6 (hall ⟨6, .data⟩ (by simp) rfl)
        have na : b' 16 = false := by
          cases hz : b' 16 with
          | false => rfl
          | true => exact absurd (hW7 hz) (by rw [hun]; decide)
        have hS := (hF na).out
        subst hS
        refine wpOp_step rfl (fun K hK => ?_)
        have HKK := Lib.hid hK; clear hK
        simp only [putAll, Act.put, List.setIfInBounds_toArray, List.set_cons_zero, List.set_cons_succ]
        go_simp
        refine (HND.out).mono ?_
        rintro e w9 ⟨rfl, rfl⟩
        exact HKK.out _ _ ⟨_, by simp only [putAll, Act.put, List.setIfInBounds_toArray, List.set_cons_zero, List.set_cons_succ, d6] <;> rfl, h0, h1, h2, h3, h4, h5, h6, fun _ => rfl, h8, h9, h10, h11, h12, h13, h14, h15, hF, yS, hE13_12, hE12_8, fun _ => rfl, fun _ => hall ⟨6, .data⟩ (by simp) rfl, hW6, fun _ => rfl, hW13⟩
      · obtain rfl := Option.some.inj hi
        clear hi hil
        have d7 := h7 (hall ⟨7, .data⟩ (by simp) rfl)
        refine wpOp_step rfl (fun K hK => ?_)
        have HKK := Lib.hid hK; clear hK
        simp only [putAll, Act.put, List.setIfInBounds_toArray, List.set_cons_zero, List.set_cons_succ]
        go_simp
        exact HKK.out _ _ ⟨_, by simp only [putAll, Act.put, List.setIfInBounds_toArray, List.set_cons_zero, List.set_cons_succ, d7] <;> rfl, h0, h1, h2, h3, h4, h5, h6, h7, fun _ => rfl, h9, h10, h11, h12, h13, h14, h15, hF, yS, hE13_12, fun _ => rfl, fun _ => hall ⟨7, .data⟩ (by simp) rfl, hE7_6, hW6, hW7, hW13⟩
      · obtain rfl := Option.some.inj hi
        clear hi hil
        have d1 := h1 (hall ⟨1, .data⟩ (by simp) rfl)
        refine wpOp_step rfl (fun K hK => ?_)
        have HKK := Lib.hid hK; clear hK
        simp only [putAll, Act.put, List.setIfInBounds_toArray, List.set_cons_zero, List.set_cons_succ]
        go_simp
        exact HKK.out _ _ ⟨_, by simp only [putAll, Act.put, List.setIfInBounds_toArray, List.set_cons_zero, List.set_cons_succ, d1] <;> rfl, h0, h1, h2, h3, h4, h5, h6, h7, h8, fun _ => rfl, h10, h11, h12, h13, h14, h15, hF, yS, hE13_12, hE12_8, hE8_7, hE7_6, hW6, hW7, hW13⟩
      · obtain rfl := Option.some.inj hi
        clear hi hil
        have d9 := h9 (hall ⟨9, .data⟩ (by simp) rfl)
        refine wpOp_step rfl (fun K hK => ?_)
        have HKK := Lib.hid hK; clear hK
        simp only [putAll, Act.put, List.setIfInBounds_toArray, List.set_cons_zero, List.set_cons_succ]
        go_simp
        exact HKK.out _ _ ⟨_, by simp only [putAll, Act.put, List.setIfInBounds_toArray, List.set_cons_zero, List.set_cons_succ, d9] <;> rfl, h0, h1, h2, h3, h4, h5, h6, h7, h8, h9, fun _ => rfl, h11, h12, h13, h14, h15, hF, yS, hE13_12, hE12_8, hE8_7, hE7_6, hW6, hW7, hW13⟩
      · obtain rfl := Option.some.inj hi
        clear hi hil
        have d10 := h10 (hall ⟨10, .data⟩ (by simp) rfl)
        refine wpOp_step rfl (fun K hK => ?_)
        have HKK := Lib.hid hK; clear hK
        simp only [putAll, Act.put, List.setIfInBounds_toArray, List.set_cons_zero, List.set_cons_succ]
        go_simp
        exact HKK.out _ _ ⟨_, by simp only [putAll, Act.put, List.setIfInBounds_toArray, List.set_cons_zero, List.set_cons_succ, d10] <;> rfl, h0, h1, h2, h3, h4, h5, h6, h7, h8, h9, h10, fun _ => rfl, h12, h13, h14, h15, hF, yS, hE13_12, hE12_8, hE8_7, hE7_6, hW6, hW7, hW13⟩
      · obtain rfl := Option.some.inj hi
        clear hi hil
        have d8 := h8 (hall ⟨8, .data⟩ (by simp) rfl)
        have d11 := h11 (hall ⟨11, .data⟩ (by simp) rfl)
        refine wpOp_step rfl (fun K hK => ?_)
        have HKK := Lib.hid hK; clear hK
        simp only [putAll, Act.put, List.setIfInBounds_toArray, List.set_cons_zero, List.set_cons_succ]
        go_simp
        exact HKK.out _ _ ⟨_, by simp only [putAll, Act.put, List.setIfInBounds_toArray, List.set_cons_zero, List.set_cons_succ, d8, d11] <;> rfl, h0, h1, h2, h3, h4, h5, h6, h7, h8, h9, h10, h11, fun _ => rfl, h13, h14, h15, hF, yS, fun _ => rfl, fun _ => hall ⟨8, .data⟩ (by simp) rfl, hE8_7, hE7_6, hW6, hW7, hW13⟩
      · obtain rfl := Option.some.inj hi
        clear hi hil
        have d12 := h12 (hall ⟨12, .data⟩ (by simp) rfl)
        have na : b' 16 = false := by
          cases hz : b' 16 with
          | false => rfl
          | true => exact absurd (hW13 hz) (by rw [hun]; decide)
        have hS := (hF na).out
        subst hS
        have k2 := HBD.out.2.1
        have k3 := HBD.out.2.2.1
        refine wpOp_step rfl (fun K hK => ?_)
        have HKK := Lib.hid hK; clear hK
        simp only [putAll, Act.put, List.setIfInBounds_toArray, List.set_cons_zero, List.set_cons_succ]
        go_simp
        exact HKK.out _ _ ⟨_, by simp only [putAll, Act.put, List.setIfInBounds_toArray, List.set_cons_zero, List.set_cons_succ, d12] <;> rfl, h0, h1, h2, h3, h4, h5, h6, h7, h8, h9, h10, h11, h12, fun _ => rfl, h14, h15, hF, yS, fun _ => hall ⟨12, .data⟩ (by simp) rfl, hE12_8, hE8_7, hE7_6, hW6, hW7, fun _ => rfl⟩
      · obtain rfl := Option.some.inj hi
        clear hi hil
        have d0 := h0 (hall ⟨0, .data⟩ (by simp) rfl)
        refine wpOp_step rfl (fun K hK => ?_)
        have HKK := Lib.hid hK; clear hK
        simp only [putAll, Act.put, List.setIfInBounds_toArray, List.set_cons_zero, List.set_cons_succ]
        go_simp
        exact HKK.out _ _ ⟨_, by simp only [putAll, Act.put, List.setIfInBounds_toArray, List.set_cons_zero, List.set_cons_succ, d0] <;> rfl, h0, h1, h2, h3, h4, h5, h6, h7, h8, h9, h10, h11, h12, h13, fun _ => rfl, h15, hF, yS, hE13_12, hE12_8, hE8_7, hE7_6, hW6, hW7, hW13⟩
      · obtain rfl := Option.some.inj hi
        clear hi hil
        have d14 := h14 (hall ⟨14, .data⟩ (by simp) rfl)
        refine wpOp_step rfl (fun K hK => ?_)
        have HKK := Lib.hid hK; clear hK
        simp only [putAll, Act.put, List.setIfInBounds_toArray, List.set_cons_zero, List.set_cons_succ]
        go_simp
        exact HKK.out _ _ ⟨_, by simp only [putAll, Act.put, List.setIfInBounds_toArray, List.set_cons_zero, List.set_cons_succ, d14] <;> rfl, h0, h1, h2, h3, h4, h5, h6, h7, h8, h9, h10, h11, h12, h13, h14, fun _ => rfl, hF, yS, hE13_12, hE12_8, hE8_7, hE7_6, hW6, hW7, hW13⟩
      · obtain rfl := Option.some.inj hi
        clear hi hil
        have d13 := h13 (hall ⟨13, .data⟩ (by simp) rfl)
        have d15 := h15 (hall ⟨15, .data⟩ (by simp) rfl)
        have hS := (hF hun).out
        subst hS
        have c13 := HBD.out.2.2.2.1
        have c14 := HBD.out.2.2.2.2.1
        have f13 := HBD.out.2.2.2.2.2.1
        have f14 := HBD.out.2.2.2.2.2.2.1
        have lD := HBD.out.2.2.2.2.2.2.2
        refine wpOp_step rfl (fun K hK => ?_)
        have HKK := Lib.hid hK; clear hK
        simp only [putAll, Act.put, List.setIfInBounds_toArray, List.set_cons_zero, List.set_cons_succ]
        go_simp
        exact HKK.out _ _ ⟨undef, by simp only [putAll, Act.put, List.setIfInBounds_toArray, List.set_cons_zero, List.set_cons_succ, d13, d15] <;> rfl, h0, h1, h2, h3, h4, h5, h6, h7, h8, h9, h10, h11, h12, h13, h14, h15, fun h => Bool.noConfusion h, fun _ => Lib.hid (rfl), hE13_12, hE12_8, hE8_7, hE7_6, fun _ => hE7_6 (hE8_7 (hE12_8 (hE13_12 (hall ⟨13, .data⟩ (by simp) rfl)))), fun _ => hE8_7 (hE12_8 (hE13_12 (hall ⟨13, .data⟩ (by simp) rfl))), fun _ => hall ⟨13, .data⟩ (by simp) rfl⟩
      · omega
    · rintro b' vs w2 hall ⟨h0, h1, h2, h3, h4, h5, h6, h7, h8, h9, h10, h11, h12, h13, h14, h15, hF, yS, hE13_12, hE12_8, hE8_7, hE7_6, hW6, hW7, hW13⟩
      have d0 := h0 (hall 0 (by simp))
      have d1 := h1 (hall 1 (by simp))
      have d2 := h2 (hall 2 (by simp))
      have d3 := h3 (hall 3 (by simp))
      have d4 := h4 (hall 4 (by simp))
      have d5 := h5 (hall 5 (by simp))
      have d6 := h6 (hall 6 (by simp))
      have d7 := h7 (hall 7 (by simp))
      have d8 := h8 (hall 8 (by simp))
      have d9 := h9 (hall 9 (by simp))
      have d10 := h10 (hall 10 (by simp))
      have d11 := h11 (hall 11 (by simp))
      have d12 := h12 (hall 12 (by simp))
      have d13 := h13 (hall 13 (by simp))
      have d14 := h14 (hall 14 (by simp))
      have d15 := h15 (hall 15 (by simp))
      have PP := (yS (hall 16 (by simp))).out
      simp only [putAll, Act.put, List.setIfInBounds_toArray, List.set_cons_zero, List.set_cons_succ, d0, d1, d2, d3, d4, d5, d6, d7, d8, d9, d10, d11, d12, d13, d14, d15]
      clear hall h0 d0 h1 d1 h2 d2 h3 d3 h4 d4 h5 d5 h6 d6 h7 d7 h8 d8 h9 d9 h10 d10 h11 d11 h12 d12 h13 d13 h14 d14 h15 d15 hF yS hE13_12 hE12_8 hE8_7 hE7_6 hW6 hW7 hW13
      subst PP
      go_wp2_with fail
      go_end0
      refine ⟨⟨_, rfl⟩, HQ5.out.cell ((Keep.setCell _ _ _ (by simp)).trans (Keep.setCell _ _ _ (by simp))) (fun v2 hb => ?_) ?_⟩
      · have hb2 := (hb.set 13 (.int .i64 st.s.p.1)).set 14 (.int .i64 st.s.p.2)
        unfold finR endP
        rw [if_neg (by rw [HKI.out]; decide), if_neg (by rw [HKI.out]; decide)]
        simpa [cellsR, HKI.out] using hb2
      · unfold finR
        rw [if_neg (by rw [HKI.out]; decide), if_neg (by rw [HKI.out]; decide)]
set_option maxHeartbeats 4000000 in
set_option maxRecDepth 100000 in
theorem finish_quad (N g : Nat) (st : Rs) (v : Value) (w : World) (h : RdAt N g st v w) (hl : st.l.length + 1 ≤ 100000) (hk : st.s.k = 3)(hr : Ev N w) : Calls Tryz.prog 62 #[ptrR g] w fun e w' => (∃ u, e = .returned u) ∧ StepQ N g (finR st) v w w' := by
  obtain ⟨va, vc, rfl⟩ := h.row.row.shape
  obtain ⟨vn, hvn⟩ : ∃ n, st.l.length = n := ⟨_, rfl⟩
  rw [hvn] at h
  have H := Lib.hid h
  have HLL := Lib.hid hl
  have HKI := Lib.hid hk
  have HR := Lib.hid hr
  clear hr
  rw [hvn]
  clear h hl hvn hk
  go_enter Tryz.func62, Tryz.ntmps62
  go_upto_region 0 with fail
  refine wp_region_put (by kernel_rfl) (by kernel_rfl) (by kernel_rfl) (fun b' vs w' => (b' 0 = true → vs 0 = ptrR g) ∧ (b' 1 = true → vs 1 = ptrR g) ∧ (b' 2 = true → vs 2 = .pointer (some ⟨g, 0, none⟩)) ∧ (b' 3 = true → vs 3 = .pointer (some ⟨g, 0, none⟩)) ∧ (b' 4 = true → vs 4 = .slice va vn vc) ∧ (b' 5 = true → vs 5 = ptrR g) ∧ (b' 6 = true → vs 6 = .pointer (some ⟨g, 0, none⟩)) ∧ (b' 7 = true → vs 7 = .pointer (some ⟨g, 1, none⟩)) ∧ (b' 8 = true → vs 8 = .agg #[.int .i64 st.s.k, .int .i64 st.s.p.1, .int .i64 st.s.p.2, .int .i64 st.s.q.1, .int .i64 st.s.q.2, .int .i64 st.s.r.1, .int .i64 st.s.r.2]) ∧ (b' 11 = true → vs 11 = .pointer (some ⟨g, 0, none⟩)) ∧ (b' 12 = true → vs 12 = .pointer (some ⟨g, 0, none⟩)) ∧ (b' 9 = true → b' 10 = false → Hid (NewS1 st.s (vs 9) w')) ∧ (b' 10 = false → Hid (RdAt N g st (.slice va vn vc) w' ∧ Below w.heap.size w w')) ∧ (b' 10 = true → b' 13 = false → Hid (∃ w2, AppR N g st (.slice va vn vc) w (vs 10) w2 w')) ∧ (b' 13 = true → Hid (∃ v' w2 w3, AppR N g st (.slice va vn vc) w v' w2 w3 ∧ w' = w3.setCell ⟨g, 0, none⟩ v')) ∧ (b' 9 = true → b' 8 = true) ∧ (b' 10 = true → b' 4 = true) ∧ (b' 10 = true → b' 8 = true) ∧ (b' 10 = true → b' 9 = true) ∧ (b' 13 = true → b' 10 = true)) ?_ ?_ ?_
  · intro vs
    exact ⟨fun h => Bool.noConfusion h, fun h => Bool.noConfusion h, fun h => Bool.noConfusion h, fun h => Bool.noConfusion h, fun h => Bool.noConfusion h, fun h => Bool.noConfusion h, fun h => Bool.noConfusion h, fun h => Bool.noConfusion h, fun h => Bool.noConfusion h, fun h => Bool.noConfusion h, fun h => Bool.noConfusion h, fun h => Bool.noConfusion h, fun _ => Lib.hid (⟨H.out.grow (below_drewN (Below.refl _ _) 1), below_drewN (Below.refl _ _) 1⟩), fun h => Bool.noConfusion h, fun h => Bool.noConfusion h, fun h => Bool.noConfusion h, fun h => Bool.noConfusion h, fun h => Bool.noConfusion h, fun h => Bool.noConfusion h, fun h => Bool.noConfusion h⟩
  · rintro b' vs w' i op hi hun hall ⟨h0, h1, h2, h3, h4, h5, h6, h7, h8, h11, h12, y9, hF, yA, yS, hE9_8, hW4, hW8, hW9, hX⟩
    have hil : i < 14 := (List.getElem?_eq_some_iff.1 hi).1
    rcases i with _ | _ | _ | _ | _ | _ | _ | _ | _ | _ | _ | _ | _ | _ | i
    · obtain rfl := Option.some.inj hi
      clear hi hil
      refine wpOp_step rfl (fun K hK => ?_)
      have HKK := Lib.hid hK; clear hK
      simp only [putAll, Act.put, List.setIfInBounds_toArray, List.set_cons_zero, List.set_cons_succ]
      go_simp
      exact HKK.out _ _ ⟨_, by simp only [putAll, Act.put, List.setIfInBounds_toArray, List.set_cons_zero, List.set_cons_succ] <;> rfl, fun _ => rfl, h1, h2, h3, h4, h5, h6, h7, h8, h11, h12, y9, hF, yA, yS, hE9_8, hW4, hW8, hW9, hX⟩
    · obtain rfl := Option.some.inj hi
      clear hi hil
      refine wpOp_step rfl (fun K hK => ?_)
      have HKK := Lib.hid hK; clear hK
      simp only [putAll, Act.put, List.setIfInBounds_toArray, List.set_cons_zero, List.set_cons_succ]
      go_simp
      exact HKK.out _ _ ⟨_, by simp only [putAll, Act.put, List.setIfInBounds_toArray, List.set_cons_zero, List.set_cons_succ] <;> rfl, h0, fun _ => rfl, h2, h3, h4, h5, h6, h7, h8, h11, h12, y9, hF, yA, yS, hE9_8, hW4, hW8, hW9, hX⟩
    · obtain rfl := Option.some.inj hi
      clear hi hil
      have d1 := h1 (hall ⟨1, .data⟩ (by simp) rfl)
      refine wpOp_step rfl (fun K hK => ?_)
      have HKK := Lib.hid hK; clear hK
      simp only [putAll, Act.put, List.setIfInBounds_toArray, List.set_cons_zero, List.set_cons_succ]
      go_simp
      exact HKK.out _ _ ⟨_, by simp only [putAll, Act.put, List.setIfInBounds_toArray, List.set_cons_zero, List.set_cons_succ, d1] <;> rfl, h0, h1, fun _ => rfl, h3, h4, h5, h6, h7, h8, h11, h12, y9, hF, yA, yS, hE9_8, hW4, hW8, hW9, hX⟩
    · obtain rfl := Option.some.inj hi
      clear hi hil
      have d2 := h2 (hall ⟨2, .data⟩ (by simp) rfl)
      refine wpOp_step rfl (fun K hK => ?_)
      have HKK := Lib.hid hK; clear hK
      simp only [putAll, Act.put, List.setIfInBounds_toArray, List.set_cons_zero, List.set_cons_succ]
      go_simp
      exact HKK.out _ _ ⟨_, by simp only [putAll, Act.put, List.setIfInBounds_toArray, List.set_cons_zero, List.set_cons_succ, d2] <;> rfl, h0, h1, h2, fun _ => rfl, h4, h5, h6, h7, h8, h11, h12, y9, hF, yA, yS, hE9_8, hW4, hW8, hW9, hX⟩
    · obtain rfl := Option.some.inj hi
      clear hi hil
      have d3 := h3 (hall ⟨3, .data⟩ (by simp) rfl)
      have na : b' 10 = false := by
        cases hz : b' 10 with
        | false => rfl
        | true => exact absurd (hW4 hz) (by rw [hun]; decide)
      have hS := hF na
      have k0 := hS.out.1.c0
      refine wpOp_step rfl (fun K hK => ?_)
      have HKK := Lib.hid hK; clear hK
      simp only [putAll, Act.put, List.setIfInBounds_toArray, List.set_cons_zero, List.set_cons_succ]
      go_simp
      exact HKK.out _ _ ⟨_, by simp only [putAll, Act.put, List.setIfInBounds_toArray, List.set_cons_zero, List.set_cons_succ, d3] <;> rfl, h0, h1, h2, h3, fun _ => rfl, h5, h6, h7, h8, h11, h12, y9, hF, yA, yS, hE9_8, fun _ => rfl, hW8, hW9, hX⟩
    · obtain rfl := Option.some.inj hi
      clear hi hil
      refine wpOp_step rfl (fun K hK => ?_)
      have HKK := Lib.hid hK; clear hK
      simp only [putAll, Act.put, List.setIfInBounds_toArray, List.set_cons_zero, List.set_cons_succ]
      go_simp
      exact HKK.out _ _ ⟨_, by simp only [putAll, Act.put, List.setIfInBounds_toArray, List.set_cons_zero, List.set_cons_succ] <;> rfl, h0, h1, h2, h3, h4, fun _ => rfl, h6, h7, h8, h11, h12, y9, hF, yA, yS, hE9_8, hW4, hW8, hW9, hX⟩
    · obtain rfl := Option.some.inj hi
      clear hi hil
      have d5 := h5 (hall ⟨5, .data⟩ (by simp) rfl)
      refine wpOp_step rfl (fun K hK => ?_)
      have HKK := Lib.hid hK; clear hK
      simp only [putAll, Act.put, List.setIfInBounds_toArray, List.set_cons_zero, List.set_cons_succ]
      go_simp
      exact HKK.out _ _ ⟨_, by simp only [putAll, Act.put, List.setIfInBounds_toArray, List.set_cons_zero, List.set_cons_succ, d5] <;> rfl, h0, h1, h2, h3, h4, h5, fun _ => rfl, h7, h8, h11, h12, y9, hF, yA, yS, hE9_8, hW4, hW8, hW9, hX⟩
    · obtain rfl := Option.some.inj hi
      clear hi hil
      have d6 := h6 (hall ⟨6, .data⟩ (by simp) rfl)
      refine wpOp_step rfl (fun K hK => ?_)
      have HKK := Lib.hid hK; clear hK
      simp only [putAll, Act.put, List.setIfInBounds_toArray, List.set_cons_zero, List.set_cons_succ]
      go_simp
      exact HKK.out _ _ ⟨_, by simp only [putAll, Act.put, List.setIfInBounds_toArray, List.set_cons_zero, List.set_cons_succ, d6] <;> rfl, h0, h1, h2, h3, h4, h5, h6, fun _ => rfl, h8, h11, h12, y9, hF, yA, yS, hE9_8, hW4, hW8, hW9, hX⟩
    · obtain rfl := Option.some.inj hi
      clear hi hil
      have d7 := h7 (hall ⟨7, .data⟩ (by simp) rfl)
      have na : b' 10 = false := by
        cases hz : b' 10 with
        | false => rfl
        | true => exact absurd (hW8 hz) (by rw [hun]; decide)
      have hS := hF na
      have k1 := hS.out.1.ck
      have k2 := hS.out.1.c2
      have k3 := hS.out.1.c3
      have k4 := hS.out.1.c4
      have k5 := hS.out.1.c5
      have k6 := hS.out.1.c6
      have k7 := hS.out.1.c7
      refine wpOp_step rfl (fun K hK => ?_)
      have HKK := Lib.hid hK; clear hK
      simp only [putAll, Act.put, List.setIfInBounds_toArray, List.set_cons_zero, List.set_cons_succ]
      go_simp
      exact HKK.out _ _ ⟨_, by simp only [putAll, Act.put, List.setIfInBounds_toArray, List.set_cons_zero, List.set_cons_succ, d7] <;> rfl, h0, h1, h2, h3, h4, h5, h6, h7, fun _ => rfl, h11, h12, y9, hF, yA, yS, fun _ => rfl, hW4, fun _ => rfl, hW9, hX⟩
    · obtain rfl := Option.some.inj hi
      clear hi hil
      have d8 := h8 (hall ⟨8, .data⟩ (by simp) rfl)
      have na : b' 10 = false := by
        cases hz : b' 10 with
        | false => rfl
        | true => exact absurd (hW9 hz) (by rw [hun]; decide)
      have hS := hF na
      refine wpOp_step rfl (fun K hK => ?_)
      have HKK := Lib.hid hK; clear hK
      simp only [putAll, Act.put, List.setIfInBounds_toArray, List.set_cons_zero, List.set_cons_succ]
      go_simp
      have hb2 : Below w'.heap.size w' (w'.alloc (.cells #[.int .i64 st.s.k, .int .i64 st.s.p.1, .int .i64 st.s.p.2, .int .i64 st.s.q.1, .int .i64 st.s.q.2, .int .i64 st.s.r.1, .int .i64 st.s.r.2] 53)) := (Below.refl _ _).alloc (Nat.le_refl _) _
      exact HKK.out _ _ ⟨_, by simp only [putAll, Act.put, List.setIfInBounds_toArray, List.set_cons_zero, List.set_cons_succ, d8] <;> rfl, h0, h1, h2, h3, h4, h5, h6, h7, h8, h11, h12, fun _ _ => Lib.hid (⟨_, rfl, Blk.new _ _ _⟩), fun ha => Lib.hid (⟨hS.out.1.grow hb2, hS.out.2.trans (hb2.mono hS.out.2.size)⟩), fun h => absurd (show b' 10 = true from h) (by rw [na]; decide), fun h => absurd (hX (show b' 13 = true from h)) (by rw [na]; decide), fun _ => hall ⟨8, .data⟩ (by simp) rfl, hW4, hW8, fun _ => rfl, hX⟩
    · obtain rfl := Option.some.inj hi
      clear hi hil
      have d4 := h4 (hall ⟨4, .data⟩ (by simp) rfl)
      have hS := hF hun
      have o9 := y9 (hall ⟨9, .data⟩ (by simp) rfl) hun
      obtain ⟨q, e9, hq⟩ := o9.out
      refine wpOp_step rfl (fun K hK => ?_)
      have HKK := Lib.hid hK; clear hK
      simp only [putAll, Act.put, List.setIfInBounds_toArray, List.set_cons_zero, List.set_cons_succ]
      refine (if_pos rfl).mpr (wp_append_sg _ _ 22 53 rfl Tryz.underlying22 infoS N (.slice va vn vc) st.l st.s d4 hS.out.1.row q e9 (fun j u hj => (hq.cell j).trans hj) HLL.out hS.out.1.hb ?_)
      intro v' w2 ho2 hg2 hm2
      exact HKK.out _ _ ⟨_, by simp only [putAll, Act.put, List.setIfInBounds_toArray, List.set_cons_zero, List.set_cons_succ, d4] <;> rfl, h0, h1, h2, h3, h4, h5, h6, h7, h8, h11, h12, fun _ h => Bool.noConfusion h, fun h => Bool.noConfusion h, fun _ _ => Lib.hid (⟨_, hS.out.1, hS.out.2, hg2, ho2, hm2⟩), fun h => absurd (hX (show b' 13 = true from h)) (by rw [hun]; decide), hE9_8, fun _ => hall ⟨4, .data⟩ (by simp) rfl, fun _ => hE9_8 (hall ⟨9, .data⟩ (by simp) rfl), fun _ => hall ⟨9, .data⟩ (by simp) rfl, fun _ => rfl⟩
    · obtain rfl := Option.some.inj hi
      clear hi hil
      have d0 := h0 (hall ⟨0, .data⟩ (by simp) rfl)
      refine wpOp_step rfl (fun K hK => ?_)
      have HKK := Lib.hid hK; clear hK
      simp only [putAll, Act.put, List.setIfInBounds_toArray, List.set_cons_zero, List.set_cons_succ]
      go_simp
      exact HKK.out _ _ ⟨_, by simp only [putAll, Act.put, List.setIfInBounds_toArray, List.set_cons_zero, List.set_cons_succ, d0] <;> rfl, h0, h1, h2, h3, h4, h5, h6, h7, h8, fun _ => rfl, h12, y9, hF, yA, yS, hE9_8, hW4, hW8, hW9, hX⟩
    · obtain rfl := Option.some.inj hi
      clear hi hil
      have d11 := h11 (hall ⟨11, .data⟩ (by simp) rfl)
      refine wpOp_step rfl (fun K hK => ?_)
      have HKK := Lib.hid hK; clear hK
      simp only [putAll, Act.put, List.setIfInBounds_toArray, List.set_cons_zero, List.set_cons_succ]
      go_simp
      exact HKK.out _ _ ⟨_, by simp only [putAll, Act.put, List.setIfInBounds_toArray, List.set_cons_zero, List.set_cons_succ, d11] <;> rfl, h0, h1, h2, h3, h4, h5, h6, h7, h8, h11, fun _ => rfl, y9, hF, yA, yS, hE9_8, hW4, hW8, hW9, hX⟩
    · obtain rfl := Option.some.inj hi
      clear hi hil
      have d12 := h12 (hall ⟨12, .data⟩ (by simp) rfl)
      have ta : b' 10 = true := hall ⟨10, .data⟩ (by simp) rfl
      have oA := yA ta hun
      have q4 := h4 (hW4 ta)
      have q8 := h8 (hW8 ta)
      obtain ⟨w2, hA⟩ := oA.out
      have k0 := hA.blk.cell 0
      simp only [cellsR, List.getElem?_toArray, List.getElem?_cons_zero] at k0
      have f0 := hA.blk.free 0
      have lg := hA.blk.lt
      have hsl := hA.row.row.shape
      obtain ⟨ra, rc, e10⟩ := hsl
      simp only [List.length_append, List.length_cons, List.length_nil, Nat.zero_add] at e10
      refine wpOp_step rfl (fun K hK => ?_)
      have HKK := Lib.hid hK; clear hK
      simp only [putAll, Act.put, List.setIfInBounds_toArray, List.set_cons_zero, List.set_cons_succ]
      go_simp
      exact HKK.out _ _ ⟨undef, by simp only [putAll, Act.put, List.setIfInBounds_toArray, List.set_cons_zero, List.set_cons_succ, d12, e10, q4, q8] <;> rfl, h0, h1, h2, h3, h4, h5, h6, h7, h8, h11, h12, fun _ h => absurd (show b' 10 = false from h) (by rw [ta]; decide), fun h => absurd (show b' 10 = false from h) (by rw [ta]; decide), fun _ h => Bool.noConfusion h, fun _ => Lib.hid (⟨_, _, _, hA, by rw [e10]⟩), hE9_8, hW4, hW8, hW9, fun _ => ta⟩
    · omega
  · rintro b' vs w2 hall ⟨h0, h1, h2, h3, h4, h5, h6, h7, h8, h11, h12, y9, hF, yA, yS, hE9_8, hW4, hW8, hW9, hX⟩
    have d0 := h0 (hall 0 (by simp))
    have d1 := h1 (hall 1 (by simp))
    have d2 := h2 (hall 2 (by simp))
    have d3 := h3 (hall 3 (by simp))
    have d4 := h4 (hall 4 (by simp))
    have d5 := h5 (hall 5 (by simp))
    have d6 := h6 (hall 6 (by simp))
    have d7 := h7 (hall 7 (by simp))
    have d8 := h8 (hall 8 (by simp))
    have d11 := h11 (hall 11 (by simp))
    have d12 := h12 (hall 12 (by simp))
    have PP := yS (hall 13 (by simp))
    simp only [putAll, Act.put, List.setIfInBounds_toArray, List.set_cons_zero, List.set_cons_succ, d0, d1, d2, d3, d4, d5, d6, d7, d8, d11, d12]
    clear hall h0 d0 h1 d1 h2 d2 h3 d3 h4 d4 h5 d5 h6 d6 h7 d7 h8 d8 h11 d11 h12 d12 y9 hF yA yS hE9_8 hW4 hW8 hW9 hX
    generalize vs 9 = vM9 at *
    generalize vs 10 = vM10 at *
    obtain ⟨v', w2', w3', hA, rfl⟩ := PP.out
    obtain ⟨q1, q2, q3⟩ := hA.done
    have H2 := Lib.hid (And.intro q1 (And.intro q2 q3))
    clear PP hA q1 q2 q3
    generalize w3'.setCell ⟨g, 0, none⟩ v' = w4 at *
    obtain ⟨hA, hkA, hmA⟩ := H2.out
    have HA := Lib.hid hA
    have HQ : Hid (StepQ N g { st with l := st.l ++ [st.s] } (.slice va vn vc) w w4) := ⟨v', hA, hkA, hmA⟩
    have c1 := hA.ck
    have c2 := hA.c2; have c3 := hA.c3; have c4 := hA.c4; have c5 := hA.c5; have c6 := hA.c6; have c7 := hA.c7
    have co := hA.co; have cb1 := hA.cb1; have cb2 := hA.cb2; have ce1 := hA.ce1; have ce2 := hA.ce2
    have f1 := hA.blk.free 1; have f10 := hA.blk.free 10; have f11 := hA.blk.free 11; have f12 := hA.blk.free 12; have f13 := hA.blk.free 13; have f14 := hA.blk.free 14
    have lA := hA.blk.lt
    simp only [HKI.out] at c1
    clear hA hkA hmA
    go_upto_region 3 with fail
    obtain ⟨w5, hw5⟩ : ∃ W, w4.setCell ⟨g, 10, none⟩ (.bool true) = W := ⟨_, rfl⟩
    rw [hw5]
    have HQ5 : Hid (StepQ N g { st with l := st.l ++ [st.s], opn := true } (.slice va vn vc) w w5.drew) := by
      rw [← hw5]
      exact (HQ.out.cell (st2 := { st with l := st.l ++ [st.s], opn := true }) (Keep.setCell (S := fun j => j ≠ g) _ _ _ (by simp)) (fun v2 hb => by simpa [cellsR] using hb.set 10 (.bool true)) rfl).cell (Keep.drew _ _) (fun _ hb => hb) rfl
    have hB5 : Blk w5.drew g 59 (cellsR { st with l := st.l ++ [st.s], opn := true } v') := by
      have hb0 : Blk (w4.setCell ⟨g, 10, none⟩ (.bool true)) g 59 (cellsR { st with l := st.l ++ [st.s], opn := true } v') := by simpa [cellsR] using HA.out.blk.set 10 (.bool true)
      rw [← hw5]
      exact hb0
    clear c1 c2 c3 c4 c5 c6 c7 co cb1 cb2 ce1 ce2 f1 f10 f11 f12 f13 f14 lA hw5
    obtain ⟨D, hD⟩ : ∃ D, w5.drew = D := ⟨_, rfl⟩
    rw [hD] at HQ5 hB5
    have HKD : Hid (w5.drew = D) := hD
    have HBD : Hid (D.cell? ⟨g, 1, none⟩ = some (.int .i64 3) ∧ D.cell? ⟨g, 4, none⟩ = some (.int .i64 st.s.q.1) ∧ D.cell? ⟨g, 5, none⟩ = some (.int .i64 st.s.q.2) ∧ D.cell? ⟨g, 13, none⟩ = some (.int .i64 st.e.1) ∧ D.cell? ⟨g, 14, none⟩ = some (.int .i64 st.e.2) ∧ D.frozen? ⟨g, 13, none⟩ = false ∧ D.frozen? ⟨g, 14, none⟩ = false ∧ g < D.heap.size) := by
      refine ⟨?_, hB5.cell 4, hB5.cell 5, hB5.cell 13, hB5.cell 14, hB5.free 13, hB5.free 14, hB5.lt⟩
      rw [← HKI.out]; exact hB5.cell 1
    have HND : Hid (Calls Tryz.prog 22 #[.int .i64 3] D fun e w' => e = .returned (.int .i64 2) ∧ D = w') := by
      obtain ⟨v3, h1, h2, _⟩ := HQ5.out
      exact need_c 3 D (HR.out D (h2.below (fun j hj => ⟨by have := h1.ge; omega, fun e => by have := (World.ownsRow.lt H.out.row j e).1; omega⟩) H.out.hb)).1
    clear hB5 hD
    refine wp_region_put (by kernel_rfl) (by kernel_rfl) (by kernel_rfl) (fun b' vs w' => (b' 0 = true → vs 0 = ptrR g) ∧ (b' 1 = true → vs 1 = ptrR g) ∧ (b' 2 = true → vs 2 = ptrR g) ∧ (b' 3 = true → vs 3 = .pointer (some ⟨g, 0, none⟩)) ∧ (b' 4 = true → vs 4 = .pointer (some ⟨g, 1, none⟩)) ∧ (b' 5 = true → vs 5 = .pointer (some ⟨g, 1, none⟩)) ∧ (b' 6 = true → vs 6 = .int .i64 3) ∧ (b' 7 = true → vs 7 = .int .i64 2) ∧ (b' 8 = true → vs 8 = .int .i64 1) ∧ (b' 9 = true → vs 9 = .pointer (some ⟨g, 0, none⟩)) ∧ (b' 10 = true → vs 10 = .pointer (some ⟨g, 1, none⟩)) ∧ (b' 11 = true → vs 11 = .pointer (some ⟨g, 2, none⟩)) ∧ (b' 12 = true → vs 12 = .pointer (some ⟨g, 4, none⟩)) ∧ (b' 13 = true → vs 13 = .agg #[.int .i64 st.s.q.1, .int .i64 st.s.q.2]) ∧ (b' 14 = true → vs 14 = .pointer (some ⟨g, 0, none⟩)) ∧ (b' 15 = true → vs 15 = .pointer (some ⟨g, 13, none⟩)) ∧ (b' 16 = false → Hid (w' = D)) ∧ (b' 16 = true → Hid (w' = (D.setCell ⟨g, 13, none⟩ (.int .i64 st.s.q.1)).setCell ⟨g, 14, none⟩ (.int .i64 st.s.q.2))) ∧ (b' 13 = true → b' 12 = true) ∧ (b' 12 = true → b' 8 = true) ∧ (b' 8 = true → b' 7 = true) ∧ (b' 7 = true → b' 6 = true) ∧ (b' 16 = true → b' 6 = true) ∧ (b' 16 = true → b' 7 = true) ∧ (b' 16 = true → b' 13 = true)) ?_ ?_ ?_
    · intro vs
      exact ⟨fun h => Bool.noConfusion h, fun h => Bool.noConfusion h, fun h => Bool.noConfusion h, fun h => Bool.noConfusion h, fun h => Bool.noConfusion h, fun h => Bool.noConfusion h, fun h => Bool.noConfusion h, fun h => Bool.noConfusion h, fun h => Bool.noConfusion h, fun h => Bool.noConfusion h, fun h => Bool.noConfusion h, fun h => Bool.noConfusion h, fun h => Bool.noConfusion h, fun h => Bool.noConfusion h, fun h => Bool.noConfusion h, fun h => Bool.noConfusion h, fun _ => HKD, fun h => Bool.noConfusion h, fun h => Bool.noConfusion h, fun h => Bool.noConfusion h, fun h => Bool.noConfusion h, fun h => Bool.noConfusion h, fun h => Bool.noConfusion h, fun h => Bool.noConfusion h, fun h => Bool.noConfusion h⟩
    · rintro b' vs w' i op hi hun hall ⟨h0, h1, h2, h3, h4, h5, h6, h7, h8, h9, h10, h11, h12, h13, h14, h15, hF, yS, hE13_12, hE12_8, hE8_7, hE7_6, hW6, hW7, hW13⟩
      have hil : i < 17 := (List.getElem?_eq_some_iff.1 hi).1
      rcases i with _ | _ | _ | _ | _ | _ | _ | _ | _ | _ | _ | _ | _ | _ | _ | _ | _ | i
      · obtain rfl := Option.some.inj hi
        clear hi hil
        refine wpOp_step rfl (fun K hK => ?_)
        have HKK := Lib.hid hK; clear hK
        simp only [putAll, Act.put, List.setIfInBounds_toArray, List.set_cons_zero, List.set_cons_succ]
        go_simp
        exact HKK.out _ _ ⟨_, by simp only [putAll, Act.put, List.setIfInBounds_toArray, List.set_cons_zero, List.set_cons_succ] <;> rfl, fun _ => rfl, h1, h2, h3, h4, h5, h6, h7, h8, h9, h10, h11, h12, h13, h14, h15, hF, yS, hE13_12, hE12_8, hE8_7, hE7_6, hW6, hW7, hW13⟩
      · obtain rfl := Option.some.inj hi
        clear hi hil
        refine wpOp_step rfl (fun K hK => ?_)
        have HKK := Lib.hid hK; clear hK
        simp only [putAll, Act.put, List.setIfInBounds_toArray, List.set_cons_zero, List.set_cons_succ]
        go_simp
        exact HKK.out _ _ ⟨_, by simp only [putAll, Act.put, List.setIfInBounds_toArray, List.set_cons_zero, List.set_cons_succ] <;> rfl, h0, fun _ => rfl, h2, h3, h4, h5, h6, h7, h8, h9, h10, h11, h12, h13, h14, h15, hF, yS, hE13_12, hE12_8, hE8_7, hE7_6, hW6, hW7, hW13⟩
      · obtain rfl := Option.some.inj hi
        clear hi hil
        refine wpOp_step rfl (fun K hK => ?_)
        have HKK := Lib.hid hK; clear hK
        simp only [putAll, Act.put, List.setIfInBounds_toArray, List.set_cons_zero, List.set_cons_succ]
        go_simp
        exact HKK.out _ _ ⟨_, by simp only [putAll, Act.put, List.setIfInBounds_toArray, List.set_cons_zero, List.set_cons_succ] <;> rfl, h0, h1, fun _ => rfl, h3, h4, h5, h6, h7, h8, h9, h10, h11, h12, h13, h14, h15, hF, yS, hE13_12, hE12_8, hE8_7, hE7_6, hW6, hW7, hW13⟩
      · obtain rfl := Option.some.inj hi
        clear hi hil
        have d2 := h2 (hall ⟨2, .data⟩ (by simp) rfl)
        refine wpOp_step rfl (fun K hK => ?_)
        have HKK := Lib.hid hK; clear hK
        simp only [putAll, Act.put, List.setIfInBounds_toArray, List.set_cons_zero, List.set_cons_succ]
        go_simp
        exact HKK.out _ _ ⟨_, by simp only [putAll, Act.put, List.setIfInBounds_toArray, List.set_cons_zero, List.set_cons_succ, d2] <;> rfl, h0, h1, h2, fun _ => rfl, h4, h5, h6, h7, h8, h9, h10, h11, h12, h13, h14, h15, hF, yS, hE13_12, hE12_8, hE8_7, hE7_6, hW6, hW7, hW13⟩
      · obtain rfl := Option.some.inj hi
        clear hi hil
        have d3 := h3 (hall ⟨3, .data⟩ (by simp) rfl)
        refine wpOp_step rfl (fun K hK => ?_)
        have HKK := Lib.hid hK; clear hK
        simp only [putAll, Act.put, List.setIfInBounds_toArray, List.set_cons_zero, List.set_cons_succ]
        go_simp
        exact HKK.out _ _ ⟨_, by simp only [putAll, Act.put, List.setIfInBounds_toArray, List.set_cons_zero, List.set_cons_succ, d3] <;> rfl, h0, h1, h2, h3, fun _ => rfl, h5, h6, h7, h8, h9, h10, h11, h12, h13, h14, h15, hF, yS, hE13_12, hE12_8, hE8_7, hE7_6, hW6, hW7, hW13⟩
      · obtain rfl := Option.some.inj hi
        clear hi hil
        have d4 := h4 (hall ⟨4, .data⟩ (by simp) rfl)
        refine wpOp_step rfl (fun K hK => ?_)
        have HKK := Lib.hid hK; clear hK
        simp only [putAll, Act.put, List.setIfInBounds_toArray, List.set_cons_zero, List.set_cons_succ]
        go_simp
        exact HKK.out _ _ ⟨_, by simp only [putAll, Act.put, List.setIfInBounds_toArray, List.set_cons_zero, List.set_cons_succ, d4] <;> rfl, h0, h1, h2, h3, h4, fun _ => rfl, h6, h7, h8, h9, h10, h11, h12, h13, h14, h15, hF, yS, hE13_12, hE12_8, hE8_7, hE7_6, hW6, hW7, hW13⟩
      · obtain rfl := Option.some.inj hi
        clear hi hil
        have d5 := h5 (hall ⟨5, .data⟩ (by simp) rfl)
        have na : b' 16 = false := by
          cases hz : b' 16 with
          | false => rfl
          | true => exact absurd (hW6 hz) (by rw [hun]; decide)
        have hS := (hF na).out
        subst hS
        have k1 := HBD.out.1
        refine wpOp_step rfl (fun K hK => ?_)
        have HKK := Lib.hid hK; clear hK
        simp only [putAll, Act.put, List.setIfInBounds_toArray, List.set_cons_zero, List.set_cons_succ]
        go_simp
        exact HKK.out _ _ ⟨_, by simp only [putAll, Act.put, List.setIfInBounds_toArray, List.set_cons_zero, List.set_cons_succ, d5] <;> rfl, h0, h1, h2, h3, h4, h5, fun _ => rfl, h7, h8, h9, h10, h11, h12, h13, h14, h15, hF, yS, hE13_12, hE12_8, hE8_7, fun _ => rfl, fun _ => rfl, hW7, hW13⟩
      · obtain rfl := Option.some.inj hi
        clear hi hil
        have d6 := h6 (hall ⟨6, .data⟩ (by simp) rfl)
        have na : b' 16 = false := by
          cases hz : b' 16 with
          | false => rfl
          | true => exact absurd (hW7 hz) (by rw [hun]; decide)
        have hS := (hF na).out
        subst hS
        refine wpOp_step rfl (fun K hK => ?_)
        have HKK := Lib.hid hK; clear hK
        simp only [putAll, Act.put, List.setIfInBounds_toArray, List.set_cons_zero, List.set_cons_succ]
        go_simp
        refine (HND.out).mono ?_
        rintro e w9 ⟨rfl, rfl⟩
        exact HKK.out _ _ ⟨_, by simp only [putAll, Act.put, List.setIfInBounds_toArray, List.set_cons_zero, List.set_cons_succ, d6] <;> rfl, h0, h1, h2, h3, h4, h5, h6, fun _ => rfl, h8, h9, h10, h11, h12, h13, h14, h15, hF, yS, hE13_12, hE12_8, fun _ => rfl, fun _ => hall ⟨6, .data⟩ (by simp) rfl, hW6, fun _ => rfl, hW13⟩
      · obtain rfl := Option.some.inj hi
        clear hi hil
        have d7 := h7 (hall ⟨7, .data⟩ (by simp) rfl)
        refine wpOp_step rfl (fun K hK => ?_)
        have HKK := Lib.hid hK; clear hK
        simp only [putAll, Act.put, List.setIfInBounds_toArray, List.set_cons_zero, List.set_cons_succ]
        go_simp
        exact HKK.out _ _ ⟨_, by simp only [putAll, Act.put, List.setIfInBounds_toArray, List.set_cons_zero, List.set_cons_succ, d7] <;> rfl, h0, h1, h2, h3, h4, h5, h6, h7, fun _ => rfl, h9, h10, h11, h12, h13, h14, h15, hF, yS, hE13_12, fun _ => rfl, fun _ => hall ⟨7, .data⟩ (by simp) rfl, hE7_6, hW6, hW7, hW13⟩
      · obtain rfl := Option.some.inj hi
        clear hi hil
        have d1 := h1 (hall ⟨1, .data⟩ (by simp) rfl)
        refine wpOp_step rfl (fun K hK => ?_)
        have HKK := Lib.hid hK; clear hK
        simp only [putAll, Act.put, List.setIfInBounds_toArray, List.set_cons_zero, List.set_cons_succ]
        go_simp
        exact HKK.out _ _ ⟨_, by simp only [putAll, Act.put, List.setIfInBounds_toArray, List.set_cons_zero, List.set_cons_succ, d1] <;> rfl, h0, h1, h2, h3, h4, h5, h6, h7, h8, fun _ => rfl, h10, h11, h12, h13, h14, h15, hF, yS, hE13_12, hE12_8, hE8_7, hE7_6, hW6, hW7, hW13⟩
      · obtain rfl := Option.some.inj hi
        clear hi hil
        have d9 := h9 (hall ⟨9, .data⟩ (by simp) rfl)
        refine wpOp_step rfl (fun K hK => ?_)
        have HKK := Lib.hid hK; clear hK
        simp only [putAll, Act.put, List.setIfInBounds_toArray, List.set_cons_zero, List.set_cons_succ]
        go_simp
        exact HKK.out _ _ ⟨_, by simp only [putAll, Act.put, List.setIfInBounds_toArray, List.set_cons_zero, List.set_cons_succ, d9] <;> rfl, h0, h1, h2, h3, h4, h5, h6, h7, h8, h9, fun _ => rfl, h11, h12, h13, h14, h15, hF, yS, hE13_12, hE12_8, hE8_7, hE7_6, hW6, hW7, hW13⟩
      · obtain rfl := Option.some.inj hi
        clear hi hil
        have d10 := h10 (hall ⟨10, .data⟩ (by simp) rfl)
        refine wpOp_step rfl (fun K hK => ?_)
        have HKK := Lib.hid hK; clear hK
        simp only [putAll, Act.put, List.setIfInBounds_toArray, List.set_cons_zero, List.set_cons_succ]
        go_simp
        exact HKK.out _ _ ⟨_, by simp only [putAll, Act.put, List.setIfInBounds_toArray, List.set_cons_zero, List.set_cons_succ, d10] <;> rfl, h0, h1, h2, h3, h4, h5, h6, h7, h8, h9, h10, fun _ => rfl, h12, h13, h14, h15, hF, yS, hE13_12, hE12_8, hE8_7, hE7_6, hW6, hW7, hW13⟩
      · obtain rfl := Option.some.inj hi
        clear hi hil
        have d8 := h8 (hall ⟨8, .data⟩ (by simp) rfl)
        have d11 := h11 (hall ⟨11, .data⟩ (by simp) rfl)
        refine wpOp_step rfl (fun K hK => ?_)
        have HKK := Lib.hid hK; clear hK
        simp only [putAll, Act.put, List.setIfInBounds_toArray, List.set_cons_zero, List.set_cons_succ]
        go_simp
        exact HKK.out _ _ ⟨_, by simp only [putAll, Act.put, List.setIfInBounds_toArray, List.set_cons_zero, List.set_cons_succ, d8, d11] <;> rfl, h0, h1, h2, h3, h4, h5, h6, h7, h8, h9, h10, h11, fun _ => rfl, h13, h14, h15, hF, yS, fun _ => rfl, fun _ => hall ⟨8, .data⟩ (by simp) rfl, hE8_7, hE7_6, hW6, hW7, hW13⟩
      · obtain rfl := Option.some.inj hi
        clear hi hil
        have d12 := h12 (hall ⟨12, .data⟩ (by simp) rfl)
        have na : b' 16 = false := by
          cases hz : b' 16 with
          | false => rfl
          | true => exact absurd (hW13 hz) (by rw [hun]; decide)
        have hS := (hF na).out
        subst hS
        have k2 := HBD.out.2.1
        have k3 := HBD.out.2.2.1
        refine wpOp_step rfl (fun K hK => ?_)
        have HKK := Lib.hid hK; clear hK
        simp only [putAll, Act.put, List.setIfInBounds_toArray, List.set_cons_zero, List.set_cons_succ]
        go_simp
        exact HKK.out _ _ ⟨_, by simp only [putAll, Act.put, List.setIfInBounds_toArray, List.set_cons_zero, List.set_cons_succ, d12] <;> rfl, h0, h1, h2, h3, h4, h5, h6, h7, h8, h9, h10, h11, h12, fun _ => rfl, h14, h15, hF, yS, fun _ => hall ⟨12, .data⟩ (by simp) rfl, hE12_8, hE8_7, hE7_6, hW6, hW7, fun _ => rfl⟩
      · obtain rfl := Option.some.inj hi
        clear hi hil
        have d0 := h0 (hall ⟨0, .data⟩ (by simp) rfl)
        refine wpOp_step rfl (fun K hK => ?_)
        have HKK := Lib.hid hK; clear hK
        simp only [putAll, Act.put, List.setIfInBounds_toArray, List.set_cons_zero, List.set_cons_succ]
        go_simp
        exact HKK.out _ _ ⟨_, by simp only [putAll, Act.put, List.setIfInBounds_toArray, List.set_cons_zero, List.set_cons_succ, d0] <;> rfl, h0, h1, h2, h3, h4, h5, h6, h7, h8, h9, h10, h11, h12, h13, fun _ => rfl, h15, hF, yS, hE13_12, hE12_8, hE8_7, hE7_6, hW6, hW7, hW13⟩
      · obtain rfl := Option.some.inj hi
        clear hi hil
        have d14 := h14 (hall ⟨14, .data⟩ (by simp) rfl)
        refine wpOp_step rfl (fun K hK => ?_)
        have HKK := Lib.hid hK; clear hK
        simp only [putAll, Act.put, List.setIfInBounds_toArray, List.set_cons_zero, List.set_cons_succ]
        go_simp
        exact HKK.out _ _ ⟨_, by simp only [putAll, Act.put, List.setIfInBounds_toArray, List.set_cons_zero, List.set_cons_succ, d14] <;> rfl, h0, h1, h2, h3, h4, h5, h6, h7, h8, h9, h10, h11, h12, h13, h14, fun _ => rfl, hF, yS, hE13_12, hE12_8, hE8_7, hE7_6, hW6, hW7, hW13⟩
      · obtain rfl := Option.some.inj hi
        clear hi hil
        have d13 := h13 (hall ⟨13, .data⟩ (by simp) rfl)
        have d15 := h15 (hall ⟨15, .data⟩ (by simp) rfl)
        have hS := (hF hun).out
        subst hS
        have c13 := HBD.out.2.2.2.1
        have c14 := HBD.out.2.2.2.2.1
        have f13 := HBD.out.2.2.2.2.2.1
        have f14 := HBD.out.2.2.2.2.2.2.1
        have lD := HBD.out.2.2.2.2.2.2.2
        refine wpOp_step rfl (fun K hK => ?_)
        have HKK := Lib.hid hK; clear hK
        simp only [putAll, Act.put, List.setIfInBounds_toArray, List.set_cons_zero, List.set_cons_succ]
        go_simp
        exact HKK.out _ _ ⟨undef, by simp only [putAll, Act.put, List.setIfInBounds_toArray, List.set_cons_zero, List.set_cons_succ, d13, d15] <;> rfl, h0, h1, h2, h3, h4, h5, h6, h7, h8, h9, h10, h11, h12, h13, h14, h15, fun h => Bool.noConfusion h, fun _ => Lib.hid (rfl), hE13_12, hE12_8, hE8_7, hE7_6, fun _ => hE7_6 (hE8_7 (hE12_8 (hE13_12 (hall ⟨13, .data⟩ (by simp) rfl)))), fun _ => hE8_7 (hE12_8 (hE13_12 (hall ⟨13, .data⟩ (by simp) rfl))), fun _ => hall ⟨13, .data⟩ (by simp) rfl⟩
      · omega
    · rintro b' vs w2 hall ⟨h0, h1, h2, h3, h4, h5, h6, h7, h8, h9, h10, h11, h12, h13, h14, h15, hF, yS, hE13_12, hE12_8, hE8_7, hE7_6, hW6, hW7, hW13⟩
      have d0 := h0 (hall 0 (by simp))
      have d1 := h1 (hall 1 (by simp))
      have d2 := h2 (hall 2 (by simp))
      have d3 := h3 (hall 3 (by simp))
      have d4 := h4 (hall 4 (by simp))
      have d5 := h5 (hall 5 (by simp))
      have d6 := h6 (hall 6 (by simp))
      have d7 := h7 (hall 7 (by simp))
      have d8 := h8 (hall 8 (by simp))
      have d9 := h9 (hall 9 (by simp))
      have d10 := h10 (hall 10 (by simp))
      have d11 := h11 (hall 11 (by simp))
      have d12 := h12 (hall 12 (by simp))
      have d13 := h13 (hall 13 (by simp))
      have d14 := h14 (hall 14 (by simp))
      have d15 := h15 (hall 15 (by simp))
      have PP := (yS (hall 16 (by simp))).out
      simp only [putAll, Act.put, List.setIfInBounds_toArray, List.set_cons_zero, List.set_cons_succ, d0, d1, d2, d3, d4, d5, d6, d7, d8, d9, d10, d11, d12, d13, d14, d15]
      clear hall h0 d0 h1 d1 h2 d2 h3 d3 h4 d4 h5 d5 h6 d6 h7 d7 h8 d8 h9 d9 h10 d10 h11 d11 h12 d12 h13 d13 h14 d14 h15 d15 hF yS hE13_12 hE12_8 hE8_7 hE7_6 hW6 hW7 hW13
      subst PP
      go_wp2_with fail
      go_end0
      refine ⟨⟨_, rfl⟩, HQ5.out.cell ((Keep.setCell _ _ _ (by simp)).trans (Keep.setCell _ _ _ (by simp))) (fun v2 hb => ?_) ?_⟩
      · have hb2 := (hb.set 13 (.int .i64 st.s.q.1)).set 14 (.int .i64 st.s.q.2)
        unfold finR endP
        rw [if_neg (by rw [HKI.out]; decide), if_neg (by rw [HKI.out]; decide)]
        simpa [cellsR, HKI.out] using hb2
      · unfold finR
        rw [if_neg (by rw [HKI.out]; decide), if_neg (by rw [HKI.out]; decide)]
set_option maxHeartbeats 4000000 in
set_option maxRecDepth 100000 in
theorem finish_cubic (N g : Nat) (st : Rs) (v : Value) (w : World) (h : RdAt N g st v w) (hl : st.l.length + 1 ≤ 100000) (hk : st.s.k = 4)(hr : Ev N w) : Calls Tryz.prog 62 #[ptrR g] w fun e w' => (∃ u, e = .returned u) ∧ StepQ N g (finR st) v w w' := by
  obtain ⟨va, vc, rfl⟩ := h.row.row.shape
  obtain ⟨vn, hvn⟩ : ∃ n, st.l.length = n := ⟨_, rfl⟩
  rw [hvn] at h
  have H := Lib.hid h
  have HLL := Lib.hid hl
  have HKI := Lib.hid hk
  have HR := Lib.hid hr
  clear hr
  rw [hvn]
  clear h hl hvn hk
  go_enter Tryz.func62, Tryz.ntmps62
  go_upto_region 0 with fail
  refine wp_region_put (by kernel_rfl) (by kernel_rfl) (by kernel_rfl) (fun b' vs w' => (b' 0 = true → vs 0 = ptrR g) ∧ (b' 1 = true → vs 1 = ptrR g) ∧ (b' 2 = true → vs 2 = .pointer (some ⟨g, 0, none⟩)) ∧ (b' 3 = true → vs 3 = .pointer (some ⟨g, 0, none⟩)) ∧ (b' 4 = true → vs 4 = .slice va vn vc) ∧ (b' 5 = true → vs 5 = ptrR g) ∧ (b' 6 = true → vs 6 = .pointer (some ⟨g, 0, none⟩)) ∧ (b' 7 = true → vs 7 = .pointer (some ⟨g, 1, none⟩)) ∧ (b' 8 = true → vs 8 = .agg #[.int .i64 st.s.k, .int .i64 st.s.p.1, .int .i64 st.s.p.2, .int .i64 st.s.q.1, .int .i64 st.s.q.2, .int .i64 st.s.r.1, .int .i64 st.s.r.2]) ∧ (b' 11 = true → vs 11 = .pointer (some ⟨g, 0, none⟩)) ∧ (b' 12 = true → vs 12 = .pointer (some ⟨g, 0, none⟩)) ∧ (b' 9 = true → b' 10 = false → Hid (NewS1 st.s (vs 9) w')) ∧ (b' 10 = false → Hid (RdAt N g st (.slice va vn vc) w' ∧ Below w.heap.size w w')) ∧ (b' 10 = true → b' 13 = false → Hid (∃ w2, AppR N g st (.slice va vn vc) w (vs 10) w2 w')) ∧ (b' 13 = true → Hid (∃ v' w2 w3, AppR N g st (.slice va vn vc) w v' w2 w3 ∧ w' = w3.setCell ⟨g, 0, none⟩ v')) ∧ (b' 9 = true → b' 8 = true) ∧ (b' 10 = true → b' 4 = true) ∧ (b' 10 = true → b' 8 = true) ∧ (b' 10 = true → b' 9 = true) ∧ (b' 13 = true → b' 10 = true)) ?_ ?_ ?_
  · intro vs
    exact ⟨fun h => Bool.noConfusion h, fun h => Bool.noConfusion h, fun h => Bool.noConfusion h, fun h => Bool.noConfusion h, fun h => Bool.noConfusion h, fun h => Bool.noConfusion h, fun h => Bool.noConfusion h, fun h => Bool.noConfusion h, fun h => Bool.noConfusion h, fun h => Bool.noConfusion h, fun h => Bool.noConfusion h, fun h => Bool.noConfusion h, fun _ => Lib.hid (⟨H.out.grow (below_drewN (Below.refl _ _) 1), below_drewN (Below.refl _ _) 1⟩), fun h => Bool.noConfusion h, fun h => Bool.noConfusion h, fun h => Bool.noConfusion h, fun h => Bool.noConfusion h, fun h => Bool.noConfusion h, fun h => Bool.noConfusion h, fun h => Bool.noConfusion h⟩
  · rintro b' vs w' i op hi hun hall ⟨h0, h1, h2, h3, h4, h5, h6, h7, h8, h11, h12, y9, hF, yA, yS, hE9_8, hW4, hW8, hW9, hX⟩
    have hil : i < 14 := (List.getElem?_eq_some_iff.1 hi).1
    rcases i with _ | _ | _ | _ | _ | _ | _ | _ | _ | _ | _ | _ | _ | _ | i
    · obtain rfl := Option.some.inj hi
      clear hi hil
      refine wpOp_step rfl (fun K hK => ?_)
      have HKK := Lib.hid hK; clear hK
      simp only [putAll, Act.put, List.setIfInBounds_toArray, List.set_cons_zero, List.set_cons_succ]
      go_simp
      exact HKK.out _ _ ⟨_, by simp only [putAll, Act.put, List.setIfInBounds_toArray, List.set_cons_zero, List.set_cons_succ] <;> rfl, fun _ => rfl, h1, h2, h3, h4, h5, h6, h7, h8, h11, h12, y9, hF, yA, yS, hE9_8, hW4, hW8, hW9, hX⟩
    · obtain rfl := Option.some.inj hi
      clear hi hil
      refine wpOp_step rfl (fun K hK => ?_)
      have HKK := Lib.hid hK; clear hK
      simp only [putAll, Act.put, List.setIfInBounds_toArray, List.set_cons_zero, List.set_cons_succ]
      go_simp
      exact HKK.out _ _ ⟨_, by simp only [putAll, Act.put, List.setIfInBounds_toArray, List.set_cons_zero, List.set_cons_succ] <;> rfl, h0, fun _ => rfl, h2, h3, h4, h5, h6, h7, h8, h11, h12, y9, hF, yA, yS, hE9_8, hW4, hW8, hW9, hX⟩
    · obtain rfl := Option.some.inj hi
      clear hi hil
      have d1 := h1 (hall ⟨1, .data⟩ (by simp) rfl)
      refine wpOp_step rfl (fun K hK => ?_)
      have HKK := Lib.hid hK; clear hK
      simp only [putAll, Act.put, List.setIfInBounds_toArray, List.set_cons_zero, List.set_cons_succ]
      go_simp
      exact HKK.out _ _ ⟨_, by simp only [putAll, Act.put, List.setIfInBounds_toArray, List.set_cons_zero, List.set_cons_succ, d1] <;> rfl, h0, h1, fun _ => rfl, h3, h4, h5, h6, h7, h8, h11, h12, y9, hF, yA, yS, hE9_8, hW4, hW8, hW9, hX⟩
    · obtain rfl := Option.some.inj hi
      clear hi hil
      have d2 := h2 (hall ⟨2, .data⟩ (by simp) rfl)
      refine wpOp_step rfl (fun K hK => ?_)
      have HKK := Lib.hid hK; clear hK
      simp only [putAll, Act.put, List.setIfInBounds_toArray, List.set_cons_zero, List.set_cons_succ]
      go_simp
      exact HKK.out _ _ ⟨_, by simp only [putAll, Act.put, List.setIfInBounds_toArray, List.set_cons_zero, List.set_cons_succ, d2] <;> rfl, h0, h1, h2, fun _ => rfl, h4, h5, h6, h7, h8, h11, h12, y9, hF, yA, yS, hE9_8, hW4, hW8, hW9, hX⟩
    · obtain rfl := Option.some.inj hi
      clear hi hil
      have d3 := h3 (hall ⟨3, .data⟩ (by simp) rfl)
      have na : b' 10 = false := by
        cases hz : b' 10 with
        | false => rfl
        | true => exact absurd (hW4 hz) (by rw [hun]; decide)
      have hS := hF na
      have k0 := hS.out.1.c0
      refine wpOp_step rfl (fun K hK => ?_)
      have HKK := Lib.hid hK; clear hK
      simp only [putAll, Act.put, List.setIfInBounds_toArray, List.set_cons_zero, List.set_cons_succ]
      go_simp
      exact HKK.out _ _ ⟨_, by simp only [putAll, Act.put, List.setIfInBounds_toArray, List.set_cons_zero, List.set_cons_succ, d3] <;> rfl, h0, h1, h2, h3, fun _ => rfl, h5, h6, h7, h8, h11, h12, y9, hF, yA, yS, hE9_8, fun _ => rfl, hW8, hW9, hX⟩
    · obtain rfl := Option.some.inj hi
      clear hi hil
      refine wpOp_step rfl (fun K hK => ?_)
      have HKK := Lib.hid hK; clear hK
      simp only [putAll, Act.put, List.setIfInBounds_toArray, List.set_cons_zero, List.set_cons_succ]
      go_simp
      exact HKK.out _ _ ⟨_, by simp only [putAll, Act.put, List.setIfInBounds_toArray, List.set_cons_zero, List.set_cons_succ] <;> rfl, h0, h1, h2, h3, h4, fun _ => rfl, h6, h7, h8, h11, h12, y9, hF, yA, yS, hE9_8, hW4, hW8, hW9, hX⟩
    · obtain rfl := Option.some.inj hi
      clear hi hil
      have d5 := h5 (hall ⟨5, .data⟩ (by simp) rfl)
      refine wpOp_step rfl (fun K hK => ?_)
      have HKK := Lib.hid hK; clear hK
      simp only [putAll, Act.put, List.setIfInBounds_toArray, List.set_cons_zero, List.set_cons_succ]
      go_simp
      exact HKK.out _ _ ⟨_, by simp only [putAll, Act.put, List.setIfInBounds_toArray, List.set_cons_zero, List.set_cons_succ, d5] <;> rfl, h0, h1, h2, h3, h4, h5, fun _ => rfl, h7, h8, h11, h12, y9, hF, yA, yS, hE9_8, hW4, hW8, hW9, hX⟩
    · obtain rfl := Option.some.inj hi
      clear hi hil
      have d6 := h6 (hall ⟨6, .data⟩ (by simp) rfl)
      refine wpOp_step rfl (fun K hK => ?_)
      have HKK := Lib.hid hK; clear hK
      simp only [putAll, Act.put, List.setIfInBounds_toArray, List.set_cons_zero, List.set_cons_succ]
      go_simp
      exact HKK.out _ _ ⟨_, by simp only [putAll, Act.put, List.setIfInBounds_toArray, List.set_cons_zero, List.set_cons_succ, d6] <;> rfl, h0, h1, h2, h3, h4, h5, h6, fun _ => rfl, h8, h11, h12, y9, hF, yA, yS, hE9_8, hW4, hW8, hW9, hX⟩
    · obtain rfl := Option.some.inj hi
      clear hi hil
      have d7 := h7 (hall ⟨7, .data⟩ (by simp) rfl)
      have na : b' 10 = false := by
        cases hz : b' 10 with
        | false => rfl
        | true => exact absurd (hW8 hz) (by rw [hun]; decide)
      have hS := hF na
      have k1 := hS.out.1.ck
      have k2 := hS.out.1.c2
      have k3 := hS.out.1.c3
      have k4 := hS.out.1.c4
      have k5 := hS.out.1.c5
      have k6 := hS.out.1.c6
      have k7 := hS.out.1.c7
      refine wpOp_step rfl (fun K hK => ?_)
      have HKK := Lib.hid hK; clear hK
      simp only [putAll, Act.put, List.setIfInBounds_toArray, List.set_cons_zero, List.set_cons_succ]
      go_simp
      exact HKK.out _ _ ⟨_, by simp only [putAll, Act.put, List.setIfInBounds_toArray, List.set_cons_zero, List.set_cons_succ, d7] <;> rfl, h0, h1, h2, h3, h4, h5, h6, h7, fun _ => rfl, h11, h12, y9, hF, yA, yS, fun _ => rfl, hW4, fun _ => rfl, hW9, hX⟩
    · obtain rfl := Option.some.inj hi
      clear hi hil
      have d8 := h8 (hall ⟨8, .data⟩ (by simp) rfl)
      have na : b' 10 = false := by
        cases hz : b' 10 with
        | false => rfl
        | true => exact absurd (hW9 hz) (by rw [hun]; decide)
      have hS := hF na
      refine wpOp_step rfl (fun K hK => ?_)
      have HKK := Lib.hid hK; clear hK
      simp only [putAll, Act.put, List.setIfInBounds_toArray, List.set_cons_zero, List.set_cons_succ]
      go_simp
      have hb2 : Below w'.heap.size w' (w'.alloc (.cells #[.int .i64 st.s.k, .int .i64 st.s.p.1, .int .i64 st.s.p.2, .int .i64 st.s.q.1, .int .i64 st.s.q.2, .int .i64 st.s.r.1, .int .i64 st.s.r.2] 53)) := (Below.refl _ _).alloc (Nat.le_refl _) _
      exact HKK.out _ _ ⟨_, by simp only [putAll, Act.put, List.setIfInBounds_toArray, List.set_cons_zero, List.set_cons_succ, d8] <;> rfl, h0, h1, h2, h3, h4, h5, h6, h7, h8, h11, h12, fun _ _ => Lib.hid (⟨_, rfl, Blk.new _ _ _⟩), fun ha => Lib.hid (⟨hS.out.1.grow hb2, hS.out.2.trans (hb2.mono hS.out.2.size)⟩), fun h => absurd (show b' 10 = true from h) (by rw [na]; decide), fun h => absurd (hX (show b' 13 = true from h)) (by rw [na]; decide), fun _ => hall ⟨8, .data⟩ (by simp) rfl, hW4, hW8, fun _ => rfl, hX⟩
    · obtain rfl := Option.some.inj hi
      clear hi hil
      have d4 := h4 (hall ⟨4, .data⟩ (by simp) rfl)
      have hS := hF hun
      have o9 := y9 (hall ⟨9, .data⟩ (by simp) rfl) hun
      obtain ⟨q, e9, hq⟩ := o9.out
      refine wpOp_step rfl (fun K hK => ?_)
      have HKK := Lib.hid hK; clear hK
      simp only [putAll, Act.put, List.setIfInBounds_toArray, List.set_cons_zero, List.set_cons_succ]
      refine (if_pos rfl).mpr (wp_append_sg _ _ 22 53 rfl Tryz.underlying22 infoS N (.slice va vn vc) st.l st.s d4 hS.out.1.row q e9 (fun j u hj => (hq.cell j).trans hj) HLL.out hS.out.1.hb ?_)
      intro v' w2 ho2 hg2 hm2
      exact HKK.out _ _ ⟨_, by simp only [putAll, Act.put, List.setIfInBounds_toArray, List.set_cons_zero, List.set_cons_succ, d4] <;> rfl, h0, h1, h2, h3, h4, h5, h6, h7, h8, h11, h12, fun _ h => Bool.noConfusion h, fun h => Bool.noConfusion h, fun _ _ => Lib.hid (⟨_, hS.out.1, hS.out.2, hg2, ho2, hm2⟩), fun h => absurd (hX (show b' 13 = true from h)) (by rw [hun]; decide), hE9_8, fun _ => hall ⟨4, .data⟩ (by simp) rfl, fun _ => hE9_8 (hall ⟨9, .data⟩ (by simp) rfl), fun _ => hall ⟨9, .data⟩ (by simp) rfl, fun _ => rfl⟩
    · obtain rfl := Option.some.inj hi
      clear hi hil
      have d0 := h0 (hall ⟨0, .data⟩ (by simp) rfl)
      refine wpOp_step rfl (fun K hK => ?_)
      have HKK := Lib.hid hK; clear hK
      simp only [putAll, Act.put, List.setIfInBounds_toArray, List.set_cons_zero, List.set_cons_succ]
      go_simp
      exact HKK.out _ _ ⟨_, by simp only [putAll, Act.put, List.setIfInBounds_toArray, List.set_cons_zero, List.set_cons_succ, d0] <;> rfl, h0, h1, h2, h3, h4, h5, h6, h7, h8, fun _ => rfl, h12, y9, hF, yA, yS, hE9_8, hW4, hW8, hW9, hX⟩
    · obtain rfl := Option.some.inj hi
      clear hi hil
      have d11 := h11 (hall ⟨11, .data⟩ (by simp) rfl)
      refine wpOp_step rfl (fun K hK => ?_)
      have HKK := Lib.hid hK; clear hK
      simp only [putAll, Act.put, List.setIfInBounds_toArray, List.set_cons_zero, List.set_cons_succ]
      go_simp
      exact HKK.out _ _ ⟨_, by simp only [putAll, Act.put, List.setIfInBounds_toArray, List.set_cons_zero, List.set_cons_succ, d11] <;> rfl, h0, h1, h2, h3, h4, h5, h6, h7, h8, h11, fun _ => rfl, y9, hF, yA, yS, hE9_8, hW4, hW8, hW9, hX⟩
    · obtain rfl := Option.some.inj hi
      clear hi hil
      have d12 := h12 (hall ⟨12, .data⟩ (by simp) rfl)
      have ta : b' 10 = true := hall ⟨10, .data⟩ (by simp) rfl
      have oA := yA ta hun
      have q4 := h4 (hW4 ta)
      have q8 := h8 (hW8 ta)
      obtain ⟨w2, hA⟩ := oA.out
      have k0 := hA.blk.cell 0
      simp only [cellsR, List.getElem?_toArray, List.getElem?_cons_zero] at k0
      have f0 := hA.blk.free 0
      have lg := hA.blk.lt
      have hsl := hA.row.row.shape
      obtain ⟨ra, rc, e10⟩ := hsl
      simp only [List.length_append, List.length_cons, List.length_nil, Nat.zero_add] at e10
      refine wpOp_step rfl (fun K hK => ?_)
      have HKK := Lib.hid hK; clear hK
      simp only [putAll, Act.put, List.setIfInBounds_toArray, List.set_cons_zero, List.set_cons_succ]
      go_simp
      exact HKK.out _ _ ⟨undef, by simp only [putAll, Act.put, List.setIfInBounds_toArray, List.set_cons_zero, List.set_cons_succ, d12, e10, q4, q8] <;> rfl, h0, h1, h2, h3, h4, h5, h6, h7, h8, h11, h12, fun _ h => absurd (show b' 10 = false from h) (by rw [ta]; decide), fun h => absurd (show b' 10 = false from h) (by rw [ta]; decide), fun _ h => Bool.noConfusion h, fun _ => Lib.hid (⟨_, _, _, hA, by rw [e10]⟩), hE9_8, hW4, hW8, hW9, fun _ => ta⟩
    · omega
  · rintro b' vs w2 hall ⟨h0, h1, h2, h3, h4, h5, h6, h7, h8, h11, h12, y9, hF, yA, yS, hE9_8, hW4, hW8, hW9, hX⟩
    have d0 := h0 (hall 0 (by simp))
    have d1 := h1 (hall 1 (by simp))
    have d2 := h2 (hall 2 (by simp))
    have d3 := h3 (hall 3 (by simp))
    have d4 := h4 (hall 4 (by simp))
    have d5 := h5 (hall 5 (by simp))
    have d6 := h6 (hall 6 (by simp))
    have d7 := h7 (hall 7 (by simp))
    have d8 := h8 (hall 8 (by simp))
    have d11 := h11 (hall 11 (by simp))
    have d12 := h12 (hall 12 (by simp))
    have PP := yS (hall 13 (by simp))
    simp only [putAll, Act.put, List.setIfInBounds_toArray, List.set_cons_zero, List.set_cons_succ, d0, d1, d2, d3, d4, d5, d6, d7, d8, d11, d12]
    clear hall h0 d0 h1 d1 h2 d2 h3 d3 h4 d4 h5 d5 h6 d6 h7 d7 h8 d8 h11 d11 h12 d12 y9 hF yA yS hE9_8 hW4 hW8 hW9 hX
    generalize vs 9 = vM9 at *
    generalize vs 10 = vM10 at *
    obtain ⟨v', w2', w3', hA, rfl⟩ := PP.out
    obtain ⟨q1, q2, q3⟩ := hA.done
    have H2 := Lib.hid (And.intro q1 (And.intro q2 q3))
    clear PP hA q1 q2 q3
    generalize w3'.setCell ⟨g, 0, none⟩ v' = w4 at *
    obtain ⟨hA, hkA, hmA⟩ := H2.out
    have HA := Lib.hid hA
    have HQ : Hid (StepQ N g { st with l := st.l ++ [st.s] } (.slice va vn vc) w w4) := ⟨v', hA, hkA, hmA⟩
    have c1 := hA.ck
    have c2 := hA.c2; have c3 := hA.c3; have c4 := hA.c4; have c5 := hA.c5; have c6 := hA.c6; have c7 := hA.c7
    have co := hA.co; have cb1 := hA.cb1; have cb2 := hA.cb2; have ce1 := hA.ce1; have ce2 := hA.ce2
    have f1 := hA.blk.free 1; have f10 := hA.blk.free 10; have f11 := hA.blk.free 11; have f12 := hA.blk.free 12; have f13 := hA.blk.free 13; have f14 := hA.blk.free 14
    have lA := hA.blk.lt
    simp only [HKI.out] at c1
    clear hA hkA hmA
    go_upto_region 3 with fail
    obtain ⟨w5, hw5⟩ : ∃ W, w4.setCell ⟨g, 10, none⟩ (.bool true) = W := ⟨_, rfl⟩
    rw [hw5]
    have HQ5 : Hid (StepQ N g { st with l := st.l ++ [st.s], opn := true } (.slice va vn vc) w w5.drew) := by
      rw [← hw5]
      exact (HQ.out.cell (st2 := { st with l := st.l ++ [st.s], opn := true }) (Keep.setCell (S := fun j => j ≠ g) _ _ _ (by simp)) (fun v2 hb => by simpa [cellsR] using hb.set 10 (.bool true)) rfl).cell (Keep.drew _ _) (fun _ hb => hb) rfl
    have hB5 : Blk w5.drew g 59 (cellsR { st with l := st.l ++ [st.s], opn := true } v') := by
      have hb0 : Blk (w4.setCell ⟨g, 10, none⟩ (.bool true)) g 59 (cellsR { st with l := st.l ++ [st.s], opn := true } v') := by simpa [cellsR] using HA.out.blk.set 10 (.bool true)
      rw [← hw5]
      exact hb0
    clear c1 c2 c3 c4 c5 c6 c7 co cb1 cb2 ce1 ce2 f1 f10 f11 f12 f13 f14 lA hw5
    obtain ⟨D, hD⟩ : ∃ D, w5.drew = D := ⟨_, rfl⟩
    rw [hD] at HQ5 hB5
    have HKD : Hid (w5.drew = D) := hD
    have HBD : Hid (D.cell? ⟨g, 1, none⟩ = some (.int .i64 4) ∧ D.cell? ⟨g, 6, none⟩ = some (.int .i64 st.s.r.1) ∧ D.cell? ⟨g, 7, none⟩ = some (.int .i64 st.s.r.2) ∧ D.cell? ⟨g, 13, none⟩ = some (.int .i64 st.e.1) ∧ D.cell? ⟨g, 14, none⟩ = some (.int .i64 st.e.2) ∧ D.frozen? ⟨g, 13, none⟩ = false ∧ D.frozen? ⟨g, 14, none⟩ = false ∧ g < D.heap.size) := by
      refine ⟨?_, hB5.cell 6, hB5.cell 7, hB5.cell 13, hB5.cell 14, hB5.free 13, hB5.free 14, hB5.lt⟩
      rw [← HKI.out]; exact hB5.cell 1
    have HND : Hid (Calls Tryz.prog 22 #[.int .i64 4] D fun e w' => e = .returned (.int .i64 3) ∧ D = w') := by
      obtain ⟨v3, h1, h2, _⟩ := HQ5.out
      exact need_c 4 D (HR.out D (h2.below (fun j hj => ⟨by have := h1.ge; omega, fun e => by have := (World.ownsRow.lt H.out.row j e).1; omega⟩) H.out.hb)).1
    clear hB5 hD
    refine wp_region_put (by kernel_rfl) (by kernel_rfl) (by kernel_rfl) (fun b' vs w' => (b' 0 = true → vs 0 = ptrR g) ∧ (b' 1 = true → vs 1 = ptrR g) ∧ (b' 2 = true → vs 2 = ptrR g) ∧ (b' 3 = true → vs 3 = .pointer (some ⟨g, 0, none⟩)) ∧ (b' 4 = true → vs 4 = .pointer (some ⟨g, 1, none⟩)) ∧ (b' 5 = true → vs 5 = .pointer (some ⟨g, 1, none⟩)) ∧ (b' 6 = true → vs 6 = .int .i64 4) ∧ (b' 7 = true → vs 7 = .int .i64 3) ∧ (b' 8 = true → vs 8 = .int .i64 2) ∧ (b' 9 = true → vs 9 = .pointer (some ⟨g, 0, none⟩)) ∧ (b' 10 = true → vs 10 = .pointer (some ⟨g, 1, none⟩)) ∧ (b' 11 = true → vs 11 = .pointer (some ⟨g, 2, none⟩)) ∧ (b' 12 = true → vs 12 = .pointer (some ⟨g, 6, none⟩)) ∧ (b' 13 = true → vs 13 = .agg #[.int .i64 st.s.r.1, .int .i64 st.s.r.2]) ∧ (b' 14 = true → vs 14 = .pointer (some ⟨g, 0, none⟩)) ∧ (b' 15 = true → vs 15 = .pointer (some ⟨g, 13, none⟩)) ∧ (b' 16 = false → Hid (w' = D)) ∧ (b' 16 = true → Hid (w' = (D.setCell ⟨g, 13, none⟩ (.int .i64 st.s.r.1)).setCell ⟨g, 14, none⟩ (.int .i64 st.s.r.2))) ∧ (b' 13 = true → b' 12 = true) ∧ (b' 12 = true → b' 8 = true) ∧ (b' 8 = true → b' 7 = true) ∧ (b' 7 = true → b' 6 = true) ∧ (b' 16 = true → b' 6 = true) ∧ (b' 16 = true → b' 7 = true) ∧ (b' 16 = true → b' 13 = true)) ?_ ?_ ?_
    · intro vs
      exact ⟨fun h => Bool.noConfusion h, fun h => Bool.noConfusion h, fun h => Bool.noConfusion h, fun h => Bool.noConfusion h, fun h => Bool.noConfusion h, fun h => Bool.noConfusion h, fun h => Bool.noConfusion h, fun h => Bool.noConfusion h, fun h => Bool.noConfusion h, fun h => Bool.noConfusion h, fun h => Bool.noConfusion h, fun h => Bool.noConfusion h, fun h => Bool.noConfusion h, fun h => Bool.noConfusion h, fun h => Bool.noConfusion h, fun h => Bool.noConfusion h, fun _ => HKD, fun h => Bool.noConfusion h, fun h => Bool.noConfusion h, fun h => Bool.noConfusion h, fun h => Bool.noConfusion h, fun h => Bool.noConfusion h, fun h => Bool.noConfusion h, fun h => Bool.noConfusion h, fun h => Bool.noConfusion h⟩
    · rintro b' vs w' i op hi hun hall ⟨h0, h1, h2, h3, h4, h5, h6, h7, h8, h9, h10, h11, h12, h13, h14, h15, hF, yS, hE13_12, hE12_8, hE8_7, hE7_6, hW6, hW7, hW13⟩
      have hil : i < 17 := (List.getElem?_eq_some_iff.1 hi).1
      rcases i with _ | _ | _ | _ | _ | _ | _ | _ | _ | _ | _ | _ | _ | _ | _ | _ | _ | i
      · obtain rfl := Option.some.inj hi
        clear hi hil
        refine wpOp_step rfl (fun K hK => ?_)
        have HKK := Lib.hid hK; clear hK
        simp only [putAll, Act.put, List.setIfInBounds_toArray, List.set_cons_zero, List.set_cons_succ]
        go_simp
        exact HKK.out _ _ ⟨_, by simp only [putAll, Act.put, List.setIfInBounds_toArray, List.set_cons_zero, List.set_cons_succ] <;> rfl, fun _ => rfl, h1, h2, h3, h4, h5, h6, h7, h8, h9, h10, h11, h12, h13, h14, h15, hF, yS, hE13_12, hE12_8, hE8_7, hE7_6, hW6, hW7, hW13⟩
      · obtain rfl := Option.some.inj hi
        clear hi hil
        refine wpOp_step rfl (fun K hK => ?_)
        have HKK := Lib.hid hK; clear hK
        simp only [putAll, Act.put, List.setIfInBounds_toArray, List.set_cons_zero, List.set_cons_succ]
        go_simp
        exact HKK.out _ _ ⟨_, by simp only [putAll, Act.put, List.setIfInBounds_toArray, List.set_cons_zero, List.set_cons_succ] <;> rfl, h0, fun _ => rfl, h2, h3, h4, h5, h6, h7, h8, h9, h10, h11, h12, h13, h14, h15, hF, yS, hE13_12, hE12_8, hE8_7, hE7_6, hW6, hW7, hW13⟩
      · obtain rfl := Option.some.inj hi
        clear hi hil
        refine wpOp_step rfl (fun K hK => ?_)
        have HKK := Lib.hid hK; clear hK
        simp only [putAll, Act.put, List.setIfInBounds_toArray, List.set_cons_zero, List.set_cons_succ]
        go_simp
        exact HKK.out _ _ ⟨_, by simp only [putAll, Act.put, List.setIfInBounds_toArray, List.set_cons_zero, List.set_cons_succ] <;> rfl, h0, h1, fun _ => rfl, h3, h4, h5, h6, h7, h8, h9, h10, h11, h12, h13, h14, h15, hF, yS, hE13_12, hE12_8, hE8_7, hE7_6, hW6, hW7, hW13⟩
      · obtain rfl := Option.some.inj hi
        clear hi hil
        have d2 := h2 (hall ⟨2, .data⟩ (by simp) rfl)
        refine wpOp_step rfl (fun K hK => ?_)
        have HKK := Lib.hid hK; clear hK
        simp only [putAll, Act.put, List.setIfInBounds_toArray, List.set_cons_zero, List.set_cons_succ]
        go_simp
        exact HKK.out _ _ ⟨_, by simp only [putAll, Act.put, List.setIfInBounds_toArray, List.set_cons_zero, List.set_cons_succ, d2] <;> rfl, h0, h1, h2, fun _ => rfl, h4, h5, h6, h7, h8, h9, h10, h11, h12, h13, h14, h15, hF, yS, hE13_12, hE12_8, hE8_7, hE7_6, hW6, hW7, hW13⟩
      · obtain rfl := Option.some.inj hi
        clear hi hil
        have d3 := h3 (hall ⟨3, .data⟩ (by simp) rfl)
        refine wpOp_step rfl (fun K hK => ?_)
        have HKK := Lib.hid hK; clear hK
        simp only [putAll, Act.put, List.setIfInBounds_toArray, List.set_cons_zero, List.set_cons_succ]
        go_simp
        exact HKK.out _ _ ⟨_, by simp only [putAll, Act.put, List.setIfInBounds_toArray, List.set_cons_zero, List.set_cons_succ, d3] <;> rfl, h0, h1, h2, h3, fun _ => rfl, h5, h6, h7, h8, h9, h10, h11, h12, h13, h14, h15, hF, yS, hE13_12, hE12_8, hE8_7, hE7_6, hW6, hW7, hW13⟩
      · obtain rfl := Option.some.inj hi
        clear hi hil
        have d4 := h4 (hall ⟨4, .data⟩ (by simp) rfl)
        refine wpOp_step rfl (fun K hK => ?_)
        have HKK := Lib.hid hK; clear hK
        simp only [putAll, Act.put, List.setIfInBounds_toArray, List.set_cons_zero, List.set_cons_succ]
        go_simp
        exact HKK.out _ _ ⟨_, by simp only [putAll, Act.put, List.setIfInBounds_toArray, List.set_cons_zero, List.set_cons_succ, d4] <;> rfl, h0, h1, h2, h3, h4, fun _ => rfl, h6, h7, h8, h9, h10, h11, h12, h13, h14, h15, hF, yS, hE13_12, hE12_8, hE8_7, hE7_6, hW6, hW7, hW13⟩
      · obtain rfl := Option.some.inj hi
        clear hi hil
        have d5 := h5 (hall ⟨5, .data⟩ (by simp) rfl)
        have na : b' 16 = false := by
          cases hz : b' 16 with
          | false => rfl
          | true => exact absurd (hW6 hz) (by rw [hun]; decide)
        have hS := (hF na).out
        subst hS
        have k1 := HBD.out.1
        refine wpOp_step rfl (fun K hK => ?_)
        have HKK := Lib.hid hK; clear hK
        simp only [putAll, Act.put, List.setIfInBounds_toArray, List.set_cons_zero, List.set_cons_succ]
        go_simp
        exact HKK.out _ _ ⟨_, by simp only [putAll, Act.put, List.setIfInBounds_toArray, List.set_cons_zero, List.set_cons_succ, d5] <;> rfl, h0, h1, h2, h3, h4, h5, fun _ => rfl, h7, h8, h9, h10, h11, h12, h13, h14, h15, hF, yS, hE13_12, hE12_8, hE8_7, fun _ => rfl, fun _ => rfl, hW7, hW13⟩
      · obtain rfl := Option.some.inj hi
        clear hi hil
        have d6 := h6 (hall ⟨6, .data⟩ (by simp) rfl)
        have na : b' 16 = false := by
          cases hz : b' 16 with
          | false => rfl
          | true => exact absurd (hW7 hz) (by rw [hun]; decide)
        have hS := (hF na).out
        subst hS
        refine wpOp_step rfl (fun K hK => ?_)
        have HKK := Lib.hid hK; clear hK
        simp only [putAll, Act.put, List.setIfInBounds_toArray, List.set_cons_zero, List.set_cons_succ]
        go_simp
        refine (HND.out).mono ?_
        rintro e w9 ⟨rfl, rfl⟩
        exact HKK.out _ _ ⟨_, by simp only [putAll, Act.put, List.setIfInBounds_toArray, List.set_cons_zero, List.set_cons_succ, d6] <;> rfl, h0, h1, h2, h3, h4, h5, h6, fun _ => rfl, h8, h9, h10, h11, h12, h13, h14, h15, hF, yS, hE13_12, hE12_8, fun _ => rfl, fun _ => hall ⟨6, .data⟩ (by simp) rfl, hW6, fun _ => rfl, hW13⟩
      · obtain rfl := Option.some.inj hi
        clear hi hil
        have d7 := h7 (hall ⟨7, .data⟩ (by simp) rfl)
        refine wpOp_step rfl (fun K hK => ?_)
        have HKK := Lib.hid hK; clear hK
        simp only [putAll, Act.put, List.setIfInBounds_toArray, List.set_cons_zero, List.set_cons_succ]
        go_simp
        exact HKK.out _ _ ⟨_, by simp only [putAll, Act.put, List.setIfInBounds_toArray, List.set_cons_zero, List.set_cons_succ, d7] <;> rfl, h0, h1, h2, h3, h4, h5, h6, h7, fun _ => rfl, h9, h10, h11, h12, h13, h14, h15, hF, yS, hE13_12, fun _ => rfl, fun _ => hall ⟨7, .data⟩ (by simp) rfl, hE7_6, hW6, hW7, hW13⟩
      · obtain rfl := Option.some.inj hi
        clear hi hil
        have d1 := h1 (hall ⟨1, .data⟩ (by simp) rfl)
        refine wpOp_step rfl (fun K hK => ?_)
        have HKK := Lib.hid hK; clear hK
        simp only [putAll, Act.put, List.setIfInBounds_toArray, List.set_cons_zero, List.set_cons_succ]
        go_simp
        exact HKK.out _ _ ⟨_, by simp only [putAll, Act.put, List.setIfInBounds_toArray, List.set_cons_zero, List.set_cons_succ, d1] <;> rfl, h0, h1, h2, h3, h4, h5, h6, h7, h8, fun _ => rfl, h10, h11, h12, h13, h14, h15, hF, yS, hE13_12, hE12_8, hE8_7, hE7_6, hW6, hW7, hW13⟩
      · obtain rfl := Option.some.inj hi
        clear hi hil
        have d9 := h9 (hall ⟨9, .data⟩ (by simp) rfl)
        refine wpOp_step rfl (fun K hK => ?_)
        have HKK := Lib.hid hK; clear hK
        simp only [putAll, Act.put, List.setIfInBounds_toArray, List.set_cons_zero, List.set_cons_succ]
        go_simp
        exact HKK.out _ _ ⟨_, by simp only [putAll, Act.put, List.setIfInBounds_toArray, List.set_cons_zero, List.set_cons_succ, d9] <;> rfl, h0, h1, h2, h3, h4, h5, h6, h7, h8, h9, fun _ => rfl, h11, h12, h13, h14, h15, hF, yS, hE13_12, hE12_8, hE8_7, hE7_6, hW6, hW7, hW13⟩
      · obtain rfl := Option.some.inj hi
        clear hi hil
        have d10 := h10 (hall ⟨10, .data⟩ (by simp) rfl)
        refine wpOp_step rfl (fun K hK => ?_)
        have HKK := Lib.hid hK; clear hK
        simp only [putAll, Act.put, List.setIfInBounds_toArray, List.set_cons_zero, List.set_cons_succ]
        go_simp
        exact HKK.out _ _ ⟨_, by simp only [putAll, Act.put, List.setIfInBounds_toArray, List.set_cons_zero, List.set_cons_succ, d10] <;> rfl, h0, h1, h2, h3, h4, h5, h6, h7, h8, h9, h10, fun _ => rfl, h12, h13, h14, h15, hF, yS, hE13_12, hE12_8, hE8_7, hE7_6, hW6, hW7, hW13⟩
      · obtain rfl := Option.some.inj hi
        clear hi hil
        have d8 := h8 (hall ⟨8, .data⟩ (by simp) rfl)
        have d11 := h11 (hall ⟨11, .data⟩ (by simp) rfl)
        refine wpOp_step rfl (fun K hK => ?_)
        have HKK := Lib.hid hK; clear hK
        simp only [putAll, Act.put, List.setIfInBounds_toArray, List.set_cons_zero, List.set_cons_succ]
        go_simp
        exact HKK.out _ _ ⟨_, by simp only [putAll, Act.put, List.setIfInBounds_toArray, List.set_cons_zero, List.set_cons_succ, d8, d11] <;> rfl, h0, h1, h2, h3, h4, h5, h6, h7, h8, h9, h10, h11, fun _ => rfl, h13, h14, h15, hF, yS, fun _ => rfl, fun _ => hall ⟨8, .data⟩ (by simp) rfl, hE8_7, hE7_6, hW6, hW7, hW13⟩
      · obtain rfl := Option.some.inj hi
        clear hi hil
        have d12 := h12 (hall ⟨12, .data⟩ (by simp) rfl)
        have na : b' 16 = false := by
          cases hz : b' 16 with
          | false => rfl
          | true => exact absurd (hW13 hz) (by rw [hun]; decide)
        have hS := (hF na).out
        subst hS
        have k2 := HBD.out.2.1
        have k3 := HBD.out.2.2.1
        refine wpOp_step rfl (fun K hK => ?_)
        have HKK := Lib.hid hK; clear hK
        simp only [putAll, Act.put, List.setIfInBounds_toArray, List.set_cons_zero, List.set_cons_succ]
        go_simp
        exact HKK.out _ _ ⟨_, by simp only [putAll, Act.put, List.setIfInBounds_toArray, List.set_cons_zero, List.set_cons_succ, d12] <;> rfl, h0, h1, h2, h3, h4, h5, h6, h7, h8, h9, h10, h11, h12, fun _ => rfl, h14, h15, hF, yS, fun _ => hall ⟨12, .data⟩ (by simp) rfl, hE12_8, hE8_7, hE7_6, hW6, hW7, fun _ => rfl⟩
      · obtain rfl := Option.some.inj hi
        clear hi hil
        have d0 := h0 (hall ⟨0, .data⟩ (by simp) rfl)
        refine wpOp_step rfl (fun K hK => ?_)
        have HKK := Lib.hid hK; clear hK
        simp only [putAll, Act.put, List.setIfInBounds_toArray, List.set_cons_zero, List.set_cons_succ]
        go_simp
        exact HKK.out _ _ ⟨_, by simp only [putAll, Act.put, List.setIfInBounds_toArray, List.set_cons_zero, List.set_cons_succ, d0] <;> rfl, h0, h1, h2, h3, h4, h5, h6, h7, h8, h9, h10, h11, h12, h13, fun _ => rfl, h15, hF, yS, hE13_12, hE12_8, hE8_7, hE7_6, hW6, hW7, hW13⟩
      · obtain rfl := Option.some.inj hi
        clear hi hil
        have d14 := h14 (hall ⟨14, .data⟩ (by simp) rfl)
        refine wpOp_step rfl (fun K hK => ?_)
        have HKK := Lib.hid hK; clear hK
        simp only [putAll, Act.put, List.setIfInBounds_toArray, List.set_cons_zero, List.set_cons_succ]
        go_simp
        exact HKK.out _ _ ⟨_, by simp only [putAll, Act.put, List.setIfInBounds_toArray, List.set_cons_zero, List.set_cons_succ, d14] <;> rfl, h0, h1, h2, h3, h4, h5, h6, h7, h8, h9, h10, h11, h12, h13, h14, fun _ => rfl, hF, yS, hE13_12, hE12_8, hE8_7, hE7_6, hW6, hW7, hW13⟩
      · obtain rfl := Option.some.inj hi
        clear hi hil
        have d13 := h13 (hall ⟨13, .data⟩ (by simp) rfl)
        have d15 := h15 (hall ⟨15, .data⟩ (by simp) rfl)
        have hS := (hF hun).out
        subst hS
        have c13 := HBD.out.2.2.2.1
        have c14 := HBD.out.2.2.2.2.1
        have f13 := HBD.out.2.2.2.2.2.1
        have f14 := HBD.out.2.2.2.2.2.2.1
        have lD := HBD.out.2.2.2.2.2.2.2
        refine wpOp_step rfl (fun K hK => ?_)
        have HKK := Lib.hid hK; clear hK
        simp only [putAll, Act.put, List.setIfInBounds_toArray, List.set_cons_zero, List.set_cons_succ]
        go_simp
        exact HKK.out _ _ ⟨undef, by simp only [putAll, Act.put, List.setIfInBounds_toArray, List.set_cons_zero, List.set_cons_succ, d13, d15] <;> rfl, h0, h1, h2, h3, h4, h5, h6, h7, h8, h9, h10, h11, h12, h13, h14, h15, fun h => Bool.noConfusion h, fun _ => Lib.hid (rfl), hE13_12, hE12_8, hE8_7, hE7_6, fun _ => hE7_6 (hE8_7 (hE12_8 (hE13_12 (hall ⟨13, .data⟩ (by simp) rfl)))), fun _ => hE8_7 (hE12_8 (hE13_12 (hall ⟨13, .data⟩ (by simp) rfl))), fun _ => hall ⟨13, .data⟩ (by simp) rfl⟩
      · omega
    · rintro b' vs w2 hall ⟨h0, h1, h2, h3, h4, h5, h6, h7, h8, h9, h10, h11, h12, h13, h14, h15, hF, yS, hE13_12, hE12_8, hE8_7, hE7_6, hW6, hW7, hW13⟩
      have d0 := h0 (hall 0 (by simp))
      have d1 := h1 (hall 1 (by simp))
      have d2 := h2 (hall 2 (by simp))
      have d3 := h3 (hall 3 (by simp))
      have d4 := h4 (hall 4 (by simp))
      have d5 := h5 (hall 5 (by simp))
      have d6 := h6 (hall 6 (by simp))
      have d7 := h7 (hall 7 (by simp))
      have d8 := h8 (hall 8 (by simp))
      have d9 := h9 (hall 9 (by simp))
      have d10 := h10 (hall 10 (by simp))
      have d11 := h11 (hall 11 (by simp))
      have d12 := h12 (hall 12 (by simp))
      have d13 := h13 (hall 13 (by simp))
      have d14 := h14 (hall 14 (by simp))
      have d15 := h15 (hall 15 (by simp))
      have PP := (yS (hall 16 (by simp))).out
      simp only [putAll, Act.put, List.setIfInBounds_toArray, List.set_cons_zero, List.set_cons_succ, d0, d1, d2, d3, d4, d5, d6, d7, d8, d9, d10, d11, d12, d13, d14, d15]
      clear hall h0 d0 h1 d1 h2 d2 h3 d3 h4 d4 h5 d5 h6 d6 h7 d7 h8 d8 h9 d9 h10 d10 h11 d11 h12 d12 h13 d13 h14 d14 h15 d15 hF yS hE13_12 hE12_8 hE8_7 hE7_6 hW6 hW7 hW13
      subst PP
      go_wp2_with fail
      go_end0
      refine ⟨⟨_, rfl⟩, HQ5.out.cell ((Keep.setCell _ _ _ (by simp)).trans (Keep.setCell _ _ _ (by simp))) (fun v2 hb => ?_) ?_⟩
      · have hb2 := (hb.set 13 (.int .i64 st.s.r.1)).set 14 (.int .i64 st.s.r.2)
        unfold finR endP
        rw [if_neg (by rw [HKI.out]; decide), if_neg (by rw [HKI.out]; decide)]
        simpa [cellsR, HKI.out] using hb2
      · unfold finR
        rw [if_neg (by rw [HKI.out]; decide), if_neg (by rw [HKI.out]; decide)]
theorem finish_c (N g : Nat) (st : Rs) (v : Value) (w : World) (hr : Ev N w) (h : RdAt N g st v w) (hl : st.l.length + 1 ≤ 100000) (hk : isKindB st.s.k = true) : Calls Tryz.prog 62 #[ptrR g] w fun e w' => (∃ u, e = .returned u) ∧ StepQ N g (finR st) v w w' := by
  rcases isKind_cases hk with e | e | e | e | e
  · exact finish_move N g st v w h hl e
  · exact finish_line N g st v w h hl e hr
  · exact finish_quad N g st v w h hl e hr
  · exact finish_cubic N g st v w h hl e hr
  · exact finish_shut N g st v w h hl e
end Go.Proofs.YtbnbglngpgikfaaGreatDoor
