/- Layer 7: the square caps. -/
import Derived.Test.YtdidbejinfkhbaaDoorTb
import Derived.Test.YtdidbejinfkhbaaDoorSj
import Derived.Test.YtdidbejinfkhbaaDoorSk
namespace Go.Proofs.YtdidbejinfkhbaaDoor
open Go.RowKit
noncomputable def headOut (a b : Pt) (h : Int) : Int × List Pt := if lenB (subP b a) then roomOut (headI a b h) else (10, [])
noncomputable def tailOut (a b : Pt) (h : Int) : Int × List Pt := if lenB (subP b a) then roomOut (tailI a b h) else (10, [])
set_option maxHeartbeats 4000000 in
set_option maxRecDepth 100000 in
theorem head_walk (a b n s d : Pt) (h : Int) (w : World)
    (HW : Hid (∀ w, Calls Tryd.prog 55 #[.agg #[.int .i64 a.1, .int .i64 a.2], .agg #[.int .i64 b.1, .int .i64 b.2]] w fun e w' => e = .returned (.tuple #[.agg #[.int .i64 d.1, .int .i64 d.2], .int .i64 0]) ∧ Below w.heap.size w w'))
    (HAH : Hid (∀ w, Calls Tryd.prog 78 #[.agg #[.int .i64 d.1, .int .i64 d.2], .int .i64 h] w fun e w' => e = .returned (.agg #[.int .i64 s.1, .int .i64 s.2]) ∧ Below w.heap.size w w'))
    (HSI : Hid (∀ w, Calls Tryd.prog 57 #[.agg #[.int .i64 d.1, .int .i64 d.2], .int .i64 h] w fun e w' => e = .returned (.agg #[.int .i64 n.1, .int .i64 n.2]) ∧ Below w.heap.size w w'))
    (HLE : Hid (∀ w, Calls Tryd.prog 64 #[.agg #[.int .i64 a.1, .int .i64 a.2], .agg #[.int .i64 s.1, .int .i64 s.2]] w fun e w' => e = .returned (.agg #[.int .i64 (subP a s).1, .int .i64 (subP a s).2]) ∧ Below w.heap.size w w'))
    (HSL : Hid (∀ w, Calls Tryd.prog 56 #[.agg #[.int .i64 (subP a s).1, .int .i64 (subP a s).2], .agg #[.int .i64 a.1, .int .i64 a.2], .agg #[.int .i64 n.1, .int .i64 n.2]] w (ToldP w (roomOut (slabI (subP a s) a n))))) :
    Calls Tryd.prog 65 #[.agg #[.int .i64 a.1, .int .i64 a.2], .agg #[.int .i64 b.1, .int .i64 b.2], .int .i64 h] w (ToldP w (roomOut (slabI (subP a s) a n))) := by
  go_enter Tryd.func65, Tryd.ntmps65
  go_wp2_with fail
  obtain ⟨w0, hw0⟩ : ∃ W, (w.alloc (.cells #[.int .i64 a.1, .int .i64 a.2] 23)).alloc (.cells #[.int .i64 b.1, .int .i64 b.2] 23) = W := ⟨_, rfl⟩
  have S0 : Hid (Below w.heap.size w w0 ∧ w.heap.size ≤ w0.heap.size ∧ Blk w0 w.heap.size 23 (two a) ∧ Blk w0 (w.heap.size + 1) 23 (two b)) := by
    rw [← hw0]
    exact ⟨((Below.refl _ _).alloc (Nat.le_refl _) _).alloc (by simp) _, by simp; omega, (Blk.new _ _ _).alloc _, Blk.newAt _ _ _ (by simp)⟩
  rw [hw0]
  clear hw0
  refine (HW.out _).mono ?_
  rintro e w3 ⟨rfl, hb⟩
  have S3 : Hid (Below w.heap.size w w3 ∧ w.heap.size ≤ w3.heap.size ∧ Blk w3 w.heap.size 23 (two a) ∧ Blk w3 (w.heap.size + 1) 23 (two b)) := ⟨S0.out.1.trans (hb.mono S0.out.2.1), Nat.le_trans S0.out.2.1 hb.size, S0.out.2.2.1.grow hb, S0.out.2.2.2.grow hb⟩
  clear hb S0
  go_wp2_with fail
  obtain ⟨g8, hg8⟩ : ∃ g, w3.heap.size = g := ⟨_, rfl⟩
  obtain ⟨w4, hw4⟩ : ∃ W, w3.alloc (.cells #[.int .i64 d.1, .int .i64 d.2] 23) = W := ⟨_, rfl⟩
  have S4 : Hid (Below w.heap.size w w4 ∧ w.heap.size ≤ w4.heap.size ∧ Blk w4 w.heap.size 23 (two a) ∧ Blk w4 (w.heap.size + 1) 23 (two b) ∧ Blk w4 g8 23 (two d)) := by
    rw [← hw4]
    exact ⟨S3.out.1.alloc S3.out.2.1 _, by have := S3.out.2.1; simp; omega, S3.out.2.2.1.alloc _, S3.out.2.2.2.alloc _, Blk.newAt _ _ _ hg8⟩
  rw [hw4, hg8]
  clear hw4 hg8 S3
  refine wp_region_put (by kernel_rfl) (by kernel_rfl) (by kernel_rfl) (fun b' vs w' => (b' 0 = true → vs 0 = .agg #[.int .i64 a.1, .int .i64 a.2]) ∧ (b' 1 = true → vs 1 = .agg #[.int .i64 d.1, .int .i64 d.2]) ∧ (b' 2 = true → vs 2 = .int .i64 h) ∧ (b' 3 = true → vs 3 = .agg #[.int .i64 s.1, .int .i64 s.2]) ∧ (b' 4 = true → vs 4 = .agg #[.int .i64 (subP a s).1, .int .i64 (subP a s).2]) ∧ (b' 5 = true → vs 5 = .agg #[.int .i64 a.1, .int .i64 a.2]) ∧ (b' 6 = true → vs 6 = .agg #[.int .i64 d.1, .int .i64 d.2]) ∧ (b' 7 = true → vs 7 = .int .i64 h) ∧ (b' 8 = true → vs 8 = .agg #[.int .i64 n.1, .int .i64 n.2]) ∧ (b' 11 = true → vs 11 = .int .i64 (roomOut (slabI (subP a s) a n)).1) ∧ (b' 13 = true → vs 13 = .int .i64 (roomOut (slabI (subP a s) a n)).1) ∧ (b' 9 = true → Hid (TupR w.heap.size 23 (roomOut (slabI (subP a s) a n)).1 (roomOut (slabI (subP a s) a n)).2 (vs 9) w')) ∧ (b' 10 = true → Hid (Own w' w.heap.size 23 (vs 10) ((roomOut (slabI (subP a s) a n)).2))) ∧ (b' 12 = true → Hid (Own w' w.heap.size 23 (vs 12) ((roomOut (slabI (subP a s) a n)).2))) ∧ (Hid (Below w.heap.size w w' ∧ w.heap.size ≤ w'.heap.size)) ∧ (Hid (Blk w' w.heap.size 23 (two a) ∧ Blk w' (w.heap.size + 1) 23 (two b) ∧ Blk w' g8 23 (two d)))) ?_ ?_ ?_
  · intro vs
    exact ⟨fun h => Bool.noConfusion h, fun h => Bool.noConfusion h, fun h => Bool.noConfusion h, fun h => Bool.noConfusion h, fun h => Bool.noConfusion h, fun h => Bool.noConfusion h, fun h => Bool.noConfusion h, fun h => Bool.noConfusion h, fun h => Bool.noConfusion h, fun h => Bool.noConfusion h, fun h => Bool.noConfusion h, fun h => Bool.noConfusion h, fun h => Bool.noConfusion h, fun h => Bool.noConfusion h, Lib.hid ⟨below_drewN S4.out.1 1, S4.out.2.1⟩, Lib.hid ⟨S4.out.2.2.1.grow ⟨rfl, rfl, rfl, Nat.le_refl _, fun _ _ => rfl⟩, S4.out.2.2.2.1.grow ⟨rfl, rfl, rfl, Nat.le_refl _, fun _ _ => rfl⟩, S4.out.2.2.2.2.grow ⟨rfl, rfl, rfl, Nat.le_refl _, fun _ _ => rfl⟩⟩⟩
  · rintro b' vs w' i op hi hun hall ⟨h0, h1, h2, h3, h4, h5, h6, h7, h8, h11, h13, y9, y10, y12, hB, hF⟩
    have hil : i < 14 := (List.getElem?_eq_some_iff.1 hi).1
    rcases i with _ | _ | _ | _ | _ | _ | _ | _ | _ | _ | _ | _ | _ | _ | i
    · obtain rfl := Option.some.inj hi
      clear hi hil
      have k := hF.out.1
      have x0 := k.p0
      have x1 := k.p1
      clear k
      refine wpOp_step rfl (fun K hK => ?_)
      have HKK := Lib.hid hK; clear hK
      simp only [putAll, Act.put, List.setIfInBounds_toArray, List.set_cons_zero, List.set_cons_succ]
      go_simp
      exact HKK.out _ _ ⟨_, by simp only [putAll, Act.put, List.setIfInBounds_toArray, List.set_cons_zero, List.set_cons_succ] <;> rfl, fun _ => rfl, h1, h2, h3, h4, h5, h6, h7, h8, h11, h13, y9, y10, y12, hB, hF⟩
    · obtain rfl := Option.some.inj hi
      clear hi hil
      have k := hF.out.2.2
      have x0 := k.p0
      have x1 := k.p1
      clear k
      refine wpOp_step rfl (fun K hK => ?_)
      have HKK := Lib.hid hK; clear hK
      simp only [putAll, Act.put, List.setIfInBounds_toArray, List.set_cons_zero, List.set_cons_succ]
      go_simp
      exact HKK.out _ _ ⟨_, by simp only [putAll, Act.put, List.setIfInBounds_toArray, List.set_cons_zero, List.set_cons_succ] <;> rfl, h0, fun _ => rfl, h2, h3, h4, h5, h6, h7, h8, h11, h13, y9, y10, y12, hB, hF⟩
    · obtain rfl := Option.some.inj hi
      clear hi hil
      refine wpOp_step rfl (fun K hK => ?_)
      have HKK := Lib.hid hK; clear hK
      simp only [putAll, Act.put, List.setIfInBounds_toArray, List.set_cons_zero, List.set_cons_succ]
      go_simp
      exact HKK.out _ _ ⟨_, by simp only [putAll, Act.put, List.setIfInBounds_toArray, List.set_cons_zero, List.set_cons_succ] <;> rfl, h0, h1, fun _ => rfl, h3, h4, h5, h6, h7, h8, h11, h13, y9, y10, y12, hB, hF⟩
    · obtain rfl := Option.some.inj hi
      clear hi hil
      have d1 := h1 (hall ⟨1, .data⟩ (by simp) rfl)
      have d2 := h2 (hall ⟨2, .data⟩ (by simp) rfl)
      refine wpOp_step rfl (fun K hK => ?_)
      have HKK := Lib.hid hK; clear hK
      simp only [putAll, Act.put, List.setIfInBounds_toArray, List.set_cons_zero, List.set_cons_succ]
      go_simp
      refine (HAH.out _).mono ?_
      rintro e w2 ⟨rfl, hb2⟩
      exact HKK.out _ _ ⟨_, by simp only [putAll, Act.put, List.setIfInBounds_toArray, List.set_cons_zero, List.set_cons_succ, d1, d2] <;> rfl, h0, h1, h2, fun _ => rfl, h4, h5, h6, h7, h8, h11, h13, fun h => Lib.hid (TupR.grow (y9 h).out hb2), fun h => Lib.hid (Own.grow (y10 h).out hb2), fun h => Lib.hid (Own.grow (y12 h).out hb2), Lib.hid ⟨(hB).out.1.trans (hb2.mono (hB).out.2), Nat.le_trans (hB).out.2 hb2.size⟩, Lib.hid (⟨(hF).out.1.grow hb2, (hF).out.2.1.grow hb2, (hF).out.2.2.grow hb2⟩)⟩
    · obtain rfl := Option.some.inj hi
      clear hi hil
      have d0 := h0 (hall ⟨0, .data⟩ (by simp) rfl)
      have d3 := h3 (hall ⟨3, .data⟩ (by simp) rfl)
      refine wpOp_step rfl (fun K hK => ?_)
      have HKK := Lib.hid hK; clear hK
      simp only [putAll, Act.put, List.setIfInBounds_toArray, List.set_cons_zero, List.set_cons_succ]
      go_simp
      refine (HLE.out _).mono ?_
      rintro e w2 ⟨rfl, hb2⟩
      exact HKK.out _ _ ⟨_, by simp only [putAll, Act.put, List.setIfInBounds_toArray, List.set_cons_zero, List.set_cons_succ, d0, d3] <;> rfl, h0, h1, h2, h3, fun _ => rfl, h5, h6, h7, h8, h11, h13, fun h => Lib.hid (TupR.grow (y9 h).out hb2), fun h => Lib.hid (Own.grow (y10 h).out hb2), fun h => Lib.hid (Own.grow (y12 h).out hb2), Lib.hid ⟨(hB).out.1.trans (hb2.mono (hB).out.2), Nat.le_trans (hB).out.2 hb2.size⟩, Lib.hid (⟨(hF).out.1.grow hb2, (hF).out.2.1.grow hb2, (hF).out.2.2.grow hb2⟩)⟩
    · obtain rfl := Option.some.inj hi
      clear hi hil
      have k := hF.out.1
      have x0 := k.p0
      have x1 := k.p1
      clear k
      refine wpOp_step rfl (fun K hK => ?_)
      have HKK := Lib.hid hK; clear hK
      simp only [putAll, Act.put, List.setIfInBounds_toArray, List.set_cons_zero, List.set_cons_succ]
      go_simp
      exact HKK.out _ _ ⟨_, by simp only [putAll, Act.put, List.setIfInBounds_toArray, List.set_cons_zero, List.set_cons_succ] <;> rfl, h0, h1, h2, h3, h4, fun _ => rfl, h6, h7, h8, h11, h13, y9, y10, y12, hB, hF⟩
    · obtain rfl := Option.some.inj hi
      clear hi hil
      have k := hF.out.2.2
      have x0 := k.p0
      have x1 := k.p1
      clear k
      refine wpOp_step rfl (fun K hK => ?_)
      have HKK := Lib.hid hK; clear hK
      simp only [putAll, Act.put, List.setIfInBounds_toArray, List.set_cons_zero, List.set_cons_succ]
      go_simp
      exact HKK.out _ _ ⟨_, by simp only [putAll, Act.put, List.setIfInBounds_toArray, List.set_cons_zero, List.set_cons_succ] <;> rfl, h0, h1, h2, h3, h4, h5, fun _ => rfl, h7, h8, h11, h13, y9, y10, y12, hB, hF⟩
    · obtain rfl := Option.some.inj hi
      clear hi hil
      refine wpOp_step rfl (fun K hK => ?_)
      have HKK := Lib.hid hK; clear hK
      simp only [putAll, Act.put, List.setIfInBounds_toArray, List.set_cons_zero, List.set_cons_succ]
      go_simp
      exact HKK.out _ _ ⟨_, by simp only [putAll, Act.put, List.setIfInBounds_toArray, List.set_cons_zero, List.set_cons_succ] <;> rfl, h0, h1, h2, h3, h4, h5, h6, fun _ => rfl, h8, h11, h13, y9, y10, y12, hB, hF⟩
    · obtain rfl := Option.some.inj hi
      clear hi hil
      have d6 := h6 (hall ⟨6, .data⟩ (by simp) rfl)
      have d7 := h7 (hall ⟨7, .data⟩ (by simp) rfl)
      refine wpOp_step rfl (fun K hK => ?_)
      have HKK := Lib.hid hK; clear hK
      simp only [putAll, Act.put, List.setIfInBounds_toArray, List.set_cons_zero, List.set_cons_succ]
      go_simp
      refine (HSI.out _).mono ?_
      rintro e w2 ⟨rfl, hb2⟩
      exact HKK.out _ _ ⟨_, by simp only [putAll, Act.put, List.setIfInBounds_toArray, List.set_cons_zero, List.set_cons_succ, d6, d7] <;> rfl, h0, h1, h2, h3, h4, h5, h6, h7, fun _ => rfl, h11, h13, fun h => Lib.hid (TupR.grow (y9 h).out hb2), fun h => Lib.hid (Own.grow (y10 h).out hb2), fun h => Lib.hid (Own.grow (y12 h).out hb2), Lib.hid ⟨(hB).out.1.trans (hb2.mono (hB).out.2), Nat.le_trans (hB).out.2 hb2.size⟩, Lib.hid (⟨(hF).out.1.grow hb2, (hF).out.2.1.grow hb2, (hF).out.2.2.grow hb2⟩)⟩
    · obtain rfl := Option.some.inj hi
      clear hi hil
      have d4 := h4 (hall ⟨4, .data⟩ (by simp) rfl)
      have d5 := h5 (hall ⟨5, .data⟩ (by simp) rfl)
      have d8 := h8 (hall ⟨8, .data⟩ (by simp) rfl)
      refine wpOp_step rfl (fun K hK => ?_)
      have HKK := Lib.hid hK; clear hK
      simp only [putAll, Act.put, List.setIfInBounds_toArray, List.set_cons_zero, List.set_cons_succ]
      go_simp
      refine (HSL.out w').mono ?_
      rintro e w2 ⟨v2, rfl, ho2, hb2⟩
      exact HKK.out _ _ ⟨_, by simp only [putAll, Act.put, List.setIfInBounds_toArray, List.set_cons_zero, List.set_cons_succ, d4, d5, d8] <;> rfl, h0, h1, h2, h3, h4, h5, h6, h7, h8, h11, h13, fun _ => Lib.hid (⟨v2, rfl, ho2.base hB.out.2⟩), fun h => Lib.hid (Own.grow (y10 h).out hb2), fun h => Lib.hid (Own.grow (y12 h).out hb2), Lib.hid ⟨(hB).out.1.trans (hb2.mono (hB).out.2), Nat.le_trans (hB).out.2 hb2.size⟩, Lib.hid (⟨(hF).out.1.grow hb2, (hF).out.2.1.grow hb2, (hF).out.2.2.grow hb2⟩)⟩
    · obtain rfl := Option.some.inj hi
      clear hi hil
      have o9 := y9 (hall ⟨9, .data⟩ (by simp) rfl)
      obtain ⟨r, er, hor⟩ := o9.out
      refine wpOp_step rfl (fun K hK => ?_)
      have HKK := Lib.hid hK; clear hK
      simp only [putAll, Act.put, List.setIfInBounds_toArray, List.set_cons_zero, List.set_cons_succ]
      go_simp
      exact HKK.out _ _ ⟨_, by simp only [putAll, Act.put, List.setIfInBounds_toArray, List.set_cons_zero, List.set_cons_succ, er] <;> rfl, h0, h1, h2, h3, h4, h5, h6, h7, h8, h11, h13, y9, fun _ => Lib.hid (hor), y12, hB, hF⟩
    · obtain rfl := Option.some.inj hi
      clear hi hil
      have o9 := y9 (hall ⟨9, .data⟩ (by simp) rfl)
      obtain ⟨r, er, hor⟩ := o9.out
      clear hor
      refine wpOp_step rfl (fun K hK => ?_)
      have HKK := Lib.hid hK; clear hK
      simp only [putAll, Act.put, List.setIfInBounds_toArray, List.set_cons_zero, List.set_cons_succ]
      go_simp
      exact HKK.out _ _ ⟨_, by simp only [putAll, Act.put, List.setIfInBounds_toArray, List.set_cons_zero, List.set_cons_succ, er] <;> rfl, h0, h1, h2, h3, h4, h5, h6, h7, h8, fun _ => rfl, h13, y9, y10, y12, hB, hF⟩
    · obtain rfl := Option.some.inj hi
      clear hi hil
      have o10 := y10 (hall ⟨10, .data⟩ (by simp) rfl)
      refine wpOp_step rfl (fun K hK => ?_)
      have HKK := Lib.hid hK; clear hK
      simp only [putAll, Act.put, List.setIfInBounds_toArray, List.set_cons_zero, List.set_cons_succ]
      go_simp
      exact HKK.out _ _ ⟨_, by simp only [putAll, Act.put, List.setIfInBounds_toArray, List.set_cons_zero, List.set_cons_succ] <;> rfl, h0, h1, h2, h3, h4, h5, h6, h7, h8, h11, h13, y9, y10, fun _ => Lib.hid (o10.out), hB, hF⟩
    · obtain rfl := Option.some.inj hi
      clear hi hil
      have d11 := h11 (hall ⟨11, .data⟩ (by simp) rfl)
      refine wpOp_step rfl (fun K hK => ?_)
      have HKK := Lib.hid hK; clear hK
      simp only [putAll, Act.put, List.setIfInBounds_toArray, List.set_cons_zero, List.set_cons_succ]
      go_simp
      exact HKK.out _ _ ⟨_, by simp only [putAll, Act.put, List.setIfInBounds_toArray, List.set_cons_zero, List.set_cons_succ, d11] <;> rfl, h0, h1, h2, h3, h4, h5, h6, h7, h8, h11, fun _ => rfl, y9, y10, y12, hB, hF⟩
    · omega
  · rintro b' vs w2 hall ⟨h0, h1, h2, h3, h4, h5, h6, h7, h8, h11, h13, y9, y10, y12, hB, hF⟩
    have d0 := h0 (hall 0 (by simp))
    have d1 := h1 (hall 1 (by simp))
    have d2 := h2 (hall 2 (by simp))
    have d3 := h3 (hall 3 (by simp))
    have d4 := h4 (hall 4 (by simp))
    have d5 := h5 (hall 5 (by simp))
    have d6 := h6 (hall 6 (by simp))
    have d7 := h7 (hall 7 (by simp))
    have d8 := h8 (hall 8 (by simp))
    have d11 := h11 (hall 11 (by simp))
    have d13 := h13 (hall 13 (by simp))
    have o9 := y9 (hall 9 (by simp))
    have o10 := y10 (hall 10 (by simp))
    have o12 := y12 (hall 12 (by simp))
    have BB := hB
    have FF := hF
    simp only [putAll, Act.put, List.setIfInBounds_toArray, List.set_cons_zero, List.set_cons_succ, d0, d1, d2, d3, d4, d5, d6, d7, d8, d11, d13]
    clear hall h0 d0 h1 d1 h2 d2 h3 d3 h4 d4 h5 d5 h6 d6 h7 d7 h8 d8 h11 d11 h13 d13 y9 y10 y12 hB hF
    go_wp2_with fail
    go_ret2
    exact ⟨_, rfl, o12.out, BB.out.1⟩
theorem head_far (a b : Pt) (h : Int) (w : World)
    (HW : Hid (∀ w, Calls Tryd.prog 55 #[.agg #[.int .i64 a.1, .int .i64 a.2], .agg #[.int .i64 b.1, .int .i64 b.2]] w fun e w' => e = .returned (.tuple #[.agg #[.int .i64 0, .int .i64 0], .int .i64 10]) ∧ Below w.heap.size w w')) :
    Calls Tryd.prog 65 #[.agg #[.int .i64 a.1, .int .i64 a.2], .agg #[.int .i64 b.1, .int .i64 b.2], .int .i64 h] w (ToldP w (10, [])) := by
  go_enter Tryd.func65, Tryd.ntmps65
  go_wp2_with fail
  obtain ⟨w0, hw0⟩ : ∃ W, (w.alloc (.cells #[.int .i64 a.1, .int .i64 a.2] 23)).alloc (.cells #[.int .i64 b.1, .int .i64 b.2] 23) = W := ⟨_, rfl⟩
  have S0 : Hid (Below w.heap.size w w0 ∧ w.heap.size ≤ w0.heap.size ∧ Blk w0 w.heap.size 23 (two a) ∧ Blk w0 (w.heap.size + 1) 23 (two b)) := by
    rw [← hw0]
    exact ⟨((Below.refl _ _).alloc (Nat.le_refl _) _).alloc (by simp) _, by simp; omega, (Blk.new _ _ _).alloc _, Blk.newAt _ _ _ (by simp)⟩
  rw [hw0]
  clear hw0
  refine (HW.out _).mono ?_
  rintro e w3 ⟨rfl, hb⟩
  have S3 : Hid (Below w.heap.size w w3 ∧ w.heap.size ≤ w3.heap.size ∧ Blk w3 w.heap.size 23 (two a) ∧ Blk w3 (w.heap.size + 1) 23 (two b)) := ⟨S0.out.1.trans (hb.mono S0.out.2.1), Nat.le_trans S0.out.2.1 hb.size, S0.out.2.2.1.grow hb, S0.out.2.2.2.grow hb⟩
  clear hb S0
  go_wp2_with fail
  go_ret2
  exact ⟨_, rfl, Own.nil _ _ _, S3.out.1.alloc S3.out.2.1 _⟩
theorem head_c (a b : Pt) (h : Int) (w : World) (ha : roomP a = true) (hb : roomP b = true) (hab : a ≠ b) (hp : penB h = true) :
    Calls Tryd.prog 65 #[.agg #[.int .i64 a.1, .int .i64 a.2], .agg #[.int .i64 b.1, .int .i64 b.2], .int .i64 h] w (ToldP w (headOut a b h)) := by
  unfold headOut
  cases hl : lenB (subP b a)
  · exact head_far a b h w (Lib.hid (way_no a b ha hb (lenB_no hl)))
  · have hlo := lenB_iff.1 hl
    have hk := penB_iff.1 hp
    have hne := ne_sub hab
    have hm := mid_step hlo hne (k := h) (by omega) hk.2
    have hA := stepA_le hlo hne (k := h) (by omega)
    have ra := roomP_iff.1 ha
    have rb := roomP_iff.1 hb
    have hq : mid62 (subP a (stepA (subP b a) h)) := by
      generalize stepA (subP b a) h = sa at hA
      unfold mid62 subP
      simp only
      omega
    exact head_walk a b _ _ _ h w (Lib.hid (way_c a b ha hb hlo)) (Lib.hid (ahead_c _ h hlo hne hk)) (Lib.hid (side_c7 _ h hlo hne hk)) (Lib.hid (less_c a _ (mid_of_room ha) hm.2)) (Lib.hid (slab_c _ a _ hq (mid_of_room ha) hm.1))
set_option maxHeartbeats 4000000 in
set_option maxRecDepth 100000 in
theorem tail_walk (a b n s d : Pt) (h : Int) (w : World)
    (HW : Hid (∀ w, Calls Tryd.prog 55 #[.agg #[.int .i64 a.1, .int .i64 a.2], .agg #[.int .i64 b.1, .int .i64 b.2]] w fun e w' => e = .returned (.tuple #[.agg #[.int .i64 d.1, .int .i64 d.2], .int .i64 0]) ∧ Below w.heap.size w w'))
    (HAH : Hid (∀ w, Calls Tryd.prog 78 #[.agg #[.int .i64 d.1, .int .i64 d.2], .int .i64 h] w fun e w' => e = .returned (.agg #[.int .i64 s.1, .int .i64 s.2]) ∧ Below w.heap.size w w'))
    (HSI : Hid (∀ w, Calls Tryd.prog 57 #[.agg #[.int .i64 d.1, .int .i64 d.2], .int .i64 h] w fun e w' => e = .returned (.agg #[.int .i64 n.1, .int .i64 n.2]) ∧ Below w.heap.size w w'))
    (HLE : Hid (∀ w, Calls Tryd.prog 27 #[.agg #[.int .i64 b.1, .int .i64 b.2], .agg #[.int .i64 s.1, .int .i64 s.2]] w fun e w' => e = .returned (.agg #[.int .i64 (addP b s).1, .int .i64 (addP b s).2]) ∧ Below w.heap.size w w'))
    (HSL : Hid (∀ w, Calls Tryd.prog 56 #[.agg #[.int .i64 b.1, .int .i64 b.2], .agg #[.int .i64 (addP b s).1, .int .i64 (addP b s).2], .agg #[.int .i64 n.1, .int .i64 n.2]] w (ToldP w (roomOut (slabI b (addP b s) n))))) :
    Calls Tryd.prog 66 #[.agg #[.int .i64 a.1, .int .i64 a.2], .agg #[.int .i64 b.1, .int .i64 b.2], .int .i64 h] w (ToldP w (roomOut (slabI b (addP b s) n))) := by
  go_enter Tryd.func66, Tryd.ntmps66
  go_wp2_with fail
  obtain ⟨w0, hw0⟩ : ∃ W, (w.alloc (.cells #[.int .i64 a.1, .int .i64 a.2] 23)).alloc (.cells #[.int .i64 b.1, .int .i64 b.2] 23) = W := ⟨_, rfl⟩
  have S0 : Hid (Below w.heap.size w w0 ∧ w.heap.size ≤ w0.heap.size ∧ Blk w0 w.heap.size 23 (two a) ∧ Blk w0 (w.heap.size + 1) 23 (two b)) := by
    rw [← hw0]
    exact ⟨((Below.refl _ _).alloc (Nat.le_refl _) _).alloc (by simp) _, by simp; omega, (Blk.new _ _ _).alloc _, Blk.newAt _ _ _ (by simp)⟩
  rw [hw0]
  clear hw0
  refine (HW.out _).mono ?_
  rintro e w3 ⟨rfl, hb⟩
  have S3 : Hid (Below w.heap.size w w3 ∧ w.heap.size ≤ w3.heap.size ∧ Blk w3 w.heap.size 23 (two a) ∧ Blk w3 (w.heap.size + 1) 23 (two b)) := ⟨S0.out.1.trans (hb.mono S0.out.2.1), Nat.le_trans S0.out.2.1 hb.size, S0.out.2.2.1.grow hb, S0.out.2.2.2.grow hb⟩
  clear hb S0
  go_wp2_with fail
  obtain ⟨g8, hg8⟩ : ∃ g, w3.heap.size = g := ⟨_, rfl⟩
  obtain ⟨w4, hw4⟩ : ∃ W, w3.alloc (.cells #[.int .i64 d.1, .int .i64 d.2] 23) = W := ⟨_, rfl⟩
  have S4 : Hid (Below w.heap.size w w4 ∧ w.heap.size ≤ w4.heap.size ∧ Blk w4 w.heap.size 23 (two a) ∧ Blk w4 (w.heap.size + 1) 23 (two b) ∧ Blk w4 g8 23 (two d)) := by
    rw [← hw4]
    exact ⟨S3.out.1.alloc S3.out.2.1 _, by have := S3.out.2.1; simp; omega, S3.out.2.2.1.alloc _, S3.out.2.2.2.alloc _, Blk.newAt _ _ _ hg8⟩
  rw [hw4, hg8]
  clear hw4 hg8 S3
  refine wp_region_put (by kernel_rfl) (by kernel_rfl) (by kernel_rfl) (fun b' vs w' => (b' 0 = true → vs 0 = .agg #[.int .i64 b.1, .int .i64 b.2]) ∧ (b' 1 = true → vs 1 = .agg #[.int .i64 b.1, .int .i64 b.2]) ∧ (b' 2 = true → vs 2 = .agg #[.int .i64 d.1, .int .i64 d.2]) ∧ (b' 3 = true → vs 3 = .int .i64 h) ∧ (b' 4 = true → vs 4 = .agg #[.int .i64 s.1, .int .i64 s.2]) ∧ (b' 5 = true → vs 5 = .agg #[.int .i64 (addP b s).1, .int .i64 (addP b s).2]) ∧ (b' 6 = true → vs 6 = .agg #[.int .i64 d.1, .int .i64 d.2]) ∧ (b' 7 = true → vs 7 = .int .i64 h) ∧ (b' 8 = true → vs 8 = .agg #[.int .i64 n.1, .int .i64 n.2]) ∧ (b' 11 = true → vs 11 = .int .i64 (roomOut (slabI b (addP b s) n)).1) ∧ (b' 13 = true → vs 13 = .int .i64 (roomOut (slabI b (addP b s) n)).1) ∧ (b' 9 = true → Hid (TupR w.heap.size 23 (roomOut (slabI b (addP b s) n)).1 (roomOut (slabI b (addP b s) n)).2 (vs 9) w')) ∧ (b' 10 = true → Hid (Own w' w.heap.size 23 (vs 10) ((roomOut (slabI b (addP b s) n)).2))) ∧ (b' 12 = true → Hid (Own w' w.heap.size 23 (vs 12) ((roomOut (slabI b (addP b s) n)).2))) ∧ (Hid (Below w.heap.size w w' ∧ w.heap.size ≤ w'.heap.size)) ∧ (Hid (Blk w' w.heap.size 23 (two a) ∧ Blk w' (w.heap.size + 1) 23 (two b) ∧ Blk w' g8 23 (two d)))) ?_ ?_ ?_
  · intro vs
    exact ⟨fun h => Bool.noConfusion h, fun h => Bool.noConfusion h, fun h => Bool.noConfusion h, fun h => Bool.noConfusion h, fun h => Bool.noConfusion h, fun h => Bool.noConfusion h, fun h => Bool.noConfusion h, fun h => Bool.noConfusion h, fun h => Bool.noConfusion h, fun h => Bool.noConfusion h, fun h => Bool.noConfusion h, fun h => Bool.noConfusion h, fun h => Bool.noConfusion h, fun h => Bool.noConfusion h, Lib.hid ⟨below_drewN S4.out.1 1, S4.out.2.1⟩, Lib.hid ⟨S4.out.2.2.1.grow ⟨rfl, rfl, rfl, Nat.le_refl _, fun _ _ => rfl⟩, S4.out.2.2.2.1.grow ⟨rfl, rfl, rfl, Nat.le_refl _, fun _ _ => rfl⟩, S4.out.2.2.2.2.grow ⟨rfl, rfl, rfl, Nat.le_refl _, fun _ _ => rfl⟩⟩⟩
  · rintro b' vs w' i op hi hun hall ⟨h0, h1, h2, h3, h4, h5, h6, h7, h8, h11, h13, y9, y10, y12, hB, hF⟩
    have hil : i < 14 := (List.getElem?_eq_some_iff.1 hi).1
    rcases i with _ | _ | _ | _ | _ | _ | _ | _ | _ | _ | _ | _ | _ | _ | i
    · obtain rfl := Option.some.inj hi
      clear hi hil
      have k := hF.out.2.1
      have x0 := k.p0
      have x1 := k.p1
      clear k
      refine wpOp_step rfl (fun K hK => ?_)
      have HKK := Lib.hid hK; clear hK
      simp only [putAll, Act.put, List.setIfInBounds_toArray, List.set_cons_zero, List.set_cons_succ]
      go_simp
      exact HKK.out _ _ ⟨_, by simp only [putAll, Act.put, List.setIfInBounds_toArray, List.set_cons_zero, List.set_cons_succ] <;> rfl, fun _ => rfl, h1, h2, h3, h4, h5, h6, h7, h8, h11, h13, y9, y10, y12, hB, hF⟩
    · obtain rfl := Option.some.inj hi
      clear hi hil
      have k := hF.out.2.1
      have x0 := k.p0
      have x1 := k.p1
      clear k
      refine wpOp_step rfl (fun K hK => ?_)
      have HKK := Lib.hid hK; clear hK
      simp only [putAll, Act.put, List.setIfInBounds_toArray, List.set_cons_zero, List.set_cons_succ]
      go_simp
      exact HKK.out _ _ ⟨_, by simp only [putAll, Act.put, List.setIfInBounds_toArray, List.set_cons_zero, List.set_cons_succ] <;> rfl, h0, fun _ => rfl, h2, h3, h4, h5, h6, h7, h8, h11, h13, y9, y10, y12, hB, hF⟩
    · obtain rfl := Option.some.inj hi
      clear hi hil
      have k := hF.out.2.2
      have x0 := k.p0
      have x1 := k.p1
      clear k
      refine wpOp_step rfl (fun K hK => ?_)
      have HKK := Lib.hid hK; clear hK
      simp only [putAll, Act.put, List.setIfInBounds_toArray, List.set_cons_zero, List.set_cons_succ]
      go_simp
      exact HKK.out _ _ ⟨_, by simp only [putAll, Act.put, List.setIfInBounds_toArray, List.set_cons_zero, List.set_cons_succ] <;> rfl, h0, h1, fun _ => rfl, h3, h4, h5, h6, h7, h8, h11, h13, y9, y10, y12, hB, hF⟩
    · obtain rfl := Option.some.inj hi
      clear hi hil
      refine wpOp_step rfl (fun K hK => ?_)
      have HKK := Lib.hid hK; clear hK
      simp only [putAll, Act.put, List.setIfInBounds_toArray, List.set_cons_zero, List.set_cons_succ]
      go_simp
      exact HKK.out _ _ ⟨_, by simp only [putAll, Act.put, List.setIfInBounds_toArray, List.set_cons_zero, List.set_cons_succ] <;> rfl, h0, h1, h2, fun _ => rfl, h4, h5, h6, h7, h8, h11, h13, y9, y10, y12, hB, hF⟩
    · obtain rfl := Option.some.inj hi
      clear hi hil
      have d2 := h2 (hall ⟨2, .data⟩ (by simp) rfl)
      have d3 := h3 (hall ⟨3, .data⟩ (by simp) rfl)
      refine wpOp_step rfl (fun K hK => ?_)
      have HKK := Lib.hid hK; clear hK
      simp only [putAll, Act.put, List.setIfInBounds_toArray, List.set_cons_zero, List.set_cons_succ]
      go_simp
      refine (HAH.out _).mono ?_
      rintro e w2 ⟨rfl, hb2⟩
      exact HKK.out _ _ ⟨_, by simp only [putAll, Act.put, List.setIfInBounds_toArray, List.set_cons_zero, List.set_cons_succ, d2, d3] <;> rfl, h0, h1, h2, h3, fun _ => rfl, h5, h6, h7, h8, h11, h13, fun h => Lib.hid (TupR.grow (y9 h).out hb2), fun h => Lib.hid (Own.grow (y10 h).out hb2), fun h => Lib.hid (Own.grow (y12 h).out hb2), Lib.hid ⟨(hB).out.1.trans (hb2.mono (hB).out.2), Nat.le_trans (hB).out.2 hb2.size⟩, Lib.hid (⟨(hF).out.1.grow hb2, (hF).out.2.1.grow hb2, (hF).out.2.2.grow hb2⟩)⟩
    · obtain rfl := Option.some.inj hi
      clear hi hil
      have d1 := h1 (hall ⟨1, .data⟩ (by simp) rfl)
      have d4 := h4 (hall ⟨4, .data⟩ (by simp) rfl)
      refine wpOp_step rfl (fun K hK => ?_)
      have HKK := Lib.hid hK; clear hK
      simp only [putAll, Act.put, List.setIfInBounds_toArray, List.set_cons_zero, List.set_cons_succ]
      go_simp
      refine (HLE.out _).mono ?_
      rintro e w2 ⟨rfl, hb2⟩
      exact HKK.out _ _ ⟨_, by simp only [putAll, Act.put, List.setIfInBounds_toArray, List.set_cons_zero, List.set_cons_succ, d1, d4] <;> rfl, h0, h1, h2, h3, h4, fun _ => rfl, h6, h7, h8, h11, h13, fun h => Lib.hid (TupR.grow (y9 h).out hb2), fun h => Lib.hid (Own.grow (y10 h).out hb2), fun h => Lib.hid (Own.grow (y12 h).out hb2), Lib.hid ⟨(hB).out.1.trans (hb2.mono (hB).out.2), Nat.le_trans (hB).out.2 hb2.size⟩, Lib.hid (⟨(hF).out.1.grow hb2, (hF).out.2.1.grow hb2, (hF).out.2.2.grow hb2⟩)⟩
    · obtain rfl := Option.some.inj hi
      clear hi hil
      have k := hF.out.2.2
      have x0 := k.p0
      have x1 := k.p1
      clear k
      refine wpOp_step rfl (fun K hK => ?_)
      have HKK := Lib.hid hK; clear hK
      simp only [putAll, Act.put, List.setIfInBounds_toArray, List.set_cons_zero, List.set_cons_succ]
      go_simp
      exact HKK.out _ _ ⟨_, by simp only [putAll, Act.put, List.setIfInBounds_toArray, List.set_cons_zero, List.set_cons_succ] <;> rfl, h0, h1, h2, h3, h4, h5, fun _ => rfl, h7, h8, h11, h13, y9, y10, y12, hB, hF⟩
    · obtain rfl := Option.some.inj hi
      clear hi hil
      refine wpOp_step rfl (fun K hK => ?_)
      have HKK := Lib.hid hK; clear hK
      simp only [putAll, Act.put, List.setIfInBounds_toArray, List.set_cons_zero, List.set_cons_succ]
      go_simp
      exact HKK.out _ _ ⟨_, by simp only [putAll, Act.put, List.setIfInBounds_toArray, List.set_cons_zero, List.set_cons_succ] <;> rfl, h0, h1, h2, h3, h4, h5, h6, fun _ => rfl, h8, h11, h13, y9, y10, y12, hB, hF⟩
    · obtain rfl := Option.some.inj hi
      clear hi hil
      have d6 := h6 (hall ⟨6, .data⟩ (by simp) rfl)
      have d7 := h7 (hall ⟨7, .data⟩ (by simp) rfl)
      refine wpOp_step rfl (fun K hK => ?_)
      have HKK := Lib.hid hK; clear hK
      simp only [putAll, Act.put, List.setIfInBounds_toArray, List.set_cons_zero, List.set_cons_succ]
      go_simp
      refine (HSI.out _).mono ?_
      rintro e w2 ⟨rfl, hb2⟩
      exact HKK.out _ _ ⟨_, by simp only [putAll, Act.put, List.setIfInBounds_toArray, List.set_cons_zero, List.set_cons_succ, d6, d7] <;> rfl, h0, h1, h2, h3, h4, h5, h6, h7, fun _ => rfl, h11, h13, fun h => Lib.hid (TupR.grow (y9 h).out hb2), fun h => Lib.hid (Own.grow (y10 h).out hb2), fun h => Lib.hid (Own.grow (y12 h).out hb2), Lib.hid ⟨(hB).out.1.trans (hb2.mono (hB).out.2), Nat.le_trans (hB).out.2 hb2.size⟩, Lib.hid (⟨(hF).out.1.grow hb2, (hF).out.2.1.grow hb2, (hF).out.2.2.grow hb2⟩)⟩
    · obtain rfl := Option.some.inj hi
      clear hi hil
      have d0 := h0 (hall ⟨0, .data⟩ (by simp) rfl)
      have d5 := h5 (hall ⟨5, .data⟩ (by simp) rfl)
      have d8 := h8 (hall ⟨8, .data⟩ (by simp) rfl)
      refine wpOp_step rfl (fun K hK => ?_)
      have HKK := Lib.hid hK; clear hK
      simp only [putAll, Act.put, List.setIfInBounds_toArray, List.set_cons_zero, List.set_cons_succ]
      go_simp
      refine (HSL.out w').mono ?_
      rintro e w2 ⟨v2, rfl, ho2, hb2⟩
      exact HKK.out _ _ ⟨_, by simp only [putAll, Act.put, List.setIfInBounds_toArray, List.set_cons_zero, List.set_cons_succ, d0, d5, d8] <;> rfl, h0, h1, h2, h3, h4, h5, h6, h7, h8, h11, h13, fun _ => Lib.hid (⟨v2, rfl, ho2.base hB.out.2⟩), fun h => Lib.hid (Own.grow (y10 h).out hb2), fun h => Lib.hid (Own.grow (y12 h).out hb2), Lib.hid ⟨(hB).out.1.trans (hb2.mono (hB).out.2), Nat.le_trans (hB).out.2 hb2.size⟩, Lib.hid (⟨(hF).out.1.grow hb2, (hF).out.2.1.grow hb2, (hF).out.2.2.grow hb2⟩)⟩
    · obtain rfl := Option.some.inj hi
      clear hi hil
      have o9 := y9 (hall ⟨9, .data⟩ (by simp) rfl)
      obtain ⟨r, er, hor⟩ := o9.out
      refine wpOp_step rfl (fun K hK => ?_)
      have HKK := Lib.hid hK; clear hK
      simp only [putAll, Act.put, List.setIfInBounds_toArray, List.set_cons_zero, List.set_cons_succ]
      go_simp
      exact HKK.out _ _ ⟨_, by simp only [putAll, Act.put, List.setIfInBounds_toArray, List.set_cons_zero, List.set_cons_succ, er] <;> rfl, h0, h1, h2, h3, h4, h5, h6, h7, h8, h11, h13, y9, fun _ => Lib.hid (hor), y12, hB, hF⟩
    · obtain rfl := Option.some.inj hi
      clear hi hil
      have o9 := y9 (hall ⟨9, .data⟩ (by simp) rfl)
      obtain ⟨r, er, hor⟩ := o9.out
      clear hor
      refine wpOp_step rfl (fun K hK => ?_)
      have HKK := Lib.hid hK; clear hK
      simp only [putAll, Act.put, List.setIfInBounds_toArray, List.set_cons_zero, List.set_cons_succ]
      go_simp
      exact HKK.out _ _ ⟨_, by simp only [putAll, Act.put, List.setIfInBounds_toArray, List.set_cons_zero, List.set_cons_succ, er] <;> rfl, h0, h1, h2, h3, h4, h5, h6, h7, h8, fun _ => rfl, h13, y9, y10, y12, hB, hF⟩
    · obtain rfl := Option.some.inj hi
      clear hi hil
      have o10 := y10 (hall ⟨10, .data⟩ (by simp) rfl)
      refine wpOp_step rfl (fun K hK => ?_)
      have HKK := Lib.hid hK; clear hK
      simp only [putAll, Act.put, List.setIfInBounds_toArray, List.set_cons_zero, List.set_cons_succ]
      go_simp
      exact HKK.out _ _ ⟨_, by simp only [putAll, Act.put, List.setIfInBounds_toArray, List.set_cons_zero, List.set_cons_succ] <;> rfl, h0, h1, h2, h3, h4, h5, h6, h7, h8, h11, h13, y9, y10, fun _ => Lib.hid (o10.out), hB, hF⟩
    · obtain rfl := Option.some.inj hi
      clear hi hil
      have d11 := h11 (hall ⟨11, .data⟩ (by simp) rfl)
      refine wpOp_step rfl (fun K hK => ?_)
      have HKK := Lib.hid hK; clear hK
      simp only [putAll, Act.put, List.setIfInBounds_toArray, List.set_cons_zero, List.set_cons_succ]
      go_simp
      exact HKK.out _ _ ⟨_, by simp only [putAll, Act.put, List.setIfInBounds_toArray, List.set_cons_zero, List.set_cons_succ, d11] <;> rfl, h0, h1, h2, h3, h4, h5, h6, h7, h8, h11, fun _ => rfl, y9, y10, y12, hB, hF⟩
    · omega
  · rintro b' vs w2 hall ⟨h0, h1, h2, h3, h4, h5, h6, h7, h8, h11, h13, y9, y10, y12, hB, hF⟩
    have d0 := h0 (hall 0 (by simp))
    have d1 := h1 (hall 1 (by simp))
    have d2 := h2 (hall 2 (by simp))
    have d3 := h3 (hall 3 (by simp))
    have d4 := h4 (hall 4 (by simp))
    have d5 := h5 (hall 5 (by simp))
    have d6 := h6 (hall 6 (by simp))
    have d7 := h7 (hall 7 (by simp))
    have d8 := h8 (hall 8 (by simp))
    have d11 := h11 (hall 11 (by simp))
    have d13 := h13 (hall 13 (by simp))
    have o9 := y9 (hall 9 (by simp))
    have o10 := y10 (hall 10 (by simp))
    have o12 := y12 (hall 12 (by simp))
    have BB := hB
    have FF := hF
    simp only [putAll, Act.put, List.setIfInBounds_toArray, List.set_cons_zero, List.set_cons_succ, d0, d1, d2, d3, d4, d5, d6, d7, d8, d11, d13]
    clear hall h0 d0 h1 d1 h2 d2 h3 d3 h4 d4 h5 d5 h6 d6 h7 d7 h8 d8 h11 d11 h13 d13 y9 y10 y12 hB hF
    go_wp2_with fail
    go_ret2
    exact ⟨_, rfl, o12.out, BB.out.1⟩
theorem tail_far (a b : Pt) (h : Int) (w : World)
    (HW : Hid (∀ w, Calls Tryd.prog 55 #[.agg #[.int .i64 a.1, .int .i64 a.2], .agg #[.int .i64 b.1, .int .i64 b.2]] w fun e w' => e = .returned (.tuple #[.agg #[.int .i64 0, .int .i64 0], .int .i64 10]) ∧ Below w.heap.size w w')) :
    Calls Tryd.prog 66 #[.agg #[.int .i64 a.1, .int .i64 a.2], .agg #[.int .i64 b.1, .int .i64 b.2], .int .i64 h] w (ToldP w (10, [])) := by
  go_enter Tryd.func66, Tryd.ntmps66
  go_wp2_with fail
  obtain ⟨w0, hw0⟩ : ∃ W, (w.alloc (.cells #[.int .i64 a.1, .int .i64 a.2] 23)).alloc (.cells #[.int .i64 b.1, .int .i64 b.2] 23) = W := ⟨_, rfl⟩
  have S0 : Hid (Below w.heap.size w w0 ∧ w.heap.size ≤ w0.heap.size ∧ Blk w0 w.heap.size 23 (two a) ∧ Blk w0 (w.heap.size + 1) 23 (two b)) := by
    rw [← hw0]
    exact ⟨((Below.refl _ _).alloc (Nat.le_refl _) _).alloc (by simp) _, by simp; omega, (Blk.new _ _ _).alloc _, Blk.newAt _ _ _ (by simp)⟩
  rw [hw0]
  clear hw0
  refine (HW.out _).mono ?_
  rintro e w3 ⟨rfl, hb⟩
  have S3 : Hid (Below w.heap.size w w3 ∧ w.heap.size ≤ w3.heap.size ∧ Blk w3 w.heap.size 23 (two a) ∧ Blk w3 (w.heap.size + 1) 23 (two b)) := ⟨S0.out.1.trans (hb.mono S0.out.2.1), Nat.le_trans S0.out.2.1 hb.size, S0.out.2.2.1.grow hb, S0.out.2.2.2.grow hb⟩
  clear hb S0
  go_wp2_with fail
  go_ret2
  exact ⟨_, rfl, Own.nil _ _ _, S3.out.1.alloc S3.out.2.1 _⟩
theorem tail_c (a b : Pt) (h : Int) (w : World) (ha : roomP a = true) (hb : roomP b = true) (hab : a ≠ b) (hp : penB h = true) :
    Calls Tryd.prog 66 #[.agg #[.int .i64 a.1, .int .i64 a.2], .agg #[.int .i64 b.1, .int .i64 b.2], .int .i64 h] w (ToldP w (tailOut a b h)) := by
  unfold tailOut
  cases hl : lenB (subP b a)
  · exact tail_far a b h w (Lib.hid (way_no a b ha hb (lenB_no hl)))
  · have hlo := lenB_iff.1 hl
    have hk := penB_iff.1 hp
    have hne := ne_sub hab
    have hm := mid_step hlo hne (k := h) (by omega) hk.2
    have hA := stepA_le hlo hne (k := h) (by omega)
    have ra := roomP_iff.1 ha
    have rb := roomP_iff.1 hb
    have hq : mid62 (addP b (stepA (subP b a) h)) := by
      generalize stepA (subP b a) h = sa at hA
      unfold mid62 addP
      simp only
      omega
    exact tail_walk a b _ _ _ h w (Lib.hid (way_c a b ha hb hlo)) (Lib.hid (ahead_c _ h hlo hne hk)) (Lib.hid (side_c7 _ h hlo hne hk)) (Lib.hid (plus_c b _ (mid_of_room hb) hm.2)) (Lib.hid (slab_c b _ _ (mid_of_room hb) hq hm.1))
end Go.Proofs.YtdidbejinfkhbaaDoor
