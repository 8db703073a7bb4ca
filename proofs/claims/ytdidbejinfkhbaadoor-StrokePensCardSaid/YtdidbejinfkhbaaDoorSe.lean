/- Layer 7: Bar, and square caps. -/
import Derived.Test.YtdidbejinfkhbaaDoorSd
namespace Go.Proofs.YtdidbejinfkhbaaDoor
open Go.RowKit
def lenB (w : Pt) : Bool := (decide (-536870912 ≤ w.1) && decide (w.1 ≤ 536870912)) && (decide (-536870912 ≤ w.2) && decide (w.2 ≤ 536870912))
theorem lenB_iff {w : Pt} : lenB w = true ↔ lenOk w := by
  unfold lenB lenOk
  simp only [Bool.and_eq_true, decide_eq_true_eq]
  exact ⟨fun h => ⟨h.1.1, h.1.2, h.2.1, h.2.2⟩, fun h => ⟨⟨h.1, h.2.1⟩, h.2.2.1, h.2.2.2⟩⟩
theorem lenB_no {w : Pt} (h : lenB w = false) : ¬ lenOk w := fun k => by rw [lenB_iff.2 k] at h; cases h
/-- What a pen leaves of a line. -/
noncomputable def barI (a b : Pt) (h : Int) : List Pt := slabI a b (stepS (subP b a) h)
noncomputable def barIn (a b : Pt) (h : Int) : Int × List Pt := if lenB (subP b a) then roomOut (barI a b h) else (10, [])
noncomputable def barOut (a b : Pt) (h : Int) : Int × List Pt := if penB h && roomP a && roomP b && !decide (a = b) then barIn a b h else (30, [])
theorem ne_sub {a b : Pt} (h : a ≠ b) : subP b a ≠ (0, 0) := fun e => h (by
  have e1 := congrArg Prod.fst e
  have e2 := congrArg Prod.snd e
  simp only [subP] at e1 e2
  apply Prod.ext <;> omega)
/-- A call's answer: a row and an error. -/
def ToldP (w : World) (o : Int × List Pt) (e : Ending) (w' : World) : Prop := ∃ v, e = .returned (.tuple #[v, .int .i64 o.1]) ∧ Own w' w.heap.size 23 v o.2 ∧ Below w.heap.size w w'
theorem mid_step {w : Pt} (h : lenOk w) (h0 : w ≠ (0, 0)) {k : Int} (hk : 0 ≤ k) (hk2 : k ≤ 32768) : mid62 (stepS w k) ∧ mid62 (stepA w k) := by
  have h1 := stepS_le h h0 hk
  have h2 := stepA_le h h0 hk
  unfold mid62
  omega
set_option maxHeartbeats 4000000 in
set_option maxRecDepth 100000 in
theorem bar_walk1 (a b n d : Pt) (h : Int) (w : World) (hx : ¬ a.1 = b.1)
    (HPEN : Hid (∀ w, Calls Tryd.prog 25 #[.int .i64 h] w fun e w' => e = .returned (.bool true) ∧ w = w'))
    (HIA : Hid (∀ w, Calls Tryd.prog 26 #[.agg #[.int .i64 a.1, .int .i64 a.2]] w fun e w' => e = .returned (.bool true) ∧ Below w.heap.size w w'))
    (HIB : Hid (∀ w, Calls Tryd.prog 26 #[.agg #[.int .i64 b.1, .int .i64 b.2]] w fun e w' => e = .returned (.bool true) ∧ Below w.heap.size w w'))
    (HW : Hid (∀ w, Calls Tryd.prog 55 #[.agg #[.int .i64 a.1, .int .i64 a.2], .agg #[.int .i64 b.1, .int .i64 b.2]] w fun e w' => e = .returned (.tuple #[.agg #[.int .i64 d.1, .int .i64 d.2], .int .i64 0]) ∧ Below w.heap.size w w'))
    (HSI : Hid (∀ w, Calls Tryd.prog 57 #[.agg #[.int .i64 d.1, .int .i64 d.2], .int .i64 h] w fun e w' => e = .returned (.agg #[.int .i64 n.1, .int .i64 n.2]) ∧ Below w.heap.size w w'))
    (HSL : Hid (∀ w, Calls Tryd.prog 56 #[.agg #[.int .i64 a.1, .int .i64 a.2], .agg #[.int .i64 b.1, .int .i64 b.2], .agg #[.int .i64 n.1, .int .i64 n.2]] w (ToldP w (roomOut (slabI a b n))))) :
    Calls Tryd.prog 23 #[.agg #[.int .i64 a.1, .int .i64 a.2], .agg #[.int .i64 b.1, .int .i64 b.2], .int .i64 h] w (ToldP w (roomOut (slabI a b n))) := by
  go_enter Tryd.func23, Tryd.ntmps23
  go_wp2_with fail
  obtain ⟨w0, hw0⟩ : ∃ W, (w.alloc (.cells #[.int .i64 a.1, .int .i64 a.2] 23)).alloc (.cells #[.int .i64 b.1, .int .i64 b.2] 23) = W := ⟨_, rfl⟩
  have S0 : Hid (Below w.heap.size w w0 ∧ w.heap.size ≤ w0.heap.size ∧ Blk w0 w.heap.size 23 (two a) ∧ Blk w0 (w.heap.size + 1) 23 (two b)) := by
    rw [← hw0]
    exact ⟨((Below.refl _ _).alloc (Nat.le_refl _) _).alloc (by simp) _, by simp; omega, (Blk.new _ _ _).alloc _, Blk.newAt _ _ _ (by simp)⟩
  rw [hw0]
  clear hw0
  refine (HPEN.out _).mono ?_
  rintro e w' ⟨rfl, rfl⟩
  have ka := S0.out.2.2.1
  have a0 := ka.p0
  have a1 := ka.p1
  clear ka
  go_wp2_with fail
  refine (HIA.out _).mono ?_
  rintro e w1 ⟨rfl, hb⟩
  have S1 : Hid (Below w.heap.size w w1 ∧ w.heap.size ≤ w1.heap.size ∧ Blk w1 w.heap.size 23 (two a) ∧ Blk w1 (w.heap.size + 1) 23 (two b)) := ⟨S0.out.1.trans (hb.mono S0.out.2.1), Nat.le_trans S0.out.2.1 hb.size, S0.out.2.2.1.grow hb, S0.out.2.2.2.grow hb⟩
  clear hb a0 a1 S0
  have kb := S1.out.2.2.2
  have b0 := kb.p0
  have b1 := kb.p1
  clear kb
  go_wp2_with fail
  refine (HIB.out _).mono ?_
  rintro e w2 ⟨rfl, hb⟩
  have S2 : Hid (Below w.heap.size w w2 ∧ w.heap.size ≤ w2.heap.size ∧ Blk w2 w.heap.size 23 (two a) ∧ Blk w2 (w.heap.size + 1) 23 (two b)) := ⟨S1.out.1.trans (hb.mono S1.out.2.1), Nat.le_trans S1.out.2.1 hb.size, S1.out.2.2.1.grow hb, S1.out.2.2.2.grow hb⟩
  clear hb b0 b1 S1
  have ka := S2.out.2.2.1
  have a0 := ka.p0
  have a1 := ka.p1
  have kb := S2.out.2.2.2
  have b0 := kb.p0
  have b1 := kb.p1
  clear ka kb
  go_wp2_with fail
  refine (HW.out _).mono ?_
  rintro e w3 ⟨rfl, hb⟩
  have S3 : Hid (Below w.heap.size w w3 ∧ w.heap.size ≤ w3.heap.size ∧ Blk w3 w.heap.size 23 (two a) ∧ Blk w3 (w.heap.size + 1) 23 (two b)) := ⟨S2.out.1.trans (hb.mono S2.out.2.1), Nat.le_trans S2.out.2.1 hb.size, S2.out.2.2.1.grow hb, S2.out.2.2.2.grow hb⟩
  clear hb a0 a1 b0 b1 S2
  go_wp2_with fail
  obtain ⟨g8, hg8⟩ : ∃ g, w3.heap.size = g := ⟨_, rfl⟩
  obtain ⟨w4, hw4⟩ : ∃ W, w3.alloc (.cells #[.int .i64 d.1, .int .i64 d.2] 23) = W := ⟨_, rfl⟩
  have S4 : Hid (Below w.heap.size w w4 ∧ w.heap.size ≤ w4.heap.size ∧ Blk w4 w.heap.size 23 (two a) ∧ Blk w4 (w.heap.size + 1) 23 (two b) ∧ Blk w4 g8 23 (two d)) := by
    rw [← hw4]
    exact ⟨S3.out.1.alloc S3.out.2.1 _, by have := S3.out.2.1; simp; omega, S3.out.2.2.1.alloc _, S3.out.2.2.2.alloc _, Blk.newAt _ _ _ hg8⟩
  rw [hw4, hg8]
  clear hw4 hg8 S3
  refine wp_region_put (by kernel_rfl) (by kernel_rfl) (by kernel_rfl) (fun b' vs w' => (b' 0 = true → vs 0 = .agg #[.int .i64 a.1, .int .i64 a.2]) ∧ (b' 1 = true → vs 1 = .agg #[.int .i64 b.1, .int .i64 b.2]) ∧ (b' 2 = true → vs 2 = .agg #[.int .i64 d.1, .int .i64 d.2]) ∧ (b' 3 = true → vs 3 = .int .i64 h) ∧ (b' 4 = true → vs 4 = .agg #[.int .i64 n.1, .int .i64 n.2]) ∧ (b' 7 = true → vs 7 = .int .i64 (roomOut (slabI a b n)).1) ∧ (b' 9 = true → vs 9 = .int .i64 (roomOut (slabI a b n)).1) ∧ (b' 5 = true → Hid (TupR w.heap.size 23 (roomOut (slabI a b n)).1 (roomOut (slabI a b n)).2 (vs 5) w')) ∧ (b' 6 = true → Hid (Own w' w.heap.size 23 (vs 6) ((roomOut (slabI a b n)).2))) ∧ (b' 8 = true → Hid (Own w' w.heap.size 23 (vs 8) ((roomOut (slabI a b n)).2))) ∧ (Hid (Below w.heap.size w w' ∧ w.heap.size ≤ w'.heap.size)) ∧ (Hid (Blk w' w.heap.size 23 (two a) ∧ Blk w' (w.heap.size + 1) 23 (two b) ∧ Blk w' g8 23 (two d)))) ?_ ?_ ?_
  · intro vs
    exact ⟨fun h => Bool.noConfusion h, fun h => Bool.noConfusion h, fun h => Bool.noConfusion h, fun h => Bool.noConfusion h, fun h => Bool.noConfusion h, fun h => Bool.noConfusion h, fun h => Bool.noConfusion h, fun h => Bool.noConfusion h, fun h => Bool.noConfusion h, fun h => Bool.noConfusion h, Lib.hid ⟨below_drewN S4.out.1 1, S4.out.2.1⟩, Lib.hid ⟨S4.out.2.2.1.grow ⟨rfl, rfl, rfl, Nat.le_refl _, fun _ _ => rfl⟩, S4.out.2.2.2.1.grow ⟨rfl, rfl, rfl, Nat.le_refl _, fun _ _ => rfl⟩, S4.out.2.2.2.2.grow ⟨rfl, rfl, rfl, Nat.le_refl _, fun _ _ => rfl⟩⟩⟩
  · rintro b' vs w' i op hi hun hall ⟨h0, h1, h2, h3, h4, h7, h9, y5, y6, y8, hB, hF⟩
    have hil : i < 10 := (List.getElem?_eq_some_iff.1 hi).1
    rcases i with _ | _ | _ | _ | _ | _ | _ | _ | _ | _ | i
    · obtain rfl := Option.some.inj hi
      clear hi hil
      have k := hF.out.1
      have x0 := k.p0
      have x1 := k.p1
      clear k
      refine wpOp_step rfl (fun K hK => ?_)
      have HKK := Lib.hid hK; clear hK
      simp only [putAll, Act.put, List.setIfInBounds_toArray, List.set_cons_zero, List.set_cons_succ]
      go_simp
      exact HKK.out _ _ ⟨_, by simp only [putAll, Act.put, List.setIfInBounds_toArray, List.set_cons_zero, List.set_cons_succ] <;> rfl, fun _ => rfl, h1, h2, h3, h4, h7, h9, y5, y6, y8, hB, hF⟩
    · obtain rfl := Option.some.inj hi
      clear hi hil
      have k := hF.out.2.1
      have x0 := k.p0
      have x1 := k.p1
      clear k
      refine wpOp_step rfl (fun K hK => ?_)
      have HKK := Lib.hid hK; clear hK
      simp only [putAll, Act.put, List.setIfInBounds_toArray, List.set_cons_zero, List.set_cons_succ]
      go_simp
      exact HKK.out _ _ ⟨_, by simp only [putAll, Act.put, List.setIfInBounds_toArray, List.set_cons_zero, List.set_cons_succ] <;> rfl, h0, fun _ => rfl, h2, h3, h4, h7, h9, y5, y6, y8, hB, hF⟩
    · obtain rfl := Option.some.inj hi
      clear hi hil
      have k := hF.out.2.2
      have x0 := k.p0
      have x1 := k.p1
      clear k
      refine wpOp_step rfl (fun K hK => ?_)
      have HKK := Lib.hid hK; clear hK
      simp only [putAll, Act.put, List.setIfInBounds_toArray, List.set_cons_zero, List.set_cons_succ]
      go_simp
      exact HKK.out _ _ ⟨_, by simp only [putAll, Act.put, List.setIfInBounds_toArray, List.set_cons_zero, List.set_cons_succ] <;> rfl, h0, h1, fun _ => rfl, h3, h4, h7, h9, y5, y6, y8, hB, hF⟩
    · obtain rfl := Option.some.inj hi
      clear hi hil
      refine wpOp_step rfl (fun K hK => ?_)
      have HKK := Lib.hid hK; clear hK
      simp only [putAll, Act.put, List.setIfInBounds_toArray, List.set_cons_zero, List.set_cons_succ]
      go_simp
      exact HKK.out _ _ ⟨_, by simp only [putAll, Act.put, List.setIfInBounds_toArray, List.set_cons_zero, List.set_cons_succ] <;> rfl, h0, h1, h2, fun _ => rfl, h4, h7, h9, y5, y6, y8, hB, hF⟩
    · obtain rfl := Option.some.inj hi
      clear hi hil
      have d2 := h2 (hall ⟨2, .data⟩ (by simp) rfl)
      have d3 := h3 (hall ⟨3, .data⟩ (by simp) rfl)
      refine wpOp_step rfl (fun K hK => ?_)
      have HKK := Lib.hid hK; clear hK
      simp only [putAll, Act.put, List.setIfInBounds_toArray, List.set_cons_zero, List.set_cons_succ]
      go_simp
      refine (HSI.out _).mono ?_
      rintro e w2 ⟨rfl, hb2⟩
      exact HKK.out _ _ ⟨_, by simp only [putAll, Act.put, List.setIfInBounds_toArray, List.set_cons_zero, List.set_cons_succ, d2, d3] <;> rfl, h0, h1, h2, h3, fun _ => rfl, h7, h9, fun h => Lib.hid (TupR.grow (y5 h).out hb2), fun h => Lib.hid (Own.grow (y6 h).out hb2), fun h => Lib.hid (Own.grow (y8 h).out hb2), Lib.hid ⟨(hB).out.1.trans (hb2.mono (hB).out.2), Nat.le_trans (hB).out.2 hb2.size⟩, Lib.hid (⟨(hF).out.1.grow hb2, (hF).out.2.1.grow hb2, (hF).out.2.2.grow hb2⟩)⟩
    · obtain rfl := Option.some.inj hi
      clear hi hil
      have d0 := h0 (hall ⟨0, .data⟩ (by simp) rfl)
      have d1 := h1 (hall ⟨1, .data⟩ (by simp) rfl)
      have d4 := h4 (hall ⟨4, .data⟩ (by simp) rfl)
      refine wpOp_step rfl (fun K hK => ?_)
      have HKK := Lib.hid hK; clear hK
      simp only [putAll, Act.put, List.setIfInBounds_toArray, List.set_cons_zero, List.set_cons_succ]
      go_simp
      refine (HSL.out w').mono ?_
      rintro e w2 ⟨v2, rfl, ho2, hb2⟩
      exact HKK.out _ _ ⟨_, by simp only [putAll, Act.put, List.setIfInBounds_toArray, List.set_cons_zero, List.set_cons_succ, d0, d1, d4] <;> rfl, h0, h1, h2, h3, h4, h7, h9, fun _ => Lib.hid (⟨v2, rfl, ho2.base hB.out.2⟩), fun h => Lib.hid (Own.grow (y6 h).out hb2), fun h => Lib.hid (Own.grow (y8 h).out hb2), Lib.hid ⟨(hB).out.1.trans (hb2.mono (hB).out.2), Nat.le_trans (hB).out.2 hb2.size⟩, Lib.hid (⟨(hF).out.1.grow hb2, (hF).out.2.1.grow hb2, (hF).out.2.2.grow hb2⟩)⟩
    · obtain rfl := Option.some.inj hi
      clear hi hil
      have o5 := y5 (hall ⟨5, .data⟩ (by simp) rfl)
      obtain ⟨r, er, hor⟩ := o5.out
      refine wpOp_step rfl (fun K hK => ?_)
      have HKK := Lib.hid hK; clear hK
      simp only [putAll, Act.put, List.setIfInBounds_toArray, List.set_cons_zero, List.set_cons_succ]
      go_simp
      exact HKK.out _ _ ⟨_, by simp only [putAll, Act.put, List.setIfInBounds_toArray, List.set_cons_zero, List.set_cons_succ, er] <;> rfl, h0, h1, h2, h3, h4, h7, h9, y5, fun _ => Lib.hid (hor), y8, hB, hF⟩
    · obtain rfl := Option.some.inj hi
      clear hi hil
      have o5 := y5 (hall ⟨5, .data⟩ (by simp) rfl)
      obtain ⟨r, er, hor⟩ := o5.out
      clear hor
      refine wpOp_step rfl (fun K hK => ?_)
      have HKK := Lib.hid hK; clear hK
      simp only [putAll, Act.put, List.setIfInBounds_toArray, List.set_cons_zero, List.set_cons_succ]
      go_simp
      exact HKK.out _ _ ⟨_, by simp only [putAll, Act.put, List.setIfInBounds_toArray, List.set_cons_zero, List.set_cons_succ, er] <;> rfl, h0, h1, h2, h3, h4, fun _ => rfl, h9, y5, y6, y8, hB, hF⟩
    · obtain rfl := Option.some.inj hi
      clear hi hil
      have o6 := y6 (hall ⟨6, .data⟩ (by simp) rfl)
      refine wpOp_step rfl (fun K hK => ?_)
      have HKK := Lib.hid hK; clear hK
      simp only [putAll, Act.put, List.setIfInBounds_toArray, List.set_cons_zero, List.set_cons_succ]
      go_simp
      exact HKK.out _ _ ⟨_, by simp only [putAll, Act.put, List.setIfInBounds_toArray, List.set_cons_zero, List.set_cons_succ] <;> rfl, h0, h1, h2, h3, h4, h7, h9, y5, y6, fun _ => Lib.hid (o6.out), hB, hF⟩
    · obtain rfl := Option.some.inj hi
      clear hi hil
      have d7 := h7 (hall ⟨7, .data⟩ (by simp) rfl)
      refine wpOp_step rfl (fun K hK => ?_)
      have HKK := Lib.hid hK; clear hK
      simp only [putAll, Act.put, List.setIfInBounds_toArray, List.set_cons_zero, List.set_cons_succ]
      go_simp
      exact HKK.out _ _ ⟨_, by simp only [putAll, Act.put, List.setIfInBounds_toArray, List.set_cons_zero, List.set_cons_succ, d7] <;> rfl, h0, h1, h2, h3, h4, h7, fun _ => rfl, y5, y6, y8, hB, hF⟩
    · omega
  · rintro b' vs w2 hall ⟨h0, h1, h2, h3, h4, h7, h9, y5, y6, y8, hB, hF⟩
    have d0 := h0 (hall 0 (by simp))
    have d1 := h1 (hall 1 (by simp))
    have d2 := h2 (hall 2 (by simp))
    have d3 := h3 (hall 3 (by simp))
    have d4 := h4 (hall 4 (by simp))
    have d7 := h7 (hall 7 (by simp))
    have d9 := h9 (hall 9 (by simp))
    have o5 := y5 (hall 5 (by simp))
    have o6 := y6 (hall 6 (by simp))
    have o8 := y8 (hall 8 (by simp))
    have BB := hB
    have FF := hF
    simp only [putAll, Act.put, List.setIfInBounds_toArray, List.set_cons_zero, List.set_cons_succ, d0, d1, d2, d3, d4, d7, d9]
    clear hall h0 d0 h1 d1 h2 d2 h3 d3 h4 d4 h7 d7 h9 d9 y5 y6 y8 hB hF
    go_wp2_with fail
    go_ret2
    exact ⟨_, rfl, o8.out, BB.out.1⟩
set_option maxHeartbeats 4000000 in
set_option maxRecDepth 100000 in
theorem bar_walk2 (a b n d : Pt) (h : Int) (w : World) (_hx : a.1 = b.1 ↔ True) (hy : ¬ a.2 = b.2)
    (HPEN : Hid (∀ w, Calls Tryd.prog 25 #[.int .i64 h] w fun e w' => e = .returned (.bool true) ∧ w = w'))
    (HIA : Hid (∀ w, Calls Tryd.prog 26 #[.agg #[.int .i64 a.1, .int .i64 a.2]] w fun e w' => e = .returned (.bool true) ∧ Below w.heap.size w w'))
    (HIB : Hid (∀ w, Calls Tryd.prog 26 #[.agg #[.int .i64 b.1, .int .i64 b.2]] w fun e w' => e = .returned (.bool true) ∧ Below w.heap.size w w'))
    (HW : Hid (∀ w, Calls Tryd.prog 55 #[.agg #[.int .i64 a.1, .int .i64 a.2], .agg #[.int .i64 b.1, .int .i64 b.2]] w fun e w' => e = .returned (.tuple #[.agg #[.int .i64 d.1, .int .i64 d.2], .int .i64 0]) ∧ Below w.heap.size w w'))
    (HSI : Hid (∀ w, Calls Tryd.prog 57 #[.agg #[.int .i64 d.1, .int .i64 d.2], .int .i64 h] w fun e w' => e = .returned (.agg #[.int .i64 n.1, .int .i64 n.2]) ∧ Below w.heap.size w w'))
    (HSL : Hid (∀ w, Calls Tryd.prog 56 #[.agg #[.int .i64 a.1, .int .i64 a.2], .agg #[.int .i64 b.1, .int .i64 b.2], .agg #[.int .i64 n.1, .int .i64 n.2]] w (ToldP w (roomOut (slabI a b n))))) :
    Calls Tryd.prog 23 #[.agg #[.int .i64 a.1, .int .i64 a.2], .agg #[.int .i64 b.1, .int .i64 b.2], .int .i64 h] w (ToldP w (roomOut (slabI a b n))) := by
  go_enter Tryd.func23, Tryd.ntmps23
  go_wp2_with fail
  obtain ⟨w0, hw0⟩ : ∃ W, (w.alloc (.cells #[.int .i64 a.1, .int .i64 a.2] 23)).alloc (.cells #[.int .i64 b.1, .int .i64 b.2] 23) = W := ⟨_, rfl⟩
  have S0 : Hid (Below w.heap.size w w0 ∧ w.heap.size ≤ w0.heap.size ∧ Blk w0 w.heap.size 23 (two a) ∧ Blk w0 (w.heap.size + 1) 23 (two b)) := by
    rw [← hw0]
    exact ⟨((Below.refl _ _).alloc (Nat.le_refl _) _).alloc (by simp) _, by simp; omega, (Blk.new _ _ _).alloc _, Blk.newAt _ _ _ (by simp)⟩
  rw [hw0]
  clear hw0
  refine (HPEN.out _).mono ?_
  rintro e w' ⟨rfl, rfl⟩
  have ka := S0.out.2.2.1
  have a0 := ka.p0
  have a1 := ka.p1
  clear ka
  go_wp2_with fail
  refine (HIA.out _).mono ?_
  rintro e w1 ⟨rfl, hb⟩
  have S1 : Hid (Below w.heap.size w w1 ∧ w.heap.size ≤ w1.heap.size ∧ Blk w1 w.heap.size 23 (two a) ∧ Blk w1 (w.heap.size + 1) 23 (two b)) := ⟨S0.out.1.trans (hb.mono S0.out.2.1), Nat.le_trans S0.out.2.1 hb.size, S0.out.2.2.1.grow hb, S0.out.2.2.2.grow hb⟩
  clear hb a0 a1 S0
  have kb := S1.out.2.2.2
  have b0 := kb.p0
  have b1 := kb.p1
  clear kb
  go_wp2_with fail
  refine (HIB.out _).mono ?_
  rintro e w2 ⟨rfl, hb⟩
  have S2 : Hid (Below w.heap.size w w2 ∧ w.heap.size ≤ w2.heap.size ∧ Blk w2 w.heap.size 23 (two a) ∧ Blk w2 (w.heap.size + 1) 23 (two b)) := ⟨S1.out.1.trans (hb.mono S1.out.2.1), Nat.le_trans S1.out.2.1 hb.size, S1.out.2.2.1.grow hb, S1.out.2.2.2.grow hb⟩
  clear hb b0 b1 S1
  have ka := S2.out.2.2.1
  have a0 := ka.p0
  have a1 := ka.p1
  have kb := S2.out.2.2.2
  have b0 := kb.p0
  have b1 := kb.p1
  clear ka kb
  go_wp2_with fail
  refine (HW.out _).mono ?_
  rintro e w3 ⟨rfl, hb⟩
  have S3 : Hid (Below w.heap.size w w3 ∧ w.heap.size ≤ w3.heap.size ∧ Blk w3 w.heap.size 23 (two a) ∧ Blk w3 (w.heap.size + 1) 23 (two b)) := ⟨S2.out.1.trans (hb.mono S2.out.2.1), Nat.le_trans S2.out.2.1 hb.size, S2.out.2.2.1.grow hb, S2.out.2.2.2.grow hb⟩
  clear hb a0 a1 b0 b1 S2
  go_wp2_with fail
  obtain ⟨g8, hg8⟩ : ∃ g, w3.heap.size = g := ⟨_, rfl⟩
  obtain ⟨w4, hw4⟩ : ∃ W, w3.alloc (.cells #[.int .i64 d.1, .int .i64 d.2] 23) = W := ⟨_, rfl⟩
  have S4 : Hid (Below w.heap.size w w4 ∧ w.heap.size ≤ w4.heap.size ∧ Blk w4 w.heap.size 23 (two a) ∧ Blk w4 (w.heap.size + 1) 23 (two b) ∧ Blk w4 g8 23 (two d)) := by
    rw [← hw4]
    exact ⟨S3.out.1.alloc S3.out.2.1 _, by have := S3.out.2.1; simp; omega, S3.out.2.2.1.alloc _, S3.out.2.2.2.alloc _, Blk.newAt _ _ _ hg8⟩
  rw [hw4, hg8]
  clear hw4 hg8 S3
  refine wp_region_put (by kernel_rfl) (by kernel_rfl) (by kernel_rfl) (fun b' vs w' => (b' 0 = true → vs 0 = .agg #[.int .i64 a.1, .int .i64 a.2]) ∧ (b' 1 = true → vs 1 = .agg #[.int .i64 b.1, .int .i64 b.2]) ∧ (b' 2 = true → vs 2 = .agg #[.int .i64 d.1, .int .i64 d.2]) ∧ (b' 3 = true → vs 3 = .int .i64 h) ∧ (b' 4 = true → vs 4 = .agg #[.int .i64 n.1, .int .i64 n.2]) ∧ (b' 7 = true → vs 7 = .int .i64 (roomOut (slabI a b n)).1) ∧ (b' 9 = true → vs 9 = .int .i64 (roomOut (slabI a b n)).1) ∧ (b' 5 = true → Hid (TupR w.heap.size 23 (roomOut (slabI a b n)).1 (roomOut (slabI a b n)).2 (vs 5) w')) ∧ (b' 6 = true → Hid (Own w' w.heap.size 23 (vs 6) ((roomOut (slabI a b n)).2))) ∧ (b' 8 = true → Hid (Own w' w.heap.size 23 (vs 8) ((roomOut (slabI a b n)).2))) ∧ (Hid (Below w.heap.size w w' ∧ w.heap.size ≤ w'.heap.size)) ∧ (Hid (Blk w' w.heap.size 23 (two a) ∧ Blk w' (w.heap.size + 1) 23 (two b) ∧ Blk w' g8 23 (two d)))) ?_ ?_ ?_
  · intro vs
    exact ⟨fun h => Bool.noConfusion h, fun h => Bool.noConfusion h, fun h => Bool.noConfusion h, fun h => Bool.noConfusion h, fun h => Bool.noConfusion h, fun h => Bool.noConfusion h, fun h => Bool.noConfusion h, fun h => Bool.noConfusion h, fun h => Bool.noConfusion h, fun h => Bool.noConfusion h, Lib.hid ⟨below_drewN S4.out.1 1, S4.out.2.1⟩, Lib.hid ⟨S4.out.2.2.1.grow ⟨rfl, rfl, rfl, Nat.le_refl _, fun _ _ => rfl⟩, S4.out.2.2.2.1.grow ⟨rfl, rfl, rfl, Nat.le_refl _, fun _ _ => rfl⟩, S4.out.2.2.2.2.grow ⟨rfl, rfl, rfl, Nat.le_refl _, fun _ _ => rfl⟩⟩⟩
  · rintro b' vs w' i op hi hun hall ⟨h0, h1, h2, h3, h4, h7, h9, y5, y6, y8, hB, hF⟩
    have hil : i < 10 := (List.getElem?_eq_some_iff.1 hi).1
    rcases i with _ | _ | _ | _ | _ | _ | _ | _ | _ | _ | i
    · obtain rfl := Option.some.inj hi
      clear hi hil
      have k := hF.out.1
      have x0 := k.p0
      have x1 := k.p1
      clear k
      refine wpOp_step rfl (fun K hK => ?_)
      have HKK := Lib.hid hK; clear hK
      simp only [putAll, Act.put, List.setIfInBounds_toArray, List.set_cons_zero, List.set_cons_succ]
      go_simp
      exact HKK.out _ _ ⟨_, by simp only [putAll, Act.put, List.setIfInBounds_toArray, List.set_cons_zero, List.set_cons_succ] <;> rfl, fun _ => rfl, h1, h2, h3, h4, h7, h9, y5, y6, y8, hB, hF⟩
    · obtain rfl := Option.some.inj hi
      clear hi hil
      have k := hF.out.2.1
      have x0 := k.p0
      have x1 := k.p1
      clear k
      refine wpOp_step rfl (fun K hK => ?_)
      have HKK := Lib.hid hK; clear hK
      simp only [putAll, Act.put, List.setIfInBounds_toArray, List.set_cons_zero, List.set_cons_succ]
      go_simp
      exact HKK.out _ _ ⟨_, by simp only [putAll, Act.put, List.setIfInBounds_toArray, List.set_cons_zero, List.set_cons_succ] <;> rfl, h0, fun _ => rfl, h2, h3, h4, h7, h9, y5, y6, y8, hB, hF⟩
    · obtain rfl := Option.some.inj hi
      clear hi hil
      have k := hF.out.2.2
      have x0 := k.p0
      have x1 := k.p1
      clear k
      refine wpOp_step rfl (fun K hK => ?_)
      have HKK := Lib.hid hK; clear hK
      simp only [putAll, Act.put, List.setIfInBounds_toArray, List.set_cons_zero, List.set_cons_succ]
      go_simp
      exact HKK.out _ _ ⟨_, by simp only [putAll, Act.put, List.setIfInBounds_toArray, List.set_cons_zero, List.set_cons_succ] <;> rfl, h0, h1, fun _ => rfl, h3, h4, h7, h9, y5, y6, y8, hB, hF⟩
    · obtain rfl := Option.some.inj hi
      clear hi hil
      refine wpOp_step rfl (fun K hK => ?_)
      have HKK := Lib.hid hK; clear hK
      simp only [putAll, Act.put, List.setIfInBounds_toArray, List.set_cons_zero, List.set_cons_succ]
      go_simp
      exact HKK.out _ _ ⟨_, by simp only [putAll, Act.put, List.setIfInBounds_toArray, List.set_cons_zero, List.set_cons_succ] <;> rfl, h0, h1, h2, fun _ => rfl, h4, h7, h9, y5, y6, y8, hB, hF⟩
    · obtain rfl := Option.some.inj hi
      clear hi hil
      have d2 := h2 (hall ⟨2, .data⟩ (by simp) rfl)
      have d3 := h3 (hall ⟨3, .data⟩ (by simp) rfl)
      refine wpOp_step rfl (fun K hK => ?_)
      have HKK := Lib.hid hK; clear hK
      simp only [putAll, Act.put, List.setIfInBounds_toArray, List.set_cons_zero, List.set_cons_succ]
      go_simp
      refine (HSI.out _).mono ?_
      rintro e w2 ⟨rfl, hb2⟩
      exact HKK.out _ _ ⟨_, by simp only [putAll, Act.put, List.setIfInBounds_toArray, List.set_cons_zero, List.set_cons_succ, d2, d3] <;> rfl, h0, h1, h2, h3, fun _ => rfl, h7, h9, fun h => Lib.hid (TupR.grow (y5 h).out hb2), fun h => Lib.hid (Own.grow (y6 h).out hb2), fun h => Lib.hid (Own.grow (y8 h).out hb2), Lib.hid ⟨(hB).out.1.trans (hb2.mono (hB).out.2), Nat.le_trans (hB).out.2 hb2.size⟩, Lib.hid (⟨(hF).out.1.grow hb2, (hF).out.2.1.grow hb2, (hF).out.2.2.grow hb2⟩)⟩
    · obtain rfl := Option.some.inj hi
      clear hi hil
      have d0 := h0 (hall ⟨0, .data⟩ (by simp) rfl)
      have d1 := h1 (hall ⟨1, .data⟩ (by simp) rfl)
      have d4 := h4 (hall ⟨4, .data⟩ (by simp) rfl)
      refine wpOp_step rfl (fun K hK => ?_)
      have HKK := Lib.hid hK; clear hK
      simp only [putAll, Act.put, List.setIfInBounds_toArray, List.set_cons_zero, List.set_cons_succ]
      go_simp
      refine (HSL.out w').mono ?_
      rintro e w2 ⟨v2, rfl, ho2, hb2⟩
      exact HKK.out _ _ ⟨_, by simp only [putAll, Act.put, List.setIfInBounds_toArray, List.set_cons_zero, List.set_cons_succ, d0, d1, d4] <;> rfl, h0, h1, h2, h3, h4, h7, h9, fun _ => Lib.hid (⟨v2, rfl, ho2.base hB.out.2⟩), fun h => Lib.hid (Own.grow (y6 h).out hb2), fun h => Lib.hid (Own.grow (y8 h).out hb2), Lib.hid ⟨(hB).out.1.trans (hb2.mono (hB).out.2), Nat.le_trans (hB).out.2 hb2.size⟩, Lib.hid (⟨(hF).out.1.grow hb2, (hF).out.2.1.grow hb2, (hF).out.2.2.grow hb2⟩)⟩
    · obtain rfl := Option.some.inj hi
      clear hi hil
      have o5 := y5 (hall ⟨5, .data⟩ (by simp) rfl)
      obtain ⟨r, er, hor⟩ := o5.out
      refine wpOp_step rfl (fun K hK => ?_)
      have HKK := Lib.hid hK; clear hK
      simp only [putAll, Act.put, List.setIfInBounds_toArray, List.set_cons_zero, List.set_cons_succ]
      go_simp
      exact HKK.out _ _ ⟨_, by simp only [putAll, Act.put, List.setIfInBounds_toArray, List.set_cons_zero, List.set_cons_succ, er] <;> rfl, h0, h1, h2, h3, h4, h7, h9, y5, fun _ => Lib.hid (hor), y8, hB, hF⟩
    · obtain rfl := Option.some.inj hi
      clear hi hil
      have o5 := y5 (hall ⟨5, .data⟩ (by simp) rfl)
      obtain ⟨r, er, hor⟩ := o5.out
      clear hor
      refine wpOp_step rfl (fun K hK => ?_)
      have HKK := Lib.hid hK; clear hK
      simp only [putAll, Act.put, List.setIfInBounds_toArray, List.set_cons_zero, List.set_cons_succ]
      go_simp
      exact HKK.out _ _ ⟨_, by simp only [putAll, Act.put, List.setIfInBounds_toArray, List.set_cons_zero, List.set_cons_succ, er] <;> rfl, h0, h1, h2, h3, h4, fun _ => rfl, h9, y5, y6, y8, hB, hF⟩
    · obtain rfl := Option.some.inj hi
      clear hi hil
      have o6 := y6 (hall ⟨6, .data⟩ (by simp) rfl)
      refine wpOp_step rfl (fun K hK => ?_)
      have HKK := Lib.hid hK; clear hK
      simp only [putAll, Act.put, List.setIfInBounds_toArray, List.set_cons_zero, List.set_cons_succ]
      go_simp
      exact HKK.out _ _ ⟨_, by simp only [putAll, Act.put, List.setIfInBounds_toArray, List.set_cons_zero, List.set_cons_succ] <;> rfl, h0, h1, h2, h3, h4, h7, h9, y5, y6, fun _ => Lib.hid (o6.out), hB, hF⟩
    · obtain rfl := Option.some.inj hi
      clear hi hil
      have d7 := h7 (hall ⟨7, .data⟩ (by simp) rfl)
      refine wpOp_step rfl (fun K hK => ?_)
      have HKK := Lib.hid hK; clear hK
      simp only [putAll, Act.put, List.setIfInBounds_toArray, List.set_cons_zero, List.set_cons_succ]
      go_simp
      exact HKK.out _ _ ⟨_, by simp only [putAll, Act.put, List.setIfInBounds_toArray, List.set_cons_zero, List.set_cons_succ, d7] <;> rfl, h0, h1, h2, h3, h4, h7, fun _ => rfl, y5, y6, y8, hB, hF⟩
    · omega
  · rintro b' vs w2 hall ⟨h0, h1, h2, h3, h4, h7, h9, y5, y6, y8, hB, hF⟩
    have d0 := h0 (hall 0 (by simp))
    have d1 := h1 (hall 1 (by simp))
    have d2 := h2 (hall 2 (by simp))
    have d3 := h3 (hall 3 (by simp))
    have d4 := h4 (hall 4 (by simp))
    have d7 := h7 (hall 7 (by simp))
    have d9 := h9 (hall 9 (by simp))
    have o5 := y5 (hall 5 (by simp))
    have o6 := y6 (hall 6 (by simp))
    have o8 := y8 (hall 8 (by simp))
    have BB := hB
    have FF := hF
    simp only [putAll, Act.put, List.setIfInBounds_toArray, List.set_cons_zero, List.set_cons_succ, d0, d1, d2, d3, d4, d7, d9]
    clear hall h0 d0 h1 d1 h2 d2 h3 d3 h4 d4 h7 d7 h9 d9 y5 y6 y8 hB hF
    go_wp2_with fail
    go_ret2
    exact ⟨_, rfl, o8.out, BB.out.1⟩
set_option maxHeartbeats 1000000 in
set_option maxRecDepth 100000 in
theorem bar_pen (a b : Pt) (h : Int) (w : World) (HPEN : Hid (∀ w, Calls Tryd.prog 25 #[.int .i64 h] w fun e w' => e = .returned (.bool false) ∧ w = w')) :
    Calls Tryd.prog 23 #[.agg #[.int .i64 a.1, .int .i64 a.2], .agg #[.int .i64 b.1, .int .i64 b.2], .int .i64 h] w (ToldP w (30, [])) := by
  go_enter Tryd.func23, Tryd.ntmps23
  go_wp2_with fail
  obtain ⟨w0, hw0⟩ : ∃ W, (w.alloc (.cells #[.int .i64 a.1, .int .i64 a.2] 23)).alloc (.cells #[.int .i64 b.1, .int .i64 b.2] 23) = W := ⟨_, rfl⟩
  have S0 : Hid (Below w.heap.size w w0 ∧ w.heap.size ≤ w0.heap.size ∧ Blk w0 w.heap.size 23 (two a) ∧ Blk w0 (w.heap.size + 1) 23 (two b)) := by
    rw [← hw0]
    exact ⟨((Below.refl _ _).alloc (Nat.le_refl _) _).alloc (by simp) _, by simp; omega, (Blk.new _ _ _).alloc _, Blk.newAt _ _ _ (by simp)⟩
  rw [hw0]
  clear hw0
  refine (HPEN.out _).mono ?_
  rintro e w' ⟨rfl, rfl⟩
  have ka := S0.out.2.2.1
  have a0 := ka.p0
  have a1 := ka.p1
  clear ka
  go_wp2_with fail
  go_ret2
  exact ⟨_, rfl, Own.nil _ _ _, S0.out.1⟩
set_option maxHeartbeats 1000000 in
set_option maxRecDepth 100000 in
theorem bar_a (a b : Pt) (h : Int) (w : World) (HPEN : Hid (∀ w, Calls Tryd.prog 25 #[.int .i64 h] w fun e w' => e = .returned (.bool true) ∧ w = w')) (HIA : Hid (∀ w, Calls Tryd.prog 26 #[.agg #[.int .i64 a.1, .int .i64 a.2]] w fun e w' => e = .returned (.bool false) ∧ Below w.heap.size w w')) :
    Calls Tryd.prog 23 #[.agg #[.int .i64 a.1, .int .i64 a.2], .agg #[.int .i64 b.1, .int .i64 b.2], .int .i64 h] w (ToldP w (30, [])) := by
  go_enter Tryd.func23, Tryd.ntmps23
  go_wp2_with fail
  obtain ⟨w0, hw0⟩ : ∃ W, (w.alloc (.cells #[.int .i64 a.1, .int .i64 a.2] 23)).alloc (.cells #[.int .i64 b.1, .int .i64 b.2] 23) = W := ⟨_, rfl⟩
  have S0 : Hid (Below w.heap.size w w0 ∧ w.heap.size ≤ w0.heap.size ∧ Blk w0 w.heap.size 23 (two a) ∧ Blk w0 (w.heap.size + 1) 23 (two b)) := by
    rw [← hw0]
    exact ⟨((Below.refl _ _).alloc (Nat.le_refl _) _).alloc (by simp) _, by simp; omega, (Blk.new _ _ _).alloc _, Blk.newAt _ _ _ (by simp)⟩
  rw [hw0]
  clear hw0
  refine (HPEN.out _).mono ?_
  rintro e w' ⟨rfl, rfl⟩
  have ka := S0.out.2.2.1
  have a0 := ka.p0
  have a1 := ka.p1
  clear ka
  go_wp2_with fail
  refine (HIA.out _).mono ?_
  rintro e w1 ⟨rfl, hb⟩
  have S1 : Hid (Below w.heap.size w w1 ∧ w.heap.size ≤ w1.heap.size ∧ Blk w1 w.heap.size 23 (two a) ∧ Blk w1 (w.heap.size + 1) 23 (two b)) := ⟨S0.out.1.trans (hb.mono S0.out.2.1), Nat.le_trans S0.out.2.1 hb.size, S0.out.2.2.1.grow hb, S0.out.2.2.2.grow hb⟩
  clear hb a0 a1 S0
  have kb := S1.out.2.2.2
  have b0 := kb.p0
  have b1 := kb.p1
  clear kb
  go_wp2_with fail
  go_ret2
  exact ⟨_, rfl, Own.nil _ _ _, S1.out.1⟩
set_option maxHeartbeats 1000000 in
set_option maxRecDepth 100000 in
theorem bar_b (a b : Pt) (h : Int) (w : World) (HPEN : Hid (∀ w, Calls Tryd.prog 25 #[.int .i64 h] w fun e w' => e = .returned (.bool true) ∧ w = w')) (HIA : Hid (∀ w, Calls Tryd.prog 26 #[.agg #[.int .i64 a.1, .int .i64 a.2]] w fun e w' => e = .returned (.bool true) ∧ Below w.heap.size w w')) (HIB : Hid (∀ w, Calls Tryd.prog 26 #[.agg #[.int .i64 b.1, .int .i64 b.2]] w fun e w' => e = .returned (.bool false) ∧ Below w.heap.size w w')) :
    Calls Tryd.prog 23 #[.agg #[.int .i64 a.1, .int .i64 a.2], .agg #[.int .i64 b.1, .int .i64 b.2], .int .i64 h] w (ToldP w (30, [])) := by
  go_enter Tryd.func23, Tryd.ntmps23
  go_wp2_with fail
  obtain ⟨w0, hw0⟩ : ∃ W, (w.alloc (.cells #[.int .i64 a.1, .int .i64 a.2] 23)).alloc (.cells #[.int .i64 b.1, .int .i64 b.2] 23) = W := ⟨_, rfl⟩
  have S0 : Hid (Below w.heap.size w w0 ∧ w.heap.size ≤ w0.heap.size ∧ Blk w0 w.heap.size 23 (two a) ∧ Blk w0 (w.heap.size + 1) 23 (two b)) := by
    rw [← hw0]
    exact ⟨((Below.refl _ _).alloc (Nat.le_refl _) _).alloc (by simp) _, by simp; omega, (Blk.new _ _ _).alloc _, Blk.newAt _ _ _ (by simp)⟩
  rw [hw0]
  clear hw0
  refine (HPEN.out _).mono ?_
  rintro e w' ⟨rfl, rfl⟩
  have ka := S0.out.2.2.1
  have a0 := ka.p0
  have a1 := ka.p1
  clear ka
  go_wp2_with fail
  refine (HIA.out _).mono ?_
  rintro e w1 ⟨rfl, hb⟩
  have S1 : Hid (Below w.heap.size w w1 ∧ w.heap.size ≤ w1.heap.size ∧ Blk w1 w.heap.size 23 (two a) ∧ Blk w1 (w.heap.size + 1) 23 (two b)) := ⟨S0.out.1.trans (hb.mono S0.out.2.1), Nat.le_trans S0.out.2.1 hb.size, S0.out.2.2.1.grow hb, S0.out.2.2.2.grow hb⟩
  clear hb a0 a1 S0
  have kb := S1.out.2.2.2
  have b0 := kb.p0
  have b1 := kb.p1
  clear kb
  go_wp2_with fail
  refine (HIB.out _).mono ?_
  rintro e w2 ⟨rfl, hb⟩
  have S2 : Hid (Below w.heap.size w w2 ∧ w.heap.size ≤ w2.heap.size ∧ Blk w2 w.heap.size 23 (two a) ∧ Blk w2 (w.heap.size + 1) 23 (two b)) := ⟨S1.out.1.trans (hb.mono S1.out.2.1), Nat.le_trans S1.out.2.1 hb.size, S1.out.2.2.1.grow hb, S1.out.2.2.2.grow hb⟩
  clear hb b0 b1 S1
  have ka := S2.out.2.2.1
  have a0 := ka.p0
  have a1 := ka.p1
  have kb := S2.out.2.2.2
  have b0 := kb.p0
  have b1 := kb.p1
  clear ka kb
  go_wp2_with fail
  go_ret2
  exact ⟨_, rfl, Own.nil _ _ _, S2.out.1⟩
set_option maxHeartbeats 1000000 in
set_option maxRecDepth 100000 in
theorem bar_same (a b : Pt) (h : Int) (w : World) (HPEN : Hid (∀ w, Calls Tryd.prog 25 #[.int .i64 h] w fun e w' => e = .returned (.bool true) ∧ w = w')) (HIA : Hid (∀ w, Calls Tryd.prog 26 #[.agg #[.int .i64 a.1, .int .i64 a.2]] w fun e w' => e = .returned (.bool true) ∧ Below w.heap.size w w')) (HIB : Hid (∀ w, Calls Tryd.prog 26 #[.agg #[.int .i64 b.1, .int .i64 b.2]] w fun e w' => e = .returned (.bool true) ∧ Below w.heap.size w w')) (_hx : a.1 = b.1 ↔ True) (_hy : a.2 = b.2 ↔ True) :
    Calls Tryd.prog 23 #[.agg #[.int .i64 a.1, .int .i64 a.2], .agg #[.int .i64 b.1, .int .i64 b.2], .int .i64 h] w (ToldP w (30, [])) := by
  go_enter Tryd.func23, Tryd.ntmps23
  go_wp2_with fail
  obtain ⟨w0, hw0⟩ : ∃ W, (w.alloc (.cells #[.int .i64 a.1, .int .i64 a.2] 23)).alloc (.cells #[.int .i64 b.1, .int .i64 b.2] 23) = W := ⟨_, rfl⟩
  have S0 : Hid (Below w.heap.size w w0 ∧ w.heap.size ≤ w0.heap.size ∧ Blk w0 w.heap.size 23 (two a) ∧ Blk w0 (w.heap.size + 1) 23 (two b)) := by
    rw [← hw0]
    exact ⟨((Below.refl _ _).alloc (Nat.le_refl _) _).alloc (by simp) _, by simp; omega, (Blk.new _ _ _).alloc _, Blk.newAt _ _ _ (by simp)⟩
  rw [hw0]
  clear hw0
  refine (HPEN.out _).mono ?_
  rintro e w' ⟨rfl, rfl⟩
  have ka := S0.out.2.2.1
  have a0 := ka.p0
  have a1 := ka.p1
  clear ka
  go_wp2_with fail
  refine (HIA.out _).mono ?_
  rintro e w1 ⟨rfl, hb⟩
  have S1 : Hid (Below w.heap.size w w1 ∧ w.heap.size ≤ w1.heap.size ∧ Blk w1 w.heap.size 23 (two a) ∧ Blk w1 (w.heap.size + 1) 23 (two b)) := ⟨S0.out.1.trans (hb.mono S0.out.2.1), Nat.le_trans S0.out.2.1 hb.size, S0.out.2.2.1.grow hb, S0.out.2.2.2.grow hb⟩
  clear hb a0 a1 S0
  have kb := S1.out.2.2.2
  have b0 := kb.p0
  have b1 := kb.p1
  clear kb
  go_wp2_with fail
  refine (HIB.out _).mono ?_
  rintro e w2 ⟨rfl, hb⟩
  have S2 : Hid (Below w.heap.size w w2 ∧ w.heap.size ≤ w2.heap.size ∧ Blk w2 w.heap.size 23 (two a) ∧ Blk w2 (w.heap.size + 1) 23 (two b)) := ⟨S1.out.1.trans (hb.mono S1.out.2.1), Nat.le_trans S1.out.2.1 hb.size, S1.out.2.2.1.grow hb, S1.out.2.2.2.grow hb⟩
  clear hb b0 b1 S1
  have ka := S2.out.2.2.1
  have a0 := ka.p0
  have a1 := ka.p1
  have kb := S2.out.2.2.2
  have b0 := kb.p0
  have b1 := kb.p1
  clear ka kb
  go_wp2_with fail
  go_ret2
  exact ⟨_, rfl, Own.nil _ _ _, S2.out.1⟩
set_option maxHeartbeats 1000000 in
set_option maxRecDepth 100000 in
theorem bar_far1 (a b : Pt) (h : Int) (w : World) (HPEN : Hid (∀ w, Calls Tryd.prog 25 #[.int .i64 h] w fun e w' => e = .returned (.bool true) ∧ w = w')) (HIA : Hid (∀ w, Calls Tryd.prog 26 #[.agg #[.int .i64 a.1, .int .i64 a.2]] w fun e w' => e = .returned (.bool true) ∧ Below w.heap.size w w')) (HIB : Hid (∀ w, Calls Tryd.prog 26 #[.agg #[.int .i64 b.1, .int .i64 b.2]] w fun e w' => e = .returned (.bool true) ∧ Below w.heap.size w w')) (hx : ¬ a.1 = b.1) (HW : Hid (∀ w, Calls Tryd.prog 55 #[.agg #[.int .i64 a.1, .int .i64 a.2], .agg #[.int .i64 b.1, .int .i64 b.2]] w fun e w' => e = .returned (.tuple #[.agg #[.int .i64 0, .int .i64 0], .int .i64 10]) ∧ Below w.heap.size w w')) :
    Calls Tryd.prog 23 #[.agg #[.int .i64 a.1, .int .i64 a.2], .agg #[.int .i64 b.1, .int .i64 b.2], .int .i64 h] w (ToldP w (10, [])) := by
  go_enter Tryd.func23, Tryd.ntmps23
  go_wp2_with fail
  obtain ⟨w0, hw0⟩ : ∃ W, (w.alloc (.cells #[.int .i64 a.1, .int .i64 a.2] 23)).alloc (.cells #[.int .i64 b.1, .int .i64 b.2] 23) = W := ⟨_, rfl⟩
  have S0 : Hid (Below w.heap.size w w0 ∧ w.heap.size ≤ w0.heap.size ∧ Blk w0 w.heap.size 23 (two a) ∧ Blk w0 (w.heap.size + 1) 23 (two b)) := by
    rw [← hw0]
    exact ⟨((Below.refl _ _).alloc (Nat.le_refl _) _).alloc (by simp) _, by simp; omega, (Blk.new _ _ _).alloc _, Blk.newAt _ _ _ (by simp)⟩
  rw [hw0]
  clear hw0
  refine (HPEN.out _).mono ?_
  rintro e w' ⟨rfl, rfl⟩
  have ka := S0.out.2.2.1
  have a0 := ka.p0
  have a1 := ka.p1
  clear ka
  go_wp2_with fail
  refine (HIA.out _).mono ?_
  rintro e w1 ⟨rfl, hb⟩
  have S1 : Hid (Below w.heap.size w w1 ∧ w.heap.size ≤ w1.heap.size ∧ Blk w1 w.heap.size 23 (two a) ∧ Blk w1 (w.heap.size + 1) 23 (two b)) := ⟨S0.out.1.trans (hb.mono S0.out.2.1), Nat.le_trans S0.out.2.1 hb.size, S0.out.2.2.1.grow hb, S0.out.2.2.2.grow hb⟩
  clear hb a0 a1 S0
  have kb := S1.out.2.2.2
  have b0 := kb.p0
  have b1 := kb.p1
  clear kb
  go_wp2_with fail
  refine (HIB.out _).mono ?_
  rintro e w2 ⟨rfl, hb⟩
  have S2 : Hid (Below w.heap.size w w2 ∧ w.heap.size ≤ w2.heap.size ∧ Blk w2 w.heap.size 23 (two a) ∧ Blk w2 (w.heap.size + 1) 23 (two b)) := ⟨S1.out.1.trans (hb.mono S1.out.2.1), Nat.le_trans S1.out.2.1 hb.size, S1.out.2.2.1.grow hb, S1.out.2.2.2.grow hb⟩
  clear hb b0 b1 S1
  have ka := S2.out.2.2.1
  have a0 := ka.p0
  have a1 := ka.p1
  have kb := S2.out.2.2.2
  have b0 := kb.p0
  have b1 := kb.p1
  clear ka kb
  go_wp2_with fail
  refine (HW.out _).mono ?_
  rintro e w3 ⟨rfl, hb⟩
  have S3 : Hid (Below w.heap.size w w3 ∧ w.heap.size ≤ w3.heap.size ∧ Blk w3 w.heap.size 23 (two a) ∧ Blk w3 (w.heap.size + 1) 23 (two b)) := ⟨S2.out.1.trans (hb.mono S2.out.2.1), Nat.le_trans S2.out.2.1 hb.size, S2.out.2.2.1.grow hb, S2.out.2.2.2.grow hb⟩
  clear hb a0 a1 b0 b1 S2
  go_wp2_with fail
  go_ret2
  exact ⟨_, rfl, Own.nil _ _ _, S3.out.1.alloc S3.out.2.1 _⟩
set_option maxHeartbeats 1000000 in
set_option maxRecDepth 100000 in
theorem bar_far2 (a b : Pt) (h : Int) (w : World) (HPEN : Hid (∀ w, Calls Tryd.prog 25 #[.int .i64 h] w fun e w' => e = .returned (.bool true) ∧ w = w')) (HIA : Hid (∀ w, Calls Tryd.prog 26 #[.agg #[.int .i64 a.1, .int .i64 a.2]] w fun e w' => e = .returned (.bool true) ∧ Below w.heap.size w w')) (HIB : Hid (∀ w, Calls Tryd.prog 26 #[.agg #[.int .i64 b.1, .int .i64 b.2]] w fun e w' => e = .returned (.bool true) ∧ Below w.heap.size w w')) (_hx : a.1 = b.1 ↔ True) (hy : ¬ a.2 = b.2) (HW : Hid (∀ w, Calls Tryd.prog 55 #[.agg #[.int .i64 a.1, .int .i64 a.2], .agg #[.int .i64 b.1, .int .i64 b.2]] w fun e w' => e = .returned (.tuple #[.agg #[.int .i64 0, .int .i64 0], .int .i64 10]) ∧ Below w.heap.size w w')) :
    Calls Tryd.prog 23 #[.agg #[.int .i64 a.1, .int .i64 a.2], .agg #[.int .i64 b.1, .int .i64 b.2], .int .i64 h] w (ToldP w (10, [])) := by
  go_enter Tryd.func23, Tryd.ntmps23
  go_wp2_with fail
  obtain ⟨w0, hw0⟩ : ∃ W, (w.alloc (.cells #[.int .i64 a.1, .int .i64 a.2] 23)).alloc (.cells #[.int .i64 b.1, .int .i64 b.2] 23) = W := ⟨_, rfl⟩
  have S0 : Hid (Below w.heap.size w w0 ∧ w.heap.size ≤ w0.heap.size ∧ Blk w0 w.heap.size 23 (two a) ∧ Blk w0 (w.heap.size + 1) 23 (two b)) := by
    rw [← hw0]
    exact ⟨((Below.refl _ _).alloc (Nat.le_refl _) _).alloc (by simp) _, by simp; omega, (Blk.new _ _ _).alloc _, Blk.newAt _ _ _ (by simp)⟩
  rw [hw0]
  clear hw0
  refine (HPEN.out _).mono ?_
  rintro e w' ⟨rfl, rfl⟩
  have ka := S0.out.2.2.1
  have a0 := ka.p0
  have a1 := ka.p1
  clear ka
  go_wp2_with fail
  refine (HIA.out _).mono ?_
  rintro e w1 ⟨rfl, hb⟩
  have S1 : Hid (Below w.heap.size w w1 ∧ w.heap.size ≤ w1.heap.size ∧ Blk w1 w.heap.size 23 (two a) ∧ Blk w1 (w.heap.size + 1) 23 (two b)) := ⟨S0.out.1.trans (hb.mono S0.out.2.1), Nat.le_trans S0.out.2.1 hb.size, S0.out.2.2.1.grow hb, S0.out.2.2.2.grow hb⟩
  clear hb a0 a1 S0
  have kb := S1.out.2.2.2
  have b0 := kb.p0
  have b1 := kb.p1
  clear kb
  go_wp2_with fail
  refine (HIB.out _).mono ?_
  rintro e w2 ⟨rfl, hb⟩
  have S2 : Hid (Below w.heap.size w w2 ∧ w.heap.size ≤ w2.heap.size ∧ Blk w2 w.heap.size 23 (two a) ∧ Blk w2 (w.heap.size + 1) 23 (two b)) := ⟨S1.out.1.trans (hb.mono S1.out.2.1), Nat.le_trans S1.out.2.1 hb.size, S1.out.2.2.1.grow hb, S1.out.2.2.2.grow hb⟩
  clear hb b0 b1 S1
  have ka := S2.out.2.2.1
  have a0 := ka.p0
  have a1 := ka.p1
  have kb := S2.out.2.2.2
  have b0 := kb.p0
  have b1 := kb.p1
  clear ka kb
  go_wp2_with fail
  refine (HW.out _).mono ?_
  rintro e w3 ⟨rfl, hb⟩
  have S3 : Hid (Below w.heap.size w w3 ∧ w.heap.size ≤ w3.heap.size ∧ Blk w3 w.heap.size 23 (two a) ∧ Blk w3 (w.heap.size + 1) 23 (two b)) := ⟨S2.out.1.trans (hb.mono S2.out.2.1), Nat.le_trans S2.out.2.1 hb.size, S2.out.2.2.1.grow hb, S2.out.2.2.2.grow hb⟩
  clear hb a0 a1 b0 b1 S2
  go_wp2_with fail
  go_ret2
  exact ⟨_, rfl, Own.nil _ _ _, S3.out.1.alloc S3.out.2.1 _⟩
theorem bar_c (a b : Pt) (h : Int) (w : World) : Calls Tryd.prog 23 #[.agg #[.int .i64 a.1, .int .i64 a.2], .agg #[.int .i64 b.1, .int .i64 b.2], .int .i64 h] w (ToldP w (barOut a b h)) := by
  have HPEN := Lib.hid (pen_c h)
  have HIA := Lib.hid (ptIn_c a.1 a.2)
  have HIB := Lib.hid (ptIn_c b.1 b.2)
  rw [show (room a.1 && room a.2) = roomP a from rfl] at HIA
  rw [show (room b.1 && room b.2) = roomP b from rfl] at HIB
  unfold barOut
  cases hp : penB h
  · rw [hp] at HPEN
    exact bar_pen a b h w HPEN
  rw [hp] at HPEN
  cases ha : roomP a
  · rw [ha] at HIA
    exact bar_a a b h w HPEN HIA
  rw [ha] at HIA
  cases hb : roomP b
  · rw [hb] at HIB
    exact bar_b a b h w HPEN HIA HIB
  rw [hb] at HIB
  by_cases hab : a = b
  · rw [decide_eq_true hab]
    exact bar_same a b h w HPEN HIA HIB ⟨fun _ => trivial, fun _ => by rw [hab]⟩ ⟨fun _ => trivial, fun _ => by rw [hab]⟩
  · rw [decide_eq_false hab]
    show Calls _ _ _ _ (ToldP w (barIn a b h))
    unfold barIn
    have hc : ¬ a.1 = b.1 ∨ (a.1 = b.1 ∧ ¬ a.2 = b.2) := by
      by_cases h1 : a.1 = b.1
      · right; exact ⟨h1, fun h2 => hab (Prod.ext h1 h2)⟩
      · left; exact h1
    cases hl : lenB (subP b a)
    · have HW := Lib.hid (way_no a b ha hb (lenB_no hl))
      rcases hc with h1 | ⟨h1, h2⟩
      · exact bar_far1 a b h w HPEN HIA HIB h1 HW
      · exact bar_far2 a b h w HPEN HIA HIB ⟨fun _ => trivial, fun _ => h1⟩ h2 HW
    · have hlo := lenB_iff.1 hl
      have hk := penB_iff.1 hp
      have HW := Lib.hid (way_c a b ha hb hlo)
      have hne := ne_sub hab
      have hm := mid_step hlo hne (k := h) (by omega) hk.2
      have HSI := Lib.hid (side_c7 (subP b a) h hlo hne hk)
      have HSL := Lib.hid (slab_c a b (stepS (subP b a) h) (mid_of_room ha) (mid_of_room hb) hm.1)
      rcases hc with h1 | ⟨h1, h2⟩
      · exact bar_walk1 a b _ _ h w h1 HPEN HIA HIB HW HSI HSL
      · exact bar_walk2 a b _ _ h w ⟨fun _ => trivial, fun _ => h1⟩ h2 HPEN HIA HIB HW HSI HSL
end Go.Proofs.YtdidbejinfkhbaaDoor
