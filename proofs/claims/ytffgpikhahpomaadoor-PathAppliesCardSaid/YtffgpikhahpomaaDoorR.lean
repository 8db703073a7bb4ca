/- Layer 5: rowOf, parted, list, end, of curves as lists; Halves. -/
import Derived.Test.YtffgpikhahpomaaDoorP3
import Derived.Test.YtffgpikhahpomaaDoorP4
import Derived.Test.YtffgpikhahpomaaDoorQ
namespace Go.Proofs.YtffgpikhahpomaaDoor
open Go.RowKit
/-- The row of a curve. -/
def ro : List Pt → Ro
  | [p, q, r] => ⟨p, q, r, zP, 3⟩
  | [p, q, r, s] => ⟨p, q, r, s, 4⟩
  | _ => ⟨zP, zP, zP, zP, 0⟩
theorem zP_room : roomP zP = true := by decide
theorem parted_three (p q r : Pt) (w : World) (hp : roomP p = true) (hq : roomP q = true) (hr : roomP r = true) :
    Calls Tryd.prog 66 #[.agg (nine p q r zP 3)] w fun e w' => e = .returned (.tuple #[.agg (ro (firstI [p, q, r])).cells, .agg (ro (secondI [p, q, r])).cells]) ∧ Below w.heap.size w w' := by
  have ha := midI_room hp hq
  have hb := midI_room hq hr
  exact parted_three_walk p q r (midI p q) (midI q r) (midI (midI p q) (midI q r)) w
    (Lib.hid fun w => middles_three p q r zP _ _ w (Lib.hid fun w => mid_c _ _ _ _ w hp hq) (Lib.hid fun w => mid_c _ _ _ _ w hq hr))
    (Lib.hid fun w => middles_two (midI p q) (midI q r) zP zP _ w (Lib.hid fun w => mid_c _ _ _ _ w ha hb))
    (Lib.hid fun w => middles_one _ zP zP zP w)
theorem parted_four (p q r s : Pt) (w : World) (hp : roomP p = true) (hq : roomP q = true) (hr : roomP r = true) (hs : roomP s = true) :
    Calls Tryd.prog 66 #[.agg (nine p q r s 4)] w fun e w' => e = .returned (.tuple #[.agg (ro (firstI [p, q, r, s])).cells, .agg (ro (secondI [p, q, r, s])).cells]) ∧ Below w.heap.size w w' := by
  have ha := midI_room hp hq
  have hb := midI_room hq hr
  have hc := midI_room hr hs
  have hd := midI_room ha hb
  have he := midI_room hb hc
  exact parted_four_walk p q r s (midI p q) (midI q r) (midI r s) (midI (midI p q) (midI q r)) (midI (midI q r) (midI r s)) (midI (midI (midI p q) (midI q r)) (midI (midI q r) (midI r s))) w
    (Lib.hid fun w => middles_four p q r s _ _ _ w (Lib.hid fun w => mid_c _ _ _ _ w hp hq) (Lib.hid fun w => mid_c _ _ _ _ w hq hr) (Lib.hid fun w => mid_c _ _ _ _ w hr hs))
    (Lib.hid fun w => middles_three _ _ _ zP _ _ w (Lib.hid fun w => mid_c _ _ _ _ w ha hb) (Lib.hid fun w => mid_c _ _ _ _ w hb hc))
    (Lib.hid fun w => middles_two _ _ zP zP _ w (Lib.hid fun w => mid_c _ _ _ _ w hd he))
    (Lib.hid fun w => middles_one _ zP zP zP w)
theorem parted_c (l : List Pt) (h : curveB l = true) (w : World) : Calls Tryd.prog 66 #[.agg (ro l).cells] w fun e w' => e = .returned (.tuple #[.agg (ro (firstI l)).cells, .agg (ro (secondI l)).cells]) ∧ Below w.heap.size w w' := by
  rcases curve_cases h with ⟨p, q, r, rfl, hp, hq, hr⟩ | ⟨p, q, r, s, rfl, hp, hq, hr, hs⟩
  · exact parted_three p q r w hp hq hr
  · exact parted_four p q r s w hp hq hr hs
theorem list_c (l : List Pt) (h : curveB l = true) (w : World) : Calls Tryd.prog 68 #[.agg (ro l).cells] w fun e w' => ∃ v, e = .returned v ∧ Own w' w.heap.size 44 v l ∧ Below w.heap.size w w' := by
  rcases curve_cases h with ⟨p, q, r, rfl, _⟩ | ⟨p, q, r, s, rfl, _⟩
  · exact list_three p q r zP w
  · exact list_four p q r s w
theorem end_c (l : List Pt) (h : curveB l = true) (w : World) : Calls Tryd.prog 65 #[.agg (ro l).cells] w fun e w' => e = .returned (.agg (two (l.getLastD (0, 0)))) ∧ Below w.heap.size w w' := by
  rcases curve_cases h with ⟨p, q, r, rfl, _⟩ | ⟨p, q, r, s, rfl, _⟩
  · exact end_three p q r zP w
  · exact end_four p q r s w
theorem rowOf_c (s : Value) (l : List Pt) (h : curveB l = true) (w : World) (hr : Row w s l) : Calls Tryd.prog 64 #[s] w fun e w' => e = .returned (.agg (ro l).cells) ∧ Below w.heap.size w w' := by
  obtain ⟨ao, c, rfl⟩ := hr.shape
  rcases curve_cases h with ⟨p, q, r, rfl, _⟩ | ⟨p, q, r, s, rfl, _⟩
  · obtain ⟨b, o, rfl, hb, hp⟩ := hr.addr (k := 0) (by simp)
    exact rowOf_three p q r w b o c hb hp
  · obtain ⟨b, o, rfl, hb, hp⟩ := hr.addr (k := 0) (by simp)
    exact rowOf_four p q r s w b o c hb hp
set_option maxHeartbeats 1000000 in
set_option maxRecDepth 100000 in
theorem halves_no (v : Value) (l : List Pt) (w : World) (row : Row w v l) (h : curveB l = false) : Calls Tryd.prog 59 #[v] w fun e w' => e = .returned (.tuple #[.slice none 0 0, .slice none 0 0, .int .i64 30]) ∧ Below w.heap.size w w' := by
  have HC := Lib.hid (isCurve_c v l w row)
  rw [h] at HC
  clear row
  go_enter Tryd.func59, Tryd.ntmps59
  go_wp2_with fail
  refine HC.out.mono ?_
  rintro e w1 ⟨rfl, hb⟩
  go_wp2_with fail
  refine bodyPost_ret (results_tmp3 rfl _ _ _) rfl ⟨rfl, hb⟩
set_option maxHeartbeats 2000000 in
set_option maxRecDepth 100000 in
theorem halves_walk (v : Value) (a b : List Pt) (w : World) (x y z : Ro)
    (HC : Hid (Calls Tryd.prog 63 #[v] w fun e w' => e = .returned (.bool true) ∧ Below w.heap.size w w'))
    (HR : Hid (∀ w', Below w.heap.size w w' → Calls Tryd.prog 64 #[v] w' fun e w'' => e = .returned (.agg x.cells) ∧ Below w'.heap.size w' w''))
    (HP : Hid (∀ w', Calls Tryd.prog 66 #[.agg x.cells] w' fun e w'' => e = .returned (.tuple #[.agg (nine y.p y.q y.r y.s y.n), .agg (nine z.p z.q z.r z.s z.n)]) ∧ Below w'.heap.size w' w''))
    (HA : Hid (∀ w', Calls Tryd.prog 68 #[.agg (nine y.p y.q y.r y.s y.n)] w' fun e w'' => ∃ u, e = .returned u ∧ Own w'' w'.heap.size 44 u a ∧ Below w'.heap.size w' w''))
    (HB : Hid (∀ w', Calls Tryd.prog 68 #[.agg (nine z.p z.q z.r z.s z.n)] w' fun e w'' => ∃ u, e = .returned u ∧ Own w'' w'.heap.size 44 u b ∧ Below w'.heap.size w' w'')) :
    Calls Tryd.prog 59 #[v] w fun e w' => ∃ s u, e = .returned (.tuple #[s, u, .int .i64 0]) ∧ Own w' w.heap.size 44 s a ∧ Own w' w.heap.size 44 u b ∧ Below w.heap.size w w' := by
  obtain ⟨n, hn⟩ : ∃ n, w.heap.size = n := ⟨_, rfl⟩
  rw [hn] at HC HR ⊢
  have HN := Lib.hid hn
  clear hn
  go_enter Tryd.func59, Tryd.ntmps59
  go_wp2_with fail
  refine HC.out.mono ?_
  rintro e w1 ⟨rfl, hb⟩
  have B1 := Lib.hid hb
  clear hb
  go_wp2_with fail
  refine (HR.out _ B1.out).mono ?_
  rintro e w2 ⟨rfl, hb⟩
  have B2 : Hid (Below n w w2 ∧ n ≤ w2.heap.size) := by
    have h1 := B1.out.size; have h2 := hb.size
    exact ⟨B1.out.trans (hb.mono (by have := HN.out; omega)), by have := HN.out; omega⟩
  clear hb
  go_wp2_with fail
  refine (HP.out _).mono ?_
  rintro e w3 ⟨rfl, hb⟩
  have B3 : Hid (Below n w w3 ∧ n ≤ w3.heap.size) := by
    have h2 := hb.size
    exact ⟨B2.out.1.trans (hb.mono B2.out.2), Nat.le_trans B2.out.2 h2⟩
  clear hb
  have SW : Hid ((Below n w ((w3.alloc (.cells y.cells 112)).alloc (.cells z.cells 112)) ∧ n ≤ ((w3.alloc (.cells y.cells 112)).alloc (.cells z.cells 112)).heap.size) ∧ (∀ s ∈ ([] : List Stor), Blk ((w3.alloc (.cells y.cells 112)).alloc (.cells z.cells 112)) s.g s.t s.z) ∧ Lays ((w3.alloc (.cells y.cells 112)).alloc (.cells z.cells 112)) [(w3.heap.size + 1, 112, z.cells), (w3.heap.size, 112, y.cells)]) :=
    ⟨⟨(B3.out.1.alloc B3.out.2 _).alloc (by have := B3.out.2; simp; omega) _, by have := B3.out.2; simp; omega⟩, fun s hs => (by cases hs), Blk.newAt _ _ _ (by simp), (Blk.newAt _ _ _ rfl).alloc _, trivial⟩
  go_wp2_with fail
  refine wp_region_put (by kernel_rfl) (by kernel_rfl) (by kernel_rfl) (fun b' vs w' => (b' 0 = true → vs 0 = .agg (nine y.p y.q y.r y.s y.n)) ∧ (b' 2 = true → vs 2 = .agg (nine z.p z.q z.r z.s z.n)) ∧ (b' 6 = true → vs 6 = .int .i64 0) ∧ Hid (RegM n w [⟨1, 44, a⟩, ⟨3, 44, b⟩, ⟨4, 44, a⟩, ⟨5, 44, b⟩] [] [(w3.heap.size + 1, 112, z.cells), (w3.heap.size, 112, y.cells)] b' vs w')) ?_ ?_ ?_
  · intro vs
    exact ⟨fun h => Bool.noConfusion h, fun h => Bool.noConfusion h, fun h => Bool.noConfusion h, RegM.start (SW.out) vs⟩
  · rintro b' vs w' i op hi hun hall ⟨h0, h2, h6, hM⟩
    have hil : i < 7 := (List.getElem?_eq_some_iff.1 hi).1
    rcases i with _ | _ | _ | _ | _ | _ | _ | i
    · obtain rfl := Option.some.inj hi
      have c0 := (RegM.lays hM.out).2.1.r0
      have c1 := (RegM.lays hM.out).2.1.r1
      have c2 := (RegM.lays hM.out).2.1.r2
      have c3 := (RegM.lays hM.out).2.1.r3
      have c4 := (RegM.lays hM.out).2.1.r4
      have c5 := (RegM.lays hM.out).2.1.r5
      have c6 := (RegM.lays hM.out).2.1.r6
      have c7 := (RegM.lays hM.out).2.1.r7
      have c8 := (RegM.lays hM.out).2.1.r8
      refine wpOp_step rfl (fun K hK => ?_)
      have HKK := Lib.hid hK; clear hK
      simp only [putAll, Act.put, List.setIfInBounds_toArray, List.set_cons_zero, List.set_cons_succ]
      go_simp
      exact HKK.out _ _ ⟨_, by simp only [putAll, Act.put, List.setIfInBounds_toArray, List.set_cons_zero, List.set_cons_succ] <;> rfl, fun _ => rfl, h2, h6, RegM.other hM.out 0 _ rfl⟩
    · obtain rfl := Option.some.inj hi
      have d0 := h0 (hall ⟨0, .data⟩ (by simp) rfl)
      refine wpOp_step rfl (fun K hK => ?_)
      have HKK := Lib.hid hK; clear hK
      simp only [putAll, Act.put, List.setIfInBounds_toArray, List.set_cons_zero, List.set_cons_succ]
      go_simp
      refine (HA.out _).mono ?_
      rintro e w2 ⟨v2, rfl, ho2, hb2⟩
      have hn2 : n ≤ w'.heap.size := hM.out.1.2
      exact HKK.out _ _ ⟨_, by simp only [putAll, Act.put, List.setIfInBounds_toArray, List.set_cons_zero, List.set_cons_succ, d0] <;> rfl, h0, h2, h6, (RegM.grow hM.out hb2).made ⟨1, 44, a⟩ v2 (ho2.base hn2) (by simp) rfl⟩
    · obtain rfl := Option.some.inj hi
      have c0 := (RegM.lays hM.out).1.r0
      have c1 := (RegM.lays hM.out).1.r1
      have c2 := (RegM.lays hM.out).1.r2
      have c3 := (RegM.lays hM.out).1.r3
      have c4 := (RegM.lays hM.out).1.r4
      have c5 := (RegM.lays hM.out).1.r5
      have c6 := (RegM.lays hM.out).1.r6
      have c7 := (RegM.lays hM.out).1.r7
      have c8 := (RegM.lays hM.out).1.r8
      refine wpOp_step rfl (fun K hK => ?_)
      have HKK := Lib.hid hK; clear hK
      simp only [putAll, Act.put, List.setIfInBounds_toArray, List.set_cons_zero, List.set_cons_succ]
      go_simp
      exact HKK.out _ _ ⟨_, by simp only [putAll, Act.put, List.setIfInBounds_toArray, List.set_cons_zero, List.set_cons_succ] <;> rfl, h0, fun _ => rfl, h6, RegM.other hM.out 2 _ rfl⟩
    · obtain rfl := Option.some.inj hi
      have d2 := h2 (hall ⟨2, .data⟩ (by simp) rfl)
      refine wpOp_step rfl (fun K hK => ?_)
      have HKK := Lib.hid hK; clear hK
      simp only [putAll, Act.put, List.setIfInBounds_toArray, List.set_cons_zero, List.set_cons_succ]
      go_simp
      refine (HB.out _).mono ?_
      rintro e w2 ⟨v2, rfl, ho2, hb2⟩
      have hn2 : n ≤ w'.heap.size := hM.out.1.2
      exact HKK.out _ _ ⟨_, by simp only [putAll, Act.put, List.setIfInBounds_toArray, List.set_cons_zero, List.set_cons_succ, d2] <;> rfl, h0, h2, h6, (RegM.grow hM.out hb2).made ⟨3, 44, b⟩ v2 (ho2.base hn2) (by simp) rfl⟩
    · obtain rfl := Option.some.inj hi
      have o1 := RegM.row hM.out ⟨1, 44, a⟩ (by simp) (hall ⟨1, .data⟩ (by simp) rfl)
      refine wpOp_step rfl (fun K hK => ?_)
      have HKK := Lib.hid hK; clear hK
      simp only [putAll, Act.put, List.setIfInBounds_toArray, List.set_cons_zero, List.set_cons_succ]
      go_simp
      exact HKK.out _ _ ⟨_, by simp only [putAll, Act.put, List.setIfInBounds_toArray, List.set_cons_zero, List.set_cons_succ] <;> rfl, h0, h2, h6, RegM.made hM.out ⟨4, 44, a⟩ (vs 1) o1 (by simp) rfl⟩
    · obtain rfl := Option.some.inj hi
      have o3 := RegM.row hM.out ⟨3, 44, b⟩ (by simp) (hall ⟨3, .data⟩ (by simp) rfl)
      refine wpOp_step rfl (fun K hK => ?_)
      have HKK := Lib.hid hK; clear hK
      simp only [putAll, Act.put, List.setIfInBounds_toArray, List.set_cons_zero, List.set_cons_succ]
      go_simp
      exact HKK.out _ _ ⟨_, by simp only [putAll, Act.put, List.setIfInBounds_toArray, List.set_cons_zero, List.set_cons_succ] <;> rfl, h0, h2, h6, RegM.made hM.out ⟨5, 44, b⟩ (vs 3) o3 (by simp) rfl⟩
    · obtain rfl := Option.some.inj hi
      refine wpOp_step rfl (fun K hK => ?_)
      have HKK := Lib.hid hK; clear hK
      simp only [putAll, Act.put, List.setIfInBounds_toArray, List.set_cons_zero, List.set_cons_succ]
      go_simp
      exact HKK.out _ _ ⟨_, by simp only [putAll, Act.put, List.setIfInBounds_toArray, List.set_cons_zero, List.set_cons_succ] <;> rfl, h0, h2, fun _ => rfl, RegM.other hM.out 6 _ rfl⟩
    · omega
  · rintro b' vs w2 hall ⟨h0, h2, h6, hM⟩
    have d0 := h0 (hall 0 (by simp))
    have d2 := h2 (hall 2 (by simp))
    have d6 := h6 (hall 6 (by simp))
    have o1 := RegM.row hM.out ⟨1, 44, a⟩ (by simp) (hall 1 (by simp))
    have o3 := RegM.row hM.out ⟨3, 44, b⟩ (by simp) (hall 3 (by simp))
    have o4 := RegM.row hM.out ⟨4, 44, a⟩ (by simp) (hall 4 (by simp))
    have o5 := RegM.row hM.out ⟨5, 44, b⟩ (by simp) (hall 5 (by simp))
    have LS := Lib.hid (RegM.lays hM.out)
    have BB := Lib.hid (RegM.below hM.out)
    have BN := hM.out.1.2
    simp only [putAll, Act.put, List.setIfInBounds_toArray, List.set_cons_zero, List.set_cons_succ, d0, d2, d6]
    clear h0 d0 h2 d2 h6 d6
    go_wp2_with fail
    refine bodyPost_ret (results_tmp3 rfl _ _ _) rfl ⟨_, _, rfl, o4, o5, BB.out⟩
theorem halves_c (v : Value) (l : List Pt) (w : World) (row : Row w v l) (h : curveB l = true) : Calls Tryd.prog 59 #[v] w fun e w' => ∃ s u, e = .returned (.tuple #[s, u, .int .i64 0]) ∧ Own w' w.heap.size 44 s (firstI l) ∧ Own w' w.heap.size 44 u (secondI l) ∧ Below w.heap.size w w' :=
  halves_walk v (firstI l) (secondI l) w (ro l) (ro (firstI l)) (ro (secondI l)) (Lib.hid (h ▸ isCurve_c v l w row)) (Lib.hid fun w' hb => rowOf_c v l h w' (row.on hb)) (Lib.hid fun w' => parted_c l h w') (Lib.hid fun w' => list_c _ (firstI_curve h).1 w') (Lib.hid fun w' => list_c _ (secondI_curve h).1 w')
end Go.Proofs.YtffgpikhahpomaaDoor

