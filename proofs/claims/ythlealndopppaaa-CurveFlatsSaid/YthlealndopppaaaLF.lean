/- The law CurveFlats. -/
import Derived.Test.YthlealndopppaaaY
import Derived.Test.YthlealndopppaaaO
import Derived.Test.YthlealndopppaaaZ
import Derived.Test.YthlealndopppaaaF
import Derived.Test.YthlealndopppaaaH
namespace Go.Proofs.Ythlealndopppaaa
open Go.RowKit
theorem Row.ptsOf {W : World} {bb o N c : Nat} {L : List Pt} (h : Row W (.slice (some ⟨bb, o, none⟩) N c) L) (hL : L ≠ []) : PtsAt W bb o L := by
  rcases h with ⟨_, e⟩ | ⟨_, _, _, e⟩ | ⟨b, o', c', e, _, hp⟩
  · exact absurd e hL
  · exact absurd e hL
  · simp at e
    obtain ⟨⟨rfl, rfl⟩, _⟩ := e
    exact hp
set_option maxHeartbeats 2000000 in
set_option maxRecDepth 100000 in
theorem flats_long (w : World) (ao : Option Addr) (n c : Nat) (d : Int) (hn : 100 < n) : Calls Try.prog 4 #[.slice ao n c, .int .i64 d] w fun e w' => e = .returned (.bool true) ∧ Below w.heap.size w w' := by
  have HAW := Lib.hid awake_c
  have hd : decide ((n : Int) > 100) = true := decide_eq_true (by omega)
  clear hn
  go_enter Try.func4, Try.ntmps4
  go_wp2_with fail
  refine (HAW.out _).mono ?_
  rintro e w1 ⟨rfl, hb⟩
  have B1 := Lib.hid hb
  clear hb
  go_wp2_with fail
  go_ret
  exact ⟨rfl, B1.out⟩
set_option maxHeartbeats 2000000 in
set_option maxRecDepth 100000 in
theorem flats_no (w : World) (ao : Option Addr) (n c : Nat) (d : Int) (r : Bool) (hn : n ≤ 100) (hr : r = false ∨ d < 0 ∨ 6 < d)
    (HF : Hid (Calls Try.prog 17 #[.slice ao n c, .int .i64 d] w fun e w' => e = .returned (.tuple #[.slice none 0 0, .int .i64 30]) ∧ Below w.heap.size w w'))
    (HR : Hid (∀ w', Below w.heap.size w w' → Calls Try.prog 13 #[.slice ao n c] w' fun e w'' => e = .returned (.bool r) ∧ Below w'.heap.size w' w'')) :
    Calls Try.prog 4 #[.slice ao n c, .int .i64 d] w fun e w' => e = .returned (.bool true) ∧ Below w.heap.size w w' := by
  have HAW := Lib.hid awake_c
  have hd : decide ((n : Int) > 100) = false := decide_eq_false (by omega)
  clear hn
  cases r
  · clear hr
    go_enter Try.func4, Try.ntmps4
    go_wp2_with fail
    refine HF.out.mono ?_
    rintro e w1 ⟨rfl, hb⟩
    have B1 := Lib.hid hb
    clear hb
    go_wp2_with fail
    refine (HR.out _ B1.out).mono ?_
    rintro e w2 ⟨rfl, hb⟩
    have B2 : Hid (Below w.heap.size w w2) := below_next B1.out hb
    clear hb
    go_wp2_with fail
    refine (HAW.out _).mono ?_
    rintro e w3 ⟨rfl, hb⟩
    have B3 : Hid (Below w.heap.size w w3) := below_next B2.out hb
    clear hb
    go_wp2_with fail
    go_ret
    exact ⟨rfl, B3.out⟩
  · by_cases h0 : d < 0
    · have d0 : decide (d < 0) = true := decide_eq_true h0
      clear hr
      go_enter Try.func4, Try.ntmps4
      go_wp2_with fail
      refine HF.out.mono ?_
      rintro e w1 ⟨rfl, hb⟩
      have B1 := Lib.hid hb
      clear hb
      go_wp2_with fail
      refine (HR.out _ B1.out).mono ?_
      rintro e w2 ⟨rfl, hb⟩
      have B2 : Hid (Below w.heap.size w w2) := below_next B1.out hb
      clear hb
      go_wp2_with fail
      refine (HAW.out _).mono ?_
      rintro e w3 ⟨rfl, hb⟩
      have B3 : Hid (Below w.heap.size w w3) := below_next B2.out hb
      clear hb
      go_wp2_with fail
      go_ret
      exact ⟨rfl, B3.out⟩
    · have d0 : decide (d < 0) = false := decide_eq_false h0
      have d6 : decide (d > 6) = true := decide_eq_true (by simp at hr; omega)
      clear hr
      go_enter Try.func4, Try.ntmps4
      go_wp2_with fail
      refine HF.out.mono ?_
      rintro e w1 ⟨rfl, hb⟩
      have B1 := Lib.hid hb
      clear hb
      go_wp2_with fail
      refine (HR.out _ B1.out).mono ?_
      rintro e w2 ⟨rfl, hb⟩
      have B2 : Hid (Below w.heap.size w w2) := below_next B1.out hb
      clear hb
      go_wp2_with fail
      refine (HAW.out _).mono ?_
      rintro e w3 ⟨rfl, hb⟩
      have B3 : Hid (Below w.heap.size w w3) := below_next B2.out hb
      clear hb
      go_wp2_with fail
      go_ret
      exact ⟨rfl, B3.out⟩
set_option maxHeartbeats 4000000 in
set_option maxRecDepth 100000 in
theorem flats_walk (w : World) (b o N c : Nat) (l FL : List Pt) (D M Mm m : Nat) (z : Pt) (hN : N ≤ 100) (hD : D ≤ 6) (hmN : m < N) (hMm : Mm < M) (eN : IntKind.i64.wrap ((N : Int) - 1) = (m : Int)) (eM : IntKind.i64.wrap ((M : Int) - 1) = (Mm : Int))
    (HZ : Hid (l[m]? = some z ∧ FL[Mm]? = some z ∧ FL.length = M ∧ 0 < FL.length ∧ 0 < l.length)) (HROW : Hid (Row w (.slice (some ⟨b, o, none⟩) N c) l))
    (HF : Hid (Calls Try.prog 17 #[.slice (some ⟨b, o, none⟩) N c, .int .i64 (D : Int)] w fun e w' => ∃ u, e = .returned (.tuple #[u, .int .i64 0]) ∧ Own w' w.heap.size 34 u FL ∧ Below w.heap.size w w'))
    (HR : Hid (∀ w', Row w' (.slice (some ⟨b, o, none⟩) N c) l → Calls Try.prog 13 #[.slice (some ⟨b, o, none⟩) N c] w' fun e w'' => e = .returned (.bool true) ∧ Below w'.heap.size w' w''))
    (HREF : Hid (∀ w', Row w' (.slice (some ⟨b, o, none⟩) N c) l → Calls Try.prog 10 #[.slice (some ⟨b, o, none⟩) N c] w' fun e w'' => ∃ u, e = .returned u ∧ Own w'' w'.heap.size 36 u l ∧ Below w'.heap.size w' w''))
    (HRF : Hid (∀ u w', Row w' u l → Calls Try.prog 18 #[u, .int .i64 (D : Int)] w' fun e w'' => ∃ r, e = .returned r ∧ Own w'' w'.heap.size 36 r FL ∧ Below w'.heap.size w' w''))
    (HS : Hid (∀ s u w', Row w' s FL → Row w' u FL → Calls Try.prog 12 #[s, u] w' fun e w'' => e = .returned (.bool true) ∧ Below w'.heap.size w' w'')) :
    Calls Try.prog 4 #[.slice (some ⟨b, o, none⟩) N c, .int .i64 (D : Int)] w fun e w' => e = .returned (.bool true) ∧ Below w.heap.size w w' := by
  have HAW := Lib.hid awake_c
  have hd : decide ((N : Int) > 100) = false := decide_eq_false (by omega)
  have d0 : decide ((D : Int) < 0) = false := decide_eq_false (by omega)
  have d6 : decide ((D : Int) > 6) = false := decide_eq_false (by omega)
  have EN := Lib.hid eN; have EM := Lib.hid eM
  clear hN hD eN eM
  go_enter Try.func4, Try.ntmps4
  go_wp2_with fail
  refine HF.out.mono ?_
  rintro e w1 ⟨u, rfl, hou, hb⟩
  have B1 := Lib.hid hb
  obtain ⟨ub, uo, uc, rfl⟩ : ∃ ub uo uc, u = .slice (some ⟨ub, uo, none⟩) M uc := by
    obtain ⟨_, cc, e⟩ := hou.row.shape
    subst e
    obtain ⟨b', o', e', _⟩ := hou.row.addr (k := 0) HZ.out.2.2.2.1
    exact ⟨b', o', cc, by rw [e', HZ.out.2.2.1]⟩
  have OU := Lib.hid hou.row
  clear hb hou
  go_wp2_with fail
  refine (HR.out _ (HROW.out.on B1.out)).mono ?_
  rintro e W ⟨rfl, hb⟩
  have BW : Hid (Below w.heap.size w W) := below_next B1.out hb
  have RU : Hid (Row W (.slice (some ⟨ub, uo, none⟩) M uc) FL) := OU.out.on hb
  have RV : Hid (Row W (.slice (some ⟨b, o, none⟩) N c) l) := HROW.out.on BW.out
  have HV : Hid (∀ w', Below W.heap.size W w' → (w'.cell? ⟨ub, uo + Mm * 2, none⟩ = some (.int .i64 z.1) ∧ w'.cell? ⟨ub, uo + Mm * 2 + 1, none⟩ = some (.int .i64 z.2)) ∧ w'.cell? ⟨b, o + m * 2, none⟩ = some (.int .i64 z.1) ∧ w'.cell? ⟨b, o + m * 2 + 1, none⟩ = some (.int .i64 z.2)) := fun w' hw' =>
    ⟨(RU.out.on hw').ptsOf (by rw [← List.length_pos_iff]; exact HZ.out.2.2.2.1) Mm z HZ.out.2.1, (RV.out.on hw').ptsOf (by rw [← List.length_pos_iff]; exact HZ.out.2.2.2.2) m z HZ.out.1⟩
  clear hb B1 OU
  go_wp2_with fail
  refine wp_region_put3 (by kernel_rfl) (by kernel_rfl) (by kernel_rfl) (fun b' vs w' => (b' 0 = true → vs 0 = .int .i64 0) ∧ (b' 1 = true → vs 1 = .bool true) ∧ (b' 2 = true → vs 2 = .bool true) ∧ (b' 3 = true → vs 3 = .slice (some ⟨ub, uo, none⟩) M uc) ∧ (b' 4 = true → vs 4 = .slice (some ⟨b, o, none⟩) N c) ∧ (b' 6 = true → vs 6 = .int .i64 (D : Int)) ∧ (b' 8 = true → vs 8 = .bool true) ∧ (b' 9 = true → vs 9 = .bool true) ∧ (b' 10 = true → vs 10 = .bool true) ∧ (b' 11 = true → vs 11 = .slice (some ⟨ub, uo, none⟩) M uc) ∧ (b' 12 = true → vs 12 = .slice (some ⟨ub, uo, none⟩) M uc) ∧ (b' 13 = true → vs 13 = .int .i64 (M : Int)) ∧ (b' 14 = true → vs 14 = .int .i64 (Mm : Int)) ∧ (b' 15 = true → vs 15 = .pointer (some ⟨ub, uo + Mm * 2, none⟩)) ∧ (b' 16 = true → vs 16 = .agg #[.int .i64 z.1, .int .i64 z.2]) ∧ (b' 17 = true → vs 17 = .slice (some ⟨b, o, none⟩) N c) ∧ (b' 18 = true → vs 18 = .slice (some ⟨b, o, none⟩) N c) ∧ (b' 19 = true → vs 19 = .int .i64 (N : Int)) ∧ (b' 20 = true → vs 20 = .int .i64 (m : Int)) ∧ (b' 21 = true → vs 21 = .pointer (some ⟨b, o + m * 2, none⟩)) ∧ (b' 22 = true → vs 22 = .agg #[.int .i64 z.1, .int .i64 z.2]) ∧ (b' 23 = true → vs 23 = .bool true) ∧ (b' 24 = true → vs 24 = .bool true) ∧ (b' 25 = true → vs 25 = .bool true) ∧ (b' 26 = true → vs 26 = .bool true) ∧ (b' 27 = true → vs 27 = .bool true) ∧ (b' 28 = true → vs 28 = .bool true) ∧ Hid (RegM W.heap.size W [⟨5, 36, l⟩, ⟨7, 36, FL⟩] [] [] b' vs w')) ?_ ?_ ?_
  · intro vs
    exact ⟨fun h => Bool.noConfusion h, fun h => Bool.noConfusion h, fun h => Bool.noConfusion h, fun h => Bool.noConfusion h, fun h => Bool.noConfusion h, fun h => Bool.noConfusion h, fun h => Bool.noConfusion h, fun h => Bool.noConfusion h, fun h => Bool.noConfusion h, fun h => Bool.noConfusion h, fun h => Bool.noConfusion h, fun h => Bool.noConfusion h, fun h => Bool.noConfusion h, fun h => Bool.noConfusion h, fun h => Bool.noConfusion h, fun h => Bool.noConfusion h, fun h => Bool.noConfusion h, fun h => Bool.noConfusion h, fun h => Bool.noConfusion h, fun h => Bool.noConfusion h, fun h => Bool.noConfusion h, fun h => Bool.noConfusion h, fun h => Bool.noConfusion h, fun h => Bool.noConfusion h, fun h => Bool.noConfusion h, fun h => Bool.noConfusion h, fun h => Bool.noConfusion h, RegM.start (⟨⟨Below.refl _ _, Nat.le_refl _⟩, fun s hs => (by cases hs), (show Lays W [] from trivial)⟩) vs⟩
  · rintro b' vs w' i op hi hun hall ⟨h0, h1, h2, h3, h4, h6, h8, h9, h10, h11, h12, h13, h14, h15, h16, h17, h18, h19, h20, h21, h22, h23, h24, h25, h26, h27, h28, hM⟩
    have hil : i < 29 := (List.getElem?_eq_some_iff.1 hi).1
    rcases i with _ | _ | _ | _ | _ | _ | _ | _ | _ | _ | _ | _ | _ | _ | _ | _ | _ | _ | _ | _ | _ | _ | _ | _ | _ | _ | _ | _ | _ | i
    · obtain rfl := Option.some.inj hi
      clear hi hil
      refine StepOk.plain rfl (fun K hK => ?_)
      have HKK := Lib.hid hK; clear hK
      simp only [putAll, Act.put, List.setIfInBounds_toArray, List.set_cons_zero, List.set_cons_succ]
      go_simp
      exact HKK.out _ _ ⟨_, by simp only [putAll, Act.put, List.setIfInBounds_toArray, List.set_cons_zero, List.set_cons_succ] <;> rfl, fun _ => rfl, h1, h2, h3, h4, h6, h8, h9, h10, h11, h12, h13, h14, h15, h16, h17, h18, h19, h20, h21, h22, h23, h24, h25, h26, h27, h28, RegM.other hM.out 0 _ rfl⟩
    · obtain rfl := Option.some.inj hi
      clear hi hil
      have d0 := h0 (hall ⟨0, .data⟩ (by simp) rfl)
      refine StepOk.plain rfl (fun K hK => ?_)
      have HKK := Lib.hid hK; clear hK
      simp only [putAll, Act.put, List.setIfInBounds_toArray, List.set_cons_zero, List.set_cons_succ]
      go_simp
      exact HKK.out _ _ ⟨_, by simp only [putAll, Act.put, List.setIfInBounds_toArray, List.set_cons_zero, List.set_cons_succ, d0] <;> rfl, h0, fun _ => rfl, h2, h3, h4, h6, h8, h9, h10, h11, h12, h13, h14, h15, h16, h17, h18, h19, h20, h21, h22, h23, h24, h25, h26, h27, h28, RegM.other hM.out 1 _ rfl⟩
    · obtain rfl := Option.some.inj hi
      clear hi hil
      have d1 := h1 (hall ⟨1, .data⟩ (by simp) rfl)
      refine StepOk.plain rfl (fun K hK => ?_)
      have HKK := Lib.hid hK; clear hK
      simp only [putAll, Act.put, List.setIfInBounds_toArray, List.set_cons_zero, List.set_cons_succ]
      go_simp
      exact HKK.out _ _ ⟨_, by simp only [putAll, Act.put, List.setIfInBounds_toArray, List.set_cons_zero, List.set_cons_succ, d1] <;> rfl, h0, h1, fun _ => rfl, h3, h4, h6, h8, h9, h10, h11, h12, h13, h14, h15, h16, h17, h18, h19, h20, h21, h22, h23, h24, h25, h26, h27, h28, RegM.other hM.out 2 _ rfl⟩
    · obtain rfl := Option.some.inj hi
      clear hi hil
      have d2 := h2 (hall ⟨2, .guard⟩ (by simp) rfl)
      refine StepOk.on 2 true rfl rfl d2 (fun K hK => ?_)
      have HKK := Lib.hid hK; clear hK
      simp only [putAll, Act.put, List.setIfInBounds_toArray, List.set_cons_zero, List.set_cons_succ]
      go_simp
      exact HKK.out _ _ ⟨_, by simp only [putAll, Act.put, List.setIfInBounds_toArray, List.set_cons_zero, List.set_cons_succ, d2] <;> rfl, h0, h1, h2, fun _ => rfl, h4, h6, h8, h9, h10, h11, h12, h13, h14, h15, h16, h17, h18, h19, h20, h21, h22, h23, h24, h25, h26, h27, h28, RegM.other hM.out 3 _ rfl⟩
    · obtain rfl := Option.some.inj hi
      clear hi hil
      have d2 := h2 (hall ⟨2, .guard⟩ (by simp) rfl)
      refine StepOk.on 2 true rfl rfl d2 (fun K hK => ?_)
      have HKK := Lib.hid hK; clear hK
      simp only [putAll, Act.put, List.setIfInBounds_toArray, List.set_cons_zero, List.set_cons_succ]
      go_simp
      exact HKK.out _ _ ⟨_, by simp only [putAll, Act.put, List.setIfInBounds_toArray, List.set_cons_zero, List.set_cons_succ, d2] <;> rfl, h0, h1, h2, h3, fun _ => rfl, h6, h8, h9, h10, h11, h12, h13, h14, h15, h16, h17, h18, h19, h20, h21, h22, h23, h24, h25, h26, h27, h28, RegM.other hM.out 4 _ rfl⟩
    · obtain rfl := Option.some.inj hi
      clear hi hil
      have d4 := h4 (hall ⟨4, .data⟩ (by simp) rfl)
      have d2 := h2 (hall ⟨2, .guard⟩ (by simp) rfl)
      refine StepOk.on 2 true rfl rfl d2 (fun K hK => ?_)
      have HKK := Lib.hid hK; clear hK
      simp only [putAll, Act.put, List.setIfInBounds_toArray, List.set_cons_zero, List.set_cons_succ]
      go_simp
      refine (HREF.out _ (RV.out.on (RegM.below hM.out))).mono ?_
      rintro e w2 ⟨v2, rfl, ho2, hb2⟩
      have hn2 : W.heap.size ≤ w'.heap.size := hM.out.1.2
      exact HKK.out _ _ ⟨_, by simp only [putAll, Act.put, List.setIfInBounds_toArray, List.set_cons_zero, List.set_cons_succ, d4, d2] <;> rfl, h0, h1, h2, h3, h4, h6, h8, h9, h10, h11, h12, h13, h14, h15, h16, h17, h18, h19, h20, h21, h22, h23, h24, h25, h26, h27, h28, (RegM.grow hM.out hb2).made ⟨5, 36, l⟩ v2 (ho2.base hn2) (by simp) rfl⟩
    · obtain rfl := Option.some.inj hi
      clear hi hil
      have d2 := h2 (hall ⟨2, .guard⟩ (by simp) rfl)
      refine StepOk.on 2 true rfl rfl d2 (fun K hK => ?_)
      have HKK := Lib.hid hK; clear hK
      simp only [putAll, Act.put, List.setIfInBounds_toArray, List.set_cons_zero, List.set_cons_succ]
      go_simp
      exact HKK.out _ _ ⟨_, by simp only [putAll, Act.put, List.setIfInBounds_toArray, List.set_cons_zero, List.set_cons_succ, d2] <;> rfl, h0, h1, h2, h3, h4, fun _ => rfl, h8, h9, h10, h11, h12, h13, h14, h15, h16, h17, h18, h19, h20, h21, h22, h23, h24, h25, h26, h27, h28, RegM.other hM.out 6 _ rfl⟩
    · obtain rfl := Option.some.inj hi
      clear hi hil
      have o5 := RegM.row hM.out ⟨5, 36, l⟩ (by simp) (hall ⟨5, .data⟩ (by simp) rfl)
      have d6 := h6 (hall ⟨6, .data⟩ (by simp) rfl)
      have d2 := h2 (hall ⟨2, .guard⟩ (by simp) rfl)
      refine StepOk.on 2 true rfl rfl d2 (fun K hK => ?_)
      have HKK := Lib.hid hK; clear hK
      simp only [putAll, Act.put, List.setIfInBounds_toArray, List.set_cons_zero, List.set_cons_succ]
      go_simp
      refine (HRF.out _ _ o5.row).mono ?_
      rintro e w2 ⟨v2, rfl, ho2, hb2⟩
      have hn2 : W.heap.size ≤ w'.heap.size := hM.out.1.2
      exact HKK.out _ _ ⟨_, by simp only [putAll, Act.put, List.setIfInBounds_toArray, List.set_cons_zero, List.set_cons_succ, d6, d2] <;> rfl, h0, h1, h2, h3, h4, h6, h8, h9, h10, h11, h12, h13, h14, h15, h16, h17, h18, h19, h20, h21, h22, h23, h24, h25, h26, h27, h28, (RegM.grow hM.out hb2).made ⟨7, 36, FL⟩ v2 (ho2.base hn2) (by simp) rfl⟩
    · obtain rfl := Option.some.inj hi
      clear hi hil
      have d3 := h3 (hall ⟨3, .data⟩ (by simp) rfl)
      have o7 := RegM.row hM.out ⟨7, 36, FL⟩ (by simp) (hall ⟨7, .data⟩ (by simp) rfl)
      have d2 := h2 (hall ⟨2, .guard⟩ (by simp) rfl)
      refine StepOk.on 2 true rfl rfl d2 (fun K hK => ?_)
      have HKK := Lib.hid hK; clear hK
      simp only [putAll, Act.put, List.setIfInBounds_toArray, List.set_cons_zero, List.set_cons_succ]
      go_simp
      refine (HS.out _ _ _ (RU.out.on (RegM.below hM.out)) o7.row).mono ?_
      rintro e w2 ⟨rfl, hb2⟩
      exact HKK.out _ _ ⟨_, by simp only [putAll, Act.put, List.setIfInBounds_toArray, List.set_cons_zero, List.set_cons_succ, d3, d2] <;> rfl, h0, h1, h2, h3, h4, h6, fun _ => rfl, h9, h10, h11, h12, h13, h14, h15, h16, h17, h18, h19, h20, h21, h22, h23, h24, h25, h26, h27, h28, (RegM.other hM.out 8 _ rfl).grow hb2⟩
    · obtain rfl := Option.some.inj hi
      clear hi hil
      have d2 := h2 (hall ⟨2, .data⟩ (by simp) rfl)
      have d8 := h8 (hall ⟨8, .data⟩ (by simp) rfl)
      refine StepOk.plain rfl (fun K hK => ?_)
      have HKK := Lib.hid hK; clear hK
      simp only [putAll, Act.put, List.setIfInBounds_toArray, List.set_cons_zero, List.set_cons_succ]
      go_simp
      exact HKK.out _ _ ⟨_, by simp only [putAll, Act.put, List.setIfInBounds_toArray, List.set_cons_zero, List.set_cons_succ, d2, d8] <;> rfl, h0, h1, h2, h3, h4, h6, h8, fun _ => rfl, h10, h11, h12, h13, h14, h15, h16, h17, h18, h19, h20, h21, h22, h23, h24, h25, h26, h27, h28, RegM.other hM.out 9 _ rfl⟩
    · obtain rfl := Option.some.inj hi
      clear hi hil
      have d9 := h9 (hall ⟨9, .data⟩ (by simp) rfl)
      refine StepOk.plain rfl (fun K hK => ?_)
      have HKK := Lib.hid hK; clear hK
      simp only [putAll, Act.put, List.setIfInBounds_toArray, List.set_cons_zero, List.set_cons_succ]
      go_simp
      exact HKK.out _ _ ⟨_, by simp only [putAll, Act.put, List.setIfInBounds_toArray, List.set_cons_zero, List.set_cons_succ, d9] <;> rfl, h0, h1, h2, h3, h4, h6, h8, h9, fun _ => rfl, h11, h12, h13, h14, h15, h16, h17, h18, h19, h20, h21, h22, h23, h24, h25, h26, h27, h28, RegM.other hM.out 10 _ rfl⟩
    · obtain rfl := Option.some.inj hi
      clear hi hil
      have d10 := h10 (hall ⟨10, .guard⟩ (by simp) rfl)
      refine StepOk.on 10 true rfl rfl d10 (fun K hK => ?_)
      have HKK := Lib.hid hK; clear hK
      simp only [putAll, Act.put, List.setIfInBounds_toArray, List.set_cons_zero, List.set_cons_succ]
      go_simp
      exact HKK.out _ _ ⟨_, by simp only [putAll, Act.put, List.setIfInBounds_toArray, List.set_cons_zero, List.set_cons_succ, d10] <;> rfl, h0, h1, h2, h3, h4, h6, h8, h9, h10, fun _ => rfl, h12, h13, h14, h15, h16, h17, h18, h19, h20, h21, h22, h23, h24, h25, h26, h27, h28, RegM.other hM.out 11 _ rfl⟩
    · obtain rfl := Option.some.inj hi
      clear hi hil
      have d10 := h10 (hall ⟨10, .guard⟩ (by simp) rfl)
      refine StepOk.on 10 true rfl rfl d10 (fun K hK => ?_)
      have HKK := Lib.hid hK; clear hK
      simp only [putAll, Act.put, List.setIfInBounds_toArray, List.set_cons_zero, List.set_cons_succ]
      go_simp
      exact HKK.out _ _ ⟨_, by simp only [putAll, Act.put, List.setIfInBounds_toArray, List.set_cons_zero, List.set_cons_succ, d10] <;> rfl, h0, h1, h2, h3, h4, h6, h8, h9, h10, h11, fun _ => rfl, h13, h14, h15, h16, h17, h18, h19, h20, h21, h22, h23, h24, h25, h26, h27, h28, RegM.other hM.out 12 _ rfl⟩
    · obtain rfl := Option.some.inj hi
      clear hi hil
      have d12 := h12 (hall ⟨12, .data⟩ (by simp) rfl)
      have d10 := h10 (hall ⟨10, .guard⟩ (by simp) rfl)
      refine StepOk.on 10 true rfl rfl d10 (fun K hK => ?_)
      have HKK := Lib.hid hK; clear hK
      simp only [putAll, Act.put, List.setIfInBounds_toArray, List.set_cons_zero, List.set_cons_succ]
      go_simp
      exact HKK.out _ _ ⟨_, by simp only [putAll, Act.put, List.setIfInBounds_toArray, List.set_cons_zero, List.set_cons_succ, d12, d10] <;> rfl, h0, h1, h2, h3, h4, h6, h8, h9, h10, h11, h12, fun _ => rfl, h14, h15, h16, h17, h18, h19, h20, h21, h22, h23, h24, h25, h26, h27, h28, RegM.other hM.out 13 _ rfl⟩
    · obtain rfl := Option.some.inj hi
      clear hi hil
      have d13 := h13 (hall ⟨13, .data⟩ (by simp) rfl)
      have d10 := h10 (hall ⟨10, .guard⟩ (by simp) rfl)
      refine StepOk.on 10 true rfl rfl d10 (fun K hK => ?_)
      have HKK := Lib.hid hK; clear hK
      simp only [putAll, Act.put, List.setIfInBounds_toArray, List.set_cons_zero, List.set_cons_succ]
      go_simp
      exact HKK.out _ _ ⟨_, by simp only [putAll, Act.put, List.setIfInBounds_toArray, List.set_cons_zero, List.set_cons_succ, d13, d10, EM.out] <;> rfl, h0, h1, h2, h3, h4, h6, h8, h9, h10, h11, h12, h13, fun _ => rfl, h15, h16, h17, h18, h19, h20, h21, h22, h23, h24, h25, h26, h27, h28, RegM.other hM.out 14 _ rfl⟩
    · obtain rfl := Option.some.inj hi
      clear hi hil
      have d11 := h11 (hall ⟨11, .data⟩ (by simp) rfl)
      have d14 := h14 (hall ⟨14, .data⟩ (by simp) rfl)
      have d10 := h10 (hall ⟨10, .guard⟩ (by simp) rfl)
      refine StepOk.on 10 true rfl rfl d10 (fun K hK => ?_)
      have HKK := Lib.hid hK; clear hK
      simp only [putAll, Act.put, List.setIfInBounds_toArray, List.set_cons_zero, List.set_cons_succ]
      go_simp
      exact HKK.out _ _ ⟨_, by simp only [putAll, Act.put, List.setIfInBounds_toArray, List.set_cons_zero, List.set_cons_succ, d11, d14, d10] <;> rfl, h0, h1, h2, h3, h4, h6, h8, h9, h10, h11, h12, h13, h14, fun _ => rfl, h16, h17, h18, h19, h20, h21, h22, h23, h24, h25, h26, h27, h28, RegM.other hM.out 15 _ rfl⟩
    · obtain rfl := Option.some.inj hi
      clear hi hil
      have d15 := h15 (hall ⟨15, .data⟩ (by simp) rfl)
      have d10 := h10 (hall ⟨10, .guard⟩ (by simp) rfl)
      obtain ⟨⟨c0, c1⟩, c2, c3⟩ := HV.out w' (RegM.below hM.out)
      refine StepOk.on 10 true rfl rfl d10 (fun K hK => ?_)
      have HKK := Lib.hid hK; clear hK
      simp only [putAll, Act.put, List.setIfInBounds_toArray, List.set_cons_zero, List.set_cons_succ]
      go_simp
      exact HKK.out _ _ ⟨_, by simp only [putAll, Act.put, List.setIfInBounds_toArray, List.set_cons_zero, List.set_cons_succ, d15, d10] <;> rfl, h0, h1, h2, h3, h4, h6, h8, h9, h10, h11, h12, h13, h14, h15, fun _ => rfl, h17, h18, h19, h20, h21, h22, h23, h24, h25, h26, h27, h28, RegM.other hM.out 16 _ rfl⟩
    · obtain rfl := Option.some.inj hi
      clear hi hil
      have d10 := h10 (hall ⟨10, .guard⟩ (by simp) rfl)
      refine StepOk.on 10 true rfl rfl d10 (fun K hK => ?_)
      have HKK := Lib.hid hK; clear hK
      simp only [putAll, Act.put, List.setIfInBounds_toArray, List.set_cons_zero, List.set_cons_succ]
      go_simp
      exact HKK.out _ _ ⟨_, by simp only [putAll, Act.put, List.setIfInBounds_toArray, List.set_cons_zero, List.set_cons_succ, d10] <;> rfl, h0, h1, h2, h3, h4, h6, h8, h9, h10, h11, h12, h13, h14, h15, h16, fun _ => rfl, h18, h19, h20, h21, h22, h23, h24, h25, h26, h27, h28, RegM.other hM.out 17 _ rfl⟩
    · obtain rfl := Option.some.inj hi
      clear hi hil
      have d10 := h10 (hall ⟨10, .guard⟩ (by simp) rfl)
      refine StepOk.on 10 true rfl rfl d10 (fun K hK => ?_)
      have HKK := Lib.hid hK; clear hK
      simp only [putAll, Act.put, List.setIfInBounds_toArray, List.set_cons_zero, List.set_cons_succ]
      go_simp
      exact HKK.out _ _ ⟨_, by simp only [putAll, Act.put, List.setIfInBounds_toArray, List.set_cons_zero, List.set_cons_succ, d10] <;> rfl, h0, h1, h2, h3, h4, h6, h8, h9, h10, h11, h12, h13, h14, h15, h16, h17, fun _ => rfl, h19, h20, h21, h22, h23, h24, h25, h26, h27, h28, RegM.other hM.out 18 _ rfl⟩
    · obtain rfl := Option.some.inj hi
      clear hi hil
      have d18 := h18 (hall ⟨18, .data⟩ (by simp) rfl)
      have d10 := h10 (hall ⟨10, .guard⟩ (by simp) rfl)
      refine StepOk.on 10 true rfl rfl d10 (fun K hK => ?_)
      have HKK := Lib.hid hK; clear hK
      simp only [putAll, Act.put, List.setIfInBounds_toArray, List.set_cons_zero, List.set_cons_succ]
      go_simp
      exact HKK.out _ _ ⟨_, by simp only [putAll, Act.put, List.setIfInBounds_toArray, List.set_cons_zero, List.set_cons_succ, d18, d10] <;> rfl, h0, h1, h2, h3, h4, h6, h8, h9, h10, h11, h12, h13, h14, h15, h16, h17, h18, fun _ => rfl, h20, h21, h22, h23, h24, h25, h26, h27, h28, RegM.other hM.out 19 _ rfl⟩
    · obtain rfl := Option.some.inj hi
      clear hi hil
      have d19 := h19 (hall ⟨19, .data⟩ (by simp) rfl)
      have d10 := h10 (hall ⟨10, .guard⟩ (by simp) rfl)
      refine StepOk.on 10 true rfl rfl d10 (fun K hK => ?_)
      have HKK := Lib.hid hK; clear hK
      simp only [putAll, Act.put, List.setIfInBounds_toArray, List.set_cons_zero, List.set_cons_succ]
      go_simp
      exact HKK.out _ _ ⟨_, by simp only [putAll, Act.put, List.setIfInBounds_toArray, List.set_cons_zero, List.set_cons_succ, d19, d10, EN.out] <;> rfl, h0, h1, h2, h3, h4, h6, h8, h9, h10, h11, h12, h13, h14, h15, h16, h17, h18, h19, fun _ => rfl, h21, h22, h23, h24, h25, h26, h27, h28, RegM.other hM.out 20 _ rfl⟩
    · obtain rfl := Option.some.inj hi
      clear hi hil
      have d17 := h17 (hall ⟨17, .data⟩ (by simp) rfl)
      have d20 := h20 (hall ⟨20, .data⟩ (by simp) rfl)
      have d10 := h10 (hall ⟨10, .guard⟩ (by simp) rfl)
      refine StepOk.on 10 true rfl rfl d10 (fun K hK => ?_)
      have HKK := Lib.hid hK; clear hK
      simp only [putAll, Act.put, List.setIfInBounds_toArray, List.set_cons_zero, List.set_cons_succ]
      go_simp
      exact HKK.out _ _ ⟨_, by simp only [putAll, Act.put, List.setIfInBounds_toArray, List.set_cons_zero, List.set_cons_succ, d17, d20, d10] <;> rfl, h0, h1, h2, h3, h4, h6, h8, h9, h10, h11, h12, h13, h14, h15, h16, h17, h18, h19, h20, fun _ => rfl, h22, h23, h24, h25, h26, h27, h28, RegM.other hM.out 21 _ rfl⟩
    · obtain rfl := Option.some.inj hi
      clear hi hil
      have d21 := h21 (hall ⟨21, .data⟩ (by simp) rfl)
      have d10 := h10 (hall ⟨10, .guard⟩ (by simp) rfl)
      obtain ⟨⟨c0, c1⟩, c2, c3⟩ := HV.out w' (RegM.below hM.out)
      refine StepOk.on 10 true rfl rfl d10 (fun K hK => ?_)
      have HKK := Lib.hid hK; clear hK
      simp only [putAll, Act.put, List.setIfInBounds_toArray, List.set_cons_zero, List.set_cons_succ]
      go_simp
      exact HKK.out _ _ ⟨_, by simp only [putAll, Act.put, List.setIfInBounds_toArray, List.set_cons_zero, List.set_cons_succ, d21, d10] <;> rfl, h0, h1, h2, h3, h4, h6, h8, h9, h10, h11, h12, h13, h14, h15, h16, h17, h18, h19, h20, h21, fun _ => rfl, h23, h24, h25, h26, h27, h28, RegM.other hM.out 22 _ rfl⟩
    · obtain rfl := Option.some.inj hi
      clear hi hil
      have d16 := h16 (hall ⟨16, .data⟩ (by simp) rfl)
      have d22 := h22 (hall ⟨22, .data⟩ (by simp) rfl)
      have d10 := h10 (hall ⟨10, .guard⟩ (by simp) rfl)
      refine StepOk.on 10 true rfl rfl d10 (fun K hK => ?_)
      have HKK := Lib.hid hK; clear hK
      simp only [putAll, Act.put, List.setIfInBounds_toArray, List.set_cons_zero, List.set_cons_succ]
      go_simp
      exact HKK.out _ _ ⟨_, by simp only [putAll, Act.put, List.setIfInBounds_toArray, List.set_cons_zero, List.set_cons_succ, d16, d22, d10] <;> rfl, h0, h1, h2, h3, h4, h6, h8, h9, h10, h11, h12, h13, h14, h15, h16, h17, h18, h19, h20, h21, h22, fun _ => rfl, h24, h25, h26, h27, h28, RegM.other hM.out 23 _ rfl⟩
    · obtain rfl := Option.some.inj hi
      clear hi hil
      have d10 := h10 (hall ⟨10, .data⟩ (by simp) rfl)
      have d23 := h23 (hall ⟨23, .data⟩ (by simp) rfl)
      refine StepOk.plain rfl (fun K hK => ?_)
      have HKK := Lib.hid hK; clear hK
      simp only [putAll, Act.put, List.setIfInBounds_toArray, List.set_cons_zero, List.set_cons_succ]
      go_simp
      exact HKK.out _ _ ⟨_, by simp only [putAll, Act.put, List.setIfInBounds_toArray, List.set_cons_zero, List.set_cons_succ, d10, d23] <;> rfl, h0, h1, h2, h3, h4, h6, h8, h9, h10, h11, h12, h13, h14, h15, h16, h17, h18, h19, h20, h21, h22, h23, fun _ => rfl, h25, h26, h27, h28, RegM.other hM.out 24 _ rfl⟩
    · obtain rfl := Option.some.inj hi
      clear hi hil
      have d24 := h24 (hall ⟨24, .data⟩ (by simp) rfl)
      refine StepOk.plain rfl (fun K hK => ?_)
      have HKK := Lib.hid hK; clear hK
      simp only [putAll, Act.put, List.setIfInBounds_toArray, List.set_cons_zero, List.set_cons_succ]
      go_simp
      exact HKK.out _ _ ⟨_, by simp only [putAll, Act.put, List.setIfInBounds_toArray, List.set_cons_zero, List.set_cons_succ, d24] <;> rfl, h0, h1, h2, h3, h4, h6, h8, h9, h10, h11, h12, h13, h14, h15, h16, h17, h18, h19, h20, h21, h22, h23, h24, fun _ => rfl, h26, h27, h28, RegM.other hM.out 25 _ rfl⟩
    · obtain rfl := Option.some.inj hi
      clear hi hil
      have d25 := h25 (hall ⟨25, .guard⟩ (by simp) rfl)
      refine StepOk.on 25 true rfl rfl d25 (fun K hK => ?_)
      have HKK := Lib.hid hK; clear hK
      simp only [putAll, Act.put, List.setIfInBounds_toArray, List.set_cons_zero, List.set_cons_succ]
      go_simp
      refine (HAW.out _).mono ?_
      rintro e w2 ⟨rfl, hb2⟩
      exact HKK.out _ _ ⟨_, by simp only [putAll, Act.put, List.setIfInBounds_toArray, List.set_cons_zero, List.set_cons_succ, d25] <;> rfl, h0, h1, h2, h3, h4, h6, h8, h9, h10, h11, h12, h13, h14, h15, h16, h17, h18, h19, h20, h21, h22, h23, h24, h25, fun _ => rfl, h27, h28, (RegM.other hM.out 26 _ rfl).grow hb2⟩
    · obtain rfl := Option.some.inj hi
      clear hi hil
      have d25 := h25 (hall ⟨25, .data⟩ (by simp) rfl)
      have d26 := h26 (hall ⟨26, .data⟩ (by simp) rfl)
      refine StepOk.plain rfl (fun K hK => ?_)
      have HKK := Lib.hid hK; clear hK
      simp only [putAll, Act.put, List.setIfInBounds_toArray, List.set_cons_zero, List.set_cons_succ]
      go_simp
      exact HKK.out _ _ ⟨_, by simp only [putAll, Act.put, List.setIfInBounds_toArray, List.set_cons_zero, List.set_cons_succ, d25, d26] <;> rfl, h0, h1, h2, h3, h4, h6, h8, h9, h10, h11, h12, h13, h14, h15, h16, h17, h18, h19, h20, h21, h22, h23, h24, h25, h26, fun _ => rfl, h28, RegM.other hM.out 27 _ rfl⟩
    · obtain rfl := Option.some.inj hi
      clear hi hil
      have d27 := h27 (hall ⟨27, .data⟩ (by simp) rfl)
      refine StepOk.plain rfl (fun K hK => ?_)
      have HKK := Lib.hid hK; clear hK
      simp only [putAll, Act.put, List.setIfInBounds_toArray, List.set_cons_zero, List.set_cons_succ]
      go_simp
      exact HKK.out _ _ ⟨_, by simp only [putAll, Act.put, List.setIfInBounds_toArray, List.set_cons_zero, List.set_cons_succ, d27] <;> rfl, h0, h1, h2, h3, h4, h6, h8, h9, h10, h11, h12, h13, h14, h15, h16, h17, h18, h19, h20, h21, h22, h23, h24, h25, h26, h27, fun _ => rfl, RegM.other hM.out 28 _ rfl⟩
    · omega
  · rintro b' vs w2 hall ⟨h0, h1, h2, h3, h4, h6, h8, h9, h10, h11, h12, h13, h14, h15, h16, h17, h18, h19, h20, h21, h22, h23, h24, h25, h26, h27, h28, hM⟩
    have d0 := h0 (hall 0 (by simp))
    have d1 := h1 (hall 1 (by simp))
    have d2 := h2 (hall 2 (by simp))
    have d3 := h3 (hall 3 (by simp))
    have d4 := h4 (hall 4 (by simp))
    have d6 := h6 (hall 6 (by simp))
    have d8 := h8 (hall 8 (by simp))
    have d9 := h9 (hall 9 (by simp))
    have d10 := h10 (hall 10 (by simp))
    have d11 := h11 (hall 11 (by simp))
    have d12 := h12 (hall 12 (by simp))
    have d13 := h13 (hall 13 (by simp))
    have d14 := h14 (hall 14 (by simp))
    have d15 := h15 (hall 15 (by simp))
    have d16 := h16 (hall 16 (by simp))
    have d17 := h17 (hall 17 (by simp))
    have d18 := h18 (hall 18 (by simp))
    have d19 := h19 (hall 19 (by simp))
    have d20 := h20 (hall 20 (by simp))
    have d21 := h21 (hall 21 (by simp))
    have d22 := h22 (hall 22 (by simp))
    have d23 := h23 (hall 23 (by simp))
    have d24 := h24 (hall 24 (by simp))
    have d25 := h25 (hall 25 (by simp))
    have d26 := h26 (hall 26 (by simp))
    have d27 := h27 (hall 27 (by simp))
    have d28 := h28 (hall 28 (by simp))
    have o5 := RegM.row hM.out ⟨5, 36, l⟩ (by simp) (hall 5 (by simp))
    have o7 := RegM.row hM.out ⟨7, 36, FL⟩ (by simp) (hall 7 (by simp))
    have LS := Lib.hid (RegM.lays hM.out)
    have BB := Lib.hid (RegM.below hM.out)
    have BN := hM.out.1.2
    simp only [putAll, Act.put, List.setIfInBounds_toArray, List.set_cons_zero, List.set_cons_succ, d0, d1, d2, d3, d4, d6, d8, d9, d10, d11, d12, d13, d14, d15, d16, d17, d18, d19, d20, d21, d22, d23, d24, d25, d26, d27, d28]
    clear h0 d0 h1 d1 h2 d2 h3 d3 h4 d4 h6 d6 h8 d8 h9 d9 h10 d10 h11 d11 h12 d12 h13 d13 h14 d14 h15 d15 h16 d16 h17 d17 h18 d18 h19 d19 h20 d20 h21 d21 h22 d22 h23 d23 h24 d24 h25 d25 h26 d26 h27 d27 h28 d28
    go_wp2_with fail
    go_ret
    exact ⟨rfl, below_next BW.out BB.out⟩
theorem flats_law (w : World) (v : Value) (l : List Pt) (row : Row w v l) (d : Int) : Calls Try.prog 4 #[v, .int .i64 d] w fun e w' => e = .returned (.bool true) ∧ Below w.heap.size w w' := by
  obtain ⟨ao, c, rfl⟩ := row.shape
  by_cases hn : 100 < l.length
  · exact flats_long w ao _ c d hn
  · by_cases hgood : curveB l = true ∧ 0 ≤ d ∧ d ≤ 6
    · obtain ⟨hc, h0, h6⟩ := hgood
      obtain ⟨D, rfl⟩ := Int.eq_ofNat_of_zero_le h0
      have hl3 : 3 ≤ l.length ∧ l.length ≤ 4 := by rcases curve_cases hc with ⟨p, q, r, rfl, _⟩ | ⟨p, q, r, s, rfl, _⟩ <;> simp
      have hD : D ≤ 6 := by omega
      have h64 := pow_small hD
      have hpos : 0 < 2 ^ D := Nat.pos_of_ne_zero (by simp)
      have hlen := flatI_length D l
      obtain ⟨b, o, rfl, _, _⟩ := row.addr (k := 0) (by omega)
      obtain ⟨z, hz⟩ : ∃ z, l[l.length - 1]? = some z := ⟨_, List.getElem?_eq_getElem (by omega)⟩
      have hz2 : (flatI D l)[2 ^ D - 1]? = some z := by
        have h := flatI_last D hc
        rw [List.getLast?_eq_getElem?, List.getLast?_eq_getElem?, hlen, hz] at h
        exact h
      exact flats_walk w b o l.length c l (flatI D l) D (2 ^ D) (2 ^ D - 1) (l.length - 1) z (by omega) hD (by omega) (by omega) (by rw [wrap_is, wrapR _ (by omega) (by omega)]; omega) (by rw [wrap_is, wrapR _ (by omega) (by omega)]; omega)
        (Lib.hid ⟨hz, hz2, hlen, by omega, by omega⟩) (Lib.hid row) (Lib.hid (flat_c _ l D w row hc hD)) (Lib.hid fun w' hr => by have := right_c _ l w' (by omega) hr; rwa [hc] at this) (Lib.hid fun w' hr => ref_c w' _ l (by omega) hr)
        (Lib.hid fun u w' hr => refFlat_c D hD l hc u w' hr) (Lib.hid fun s u w' h1 h2 => same_c s u (flatI D l) w' (by omega) h1 h2)
    · have hbad : curveB l = false ∨ d < 0 ∨ 6 < d := by
        cases hc : curveB l with
        | false => exact .inl rfl
        | true => right; rw [hc] at hgood; simp at hgood; omega
      exact flats_no w ao _ c d (curveB l) (by omega) hbad (Lib.hid (flat_no _ l d w row hbad)) (Lib.hid fun w' hb => right_c _ l w' (by omega) (row.on hb))
end Go.Proofs.Ythlealndopppaaa
