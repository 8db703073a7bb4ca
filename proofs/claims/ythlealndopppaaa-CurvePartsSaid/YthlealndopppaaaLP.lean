/- The law CurveParts. -/
import Derived.Test.YthlealndopppaaaRT
import Derived.Test.YthlealndopppaaaY
import Derived.Test.YthlealndopppaaaZ
import Derived.Test.YthlealndopppaaaF
import Derived.Test.YthlealndopppaaaH
import Derived.Deep.QuietTactic
namespace Go.Proofs.Ythlealndopppaaa
open Go.RowKit
theorem flatI_same (p : Pt) : ∀ (d : Nat), ∀ a ∈ flatI d [p, p, p], a = p
  | 0, a, h => by simpa [flatI] using h
  | d + 1, a, h => by
    have hm : midI p p = p := by unfold midI; rw [show p.1 + p.1 = p.1 * 2 by omega, show p.2 + p.2 = p.2 * 2 by omega, Int.mul_ediv_cancel _ (by decide), Int.mul_ediv_cancel _ (by decide)]
    have e1 : firstI [p, p, p] = [p, p, p] := by simp [firstI, hm]
    have e2 : secondI [p, p, p] = [p, p, p] := by simp [secondI, hm]
    rw [flatI, e1, e2, List.mem_append] at h
    rcases h with h | h <;> exact flatI_same p d a h
theorem Row.ptsP {W : World} {bb o N c : Nat} {L : List Pt} (h : Row W (.slice (some ⟨bb, o, none⟩) N c) L) (hL : L ≠ []) : PtsAt W bb o L := by
  rcases h with ⟨_, e⟩ | ⟨_, _, _, e⟩ | ⟨b, o', c', e, _, hp⟩
  · exact absurd e hL
  · exact absurd e hL
  · simp at e
    obtain ⟨⟨rfl, rfl⟩, _⟩ := e
    exact hp
theorem Row.someP {W : World} {s : Value} {L : List Pt} (h : Row W s L) {n : Nat} (hn : L.length = n) (hp : 0 < n) : ∃ b o c, s = .slice (some ⟨b, o, none⟩) n c := by
  obtain ⟨_, c, e⟩ := h.shape
  subst e
  obtain ⟨b, o, e, _⟩ := h.addr (k := 0) (by omega)
  exact ⟨b, o, c, by rw [e, hn]⟩
set_option maxHeartbeats 2000000 in
set_option maxRecDepth 100000 in
theorem parts_no (w : World) (v : Value) (d : Int) (r : Bool) (hr : r = false ∨ d < 1 ∨ 6 < d)
    (HR : Hid (Calls Try.prog 13 #[v] w fun e w' => e = .returned (.bool r) ∧ Below w.heap.size w w')) :
    Calls Try.prog 7 #[v, .int .i64 d] w fun e w' => e = .returned (.bool true) ∧ Below w.heap.size w w' := by
  have HAW := Lib.hid awake_c
  cases r
  · clear hr
    go_enter Try.func7, Try.ntmps7
    go_wp2_with fail
    refine HR.out.mono ?_
    rintro e w2 ⟨rfl, hb⟩
    have B2 := Lib.hid hb
    clear hb
    go_wp2_with fail
    refine (HAW.out _).mono ?_
    rintro e w3 ⟨rfl, hb⟩
    have B3 : Hid (Below w.heap.size w w3) := below_next B2.out hb
    clear hb
    go_wp2_with fail
    go_ret
    exact ⟨rfl, B3.out⟩
  · by_cases h0 : d < 1
    · have d0 : decide (d < 1) = true := decide_eq_true h0
      clear hr
      go_enter Try.func7, Try.ntmps7
      go_wp2_with fail
      refine HR.out.mono ?_
      rintro e w2 ⟨rfl, hb⟩
      have B2 := Lib.hid hb
      clear hb
      go_wp2_with fail
      refine (HAW.out _).mono ?_
      rintro e w3 ⟨rfl, hb⟩
      have B3 : Hid (Below w.heap.size w w3) := below_next B2.out hb
      clear hb
      go_wp2_with fail
      go_ret
      exact ⟨rfl, B3.out⟩
    · have d0 : decide (d < 1) = false := decide_eq_false h0
      have d6 : decide (d > 6) = true := decide_eq_true (by simp at hr; omega)
      clear hr
      go_enter Try.func7, Try.ntmps7
      go_wp2_with fail
      refine HR.out.mono ?_
      rintro e w2 ⟨rfl, hb⟩
      have B2 := Lib.hid hb
      clear hb
      go_wp2_with fail
      refine (HAW.out _).mono ?_
      rintro e w3 ⟨rfl, hb⟩
      have B3 : Hid (Below w.heap.size w w3) := below_next B2.out hb
      clear hb
      go_wp2_with fail
      go_ret
      exact ⟨rfl, B3.out⟩
set_option maxHeartbeats 8000000 in
set_option maxRecDepth 100000 in
theorem parts_walk (w : World) (b o N c : Nat) (l la lb FX FY F1 : List Pt) (D E M : Nat) (p : Pt) (hD : D ≤ 6) (hD1 : 1 ≤ D) (hE : E + 1 = D) (hM : M = 2 ^ D) (hN0 : 0 < N)
    (HL : Hid (l[0]? = some p ∧ l.length = N ∧ FX.length ≤ 64 ∧ FY.length ≤ 64 ∧ F1.length = M ∧ 0 < M ∧ M ≤ 64 ∧ (∀ a ∈ F1, a = p))) (HROW : Hid (Row w (.slice (some ⟨b, o, none⟩) N c) l))
    (HR : Hid (∀ w', Row w' (.slice (some ⟨b, o, none⟩) N c) l → Calls Try.prog 13 #[.slice (some ⟨b, o, none⟩) N c] w' fun e w'' => e = .returned (.bool true) ∧ Below w'.heap.size w' w''))
    (HF : Hid (∀ u w', Row w' u l → Calls Try.prog 17 #[u, .int .i64 (D : Int)] w' fun e w'' => ∃ r, e = .returned (.tuple #[r, .int .i64 0]) ∧ Own w'' w'.heap.size 34 r (FX ++ FY) ∧ Below w'.heap.size w' w''))
    (HFA : Hid (∀ u w', Row w' u la → Calls Try.prog 17 #[u, .int .i64 (E : Int)] w' fun e w'' => ∃ r, e = .returned (.tuple #[r, .int .i64 0]) ∧ Own w'' w'.heap.size 34 r FX ∧ Below w'.heap.size w' w''))
    (HFB : Hid (∀ u w', Row w' u lb → Calls Try.prog 17 #[u, .int .i64 (E : Int)] w' fun e w'' => ∃ r, e = .returned (.tuple #[r, .int .i64 0]) ∧ Own w'' w'.heap.size 34 r FY ∧ Below w'.heap.size w' w''))
    (HF1 : Hid (∀ u w', Row w' u [p, p, p] → Calls Try.prog 17 #[u, .int .i64 (D : Int)] w' fun e w'' => ∃ r, e = .returned (.tuple #[r, .int .i64 0]) ∧ Own w'' w'.heap.size 34 r F1 ∧ Below w'.heap.size w' w''))
    (HH : Hid (∀ w', Row w' (.slice (some ⟨b, o, none⟩) N c) l → Calls Try.prog 11 #[.slice (some ⟨b, o, none⟩) N c] w' fun e w'' => ∃ s u, e = .returned (.tuple #[s, u, .int .i64 0]) ∧ Own w'' w'.heap.size 34 s la ∧ Own w'' w'.heap.size 34 u lb ∧ Below w'.heap.size w' w''))
    (HREF : Hid (∀ u w', Row w' u (FX ++ FY) → Calls Try.prog 10 #[u] w' fun e w'' => ∃ r, e = .returned r ∧ Own w'' w'.heap.size 36 r (FX ++ FY) ∧ Below w'.heap.size w' w''))
    (HS : Hid (∀ s u w', Row w' s (FX ++ FY) → Row w' u (FX ++ FY) → Calls Try.prog 12 #[s, u] w' fun e w'' => e = .returned (.bool true) ∧ Below w'.heap.size w' w'')) :
    Calls Try.prog 7 #[.slice (some ⟨b, o, none⟩) N c, .int .i64 (D : Int)] w fun e w' => e = .returned (.bool true) ∧ Below w.heap.size w w' := by
  have HAW := Lib.hid awake_c
  have d0 : decide ((D : Int) < 1) = false := decide_eq_false (by omega)
  have d6 : decide ((D : Int) > 6) = false := decide_eq_false (by omega)
  have ew : wrap64 ((2 : Int) ^ D) = (M : Int) := by
    have hM64 := HL.out.2.2.2.2.2.2.1
    have e : ((2 : Int) ^ D) = (M : Int) := by rw [hM]; try simp
    rw [e]; exact wrapR _ (by omega) (by omega)
  have eE : wrap64 ((D : Int) - 1) = (E : Int) := by rw [wrapR _ (by omega) (by omega)]; omega
  have eMM : ((M : Int) == (M : Int)) = true := by simp
  have HD := Lib.hid hD
  clear hM hE hD1 hD
  go_enter Try.func7, Try.ntmps7
  go_wp2_with fail
  refine (HR.out _ HROW.out).mono ?_
  rintro e w1 ⟨rfl, hb⟩
  have S1 : Hid (Below w.heap.size w w1 ∧ Row w1 (.slice (some ⟨b, o, none⟩) N c) l) := ⟨hb, HROW.out.on hb⟩
  clear hb
  go_wp2_with fail
  refine (HF.out _ _ S1.out.2).mono ?_
  rintro e w2 ⟨u, rfl, hou, hb⟩
  have S2 : Hid (Below w.heap.size w w2 ∧ Row w2 (.slice (some ⟨b, o, none⟩) N c) l ∧ Row w2 u (FX ++ FY)) := ⟨below_next S1.out.1 hb, S1.out.2.on hb, hou.row⟩
  clear hou hb
  go_wp2_with fail
  refine (HH.out _ S2.out.2.1).mono ?_
  rintro e w3 ⟨s1, s2, rfl, ho1, ho2, hb⟩
  have S3 : Hid (Below w.heap.size w w3 ∧ Row w3 (.slice (some ⟨b, o, none⟩) N c) l ∧ Row w3 u (FX ++ FY) ∧ Row w3 s1 la ∧ Row w3 s2 lb) := ⟨below_next S2.out.1 hb, S2.out.2.1.on hb, S2.out.2.2.on hb, ho1.row, ho2.row⟩
  clear ho1 ho2 hb
  go_wp2_with fail
  refine (HFA.out _ _ S3.out.2.2.2.1).mono ?_
  rintro e w4 ⟨x, rfl, hox, hb⟩
  have S4 : Hid (Below w.heap.size w w4 ∧ Row w4 (.slice (some ⟨b, o, none⟩) N c) l ∧ Row w4 u (FX ++ FY) ∧ Row w4 s2 lb ∧ Row w4 x FX) := ⟨below_next S3.out.1 hb, S3.out.2.1.on hb, S3.out.2.2.1.on hb, S3.out.2.2.2.2.on hb, hox.row⟩
  clear hox hb
  go_wp2_with fail
  refine (HFB.out _ _ S4.out.2.2.2.1).mono ?_
  rintro e w5 ⟨y, rfl, hoy, hb⟩
  have S5 : Hid (Below w.heap.size w w5 ∧ Row w5 (.slice (some ⟨b, o, none⟩) N c) l ∧ Row w5 u (FX ++ FY) ∧ Row w5 x FX ∧ Row w5 y FY) := ⟨below_next S4.out.1 hb, S4.out.2.1.on hb, S4.out.2.2.1.on hb, S4.out.2.2.2.2.on hb, hoy.row⟩
  clear hoy hb
  have SO : Hid (Own (w5.alloc (.cells #[] 34)) w5.heap.size 34 (.slice (some ⟨w5.heap.size, 0, none⟩) 0 0) [] ∧ Row (w5.alloc (.cells #[] 34)) x FX ∧ Row (w5.alloc (.cells #[] 34)) y FY ∧ Below w5.heap.size w5 (w5.alloc (.cells #[] 34))) :=
    have hb : Below w5.heap.size w5 (w5.alloc (.cells #[] 34)) := (Below.refl _ _).alloc (Nat.le_refl _) _
    ⟨Own.made w5 (Nat.le_refl _) 34 [] #[] 0 rfl rfl (by decide), S5.out.2.2.2.1.on hb, S5.out.2.2.2.2.on hb, hb⟩
  go_wp2_with (at_builtin; refine wpList_append_pts rfl _ _ 22 34 rfl Try.underlying22 infoP w5.heap.size (.slice (some ⟨w5.heap.size, 0, none⟩) 0 0) [] rfl SO.out.1 x FX rfl SO.out.2.1 (by have := HL.out.2.2.1; simp; omega) (by simp) ?_)
  intro r1 w6 ho hg _
  have SB6 : Hid (Below w5.heap.size w5 w6) := own_below SO.out.1 hg SO.out.2.2.2 (Nat.le_refl _) SO.out.2.2.2.size
  have S6 : Hid (Below w.heap.size w w6 ∧ Row w6 (.slice (some ⟨b, o, none⟩) N c) l ∧ Row w6 u (FX ++ FY) ∧ Own w6 w5.heap.size 34 r1 FX ∧ Row w6 y FY) := ⟨below_next S5.out.1 SB6.out, S5.out.2.1.on SB6.out, S5.out.2.2.1.on SB6.out, ho, S5.out.2.2.2.2.on SB6.out⟩
  clear ho hg
  go_wp2_with (at_builtin; refine wpList_append_pts rfl _ _ 22 34 rfl Try.underlying22 infoP w5.heap.size r1 FX rfl S6.out.2.2.2.1 y FY rfl S6.out.2.2.2.2 (by have := HL.out.2.2.1; have := HL.out.2.2.2.1; omega) SB6.out.size ?_)
  intro r2 w7 ho hg _
  have SB7 : Hid (Below w5.heap.size w5 w7) := own_below S6.out.2.2.2.1 hg SB6.out (Nat.le_refl _) SB6.out.size
  have S7 : Hid (Below w.heap.size w w7 ∧ Row w7 (.slice (some ⟨b, o, none⟩) N c) l ∧ Row w7 u (FX ++ FY) ∧ Row w7 r2 (FX ++ FY)) := ⟨below_next S5.out.1 SB7.out, S5.out.2.1.on SB7.out, S5.out.2.2.1.on SB7.out, ho.row⟩
  clear ho hg
  go_wp2_with fail
  refine (HREF.out _ _ S7.out.2.2.2).mono ?_
  rintro e w8 ⟨rr, rfl, hor, hb⟩
  have S8 : Hid (Below w.heap.size w w8 ∧ Row w8 (.slice (some ⟨b, o, none⟩) N c) l ∧ Row w8 u (FX ++ FY) ∧ Row w8 rr (FX ++ FY)) := ⟨below_next S7.out.1 hb, S7.out.2.1.on hb, S7.out.2.2.1.on hb, hor.row⟩
  clear hor hb
  go_wp2_with fail
  refine (HS.out _ _ _ S8.out.2.2.1 S8.out.2.2.2).mono ?_
  rintro e W ⟨rfl, hb⟩
  have SW : Hid (Below w.heap.size w W ∧ Row W (.slice (some ⟨b, o, none⟩) N c) l) := ⟨below_next S8.out.1 hb, S8.out.2.1.on hb⟩
  clear hb
  have HV : Hid (∀ w', Below W.heap.size W w' → w'.cell? ⟨b, o, none⟩ = some (.int .i64 p.1) ∧ w'.cell? ⟨b, o + 1, none⟩ = some (.int .i64 p.2)) := fun w' hw' => by
    have h := ((SW.out.2.on hw').ptsP (by rw [← List.length_pos_iff, HL.out.2.1]; exact hN0)) 0 p HL.out.1
    simpa using h
  go_wp2_with fail
  refine wp_region_put3 (by kernel_rfl) (by kernel_rfl) (by kernel_rfl) (fun b' vs w' => (b' 0 = true → vs 0 = .slice (some ⟨b, o, none⟩) N c) ∧ (b' 1 = true → vs 1 = .pointer (some ⟨b, o, none⟩)) ∧ (b' 2 = true → vs 2 = .agg #[.int .i64 p.1, .int .i64 p.2]) ∧ (b' 3 = true → vs 3 = .slice (some ⟨b, o, none⟩) N c) ∧ (b' 4 = true → vs 4 = .pointer (some ⟨b, o, none⟩)) ∧ (b' 5 = true → vs 5 = .agg #[.int .i64 p.1, .int .i64 p.2]) ∧ (b' 6 = true → vs 6 = .slice (some ⟨b, o, none⟩) N c) ∧ (b' 7 = true → vs 7 = .pointer (some ⟨b, o, none⟩)) ∧ (b' 8 = true → vs 8 = .agg #[.int .i64 p.1, .int .i64 p.2]) ∧ (b' 10 = true → vs 10 = .int .i64 (D : Int)) ∧ (b' 14 = true → vs 14 = .int .i64 0) ∧ (b' 16 = true → vs 16 = .int .i64 0) ∧ Hid (RegT W.heap.size W [⟨9, 34, [p, p, p]⟩, ⟨13, 34, F1⟩, ⟨15, 34, F1⟩] [⟨11, 34, F1⟩, ⟨12, 34, F1⟩] [] [] b' vs w')) ?_ ?_ ?_
  · intro vs
    exact ⟨fun h => Bool.noConfusion h, fun h => Bool.noConfusion h, fun h => Bool.noConfusion h, fun h => Bool.noConfusion h, fun h => Bool.noConfusion h, fun h => Bool.noConfusion h, fun h => Bool.noConfusion h, fun h => Bool.noConfusion h, fun h => Bool.noConfusion h, fun h => Bool.noConfusion h, fun h => Bool.noConfusion h, fun h => Bool.noConfusion h, ⟨RegM.start (⟨⟨Below.refl _ _, Nat.le_refl _⟩, fun s hs => (by cases hs), (show Lays W [] from trivial)⟩) vs, TupF.start vs _⟩⟩
  · rintro b' vs w' i op hi hun hall ⟨h0, h1, h2, h3, h4, h5, h6, h7, h8, h10, h14, h16, hM⟩
    have hil : i < 17 := (List.getElem?_eq_some_iff.1 hi).1
    rcases i with _ | _ | _ | _ | _ | _ | _ | _ | _ | _ | _ | _ | _ | _ | _ | _ | _ | i
    · obtain rfl := Option.some.inj hi
      clear hi hil
      refine StepOk.plain rfl (fun K hK => ?_)
      have HKK := Lib.hid hK; clear hK
      simp only [putAll, Act.put, List.setIfInBounds_toArray, List.set_cons_zero, List.set_cons_succ]
      go_simp
      exact HKK.out _ _ ⟨_, by simp only [putAll, Act.put, List.setIfInBounds_toArray, List.set_cons_zero, List.set_cons_succ] <;> rfl, fun _ => rfl, h1, h2, h3, h4, h5, h6, h7, h8, h10, h14, h16, RegT.other hM.out 0 _ rfl rfl⟩
    · obtain rfl := Option.some.inj hi
      clear hi hil
      have d0 := h0 (hall ⟨0, .data⟩ (by simp) rfl)
      refine StepOk.plain rfl (fun K hK => ?_)
      have HKK := Lib.hid hK; clear hK
      simp only [putAll, Act.put, List.setIfInBounds_toArray, List.set_cons_zero, List.set_cons_succ]
      go_simp
      exact HKK.out _ _ ⟨_, by simp only [putAll, Act.put, List.setIfInBounds_toArray, List.set_cons_zero, List.set_cons_succ, d0] <;> rfl, h0, fun _ => rfl, h2, h3, h4, h5, h6, h7, h8, h10, h14, h16, RegT.other hM.out 1 _ rfl rfl⟩
    · obtain rfl := Option.some.inj hi
      clear hi hil
      have d1 := h1 (hall ⟨1, .data⟩ (by simp) rfl)
      obtain ⟨c0, c1⟩ := HV.out w' (RegM.below hM.out.1)
      refine StepOk.plain rfl (fun K hK => ?_)
      have HKK := Lib.hid hK; clear hK
      simp only [putAll, Act.put, List.setIfInBounds_toArray, List.set_cons_zero, List.set_cons_succ]
      go_simp
      exact HKK.out _ _ ⟨_, by simp only [putAll, Act.put, List.setIfInBounds_toArray, List.set_cons_zero, List.set_cons_succ, d1] <;> rfl, h0, h1, fun _ => rfl, h3, h4, h5, h6, h7, h8, h10, h14, h16, RegT.other hM.out 2 _ rfl rfl⟩
    · obtain rfl := Option.some.inj hi
      clear hi hil
      refine StepOk.plain rfl (fun K hK => ?_)
      have HKK := Lib.hid hK; clear hK
      simp only [putAll, Act.put, List.setIfInBounds_toArray, List.set_cons_zero, List.set_cons_succ]
      go_simp
      exact HKK.out _ _ ⟨_, by simp only [putAll, Act.put, List.setIfInBounds_toArray, List.set_cons_zero, List.set_cons_succ] <;> rfl, h0, h1, h2, fun _ => rfl, h4, h5, h6, h7, h8, h10, h14, h16, RegT.other hM.out 3 _ rfl rfl⟩
    · obtain rfl := Option.some.inj hi
      clear hi hil
      have d3 := h3 (hall ⟨3, .data⟩ (by simp) rfl)
      refine StepOk.plain rfl (fun K hK => ?_)
      have HKK := Lib.hid hK; clear hK
      simp only [putAll, Act.put, List.setIfInBounds_toArray, List.set_cons_zero, List.set_cons_succ]
      go_simp
      exact HKK.out _ _ ⟨_, by simp only [putAll, Act.put, List.setIfInBounds_toArray, List.set_cons_zero, List.set_cons_succ, d3] <;> rfl, h0, h1, h2, h3, fun _ => rfl, h5, h6, h7, h8, h10, h14, h16, RegT.other hM.out 4 _ rfl rfl⟩
    · obtain rfl := Option.some.inj hi
      clear hi hil
      have d4 := h4 (hall ⟨4, .data⟩ (by simp) rfl)
      obtain ⟨c0, c1⟩ := HV.out w' (RegM.below hM.out.1)
      refine StepOk.plain rfl (fun K hK => ?_)
      have HKK := Lib.hid hK; clear hK
      simp only [putAll, Act.put, List.setIfInBounds_toArray, List.set_cons_zero, List.set_cons_succ]
      go_simp
      exact HKK.out _ _ ⟨_, by simp only [putAll, Act.put, List.setIfInBounds_toArray, List.set_cons_zero, List.set_cons_succ, d4] <;> rfl, h0, h1, h2, h3, h4, fun _ => rfl, h6, h7, h8, h10, h14, h16, RegT.other hM.out 5 _ rfl rfl⟩
    · obtain rfl := Option.some.inj hi
      clear hi hil
      refine StepOk.plain rfl (fun K hK => ?_)
      have HKK := Lib.hid hK; clear hK
      simp only [putAll, Act.put, List.setIfInBounds_toArray, List.set_cons_zero, List.set_cons_succ]
      go_simp
      exact HKK.out _ _ ⟨_, by simp only [putAll, Act.put, List.setIfInBounds_toArray, List.set_cons_zero, List.set_cons_succ] <;> rfl, h0, h1, h2, h3, h4, h5, fun _ => rfl, h7, h8, h10, h14, h16, RegT.other hM.out 6 _ rfl rfl⟩
    · obtain rfl := Option.some.inj hi
      clear hi hil
      have d6 := h6 (hall ⟨6, .data⟩ (by simp) rfl)
      refine StepOk.plain rfl (fun K hK => ?_)
      have HKK := Lib.hid hK; clear hK
      simp only [putAll, Act.put, List.setIfInBounds_toArray, List.set_cons_zero, List.set_cons_succ]
      go_simp
      exact HKK.out _ _ ⟨_, by simp only [putAll, Act.put, List.setIfInBounds_toArray, List.set_cons_zero, List.set_cons_succ, d6] <;> rfl, h0, h1, h2, h3, h4, h5, h6, fun _ => rfl, h8, h10, h14, h16, RegT.other hM.out 7 _ rfl rfl⟩
    · obtain rfl := Option.some.inj hi
      clear hi hil
      have d7 := h7 (hall ⟨7, .data⟩ (by simp) rfl)
      obtain ⟨c0, c1⟩ := HV.out w' (RegM.below hM.out.1)
      refine StepOk.plain rfl (fun K hK => ?_)
      have HKK := Lib.hid hK; clear hK
      simp only [putAll, Act.put, List.setIfInBounds_toArray, List.set_cons_zero, List.set_cons_succ]
      go_simp
      exact HKK.out _ _ ⟨_, by simp only [putAll, Act.put, List.setIfInBounds_toArray, List.set_cons_zero, List.set_cons_succ, d7] <;> rfl, h0, h1, h2, h3, h4, h5, h6, h7, fun _ => rfl, h10, h14, h16, RegT.other hM.out 8 _ rfl rfl⟩
    · obtain rfl := Option.some.inj hi
      clear hi hil
      have d2 := h2 (hall ⟨2, .data⟩ (by simp) rfl)
      have d5 := h5 (hall ⟨5, .data⟩ (by simp) rfl)
      have d8 := h8 (hall ⟨8, .data⟩ (by simp) rfl)
      refine StepOk.plain rfl (fun K hK => ?_)
      have HKK := Lib.hid hK; clear hK
      simp only [putAll, Act.put, List.setIfInBounds_toArray, List.set_cons_zero, List.set_cons_succ]
      go_simp
      have hn2 : W.heap.size ≤ w'.heap.size := hM.out.1.1.2
      have hb2 : Below w'.heap.size w' (w'.alloc (.cells (flat [p, p, p]) 34)) := (Below.refl _ _).alloc (Nat.le_refl _) _
      exact HKK.out _ _ ⟨_, by simp only [putAll, Act.put, List.setIfInBounds_toArray, List.set_cons_zero, List.set_cons_succ, d2, d5, d8] <;> rfl, h0, h1, h2, h3, h4, h5, h6, h7, h8, h10, h14, h16, ⟨(RegM.grow hM.out.1 hb2).made ⟨9, 34, [p, p, p]⟩ _ (Own.made w' hn2 _ [p, p, p] _ 3 rfl rfl (by decide)) (by simp) rfl, (TupF.grow hM.out.2 hb2).other 9 _ rfl⟩⟩
    · obtain rfl := Option.some.inj hi
      clear hi hil
      refine StepOk.plain rfl (fun K hK => ?_)
      have HKK := Lib.hid hK; clear hK
      simp only [putAll, Act.put, List.setIfInBounds_toArray, List.set_cons_zero, List.set_cons_succ]
      go_simp
      exact HKK.out _ _ ⟨_, by simp only [putAll, Act.put, List.setIfInBounds_toArray, List.set_cons_zero, List.set_cons_succ] <;> rfl, h0, h1, h2, h3, h4, h5, h6, h7, h8, fun _ => rfl, h14, h16, RegT.other hM.out 10 _ rfl rfl⟩
    · obtain rfl := Option.some.inj hi
      clear hi hil
      have o9 := RegM.row hM.out.1 ⟨9, 34, [p, p, p]⟩ (by simp) (hall ⟨9, .data⟩ (by simp) rfl)
      have d10 := h10 (hall ⟨10, .data⟩ (by simp) rfl)
      refine StepOk.plain rfl (fun K hK => ?_)
      have HKK := Lib.hid hK; clear hK
      simp only [putAll, Act.put, List.setIfInBounds_toArray, List.set_cons_zero, List.set_cons_succ]
      go_simp
      refine (HF1.out _ _ o9.row).mono ?_
      rintro e w2 ⟨r2, rfl, ho2, hb2⟩
      have hn2 : W.heap.size ≤ w'.heap.size := hM.out.1.1.2
      exact HKK.out _ _ ⟨_, by simp only [putAll, Act.put, List.setIfInBounds_toArray, List.set_cons_zero, List.set_cons_succ, d10] <;> rfl, h0, h1, h2, h3, h4, h5, h6, h7, h8, h10, h14, h16, ⟨(RegM.other hM.out.1 11 _ rfl).grow hb2, (TupF.grow hM.out.2 hb2).made ⟨11, 34, F1⟩ r2 (ho2.base hn2) (by simp)⟩⟩
    · obtain rfl := Option.some.inj hi
      clear hi hil
      obtain ⟨r, er, hor⟩ := TupF.at hM.out.2 ⟨11, 34, F1⟩ (by simp) (hall ⟨11, .data⟩ (by simp) rfl)
      simp only at er hor
      refine StepOk.plain rfl (fun K hK => ?_)
      have HKK := Lib.hid hK; clear hK
      simp only [putAll, Act.put, List.setIfInBounds_toArray, List.set_cons_zero, List.set_cons_succ]
      go_simp
      exact HKK.out _ _ ⟨_, by simp only [putAll, Act.put, List.setIfInBounds_toArray, List.set_cons_zero, List.set_cons_succ, er] <;> rfl, h0, h1, h2, h3, h4, h5, h6, h7, h8, h10, h14, h16, ⟨RegM.other hM.out.1 12 _ rfl, hM.out.2.made ⟨12, 34, F1⟩ r hor (by simp)⟩⟩
    · obtain rfl := Option.some.inj hi
      clear hi hil
      obtain ⟨r, er, hor⟩ := TupF.at hM.out.2 ⟨12, 34, F1⟩ (by simp) (hall ⟨12, .data⟩ (by simp) rfl)
      simp only at er hor
      refine StepOk.plain rfl (fun K hK => ?_)
      have HKK := Lib.hid hK; clear hK
      simp only [putAll, Act.put, List.setIfInBounds_toArray, List.set_cons_zero, List.set_cons_succ]
      go_simp
      exact HKK.out _ _ ⟨_, by simp only [putAll, Act.put, List.setIfInBounds_toArray, List.set_cons_zero, List.set_cons_succ, er] <;> rfl, h0, h1, h2, h3, h4, h5, h6, h7, h8, h10, h14, h16, ⟨RegM.made hM.out.1 ⟨13, 34, F1⟩ r hor (by simp) rfl, TupF.other hM.out.2 13 _ rfl⟩⟩
    · obtain rfl := Option.some.inj hi
      clear hi hil
      obtain ⟨r, er, hor⟩ := TupF.at hM.out.2 ⟨12, 34, F1⟩ (by simp) (hall ⟨12, .data⟩ (by simp) rfl)
      simp only at er hor
      refine StepOk.plain rfl (fun K hK => ?_)
      have HKK := Lib.hid hK; clear hK
      simp only [putAll, Act.put, List.setIfInBounds_toArray, List.set_cons_zero, List.set_cons_succ]
      go_simp
      exact HKK.out _ _ ⟨_, by simp only [putAll, Act.put, List.setIfInBounds_toArray, List.set_cons_zero, List.set_cons_succ, er] <;> rfl, h0, h1, h2, h3, h4, h5, h6, h7, h8, h10, fun _ => rfl, h16, RegT.other hM.out 14 _ rfl rfl⟩
    · obtain rfl := Option.some.inj hi
      clear hi hil
      have o13 := RegM.row hM.out.1 ⟨13, 34, F1⟩ (by simp) (hall ⟨13, .data⟩ (by simp) rfl)
      refine StepOk.plain rfl (fun K hK => ?_)
      have HKK := Lib.hid hK; clear hK
      simp only [putAll, Act.put, List.setIfInBounds_toArray, List.set_cons_zero, List.set_cons_succ]
      go_simp
      exact HKK.out _ _ ⟨_, by simp only [putAll, Act.put, List.setIfInBounds_toArray, List.set_cons_zero, List.set_cons_succ] <;> rfl, h0, h1, h2, h3, h4, h5, h6, h7, h8, h10, h14, h16, ⟨RegM.made hM.out.1 ⟨15, 34, F1⟩ (vs 13) o13 (by simp) rfl, TupF.other hM.out.2 15 _ rfl⟩⟩
    · obtain rfl := Option.some.inj hi
      clear hi hil
      have d14 := h14 (hall ⟨14, .data⟩ (by simp) rfl)
      refine StepOk.plain rfl (fun K hK => ?_)
      have HKK := Lib.hid hK; clear hK
      simp only [putAll, Act.put, List.setIfInBounds_toArray, List.set_cons_zero, List.set_cons_succ]
      go_simp
      exact HKK.out _ _ ⟨_, by simp only [putAll, Act.put, List.setIfInBounds_toArray, List.set_cons_zero, List.set_cons_succ, d14] <;> rfl, h0, h1, h2, h3, h4, h5, h6, h7, h8, h10, h14, fun _ => rfl, RegT.other hM.out 16 _ rfl rfl⟩
    · omega
  · rintro b' vs w2 hall ⟨h0, h1, h2, h3, h4, h5, h6, h7, h8, h10, h14, h16, hM⟩
    have d0 := h0 (hall 0 (by simp))
    have d1 := h1 (hall 1 (by simp))
    have d2 := h2 (hall 2 (by simp))
    have d3 := h3 (hall 3 (by simp))
    have d4 := h4 (hall 4 (by simp))
    have d5 := h5 (hall 5 (by simp))
    have d6 := h6 (hall 6 (by simp))
    have d7 := h7 (hall 7 (by simp))
    have d8 := h8 (hall 8 (by simp))
    have d10 := h10 (hall 10 (by simp))
    have d14 := h14 (hall 14 (by simp))
    have d16 := h16 (hall 16 (by simp))
    have o9 := RegM.row hM.out.1 ⟨9, 34, [p, p, p]⟩ (by simp) (hall 9 (by simp))
    have o13 := RegM.row hM.out.1 ⟨13, 34, F1⟩ (by simp) (hall 13 (by simp))
    have o15 := RegM.row hM.out.1 ⟨15, 34, F1⟩ (by simp) (hall 15 (by simp))
    have LS := Lib.hid (RegM.lays hM.out.1)
    have BB := Lib.hid (RegM.below hM.out.1)
    simp only [putAll, Act.put, List.setIfInBounds_toArray, List.set_cons_zero, List.set_cons_succ, d0, d1, d2, d3, d4, d5, d6, d7, d8, d10, d14, d16]
    obtain ⟨fb, fo, fc, e15⟩ := o15.row.someP HL.out.2.2.2.2.1 HL.out.2.2.2.2.2.1
    have R15 := Lib.hid o15.row
    rw [e15] at R15
    simp only [e15]
    have eM2 := ew
    clear e15 o9 o13 o15 hall hM
    clear h0 d0 h1 d1 h2 d2 h3 d3 h4 d4 h5 d5 h6 d6 h7 d7 h8 d8 h10 d10 h14 d14 h16 d16
    go_wp2_with fail
    go_loopw [92] (fun i wr => ∃ k : Nat, k ≤ M ∧ i = .int .i64 k ∧ Hid (Below w2.heap.size w2 wr)) (fun i _ => M - (intOf i).toNat)
    case atStart => exact ⟨0, by omega, rfl, Below.refl _ _⟩
    case round =>
      obtain ⟨k, hk, rfl, hw⟩ := hrel
      by_cases hlt : k < M
      · have hd : decide ((k : Int) < (M : Int)) = true := decide_eq_true (by omega)
        obtain ⟨a, ha⟩ : ∃ a, F1[k]? = some a := ⟨_, List.getElem?_eq_getElem (by rw [HL.out.2.2.2.2.1]; exact hlt)⟩
        have hap : a = p := HL.out.2.2.2.2.2.2.2 a (List.mem_of_getElem? ha)
        subst hap
        obtain ⟨c0, c1⟩ := ((R15.out.on hw.out).ptsP (fun e => by rw [e] at ha; simp at ha)) k a ha
        obtain ⟨c2, c3⟩ := HV.out _ (below_next BB.out hw.out)
        have hM64 : M ≤ 64 := HL.out.2.2.2.2.2.2.1
        have ex : (a.1 == a.1) = true := by simp
        have ey : (a.2 == a.2) = true := by simp
        clear ha
        go_wp2_with fail
        obtain ⟨Wq, hWq⟩ : ∃ W, wr.alloc (.cells #[.int .i64 a.1, .int .i64 a.2] 34) = W := ⟨_, rfl⟩
        have hBq : Hid (Below w2.heap.size w2 Wq ∧ Below wr.heap.size wr Wq) := by
          subst hWq; exact ⟨hw.out.alloc hw.out.size _, (Below.refl _ _).alloc (Nat.le_refl _) _⟩
        have HQ : Hid (∀ w', Out Wq w' → (w'.cell? ⟨wr.heap.size, 0, none⟩ = some (.int .i64 a.1) ∧ w'.cell? ⟨wr.heap.size, 1, none⟩ = some (.int .i64 a.2)) ∧ w'.cell? ⟨b, o, none⟩ = some (.int .i64 a.1) ∧ w'.cell? ⟨b, o + 1, none⟩ = some (.int .i64 a.2)) := fun w' hw' => by
          refine ⟨?_, HV.out _ (below_next (below_next BB.out hBq.out.1) hw')⟩
          subst hWq
          have kq := (Blk.new wr 34 (two a)).grow hw'
          exact ⟨kq.cell 0, kq.cell 1⟩
        rw [hWq]
        clear hWq
        refine wp_region_quiet (C := Out Wq) (by kernel_rfl) (by kernel_rfl) ⟨rfl, rfl, rfl, Nat.le_refl _, fun _ _ => rfl⟩ ?_
        refine BigFrame.wpQuiet_want rfl (fun K hK => ?_)
        refine quiet_val (.agg #[.int .i64 a.1, .int .i64 a.2]) (fun w' hw' => by obtain ⟨⟨q0, q1⟩, q2, q3⟩ := HQ.out w' hw'; go_simp) (hK _ ?_)
        clear hK K
        simp only [Act.put, List.setIfInBounds_toArray, List.set_cons_zero, List.set_cons_succ]
        refine BigFrame.wpQuiet_want rfl (fun K hK => ?_)
        refine quiet_val (.slice (some ⟨b, o, none⟩) N c) (fun w' hw' => by go_simp) (hK _ ?_)
        clear hK K
        simp only [Act.put, List.setIfInBounds_toArray, List.set_cons_zero, List.set_cons_succ]
        refine BigFrame.wpQuiet_want rfl (fun K hK => ?_)
        refine quiet_val (.pointer (some ⟨b, o, none⟩)) (fun w' hw' => by go_simp) (hK _ ?_)
        clear hK K
        simp only [Act.put, List.setIfInBounds_toArray, List.set_cons_zero, List.set_cons_succ]
        refine BigFrame.wpQuiet_want rfl (fun K hK => ?_)
        refine quiet_val (.agg #[.int .i64 a.1, .int .i64 a.2]) (fun w' hw' => by obtain ⟨⟨q0, q1⟩, q2, q3⟩ := HQ.out w' hw'; go_simp) (hK _ ?_)
        clear hK K
        simp only [Act.put, List.setIfInBounds_toArray, List.set_cons_zero, List.set_cons_succ]
        refine BigFrame.wpQuiet_want rfl (fun K hK => ?_)
        refine quiet_val (.bool false) (fun w' hw' => by go_simp) (hK _ ?_)
        clear hK K
        simp only [Act.put, List.setIfInBounds_toArray, List.set_cons_zero, List.set_cons_succ]
        refine wpQuiet_nil ?_
        intro w9 hb
        have B9 : Hid (Below w2.heap.size w2 w9) := below_next hBq.out.1 hb
        clear hb
        go_wp2_with fail
        exact ⟨⟨k + 1, by omega, by go_num, B9.out⟩, by simp [intOf]; omega⟩
      · have hd : decide ((k : Int) < (M : Int)) = false := decide_eq_false (by omega)
        have hD6 := HD.out
        have ew2 : wrap64 ((2 : Int) ^ min D 64) = (M : Int) := by rw [Nat.min_eq_left (by omega)]; exact ew
        go_wp2_with fail
        refine (HAW.out _).mono ?_
        rintro e w9 ⟨rfl, hb⟩
        have B9 : Hid (Below w.heap.size w w9) := below_next (below_next (below_next SW.out.1 BB.out) hw.out) hb
        clear hb
        go_wp2_with fail
        go_ret
        exact ⟨rfl, B9.out⟩
theorem parts_law (w : World) (v : Value) (l : List Pt) (row : Row w v l) (hlen : l.length ≤ 9223372036854775807) (d : Int) : Calls Try.prog 7 #[v, .int .i64 d] w fun e w' => e = .returned (.bool true) ∧ Below w.heap.size w w' := by
  by_cases hgood : curveB l = true ∧ 1 ≤ d ∧ d ≤ 6
  · obtain ⟨hc, h0, h6⟩ := hgood
    obtain ⟨D, rfl⟩ := Int.eq_ofNat_of_zero_le (show 0 ≤ d by omega)
    obtain ⟨E, rfl⟩ : ∃ E, D = E + 1 := ⟨D - 1, by omega⟩
    have hl3 : 3 ≤ l.length ∧ l.length ≤ 4 := by rcases curve_cases hc with ⟨p, q, r, rfl, _⟩ | ⟨p, q, r, s, rfl, _⟩ <;> simp
    have hE : E ≤ 6 := by omega
    have hD : E + 1 ≤ 6 := by omega
    have h64 := pow_small hE
    have h65 := pow_small hD
    have hpos : 0 < 2 ^ (E + 1) := Nat.pos_of_ne_zero (by simp)
    have hf1 := flatI_length E (firstI l)
    have hf2 := flatI_length E (secondI l)
    obtain ⟨b, o, c, rfl⟩ := row.someP (n := l.length) rfl (by omega)
    obtain ⟨p, hp, hpr⟩ : ∃ p, l[0]? = some p ∧ roomP p = true := by
      rcases curve_cases hc with ⟨p, q, r, rfl, hp, _⟩ | ⟨p, q, r, s, rfl, hp, _⟩ <;> exact ⟨p, rfl, hp⟩
    have hone : curveB [p, p, p] = true := by simp [curveB, hpr]
    have hf3 := flatI_length (E + 1) [p, p, p]
    exact parts_walk w b o l.length c l (firstI l) (secondI l) (flatI E (firstI l)) (flatI E (secondI l)) (flatI (E + 1) [p, p, p]) (E + 1) E (2 ^ (E + 1)) p hD (by omega) rfl rfl (by omega)
      (Lib.hid ⟨hp, rfl, by omega, by omega, hf3, hpos, h65, flatI_same p (E + 1)⟩) (Lib.hid row) (Lib.hid fun w' hr => by have := right_c _ l w' hlen hr; rwa [hc] at this)
      (Lib.hid fun u w' hr => flat_c u l (E + 1) w' hr hc hD) (Lib.hid fun u w' hr => flat_c u _ E w' hr (firstI_curve hc).1 hE) (Lib.hid fun u w' hr => flat_c u _ E w' hr (secondI_curve hc).1 hE) (Lib.hid fun u w' hr => flat_c u _ (E + 1) w' hr hone hD)
      (Lib.hid fun w' hr => halves_c _ l w' hr hc) (Lib.hid fun u w' hr => ref_c w' u _ (by rw [List.length_append]; omega) hr) (Lib.hid fun s u w' h1 h2 => same_c s u _ w' (by rw [List.length_append]; omega) h1 h2)
  · have hbad : curveB l = false ∨ d < 1 ∨ 6 < d := by
      cases hc : curveB l with
      | false => exact .inl rfl
      | true => right; rw [hc] at hgood; simp at hgood; omega
    exact parts_no w v d (curveB l) hbad (Lib.hid (right_c v l w hlen row))
end Go.Proofs.Ythlealndopppaaa
