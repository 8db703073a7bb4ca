/- The law CurveHalves. -/
import Derived.Test.YthlealndopppaaaY
import Derived.Test.YthlealndopppaaaZ
import Derived.Test.YthlealndopppaaaF
import Derived.Test.YthlealndopppaaaH
namespace Go.Proofs.Ythlealndopppaaa
open Go.RowKit
theorem Row.ptsH {W : World} {bb o N c : Nat} {L : List Pt} (h : Row W (.slice (some ⟨bb, o, none⟩) N c) L) (hL : L ≠ []) : PtsAt W bb o L := by
  rcases h with ⟨_, e⟩ | ⟨_, _, _, e⟩ | ⟨b, o', c', e, _, hp⟩
  · exact absurd e hL
  · exact absurd e hL
  · simp at e
    obtain ⟨⟨rfl, rfl⟩, _⟩ := e
    exact hp
theorem Row.shapeSome {W : World} {s : Value} {L : List Pt} (h : Row W s L) {n : Nat} (hn : L.length = n) (hp : 0 < n) : ∃ b o c, s = .slice (some ⟨b, o, none⟩) n c := by
  obtain ⟨_, c, e⟩ := h.shape
  subst e
  obtain ⟨b, o, e, _⟩ := h.addr (k := 0) (by omega)
  exact ⟨b, o, c, by rw [e, hn]⟩
set_option maxHeartbeats 2000000 in
set_option maxRecDepth 100000 in
theorem halves_long (w : World) (ao : Option Addr) (n c : Nat) (hn : 100 < n) : Calls Try.prog 3 #[.slice ao n c] w fun e w' => e = .returned (.bool true) ∧ Below w.heap.size w w' := by
  have HAW := Lib.hid awake_c
  have hd : decide ((n : Int) > 100) = true := decide_eq_true (by omega)
  clear hn
  go_enter Try.func3, Try.ntmps3
  go_wp2_with fail
  refine (HAW.out _).mono ?_
  rintro e w1 ⟨rfl, hb⟩
  have B1 := Lib.hid hb
  clear hb
  go_wp2_with fail
  go_ret
  exact ⟨rfl, B1.out⟩
set_option maxHeartbeats 2000000 in
set_option maxRecDepth 100000 in
theorem halves_bad (w : World) (ao : Option Addr) (n c : Nat) (l : List Pt) (hn : n ≤ 100) (HROW : Hid (Row w (.slice ao n c) l))
    (HREF : Hid (∀ w', Row w' (.slice ao n c) l → Calls Try.prog 10 #[.slice ao n c] w' fun e w'' => ∃ u, e = .returned u ∧ Own w'' w'.heap.size 36 u l ∧ Below w'.heap.size w' w''))
    (HH : Hid (∀ w', Row w' (.slice ao n c) l → Calls Try.prog 11 #[.slice ao n c] w' fun e w'' => e = .returned (.tuple #[.slice none 0 0, .slice none 0 0, .int .i64 30]) ∧ Below w'.heap.size w' w''))
    (HS : Hid (∀ s u w', Row w' s l → Row w' u l → Calls Try.prog 12 #[s, u] w' fun e w'' => e = .returned (.bool true) ∧ Below w'.heap.size w' w''))
    (HR : Hid (∀ w', Row w' (.slice ao n c) l → Calls Try.prog 13 #[.slice ao n c] w' fun e w'' => e = .returned (.bool false) ∧ Below w'.heap.size w' w'')) :
    Calls Try.prog 3 #[.slice ao n c] w fun e w' => e = .returned (.bool true) ∧ Below w.heap.size w w' := by
  have HAW := Lib.hid awake_c
  have hd : decide ((n : Int) > 100) = false := decide_eq_false (by omega)
  clear hn
  go_enter Try.func3, Try.ntmps3
  go_wp2_with fail
  refine (HREF.out _ HROW.out).mono ?_
  rintro e w1 ⟨u, rfl, hou, hb⟩
  have S1 : Hid (Below w.heap.size w w1 ∧ Row w1 (.slice ao n c) l ∧ Row w1 u l) := ⟨hb, HROW.out.on hb, hou.row⟩
  clear hou hb
  go_wp2_with fail
  refine (HH.out _ S1.out.2.1).mono ?_
  rintro e w2 ⟨rfl, hb⟩
  have S2 : Hid (Below w.heap.size w w2 ∧ Row w2 (.slice ao n c) l ∧ Row w2 u l) := ⟨below_next S1.out.1 hb, S1.out.2.1.on hb, S1.out.2.2.on hb⟩
  clear hb
  go_wp2_with fail
  refine (HS.out _ _ _ S2.out.2.1 S2.out.2.2).mono ?_
  rintro e w3 ⟨rfl, hb⟩
  have S3 : Hid (Below w.heap.size w w3 ∧ Row w3 (.slice ao n c) l) := ⟨below_next S2.out.1 hb, S2.out.2.1.on hb⟩
  clear hb
  go_wp2_with fail
  refine (HR.out _ S3.out.2).mono ?_
  rintro e w4 ⟨rfl, hb⟩
  have S4 : Hid (Below w.heap.size w w4) := below_next S3.out.1 hb
  clear hb
  go_wp2_with fail
  refine (HAW.out _).mono ?_
  rintro e w5 ⟨rfl, hb⟩
  have S5 : Hid (Below w.heap.size w w5) := below_next S4.out hb
  clear hb
  go_wp2_with fail
  go_ret
  exact ⟨rfl, S5.out⟩
set_option maxHeartbeats 8000000 in
set_option maxRecDepth 100000 in
theorem halves_walk_law (w : World) (b o N c : Nat) (l FA FB : List Pt) (p0 p1 mid z : Pt) (m : Nat) (hN : N ≤ 100) (h2 : 2 ≤ N) (hmN : m < N) (eN : IntKind.i64.wrap ((N : Int) - 1) = (m : Int))
    (HZ : Hid (l[0]? = some p0 ∧ l[1]? = some p1 ∧ FA[m]? = some z ∧ FB[0]? = some z ∧ FA.length = N ∧ FB.length = N ∧ l.length = N)) (HROW : Hid (Row w (.slice (some ⟨b, o, none⟩) N c) l))
    (HREF : Hid (∀ w', Row w' (.slice (some ⟨b, o, none⟩) N c) l → Calls Try.prog 10 #[.slice (some ⟨b, o, none⟩) N c] w' fun e w'' => ∃ u, e = .returned u ∧ Own w'' w'.heap.size 36 u l ∧ Below w'.heap.size w' w''))
    (HH : Hid (∀ w', Row w' (.slice (some ⟨b, o, none⟩) N c) l → Calls Try.prog 11 #[.slice (some ⟨b, o, none⟩) N c] w' fun e w'' => ∃ s u, e = .returned (.tuple #[s, u, .int .i64 0]) ∧ Own w'' w'.heap.size 34 s FA ∧ Own w'' w'.heap.size 34 u FB ∧ Below w'.heap.size w' w''))
    (HRH : Hid (∀ u w', Row w' u l → Calls Try.prog 14 #[u] w' fun e w'' => ∃ s t, e = .returned (.tuple #[s, t]) ∧ Own w'' w'.heap.size 36 s FA ∧ Own w'' w'.heap.size 36 t FB ∧ Below w'.heap.size w' w''))
    (HS : Hid (∀ (k : List Pt), k.length = N → ∀ s u w', Row w' s k → Row w' u k → Calls Try.prog 12 #[s, u] w' fun e w'' => e = .returned (.bool true) ∧ Below w'.heap.size w' w''))
    (HR : Hid (∀ w', Row w' (.slice (some ⟨b, o, none⟩) N c) l → Calls Try.prog 13 #[.slice (some ⟨b, o, none⟩) N c] w' fun e w'' => e = .returned (.bool true) ∧ Below w'.heap.size w' w''))
    (HM : Hid (∀ w', Calls Try.prog 15 #[.agg #[.int .i64 p0.1, .int .i64 p0.2], .agg #[.int .i64 p1.1, .int .i64 p1.2]] w' fun e w'' => e = .returned (.agg #[.int .i64 mid.1, .int .i64 mid.2]) ∧ Below w'.heap.size w' w''))
    (HRM : Hid (∀ w', Calls Try.prog 16 #[.agg #[.int .i64 p0.1, .int .i64 p0.2], .agg #[.int .i64 p1.1, .int .i64 p1.2]] w' fun e w'' => e = .returned (.agg #[.int .i64 mid.1, .int .i64 mid.2]) ∧ Below w'.heap.size w' w'')) :
    Calls Try.prog 3 #[.slice (some ⟨b, o, none⟩) N c] w fun e w' => e = .returned (.bool true) ∧ Below w.heap.size w w' := by
  have HAW := Lib.hid awake_c
  have hd : decide ((N : Int) > 100) = false := decide_eq_false (by omega)
  have EN := Lib.hid eN
  have hN0 : 0 < N := by omega
  have hN1 : 1 < N := by omega
  have hN1' : (1 : Int) < (N : Int) := by omega
  clear hN h2 eN
  go_enter Try.func3, Try.ntmps3
  go_wp2_with fail
  refine (HREF.out _ HROW.out).mono ?_
  rintro e w1 ⟨u, rfl, hou, hb⟩
  obtain ⟨ub, uo, uc, rfl⟩ := hou.row.shapeSome (n := N) HZ.out.2.2.2.2.2.2 hN0
  have S1 : Hid (Below w.heap.size w w1 ∧ Row w1 (.slice (some ⟨b, o, none⟩) N c) l ∧ Row w1 (.slice (some ⟨ub, uo, none⟩) N uc) l) := ⟨hb, HROW.out.on hb, hou.row⟩
  clear hou hb
  go_wp2_with fail
  refine (HH.out _ S1.out.2.1).mono ?_
  rintro e w2 ⟨a1, b1, rfl, hoa, hob, hb⟩
  obtain ⟨ab, aof, ac, rfl⟩ := hoa.row.shapeSome (n := N) HZ.out.2.2.2.2.1 hN0
  obtain ⟨bb, bo, bc, rfl⟩ := hob.row.shapeSome (n := N) HZ.out.2.2.2.2.2.1 hN0
  have S2 : Hid (Below w.heap.size w w2 ∧ Row w2 (.slice (some ⟨b, o, none⟩) N c) l ∧ Row w2 (.slice (some ⟨ub, uo, none⟩) N uc) l ∧ Row w2 (.slice (some ⟨ab, aof, none⟩) N ac) FA ∧ Row w2 (.slice (some ⟨bb, bo, none⟩) N bc) FB) := ⟨below_next S1.out.1 hb, S1.out.2.1.on hb, S1.out.2.2.on hb, hoa.row, hob.row⟩
  clear hoa hob hb
  go_wp2_with fail
  refine (HS.out l HZ.out.2.2.2.2.2.2 _ _ _ S2.out.2.1 S2.out.2.2.1).mono ?_
  rintro e w3 ⟨rfl, hb⟩
  have S3 : Hid (Below w.heap.size w w3 ∧ Row w3 (.slice (some ⟨b, o, none⟩) N c) l ∧ Row w3 (.slice (some ⟨ub, uo, none⟩) N uc) l ∧ Row w3 (.slice (some ⟨ab, aof, none⟩) N ac) FA ∧ Row w3 (.slice (some ⟨bb, bo, none⟩) N bc) FB) := ⟨below_next S2.out.1 hb, S2.out.2.1.on hb, S2.out.2.2.1.on hb, S2.out.2.2.2.1.on hb, S2.out.2.2.2.2.on hb⟩
  clear hb
  go_wp2_with fail
  refine (HR.out _ S3.out.2.1).mono ?_
  rintro e w4 ⟨rfl, hb⟩
  have S4 : Hid (Below w.heap.size w w4 ∧ Row w4 (.slice (some ⟨b, o, none⟩) N c) l ∧ Row w4 (.slice (some ⟨ub, uo, none⟩) N uc) l ∧ Row w4 (.slice (some ⟨ab, aof, none⟩) N ac) FA ∧ Row w4 (.slice (some ⟨bb, bo, none⟩) N bc) FB) := ⟨below_next S3.out.1 hb, S3.out.2.1.on hb, S3.out.2.2.1.on hb, S3.out.2.2.2.1.on hb, S3.out.2.2.2.2.on hb⟩
  clear hb
  go_wp2_with fail
  refine (HRH.out _ _ S4.out.2.2.1).mono ?_
  rintro e w5 ⟨x1, y1, rfl, hox, hoy, hb⟩
  have S5 : Hid (Below w.heap.size w w5 ∧ Row w5 (.slice (some ⟨b, o, none⟩) N c) l ∧ Row w5 (.slice (some ⟨ub, uo, none⟩) N uc) l ∧ Row w5 (.slice (some ⟨ab, aof, none⟩) N ac) FA ∧ Row w5 (.slice (some ⟨bb, bo, none⟩) N bc) FB ∧ Row w5 x1 FA ∧ Row w5 y1 FB) := ⟨below_next S4.out.1 hb, S4.out.2.1.on hb, S4.out.2.2.1.on hb, S4.out.2.2.2.1.on hb, S4.out.2.2.2.2.on hb, hox.row, hoy.row⟩
  clear hox hoy hb
  go_wp2_with fail
  refine wp_region_put (by kernel_rfl) (by kernel_rfl) (by kernel_rfl) (fun b' vs w' => (b' 0 = true → vs 0 = .slice (some ⟨b, o, none⟩) N c) ∧ (b' 1 = true → vs 1 = .pointer (some ⟨b, o, none⟩)) ∧ (b' 2 = true → vs 2 = .agg #[.int .i64 p0.1, .int .i64 p0.2]) ∧ (b' 3 = true → vs 3 = .slice (some ⟨b, o, none⟩) N c) ∧ (b' 4 = true → vs 4 = .pointer (some ⟨b, o + 2, none⟩)) ∧ (b' 5 = true → vs 5 = .agg #[.int .i64 p1.1, .int .i64 p1.2]) ∧ (b' 6 = true → vs 6 = .agg #[.int .i64 mid.1, .int .i64 mid.2]) ∧ Hid (LayM w5 34 (two (0, 0)) [⟨7, 8, two (mid.1, mid.2)⟩] b' vs w')) ?_ ?_ ?_
  · intro vs
    exact ⟨fun h => Bool.noConfusion h, fun h => Bool.noConfusion h, fun h => Bool.noConfusion h, fun h => Bool.noConfusion h, fun h => Bool.noConfusion h, fun h => Bool.noConfusion h, fun h => Bool.noConfusion h, LayM.start vs⟩
  · rintro b' vs w' i op hi hun hall ⟨h0, h1, h2, h3, h4, h5, h6, hM⟩
    have hil : i < 9 := (List.getElem?_eq_some_iff.1 hi).1
    have hbelow := LayM.below hM.out
    rcases i with _ | _ | _ | _ | _ | _ | _ | _ | _ | i
    · obtain rfl := Option.some.inj hi
      refine wpOp_step rfl (fun K hK => ?_)
      have HKK := Lib.hid hK; clear hK
      simp only [putAll, Act.put, List.setIfInBounds_toArray, List.set_cons_zero, List.set_cons_succ]
      go_simp
      exact HKK.out _ _ ⟨_, by simp only [putAll, Act.put, List.setIfInBounds_toArray, List.set_cons_zero, List.set_cons_succ] <;> rfl, fun _ => rfl, h1, h2, h3, h4, h5, h6, LayM.other hM.out 0 _ rfl⟩
    · obtain rfl := Option.some.inj hi
      have d0 := h0 (hall ⟨0, .data⟩ (by simp) rfl)
      refine wpOp_step rfl (fun K hK => ?_)
      have HKK := Lib.hid hK; clear hK
      simp only [putAll, Act.put, List.setIfInBounds_toArray, List.set_cons_zero, List.set_cons_succ]
      go_simp
      exact HKK.out _ _ ⟨_, by simp only [putAll, Act.put, List.setIfInBounds_toArray, List.set_cons_zero, List.set_cons_succ, d0] <;> rfl, h0, fun _ => rfl, h2, h3, h4, h5, h6, LayM.other hM.out 1 _ rfl⟩
    · obtain rfl := Option.some.inj hi
      have d1 := h1 (hall ⟨1, .data⟩ (by simp) rfl)
      obtain ⟨c0, c1⟩ := (S5.out.2.1.on hbelow).ptsH (by rw [← List.length_pos_iff, HZ.out.2.2.2.2.2.2]; exact hN0) 0 p0 HZ.out.1; simp only [Nat.zero_mul, Nat.add_zero] at c0 c1
      refine wpOp_step rfl (fun K hK => ?_)
      have HKK := Lib.hid hK; clear hK
      simp only [putAll, Act.put, List.setIfInBounds_toArray, List.set_cons_zero, List.set_cons_succ]
      go_simp
      exact HKK.out _ _ ⟨_, by simp only [putAll, Act.put, List.setIfInBounds_toArray, List.set_cons_zero, List.set_cons_succ, d1] <;> rfl, h0, h1, fun _ => rfl, h3, h4, h5, h6, LayM.other hM.out 2 _ rfl⟩
    · obtain rfl := Option.some.inj hi
      refine wpOp_step rfl (fun K hK => ?_)
      have HKK := Lib.hid hK; clear hK
      simp only [putAll, Act.put, List.setIfInBounds_toArray, List.set_cons_zero, List.set_cons_succ]
      go_simp
      exact HKK.out _ _ ⟨_, by simp only [putAll, Act.put, List.setIfInBounds_toArray, List.set_cons_zero, List.set_cons_succ] <;> rfl, h0, h1, h2, fun _ => rfl, h4, h5, h6, LayM.other hM.out 3 _ rfl⟩
    · obtain rfl := Option.some.inj hi
      have d3 := h3 (hall ⟨3, .data⟩ (by simp) rfl)
      refine wpOp_step rfl (fun K hK => ?_)
      have HKK := Lib.hid hK; clear hK
      simp only [putAll, Act.put, List.setIfInBounds_toArray, List.set_cons_zero, List.set_cons_succ]
      go_simp
      exact HKK.out _ _ ⟨_, by simp only [putAll, Act.put, List.setIfInBounds_toArray, List.set_cons_zero, List.set_cons_succ, d3] <;> rfl, h0, h1, h2, h3, fun _ => rfl, h5, h6, LayM.other hM.out 4 _ rfl⟩
    · obtain rfl := Option.some.inj hi
      have d4 := h4 (hall ⟨4, .data⟩ (by simp) rfl)
      obtain ⟨c0, c1⟩ := (S5.out.2.1.on hbelow).ptsH (by rw [← List.length_pos_iff, HZ.out.2.2.2.2.2.2]; exact hN0) 1 p1 HZ.out.2.1; simp only [Nat.one_mul] at c0 c1
      refine wpOp_step rfl (fun K hK => ?_)
      have HKK := Lib.hid hK; clear hK
      simp only [putAll, Act.put, List.setIfInBounds_toArray, List.set_cons_zero, List.set_cons_succ]
      go_simp
      exact HKK.out _ _ ⟨_, by simp only [putAll, Act.put, List.setIfInBounds_toArray, List.set_cons_zero, List.set_cons_succ, d4] <;> rfl, h0, h1, h2, h3, h4, fun _ => rfl, h6, LayM.other hM.out 5 _ rfl⟩
    · obtain rfl := Option.some.inj hi
      have d2 := h2 (hall ⟨2, .data⟩ (by simp) rfl)
      have d5 := h5 (hall ⟨5, .data⟩ (by simp) rfl)
      refine wpOp_step rfl (fun K hK => ?_)
      have HKK := Lib.hid hK; clear hK
      simp only [putAll, Act.put, List.setIfInBounds_toArray, List.set_cons_zero, List.set_cons_succ]
      go_simp
      refine (HM.out _).mono ?_
      rintro e w2 ⟨rfl, hb2⟩
      exact HKK.out _ _ ⟨_, by simp only [putAll, Act.put, List.setIfInBounds_toArray, List.set_cons_zero, List.set_cons_succ, d2, d5] <;> rfl, h0, h1, h2, h3, h4, h5, fun _ => rfl, (LayM.other hM.out 6 _ rfl).grow hb2⟩
    · obtain rfl := Option.some.inj hi
      refine wpOp_step rfl (fun K hK => ?_)
      have HKK := Lib.hid hK; clear hK
      simp only [putAll, Act.put, List.setIfInBounds_toArray, List.set_cons_zero, List.set_cons_succ]
      go_simp
      exact HKK.out _ _ ⟨_, by simp only [putAll, Act.put, List.setIfInBounds_toArray, List.set_cons_zero, List.set_cons_succ] <;> rfl, h0, h1, h2, h3, h4, h5, h6, LayM.made hM.out rfl ⟨7, 8, two (mid.1, mid.2)⟩ (by simp) hun⟩
    · obtain rfl := Option.some.inj hi
      have d6 := h6 (hall ⟨6, .data⟩ (by simp) rfl)
      have dal := hall ⟨7, .data⟩ (by simp) rfl
      obtain ⟨g, eg, lg, kg⟩ := LayM.at hM.out ⟨7, 8, two (mid.1, mid.2)⟩ (by simp) dal hun
      have c0 := kg.p0
      have c1 := kg.p1
      have f0 := kg.free 0
      have f1 := kg.free 1
      have lgw := kg.lt
      refine wpOp_step rfl (fun K hK => ?_)
      have HKK := Lib.hid hK; clear hK
      simp only [putAll, Act.put, List.setIfInBounds_toArray, List.set_cons_zero, List.set_cons_succ]
      go_simp
      exact HKK.out _ _ ⟨_, by simp only [putAll, Act.put, List.setIfInBounds_toArray, List.set_cons_zero, List.set_cons_succ, d6, eg] <;> rfl, h0, h1, h2, h3, h4, h5, h6, LayM.stored hM.out rfl ⟨7, 8, two (mid.1, mid.2)⟩ (by simp) undef dal eg (below_two hbelow lg _ _) (kg.setP _ _) (fun g' cs hne k => k.otherP hne _ _)⟩
    · omega
  · rintro b' vs w6 hall ⟨h0, h1, h2, h3, h4, h5, h6, hM⟩
    have d0 := h0 (hall 0 (by simp)); have d1 := h1 (hall 1 (by simp)); have d2 := h2 (hall 2 (by simp)); have d3 := h3 (hall 3 (by simp)); have d4 := h4 (hall 4 (by simp)); have d5 := h5 (hall 5 (by simp)); have d6 := h6 (hall 6 (by simp))
    obtain ⟨gm, e7, _, km⟩ := LayM.done hM.out ⟨7, 8, two (mid.1, mid.2)⟩ (by simp) (hall 7 (by simp)) (hall 8 (by simp))
    have hb := LayM.below hM.out
    simp only [putAll, Act.put, List.setIfInBounds_toArray, List.set_cons_zero, List.set_cons_succ, d0, d1, d2, d3, d4, d5, d6, e7]
    have S6 : Hid (Below w.heap.size w w6 ∧ Row w6 (.slice (some ⟨b, o, none⟩) N c) l ∧ Row w6 (.slice (some ⟨ub, uo, none⟩) N uc) l ∧ Row w6 (.slice (some ⟨ab, aof, none⟩) N ac) FA ∧ Row w6 (.slice (some ⟨bb, bo, none⟩) N bc) FB ∧ Row w6 x1 FA ∧ Row w6 y1 FB ∧ Blk w6 gm 34 (two (mid.1, mid.2))) := ⟨below_next S5.out.1 hb, S5.out.2.1.on hb, S5.out.2.2.1.on hb, S5.out.2.2.2.1.on hb, S5.out.2.2.2.2.1.on hb, S5.out.2.2.2.2.2.1.on hb, S5.out.2.2.2.2.2.2.on hb, km⟩
    clear hb km h0 h1 h2 h3 h4 h5 h6 d0 d1 d2 d3 d4 d5 d6 e7 hM hall
    go_wp2_with fail
    refine wp_region_put (by kernel_rfl) (by kernel_rfl) (by kernel_rfl) (fun b' vs w' => (b' 0 = true → vs 0 = .slice (some ⟨ub, uo, none⟩) N uc) ∧ (b' 1 = true → vs 1 = .pointer (some ⟨ub, uo, none⟩)) ∧ (b' 2 = true → vs 2 = .agg #[.int .i64 p0.1, .int .i64 p0.2]) ∧ (b' 3 = true → vs 3 = .slice (some ⟨ub, uo, none⟩) N uc) ∧ (b' 4 = true → vs 4 = .pointer (some ⟨ub, uo + 2, none⟩)) ∧ (b' 5 = true → vs 5 = .agg #[.int .i64 p1.1, .int .i64 p1.2]) ∧ (b' 6 = true → vs 6 = .agg #[.int .i64 mid.1, .int .i64 mid.2]) ∧ Hid (LayM w6 36 (two (0, 0)) [⟨7, 8, two (mid.1, mid.2)⟩] b' vs w')) ?_ ?_ ?_
    · intro vs
      exact ⟨fun h => Bool.noConfusion h, fun h => Bool.noConfusion h, fun h => Bool.noConfusion h, fun h => Bool.noConfusion h, fun h => Bool.noConfusion h, fun h => Bool.noConfusion h, fun h => Bool.noConfusion h, LayM.start vs⟩
    · rintro b' vs w' i op hi hun hall ⟨h0, h1, h2, h3, h4, h5, h6, hM⟩
      have hil : i < 9 := (List.getElem?_eq_some_iff.1 hi).1
      have hbelow := LayM.below hM.out
      rcases i with _ | _ | _ | _ | _ | _ | _ | _ | _ | i
      · obtain rfl := Option.some.inj hi
        refine wpOp_step rfl (fun K hK => ?_)
        have HKK := Lib.hid hK; clear hK
        simp only [putAll, Act.put, List.setIfInBounds_toArray, List.set_cons_zero, List.set_cons_succ]
        go_simp
        exact HKK.out _ _ ⟨_, by simp only [putAll, Act.put, List.setIfInBounds_toArray, List.set_cons_zero, List.set_cons_succ] <;> rfl, fun _ => rfl, h1, h2, h3, h4, h5, h6, LayM.other hM.out 0 _ rfl⟩
      · obtain rfl := Option.some.inj hi
        have d0 := h0 (hall ⟨0, .data⟩ (by simp) rfl)
        refine wpOp_step rfl (fun K hK => ?_)
        have HKK := Lib.hid hK; clear hK
        simp only [putAll, Act.put, List.setIfInBounds_toArray, List.set_cons_zero, List.set_cons_succ]
        go_simp
        exact HKK.out _ _ ⟨_, by simp only [putAll, Act.put, List.setIfInBounds_toArray, List.set_cons_zero, List.set_cons_succ, d0] <;> rfl, h0, fun _ => rfl, h2, h3, h4, h5, h6, LayM.other hM.out 1 _ rfl⟩
      · obtain rfl := Option.some.inj hi
        have d1 := h1 (hall ⟨1, .data⟩ (by simp) rfl)
        obtain ⟨c0, c1⟩ := (S6.out.2.2.1.on hbelow).ptsH (by rw [← List.length_pos_iff, HZ.out.2.2.2.2.2.2]; exact hN0) 0 p0 HZ.out.1; simp only [Nat.zero_mul, Nat.add_zero] at c0 c1
        refine wpOp_step rfl (fun K hK => ?_)
        have HKK := Lib.hid hK; clear hK
        simp only [putAll, Act.put, List.setIfInBounds_toArray, List.set_cons_zero, List.set_cons_succ]
        go_simp
        exact HKK.out _ _ ⟨_, by simp only [putAll, Act.put, List.setIfInBounds_toArray, List.set_cons_zero, List.set_cons_succ, d1] <;> rfl, h0, h1, fun _ => rfl, h3, h4, h5, h6, LayM.other hM.out 2 _ rfl⟩
      · obtain rfl := Option.some.inj hi
        refine wpOp_step rfl (fun K hK => ?_)
        have HKK := Lib.hid hK; clear hK
        simp only [putAll, Act.put, List.setIfInBounds_toArray, List.set_cons_zero, List.set_cons_succ]
        go_simp
        exact HKK.out _ _ ⟨_, by simp only [putAll, Act.put, List.setIfInBounds_toArray, List.set_cons_zero, List.set_cons_succ] <;> rfl, h0, h1, h2, fun _ => rfl, h4, h5, h6, LayM.other hM.out 3 _ rfl⟩
      · obtain rfl := Option.some.inj hi
        have d3 := h3 (hall ⟨3, .data⟩ (by simp) rfl)
        refine wpOp_step rfl (fun K hK => ?_)
        have HKK := Lib.hid hK; clear hK
        simp only [putAll, Act.put, List.setIfInBounds_toArray, List.set_cons_zero, List.set_cons_succ]
        go_simp
        exact HKK.out _ _ ⟨_, by simp only [putAll, Act.put, List.setIfInBounds_toArray, List.set_cons_zero, List.set_cons_succ, d3] <;> rfl, h0, h1, h2, h3, fun _ => rfl, h5, h6, LayM.other hM.out 4 _ rfl⟩
      · obtain rfl := Option.some.inj hi
        have d4 := h4 (hall ⟨4, .data⟩ (by simp) rfl)
        obtain ⟨c0, c1⟩ := (S6.out.2.2.1.on hbelow).ptsH (by rw [← List.length_pos_iff, HZ.out.2.2.2.2.2.2]; exact hN0) 1 p1 HZ.out.2.1; simp only [Nat.one_mul] at c0 c1
        refine wpOp_step rfl (fun K hK => ?_)
        have HKK := Lib.hid hK; clear hK
        simp only [putAll, Act.put, List.setIfInBounds_toArray, List.set_cons_zero, List.set_cons_succ]
        go_simp
        exact HKK.out _ _ ⟨_, by simp only [putAll, Act.put, List.setIfInBounds_toArray, List.set_cons_zero, List.set_cons_succ, d4] <;> rfl, h0, h1, h2, h3, h4, fun _ => rfl, h6, LayM.other hM.out 5 _ rfl⟩
      · obtain rfl := Option.some.inj hi
        have d2 := h2 (hall ⟨2, .data⟩ (by simp) rfl)
        have d5 := h5 (hall ⟨5, .data⟩ (by simp) rfl)
        refine wpOp_step rfl (fun K hK => ?_)
        have HKK := Lib.hid hK; clear hK
        simp only [putAll, Act.put, List.setIfInBounds_toArray, List.set_cons_zero, List.set_cons_succ]
        go_simp
        refine (HRM.out _).mono ?_
        rintro e w2 ⟨rfl, hb2⟩
        exact HKK.out _ _ ⟨_, by simp only [putAll, Act.put, List.setIfInBounds_toArray, List.set_cons_zero, List.set_cons_succ, d2, d5] <;> rfl, h0, h1, h2, h3, h4, h5, fun _ => rfl, (LayM.other hM.out 6 _ rfl).grow hb2⟩
      · obtain rfl := Option.some.inj hi
        refine wpOp_step rfl (fun K hK => ?_)
        have HKK := Lib.hid hK; clear hK
        simp only [putAll, Act.put, List.setIfInBounds_toArray, List.set_cons_zero, List.set_cons_succ]
        go_simp
        exact HKK.out _ _ ⟨_, by simp only [putAll, Act.put, List.setIfInBounds_toArray, List.set_cons_zero, List.set_cons_succ] <;> rfl, h0, h1, h2, h3, h4, h5, h6, LayM.made hM.out rfl ⟨7, 8, two (mid.1, mid.2)⟩ (by simp) hun⟩
      · obtain rfl := Option.some.inj hi
        have d6 := h6 (hall ⟨6, .data⟩ (by simp) rfl)
        have dal := hall ⟨7, .data⟩ (by simp) rfl
        obtain ⟨g, eg, lg, kg⟩ := LayM.at hM.out ⟨7, 8, two (mid.1, mid.2)⟩ (by simp) dal hun
        have c0 := kg.p0
        have c1 := kg.p1
        have f0 := kg.free 0
        have f1 := kg.free 1
        have lgw := kg.lt
        refine wpOp_step rfl (fun K hK => ?_)
        have HKK := Lib.hid hK; clear hK
        simp only [putAll, Act.put, List.setIfInBounds_toArray, List.set_cons_zero, List.set_cons_succ]
        go_simp
        exact HKK.out _ _ ⟨_, by simp only [putAll, Act.put, List.setIfInBounds_toArray, List.set_cons_zero, List.set_cons_succ, d6, eg] <;> rfl, h0, h1, h2, h3, h4, h5, h6, LayM.stored hM.out rfl ⟨7, 8, two (mid.1, mid.2)⟩ (by simp) undef dal eg (below_two hbelow lg _ _) (kg.setP _ _) (fun g' cs hne k => k.otherP hne _ _)⟩
      · omega
    · rintro b' vs w7 hall ⟨h0, h1, h2, h3, h4, h5, h6, hM⟩
      have d0 := h0 (hall 0 (by simp)); have d1 := h1 (hall 1 (by simp)); have d2 := h2 (hall 2 (by simp)); have d3 := h3 (hall 3 (by simp)); have d4 := h4 (hall 4 (by simp)); have d5 := h5 (hall 5 (by simp)); have d6 := h6 (hall 6 (by simp))
      obtain ⟨gn, e7, _, kn⟩ := LayM.done hM.out ⟨7, 8, two (mid.1, mid.2)⟩ (by simp) (hall 7 (by simp)) (hall 8 (by simp))
      have hb := LayM.below hM.out
      simp only [putAll, Act.put, List.setIfInBounds_toArray, List.set_cons_zero, List.set_cons_succ, d0, d1, d2, d3, d4, d5, d6, e7]
      have S7 : Hid (Below w.heap.size w w7 ∧ Row w7 (.slice (some ⟨ab, aof, none⟩) N ac) FA ∧ Row w7 (.slice (some ⟨bb, bo, none⟩) N bc) FB ∧ Row w7 x1 FA ∧ Row w7 y1 FB ∧ Blk w7 gm 34 (two (mid.1, mid.2)) ∧ Blk w7 gn 36 (two (mid.1, mid.2))) := ⟨below_next S6.out.1 hb, S6.out.2.2.2.1.on hb, S6.out.2.2.2.2.1.on hb, S6.out.2.2.2.2.2.1.on hb, S6.out.2.2.2.2.2.2.1.on hb, S6.out.2.2.2.2.2.2.2.grow hb, kn⟩
      clear hb kn h0 h1 h2 h3 h4 h5 h6 d0 d1 d2 d3 d4 d5 d6 e7 hM hall
      have HV : Hid (∀ w', Out w7 w' → (w'.cell? ⟨ab, aof + m * 2, none⟩ = some (.int .i64 z.1) ∧ w'.cell? ⟨ab, aof + m * 2 + 1, none⟩ = some (.int .i64 z.2)) ∧ (w'.cell? ⟨bb, bo, none⟩ = some (.int .i64 z.1) ∧ w'.cell? ⟨bb, bo + 1, none⟩ = some (.int .i64 z.2)) ∧ (w'.cell? ⟨gm, 0, none⟩ = some (.int .i64 mid.1) ∧ w'.cell? ⟨gm, 1, none⟩ = some (.int .i64 mid.2)) ∧ w'.cell? ⟨gn, 0, none⟩ = some (.int .i64 mid.1) ∧ w'.cell? ⟨gn, 1, none⟩ = some (.int .i64 mid.2)) := fun w' hw' => by
        have h1 := (S7.out.2.1.on hw').ptsH (by rw [← List.length_pos_iff, HZ.out.2.2.2.2.1]; exact hN0) m z HZ.out.2.2.1
        have h2 := (S7.out.2.2.1.on hw').ptsH (by rw [← List.length_pos_iff, HZ.out.2.2.2.2.2.1]; exact hN0) 0 z HZ.out.2.2.2.1
        simp only [Nat.zero_mul, Nat.add_zero] at h2
        have h3 := S7.out.2.2.2.2.2.1.grow hw'
        have h4 := S7.out.2.2.2.2.2.2.grow hw'
        exact ⟨h1, h2, ⟨h3.p0, h3.p1⟩, h4.p0, h4.p1⟩
      go_wp2_with fail
      refine wp_region_quiet (C := Out w7) (by kernel_rfl) (by kernel_rfl) ⟨rfl, rfl, rfl, Nat.le_refl _, fun _ _ => rfl⟩ ?_
      refine BigFrame.wpQuiet_want rfl (fun K hK => ?_)
      refine quiet_val (.int .i64 0) (fun w' hw' => by go_simp) (hK _ ?_)
      clear hK K
      simp only [Act.put, List.setIfInBounds_toArray, List.set_cons_zero, List.set_cons_succ]
      refine BigFrame.wpQuiet_want rfl (fun K hK => ?_)
      refine quiet_val (.bool true) (fun w' hw' => by go_simp) (hK _ ?_)
      clear hK K
      simp only [Act.put, List.setIfInBounds_toArray, List.set_cons_zero, List.set_cons_succ]
      refine BigFrame.wpQuiet_want rfl (fun K hK => ?_)
      refine quiet_val (.bool true) (fun w' hw' => by go_simp) (hK _ ?_)
      clear hK K
      simp only [Act.put, List.setIfInBounds_toArray, List.set_cons_zero, List.set_cons_succ]
      refine BigFrame.wpQuiet_want rfl (fun K hK => ?_)
      refine quiet_val (.slice (some ⟨ab, aof, none⟩) N ac) (fun w' hw' => by go_simp) (hK _ ?_)
      clear hK K
      simp only [Act.put, List.setIfInBounds_toArray, List.set_cons_zero, List.set_cons_succ]
      refine BigFrame.wpQuiet_want rfl (fun K hK => ?_)
      refine quiet_val (x1) (fun w' hw' => by go_simp) (hK _ ?_)
      clear hK K
      simp only [Act.put, List.setIfInBounds_toArray, List.set_cons_zero, List.set_cons_succ]
      refine BigFrame.wpQuiet_want rfl (fun K hK => ?_)
      refine quiet_call 12 #[.slice (some ⟨ab, aof, none⟩) N ac, x1] (.bool true) (fun w' _ => by go_simp) (fun w' hw' => Calls.out hw' (HS.out FA HZ.out.2.2.2.2.1 _ _ _ (S7.out.2.1.on hw') (S7.out.2.2.2.1.on hw'))) (hK _ ?_)
      clear hK K
      simp only [Act.put, List.setIfInBounds_toArray, List.set_cons_zero, List.set_cons_succ]
      refine BigFrame.wpQuiet_want rfl (fun K hK => ?_)
      refine quiet_val (.bool true) (fun w' hw' => by go_simp) (hK _ ?_)
      clear hK K
      simp only [Act.put, List.setIfInBounds_toArray, List.set_cons_zero, List.set_cons_succ]
      refine BigFrame.wpQuiet_want rfl (fun K hK => ?_)
      refine quiet_val (.bool true) (fun w' hw' => by go_simp) (hK _ ?_)
      clear hK K
      simp only [Act.put, List.setIfInBounds_toArray, List.set_cons_zero, List.set_cons_succ]
      refine BigFrame.wpQuiet_want rfl (fun K hK => ?_)
      refine quiet_val (.slice (some ⟨bb, bo, none⟩) N bc) (fun w' hw' => by go_simp) (hK _ ?_)
      clear hK K
      simp only [Act.put, List.setIfInBounds_toArray, List.set_cons_zero, List.set_cons_succ]
      refine BigFrame.wpQuiet_want rfl (fun K hK => ?_)
      refine quiet_val (y1) (fun w' hw' => by go_simp) (hK _ ?_)
      clear hK K
      simp only [Act.put, List.setIfInBounds_toArray, List.set_cons_zero, List.set_cons_succ]
      refine BigFrame.wpQuiet_want rfl (fun K hK => ?_)
      refine quiet_call 12 #[.slice (some ⟨bb, bo, none⟩) N bc, y1] (.bool true) (fun w' _ => by go_simp) (fun w' hw' => Calls.out hw' (HS.out FB HZ.out.2.2.2.2.2.1 _ _ _ (S7.out.2.2.1.on hw') (S7.out.2.2.2.2.1.on hw'))) (hK _ ?_)
      clear hK K
      simp only [Act.put, List.setIfInBounds_toArray, List.set_cons_zero, List.set_cons_succ]
      refine BigFrame.wpQuiet_want rfl (fun K hK => ?_)
      refine quiet_val (.bool true) (fun w' hw' => by go_simp) (hK _ ?_)
      clear hK K
      simp only [Act.put, List.setIfInBounds_toArray, List.set_cons_zero, List.set_cons_succ]
      refine BigFrame.wpQuiet_want rfl (fun K hK => ?_)
      refine quiet_val (.bool true) (fun w' hw' => by go_simp) (hK _ ?_)
      clear hK K
      simp only [Act.put, List.setIfInBounds_toArray, List.set_cons_zero, List.set_cons_succ]
      refine BigFrame.wpQuiet_want rfl (fun K hK => ?_)
      refine quiet_val (.pointer (some ⟨gm, 0, none⟩)) (fun w' hw' => by go_simp) (hK _ ?_)
      clear hK K
      simp only [Act.put, List.setIfInBounds_toArray, List.set_cons_zero, List.set_cons_succ]
      refine BigFrame.wpQuiet_want rfl (fun K hK => ?_)
      refine quiet_val (.int .i64 mid.1) (fun w' hw' => by obtain ⟨⟨c0, c1⟩, ⟨c2, c3⟩, ⟨c4, c5⟩, c6, c7⟩ := HV.out w' hw'; go_simp) (hK _ ?_)
      clear hK K
      simp only [Act.put, List.setIfInBounds_toArray, List.set_cons_zero, List.set_cons_succ]
      refine BigFrame.wpQuiet_want rfl (fun K hK => ?_)
      refine quiet_val (.pointer (some ⟨gn, 0, none⟩)) (fun w' hw' => by go_simp) (hK _ ?_)
      clear hK K
      simp only [Act.put, List.setIfInBounds_toArray, List.set_cons_zero, List.set_cons_succ]
      refine BigFrame.wpQuiet_want rfl (fun K hK => ?_)
      refine quiet_val (.int .i64 mid.1) (fun w' hw' => by obtain ⟨⟨c0, c1⟩, ⟨c2, c3⟩, ⟨c4, c5⟩, c6, c7⟩ := HV.out w' hw'; go_simp) (hK _ ?_)
      clear hK K
      simp only [Act.put, List.setIfInBounds_toArray, List.set_cons_zero, List.set_cons_succ]
      refine BigFrame.wpQuiet_want rfl (fun K hK => ?_)
      refine quiet_val (.bool true) (fun w' hw' => by go_simp) (hK _ ?_)
      clear hK K
      simp only [Act.put, List.setIfInBounds_toArray, List.set_cons_zero, List.set_cons_succ]
      refine BigFrame.wpQuiet_want rfl (fun K hK => ?_)
      refine quiet_val (.bool true) (fun w' hw' => by go_simp) (hK _ ?_)
      clear hK K
      simp only [Act.put, List.setIfInBounds_toArray, List.set_cons_zero, List.set_cons_succ]
      refine BigFrame.wpQuiet_want rfl (fun K hK => ?_)
      refine quiet_val (.bool true) (fun w' hw' => by go_simp) (hK _ ?_)
      clear hK K
      simp only [Act.put, List.setIfInBounds_toArray, List.set_cons_zero, List.set_cons_succ]
      refine BigFrame.wpQuiet_want rfl (fun K hK => ?_)
      refine quiet_val (.pointer (some ⟨gm, 1, none⟩)) (fun w' hw' => by go_simp) (hK _ ?_)
      clear hK K
      simp only [Act.put, List.setIfInBounds_toArray, List.set_cons_zero, List.set_cons_succ]
      refine BigFrame.wpQuiet_want rfl (fun K hK => ?_)
      refine quiet_val (.int .i64 mid.2) (fun w' hw' => by obtain ⟨⟨c0, c1⟩, ⟨c2, c3⟩, ⟨c4, c5⟩, c6, c7⟩ := HV.out w' hw'; go_simp) (hK _ ?_)
      clear hK K
      simp only [Act.put, List.setIfInBounds_toArray, List.set_cons_zero, List.set_cons_succ]
      refine BigFrame.wpQuiet_want rfl (fun K hK => ?_)
      refine quiet_val (.pointer (some ⟨gn, 1, none⟩)) (fun w' hw' => by go_simp) (hK _ ?_)
      clear hK K
      simp only [Act.put, List.setIfInBounds_toArray, List.set_cons_zero, List.set_cons_succ]
      refine BigFrame.wpQuiet_want rfl (fun K hK => ?_)
      refine quiet_val (.int .i64 mid.2) (fun w' hw' => by obtain ⟨⟨c0, c1⟩, ⟨c2, c3⟩, ⟨c4, c5⟩, c6, c7⟩ := HV.out w' hw'; go_simp) (hK _ ?_)
      clear hK K
      simp only [Act.put, List.setIfInBounds_toArray, List.set_cons_zero, List.set_cons_succ]
      refine BigFrame.wpQuiet_want rfl (fun K hK => ?_)
      refine quiet_val (.bool true) (fun w' hw' => by go_simp) (hK _ ?_)
      clear hK K
      simp only [Act.put, List.setIfInBounds_toArray, List.set_cons_zero, List.set_cons_succ]
      refine BigFrame.wpQuiet_want rfl (fun K hK => ?_)
      refine quiet_val (.bool true) (fun w' hw' => by go_simp) (hK _ ?_)
      clear hK K
      simp only [Act.put, List.setIfInBounds_toArray, List.set_cons_zero, List.set_cons_succ]
      refine BigFrame.wpQuiet_want rfl (fun K hK => ?_)
      refine quiet_val (.bool true) (fun w' hw' => by go_simp) (hK _ ?_)
      clear hK K
      simp only [Act.put, List.setIfInBounds_toArray, List.set_cons_zero, List.set_cons_succ]
      refine BigFrame.wpQuiet_want rfl (fun K hK => ?_)
      refine quiet_val (.slice (some ⟨ab, aof, none⟩) N ac) (fun w' hw' => by go_simp) (hK _ ?_)
      clear hK K
      simp only [Act.put, List.setIfInBounds_toArray, List.set_cons_zero, List.set_cons_succ]
      refine BigFrame.wpQuiet_want rfl (fun K hK => ?_)
      refine quiet_val (.slice (some ⟨ab, aof, none⟩) N ac) (fun w' hw' => by go_simp) (hK _ ?_)
      clear hK K
      simp only [Act.put, List.setIfInBounds_toArray, List.set_cons_zero, List.set_cons_succ]
      refine BigFrame.wpQuiet_want rfl (fun K hK => ?_)
      refine quiet_val (.int .i64 (N : Int)) (fun w' hw' => by go_simp) (hK _ ?_)
      clear hK K
      simp only [Act.put, List.setIfInBounds_toArray, List.set_cons_zero, List.set_cons_succ]
      refine BigFrame.wpQuiet_want rfl (fun K hK => ?_)
      refine quiet_val (.int .i64 (m : Int)) (fun w' hw' => by have eN := EN.out; go_simp) (hK _ ?_)
      clear hK K
      simp only [Act.put, List.setIfInBounds_toArray, List.set_cons_zero, List.set_cons_succ]
      refine BigFrame.wpQuiet_want rfl (fun K hK => ?_)
      refine quiet_val (.pointer (some ⟨ab, aof + m * 2, none⟩)) (fun w' hw' => by go_simp) (hK _ ?_)
      clear hK K
      simp only [Act.put, List.setIfInBounds_toArray, List.set_cons_zero, List.set_cons_succ]
      refine BigFrame.wpQuiet_want rfl (fun K hK => ?_)
      refine quiet_val (.agg #[.int .i64 z.1, .int .i64 z.2]) (fun w' hw' => by obtain ⟨⟨c0, c1⟩, ⟨c2, c3⟩, ⟨c4, c5⟩, c6, c7⟩ := HV.out w' hw'; go_simp) (hK _ ?_)
      clear hK K
      simp only [Act.put, List.setIfInBounds_toArray, List.set_cons_zero, List.set_cons_succ]
      refine BigFrame.wpQuiet_want rfl (fun K hK => ?_)
      refine quiet_val (.slice (some ⟨bb, bo, none⟩) N bc) (fun w' hw' => by go_simp) (hK _ ?_)
      clear hK K
      simp only [Act.put, List.setIfInBounds_toArray, List.set_cons_zero, List.set_cons_succ]
      refine BigFrame.wpQuiet_want rfl (fun K hK => ?_)
      refine quiet_val (.pointer (some ⟨bb, bo, none⟩)) (fun w' hw' => by go_simp) (hK _ ?_)
      clear hK K
      simp only [Act.put, List.setIfInBounds_toArray, List.set_cons_zero, List.set_cons_succ]
      refine BigFrame.wpQuiet_want rfl (fun K hK => ?_)
      refine quiet_val (.agg #[.int .i64 z.1, .int .i64 z.2]) (fun w' hw' => by obtain ⟨⟨c0, c1⟩, ⟨c2, c3⟩, ⟨c4, c5⟩, c6, c7⟩ := HV.out w' hw'; go_simp) (hK _ ?_)
      clear hK K
      simp only [Act.put, List.setIfInBounds_toArray, List.set_cons_zero, List.set_cons_succ]
      refine BigFrame.wpQuiet_want rfl (fun K hK => ?_)
      refine quiet_val (.bool true) (fun w' hw' => by go_simp) (hK _ ?_)
      clear hK K
      simp only [Act.put, List.setIfInBounds_toArray, List.set_cons_zero, List.set_cons_succ]
      refine BigFrame.wpQuiet_want rfl (fun K hK => ?_)
      refine quiet_val (.bool true) (fun w' hw' => by go_simp) (hK _ ?_)
      clear hK K
      simp only [Act.put, List.setIfInBounds_toArray, List.set_cons_zero, List.set_cons_succ]
      refine BigFrame.wpQuiet_want rfl (fun K hK => ?_)
      refine quiet_val (.bool true) (fun w' hw' => by go_simp) (hK _ ?_)
      clear hK K
      simp only [Act.put, List.setIfInBounds_toArray, List.set_cons_zero, List.set_cons_succ]
      refine BigFrame.wpQuiet_want rfl (fun K hK => ?_)
      refine quiet_call 9 #[] (.bool true) (fun w' _ => by go_simp) (fun w' hw' => Calls.out hw' (HAW.out _)) (hK _ ?_)
      clear hK K
      simp only [Act.put, List.setIfInBounds_toArray, List.set_cons_zero, List.set_cons_succ]
      refine BigFrame.wpQuiet_want rfl (fun K hK => ?_)
      refine quiet_val (.bool true) (fun w' hw' => by go_simp) (hK _ ?_)
      clear hK K
      simp only [Act.put, List.setIfInBounds_toArray, List.set_cons_zero, List.set_cons_succ]
      refine BigFrame.wpQuiet_want rfl (fun K hK => ?_)
      refine quiet_val (.bool true) (fun w' hw' => by go_simp) (hK _ ?_)
      clear hK K
      simp only [Act.put, List.setIfInBounds_toArray, List.set_cons_zero, List.set_cons_succ]
      refine wpQuiet_nil ?_
      intro w8 hb
      have B8 : Hid (Below w.heap.size w w8) := below_next S7.out.1 hb
      clear hb
      go_wp2_with fail
      go_ret
      exact ⟨rfl, B8.out⟩
theorem halves_law (w : World) (v : Value) (l : List Pt) (row : Row w v l) : Calls Try.prog 3 #[v] w fun e w' => e = .returned (.bool true) ∧ Below w.heap.size w w' := by
  obtain ⟨ao, c, rfl⟩ := row.shape
  by_cases hn : 100 < l.length
  · exact halves_long w ao _ c hn
  · cases hc : curveB l with
    | false =>
      exact halves_bad w ao _ c l (by omega) (Lib.hid row) (Lib.hid fun w' hr => ref_c w' _ l (by omega) hr) (Lib.hid fun w' hr => halves_no _ l w' hr hc) (Lib.hid fun s u w' h1 h2 => same_c s u l w' (by omega) h1 h2) (Lib.hid fun w' hr => by have := right_c _ l w' (by omega) hr; rwa [hc] at this)
    | true =>
      have hl3 : 3 ≤ l.length ∧ l.length ≤ 4 := by rcases curve_cases hc with ⟨p, q, r, rfl, _⟩ | ⟨p, q, r, s, rfl, _⟩ <;> simp
      obtain ⟨b, o, rfl, _, _⟩ := row.addr (k := 0) (by omega)
      obtain ⟨p0, p1, z, h0, h1, hz1, hz2, hr0, hr1⟩ : ∃ p0 p1 z, l[0]? = some p0 ∧ l[1]? = some p1 ∧ (firstI l)[l.length - 1]? = some z ∧ (secondI l)[0]? = some z ∧ roomP p0 = true ∧ roomP p1 = true := by
        rcases curve_cases hc with ⟨p, q, r, rfl, hp, hq, _⟩ | ⟨p, q, r, s, rfl, hp, hq, _⟩ <;> exact ⟨p, q, _, rfl, rfl, rfl, rfl, hp, hq⟩
      exact halves_walk_law w b o l.length c l (firstI l) (secondI l) p0 p1 (midI p0 p1) z (l.length - 1) (by omega) (by omega) (by omega) (by rw [wrap_is, wrapR _ (by omega) (by omega)]; omega)
        (Lib.hid ⟨h0, h1, hz1, hz2, (firstI_curve hc).2, (secondI_curve hc).2, rfl⟩) (Lib.hid row) (Lib.hid fun w' hr => ref_c w' _ l (by omega) hr) (Lib.hid fun w' hr => halves_c _ l w' hr hc) (Lib.hid fun u w' hr => refHalves_c u l w' hr hc)
        (Lib.hid fun k hk s u w' h1 h2 => same_c s u k w' (by omega) h1 h2) (Lib.hid fun w' hr => by have := right_c _ l w' (by omega) hr; rwa [hc] at this)
        (Lib.hid fun w' => mid_c _ _ _ _ w' hr0 hr1) (Lib.hid fun w' => refMid_c _ _ _ _ w' hr0 hr1)
end Go.Proofs.Ythlealndopppaaa
