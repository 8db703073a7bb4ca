/- The law CurveLines. -/
import Derived.Test.YthlealndopppaaaRT
import Derived.Test.YthlealndopppaaaZ
import Derived.Test.YthlealndopppaaaF
namespace Go.Proofs.Ythlealndopppaaa
open Go.RowKit
theorem Row.shapeN {W : World} {s : Value} {L : List Pt} (h : Row W s L) {n : Nat} (hn : L.length = n) (hp : 0 < n) : ∃ b o c, s = .slice (some ⟨b, o, none⟩) n c := by
  obtain ⟨_, c, e⟩ := h.shape
  subst e
  obtain ⟨b, o, e, _⟩ := h.addr (k := 0) (by omega)
  exact ⟨b, o, c, by rw [e, hn]⟩
theorem Row.ptsN {W : World} {bb o N c : Nat} {L : List Pt} (h : Row W (.slice (some ⟨bb, o, none⟩) N c) L) (hL : L ≠ []) : PtsAt W bb o L := by
  rcases h with ⟨_, e⟩ | ⟨_, _, _, e⟩ | ⟨b, o', c', e, _, hp⟩
  · exact absurd e hL
  · exact absurd e hL
  · simp at e
    obtain ⟨⟨rfl, rfl⟩, _⟩ := e
    exact hp
theorem level_up : ∀ (d : Nat) (c0 c1 c2 : Int), c0 ≤ c1 → c1 ≤ c2 → (∀ a ∈ flatI d [(c0, 7), (c1, 7), (c2, 7)], c0 ≤ a.1 ∧ a.1 ≤ c2) ∧ (flatI d [(c0, 7), (c1, 7), (c2, 7)]).Pairwise (fun a b => a.1 ≤ b.1)
  | 0, c0, c1, c2, h1, h2 => by simp [flatI]; omega
  | d + 1, c0, c1, c2, h1, h2 => by
    have e7 : (7 + 7 : Int) / 2 = 7 := by decide
    obtain ⟨m, hm⟩ : ∃ m, (c0 + c1) / 2 = m := ⟨_, rfl⟩
    obtain ⟨k, hk⟩ : ∃ k, (c1 + c2) / 2 = k := ⟨_, rfl⟩
    obtain ⟨z, hz⟩ : ∃ z, (m + k) / 2 = z := ⟨_, rfl⟩
    have ef : firstI [(c0, 7), (c1, 7), (c2, 7)] = [(c0, 7), (m, 7), (z, 7)] := by simp [firstI, midI, hm, hk, hz]
    have es : secondI [(c0, 7), (c1, 7), (c2, 7)] = [(z, 7), (k, 7), (c2, 7)] := by simp [secondI, midI, hm, hk, hz]
    obtain ⟨a1, a2⟩ := level_up d c0 m z (by omega) (by omega)
    obtain ⟨b1, b2⟩ := level_up d z k c2 (by omega) (by omega)
    rw [flatI, ef, es]
    refine ⟨fun a ha => ?_, List.pairwise_append.2 ⟨a2, b2, fun a ha b hb => ?_⟩⟩
    · rcases List.mem_append.1 ha with ha | ha
      · have := a1 a ha; omega
      · have := b1 a ha; omega
    · have := a1 a ha; have := b1 b hb; omega
theorem level_down : ∀ (d : Nat) (c0 c1 c2 : Int), c1 ≤ c0 → c2 ≤ c1 → (∀ a ∈ flatI d [(c0, 7), (c1, 7), (c2, 7)], a.1 ≤ c0 ∧ c2 ≤ a.1) ∧ (flatI d [(c0, 7), (c1, 7), (c2, 7)]).Pairwise (fun a b => b.1 ≤ a.1)
  | 0, c0, c1, c2, h1, h2 => by simp [flatI]; omega
  | d + 1, c0, c1, c2, h1, h2 => by
    have e7 : (7 + 7 : Int) / 2 = 7 := by decide
    obtain ⟨m, hm⟩ : ∃ m, (c0 + c1) / 2 = m := ⟨_, rfl⟩
    obtain ⟨k, hk⟩ : ∃ k, (c1 + c2) / 2 = k := ⟨_, rfl⟩
    obtain ⟨z, hz⟩ : ∃ z, (m + k) / 2 = z := ⟨_, rfl⟩
    have ef : firstI [(c0, 7), (c1, 7), (c2, 7)] = [(c0, 7), (m, 7), (z, 7)] := by simp [firstI, midI, hm, hk, hz]
    have es : secondI [(c0, 7), (c1, 7), (c2, 7)] = [(z, 7), (k, 7), (c2, 7)] := by simp [secondI, midI, hm, hk, hz]
    obtain ⟨a1, a2⟩ := level_down d c0 m z (by omega) (by omega)
    obtain ⟨b1, b2⟩ := level_down d z k c2 (by omega) (by omega)
    rw [flatI, ef, es]
    refine ⟨fun a ha => ?_, List.pairwise_append.2 ⟨a2, b2, fun a ha b hb => ?_⟩⟩
    · rcases List.mem_append.1 ha with ha | ha
      · have := a1 a ha; omega
      · have := b1 a ha; omega
    · have := a1 a ha; have := b1 b hb; omega
theorem level_flat : ∀ (d : Nat) (c0 c1 c2 : Int), ∀ a ∈ flatI d [(c0, 7), (c1, 7), (c2, 7)], a.2 = 7
  | 0, c0, c1, c2, a, h => by simp [flatI] at h; rw [h]
  | d + 1, c0, c1, c2, a, h => by
    have e7 : (7 + 7 : Int) / 2 = 7 := by decide
    have ef : firstI [(c0, 7), (c1, 7), (c2, 7)] = [(c0, 7), ((c0 + c1) / 2, 7), (((c0 + c1) / 2 + (c1 + c2) / 2) / 2, 7)] := by simp [firstI, midI]
    have es : secondI [(c0, 7), (c1, 7), (c2, 7)] = [(((c0 + c1) / 2 + (c1 + c2) / 2) / 2, 7), ((c1 + c2) / 2, 7), (c2, 7)] := by simp [secondI, midI]
    rw [flatI, ef, es, List.mem_append] at h
    rcases h with h | h
    · exact level_flat d _ _ _ a h
    · exact level_flat d _ _ _ a h
/-- The X of the point ahead. -/
def lastX (F : List Pt) (c0 : Int) : Nat → Int
  | 0 => c0
  | k + 1 => (F.getD k (0, 0)).1
theorem lastX_up (F : List Pt) (c0 : Int) (h1 : ∀ a ∈ F, c0 ≤ a.1) (h2 : F.Pairwise (fun a b => a.1 ≤ b.1)) (k : Nat) (a : Pt) (ha : F[k]? = some a) : lastX F c0 k ≤ a.1 := by
  cases k with
  | zero => exact h1 a (List.mem_of_getElem? ha)
  | succ j =>
    obtain ⟨hk, e⟩ := List.getElem?_eq_some_iff.1 ha
    have := List.pairwise_iff_getElem.1 h2 j (j + 1) (by omega) hk (by omega)
    show (F.getD j (0, 0)).1 ≤ a.1
    rw [List.getD_eq_getElem?_getD, List.getElem?_eq_getElem (by omega)]
    simp only [Option.getD_some]
    rw [e] at this; exact this
theorem lastX_down (F : List Pt) (c0 : Int) (h1 : ∀ a ∈ F, a.1 ≤ c0) (h2 : F.Pairwise (fun a b => b.1 ≤ a.1)) (k : Nat) (a : Pt) (ha : F[k]? = some a) : a.1 ≤ lastX F c0 k := by
  cases k with
  | zero => exact h1 a (List.mem_of_getElem? ha)
  | succ j =>
    obtain ⟨hk, e⟩ := List.getElem?_eq_some_iff.1 ha
    have := List.pairwise_iff_getElem.1 h2 j (j + 1) (by omega) hk (by omega)
    show a.1 ≤ (F.getD j (0, 0)).1
    rw [List.getD_eq_getElem?_getD, List.getElem?_eq_getElem (by omega)]
    simp only [Option.getD_some]
    rw [e] at this; exact this
set_option maxHeartbeats 4000000 in
set_option maxRecDepth 100000 in
theorem lines_not (w : World) (c0 c1 c2 d : Int)
    (HR : Hid (∀ u w', Row w' u [(c0, 7), (c1, 7), (c2, 7)] → Calls Try.prog 13 #[u] w' fun e w'' => e = .returned (.bool false) ∧ Below w'.heap.size w' w'')) :
    Calls Try.prog 8 #[.agg #[.int .i64 c0, .int .i64 c1, .int .i64 c2], .int .i64 d] w fun e w' => e = .returned (.bool true) ∧ Below w.heap.size w w' := by
  have HAW := Lib.hid awake_c
  have HAT := Lib.hid at_c
  obtain ⟨N, hN⟩ : ∃ n, w.heap.size = n := ⟨_, rfl⟩
  have HN := Lib.hid hN
  have S0 : Hid (Mem w (w.alloc (.cells #[.int .i64 c0, .int .i64 c1, .int .i64 c2] 49)) [(N, 49, #[.int .i64 c0, .int .i64 c1, .int .i64 c2])]) := by
    rw [← hN]; exact (Mem.refl w).add 49 #[.int .i64 c0, .int .i64 c1, .int .i64 c2]
  rw [hN]
  go_enter Try.func8, Try.ntmps8
  go_wp2_with fail
  refine wp_region_put3 (by kernel_rfl) (by kernel_rfl) (by kernel_rfl) (fun b' vs w' => (b' 0 = true → vs 0 = .pointer (some ⟨N, 0, none⟩)) ∧ (b' 1 = true → vs 1 = .int .i64 c0) ∧ (b' 2 = true → vs 2 = .agg #[.int .i64 c0, .int .i64 7]) ∧ (b' 3 = true → vs 3 = .pointer (some ⟨N, 1, none⟩)) ∧ (b' 4 = true → vs 4 = .int .i64 c1) ∧ (b' 5 = true → vs 5 = .agg #[.int .i64 c1, .int .i64 7]) ∧ (b' 6 = true → vs 6 = .pointer (some ⟨N, 2, none⟩)) ∧ (b' 7 = true → vs 7 = .int .i64 c2) ∧ (b' 8 = true → vs 8 = .agg #[.int .i64 c2, .int .i64 7]) ∧ Hid (RegT N w [⟨9, 34, [(c0, 7), (c1, 7), (c2, 7)]⟩, ⟨10, 34, [(c0, 7), (c1, 7), (c2, 7)]⟩] [] [] [(N, 49, #[.int .i64 c0, .int .i64 c1, .int .i64 c2])] b' vs w')) ?_ ?_ ?_
  · intro vs
    exact ⟨fun h => Bool.noConfusion h, fun h => Bool.noConfusion h, fun h => Bool.noConfusion h, fun h => Bool.noConfusion h, fun h => Bool.noConfusion h, fun h => Bool.noConfusion h, fun h => Bool.noConfusion h, fun h => Bool.noConfusion h, fun h => Bool.noConfusion h, ⟨RegM.start (⟨⟨HN.out ▸ S0.out.below, by have := S0.out.lays.1.lt; omega⟩, fun s hs => (by cases hs), S0.out.lays⟩) vs, TupF.start vs _⟩⟩
  · rintro b' vs w' i op hi hun hall ⟨h0, h1, h2, h3, h4, h5, h6, h7, h8, hM⟩
    have hil : i < 11 := (List.getElem?_eq_some_iff.1 hi).1
    rcases i with _ | _ | _ | _ | _ | _ | _ | _ | _ | _ | _ | i
    · obtain rfl := Option.some.inj hi
      clear hi hil
      refine StepOk.plain rfl (fun K hK => ?_)
      have HKK := Lib.hid hK; clear hK
      simp only [putAll, Act.put, List.setIfInBounds_toArray, List.set_cons_zero, List.set_cons_succ]
      go_simp
      exact HKK.out _ _ ⟨_, by simp only [putAll, Act.put, List.setIfInBounds_toArray, List.set_cons_zero, List.set_cons_succ] <;> rfl, fun _ => rfl, h1, h2, h3, h4, h5, h6, h7, h8, RegT.other hM.out 0 _ rfl rfl⟩
    · obtain rfl := Option.some.inj hi
      clear hi hil
      have d0 := h0 (hall ⟨0, .data⟩ (by simp) rfl)
      have q0 : w'.cell? ⟨N, 0, none⟩ = some (.int .i64 c0) := (RegM.lays hM.out.1).1.cell 0
      refine StepOk.plain rfl (fun K hK => ?_)
      have HKK := Lib.hid hK; clear hK
      simp only [putAll, Act.put, List.setIfInBounds_toArray, List.set_cons_zero, List.set_cons_succ]
      go_simp
      exact HKK.out _ _ ⟨_, by simp only [putAll, Act.put, List.setIfInBounds_toArray, List.set_cons_zero, List.set_cons_succ, d0] <;> rfl, h0, fun _ => rfl, h2, h3, h4, h5, h6, h7, h8, RegT.other hM.out 1 _ rfl rfl⟩
    · obtain rfl := Option.some.inj hi
      clear hi hil
      have d1 := h1 (hall ⟨1, .data⟩ (by simp) rfl)
      refine StepOk.plain rfl (fun K hK => ?_)
      have HKK := Lib.hid hK; clear hK
      simp only [putAll, Act.put, List.setIfInBounds_toArray, List.set_cons_zero, List.set_cons_succ]
      go_simp
      refine (HAT.out _ _ _).mono ?_
      rintro e w2 ⟨rfl, hb2⟩
      exact HKK.out _ _ ⟨_, by simp only [putAll, Act.put, List.setIfInBounds_toArray, List.set_cons_zero, List.set_cons_succ, d1] <;> rfl, h0, h1, fun _ => rfl, h3, h4, h5, h6, h7, h8, (RegT.other hM.out 2 _ rfl rfl).grow hb2⟩
    · obtain rfl := Option.some.inj hi
      clear hi hil
      refine StepOk.plain rfl (fun K hK => ?_)
      have HKK := Lib.hid hK; clear hK
      simp only [putAll, Act.put, List.setIfInBounds_toArray, List.set_cons_zero, List.set_cons_succ]
      go_simp
      exact HKK.out _ _ ⟨_, by simp only [putAll, Act.put, List.setIfInBounds_toArray, List.set_cons_zero, List.set_cons_succ] <;> rfl, h0, h1, h2, fun _ => rfl, h4, h5, h6, h7, h8, RegT.other hM.out 3 _ rfl rfl⟩
    · obtain rfl := Option.some.inj hi
      clear hi hil
      have d3 := h3 (hall ⟨3, .data⟩ (by simp) rfl)
      have q0 : w'.cell? ⟨N, 1, none⟩ = some (.int .i64 c1) := (RegM.lays hM.out.1).1.cell 1
      refine StepOk.plain rfl (fun K hK => ?_)
      have HKK := Lib.hid hK; clear hK
      simp only [putAll, Act.put, List.setIfInBounds_toArray, List.set_cons_zero, List.set_cons_succ]
      go_simp
      exact HKK.out _ _ ⟨_, by simp only [putAll, Act.put, List.setIfInBounds_toArray, List.set_cons_zero, List.set_cons_succ, d3] <;> rfl, h0, h1, h2, h3, fun _ => rfl, h5, h6, h7, h8, RegT.other hM.out 4 _ rfl rfl⟩
    · obtain rfl := Option.some.inj hi
      clear hi hil
      have d4 := h4 (hall ⟨4, .data⟩ (by simp) rfl)
      refine StepOk.plain rfl (fun K hK => ?_)
      have HKK := Lib.hid hK; clear hK
      simp only [putAll, Act.put, List.setIfInBounds_toArray, List.set_cons_zero, List.set_cons_succ]
      go_simp
      refine (HAT.out _ _ _).mono ?_
      rintro e w2 ⟨rfl, hb2⟩
      exact HKK.out _ _ ⟨_, by simp only [putAll, Act.put, List.setIfInBounds_toArray, List.set_cons_zero, List.set_cons_succ, d4] <;> rfl, h0, h1, h2, h3, h4, fun _ => rfl, h6, h7, h8, (RegT.other hM.out 5 _ rfl rfl).grow hb2⟩
    · obtain rfl := Option.some.inj hi
      clear hi hil
      refine StepOk.plain rfl (fun K hK => ?_)
      have HKK := Lib.hid hK; clear hK
      simp only [putAll, Act.put, List.setIfInBounds_toArray, List.set_cons_zero, List.set_cons_succ]
      go_simp
      exact HKK.out _ _ ⟨_, by simp only [putAll, Act.put, List.setIfInBounds_toArray, List.set_cons_zero, List.set_cons_succ] <;> rfl, h0, h1, h2, h3, h4, h5, fun _ => rfl, h7, h8, RegT.other hM.out 6 _ rfl rfl⟩
    · obtain rfl := Option.some.inj hi
      clear hi hil
      have d6 := h6 (hall ⟨6, .data⟩ (by simp) rfl)
      have q0 : w'.cell? ⟨N, 2, none⟩ = some (.int .i64 c2) := (RegM.lays hM.out.1).1.cell 2
      refine StepOk.plain rfl (fun K hK => ?_)
      have HKK := Lib.hid hK; clear hK
      simp only [putAll, Act.put, List.setIfInBounds_toArray, List.set_cons_zero, List.set_cons_succ]
      go_simp
      exact HKK.out _ _ ⟨_, by simp only [putAll, Act.put, List.setIfInBounds_toArray, List.set_cons_zero, List.set_cons_succ, d6] <;> rfl, h0, h1, h2, h3, h4, h5, h6, fun _ => rfl, h8, RegT.other hM.out 7 _ rfl rfl⟩
    · obtain rfl := Option.some.inj hi
      clear hi hil
      have d7 := h7 (hall ⟨7, .data⟩ (by simp) rfl)
      refine StepOk.plain rfl (fun K hK => ?_)
      have HKK := Lib.hid hK; clear hK
      simp only [putAll, Act.put, List.setIfInBounds_toArray, List.set_cons_zero, List.set_cons_succ]
      go_simp
      refine (HAT.out _ _ _).mono ?_
      rintro e w2 ⟨rfl, hb2⟩
      exact HKK.out _ _ ⟨_, by simp only [putAll, Act.put, List.setIfInBounds_toArray, List.set_cons_zero, List.set_cons_succ, d7] <;> rfl, h0, h1, h2, h3, h4, h5, h6, h7, fun _ => rfl, (RegT.other hM.out 8 _ rfl rfl).grow hb2⟩
    · obtain rfl := Option.some.inj hi
      clear hi hil
      have d2 := h2 (hall ⟨2, .data⟩ (by simp) rfl)
      have d5 := h5 (hall ⟨5, .data⟩ (by simp) rfl)
      have d8 := h8 (hall ⟨8, .data⟩ (by simp) rfl)
      refine StepOk.plain rfl (fun K hK => ?_)
      have HKK := Lib.hid hK; clear hK
      simp only [putAll, Act.put, List.setIfInBounds_toArray, List.set_cons_zero, List.set_cons_succ]
      go_simp
      have hn2 : N ≤ w'.heap.size := hM.out.1.1.2
      have hb2 : Below w'.heap.size w' (w'.alloc (.cells (flat [(c0, 7), (c1, 7), (c2, 7)]) 34)) := (Below.refl _ _).alloc (Nat.le_refl _) _
      exact HKK.out _ _ ⟨_, by simp only [putAll, Act.put, List.setIfInBounds_toArray, List.set_cons_zero, List.set_cons_succ, d2, d5, d8] <;> rfl, h0, h1, h2, h3, h4, h5, h6, h7, h8, ⟨(RegM.grow hM.out.1 hb2).made ⟨9, 34, [(c0, 7), (c1, 7), (c2, 7)]⟩ _ (Own.made w' hn2 _ [(c0, 7), (c1, 7), (c2, 7)] _ 3 rfl rfl (by decide)) (by simp) rfl, (TupF.grow hM.out.2 hb2).other 9 _ rfl⟩⟩
    · obtain rfl := Option.some.inj hi
      clear hi hil
      have o9 := RegM.row hM.out.1 ⟨9, 34, [(c0, 7), (c1, 7), (c2, 7)]⟩ (by simp) (hall ⟨9, .data⟩ (by simp) rfl)
      refine StepOk.plain rfl (fun K hK => ?_)
      have HKK := Lib.hid hK; clear hK
      simp only [putAll, Act.put, List.setIfInBounds_toArray, List.set_cons_zero, List.set_cons_succ]
      go_simp
      exact HKK.out _ _ ⟨_, by simp only [putAll, Act.put, List.setIfInBounds_toArray, List.set_cons_zero, List.set_cons_succ] <;> rfl, h0, h1, h2, h3, h4, h5, h6, h7, h8, ⟨RegM.made hM.out.1 ⟨10, 34, [(c0, 7), (c1, 7), (c2, 7)]⟩ (vs 9) o9 (by simp) rfl, TupF.other hM.out.2 10 _ rfl⟩⟩
    · omega
  · rintro b' vs w2 hall ⟨h0, h1, h2, h3, h4, h5, h6, h7, h8, hM⟩
    have d0 := h0 (hall 0 (by simp))
    have d1 := h1 (hall 1 (by simp))
    have d2 := h2 (hall 2 (by simp))
    have d3 := h3 (hall 3 (by simp))
    have d4 := h4 (hall 4 (by simp))
    have d5 := h5 (hall 5 (by simp))
    have d6 := h6 (hall 6 (by simp))
    have d7 := h7 (hall 7 (by simp))
    have d8 := h8 (hall 8 (by simp))
    have o9 := RegM.row hM.out.1 ⟨9, 34, [(c0, 7), (c1, 7), (c2, 7)]⟩ (by simp) (hall 9 (by simp))
    have o10 := RegM.row hM.out.1 ⟨10, 34, [(c0, 7), (c1, 7), (c2, 7)]⟩ (by simp) (hall 10 (by simp))
    have LS := Lib.hid (RegM.lays hM.out.1)
    have BB := Lib.hid (RegM.below hM.out.1)
    simp only [putAll, Act.put, List.setIfInBounds_toArray, List.set_cons_zero, List.set_cons_succ, d0, d1, d2, d3, d4, d5, d6, d7, d8]
    obtain ⟨lb, lo, lc, e10⟩ := o10.row.shapeN (n := 3) rfl (by decide)
    have R10 := Lib.hid o10.row
    rw [e10] at R10
    have BN : Hid (N ≤ w2.heap.size) := hM.out.1.1.2
    simp only [e10]
    clear e10 o9 o10 hall hM
    clear h0 d0 h1 d1 h2 d2 h3 d3 h4 d4 h5 d5 h6 d6 h7 d7 h8 d8
    go_wp2_with fail
    refine (HR.out _ _ R10.out).mono ?_
    rintro e w3 ⟨rfl, hb⟩
    have S3 : Hid (Below N w w3 ∧ N ≤ w3.heap.size) := ⟨BB.out.trans (hb.mono BN.out), Nat.le_trans BN.out hb.size⟩
    clear hb
    go_wp2_with fail
    refine (HAW.out _).mono ?_
    rintro e w4 ⟨rfl, hb⟩
    have S4 : Hid (Below N w w4) := S3.out.1.trans (hb.mono S3.out.2)
    clear hb
    go_wp2_with fail
    go_ret
    exact ⟨rfl, S4.out⟩
set_option maxHeartbeats 4000000 in
set_option maxRecDepth 100000 in
theorem lines_neg (w : World) (c0 c1 c2 d : Int) (h0 : d < 0)
    (HR : Hid (∀ u w', Row w' u [(c0, 7), (c1, 7), (c2, 7)] → Calls Try.prog 13 #[u] w' fun e w'' => e = .returned (.bool true) ∧ Below w'.heap.size w' w'')) :
    Calls Try.prog 8 #[.agg #[.int .i64 c0, .int .i64 c1, .int .i64 c2], .int .i64 d] w fun e w' => e = .returned (.bool true) ∧ Below w.heap.size w w' := by
  have d0 : decide (d < 0) = true := decide_eq_true h0
  clear h0
  have HAW := Lib.hid awake_c
  have HAT := Lib.hid at_c
  obtain ⟨N, hN⟩ : ∃ n, w.heap.size = n := ⟨_, rfl⟩
  have HN := Lib.hid hN
  have S0 : Hid (Mem w (w.alloc (.cells #[.int .i64 c0, .int .i64 c1, .int .i64 c2] 49)) [(N, 49, #[.int .i64 c0, .int .i64 c1, .int .i64 c2])]) := by
    rw [← hN]; exact (Mem.refl w).add 49 #[.int .i64 c0, .int .i64 c1, .int .i64 c2]
  rw [hN]
  go_enter Try.func8, Try.ntmps8
  go_wp2_with fail
  refine wp_region_put3 (by kernel_rfl) (by kernel_rfl) (by kernel_rfl) (fun b' vs w' => (b' 0 = true → vs 0 = .pointer (some ⟨N, 0, none⟩)) ∧ (b' 1 = true → vs 1 = .int .i64 c0) ∧ (b' 2 = true → vs 2 = .agg #[.int .i64 c0, .int .i64 7]) ∧ (b' 3 = true → vs 3 = .pointer (some ⟨N, 1, none⟩)) ∧ (b' 4 = true → vs 4 = .int .i64 c1) ∧ (b' 5 = true → vs 5 = .agg #[.int .i64 c1, .int .i64 7]) ∧ (b' 6 = true → vs 6 = .pointer (some ⟨N, 2, none⟩)) ∧ (b' 7 = true → vs 7 = .int .i64 c2) ∧ (b' 8 = true → vs 8 = .agg #[.int .i64 c2, .int .i64 7]) ∧ Hid (RegT N w [⟨9, 34, [(c0, 7), (c1, 7), (c2, 7)]⟩, ⟨10, 34, [(c0, 7), (c1, 7), (c2, 7)]⟩] [] [] [(N, 49, #[.int .i64 c0, .int .i64 c1, .int .i64 c2])] b' vs w')) ?_ ?_ ?_
  · intro vs
    exact ⟨fun h => Bool.noConfusion h, fun h => Bool.noConfusion h, fun h => Bool.noConfusion h, fun h => Bool.noConfusion h, fun h => Bool.noConfusion h, fun h => Bool.noConfusion h, fun h => Bool.noConfusion h, fun h => Bool.noConfusion h, fun h => Bool.noConfusion h, ⟨RegM.start (⟨⟨HN.out ▸ S0.out.below, by have := S0.out.lays.1.lt; omega⟩, fun s hs => (by cases hs), S0.out.lays⟩) vs, TupF.start vs _⟩⟩
  · rintro b' vs w' i op hi hun hall ⟨h0, h1, h2, h3, h4, h5, h6, h7, h8, hM⟩
    have hil : i < 11 := (List.getElem?_eq_some_iff.1 hi).1
    rcases i with _ | _ | _ | _ | _ | _ | _ | _ | _ | _ | _ | i
    · obtain rfl := Option.some.inj hi
      clear hi hil
      refine StepOk.plain rfl (fun K hK => ?_)
      have HKK := Lib.hid hK; clear hK
      simp only [putAll, Act.put, List.setIfInBounds_toArray, List.set_cons_zero, List.set_cons_succ]
      go_simp
      exact HKK.out _ _ ⟨_, by simp only [putAll, Act.put, List.setIfInBounds_toArray, List.set_cons_zero, List.set_cons_succ] <;> rfl, fun _ => rfl, h1, h2, h3, h4, h5, h6, h7, h8, RegT.other hM.out 0 _ rfl rfl⟩
    · obtain rfl := Option.some.inj hi
      clear hi hil
      have d0 := h0 (hall ⟨0, .data⟩ (by simp) rfl)
      have q0 : w'.cell? ⟨N, 0, none⟩ = some (.int .i64 c0) := (RegM.lays hM.out.1).1.cell 0
      refine StepOk.plain rfl (fun K hK => ?_)
      have HKK := Lib.hid hK; clear hK
      simp only [putAll, Act.put, List.setIfInBounds_toArray, List.set_cons_zero, List.set_cons_succ]
      go_simp
      exact HKK.out _ _ ⟨_, by simp only [putAll, Act.put, List.setIfInBounds_toArray, List.set_cons_zero, List.set_cons_succ, d0] <;> rfl, h0, fun _ => rfl, h2, h3, h4, h5, h6, h7, h8, RegT.other hM.out 1 _ rfl rfl⟩
    · obtain rfl := Option.some.inj hi
      clear hi hil
      have d1 := h1 (hall ⟨1, .data⟩ (by simp) rfl)
      refine StepOk.plain rfl (fun K hK => ?_)
      have HKK := Lib.hid hK; clear hK
      simp only [putAll, Act.put, List.setIfInBounds_toArray, List.set_cons_zero, List.set_cons_succ]
      go_simp
      refine (HAT.out _ _ _).mono ?_
      rintro e w2 ⟨rfl, hb2⟩
      exact HKK.out _ _ ⟨_, by simp only [putAll, Act.put, List.setIfInBounds_toArray, List.set_cons_zero, List.set_cons_succ, d1] <;> rfl, h0, h1, fun _ => rfl, h3, h4, h5, h6, h7, h8, (RegT.other hM.out 2 _ rfl rfl).grow hb2⟩
    · obtain rfl := Option.some.inj hi
      clear hi hil
      refine StepOk.plain rfl (fun K hK => ?_)
      have HKK := Lib.hid hK; clear hK
      simp only [putAll, Act.put, List.setIfInBounds_toArray, List.set_cons_zero, List.set_cons_succ]
      go_simp
      exact HKK.out _ _ ⟨_, by simp only [putAll, Act.put, List.setIfInBounds_toArray, List.set_cons_zero, List.set_cons_succ] <;> rfl, h0, h1, h2, fun _ => rfl, h4, h5, h6, h7, h8, RegT.other hM.out 3 _ rfl rfl⟩
    · obtain rfl := Option.some.inj hi
      clear hi hil
      have d3 := h3 (hall ⟨3, .data⟩ (by simp) rfl)
      have q0 : w'.cell? ⟨N, 1, none⟩ = some (.int .i64 c1) := (RegM.lays hM.out.1).1.cell 1
      refine StepOk.plain rfl (fun K hK => ?_)
      have HKK := Lib.hid hK; clear hK
      simp only [putAll, Act.put, List.setIfInBounds_toArray, List.set_cons_zero, List.set_cons_succ]
      go_simp
      exact HKK.out _ _ ⟨_, by simp only [putAll, Act.put, List.setIfInBounds_toArray, List.set_cons_zero, List.set_cons_succ, d3] <;> rfl, h0, h1, h2, h3, fun _ => rfl, h5, h6, h7, h8, RegT.other hM.out 4 _ rfl rfl⟩
    · obtain rfl := Option.some.inj hi
      clear hi hil
      have d4 := h4 (hall ⟨4, .data⟩ (by simp) rfl)
      refine StepOk.plain rfl (fun K hK => ?_)
      have HKK := Lib.hid hK; clear hK
      simp only [putAll, Act.put, List.setIfInBounds_toArray, List.set_cons_zero, List.set_cons_succ]
      go_simp
      refine (HAT.out _ _ _).mono ?_
      rintro e w2 ⟨rfl, hb2⟩
      exact HKK.out _ _ ⟨_, by simp only [putAll, Act.put, List.setIfInBounds_toArray, List.set_cons_zero, List.set_cons_succ, d4] <;> rfl, h0, h1, h2, h3, h4, fun _ => rfl, h6, h7, h8, (RegT.other hM.out 5 _ rfl rfl).grow hb2⟩
    · obtain rfl := Option.some.inj hi
      clear hi hil
      refine StepOk.plain rfl (fun K hK => ?_)
      have HKK := Lib.hid hK; clear hK
      simp only [putAll, Act.put, List.setIfInBounds_toArray, List.set_cons_zero, List.set_cons_succ]
      go_simp
      exact HKK.out _ _ ⟨_, by simp only [putAll, Act.put, List.setIfInBounds_toArray, List.set_cons_zero, List.set_cons_succ] <;> rfl, h0, h1, h2, h3, h4, h5, fun _ => rfl, h7, h8, RegT.other hM.out 6 _ rfl rfl⟩
    · obtain rfl := Option.some.inj hi
      clear hi hil
      have d6 := h6 (hall ⟨6, .data⟩ (by simp) rfl)
      have q0 : w'.cell? ⟨N, 2, none⟩ = some (.int .i64 c2) := (RegM.lays hM.out.1).1.cell 2
      refine StepOk.plain rfl (fun K hK => ?_)
      have HKK := Lib.hid hK; clear hK
      simp only [putAll, Act.put, List.setIfInBounds_toArray, List.set_cons_zero, List.set_cons_succ]
      go_simp
      exact HKK.out _ _ ⟨_, by simp only [putAll, Act.put, List.setIfInBounds_toArray, List.set_cons_zero, List.set_cons_succ, d6] <;> rfl, h0, h1, h2, h3, h4, h5, h6, fun _ => rfl, h8, RegT.other hM.out 7 _ rfl rfl⟩
    · obtain rfl := Option.some.inj hi
      clear hi hil
      have d7 := h7 (hall ⟨7, .data⟩ (by simp) rfl)
      refine StepOk.plain rfl (fun K hK => ?_)
      have HKK := Lib.hid hK; clear hK
      simp only [putAll, Act.put, List.setIfInBounds_toArray, List.set_cons_zero, List.set_cons_succ]
      go_simp
      refine (HAT.out _ _ _).mono ?_
      rintro e w2 ⟨rfl, hb2⟩
      exact HKK.out _ _ ⟨_, by simp only [putAll, Act.put, List.setIfInBounds_toArray, List.set_cons_zero, List.set_cons_succ, d7] <;> rfl, h0, h1, h2, h3, h4, h5, h6, h7, fun _ => rfl, (RegT.other hM.out 8 _ rfl rfl).grow hb2⟩
    · obtain rfl := Option.some.inj hi
      clear hi hil
      have d2 := h2 (hall ⟨2, .data⟩ (by simp) rfl)
      have d5 := h5 (hall ⟨5, .data⟩ (by simp) rfl)
      have d8 := h8 (hall ⟨8, .data⟩ (by simp) rfl)
      refine StepOk.plain rfl (fun K hK => ?_)
      have HKK := Lib.hid hK; clear hK
      simp only [putAll, Act.put, List.setIfInBounds_toArray, List.set_cons_zero, List.set_cons_succ]
      go_simp
      have hn2 : N ≤ w'.heap.size := hM.out.1.1.2
      have hb2 : Below w'.heap.size w' (w'.alloc (.cells (flat [(c0, 7), (c1, 7), (c2, 7)]) 34)) := (Below.refl _ _).alloc (Nat.le_refl _) _
      exact HKK.out _ _ ⟨_, by simp only [putAll, Act.put, List.setIfInBounds_toArray, List.set_cons_zero, List.set_cons_succ, d2, d5, d8] <;> rfl, h0, h1, h2, h3, h4, h5, h6, h7, h8, ⟨(RegM.grow hM.out.1 hb2).made ⟨9, 34, [(c0, 7), (c1, 7), (c2, 7)]⟩ _ (Own.made w' hn2 _ [(c0, 7), (c1, 7), (c2, 7)] _ 3 rfl rfl (by decide)) (by simp) rfl, (TupF.grow hM.out.2 hb2).other 9 _ rfl⟩⟩
    · obtain rfl := Option.some.inj hi
      clear hi hil
      have o9 := RegM.row hM.out.1 ⟨9, 34, [(c0, 7), (c1, 7), (c2, 7)]⟩ (by simp) (hall ⟨9, .data⟩ (by simp) rfl)
      refine StepOk.plain rfl (fun K hK => ?_)
      have HKK := Lib.hid hK; clear hK
      simp only [putAll, Act.put, List.setIfInBounds_toArray, List.set_cons_zero, List.set_cons_succ]
      go_simp
      exact HKK.out _ _ ⟨_, by simp only [putAll, Act.put, List.setIfInBounds_toArray, List.set_cons_zero, List.set_cons_succ] <;> rfl, h0, h1, h2, h3, h4, h5, h6, h7, h8, ⟨RegM.made hM.out.1 ⟨10, 34, [(c0, 7), (c1, 7), (c2, 7)]⟩ (vs 9) o9 (by simp) rfl, TupF.other hM.out.2 10 _ rfl⟩⟩
    · omega
  · rintro b' vs w2 hall ⟨h0, h1, h2, h3, h4, h5, h6, h7, h8, hM⟩
    have d0 := h0 (hall 0 (by simp))
    have d1 := h1 (hall 1 (by simp))
    have d2 := h2 (hall 2 (by simp))
    have d3 := h3 (hall 3 (by simp))
    have d4 := h4 (hall 4 (by simp))
    have d5 := h5 (hall 5 (by simp))
    have d6 := h6 (hall 6 (by simp))
    have d7 := h7 (hall 7 (by simp))
    have d8 := h8 (hall 8 (by simp))
    have o9 := RegM.row hM.out.1 ⟨9, 34, [(c0, 7), (c1, 7), (c2, 7)]⟩ (by simp) (hall 9 (by simp))
    have o10 := RegM.row hM.out.1 ⟨10, 34, [(c0, 7), (c1, 7), (c2, 7)]⟩ (by simp) (hall 10 (by simp))
    have LS := Lib.hid (RegM.lays hM.out.1)
    have BB := Lib.hid (RegM.below hM.out.1)
    simp only [putAll, Act.put, List.setIfInBounds_toArray, List.set_cons_zero, List.set_cons_succ, d0, d1, d2, d3, d4, d5, d6, d7, d8]
    obtain ⟨lb, lo, lc, e10⟩ := o10.row.shapeN (n := 3) rfl (by decide)
    have R10 := Lib.hid o10.row
    rw [e10] at R10
    have BN : Hid (N ≤ w2.heap.size) := hM.out.1.1.2
    simp only [e10]
    clear e10 o9 o10 hall hM
    clear h0 d0 h1 d1 h2 d2 h3 d3 h4 d4 h5 d5 h6 d6 h7 d7 h8 d8
    go_wp2_with fail
    refine (HR.out _ _ R10.out).mono ?_
    rintro e w3 ⟨rfl, hb⟩
    have S3 : Hid (Below N w w3 ∧ N ≤ w3.heap.size) := ⟨BB.out.trans (hb.mono BN.out), Nat.le_trans BN.out hb.size⟩
    clear hb
    go_wp2_with fail
    refine (HAW.out _).mono ?_
    rintro e w4 ⟨rfl, hb⟩
    have S4 : Hid (Below N w w4) := S3.out.1.trans (hb.mono S3.out.2)
    clear hb
    go_wp2_with fail
    go_ret
    exact ⟨rfl, S4.out⟩
set_option maxHeartbeats 4000000 in
set_option maxRecDepth 100000 in
theorem lines_big (w : World) (c0 c1 c2 d : Int) (h0 : 6 < d)
    (HR : Hid (∀ u w', Row w' u [(c0, 7), (c1, 7), (c2, 7)] → Calls Try.prog 13 #[u] w' fun e w'' => e = .returned (.bool true) ∧ Below w'.heap.size w' w'')) :
    Calls Try.prog 8 #[.agg #[.int .i64 c0, .int .i64 c1, .int .i64 c2], .int .i64 d] w fun e w' => e = .returned (.bool true) ∧ Below w.heap.size w w' := by
  have d0 : decide (d < 0) = false := decide_eq_false (by omega)
  have d6' : decide (d > 6) = true := decide_eq_true h0
  clear h0
  have HAW := Lib.hid awake_c
  have HAT := Lib.hid at_c
  obtain ⟨N, hN⟩ : ∃ n, w.heap.size = n := ⟨_, rfl⟩
  have HN := Lib.hid hN
  have S0 : Hid (Mem w (w.alloc (.cells #[.int .i64 c0, .int .i64 c1, .int .i64 c2] 49)) [(N, 49, #[.int .i64 c0, .int .i64 c1, .int .i64 c2])]) := by
    rw [← hN]; exact (Mem.refl w).add 49 #[.int .i64 c0, .int .i64 c1, .int .i64 c2]
  rw [hN]
  go_enter Try.func8, Try.ntmps8
  go_wp2_with fail
  refine wp_region_put3 (by kernel_rfl) (by kernel_rfl) (by kernel_rfl) (fun b' vs w' => (b' 0 = true → vs 0 = .pointer (some ⟨N, 0, none⟩)) ∧ (b' 1 = true → vs 1 = .int .i64 c0) ∧ (b' 2 = true → vs 2 = .agg #[.int .i64 c0, .int .i64 7]) ∧ (b' 3 = true → vs 3 = .pointer (some ⟨N, 1, none⟩)) ∧ (b' 4 = true → vs 4 = .int .i64 c1) ∧ (b' 5 = true → vs 5 = .agg #[.int .i64 c1, .int .i64 7]) ∧ (b' 6 = true → vs 6 = .pointer (some ⟨N, 2, none⟩)) ∧ (b' 7 = true → vs 7 = .int .i64 c2) ∧ (b' 8 = true → vs 8 = .agg #[.int .i64 c2, .int .i64 7]) ∧ Hid (RegT N w [⟨9, 34, [(c0, 7), (c1, 7), (c2, 7)]⟩, ⟨10, 34, [(c0, 7), (c1, 7), (c2, 7)]⟩] [] [] [(N, 49, #[.int .i64 c0, .int .i64 c1, .int .i64 c2])] b' vs w')) ?_ ?_ ?_
  · intro vs
    exact ⟨fun h => Bool.noConfusion h, fun h => Bool.noConfusion h, fun h => Bool.noConfusion h, fun h => Bool.noConfusion h, fun h => Bool.noConfusion h, fun h => Bool.noConfusion h, fun h => Bool.noConfusion h, fun h => Bool.noConfusion h, fun h => Bool.noConfusion h, ⟨RegM.start (⟨⟨HN.out ▸ S0.out.below, by have := S0.out.lays.1.lt; omega⟩, fun s hs => (by cases hs), S0.out.lays⟩) vs, TupF.start vs _⟩⟩
  · rintro b' vs w' i op hi hun hall ⟨h0, h1, h2, h3, h4, h5, h6, h7, h8, hM⟩
    have hil : i < 11 := (List.getElem?_eq_some_iff.1 hi).1
    rcases i with _ | _ | _ | _ | _ | _ | _ | _ | _ | _ | _ | i
    · obtain rfl := Option.some.inj hi
      clear hi hil
      refine StepOk.plain rfl (fun K hK => ?_)
      have HKK := Lib.hid hK; clear hK
      simp only [putAll, Act.put, List.setIfInBounds_toArray, List.set_cons_zero, List.set_cons_succ]
      go_simp
      exact HKK.out _ _ ⟨_, by simp only [putAll, Act.put, List.setIfInBounds_toArray, List.set_cons_zero, List.set_cons_succ] <;> rfl, fun _ => rfl, h1, h2, h3, h4, h5, h6, h7, h8, RegT.other hM.out 0 _ rfl rfl⟩
    · obtain rfl := Option.some.inj hi
      clear hi hil
      have d0 := h0 (hall ⟨0, .data⟩ (by simp) rfl)
      have q0 : w'.cell? ⟨N, 0, none⟩ = some (.int .i64 c0) := (RegM.lays hM.out.1).1.cell 0
      refine StepOk.plain rfl (fun K hK => ?_)
      have HKK := Lib.hid hK; clear hK
      simp only [putAll, Act.put, List.setIfInBounds_toArray, List.set_cons_zero, List.set_cons_succ]
      go_simp
      exact HKK.out _ _ ⟨_, by simp only [putAll, Act.put, List.setIfInBounds_toArray, List.set_cons_zero, List.set_cons_succ, d0] <;> rfl, h0, fun _ => rfl, h2, h3, h4, h5, h6, h7, h8, RegT.other hM.out 1 _ rfl rfl⟩
    · obtain rfl := Option.some.inj hi
      clear hi hil
      have d1 := h1 (hall ⟨1, .data⟩ (by simp) rfl)
      refine StepOk.plain rfl (fun K hK => ?_)
      have HKK := Lib.hid hK; clear hK
      simp only [putAll, Act.put, List.setIfInBounds_toArray, List.set_cons_zero, List.set_cons_succ]
      go_simp
      refine (HAT.out _ _ _).mono ?_
      rintro e w2 ⟨rfl, hb2⟩
      exact HKK.out _ _ ⟨_, by simp only [putAll, Act.put, List.setIfInBounds_toArray, List.set_cons_zero, List.set_cons_succ, d1] <;> rfl, h0, h1, fun _ => rfl, h3, h4, h5, h6, h7, h8, (RegT.other hM.out 2 _ rfl rfl).grow hb2⟩
    · obtain rfl := Option.some.inj hi
      clear hi hil
      refine StepOk.plain rfl (fun K hK => ?_)
      have HKK := Lib.hid hK; clear hK
      simp only [putAll, Act.put, List.setIfInBounds_toArray, List.set_cons_zero, List.set_cons_succ]
      go_simp
      exact HKK.out _ _ ⟨_, by simp only [putAll, Act.put, List.setIfInBounds_toArray, List.set_cons_zero, List.set_cons_succ] <;> rfl, h0, h1, h2, fun _ => rfl, h4, h5, h6, h7, h8, RegT.other hM.out 3 _ rfl rfl⟩
    · obtain rfl := Option.some.inj hi
      clear hi hil
      have d3 := h3 (hall ⟨3, .data⟩ (by simp) rfl)
      have q0 : w'.cell? ⟨N, 1, none⟩ = some (.int .i64 c1) := (RegM.lays hM.out.1).1.cell 1
      refine StepOk.plain rfl (fun K hK => ?_)
      have HKK := Lib.hid hK; clear hK
      simp only [putAll, Act.put, List.setIfInBounds_toArray, List.set_cons_zero, List.set_cons_succ]
      go_simp
      exact HKK.out _ _ ⟨_, by simp only [putAll, Act.put, List.setIfInBounds_toArray, List.set_cons_zero, List.set_cons_succ, d3] <;> rfl, h0, h1, h2, h3, fun _ => rfl, h5, h6, h7, h8, RegT.other hM.out 4 _ rfl rfl⟩
    · obtain rfl := Option.some.inj hi
      clear hi hil
      have d4 := h4 (hall ⟨4, .data⟩ (by simp) rfl)
      refine StepOk.plain rfl (fun K hK => ?_)
      have HKK := Lib.hid hK; clear hK
      simp only [putAll, Act.put, List.setIfInBounds_toArray, List.set_cons_zero, List.set_cons_succ]
      go_simp
      refine (HAT.out _ _ _).mono ?_
      rintro e w2 ⟨rfl, hb2⟩
      exact HKK.out _ _ ⟨_, by simp only [putAll, Act.put, List.setIfInBounds_toArray, List.set_cons_zero, List.set_cons_succ, d4] <;> rfl, h0, h1, h2, h3, h4, fun _ => rfl, h6, h7, h8, (RegT.other hM.out 5 _ rfl rfl).grow hb2⟩
    · obtain rfl := Option.some.inj hi
      clear hi hil
      refine StepOk.plain rfl (fun K hK => ?_)
      have HKK := Lib.hid hK; clear hK
      simp only [putAll, Act.put, List.setIfInBounds_toArray, List.set_cons_zero, List.set_cons_succ]
      go_simp
      exact HKK.out _ _ ⟨_, by simp only [putAll, Act.put, List.setIfInBounds_toArray, List.set_cons_zero, List.set_cons_succ] <;> rfl, h0, h1, h2, h3, h4, h5, fun _ => rfl, h7, h8, RegT.other hM.out 6 _ rfl rfl⟩
    · obtain rfl := Option.some.inj hi
      clear hi hil
      have d6 := h6 (hall ⟨6, .data⟩ (by simp) rfl)
      have q0 : w'.cell? ⟨N, 2, none⟩ = some (.int .i64 c2) := (RegM.lays hM.out.1).1.cell 2
      refine StepOk.plain rfl (fun K hK => ?_)
      have HKK := Lib.hid hK; clear hK
      simp only [putAll, Act.put, List.setIfInBounds_toArray, List.set_cons_zero, List.set_cons_succ]
      go_simp
      exact HKK.out _ _ ⟨_, by simp only [putAll, Act.put, List.setIfInBounds_toArray, List.set_cons_zero, List.set_cons_succ, d6] <;> rfl, h0, h1, h2, h3, h4, h5, h6, fun _ => rfl, h8, RegT.other hM.out 7 _ rfl rfl⟩
    · obtain rfl := Option.some.inj hi
      clear hi hil
      have d7 := h7 (hall ⟨7, .data⟩ (by simp) rfl)
      refine StepOk.plain rfl (fun K hK => ?_)
      have HKK := Lib.hid hK; clear hK
      simp only [putAll, Act.put, List.setIfInBounds_toArray, List.set_cons_zero, List.set_cons_succ]
      go_simp
      refine (HAT.out _ _ _).mono ?_
      rintro e w2 ⟨rfl, hb2⟩
      exact HKK.out _ _ ⟨_, by simp only [putAll, Act.put, List.setIfInBounds_toArray, List.set_cons_zero, List.set_cons_succ, d7] <;> rfl, h0, h1, h2, h3, h4, h5, h6, h7, fun _ => rfl, (RegT.other hM.out 8 _ rfl rfl).grow hb2⟩
    · obtain rfl := Option.some.inj hi
      clear hi hil
      have d2 := h2 (hall ⟨2, .data⟩ (by simp) rfl)
      have d5 := h5 (hall ⟨5, .data⟩ (by simp) rfl)
      have d8 := h8 (hall ⟨8, .data⟩ (by simp) rfl)
      refine StepOk.plain rfl (fun K hK => ?_)
      have HKK := Lib.hid hK; clear hK
      simp only [putAll, Act.put, List.setIfInBounds_toArray, List.set_cons_zero, List.set_cons_succ]
      go_simp
      have hn2 : N ≤ w'.heap.size := hM.out.1.1.2
      have hb2 : Below w'.heap.size w' (w'.alloc (.cells (flat [(c0, 7), (c1, 7), (c2, 7)]) 34)) := (Below.refl _ _).alloc (Nat.le_refl _) _
      exact HKK.out _ _ ⟨_, by simp only [putAll, Act.put, List.setIfInBounds_toArray, List.set_cons_zero, List.set_cons_succ, d2, d5, d8] <;> rfl, h0, h1, h2, h3, h4, h5, h6, h7, h8, ⟨(RegM.grow hM.out.1 hb2).made ⟨9, 34, [(c0, 7), (c1, 7), (c2, 7)]⟩ _ (Own.made w' hn2 _ [(c0, 7), (c1, 7), (c2, 7)] _ 3 rfl rfl (by decide)) (by simp) rfl, (TupF.grow hM.out.2 hb2).other 9 _ rfl⟩⟩
    · obtain rfl := Option.some.inj hi
      clear hi hil
      have o9 := RegM.row hM.out.1 ⟨9, 34, [(c0, 7), (c1, 7), (c2, 7)]⟩ (by simp) (hall ⟨9, .data⟩ (by simp) rfl)
      refine StepOk.plain rfl (fun K hK => ?_)
      have HKK := Lib.hid hK; clear hK
      simp only [putAll, Act.put, List.setIfInBounds_toArray, List.set_cons_zero, List.set_cons_succ]
      go_simp
      exact HKK.out _ _ ⟨_, by simp only [putAll, Act.put, List.setIfInBounds_toArray, List.set_cons_zero, List.set_cons_succ] <;> rfl, h0, h1, h2, h3, h4, h5, h6, h7, h8, ⟨RegM.made hM.out.1 ⟨10, 34, [(c0, 7), (c1, 7), (c2, 7)]⟩ (vs 9) o9 (by simp) rfl, TupF.other hM.out.2 10 _ rfl⟩⟩
    · omega
  · rintro b' vs w2 hall ⟨h0, h1, h2, h3, h4, h5, h6, h7, h8, hM⟩
    have d0 := h0 (hall 0 (by simp))
    have d1 := h1 (hall 1 (by simp))
    have d2 := h2 (hall 2 (by simp))
    have d3 := h3 (hall 3 (by simp))
    have d4 := h4 (hall 4 (by simp))
    have d5 := h5 (hall 5 (by simp))
    have d6 := h6 (hall 6 (by simp))
    have d7 := h7 (hall 7 (by simp))
    have d8 := h8 (hall 8 (by simp))
    have o9 := RegM.row hM.out.1 ⟨9, 34, [(c0, 7), (c1, 7), (c2, 7)]⟩ (by simp) (hall 9 (by simp))
    have o10 := RegM.row hM.out.1 ⟨10, 34, [(c0, 7), (c1, 7), (c2, 7)]⟩ (by simp) (hall 10 (by simp))
    have LS := Lib.hid (RegM.lays hM.out.1)
    have BB := Lib.hid (RegM.below hM.out.1)
    simp only [putAll, Act.put, List.setIfInBounds_toArray, List.set_cons_zero, List.set_cons_succ, d0, d1, d2, d3, d4, d5, d6, d7, d8]
    obtain ⟨lb, lo, lc, e10⟩ := o10.row.shapeN (n := 3) rfl (by decide)
    have R10 := Lib.hid o10.row
    rw [e10] at R10
    have BN : Hid (N ≤ w2.heap.size) := hM.out.1.1.2
    simp only [e10]
    clear e10 o9 o10 hall hM
    clear h0 d0 h1 d1 h2 d2 h3 d3 h4 d4 h5 d5 h6 d6 h7 d7 h8 d8
    go_wp2_with fail
    refine (HR.out _ _ R10.out).mono ?_
    rintro e w3 ⟨rfl, hb⟩
    have S3 : Hid (Below N w w3 ∧ N ≤ w3.heap.size) := ⟨BB.out.trans (hb.mono BN.out), Nat.le_trans BN.out hb.size⟩
    clear hb
    go_wp2_with fail
    refine (HAW.out _).mono ?_
    rintro e w4 ⟨rfl, hb⟩
    have S4 : Hid (Below N w w4) := S3.out.1.trans (hb.mono S3.out.2)
    clear hb
    go_wp2_with fail
    go_ret
    exact ⟨rfl, S4.out⟩
set_option maxHeartbeats 8000000 in
set_option maxRecDepth 100000 in
theorem lines_walk (w : World) (c0 c1 c2 : Int) (D M : Nat) (F : List Pt) (hD : D ≤ 6)
    (HL : Hid (F.length = M ∧ 0 < M ∧ M ≤ 64 ∧ (∀ a ∈ F, a.2 = 7) ∧ (c0 ≤ c1 → c1 ≤ c2 → ∀ k a, F[k]? = some a → lastX F c0 k ≤ a.1) ∧ (c1 ≤ c0 → c2 ≤ c1 → ∀ k a, F[k]? = some a → a.1 ≤ lastX F c0 k)))
    (HR : Hid (∀ u w', Row w' u [(c0, 7), (c1, 7), (c2, 7)] → Calls Try.prog 13 #[u] w' fun e w'' => e = .returned (.bool true) ∧ Below w'.heap.size w' w''))
    (HF : Hid (∀ u w', Row w' u [(c0, 7), (c1, 7), (c2, 7)] → Calls Try.prog 17 #[u, .int .i64 (D : Int)] w' fun e w'' => ∃ r, e = .returned (.tuple #[r, .int .i64 0]) ∧ Own w'' w'.heap.size 34 r F ∧ Below w'.heap.size w' w'')) :
    Calls Try.prog 8 #[.agg #[.int .i64 c0, .int .i64 c1, .int .i64 c2], .int .i64 (D : Int)] w fun e w' => e = .returned (.bool true) ∧ Below w.heap.size w w' := by
  have d0 : decide ((D : Int) < 0) = false := decide_eq_false (by omega)
  have d6' : decide ((D : Int) > 6) = false := decide_eq_false (by omega)
  clear hD
  have HAW := Lib.hid awake_c
  have HAT := Lib.hid at_c
  obtain ⟨N, hN⟩ : ∃ n, w.heap.size = n := ⟨_, rfl⟩
  have HN := Lib.hid hN
  have S0 : Hid (Mem w (w.alloc (.cells #[.int .i64 c0, .int .i64 c1, .int .i64 c2] 49)) [(N, 49, #[.int .i64 c0, .int .i64 c1, .int .i64 c2])]) := by
    rw [← hN]; exact (Mem.refl w).add 49 #[.int .i64 c0, .int .i64 c1, .int .i64 c2]
  rw [hN]
  go_enter Try.func8, Try.ntmps8
  go_wp2_with fail
  refine wp_region_put3 (by kernel_rfl) (by kernel_rfl) (by kernel_rfl) (fun b' vs w' => (b' 0 = true → vs 0 = .pointer (some ⟨N, 0, none⟩)) ∧ (b' 1 = true → vs 1 = .int .i64 c0) ∧ (b' 2 = true → vs 2 = .agg #[.int .i64 c0, .int .i64 7]) ∧ (b' 3 = true → vs 3 = .pointer (some ⟨N, 1, none⟩)) ∧ (b' 4 = true → vs 4 = .int .i64 c1) ∧ (b' 5 = true → vs 5 = .agg #[.int .i64 c1, .int .i64 7]) ∧ (b' 6 = true → vs 6 = .pointer (some ⟨N, 2, none⟩)) ∧ (b' 7 = true → vs 7 = .int .i64 c2) ∧ (b' 8 = true → vs 8 = .agg #[.int .i64 c2, .int .i64 7]) ∧ Hid (RegT N w [⟨9, 34, [(c0, 7), (c1, 7), (c2, 7)]⟩, ⟨10, 34, [(c0, 7), (c1, 7), (c2, 7)]⟩] [] [] [(N, 49, #[.int .i64 c0, .int .i64 c1, .int .i64 c2])] b' vs w')) ?_ ?_ ?_
  · intro vs
    exact ⟨fun h => Bool.noConfusion h, fun h => Bool.noConfusion h, fun h => Bool.noConfusion h, fun h => Bool.noConfusion h, fun h => Bool.noConfusion h, fun h => Bool.noConfusion h, fun h => Bool.noConfusion h, fun h => Bool.noConfusion h, fun h => Bool.noConfusion h, ⟨RegM.start (⟨⟨HN.out ▸ S0.out.below, by have := S0.out.lays.1.lt; omega⟩, fun s hs => (by cases hs), S0.out.lays⟩) vs, TupF.start vs _⟩⟩
  · rintro b' vs w' i op hi hun hall ⟨h0, h1, h2, h3, h4, h5, h6, h7, h8, hM⟩
    have hil : i < 11 := (List.getElem?_eq_some_iff.1 hi).1
    rcases i with _ | _ | _ | _ | _ | _ | _ | _ | _ | _ | _ | i
    · obtain rfl := Option.some.inj hi
      clear hi hil
      refine StepOk.plain rfl (fun K hK => ?_)
      have HKK := Lib.hid hK; clear hK
      simp only [putAll, Act.put, List.setIfInBounds_toArray, List.set_cons_zero, List.set_cons_succ]
      go_simp
      exact HKK.out _ _ ⟨_, by simp only [putAll, Act.put, List.setIfInBounds_toArray, List.set_cons_zero, List.set_cons_succ] <;> rfl, fun _ => rfl, h1, h2, h3, h4, h5, h6, h7, h8, RegT.other hM.out 0 _ rfl rfl⟩
    · obtain rfl := Option.some.inj hi
      clear hi hil
      have d0 := h0 (hall ⟨0, .data⟩ (by simp) rfl)
      have q0 : w'.cell? ⟨N, 0, none⟩ = some (.int .i64 c0) := (RegM.lays hM.out.1).1.cell 0
      refine StepOk.plain rfl (fun K hK => ?_)
      have HKK := Lib.hid hK; clear hK
      simp only [putAll, Act.put, List.setIfInBounds_toArray, List.set_cons_zero, List.set_cons_succ]
      go_simp
      exact HKK.out _ _ ⟨_, by simp only [putAll, Act.put, List.setIfInBounds_toArray, List.set_cons_zero, List.set_cons_succ, d0] <;> rfl, h0, fun _ => rfl, h2, h3, h4, h5, h6, h7, h8, RegT.other hM.out 1 _ rfl rfl⟩
    · obtain rfl := Option.some.inj hi
      clear hi hil
      have d1 := h1 (hall ⟨1, .data⟩ (by simp) rfl)
      refine StepOk.plain rfl (fun K hK => ?_)
      have HKK := Lib.hid hK; clear hK
      simp only [putAll, Act.put, List.setIfInBounds_toArray, List.set_cons_zero, List.set_cons_succ]
      go_simp
      refine (HAT.out _ _ _).mono ?_
      rintro e w2 ⟨rfl, hb2⟩
      exact HKK.out _ _ ⟨_, by simp only [putAll, Act.put, List.setIfInBounds_toArray, List.set_cons_zero, List.set_cons_succ, d1] <;> rfl, h0, h1, fun _ => rfl, h3, h4, h5, h6, h7, h8, (RegT.other hM.out 2 _ rfl rfl).grow hb2⟩
    · obtain rfl := Option.some.inj hi
      clear hi hil
      refine StepOk.plain rfl (fun K hK => ?_)
      have HKK := Lib.hid hK; clear hK
      simp only [putAll, Act.put, List.setIfInBounds_toArray, List.set_cons_zero, List.set_cons_succ]
      go_simp
      exact HKK.out _ _ ⟨_, by simp only [putAll, Act.put, List.setIfInBounds_toArray, List.set_cons_zero, List.set_cons_succ] <;> rfl, h0, h1, h2, fun _ => rfl, h4, h5, h6, h7, h8, RegT.other hM.out 3 _ rfl rfl⟩
    · obtain rfl := Option.some.inj hi
      clear hi hil
      have d3 := h3 (hall ⟨3, .data⟩ (by simp) rfl)
      have q0 : w'.cell? ⟨N, 1, none⟩ = some (.int .i64 c1) := (RegM.lays hM.out.1).1.cell 1
      refine StepOk.plain rfl (fun K hK => ?_)
      have HKK := Lib.hid hK; clear hK
      simp only [putAll, Act.put, List.setIfInBounds_toArray, List.set_cons_zero, List.set_cons_succ]
      go_simp
      exact HKK.out _ _ ⟨_, by simp only [putAll, Act.put, List.setIfInBounds_toArray, List.set_cons_zero, List.set_cons_succ, d3] <;> rfl, h0, h1, h2, h3, fun _ => rfl, h5, h6, h7, h8, RegT.other hM.out 4 _ rfl rfl⟩
    · obtain rfl := Option.some.inj hi
      clear hi hil
      have d4 := h4 (hall ⟨4, .data⟩ (by simp) rfl)
      refine StepOk.plain rfl (fun K hK => ?_)
      have HKK := Lib.hid hK; clear hK
      simp only [putAll, Act.put, List.setIfInBounds_toArray, List.set_cons_zero, List.set_cons_succ]
      go_simp
      refine (HAT.out _ _ _).mono ?_
      rintro e w2 ⟨rfl, hb2⟩
      exact HKK.out _ _ ⟨_, by simp only [putAll, Act.put, List.setIfInBounds_toArray, List.set_cons_zero, List.set_cons_succ, d4] <;> rfl, h0, h1, h2, h3, h4, fun _ => rfl, h6, h7, h8, (RegT.other hM.out 5 _ rfl rfl).grow hb2⟩
    · obtain rfl := Option.some.inj hi
      clear hi hil
      refine StepOk.plain rfl (fun K hK => ?_)
      have HKK := Lib.hid hK; clear hK
      simp only [putAll, Act.put, List.setIfInBounds_toArray, List.set_cons_zero, List.set_cons_succ]
      go_simp
      exact HKK.out _ _ ⟨_, by simp only [putAll, Act.put, List.setIfInBounds_toArray, List.set_cons_zero, List.set_cons_succ] <;> rfl, h0, h1, h2, h3, h4, h5, fun _ => rfl, h7, h8, RegT.other hM.out 6 _ rfl rfl⟩
    · obtain rfl := Option.some.inj hi
      clear hi hil
      have d6 := h6 (hall ⟨6, .data⟩ (by simp) rfl)
      have q0 : w'.cell? ⟨N, 2, none⟩ = some (.int .i64 c2) := (RegM.lays hM.out.1).1.cell 2
      refine StepOk.plain rfl (fun K hK => ?_)
      have HKK := Lib.hid hK; clear hK
      simp only [putAll, Act.put, List.setIfInBounds_toArray, List.set_cons_zero, List.set_cons_succ]
      go_simp
      exact HKK.out _ _ ⟨_, by simp only [putAll, Act.put, List.setIfInBounds_toArray, List.set_cons_zero, List.set_cons_succ, d6] <;> rfl, h0, h1, h2, h3, h4, h5, h6, fun _ => rfl, h8, RegT.other hM.out 7 _ rfl rfl⟩
    · obtain rfl := Option.some.inj hi
      clear hi hil
      have d7 := h7 (hall ⟨7, .data⟩ (by simp) rfl)
      refine StepOk.plain rfl (fun K hK => ?_)
      have HKK := Lib.hid hK; clear hK
      simp only [putAll, Act.put, List.setIfInBounds_toArray, List.set_cons_zero, List.set_cons_succ]
      go_simp
      refine (HAT.out _ _ _).mono ?_
      rintro e w2 ⟨rfl, hb2⟩
      exact HKK.out _ _ ⟨_, by simp only [putAll, Act.put, List.setIfInBounds_toArray, List.set_cons_zero, List.set_cons_succ, d7] <;> rfl, h0, h1, h2, h3, h4, h5, h6, h7, fun _ => rfl, (RegT.other hM.out 8 _ rfl rfl).grow hb2⟩
    · obtain rfl := Option.some.inj hi
      clear hi hil
      have d2 := h2 (hall ⟨2, .data⟩ (by simp) rfl)
      have d5 := h5 (hall ⟨5, .data⟩ (by simp) rfl)
      have d8 := h8 (hall ⟨8, .data⟩ (by simp) rfl)
      refine StepOk.plain rfl (fun K hK => ?_)
      have HKK := Lib.hid hK; clear hK
      simp only [putAll, Act.put, List.setIfInBounds_toArray, List.set_cons_zero, List.set_cons_succ]
      go_simp
      have hn2 : N ≤ w'.heap.size := hM.out.1.1.2
      have hb2 : Below w'.heap.size w' (w'.alloc (.cells (flat [(c0, 7), (c1, 7), (c2, 7)]) 34)) := (Below.refl _ _).alloc (Nat.le_refl _) _
      exact HKK.out _ _ ⟨_, by simp only [putAll, Act.put, List.setIfInBounds_toArray, List.set_cons_zero, List.set_cons_succ, d2, d5, d8] <;> rfl, h0, h1, h2, h3, h4, h5, h6, h7, h8, ⟨(RegM.grow hM.out.1 hb2).made ⟨9, 34, [(c0, 7), (c1, 7), (c2, 7)]⟩ _ (Own.made w' hn2 _ [(c0, 7), (c1, 7), (c2, 7)] _ 3 rfl rfl (by decide)) (by simp) rfl, (TupF.grow hM.out.2 hb2).other 9 _ rfl⟩⟩
    · obtain rfl := Option.some.inj hi
      clear hi hil
      have o9 := RegM.row hM.out.1 ⟨9, 34, [(c0, 7), (c1, 7), (c2, 7)]⟩ (by simp) (hall ⟨9, .data⟩ (by simp) rfl)
      refine StepOk.plain rfl (fun K hK => ?_)
      have HKK := Lib.hid hK; clear hK
      simp only [putAll, Act.put, List.setIfInBounds_toArray, List.set_cons_zero, List.set_cons_succ]
      go_simp
      exact HKK.out _ _ ⟨_, by simp only [putAll, Act.put, List.setIfInBounds_toArray, List.set_cons_zero, List.set_cons_succ] <;> rfl, h0, h1, h2, h3, h4, h5, h6, h7, h8, ⟨RegM.made hM.out.1 ⟨10, 34, [(c0, 7), (c1, 7), (c2, 7)]⟩ (vs 9) o9 (by simp) rfl, TupF.other hM.out.2 10 _ rfl⟩⟩
    · omega
  · rintro b' vs w2 hall ⟨h0, h1, h2, h3, h4, h5, h6, h7, h8, hM⟩
    have d0 := h0 (hall 0 (by simp))
    have d1 := h1 (hall 1 (by simp))
    have d2 := h2 (hall 2 (by simp))
    have d3 := h3 (hall 3 (by simp))
    have d4 := h4 (hall 4 (by simp))
    have d5 := h5 (hall 5 (by simp))
    have d6 := h6 (hall 6 (by simp))
    have d7 := h7 (hall 7 (by simp))
    have d8 := h8 (hall 8 (by simp))
    have o9 := RegM.row hM.out.1 ⟨9, 34, [(c0, 7), (c1, 7), (c2, 7)]⟩ (by simp) (hall 9 (by simp))
    have o10 := RegM.row hM.out.1 ⟨10, 34, [(c0, 7), (c1, 7), (c2, 7)]⟩ (by simp) (hall 10 (by simp))
    have LS := Lib.hid (RegM.lays hM.out.1)
    have BB := Lib.hid (RegM.below hM.out.1)
    simp only [putAll, Act.put, List.setIfInBounds_toArray, List.set_cons_zero, List.set_cons_succ, d0, d1, d2, d3, d4, d5, d6, d7, d8]
    obtain ⟨lb, lo, lc, e10⟩ := o10.row.shapeN (n := 3) rfl (by decide)
    have R10 := Lib.hid o10.row
    rw [e10] at R10
    have BN : Hid (N ≤ w2.heap.size) := hM.out.1.1.2
    simp only [e10]
    clear e10 o9 o10 hall hM
    clear h0 d0 h1 d1 h2 d2 h3 d3 h4 d4 h5 d5 h6 d6 h7 d7 h8 d8
    go_wp2_with fail
    refine (HR.out _ _ R10.out).mono ?_
    rintro e w3 ⟨rfl, hb⟩
    have S3 : Hid (Below N w w3 ∧ N ≤ w3.heap.size ∧ Row w3 (.slice (some ⟨lb, lo, none⟩) 3 lc) [(c0, 7), (c1, 7), (c2, 7)] ∧ Blk w3 N 49 #[.int .i64 c0, .int .i64 c1, .int .i64 c2]) := ⟨BB.out.trans (hb.mono BN.out), Nat.le_trans BN.out hb.size, R10.out.on hb, LS.out.1.grow hb⟩
    clear hb
    go_wp2_with fail
    refine (HF.out _ _ S3.out.2.2.1).mono ?_
    rintro e w4 ⟨u, rfl, hou, hb⟩
    obtain ⟨fb, fo, fc, rfl⟩ := hou.row.shapeN (n := M) HL.out.1 HL.out.2.1
    have S4 : Hid (Below N w w4 ∧ N ≤ w4.heap.size ∧ Row w4 (.slice (some ⟨fb, fo, none⟩) M fc) F ∧ Blk w4 N 49 #[.int .i64 c0, .int .i64 c1, .int .i64 c2]) := ⟨S3.out.1.trans (hb.mono S3.out.2.1), Nat.le_trans S3.out.2.1 hb.size, hou.row, S3.out.2.2.2.grow hb⟩
    clear hou hb
    have x0 : w4.cell? ⟨N, 0, none⟩ = some (.int .i64 c0) := S4.out.2.2.2.cell 0
    go_wp2_with fail
    clear x0
    go_loopw [8, 45] (fun x i wr => ∃ k : Nat, k ≤ M ∧ x = .int .i64 (lastX F c0 k) ∧ i = .int .i64 k ∧ Hid (Below w4.heap.size w4 wr)) (fun _ i _ => M - (intOf i).toNat)
    case atStart => exact ⟨0, by omega, rfl, rfl, Below.refl _ _⟩
    case round =>
      obtain ⟨k, hk, rfl, rfl, hw⟩ := hrel
      by_cases hlt : k < M
      · have hd : decide ((k : Int) < (M : Int)) = true := decide_eq_true (by omega)
        obtain ⟨⟨ax, ay⟩, ha⟩ : ∃ a, F[k]? = some a := ⟨_, List.getElem?_eq_getElem (by rw [HL.out.1]; exact hlt)⟩
        have hay : ay = 7 := HL.out.2.2.2.1 _ (List.mem_of_getElem? ha)
        subst hay
        obtain ⟨q0, q1⟩ := ((S4.out.2.2.1.on hw.out).ptsN (fun e => by rw [e] at ha; simp at ha)) k _ ha
        have kb := S4.out.2.2.2.grow hw.out
        have x0 : wr.cell? ⟨N, 0, none⟩ = some (.int .i64 c0) := kb.cell 0
        have x1 : wr.cell? ⟨N, 1, none⟩ = some (.int .i64 c1) := kb.cell 1
        have x2 : wr.cell? ⟨N, 2, none⟩ = some (.int .i64 c2) := kb.cell 2
        have xl := kb.lt
        have HU : Hid (c0 ≤ c1 → c1 ≤ c2 → lastX F c0 k ≤ ax) := fun h1 h2 => HL.out.2.2.2.2.1 h1 h2 k _ ha
        have HD : Hid (c1 ≤ c0 → c2 ≤ c1 → ax ≤ lastX F c0 k) := fun h1 h2 => HL.out.2.2.2.2.2 h1 h2 k _ ha
        have HX : Hid (lastX F c0 (k + 1) = ax) := by unfold Hid; show (F.getD k (0, 0)).1 = ax; rw [List.getD_eq_getElem?_getD, ha]; rfl
        have hM64 : M ≤ 64 := HL.out.2.2.1
        have BQ : Hid (Below w4.heap.size w4 (wr.alloc (.cells #[.int .i64 ax, .int .i64 7] 34))) := hw.out.alloc hw.out.size _
        simp only at q0 q1
        clear ha kb
        obtain ⟨X, hX⟩ : ∃ X, lastX F c0 k = X := ⟨_, rfl⟩
        rw [hX] at HU HD ⊢
        clear hX
        by_cases hA : c0 ≤ c1 ∧ c1 ≤ c2
        · have a1 : decide (c0 ≤ c1) = true := decide_eq_true hA.1
          have a2 : decide (c1 ≤ c2) = true := decide_eq_true hA.2
          have a3 : decide (ax < X) = false := decide_eq_false (by have := HU.out hA.1 hA.2; omega)
          by_cases hB : c1 ≤ c0 ∧ c2 ≤ c1
          · have b1 : decide (c0 ≥ c1) = true := decide_eq_true hB.1
            have b2 : decide (c1 ≥ c2) = true := decide_eq_true hB.2
            have b3 : decide (ax > X) = false := decide_eq_false (by have := HD.out hB.1 hB.2; omega)
            clear hA hB
            go_wp2_with fail
            exact ⟨⟨k + 1, by omega, by rw [HX.out], by go_num, BQ.out⟩, by simp [intOf]; omega⟩
          · by_cases hB1 : c1 ≤ c0
            · have b1 : decide (c0 ≥ c1) = true := decide_eq_true hB1
              have b2 : decide (c1 ≥ c2) = false := decide_eq_false (by omega)
              clear hA hB hB1
              go_wp2_with fail
              exact ⟨⟨k + 1, by omega, by rw [HX.out], by go_num, BQ.out⟩, by simp [intOf]; omega⟩
            · have b1 : decide (c0 ≥ c1) = false := decide_eq_false (by omega)
              clear hA hB hB1
              go_wp2_with fail
              exact ⟨⟨k + 1, by omega, by rw [HX.out], by go_num, BQ.out⟩, by simp [intOf]; omega⟩
        · by_cases hA1 : c0 ≤ c1
          · have a1 : decide (c0 ≤ c1) = true := decide_eq_true hA1
            have a2 : decide (c1 ≤ c2) = false := decide_eq_false (by omega)
            by_cases hB : c1 ≤ c0 ∧ c2 ≤ c1
            · have b1 : decide (c0 ≥ c1) = true := decide_eq_true hB.1
              have b2 : decide (c1 ≥ c2) = true := decide_eq_true hB.2
              have b3 : decide (ax > X) = false := decide_eq_false (by have := HD.out hB.1 hB.2; omega)
              clear hA hB hA1
              go_wp2_with fail
              exact ⟨⟨k + 1, by omega, by rw [HX.out], by go_num, BQ.out⟩, by simp [intOf]; omega⟩
            · have b1 : decide (c0 ≥ c1) = false := decide_eq_false (by omega)
              clear hA hB hA1
              go_wp2_with fail
              exact ⟨⟨k + 1, by omega, by rw [HX.out], by go_num, BQ.out⟩, by simp [intOf]; omega⟩
          · have a1 : decide (c0 ≤ c1) = false := decide_eq_false hA1
            have b1 : decide (c0 ≥ c1) = true := decide_eq_true (by omega)
            by_cases hB2 : c2 ≤ c1
            · have b2 : decide (c1 ≥ c2) = true := decide_eq_true hB2
              have b3 : decide (ax > X) = false := decide_eq_false (by have := HD.out (by omega) hB2; omega)
              clear hA hA1 hB2
              go_wp2_with fail
              exact ⟨⟨k + 1, by omega, by rw [HX.out], by go_num, BQ.out⟩, by simp [intOf]; omega⟩
            · have b2 : decide (c1 ≥ c2) = false := decide_eq_false hB2
              clear hA hA1 hB2
              go_wp2_with fail
              exact ⟨⟨k + 1, by omega, by rw [HX.out], by go_num, BQ.out⟩, by simp [intOf]; omega⟩
      · have hd : decide ((k : Int) < (M : Int)) = false := decide_eq_false (by omega)
        go_wp2_with fail
        refine (HAW.out _).mono ?_
        rintro e w5 ⟨rfl, hb⟩
        have S5 : Hid (Below N w w5) := (S4.out.1.trans (hw.out.mono S4.out.2.1)).trans (hb.mono (Nat.le_trans S4.out.2.1 hw.out.size))
        clear hb
        go_wp2_with fail
        go_ret
        exact ⟨rfl, S5.out⟩
theorem lines_law (w : World) (c0 c1 c2 d : Int) : Calls Try.prog 8 #[.agg #[.int .i64 c0, .int .i64 c1, .int .i64 c2], .int .i64 d] w fun e w' => e = .returned (.bool true) ∧ Below w.heap.size w w' := by
  have hr : ∀ u w', Row w' u [(c0, 7), (c1, 7), (c2, 7)] → _ := fun u w' hr => right_c u [(c0, 7), (c1, 7), (c2, 7)] w' (by simp) hr
  cases hc : curveB [(c0, 7), (c1, 7), (c2, 7)] with
  | false => rw [hc] at hr; exact lines_not w c0 c1 c2 d (Lib.hid hr)
  | true =>
    rw [hc] at hr
    by_cases h0 : d < 0
    · exact lines_neg w c0 c1 c2 d h0 (Lib.hid hr)
    · by_cases h6 : 6 < d
      · exact lines_big w c0 c1 c2 d h6 (Lib.hid hr)
      · obtain ⟨D, rfl⟩ := Int.eq_ofNat_of_zero_le (show 0 ≤ d by omega)
        have hD : D ≤ 6 := by omega
        exact lines_walk w c0 c1 c2 D (2 ^ D) (flatI D [(c0, 7), (c1, 7), (c2, 7)]) hD
          (Lib.hid ⟨flatI_length _ _, Nat.pos_of_ne_zero (by simp), pow_small hD, level_flat D c0 c1 c2, fun h1 h2 k a ha => lastX_up _ _ (fun a ha => ((level_up D c0 c1 c2 h1 h2).1 a ha).1) (level_up D c0 c1 c2 h1 h2).2 k a ha, fun h1 h2 k a ha => lastX_down _ _ (fun a ha => ((level_down D c0 c1 c2 h1 h2).1 a ha).1) (level_down D c0 c1 c2 h1 h2).2 k a ha⟩)
          (Lib.hid hr) (Lib.hid fun u w' hr => flat_c u _ D w' hr hc hD)
end Go.Proofs.Ythlealndopppaaa
