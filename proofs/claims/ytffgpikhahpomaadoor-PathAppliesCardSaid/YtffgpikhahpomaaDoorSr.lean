/- Layer 6: cuts of a row; replaced. -/
import Derived.Test.YtffgpikhahpomaaDoorSq
import Derived.Test.YtffgpikhahpomaaDoorSh
namespace Go.Proofs.YtffgpikhahpomaaDoor
open Go.RowKit
theorem cut_to {w : World} {ao : Option Addr} {n c i : Nat} {l : List Sg} (row : RowS w (.slice ao n c) l) (hc : n ≤ c) (hi : i ≤ n) : ∃ a', (∀ w' : World, (Instr.sliceAt 22 (.slice ao n c) none (some (.int .i64 (i : Int))) none).run Tryd.prog w' = .ok (.slice a' i c) w') ∧ RowS w (.slice a' i c) (l.take i) := by
  have hrun : ∀ w' : World, (Instr.sliceAt 22 (.slice ao n c) none (some (.int .i64 (i : Int))) none).run Tryd.prog w' = .ok (sliced ao 0 i c 7) w' := fun w' => by
    have h1 : (i : Int) ≤ (c : Int) := by omega
    have h0 : (0 : Int) ≤ (i : Int) := by omega
    go_simp
  rcases row with ⟨h1, rfl⟩ | ⟨a, c', h1, rfl⟩ | ⟨b, o, c', h1, hb, hp⟩
  · simp only [Value.slice.injEq] at h1
    obtain ⟨rfl, rfl, rfl⟩ := h1
    obtain rfl : i = 0 := by omega
    exact ⟨_, hrun, .inl ⟨rfl, rfl⟩⟩
  · simp only [Value.slice.injEq] at h1
    obtain ⟨rfl, rfl, rfl⟩ := h1
    obtain rfl : i = 0 := by omega
    refine ⟨_, hrun, ?_⟩
    by_cases h0 : c = 0
    · subst h0; exact .inr (.inl ⟨a, 0, rfl, rfl⟩)
    · rw [if_neg h0]; exact .inr (.inl ⟨_, _, rfl, rfl⟩)
  · simp only [Value.slice.injEq] at h1
    obtain ⟨rfl, rfl, rfl⟩ := h1
    have hl : (l.take i).length = i := by rw [List.length_take]; omega
    have ha : (if c = 0 then some (⟨b, o, none⟩ : Addr) else (some (⟨b, o, none⟩ : Addr)).map (·.add (0 * 7))) = some ⟨b, o, none⟩ := by
      split
      · rfl
      · simp [Addr.add_lit]
    refine ⟨some ⟨b, o, none⟩, fun w' => ?_, .inr (.inr ⟨b, o, c, by rw [hl], hb, fun k s hk j v hv => ?_⟩)⟩
    · rw [hrun w']; unfold sliced; rw [ha]; simp
    · rw [List.getElem?_take] at hk
      split at hk
      · exact hp k s hk j v hv
      · cases hk
theorem cut_from {w : World} {ao : Option Addr} {n c i : Nat} {l : List Sg} (row : RowS w (.slice ao n c) l) (hc : n ≤ c) (hi : i ≤ n) : ∃ a' c', (∀ w' : World, (Instr.sliceAt 22 (.slice ao n c) (some (.int .i64 (i : Int))) none none).run Tryd.prog w' = .ok (.slice a' (n - i) c') w') ∧ RowS w (.slice a' (n - i) c') (l.drop i) := by
  have hrun : ∀ w' : World, (Instr.sliceAt 22 (.slice ao n c) (some (.int .i64 (i : Int))) none none).run Tryd.prog w' = .ok (sliced ao i n c 7) w' := fun w' => by
    have h1 : (i : Int) ≤ (n : Int) := by omega
    have h0 : (0 : Int) ≤ (i : Int) := by omega
    go_simp
  rcases row with ⟨h1, rfl⟩ | ⟨a, c', h1, rfl⟩ | ⟨b, o, c', h1, hb, hp⟩
  · simp only [Value.slice.injEq] at h1
    obtain ⟨rfl, rfl, rfl⟩ := h1
    obtain rfl : i = 0 := by omega
    exact ⟨_, _, hrun, .inl ⟨rfl, rfl⟩⟩
  · simp only [Value.slice.injEq] at h1
    obtain ⟨rfl, rfl, rfl⟩ := h1
    obtain rfl : i = 0 := by omega
    refine ⟨_, _, hrun, ?_⟩
    by_cases h0 : c = 0
    · subst h0; exact .inr (.inl ⟨a, 0, rfl, rfl⟩)
    · rw [if_neg h0]; exact .inr (.inl ⟨_, _, rfl, rfl⟩)
  · simp only [Value.slice.injEq] at h1
    obtain ⟨rfl, rfl, rfl⟩ := h1
    refine ⟨_, _, hrun, ?_⟩
    have hl : (l.drop i).length = l.length - i := by rw [List.length_drop]
    by_cases h0 : c = i
    · subst h0
      have he : l.drop c = [] := List.drop_eq_nil_of_le (by omega)
      rw [if_pos rfl, he, show l.length - c = 0 by omega]
      exact .inr (.inl ⟨_, _, rfl, rfl⟩)
    · rw [if_neg h0]
      refine .inr (.inr ⟨b, o + i * 7, c - i, by rw [hl]; simp [Addr.add_lit], hb, fun k s hk j v hv => ?_⟩)
      rw [List.getElem?_drop] at hk
      have := hp (i + k) s hk j v hv
      rw [show o + i * 7 + k * 7 + j = o + (i + k) * 7 + j by omega]
      exact this
theorem concat_c (d : Nat) (v0 v1 v2 : Value) (l0 l1 l2 : List Sg) (w : World) (h0 : w.cell? ⟨d, 0, none⟩ = some v0) (h1 : w.cell? ⟨d, 1, none⟩ = some v1) (h2 : w.cell? ⟨d, 2, none⟩ = some v2) (hd : d < w.heap.size) (r0 : RowS w v0 l0) (r1 : RowS w v1 l1) (r2 : RowS w v2 l2) (hl : l0.length + l1.length + l2.length ≤ 100000) :
    Calls Tryd.prog 57 #[.slice (some ⟨d, 0, none⟩) 3 3] w fun e w' => ∃ v, e = .returned v ∧ OwnS w' w.heap.size 48 v (l0 ++ l1 ++ l2) ∧ Below w.heap.size w w' := by
  obtain ⟨a0, c0, rfl⟩ := r0.shape
  obtain ⟨a1, c1, rfl⟩ := r1.shape
  obtain ⟨a2, c2, rfl⟩ := r2.shape
  exact concat_walk d a0 a1 a2 _ _ _ c0 c1 c2 l0 l1 l2 w h0 h1 h2 hd ⟨r0, r1, r2, rfl, rfl, rfl, hl⟩
/-- What holds in replaced's region. -/
def RepM (w : World) (v0 v1 v2 : Value) (X : List Sg) (b : Nat → Bool) (vs : Nat → Value) (w' : World) : Prop :=
  (b 7 = false → b 8 = false ∧ w' = w.drew) ∧ (b 7 = true → b 8 = false → ∃ d, vs 7 = .slice (some ⟨d, 0, none⟩) 3 3 ∧ w'.cell? ⟨d, 0, none⟩ = some v0 ∧ w'.cell? ⟨d, 1, none⟩ = some v1 ∧ w'.cell? ⟨d, 2, none⟩ = some v2 ∧ d < w'.heap.size ∧ Below w.heap.size w w') ∧ (b 8 = true → OwnS w' w.heap.size 48 (vs 8) X ∧ Below w.heap.size w w')
section
variable {w w' : World} {v0 v1 v2 : Value} {X : List Sg} {b : Nat → Bool} {vs : Nat → Value}
theorem RepM.other (h : RepM w v0 v1 v2 X b vs w') (i : Nat) (u : Value) (h7 : 7 ≠ i) (h8 : 8 ≠ i) : RepM w v0 v1 v2 X (upd b i true) (upd vs i u) w' := by
  unfold RepM
  rw [upd_other _ _ _ _ h7, upd_other _ _ _ _ h8, upd_other _ _ _ _ h7, upd_other _ _ _ _ h8]
  exact h
theorem RepM.made (h : RepM w v0 v1 v2 X b vs w') (b7 : b 7 = false) (t : TypeId) : RepM w v0 v1 v2 X (upd b 7 true) (upd vs 7 (.slice (some ⟨w'.heap.size, 0, none⟩) 3 3)) (w'.alloc (.cells #[v0, v1, v2] t)) := by
  obtain ⟨b8, rfl⟩ := h.1 b7
  unfold RepM
  rw [upd_same, upd_same, upd_other _ _ _ _ (by decide), b8]
  have B := Blk.new w.drew t #[v0, v1, v2]
  exact ⟨fun h => Bool.noConfusion h, fun _ _ => ⟨_, rfl, B.cell 0, B.cell 1, B.cell 2, B.lt, (Below.drew (Below.refl _ w)).alloc (Nat.le_refl _) _⟩, fun h => Bool.noConfusion h⟩
theorem RepM.call (h : RepM w v0 v1 v2 X b vs w') (b7 : b 7 = true) (b8 : b 8 = false) (u : Value) (w3 : World) (ho : OwnS w3 w'.heap.size 48 u X) (hb : Below w'.heap.size w' w3) : RepM w v0 v1 v2 X (upd b 8 true) (upd vs 8 u) w3 := by
  obtain ⟨d, _, _, _, _, _, hbel⟩ := h.2.1 b7 b8
  unfold RepM
  rw [upd_same, upd_same, upd_other _ _ _ _ (by decide), b7]
  exact ⟨fun h => Bool.noConfusion h, fun _ h => Bool.noConfusion h, fun _ => ⟨owns_base ho hbel.size, below_next hbel hb⟩⟩
end
set_option maxHeartbeats 4000000 in
set_option maxRecDepth 100000 in
theorem replaced_walk (ao a1 a2 au : Option Addr) (n c i j c2 nu cu m1 : Nat) (X l1 l2 M : List Sg) (w : World)
    (S1 : ∀ w' : World, (Instr.sliceAt 22 (.slice ao n c) none (some (.int .i64 (i : Int))) none).run Tryd.prog w' = .ok (.slice a1 i c) w')
    (S2 : ∀ w' : World, (Instr.sliceAt 22 (.slice ao n c) (some (.int .i64 (j : Int))) none none).run Tryd.prog w' = .ok (.slice a2 m1 c2) w')
    (HX : Hid (X = l1 ++ M ++ l2 ∧ RowS w (.slice a1 i c) l1 ∧ RowS w (.slice au nu cu) M ∧ RowS w (.slice a2 m1 c2) l2 ∧ l1.length + M.length + l2.length ≤ 100000)) :
    Calls Tryd.prog 42 #[.slice ao n c, .int .i64 (i : Int), .int .i64 (j : Int), .slice au nu cu] w fun e w' => ∃ v, e = .returned v ∧ OwnS w' w.heap.size 48 v X ∧ Below w.heap.size w w' := by
  go_enter Tryd.func42, Tryd.ntmps42
  go_wp2_with fail
  refine wp_region_put2 (by kernel_rfl) (by kernel_rfl) (by kernel_rfl) (fun b' vs w' => (b' 0 = true → vs 0 = .slice ao n c) ∧ (b' 1 = true → vs 1 = .int .i64 (i : Int)) ∧ (b' 2 = true → vs 2 = .slice a1 i c) ∧ (b' 3 = true → vs 3 = .slice au nu cu) ∧ (b' 4 = true → vs 4 = .slice ao n c) ∧ (b' 5 = true → vs 5 = .int .i64 (j : Int)) ∧ (b' 6 = true → vs 6 = .slice a2 m1 c2) ∧ (b' 9 = true → b' 8 = true ∧ vs 9 = vs 8) ∧ Hid (RepM w (.slice a1 i c) (.slice au nu cu) (.slice a2 m1 c2) X b' vs w')) ?_ ?_ ?_
  · intro vs hvs
    exact ⟨fun h => Bool.noConfusion h, fun h => Bool.noConfusion h, fun h => Bool.noConfusion h, fun h => Bool.noConfusion h, fun h => Bool.noConfusion h, fun h => Bool.noConfusion h, fun h => Bool.noConfusion h, fun h => Bool.noConfusion h, ⟨fun _ => ⟨rfl, rfl⟩, fun h => Bool.noConfusion h, fun h => Bool.noConfusion h⟩⟩
  · rintro b' vs w' i op hi hun hall ⟨h0, h1, h2, h3, h4, h5, h6, h9, hM⟩
    have hil : i < 10 := (List.getElem?_eq_some_iff.1 hi).1
    rcases i with _ | _ | _ | _ | _ | _ | _ | _ | _ | _ | i
    · obtain rfl := Option.some.inj hi
      refine wpOp_step rfl (fun K hK => ?_)
      have HKK := Lib.hid hK; clear hK
      simp only [putAll, Act.put, List.setIfInBounds_toArray, List.set_cons_zero, List.set_cons_succ]
      go_simp
      exact HKK.out _ _ ⟨_, by simp only [putAll, Act.put, List.setIfInBounds_toArray, List.set_cons_zero, List.set_cons_succ] <;> rfl, fun _ => rfl, h1, h2, h3, h4, h5, h6, h9, RepM.other hM.out 0 _ (by decide) (by decide)⟩
    · obtain rfl := Option.some.inj hi
      refine wpOp_step rfl (fun K hK => ?_)
      have HKK := Lib.hid hK; clear hK
      simp only [putAll, Act.put, List.setIfInBounds_toArray, List.set_cons_zero, List.set_cons_succ]
      go_simp
      exact HKK.out _ _ ⟨_, by simp only [putAll, Act.put, List.setIfInBounds_toArray, List.set_cons_zero, List.set_cons_succ] <;> rfl, h0, fun _ => rfl, h2, h3, h4, h5, h6, h9, RepM.other hM.out 1 _ (by decide) (by decide)⟩
    · obtain rfl := Option.some.inj hi
      have d0 := h0 (hall ⟨0, .data⟩ (by simp) rfl)
      have d1 := h1 (hall ⟨1, .data⟩ (by simp) rfl)
      refine wpOp_step rfl (fun K hK => ?_)
      have HKK := Lib.hid hK; clear hK
      simp only [putAll, Act.put, List.setIfInBounds_toArray, List.set_cons_zero, List.set_cons_succ, d0, d1]
      go_simp
      exact HKK.out _ _ ⟨_, by simp only [putAll, Act.put, List.setIfInBounds_toArray, List.set_cons_zero, List.set_cons_succ, d0, d1] <;> rfl, h0, h1, fun _ => rfl, h3, h4, h5, h6, h9, RepM.other hM.out 2 _ (by decide) (by decide)⟩
    · obtain rfl := Option.some.inj hi
      refine wpOp_step rfl (fun K hK => ?_)
      have HKK := Lib.hid hK; clear hK
      simp only [putAll, Act.put, List.setIfInBounds_toArray, List.set_cons_zero, List.set_cons_succ]
      go_simp
      exact HKK.out _ _ ⟨_, by simp only [putAll, Act.put, List.setIfInBounds_toArray, List.set_cons_zero, List.set_cons_succ] <;> rfl, h0, h1, h2, fun _ => rfl, h4, h5, h6, h9, RepM.other hM.out 3 _ (by decide) (by decide)⟩
    · obtain rfl := Option.some.inj hi
      refine wpOp_step rfl (fun K hK => ?_)
      have HKK := Lib.hid hK; clear hK
      simp only [putAll, Act.put, List.setIfInBounds_toArray, List.set_cons_zero, List.set_cons_succ]
      go_simp
      exact HKK.out _ _ ⟨_, by simp only [putAll, Act.put, List.setIfInBounds_toArray, List.set_cons_zero, List.set_cons_succ] <;> rfl, h0, h1, h2, h3, fun _ => rfl, h5, h6, h9, RepM.other hM.out 4 _ (by decide) (by decide)⟩
    · obtain rfl := Option.some.inj hi
      refine wpOp_step rfl (fun K hK => ?_)
      have HKK := Lib.hid hK; clear hK
      simp only [putAll, Act.put, List.setIfInBounds_toArray, List.set_cons_zero, List.set_cons_succ]
      go_simp
      exact HKK.out _ _ ⟨_, by simp only [putAll, Act.put, List.setIfInBounds_toArray, List.set_cons_zero, List.set_cons_succ] <;> rfl, h0, h1, h2, h3, h4, fun _ => rfl, h6, h9, RepM.other hM.out 5 _ (by decide) (by decide)⟩
    · obtain rfl := Option.some.inj hi
      have d4 := h4 (hall ⟨4, .data⟩ (by simp) rfl)
      have d5 := h5 (hall ⟨5, .data⟩ (by simp) rfl)
      refine wpOp_step rfl (fun K hK => ?_)
      have HKK := Lib.hid hK; clear hK
      simp only [putAll, Act.put, List.setIfInBounds_toArray, List.set_cons_zero, List.set_cons_succ, d4, d5]
      go_simp
      exact HKK.out _ _ ⟨_, by simp only [putAll, Act.put, List.setIfInBounds_toArray, List.set_cons_zero, List.set_cons_succ, d4, d5] <;> rfl, h0, h1, h2, h3, h4, h5, fun _ => rfl, h9, RepM.other hM.out 6 _ (by decide) (by decide)⟩
    · obtain rfl := Option.some.inj hi
      have d2 := h2 (hall ⟨2, .data⟩ (by simp) rfl)
      have d3 := h3 (hall ⟨3, .data⟩ (by simp) rfl)
      have d6 := h6 (hall ⟨6, .data⟩ (by simp) rfl)
      have n8 : b' 8 = false := (hM.out.1 hun).1
      refine wpOp_step rfl (fun K hK => ?_)
      have HKK := Lib.hid hK; clear hK
      simp only [putAll, Act.put, List.setIfInBounds_toArray, List.set_cons_zero, List.set_cons_succ, d2, d3, d6]
      go_simp
      exact HKK.out _ _ ⟨_, by simp only [putAll, Act.put, List.setIfInBounds_toArray, List.set_cons_zero, List.set_cons_succ, d2, d3, d6] <;> rfl, h0, h1, h2, h3, h4, h5, h6, fun h => absurd (h9 h).1 (by rw [n8]; simp), RepM.made hM.out hun _⟩
    · obtain rfl := Option.some.inj hi
      have b7 := hall ⟨7, .data⟩ (by simp) rfl
      have n9 : b' 9 = false := by
        cases hz : b' 9 with
        | false => rfl
        | true => exact absurd (h9 hz).1 (by rw [hun]; simp)
      have hH := Lib.hid (hM.out.2.1 b7 hun)
      obtain ⟨d, d7, hH2⟩ := hH.out
      have HH2 := Lib.hid hH2; clear hH2 hH
      refine wpOp_step rfl (fun K hK => ?_)
      have HKK := Lib.hid hK; clear hK
      simp only [putAll, Act.put, List.setIfInBounds_toArray, List.set_cons_zero, List.set_cons_succ, d7]
      go_simp
      have HCC := concat_c d _ _ _ l1 M l2 w' HH2.out.1 HH2.out.2.1 HH2.out.2.2.1 HH2.out.2.2.2.1 (HX.out.2.1.on HH2.out.2.2.2.2) (HX.out.2.2.1.on HH2.out.2.2.2.2) (HX.out.2.2.2.1.on HH2.out.2.2.2.2) HX.out.2.2.2.2
      rw [← HX.out.1] at HCC
      refine HCC.mono ?_
      rintro e w3 ⟨v3, rfl, ho, hb⟩
      exact HKK.out _ _ ⟨_, by simp only [putAll, Act.put, List.setIfInBounds_toArray, List.set_cons_zero, List.set_cons_succ, d7] <;> rfl, h0, h1, h2, h3, h4, h5, h6, fun h => absurd (show b' 9 = true from h) (by rw [n9]; simp), RepM.call hM.out b7 hun _ _ ho hb⟩
    · obtain rfl := Option.some.inj hi
      have b8 := hall ⟨8, .data⟩ (by simp) rfl
      refine wpOp_step rfl (fun K hK => ?_)
      have HKK := Lib.hid hK; clear hK
      simp only [putAll, Act.put, List.setIfInBounds_toArray, List.set_cons_zero, List.set_cons_succ]
      go_simp
      exact HKK.out _ _ ⟨_, by simp only [putAll, Act.put, List.setIfInBounds_toArray, List.set_cons_zero, List.set_cons_succ] <;> rfl, h0, h1, h2, h3, h4, h5, h6, fun _ => ⟨b8, rfl⟩, RepM.other hM.out 9 _ (by decide) (by decide)⟩
    · exact absurd hil (by omega)
  · rintro b' vs w' hb ⟨h0, h1, h2, h3, h4, h5, h6, h9, hM⟩
    have hX := hM.out.2.2 (hb 8 (by decide))
    have e9 := (h9 (hb 9 (by decide))).2
    simp only [putAll, Act.put, List.setIfInBounds_toArray, List.set_cons_zero, List.set_cons_succ, e9]
    clear h0 h1 h2 h3 h4 h5 h6 h9 hM hb
    have HXX := Lib.hid hX; clear hX
    generalize vs 8 = v8 at HXX ⊢
    go_wp2_with fail
    go_ret
    exact ⟨_, rfl, HXX.out.1, HXX.out.2⟩
theorem replaced_c (ao : Option Addr) (n c i j : Nat) (l : List Sg) (u : Value) (M : List Sg) (w : World) (row : RowS w (.slice ao n c) l) (hc : n ≤ c) (hij : i ≤ j) (hj : j ≤ n) (ru : RowS w u M) (hl : n + M.length ≤ 100000) :
    Calls Tryd.prog 42 #[.slice ao n c, .int .i64 (i : Int), .int .i64 (j : Int), u] w fun e w' => ∃ v, e = .returned v ∧ OwnS w' w.heap.size 48 v (l.take i ++ M ++ l.drop j) ∧ Below w.heap.size w w' := by
  obtain ⟨au, cu, rfl⟩ := ru.shape
  obtain ⟨a1, s1, r1⟩ := cut_to row hc (i := i) (by omega)
  obtain ⟨a2, c2, s2, r2⟩ := cut_from row hc hj
  have hn := row.len
  exact replaced_walk ao a1 a2 au n c i j c2 M.length cu (n - j) _ _ _ M w s1 s2 ⟨rfl, r1, ru, r2, by rw [List.length_take, List.length_drop]; omega⟩
end Go.Proofs.YtffgpikhahpomaaDoor
