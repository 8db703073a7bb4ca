/- Layer 5: the middle of two points; what the document says of it. -/
import Derived.Test.YtffgpikhahpomaaDoorE
import Derived.Deep.QuietTactic
namespace Go.Proofs.YtffgpikhahpomaaDoor
open Go.RowKit

def midI (p q : Pt) : Pt := ((p.1 + q.1) / 2, (p.2 + q.2) / 2)
theorem roomP_iff {p : Pt} : roomP p = true ↔ (-2147483648 ≤ p.1 ∧ p.1 ≤ 2147483648) ∧ -2147483648 ≤ p.2 ∧ p.2 ≤ 2147483648 := by simp [roomP, room_iff]
theorem midI_room {p q : Pt} (hp : roomP p = true) (hq : roomP q = true) : roomP (midI p q) = true := by
  rw [roomP_iff] at *
  unfold midI
  simp only
  omega

set_option maxHeartbeats 400000 in
theorem mid_walk (a b c d x y : Int) (w : World) (h1 : wrap64 (a + c) = x) (h2 : wrap64 (b + d) = y) :
    Calls Tryd.prog 58 #[.agg #[.int .i64 a, .int .i64 b], .agg #[.int .i64 c, .int .i64 d]] w fun e w' => e = .returned (.agg #[.int .i64 (x / 2), .int .i64 (y / 2)]) ∧ Below w.heap.size w w' := by
  go_enter Tryd.func58, Tryd.ntmps58
  go_wp2_with fail
  go_returns
  exact ⟨rfl, by go_grown⟩
theorem mid_c (a b c d : Int) (w : World) (hp : roomP (a, b) = true) (hq : roomP (c, d) = true) :
    Calls Tryd.prog 58 #[.agg #[.int .i64 a, .int .i64 b], .agg #[.int .i64 c, .int .i64 d]] w fun e w' => e = .returned (.agg (two (midI (a, b) (c, d)))) ∧ Below w.heap.size w w' := by
  rw [roomP_iff] at hp hq
  exact mid_walk a b c d _ _ w (wrapR _ (by simp only at *; omega) (by simp only at *; omega)) (wrapR _ (by simp only at *; omega) (by simp only at *; omega))
set_option maxHeartbeats 400000 in
theorem below2_c (a : Int) (w : World) (h0 : -4294967296 ≤ a) (h1 : a ≤ 4294967296) :
    Calls Tryd.prog 60 #[.int .i64 a, .int .i64 2] w fun e w' => e = .returned (.int .i64 (a / 2)) ∧ w' = w := by
  obtain ⟨q, hq⟩ : ∃ q, a.tdiv 2 = q := ⟨_, rfl⟩
  have hd : a.tdiv 2 = if 0 ≤ a then a / 2 else -((-a) / 2) := by
    by_cases h : 0 ≤ a
    · rw [if_pos h, Int.tdiv_eq_ediv_of_nonneg h]
    · rw [if_neg h]
      have := Int.neg_tdiv (a := -a) (b := 2)
      rw [Int.neg_neg] at this
      rw [this, Int.tdiv_eq_ediv_of_nonneg (by omega)]
  have e0 : wrap64 q = q := wrapR _ (by split at hd <;> omega) (by split at hd <;> omega)
  have e1 : wrap64 (q * 2) = q * 2 := wrapR _ (by split at hd <;> omega) (by split at hd <;> omega)
  have e2 : wrap64 (q - 1) = q - 1 := wrapR _ (by split at hd <;> omega) (by split at hd <;> omega)
  have Hk : Hid ((q * 2 ≤ a → q = a / 2) ∧ (a < q * 2 → q - 1 = a / 2)) := ⟨by split at hd <;> omega, by split at hd <;> omega⟩
  clear hd h0 h1
  go_enter Tryd.func60, Tryd.ntmps60
  go_wp2
  · have h : a < q * 2 := by assumption
    go_ret
    exact ⟨retI (e2.trans (Hk.out.2 h)), rfl⟩
  · have h : q * 2 ≤ a := by assumption
    go_ret
    exact ⟨retI (e0.trans (Hk.out.1 h)), rfl⟩
theorem results_two {T : TypeId} {fn : Func} {tmps : Array Value} {w : World} {g : Nat} {p : Pt} (t : Nat) (hT : T = 44 ∨ T = 45) (hres : fn.results = #[.cell t T]) (ht : tmps[t]? = some (.pointer (some ⟨g, 0, none⟩))) (h : Blk w g T (two p)) :
    (results fn tmps).run Tryd.prog w = .ok (.agg #[.int .i64 p.1, .int .i64 p.2]) w := by
  have h0 : w.cell? ⟨g, 0, none⟩ = some (.int .i64 p.1) := h.cell 0
  have h1 : w.cell? ⟨g, 1, none⟩ = some (.int .i64 p.2) := h.cell 1
  rcases hT with rfl | rfl <;> simp [results, hres, ht, go_sem, h0, h1]
set_option maxHeartbeats 2000000 in
set_option maxRecDepth 100000 in
theorem refMid_walk (a b c d x y : Int) (w : World) (W1 : Hid (IntKind.i64.wrap (a + c) = x)) (W2 : Hid (IntKind.i64.wrap (b + d) = y))
    (HX : Hid (∀ w, Calls Tryd.prog 60 #[.int .i64 x, .int .i64 2] w fun e w' => e = .returned (.int .i64 (x / 2)) ∧ Below w.heap.size w w'))
    (HY : Hid (∀ w, Calls Tryd.prog 60 #[.int .i64 y, .int .i64 2] w fun e w' => e = .returned (.int .i64 (y / 2)) ∧ Below w.heap.size w w')) :
    Calls Tryd.prog 45 #[.agg #[.int .i64 a, .int .i64 b], .agg #[.int .i64 c, .int .i64 d]] w fun e w' => e = .returned (.agg #[.int .i64 (x / 2), .int .i64 (y / 2)]) ∧ Below w.heap.size w w' := by
  have hB : (Below w.heap.size w (((w.alloc (.cells (two (a, b)) 45)).alloc (.cells (two (c, d)) 45)).alloc (.cells (two (0, 0)) 45)) ∧ w.heap.size ≤ (((w.alloc (.cells (two (a, b)) 45)).alloc (.cells (two (c, d)) 45)).alloc (.cells (two (0, 0)) 45)).heap.size) ∧ (∀ s ∈ [(⟨w.heap.size + 2, 45, two (0, 0), 13, two (x / 2, y / 2)⟩ : Stor)], Blk (((w.alloc (.cells (two (a, b)) 45)).alloc (.cells (two (c, d)) 45)).alloc (.cells (two (0, 0)) 45)) s.g s.t s.z) ∧ Lays (((w.alloc (.cells (two (a, b)) 45)).alloc (.cells (two (c, d)) 45)).alloc (.cells (two (0, 0)) 45)) [(w.heap.size + 1, 45, two (c, d)), (w.heap.size, 45, two (a, b))] := by
    have S := ((((Mem.refl w).add 45 (two (a, b))).addAt 45 (two (c, d)) (w.heap.size + 1) (by simp)).addAt 45 (two (0, 0)) (w.heap.size + 2) (by simp))
    exact ⟨⟨S.below, by simp; omega⟩, fun s hs => by simp at hs; subst hs; exact S.lays.1, S.lays.2⟩
  obtain ⟨n, hn⟩ : ∃ n, w.heap.size = n := ⟨_, rfl⟩
  rw [hn] at hB ⊢
  have HB := Lib.hid hB
  clear hB
  go_enter Tryd.func45, Tryd.ntmps45
  go_wp2_with fail
  refine wp_region_put (by kernel_rfl) (by kernel_rfl) (by kernel_rfl) (fun b' vs w' => (b' 0 = true → vs 0 = .pointer (some ⟨n, 0, none⟩)) ∧ (b' 1 = true → vs 1 = .int .i64 a) ∧ (b' 2 = true → vs 2 = .pointer (some ⟨n + 1, 0, none⟩)) ∧ (b' 3 = true → vs 3 = .int .i64 c) ∧ (b' 4 = true → vs 4 = .int .i64 x) ∧ (b' 5 = true → vs 5 = .int .i64 (x / 2)) ∧ (b' 6 = true → vs 6 = .pointer (some ⟨n, 1, none⟩)) ∧ (b' 7 = true → vs 7 = .int .i64 b) ∧ (b' 8 = true → vs 8 = .pointer (some ⟨n + 1, 1, none⟩)) ∧ (b' 9 = true → vs 9 = .int .i64 d) ∧ (b' 10 = true → vs 10 = .int .i64 y) ∧ (b' 11 = true → vs 11 = .int .i64 (y / 2)) ∧ (b' 12 = true → vs 12 = .agg #[.int .i64 (x / 2), .int .i64 (y / 2)]) ∧ Hid (RegM n w [] [⟨n + 2, 45, two (0, 0), 13, two (x / 2, y / 2)⟩] [(n + 1, 45, two (c, d)), (n, 45, two (a, b))] b' vs w')) ?_ ?_ ?_
  · intro vs
    exact ⟨fun h => Bool.noConfusion h, fun h => Bool.noConfusion h, fun h => Bool.noConfusion h, fun h => Bool.noConfusion h, fun h => Bool.noConfusion h, fun h => Bool.noConfusion h, fun h => Bool.noConfusion h, fun h => Bool.noConfusion h, fun h => Bool.noConfusion h, fun h => Bool.noConfusion h, fun h => Bool.noConfusion h, fun h => Bool.noConfusion h, fun h => Bool.noConfusion h, RegM.start (HB.out) vs⟩
  · rintro b' vs w' i op hi hun hall ⟨h0, h1, h2, h3, h4, h5, h6, h7, h8, h9, h10, h11, h12, hM⟩
    have hil : i < 14 := (List.getElem?_eq_some_iff.1 hi).1
    rcases i with _ | _ | _ | _ | _ | _ | _ | _ | _ | _ | _ | _ | _ | _ | i
    · obtain rfl := Option.some.inj hi
      refine wpOp_step rfl (fun K hK => ?_)
      have HKK := Lib.hid hK; clear hK
      simp only [putAll, Act.put, List.setIfInBounds_toArray, List.set_cons_zero, List.set_cons_succ]
      go_simp
      exact HKK.out _ _ ⟨_, by simp only [putAll, Act.put, List.setIfInBounds_toArray, List.set_cons_zero, List.set_cons_succ] <;> rfl, fun _ => rfl, h1, h2, h3, h4, h5, h6, h7, h8, h9, h10, h11, h12, RegM.other hM.out 0 _ rfl⟩
    · obtain rfl := Option.some.inj hi
      have d0 := h0 (hall ⟨0, .data⟩ (by simp) rfl)
      have c0 : w'.cell? _ = _ := (RegM.lays hM.out).2.1.p0
      refine wpOp_step rfl (fun K hK => ?_)
      have HKK := Lib.hid hK; clear hK
      simp only [putAll, Act.put, List.setIfInBounds_toArray, List.set_cons_zero, List.set_cons_succ]
      go_simp
      exact HKK.out _ _ ⟨_, by simp only [putAll, Act.put, List.setIfInBounds_toArray, List.set_cons_zero, List.set_cons_succ, d0] <;> rfl, h0, fun _ => rfl, h2, h3, h4, h5, h6, h7, h8, h9, h10, h11, h12, RegM.other hM.out 1 _ rfl⟩
    · obtain rfl := Option.some.inj hi
      refine wpOp_step rfl (fun K hK => ?_)
      have HKK := Lib.hid hK; clear hK
      simp only [putAll, Act.put, List.setIfInBounds_toArray, List.set_cons_zero, List.set_cons_succ]
      go_simp
      exact HKK.out _ _ ⟨_, by simp only [putAll, Act.put, List.setIfInBounds_toArray, List.set_cons_zero, List.set_cons_succ] <;> rfl, h0, h1, fun _ => rfl, h3, h4, h5, h6, h7, h8, h9, h10, h11, h12, RegM.other hM.out 2 _ rfl⟩
    · obtain rfl := Option.some.inj hi
      have d2 := h2 (hall ⟨2, .data⟩ (by simp) rfl)
      have c0 : w'.cell? _ = _ := (RegM.lays hM.out).1.p0
      refine wpOp_step rfl (fun K hK => ?_)
      have HKK := Lib.hid hK; clear hK
      simp only [putAll, Act.put, List.setIfInBounds_toArray, List.set_cons_zero, List.set_cons_succ]
      go_simp
      exact HKK.out _ _ ⟨_, by simp only [putAll, Act.put, List.setIfInBounds_toArray, List.set_cons_zero, List.set_cons_succ, d2] <;> rfl, h0, h1, h2, fun _ => rfl, h4, h5, h6, h7, h8, h9, h10, h11, h12, RegM.other hM.out 3 _ rfl⟩
    · obtain rfl := Option.some.inj hi
      have d1 := h1 (hall ⟨1, .data⟩ (by simp) rfl)
      have d3 := h3 (hall ⟨3, .data⟩ (by simp) rfl)
      refine wpOp_step rfl (fun K hK => ?_)
      have HKK := Lib.hid hK; clear hK
      simp only [putAll, Act.put, List.setIfInBounds_toArray, List.set_cons_zero, List.set_cons_succ]
      go_simp
      exact HKK.out _ _ ⟨_, by simp only [putAll, Act.put, List.setIfInBounds_toArray, List.set_cons_zero, List.set_cons_succ, d1, d3, W1.out] <;> rfl, h0, h1, h2, h3, fun _ => rfl, h5, h6, h7, h8, h9, h10, h11, h12, RegM.other hM.out 4 _ rfl⟩
    · obtain rfl := Option.some.inj hi
      have d4 := h4 (hall ⟨4, .data⟩ (by simp) rfl)
      refine wpOp_step rfl (fun K hK => ?_)
      have HKK := Lib.hid hK; clear hK
      simp only [putAll, Act.put, List.setIfInBounds_toArray, List.set_cons_zero, List.set_cons_succ]
      go_simp
      refine (HX.out _).mono ?_
      rintro e w2 ⟨rfl, hb2⟩
      exact HKK.out _ _ ⟨_, by simp only [putAll, Act.put, List.setIfInBounds_toArray, List.set_cons_zero, List.set_cons_succ, d4] <;> rfl, h0, h1, h2, h3, h4, fun _ => rfl, h6, h7, h8, h9, h10, h11, h12, (RegM.other hM.out 5 _ rfl).grow hb2⟩
    · obtain rfl := Option.some.inj hi
      refine wpOp_step rfl (fun K hK => ?_)
      have HKK := Lib.hid hK; clear hK
      simp only [putAll, Act.put, List.setIfInBounds_toArray, List.set_cons_zero, List.set_cons_succ]
      go_simp
      exact HKK.out _ _ ⟨_, by simp only [putAll, Act.put, List.setIfInBounds_toArray, List.set_cons_zero, List.set_cons_succ] <;> rfl, h0, h1, h2, h3, h4, h5, fun _ => rfl, h7, h8, h9, h10, h11, h12, RegM.other hM.out 6 _ rfl⟩
    · obtain rfl := Option.some.inj hi
      have d6 := h6 (hall ⟨6, .data⟩ (by simp) rfl)
      have c0 : w'.cell? _ = _ := (RegM.lays hM.out).2.1.p1
      refine wpOp_step rfl (fun K hK => ?_)
      have HKK := Lib.hid hK; clear hK
      simp only [putAll, Act.put, List.setIfInBounds_toArray, List.set_cons_zero, List.set_cons_succ]
      go_simp
      exact HKK.out _ _ ⟨_, by simp only [putAll, Act.put, List.setIfInBounds_toArray, List.set_cons_zero, List.set_cons_succ, d6] <;> rfl, h0, h1, h2, h3, h4, h5, h6, fun _ => rfl, h8, h9, h10, h11, h12, RegM.other hM.out 7 _ rfl⟩
    · obtain rfl := Option.some.inj hi
      refine wpOp_step rfl (fun K hK => ?_)
      have HKK := Lib.hid hK; clear hK
      simp only [putAll, Act.put, List.setIfInBounds_toArray, List.set_cons_zero, List.set_cons_succ]
      go_simp
      exact HKK.out _ _ ⟨_, by simp only [putAll, Act.put, List.setIfInBounds_toArray, List.set_cons_zero, List.set_cons_succ] <;> rfl, h0, h1, h2, h3, h4, h5, h6, h7, fun _ => rfl, h9, h10, h11, h12, RegM.other hM.out 8 _ rfl⟩
    · obtain rfl := Option.some.inj hi
      have d8 := h8 (hall ⟨8, .data⟩ (by simp) rfl)
      have c0 : w'.cell? _ = _ := (RegM.lays hM.out).1.p1
      refine wpOp_step rfl (fun K hK => ?_)
      have HKK := Lib.hid hK; clear hK
      simp only [putAll, Act.put, List.setIfInBounds_toArray, List.set_cons_zero, List.set_cons_succ]
      go_simp
      exact HKK.out _ _ ⟨_, by simp only [putAll, Act.put, List.setIfInBounds_toArray, List.set_cons_zero, List.set_cons_succ, d8] <;> rfl, h0, h1, h2, h3, h4, h5, h6, h7, h8, fun _ => rfl, h10, h11, h12, RegM.other hM.out 9 _ rfl⟩
    · obtain rfl := Option.some.inj hi
      have d7 := h7 (hall ⟨7, .data⟩ (by simp) rfl)
      have d9 := h9 (hall ⟨9, .data⟩ (by simp) rfl)
      refine wpOp_step rfl (fun K hK => ?_)
      have HKK := Lib.hid hK; clear hK
      simp only [putAll, Act.put, List.setIfInBounds_toArray, List.set_cons_zero, List.set_cons_succ]
      go_simp
      exact HKK.out _ _ ⟨_, by simp only [putAll, Act.put, List.setIfInBounds_toArray, List.set_cons_zero, List.set_cons_succ, d7, d9, W2.out] <;> rfl, h0, h1, h2, h3, h4, h5, h6, h7, h8, h9, fun _ => rfl, h11, h12, RegM.other hM.out 10 _ rfl⟩
    · obtain rfl := Option.some.inj hi
      have d10 := h10 (hall ⟨10, .data⟩ (by simp) rfl)
      refine wpOp_step rfl (fun K hK => ?_)
      have HKK := Lib.hid hK; clear hK
      simp only [putAll, Act.put, List.setIfInBounds_toArray, List.set_cons_zero, List.set_cons_succ]
      go_simp
      refine (HY.out _).mono ?_
      rintro e w2 ⟨rfl, hb2⟩
      exact HKK.out _ _ ⟨_, by simp only [putAll, Act.put, List.setIfInBounds_toArray, List.set_cons_zero, List.set_cons_succ, d10] <;> rfl, h0, h1, h2, h3, h4, h5, h6, h7, h8, h9, h10, fun _ => rfl, h12, (RegM.other hM.out 11 _ rfl).grow hb2⟩
    · obtain rfl := Option.some.inj hi
      have d5 := h5 (hall ⟨5, .data⟩ (by simp) rfl)
      have d11 := h11 (hall ⟨11, .data⟩ (by simp) rfl)
      refine wpOp_step rfl (fun K hK => ?_)
      have HKK := Lib.hid hK; clear hK
      simp only [putAll, Act.put, List.setIfInBounds_toArray, List.set_cons_zero, List.set_cons_succ]
      go_simp
      exact HKK.out _ _ ⟨_, by simp only [putAll, Act.put, List.setIfInBounds_toArray, List.set_cons_zero, List.set_cons_succ, d5, d11] <;> rfl, h0, h1, h2, h3, h4, h5, h6, h7, h8, h9, h10, h11, fun _ => rfl, RegM.other hM.out 12 _ rfl⟩
    · obtain rfl := Option.some.inj hi
      have d12 := h12 (hall ⟨12, .data⟩ (by simp) rfl)
      have kg := RegM.at hM.out ⟨n + 2, 45, two (0, 0), 13, two (x / 2, y / 2)⟩ (by simp) hun
      have z0 := kg.p0; have z1 := kg.p1; have f0 := kg.free 0; have f1 := kg.free 1
      simp only at z0 z1 f0 f1
      refine wpOp_step rfl (fun K hK => ?_)
      have HKK := Lib.hid hK; clear hK
      simp only [putAll, Act.put, List.setIfInBounds_toArray, List.set_cons_zero, List.set_cons_succ]
      go_simp
      exact HKK.out _ _ ⟨_, by simp only [putAll, Act.put, List.setIfInBounds_toArray, List.set_cons_zero, List.set_cons_succ, d12] <;> rfl, h0, h1, h2, h3, h4, h5, h6, h7, h8, h9, h10, h11, h12, RegM.stored hM.out undef (below_two (g := n + 2) (RegM.below hM.out) (by omega) _ _) (by simp) (kg.setP _ _) ⟨(RegM.lays hM.out).1.otherP (g' := n + 2) (by dsimp only; omega) _ _, (RegM.lays hM.out).2.1.otherP (g' := n + 2) (by dsimp only; omega) _ _, trivial⟩⟩
    · omega
  · rintro b' vs w2 hall ⟨h0, h1, h2, h3, h4, h5, h6, h7, h8, h9, h10, h11, h12, hM⟩
    have d0 := h0 (hall 0 (by simp))
    have d1 := h1 (hall 1 (by simp))
    have d2 := h2 (hall 2 (by simp))
    have d3 := h3 (hall 3 (by simp))
    have d4 := h4 (hall 4 (by simp))
    have d5 := h5 (hall 5 (by simp))
    have d6 := h6 (hall 6 (by simp))
    have d7 := h7 (hall 7 (by simp))
    have d8 := h8 (hall 8 (by simp))
    have d9 := h9 (hall 9 (by simp))
    have d10 := h10 (hall 10 (by simp))
    have d11 := h11 (hall 11 (by simp))
    have d12 := h12 (hall 12 (by simp))
    have k0 := Lib.hid (RegM.done hM.out ⟨n + 2, 45, two (0, 0), 13, two (x / 2, y / 2)⟩ (by simp) (hall _ (by simp)))
    have LS := Lib.hid (RegM.lays hM.out)
    have BB := Lib.hid (RegM.below hM.out)
    have BN := hM.out.1.2
    simp only [putAll, Act.put, List.setIfInBounds_toArray, List.set_cons_zero, List.set_cons_succ, d0, d1, d2, d3, d4, d5, d6, d7, d8, d9, d10, d11, d12]
    clear h0 d0 h1 d1 h2 d2 h3 d3 h4 d4 h5 d5 h6 d6 h7 d7 h8 d8 h9 d9 h10 d10 h11 d11 h12 d12
    go_wp2_with fail
    exact bodyPost_ret (results_two 4 (.inr rfl) rfl rfl k0.out) rfl ⟨rfl, BB.out⟩
theorem refMid_c (a b c d : Int) (w : World) (hp : roomP (a, b) = true) (hq : roomP (c, d) = true) :
    Calls Tryd.prog 45 #[.agg #[.int .i64 a, .int .i64 b], .agg #[.int .i64 c, .int .i64 d]] w fun e w' => e = .returned (.agg (two (midI (a, b) (c, d)))) ∧ Below w.heap.size w w' := by
  rw [roomP_iff] at hp hq
  refine refMid_walk a b c d (a + c) (b + d) w (Lib.hid (by rw [wrap_is]; exact wrapR _ (by simp only at *; omega) (by simp only at *; omega))) (Lib.hid (by rw [wrap_is]; exact wrapR _ (by simp only at *; omega) (by simp only at *; omega))) (Lib.hid fun w => ?_) (Lib.hid fun w => ?_)
  · exact (below2_c _ w (by simp only at *; omega) (by simp only at *; omega)).mono fun e w' ⟨he, hw⟩ => ⟨he, hw ▸ Below.refl _ _⟩
  · exact (below2_c _ w (by simp only at *; omega) (by simp only at *; omega)).mono fun e w' ⟨he, hw⟩ => ⟨he, hw ▸ Below.refl _ _⟩
end Go.Proofs.YtffgpikhahpomaaDoor

