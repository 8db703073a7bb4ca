/- Layer 7: the document's Steps, mix, Bar, First, Last. -/
import Derived.Test.YtdidbejinfkhbaaDoorSf
namespace Go.Proofs.YtdidbejinfkhbaaDoor
open Go.RowKit
theorem results_steps {fn : Func} {tmps : Array Value} {w : World} {g k : Nat} {p q : Pt} (t s : Nat) (hres : fn.results = #[.cell t 32, .cell s 32]) (ht : tmps[t]? = some (.pointer (some ⟨g, 0, none⟩))) (hs : tmps[s]? = some (.pointer (some ⟨k, 0, none⟩))) (h : Blk w g 32 (two p)) (h2 : Blk w k 32 (two q)) :
    (results fn tmps).run Tryd.prog w = .ok (.tuple #[.agg #[.int .i64 p.1, .int .i64 p.2], .agg #[.int .i64 q.1, .int .i64 q.2]]) w := by
  have h0 : w.cell? ⟨g, 0, none⟩ = some (.int .i64 p.1) := h.cell 0
  have h1 : w.cell? ⟨g, 1, none⟩ = some (.int .i64 p.2) := h.cell 1
  have h3 : w.cell? ⟨k, 0, none⟩ = some (.int .i64 q.1) := h2.cell 0
  have h4 : w.cell? ⟨k, 1, none⟩ = some (.int .i64 q.2) := h2.cell 1
  simp [results, hres, ht, hs, go_sem, h0, h1, h3, h4]
set_option maxHeartbeats 2000000 in
set_option maxRecDepth 100000 in
theorem steps_walk (ax ay bx bY x y h L s1 s2 a2 xx yy ss xh yh z : Int) (w : World) (e1 : IntKind.i64.wrap (bx - ax) = x) (e2 : IntKind.i64.wrap (bY - ay) = y) (e3 : wrap64 (x * x) = xx) (e4 : wrap64 (y * y) = yy) (e5 : wrap64 (xx + yy) = ss)
    (E6 : Hid (wrap64 (wrap64 (-y) * h) = z ∧ wrap64 (x * h) = xh)) (e7 : IntKind.i64.wrap (x * h) = xh) (e8 : IntKind.i64.wrap (y * h) = yh)
    (HS : Hid (∀ w, Calls Tryd.prog 81 #[.int .i64 ss] w fun e w' => e = .returned (.int .i64 L) ∧ w = w'))
    (HQ1 : Hid (∀ w, Calls Tryd.prog 33 #[.int .i64 z, .int .i64 L] w fun e w' => e = .returned (.int .i64 s1) ∧ w = w'))
    (HQ2 : Hid (∀ w, Calls Tryd.prog 33 #[.int .i64 xh, .int .i64 L] w fun e w' => e = .returned (.int .i64 s2) ∧ w = w'))
    (HQ3 : Hid (∀ w, Calls Tryd.prog 33 #[.int .i64 yh, .int .i64 L] w fun e w' => e = .returned (.int .i64 a2) ∧ w = w')) :
    Calls Tryd.prog 67 #[.agg #[.int .i64 ax, .int .i64 ay], .agg #[.int .i64 bx, .int .i64 bY], .int .i64 h] w fun e w' => e = .returned (.tuple #[.agg #[.int .i64 s1, .int .i64 s2], .agg #[.int .i64 s2, .int .i64 a2]]) ∧ Below w.heap.size w w' := by
  go_enter Tryd.func67, Tryd.ntmps67
  go_wp2_with fail
  go_quiet (fail)
  clear e1 e2
  go_wp2_with fail
  rw [e3, e4, e5]
  refine (HS.out _).mono ?_
  rintro e w1 ⟨rfl, rfl⟩
  go_wp2_with fail
  rw [E6.out.1]
  refine (HQ1.out _).mono ?_
  rintro e w1 ⟨rfl, rfl⟩
  go_wp2_with fail
  refine (HQ2.out _).mono ?_
  rintro e w1 ⟨rfl, rfl⟩
  go_wp2_with fail
  obtain ⟨w5, hw5⟩ : ∃ W, ((((((w.alloc (.cells #[.int .i64 ax, .int .i64 ay] 32)).alloc (.cells #[.int .i64 bx, .int .i64 bY] 32)).alloc (.cells #[.int .i64 0, .int .i64 0] 32)).alloc (.cells #[.int .i64 0, .int .i64 0] 32)).drewN nq).alloc (.cells #[.int .i64 s1, .int .i64 s2] 32)) = W := ⟨_, rfl⟩
  have S5 : Hid (Below w.heap.size w w5 ∧ Blk w5 (w.heap.size + 1 + 1) 32 (two (0, 0)) ∧ Blk w5 (w.heap.size + 1 + 1 + 1) 32 (two (0, 0)) ∧ Blk w5 (w.heap.size + 1 + 1 + 1 + 1) 32 (two (s1, s2))) := by
    rw [← hw5]
    have hd : ∀ W : World, Below W.heap.size W (W.drewN nq) := fun W => ⟨rfl, rfl, rfl, Nat.le_refl _, fun _ _ => rfl⟩
    exact ⟨(below_drewN (((((Below.refl _ _).alloc (Nat.le_refl _) _).alloc (by simp) _).alloc (by simp; omega) _).alloc (by simp; omega) _) nq).alloc (by simp; omega) _,
      ((((Blk.newAt _ 32 (two (0, 0)) (by simp)).alloc _).grow (hd _)).alloc _), ((Blk.newAt _ 32 (two (0, 0)) (by simp)).grow (hd _)).alloc _, Blk.newAt _ 32 (two (s1, s2)) (by simp)⟩
  rw [hw5]
  clear hw5
  clear e3 e4 e5 E6
  refine wp_region_put (by kernel_rfl) (by kernel_rfl) (by kernel_rfl) (fun b' vs w' => (b' 0 = true → vs 0 = .agg #[.int .i64 s1, .int .i64 s2]) ∧ (b' 1 = true → vs 1 = .int .i64 x) ∧ (b' 2 = true → vs 2 = .int .i64 h) ∧ (b' 3 = true → vs 3 = .int .i64 xh) ∧ (b' 4 = true → vs 4 = .int .i64 L) ∧ (b' 5 = true → vs 5 = .int .i64 s2) ∧ (b' 6 = true → vs 6 = .int .i64 y) ∧ (b' 7 = true → vs 7 = .int .i64 h) ∧ (b' 8 = true → vs 8 = .int .i64 yh) ∧ (b' 9 = true → vs 9 = .int .i64 L) ∧ (b' 10 = true → vs 10 = .int .i64 a2) ∧ (b' 11 = true → vs 11 = .agg #[.int .i64 s2, .int .i64 a2]) ∧ (Hid (Below w.heap.size w w' ∧ w.heap.size ≤ w'.heap.size)) ∧ (Hid (Blk w' (w.heap.size + 1 + 1) 32 (if b' 12 = true then two (s1, s2) else two (0, 0)) ∧ Blk w' (w.heap.size + 1 + 1 + 1) 32 (if b' 13 = true then two (s2, a2) else two (0, 0)) ∧ Blk w' (w.heap.size + 1 + 1 + 1 + 1) 32 (two (s1, s2))))) ?_ ?_ ?_
  · intro vs
    exact ⟨fun h => Bool.noConfusion h, fun h => Bool.noConfusion h, fun h => Bool.noConfusion h, fun h => Bool.noConfusion h, fun h => Bool.noConfusion h, fun h => Bool.noConfusion h, fun h => Bool.noConfusion h, fun h => Bool.noConfusion h, fun h => Bool.noConfusion h, fun h => Bool.noConfusion h, fun h => Bool.noConfusion h, fun h => Bool.noConfusion h, Lib.hid ⟨below_drewN S5.out.1 1, by have := S5.out.1.size; exact this⟩, Lib.hid ⟨S5.out.2.1.grow ⟨rfl, rfl, rfl, Nat.le_refl _, fun _ _ => rfl⟩, S5.out.2.2.1.grow ⟨rfl, rfl, rfl, Nat.le_refl _, fun _ _ => rfl⟩, S5.out.2.2.2.grow ⟨rfl, rfl, rfl, Nat.le_refl _, fun _ _ => rfl⟩⟩⟩
  · rintro b' vs w' i op hi hun hall ⟨h0, h1, h2, h3, h4, h5, h6, h7, h8, h9, h10, h11, hB, hF⟩
    have hil : i < 14 := (List.getElem?_eq_some_iff.1 hi).1
    rcases i with _ | _ | _ | _ | _ | _ | _ | _ | _ | _ | _ | _ | _ | _ | i
    · obtain rfl := Option.some.inj hi
      clear hi hil
      have k := hF.out.2.2
      have x0 := k.p0
      have x1 := k.p1
      clear k
      refine wpOp_step rfl (fun K hK => ?_)
      have HKK := Lib.hid hK; clear hK
      simp only [putAll, Act.put, List.setIfInBounds_toArray, List.set_cons_zero, List.set_cons_succ]
      go_simp
      exact HKK.out _ _ ⟨_, by simp only [putAll, Act.put, List.setIfInBounds_toArray, List.set_cons_zero, List.set_cons_succ] <;> rfl, fun _ => rfl, h1, h2, h3, h4, h5, h6, h7, h8, h9, h10, h11, hB, hF⟩
    · obtain rfl := Option.some.inj hi
      clear hi hil
      refine wpOp_step rfl (fun K hK => ?_)
      have HKK := Lib.hid hK; clear hK
      simp only [putAll, Act.put, List.setIfInBounds_toArray, List.set_cons_zero, List.set_cons_succ]
      go_simp
      exact HKK.out _ _ ⟨_, by simp only [putAll, Act.put, List.setIfInBounds_toArray, List.set_cons_zero, List.set_cons_succ] <;> rfl, h0, fun _ => rfl, h2, h3, h4, h5, h6, h7, h8, h9, h10, h11, hB, hF⟩
    · obtain rfl := Option.some.inj hi
      clear hi hil
      refine wpOp_step rfl (fun K hK => ?_)
      have HKK := Lib.hid hK; clear hK
      simp only [putAll, Act.put, List.setIfInBounds_toArray, List.set_cons_zero, List.set_cons_succ]
      go_simp
      exact HKK.out _ _ ⟨_, by simp only [putAll, Act.put, List.setIfInBounds_toArray, List.set_cons_zero, List.set_cons_succ] <;> rfl, h0, h1, fun _ => rfl, h3, h4, h5, h6, h7, h8, h9, h10, h11, hB, hF⟩
    · obtain rfl := Option.some.inj hi
      clear hi hil
      have d1 := h1 (hall ⟨1, .data⟩ (by simp) rfl)
      have d2 := h2 (hall ⟨2, .data⟩ (by simp) rfl)
      refine wpOp_step rfl (fun K hK => ?_)
      have HKK := Lib.hid hK; clear hK
      simp only [putAll, Act.put, List.setIfInBounds_toArray, List.set_cons_zero, List.set_cons_succ]
      go_simp
      exact HKK.out _ _ ⟨_, by simp only [putAll, Act.put, List.setIfInBounds_toArray, List.set_cons_zero, List.set_cons_succ, d1, d2] <;> rfl, h0, h1, h2, fun _ => rfl, h4, h5, h6, h7, h8, h9, h10, h11, hB, hF⟩
    · obtain rfl := Option.some.inj hi
      clear hi hil
      refine wpOp_step rfl (fun K hK => ?_)
      have HKK := Lib.hid hK; clear hK
      simp only [putAll, Act.put, List.setIfInBounds_toArray, List.set_cons_zero, List.set_cons_succ]
      go_simp
      exact HKK.out _ _ ⟨_, by simp only [putAll, Act.put, List.setIfInBounds_toArray, List.set_cons_zero, List.set_cons_succ] <;> rfl, h0, h1, h2, h3, fun _ => rfl, h5, h6, h7, h8, h9, h10, h11, hB, hF⟩
    · obtain rfl := Option.some.inj hi
      clear hi hil
      have d3 := h3 (hall ⟨3, .data⟩ (by simp) rfl)
      have d4 := h4 (hall ⟨4, .data⟩ (by simp) rfl)
      refine wpOp_step rfl (fun K hK => ?_)
      have HKK := Lib.hid hK; clear hK
      simp only [putAll, Act.put, List.setIfInBounds_toArray, List.set_cons_zero, List.set_cons_succ]
      go_simp
      refine (HQ2.out w').mono ?_
      rintro e w2 ⟨rfl, rfl⟩
      exact HKK.out _ _ ⟨_, by simp only [putAll, Act.put, List.setIfInBounds_toArray, List.set_cons_zero, List.set_cons_succ, d3, d4] <;> rfl, h0, h1, h2, h3, h4, fun _ => rfl, h6, h7, h8, h9, h10, h11, hB, hF⟩
    · obtain rfl := Option.some.inj hi
      clear hi hil
      refine wpOp_step rfl (fun K hK => ?_)
      have HKK := Lib.hid hK; clear hK
      simp only [putAll, Act.put, List.setIfInBounds_toArray, List.set_cons_zero, List.set_cons_succ]
      go_simp
      exact HKK.out _ _ ⟨_, by simp only [putAll, Act.put, List.setIfInBounds_toArray, List.set_cons_zero, List.set_cons_succ] <;> rfl, h0, h1, h2, h3, h4, h5, fun _ => rfl, h7, h8, h9, h10, h11, hB, hF⟩
    · obtain rfl := Option.some.inj hi
      clear hi hil
      refine wpOp_step rfl (fun K hK => ?_)
      have HKK := Lib.hid hK; clear hK
      simp only [putAll, Act.put, List.setIfInBounds_toArray, List.set_cons_zero, List.set_cons_succ]
      go_simp
      exact HKK.out _ _ ⟨_, by simp only [putAll, Act.put, List.setIfInBounds_toArray, List.set_cons_zero, List.set_cons_succ] <;> rfl, h0, h1, h2, h3, h4, h5, h6, fun _ => rfl, h8, h9, h10, h11, hB, hF⟩
    · obtain rfl := Option.some.inj hi
      clear hi hil
      have d6 := h6 (hall ⟨6, .data⟩ (by simp) rfl)
      have d7 := h7 (hall ⟨7, .data⟩ (by simp) rfl)
      refine wpOp_step rfl (fun K hK => ?_)
      have HKK := Lib.hid hK; clear hK
      simp only [putAll, Act.put, List.setIfInBounds_toArray, List.set_cons_zero, List.set_cons_succ]
      go_simp
      exact HKK.out _ _ ⟨_, by simp only [putAll, Act.put, List.setIfInBounds_toArray, List.set_cons_zero, List.set_cons_succ, d6, d7] <;> rfl, h0, h1, h2, h3, h4, h5, h6, h7, fun _ => rfl, h9, h10, h11, hB, hF⟩
    · obtain rfl := Option.some.inj hi
      clear hi hil
      refine wpOp_step rfl (fun K hK => ?_)
      have HKK := Lib.hid hK; clear hK
      simp only [putAll, Act.put, List.setIfInBounds_toArray, List.set_cons_zero, List.set_cons_succ]
      go_simp
      exact HKK.out _ _ ⟨_, by simp only [putAll, Act.put, List.setIfInBounds_toArray, List.set_cons_zero, List.set_cons_succ] <;> rfl, h0, h1, h2, h3, h4, h5, h6, h7, h8, fun _ => rfl, h10, h11, hB, hF⟩
    · obtain rfl := Option.some.inj hi
      clear hi hil
      have d8 := h8 (hall ⟨8, .data⟩ (by simp) rfl)
      have d9 := h9 (hall ⟨9, .data⟩ (by simp) rfl)
      refine wpOp_step rfl (fun K hK => ?_)
      have HKK := Lib.hid hK; clear hK
      simp only [putAll, Act.put, List.setIfInBounds_toArray, List.set_cons_zero, List.set_cons_succ]
      go_simp
      refine (HQ3.out w').mono ?_
      rintro e w2 ⟨rfl, rfl⟩
      exact HKK.out _ _ ⟨_, by simp only [putAll, Act.put, List.setIfInBounds_toArray, List.set_cons_zero, List.set_cons_succ, d8, d9] <;> rfl, h0, h1, h2, h3, h4, h5, h6, h7, h8, h9, fun _ => rfl, h11, hB, hF⟩
    · obtain rfl := Option.some.inj hi
      clear hi hil
      have d5 := h5 (hall ⟨5, .data⟩ (by simp) rfl)
      have d10 := h10 (hall ⟨10, .data⟩ (by simp) rfl)
      refine wpOp_step rfl (fun K hK => ?_)
      have HKK := Lib.hid hK; clear hK
      simp only [putAll, Act.put, List.setIfInBounds_toArray, List.set_cons_zero, List.set_cons_succ]
      go_simp
      exact HKK.out _ _ ⟨_, by simp only [putAll, Act.put, List.setIfInBounds_toArray, List.set_cons_zero, List.set_cons_succ, d5, d10] <;> rfl, h0, h1, h2, h3, h4, h5, h6, h7, h8, h9, h10, fun _ => rfl, hB, hF⟩
    · obtain rfl := Option.some.inj hi
      clear hi hil
      have d0 := h0 (hall ⟨0, .data⟩ (by simp) rfl)
      have kk : Blk w' (w.heap.size + 1 + 1) 32 (two (0, 0)) := by
        have := hF.out.1
        rw [hun] at this
        exact this
      have x0 := kk.p0
      have x1 := kk.p1
      have f0 := kk.free 0
      have f1 := kk.free 1
      have lg := kk.lt
      refine wpOp_step rfl (fun K hK => ?_)
      have HKK := Lib.hid hK; clear hK
      simp only [putAll, Act.put, List.setIfInBounds_toArray, List.set_cons_zero, List.set_cons_succ]
      go_simp
      exact HKK.out _ _ ⟨undef, by simp only [putAll, Act.put, List.setIfInBounds_toArray, List.set_cons_zero, List.set_cons_succ, d0] <;> rfl, h0, h1, h2, h3, h4, h5, h6, h7, h8, h9, h10, h11, Lib.hid ⟨below_two hB.out.1 (by omega) _ _, by have := hB.out.2; simpa [World.setCell] using this⟩, Lib.hid (⟨kk.setP _ _, hF.out.2.1.otherP (by omega) _ _, hF.out.2.2.otherP (by omega) _ _⟩)⟩
    · obtain rfl := Option.some.inj hi
      clear hi hil
      have d11 := h11 (hall ⟨11, .data⟩ (by simp) rfl)
      have kk : Blk w' (w.heap.size + 1 + 1 + 1) 32 (two (0, 0)) := by
        have := hF.out.2.1
        rw [hun] at this
        exact this
      have x0 := kk.p0
      have x1 := kk.p1
      have f0 := kk.free 0
      have f1 := kk.free 1
      have lg := kk.lt
      refine wpOp_step rfl (fun K hK => ?_)
      have HKK := Lib.hid hK; clear hK
      simp only [putAll, Act.put, List.setIfInBounds_toArray, List.set_cons_zero, List.set_cons_succ]
      go_simp
      exact HKK.out _ _ ⟨undef, by simp only [putAll, Act.put, List.setIfInBounds_toArray, List.set_cons_zero, List.set_cons_succ, d11] <;> rfl, h0, h1, h2, h3, h4, h5, h6, h7, h8, h9, h10, h11, Lib.hid ⟨below_two hB.out.1 (by omega) _ _, by have := hB.out.2; simpa [World.setCell] using this⟩, Lib.hid (⟨hF.out.1.otherP (by omega) _ _, kk.setP _ _, hF.out.2.2.otherP (by omega) _ _⟩)⟩
    · omega
  · rintro b' vs w2 hall ⟨h0, h1, h2, h3, h4, h5, h6, h7, h8, h9, h10, h11, hB, hF⟩
    have d0 := h0 (hall 0 (by simp))
    have d1 := h1 (hall 1 (by simp))
    have d2 := h2 (hall 2 (by simp))
    have d3 := h3 (hall 3 (by simp))
    have d4 := h4 (hall 4 (by simp))
    have d5 := h5 (hall 5 (by simp))
    have d6 := h6 (hall 6 (by simp))
    have d7 := h7 (hall 7 (by simp))
    have d8 := h8 (hall 8 (by simp))
    have d9 := h9 (hall 9 (by simp))
    have d10 := h10 (hall 10 (by simp))
    have d11 := h11 (hall 11 (by simp))
    have BB := hB
    have FF := hF
    have K6 : Hid (Blk w2 (w.heap.size + 1 + 1) 32 (two (s1, s2))) := by
      have := FF.out.1
      rw [hall 12 (by simp)] at this
      exact this
    have K7 : Hid (Blk w2 (w.heap.size + 1 + 1 + 1) 32 (two (s2, a2))) := by
      have := FF.out.2.1
      rw [hall 13 (by simp)] at this
      exact this
    clear FF
    simp only [putAll, Act.put, List.setIfInBounds_toArray, List.set_cons_zero, List.set_cons_succ, d0, d1, d2, d3, d4, d5, d6, d7, d8, d9, d10, d11]
    clear hall h0 d0 h1 d1 h2 d2 h3 d3 h4 d4 h5 d5 h6 d6 h7 d7 h8 d8 h9 d9 h10 d10 h11 d11 hB hF
    go_wp2_with fail
    exact bodyPost_ret (results_steps (p := (s1, s2)) (q := (s2, a2)) 6 7 rfl rfl rfl K6.out K7.out) rfl ⟨rfl, BB.out.1⟩
theorem steps_c (a b : Pt) (h : Int) (ha : roomP a = true) (hb : roomP b = true) (hl : lenOk (subP b a)) (h0 : subP b a ≠ (0, 0)) (hp : 1 ≤ h ∧ h ≤ 32768) (w : World) :
    Calls Tryd.prog 67 #[.agg #[.int .i64 a.1, .int .i64 a.2], .agg #[.int .i64 b.1, .int .i64 b.2], .int .i64 h] w fun e w' => e = .returned (.tuple #[.agg #[.int .i64 (stepS (subP b a) h).1, .int .i64 (stepS (subP b a) h).2], .agg #[.int .i64 (stepA (subP b a) h).1, .int .i64 (stepA (subP b a) h).2]]) ∧ Below w.heap.size w w' := by
  have ra := roomP_iff.1 ha
  have rb := roomP_iff.1 hb
  have hs := sqs_bound hl
  have hr := len_is hl
  have hlb := len_bounds hl
  have hl1 := len_pos hl h0
  have e1 : stepS (subP b a) h = (qI (-(subP b a).2 * h) (lenI (subP b a)), qI ((subP b a).1 * h) (lenI (subP b a))) := by
    unfold stepS stepA
    rw [turned_len]
  have e2 : stepA (subP b a) h = (qI ((subP b a).1 * h) (lenI (subP b a)), qI ((subP b a).2 * h) (lenI (subP b a))) := rfl
  rw [e1, e2]
  obtain ⟨q1, q2, q3, q4⟩ := hl
  have hx := mul_abs (subP b a).1 h 536870912 32768 ⟨q1, q2⟩ ⟨by omega, hp.2⟩
  have hy := mul_abs (subP b a).2 h 536870912 32768 ⟨q3, q4⟩ ⟨by omega, hp.2⟩
  have hny : -(subP b a).2 * h = -((subP b a).2 * h) := Int.neg_mul _ _
  have hxx := sq_bound q1 q2
  have hyy := sq_bound q3 q4
  have he : sqs (subP b a) = (subP b a).1 * (subP b a).1 + (subP b a).2 * (subP b a).2 := rfl
  rw [he] at hs hr
  have d1 : (subP b a).1 = b.1 - a.1 := rfl
  have d2 : (subP b a).2 = b.2 - a.2 := rfl
  have w1 : ∀ z : Int, -9223372036854775808 ≤ z → z ≤ 9223372036854775807 → IntKind.i64.wrap z = z := fun z p q => (wrap_is z).trans (wrapR z p q)
  have hneg : wrap64 (-(subP b a).2) = -(subP b a).2 := wrapR _ (by omega) (by omega)
  refine steps_walk a.1 a.2 b.1 b.2 (subP b a).1 (subP b a).2 h (lenI (subP b a)) _ _ _ ((subP b a).1 * (subP b a).1) ((subP b a).2 * (subP b a).2) ((subP b a).1 * (subP b a).1 + (subP b a).2 * (subP b a).2) ((subP b a).1 * h) ((subP b a).2 * h) (-(subP b a).2 * h) w
    (w1 _ (by omega) (by omega)) (w1 _ (by omega) (by omega)) (wrapR _ (by omega) (by omega)) (wrapR _ (by omega) (by omega)) (wrapR _ (by omega) (by omega)) ⟨?_, wrapR _ (by omega) (by omega)⟩ (w1 _ (by omega) (by omega)) (w1 _ (by omega) (by omega))
    (Lib.hid fun w => refRoot_c _ _ hr (by omega) w) (Lib.hid fun w => round7_c _ _ (by omega) (by omega) hl1 (by omega) w) (Lib.hid fun w => round7_c _ _ (by omega) (by omega) hl1 (by omega) w) (Lib.hid fun w => round7_c _ _ (by omega) (by omega) hl1 (by omega) w)
  rw [hneg]
  exact wrapR _ (by omega) (by omega)
def mixI (p : Pt) (a : Int) (n : Pt) (b : Int) (s : Pt) : Pt := (p.1 + a * n.1 + b * s.1, p.2 + a * n.2 + b * s.2)
theorem mix_walk (px py a nx ny b sx sy x1 x2 x3 x4 y1 y2 y3 y4 : Int) (w : World) (e1 : wrap64 (a * nx) = x1) (e2 : wrap64 (px + x1) = x2) (e3 : wrap64 (b * sx) = x3) (e4 : wrap64 (x2 + x3) = x4)
    (d1 : wrap64 (a * ny) = y1) (d2 : wrap64 (py + y1) = y2) (d3 : wrap64 (b * sy) = y3) (d4 : wrap64 (y2 + y3) = y4) :
    Calls Tryd.prog 68 #[.agg #[.int .i64 px, .int .i64 py], .int .i64 a, .agg #[.int .i64 nx, .int .i64 ny], .int .i64 b, .agg #[.int .i64 sx, .int .i64 sy]] w fun e w' => e = .returned (.agg #[.int .i64 x4, .int .i64 y4]) ∧ Below w.heap.size w w' := by
  go_enter Tryd.func68, Tryd.ntmps68
  go_wp2
  go_returns
  exact ⟨rfl, by go_grown⟩
theorem one_mul_abs {a x : Int} (ha : a = -1 ∨ a = 0 ∨ a = 1) {B : Int} (h0 : -B ≤ x) (h1 : x ≤ B) : -B ≤ a * x ∧ a * x ≤ B := by
  rcases ha with rfl | rfl | rfl <;> omega
theorem mix_c (p n s : Pt) (a b : Int) (hp : mid62 p) (hn : mid62 n) (hs : mid62 s) (ha : a = -1 ∨ a = 0 ∨ a = 1) (hb : b = -1 ∨ b = 0 ∨ b = 1) (w : World) :
    Calls Tryd.prog 68 #[.agg #[.int .i64 p.1, .int .i64 p.2], .int .i64 a, .agg #[.int .i64 n.1, .int .i64 n.2], .int .i64 b, .agg #[.int .i64 s.1, .int .i64 s.2]] w fun e w' => e = .returned (.agg #[.int .i64 (mixI p a n b s).1, .int .i64 (mixI p a n b s).2]) ∧ Below w.heap.size w w' := by
  unfold mid62 at hp hn hs
  have h1 := one_mul_abs ha hn.1 hn.2.1
  have h2 := one_mul_abs ha hn.2.2.1 hn.2.2.2
  have h3 := one_mul_abs hb hs.1 hs.2.1
  have h4 := one_mul_abs hb hs.2.2.1 hs.2.2.2
  exact mix_walk p.1 p.2 a n.1 n.2 b s.1 s.2 (a * n.1) (p.1 + a * n.1) (b * s.1) _ (a * n.2) (p.2 + a * n.2) (b * s.2) _ w (wrapR _ (by omega) (by omega)) (wrapR _ (by omega) (by omega)) (wrapR _ (by omega) (by omega)) (wrapR _ (by omega) (by omega)) (wrapR _ (by omega) (by omega)) (wrapR _ (by omega) (by omega)) (wrapR _ (by omega) (by omega)) (wrapR _ (by omega) (by omega))
/-- Square caps: of a first line, of a last one. -/
noncomputable def headI (a b : Pt) (h : Int) : List Pt := slabI (subP a (stepA (subP b a) h)) a (stepS (subP b a) h)
noncomputable def tailI (a b : Pt) (h : Int) : List Pt := slabI b (addP b (stepA (subP b a) h)) (stepS (subP b a) h)
set_option maxHeartbeats 4000000 in
set_option maxRecDepth 100000 in
theorem rbar_walk (a b n s q1 q2 q3 q4 : Pt) (h : Int) (w : World)
    (HS : Hid (∀ w, Calls Tryd.prog 67 #[.agg #[.int .i64 a.1, .int .i64 a.2], .agg #[.int .i64 b.1, .int .i64 b.2], .int .i64 h] w fun e w' => e = .returned (.tuple #[.agg #[.int .i64 n.1, .int .i64 n.2], .agg #[.int .i64 s.1, .int .i64 s.2]]) ∧ Below w.heap.size w w'))
    (HM1 : Hid (∀ w, Calls Tryd.prog 68 #[.agg #[.int .i64 a.1, .int .i64 a.2], .int .i64 (-1), .agg #[.int .i64 n.1, .int .i64 n.2], .int .i64 0, .agg #[.int .i64 s.1, .int .i64 s.2]] w fun e w' => e = .returned (.agg #[.int .i64 q1.1, .int .i64 q1.2]) ∧ Below w.heap.size w w'))
    (HM2 : Hid (∀ w, Calls Tryd.prog 68 #[.agg #[.int .i64 b.1, .int .i64 b.2], .int .i64 (-1), .agg #[.int .i64 n.1, .int .i64 n.2], .int .i64 0, .agg #[.int .i64 s.1, .int .i64 s.2]] w fun e w' => e = .returned (.agg #[.int .i64 q2.1, .int .i64 q2.2]) ∧ Below w.heap.size w w'))
    (HM3 : Hid (∀ w, Calls Tryd.prog 68 #[.agg #[.int .i64 b.1, .int .i64 b.2], .int .i64 1, .agg #[.int .i64 n.1, .int .i64 n.2], .int .i64 0, .agg #[.int .i64 s.1, .int .i64 s.2]] w fun e w' => e = .returned (.agg #[.int .i64 q3.1, .int .i64 q3.2]) ∧ Below w.heap.size w w'))
    (HM4 : Hid (∀ w, Calls Tryd.prog 68 #[.agg #[.int .i64 a.1, .int .i64 a.2], .int .i64 1, .agg #[.int .i64 n.1, .int .i64 n.2], .int .i64 0, .agg #[.int .i64 s.1, .int .i64 s.2]] w fun e w' => e = .returned (.agg #[.int .i64 q4.1, .int .i64 q4.2]) ∧ Below w.heap.size w w')) :
    Calls Tryd.prog 44 #[.agg #[.int .i64 a.1, .int .i64 a.2], .agg #[.int .i64 b.1, .int .i64 b.2], .int .i64 h] w fun e w' => ∃ v, e = .returned v ∧ Own w' w.heap.size 32 v [q1, q2, q3, q4] ∧ Below w.heap.size w w' := by
  go_enter Tryd.func44, Tryd.ntmps44
  go_wp2_with fail
  refine (HS.out _).mono ?_
  rintro e w1 ⟨rfl, hb⟩
  have S1 : Hid (Below w.heap.size w w1 ∧ w.heap.size + 2 ≤ w1.heap.size ∧ Blk w1 w.heap.size 32 (two a) ∧ Blk w1 (w.heap.size + 1) 32 (two b)) :=
    ⟨(((Below.refl _ _).alloc (Nat.le_refl _) _).alloc (by simp) _).trans (hb.mono (by simp; omega)), by have := hb.size; simp at this; omega, ((Blk.new _ 32 (two a)).alloc _).grow hb, (Blk.newAt _ 32 (two b) (by simp)).grow hb⟩
  clear hb
  go_wp2_with fail
  obtain ⟨g7, hg7⟩ : ∃ g, w1.heap.size = g := ⟨_, rfl⟩
  obtain ⟨g8, hg8⟩ : ∃ g, w1.heap.size + 1 = g := ⟨_, rfl⟩
  obtain ⟨w2, hw2⟩ : ∃ W, (w1.alloc (.cells #[.int .i64 n.1, .int .i64 n.2] 32)).alloc (.cells #[.int .i64 s.1, .int .i64 s.2] 32) = W := ⟨_, rfl⟩
  have S2 : Hid (Below w.heap.size w w2 ∧ w.heap.size ≤ w2.heap.size ∧ Blk w2 w.heap.size 32 (two a) ∧ Blk w2 (w.heap.size + 1) 32 (two b) ∧ Blk w2 g7 32 (two n) ∧ Blk w2 g8 32 (two s)) := by
    rw [← hw2]
    exact ⟨(S1.out.1.alloc (by have := S1.out.2.1; omega) _).alloc (by have := S1.out.2.1; simp; omega) _, by have := S1.out.2.1; simp; omega, (S1.out.2.2.1.alloc _).alloc _, (S1.out.2.2.2.alloc _).alloc _, (Blk.newAt _ _ _ hg7).alloc _, Blk.newAt _ _ _ (by simp; exact hg8)⟩
  rw [hw2, hg8, hg7]
  clear hw2 hg7 hg8 S1
  refine wp_region_put (by kernel_rfl) (by kernel_rfl) (by kernel_rfl) (fun b' vs w' => (b' 0 = true → vs 0 = .agg #[.int .i64 a.1, .int .i64 a.2]) ∧ (b' 1 = true → vs 1 = .agg #[.int .i64 n.1, .int .i64 n.2]) ∧ (b' 2 = true → vs 2 = .agg #[.int .i64 s.1, .int .i64 s.2]) ∧ (b' 3 = true → vs 3 = .agg #[.int .i64 q1.1, .int .i64 q1.2]) ∧ (b' 4 = true → vs 4 = .agg #[.int .i64 b.1, .int .i64 b.2]) ∧ (b' 5 = true → vs 5 = .agg #[.int .i64 n.1, .int .i64 n.2]) ∧ (b' 6 = true → vs 6 = .agg #[.int .i64 s.1, .int .i64 s.2]) ∧ (b' 7 = true → vs 7 = .agg #[.int .i64 q2.1, .int .i64 q2.2]) ∧ (b' 8 = true → vs 8 = .agg #[.int .i64 b.1, .int .i64 b.2]) ∧ (b' 9 = true → vs 9 = .agg #[.int .i64 n.1, .int .i64 n.2]) ∧ (b' 10 = true → vs 10 = .agg #[.int .i64 s.1, .int .i64 s.2]) ∧ (b' 11 = true → vs 11 = .agg #[.int .i64 q3.1, .int .i64 q3.2]) ∧ (b' 12 = true → vs 12 = .agg #[.int .i64 a.1, .int .i64 a.2]) ∧ (b' 13 = true → vs 13 = .agg #[.int .i64 n.1, .int .i64 n.2]) ∧ (b' 14 = true → vs 14 = .agg #[.int .i64 s.1, .int .i64 s.2]) ∧ (b' 15 = true → vs 15 = .agg #[.int .i64 q4.1, .int .i64 q4.2]) ∧ (b' 16 = true → Hid (Own w' w.heap.size 32 (vs 16) ([q1, q2, q3, q4]))) ∧ (b' 17 = true → Hid (Own w' w.heap.size 32 (vs 17) ([q1, q2, q3, q4]))) ∧ (Hid (Below w.heap.size w w' ∧ w.heap.size ≤ w'.heap.size)) ∧ (Hid (Blk w' w.heap.size 32 (two a) ∧ Blk w' (w.heap.size + 1) 32 (two b) ∧ Blk w' g7 32 (two n) ∧ Blk w' g8 32 (two s)))) ?_ ?_ ?_
  · intro vs
    exact ⟨fun h => Bool.noConfusion h, fun h => Bool.noConfusion h, fun h => Bool.noConfusion h, fun h => Bool.noConfusion h, fun h => Bool.noConfusion h, fun h => Bool.noConfusion h, fun h => Bool.noConfusion h, fun h => Bool.noConfusion h, fun h => Bool.noConfusion h, fun h => Bool.noConfusion h, fun h => Bool.noConfusion h, fun h => Bool.noConfusion h, fun h => Bool.noConfusion h, fun h => Bool.noConfusion h, fun h => Bool.noConfusion h, fun h => Bool.noConfusion h, fun h => Bool.noConfusion h, fun h => Bool.noConfusion h, Lib.hid ⟨below_drewN S2.out.1 1, S2.out.2.1⟩, Lib.hid ⟨S2.out.2.2.1.grow ⟨rfl, rfl, rfl, Nat.le_refl _, fun _ _ => rfl⟩, S2.out.2.2.2.1.grow ⟨rfl, rfl, rfl, Nat.le_refl _, fun _ _ => rfl⟩, S2.out.2.2.2.2.1.grow ⟨rfl, rfl, rfl, Nat.le_refl _, fun _ _ => rfl⟩, S2.out.2.2.2.2.2.grow ⟨rfl, rfl, rfl, Nat.le_refl _, fun _ _ => rfl⟩⟩⟩
  · rintro b' vs w' i op hi hun hall ⟨h0, h1, h2, h3, h4, h5, h6, h7, h8, h9, h10, h11, h12, h13, h14, h15, y16, y17, hB, hF⟩
    have hil : i < 18 := (List.getElem?_eq_some_iff.1 hi).1
    rcases i with _ | _ | _ | _ | _ | _ | _ | _ | _ | _ | _ | _ | _ | _ | _ | _ | _ | _ | i
    · obtain rfl := Option.some.inj hi
      clear hi hil
      have k := hF.out.1
      have x0 := k.p0
      have x1 := k.p1
      clear k
      refine wpOp_step rfl (fun K hK => ?_)
      have HKK := Lib.hid hK; clear hK
      simp only [putAll, Act.put, List.setIfInBounds_toArray, List.set_cons_zero, List.set_cons_succ]
      go_simp
      exact HKK.out _ _ ⟨_, by simp only [putAll, Act.put, List.setIfInBounds_toArray, List.set_cons_zero, List.set_cons_succ] <;> rfl, fun _ => rfl, h1, h2, h3, h4, h5, h6, h7, h8, h9, h10, h11, h12, h13, h14, h15, y16, y17, hB, hF⟩
    · obtain rfl := Option.some.inj hi
      clear hi hil
      have k := hF.out.2.2.1
      have x0 := k.p0
      have x1 := k.p1
      clear k
      refine wpOp_step rfl (fun K hK => ?_)
      have HKK := Lib.hid hK; clear hK
      simp only [putAll, Act.put, List.setIfInBounds_toArray, List.set_cons_zero, List.set_cons_succ]
      go_simp
      exact HKK.out _ _ ⟨_, by simp only [putAll, Act.put, List.setIfInBounds_toArray, List.set_cons_zero, List.set_cons_succ] <;> rfl, h0, fun _ => rfl, h2, h3, h4, h5, h6, h7, h8, h9, h10, h11, h12, h13, h14, h15, y16, y17, hB, hF⟩
    · obtain rfl := Option.some.inj hi
      clear hi hil
      have k := hF.out.2.2.2
      have x0 := k.p0
      have x1 := k.p1
      clear k
      refine wpOp_step rfl (fun K hK => ?_)
      have HKK := Lib.hid hK; clear hK
      simp only [putAll, Act.put, List.setIfInBounds_toArray, List.set_cons_zero, List.set_cons_succ]
      go_simp
      exact HKK.out _ _ ⟨_, by simp only [putAll, Act.put, List.setIfInBounds_toArray, List.set_cons_zero, List.set_cons_succ] <;> rfl, h0, h1, fun _ => rfl, h3, h4, h5, h6, h7, h8, h9, h10, h11, h12, h13, h14, h15, y16, y17, hB, hF⟩
    · obtain rfl := Option.some.inj hi
      clear hi hil
      have d0 := h0 (hall ⟨0, .data⟩ (by simp) rfl)
      have d1 := h1 (hall ⟨1, .data⟩ (by simp) rfl)
      have d2 := h2 (hall ⟨2, .data⟩ (by simp) rfl)
      refine wpOp_step rfl (fun K hK => ?_)
      have HKK := Lib.hid hK; clear hK
      simp only [putAll, Act.put, List.setIfInBounds_toArray, List.set_cons_zero, List.set_cons_succ]
      go_simp
      refine (HM1.out _).mono ?_
      rintro e w2 ⟨rfl, hb2⟩
      exact HKK.out _ _ ⟨_, by simp only [putAll, Act.put, List.setIfInBounds_toArray, List.set_cons_zero, List.set_cons_succ, d0, d1, d2] <;> rfl, h0, h1, h2, fun _ => rfl, h4, h5, h6, h7, h8, h9, h10, h11, h12, h13, h14, h15, fun h => Lib.hid (Own.grow (y16 h).out hb2), fun h => Lib.hid (Own.grow (y17 h).out hb2), Lib.hid ⟨(hB).out.1.trans (hb2.mono (hB).out.2), Nat.le_trans (hB).out.2 hb2.size⟩, Lib.hid (⟨(hF).out.1.grow hb2, (hF).out.2.1.grow hb2, (hF).out.2.2.1.grow hb2, (hF).out.2.2.2.grow hb2⟩)⟩
    · obtain rfl := Option.some.inj hi
      clear hi hil
      have k := hF.out.2.1
      have x0 := k.p0
      have x1 := k.p1
      clear k
      refine wpOp_step rfl (fun K hK => ?_)
      have HKK := Lib.hid hK; clear hK
      simp only [putAll, Act.put, List.setIfInBounds_toArray, List.set_cons_zero, List.set_cons_succ]
      go_simp
      exact HKK.out _ _ ⟨_, by simp only [putAll, Act.put, List.setIfInBounds_toArray, List.set_cons_zero, List.set_cons_succ] <;> rfl, h0, h1, h2, h3, fun _ => rfl, h5, h6, h7, h8, h9, h10, h11, h12, h13, h14, h15, y16, y17, hB, hF⟩
    · obtain rfl := Option.some.inj hi
      clear hi hil
      have k := hF.out.2.2.1
      have x0 := k.p0
      have x1 := k.p1
      clear k
      refine wpOp_step rfl (fun K hK => ?_)
      have HKK := Lib.hid hK; clear hK
      simp only [putAll, Act.put, List.setIfInBounds_toArray, List.set_cons_zero, List.set_cons_succ]
      go_simp
      exact HKK.out _ _ ⟨_, by simp only [putAll, Act.put, List.setIfInBounds_toArray, List.set_cons_zero, List.set_cons_succ] <;> rfl, h0, h1, h2, h3, h4, fun _ => rfl, h6, h7, h8, h9, h10, h11, h12, h13, h14, h15, y16, y17, hB, hF⟩
    · obtain rfl := Option.some.inj hi
      clear hi hil
      have k := hF.out.2.2.2
      have x0 := k.p0
      have x1 := k.p1
      clear k
      refine wpOp_step rfl (fun K hK => ?_)
      have HKK := Lib.hid hK; clear hK
      simp only [putAll, Act.put, List.setIfInBounds_toArray, List.set_cons_zero, List.set_cons_succ]
      go_simp
      exact HKK.out _ _ ⟨_, by simp only [putAll, Act.put, List.setIfInBounds_toArray, List.set_cons_zero, List.set_cons_succ] <;> rfl, h0, h1, h2, h3, h4, h5, fun _ => rfl, h7, h8, h9, h10, h11, h12, h13, h14, h15, y16, y17, hB, hF⟩
    · obtain rfl := Option.some.inj hi
      clear hi hil
      have d4 := h4 (hall ⟨4, .data⟩ (by simp) rfl)
      have d5 := h5 (hall ⟨5, .data⟩ (by simp) rfl)
      have d6 := h6 (hall ⟨6, .data⟩ (by simp) rfl)
      refine wpOp_step rfl (fun K hK => ?_)
      have HKK := Lib.hid hK; clear hK
      simp only [putAll, Act.put, List.setIfInBounds_toArray, List.set_cons_zero, List.set_cons_succ]
      go_simp
      refine (HM2.out _).mono ?_
      rintro e w2 ⟨rfl, hb2⟩
      exact HKK.out _ _ ⟨_, by simp only [putAll, Act.put, List.setIfInBounds_toArray, List.set_cons_zero, List.set_cons_succ, d4, d5, d6] <;> rfl, h0, h1, h2, h3, h4, h5, h6, fun _ => rfl, h8, h9, h10, h11, h12, h13, h14, h15, fun h => Lib.hid (Own.grow (y16 h).out hb2), fun h => Lib.hid (Own.grow (y17 h).out hb2), Lib.hid ⟨(hB).out.1.trans (hb2.mono (hB).out.2), Nat.le_trans (hB).out.2 hb2.size⟩, Lib.hid (⟨(hF).out.1.grow hb2, (hF).out.2.1.grow hb2, (hF).out.2.2.1.grow hb2, (hF).out.2.2.2.grow hb2⟩)⟩
    · obtain rfl := Option.some.inj hi
      clear hi hil
      have k := hF.out.2.1
      have x0 := k.p0
      have x1 := k.p1
      clear k
      refine wpOp_step rfl (fun K hK => ?_)
      have HKK := Lib.hid hK; clear hK
      simp only [putAll, Act.put, List.setIfInBounds_toArray, List.set_cons_zero, List.set_cons_succ]
      go_simp
      exact HKK.out _ _ ⟨_, by simp only [putAll, Act.put, List.setIfInBounds_toArray, List.set_cons_zero, List.set_cons_succ] <;> rfl, h0, h1, h2, h3, h4, h5, h6, h7, fun _ => rfl, h9, h10, h11, h12, h13, h14, h15, y16, y17, hB, hF⟩
    · obtain rfl := Option.some.inj hi
      clear hi hil
      have k := hF.out.2.2.1
      have x0 := k.p0
      have x1 := k.p1
      clear k
      refine wpOp_step rfl (fun K hK => ?_)
      have HKK := Lib.hid hK; clear hK
      simp only [putAll, Act.put, List.setIfInBounds_toArray, List.set_cons_zero, List.set_cons_succ]
      go_simp
      exact HKK.out _ _ ⟨_, by simp only [putAll, Act.put, List.setIfInBounds_toArray, List.set_cons_zero, List.set_cons_succ] <;> rfl, h0, h1, h2, h3, h4, h5, h6, h7, h8, fun _ => rfl, h10, h11, h12, h13, h14, h15, y16, y17, hB, hF⟩
    · obtain rfl := Option.some.inj hi
      clear hi hil
      have k := hF.out.2.2.2
      have x0 := k.p0
      have x1 := k.p1
      clear k
      refine wpOp_step rfl (fun K hK => ?_)
      have HKK := Lib.hid hK; clear hK
      simp only [putAll, Act.put, List.setIfInBounds_toArray, List.set_cons_zero, List.set_cons_succ]
      go_simp
      exact HKK.out _ _ ⟨_, by simp only [putAll, Act.put, List.setIfInBounds_toArray, List.set_cons_zero, List.set_cons_succ] <;> rfl, h0, h1, h2, h3, h4, h5, h6, h7, h8, h9, fun _ => rfl, h11, h12, h13, h14, h15, y16, y17, hB, hF⟩
    · obtain rfl := Option.some.inj hi
      clear hi hil
      have d8 := h8 (hall ⟨8, .data⟩ (by simp) rfl)
      have d9 := h9 (hall ⟨9, .data⟩ (by simp) rfl)
      have d10 := h10 (hall ⟨10, .data⟩ (by simp) rfl)
      refine wpOp_step rfl (fun K hK => ?_)
      have HKK := Lib.hid hK; clear hK
      simp only [putAll, Act.put, List.setIfInBounds_toArray, List.set_cons_zero, List.set_cons_succ]
      go_simp
      refine (HM3.out _).mono ?_
      rintro e w2 ⟨rfl, hb2⟩
      exact HKK.out _ _ ⟨_, by simp only [putAll, Act.put, List.setIfInBounds_toArray, List.set_cons_zero, List.set_cons_succ, d8, d9, d10] <;> rfl, h0, h1, h2, h3, h4, h5, h6, h7, h8, h9, h10, fun _ => rfl, h12, h13, h14, h15, fun h => Lib.hid (Own.grow (y16 h).out hb2), fun h => Lib.hid (Own.grow (y17 h).out hb2), Lib.hid ⟨(hB).out.1.trans (hb2.mono (hB).out.2), Nat.le_trans (hB).out.2 hb2.size⟩, Lib.hid (⟨(hF).out.1.grow hb2, (hF).out.2.1.grow hb2, (hF).out.2.2.1.grow hb2, (hF).out.2.2.2.grow hb2⟩)⟩
    · obtain rfl := Option.some.inj hi
      clear hi hil
      have k := hF.out.1
      have x0 := k.p0
      have x1 := k.p1
      clear k
      refine wpOp_step rfl (fun K hK => ?_)
      have HKK := Lib.hid hK; clear hK
      simp only [putAll, Act.put, List.setIfInBounds_toArray, List.set_cons_zero, List.set_cons_succ]
      go_simp
      exact HKK.out _ _ ⟨_, by simp only [putAll, Act.put, List.setIfInBounds_toArray, List.set_cons_zero, List.set_cons_succ] <;> rfl, h0, h1, h2, h3, h4, h5, h6, h7, h8, h9, h10, h11, fun _ => rfl, h13, h14, h15, y16, y17, hB, hF⟩
    · obtain rfl := Option.some.inj hi
      clear hi hil
      have k := hF.out.2.2.1
      have x0 := k.p0
      have x1 := k.p1
      clear k
      refine wpOp_step rfl (fun K hK => ?_)
      have HKK := Lib.hid hK; clear hK
      simp only [putAll, Act.put, List.setIfInBounds_toArray, List.set_cons_zero, List.set_cons_succ]
      go_simp
      exact HKK.out _ _ ⟨_, by simp only [putAll, Act.put, List.setIfInBounds_toArray, List.set_cons_zero, List.set_cons_succ] <;> rfl, h0, h1, h2, h3, h4, h5, h6, h7, h8, h9, h10, h11, h12, fun _ => rfl, h14, h15, y16, y17, hB, hF⟩
    · obtain rfl := Option.some.inj hi
      clear hi hil
      have k := hF.out.2.2.2
      have x0 := k.p0
      have x1 := k.p1
      clear k
      refine wpOp_step rfl (fun K hK => ?_)
      have HKK := Lib.hid hK; clear hK
      simp only [putAll, Act.put, List.setIfInBounds_toArray, List.set_cons_zero, List.set_cons_succ]
      go_simp
      exact HKK.out _ _ ⟨_, by simp only [putAll, Act.put, List.setIfInBounds_toArray, List.set_cons_zero, List.set_cons_succ] <;> rfl, h0, h1, h2, h3, h4, h5, h6, h7, h8, h9, h10, h11, h12, h13, fun _ => rfl, h15, y16, y17, hB, hF⟩
    · obtain rfl := Option.some.inj hi
      clear hi hil
      have d12 := h12 (hall ⟨12, .data⟩ (by simp) rfl)
      have d13 := h13 (hall ⟨13, .data⟩ (by simp) rfl)
      have d14 := h14 (hall ⟨14, .data⟩ (by simp) rfl)
      refine wpOp_step rfl (fun K hK => ?_)
      have HKK := Lib.hid hK; clear hK
      simp only [putAll, Act.put, List.setIfInBounds_toArray, List.set_cons_zero, List.set_cons_succ]
      go_simp
      refine (HM4.out _).mono ?_
      rintro e w2 ⟨rfl, hb2⟩
      exact HKK.out _ _ ⟨_, by simp only [putAll, Act.put, List.setIfInBounds_toArray, List.set_cons_zero, List.set_cons_succ, d12, d13, d14] <;> rfl, h0, h1, h2, h3, h4, h5, h6, h7, h8, h9, h10, h11, h12, h13, h14, fun _ => rfl, fun h => Lib.hid (Own.grow (y16 h).out hb2), fun h => Lib.hid (Own.grow (y17 h).out hb2), Lib.hid ⟨(hB).out.1.trans (hb2.mono (hB).out.2), Nat.le_trans (hB).out.2 hb2.size⟩, Lib.hid (⟨(hF).out.1.grow hb2, (hF).out.2.1.grow hb2, (hF).out.2.2.1.grow hb2, (hF).out.2.2.2.grow hb2⟩)⟩
    · obtain rfl := Option.some.inj hi
      clear hi hil
      have d3 := h3 (hall ⟨3, .data⟩ (by simp) rfl)
      have d7 := h7 (hall ⟨7, .data⟩ (by simp) rfl)
      have d11 := h11 (hall ⟨11, .data⟩ (by simp) rfl)
      have d15 := h15 (hall ⟨15, .data⟩ (by simp) rfl)
      refine wpOp_step rfl (fun K hK => ?_)
      have HKK := Lib.hid hK; clear hK
      simp only [putAll, Act.put, List.setIfInBounds_toArray, List.set_cons_zero, List.set_cons_succ]
      go_simp
      have hb2 : Below w'.heap.size w' (w'.alloc (.cells (flat [q1, q2, q3, q4]) 32)) := (Below.refl _ _).alloc (Nat.le_refl _) _
      exact HKK.out _ _ ⟨_, by simp only [putAll, Act.put, List.setIfInBounds_toArray, List.set_cons_zero, List.set_cons_succ, d3, d7, d11, d15] <;> rfl, h0, h1, h2, h3, h4, h5, h6, h7, h8, h9, h10, h11, h12, h13, h14, h15, fun _ => Lib.hid (Own.made w' hB.out.2 32 [q1, q2, q3, q4] _ 4 rfl rfl (by decide)), fun h => Lib.hid (Own.grow (y17 h).out hb2), Lib.hid ⟨(hB).out.1.trans (hb2.mono (hB).out.2), Nat.le_trans (hB).out.2 hb2.size⟩, Lib.hid (⟨(hF).out.1.grow hb2, (hF).out.2.1.grow hb2, (hF).out.2.2.1.grow hb2, (hF).out.2.2.2.grow hb2⟩)⟩
    · obtain rfl := Option.some.inj hi
      clear hi hil
      have o16 := y16 (hall ⟨16, .data⟩ (by simp) rfl)
      refine wpOp_step rfl (fun K hK => ?_)
      have HKK := Lib.hid hK; clear hK
      simp only [putAll, Act.put, List.setIfInBounds_toArray, List.set_cons_zero, List.set_cons_succ]
      go_simp
      exact HKK.out _ _ ⟨_, by simp only [putAll, Act.put, List.setIfInBounds_toArray, List.set_cons_zero, List.set_cons_succ] <;> rfl, h0, h1, h2, h3, h4, h5, h6, h7, h8, h9, h10, h11, h12, h13, h14, h15, y16, fun _ => Lib.hid (o16.out), hB, hF⟩
    · omega
  · rintro b' vs w2 hall ⟨h0, h1, h2, h3, h4, h5, h6, h7, h8, h9, h10, h11, h12, h13, h14, h15, y16, y17, hB, hF⟩
    have d0 := h0 (hall 0 (by simp))
    have d1 := h1 (hall 1 (by simp))
    have d2 := h2 (hall 2 (by simp))
    have d3 := h3 (hall 3 (by simp))
    have d4 := h4 (hall 4 (by simp))
    have d5 := h5 (hall 5 (by simp))
    have d6 := h6 (hall 6 (by simp))
    have d7 := h7 (hall 7 (by simp))
    have d8 := h8 (hall 8 (by simp))
    have d9 := h9 (hall 9 (by simp))
    have d10 := h10 (hall 10 (by simp))
    have d11 := h11 (hall 11 (by simp))
    have d12 := h12 (hall 12 (by simp))
    have d13 := h13 (hall 13 (by simp))
    have d14 := h14 (hall 14 (by simp))
    have d15 := h15 (hall 15 (by simp))
    have o16 := y16 (hall 16 (by simp))
    have o17 := y17 (hall 17 (by simp))
    have BB := hB
    have FF := hF
    simp only [putAll, Act.put, List.setIfInBounds_toArray, List.set_cons_zero, List.set_cons_succ, d0, d1, d2, d3, d4, d5, d6, d7, d8, d9, d10, d11, d12, d13, d14, d15]
    clear hall h0 d0 h1 d1 h2 d2 h3 d3 h4 d4 h5 d5 h6 d6 h7 d7 h8 d8 h9 d9 h10 d10 h11 d11 h12 d12 h13 d13 h14 d14 h15 d15 y16 y17 hB hF
    go_wp2_with fail
    go_ret
    exact ⟨_, rfl, o17.out, BB.out.1⟩
theorem rbar_c (a b : Pt) (h : Int) (ha : roomP a = true) (hb : roomP b = true) (hl : lenOk (subP b a)) (h0 : subP b a ≠ (0, 0)) (hp : 1 ≤ h ∧ h ≤ 32768) (w : World) :
    Calls Tryd.prog 44 #[.agg #[.int .i64 a.1, .int .i64 a.2], .agg #[.int .i64 b.1, .int .i64 b.2], .int .i64 h] w fun e w' => ∃ v, e = .returned v ∧ Own w' w.heap.size 32 v (barI a b h) ∧ Below w.heap.size w w' := by
  have hm := mid_step hl h0 (k := h) (by omega) hp.2
  have hma := mid_of_room ha
  have hmb := mid_of_room hb
  have key := rbar_walk a b (stepS (subP b a) h) (stepA (subP b a) h) _ _ _ _ h w (Lib.hid (steps_c a b h ha hb hl h0 hp))
    (Lib.hid (mix_c a _ _ (-1) 0 hma hm.1 hm.2 (.inl rfl) (.inr (.inl rfl))))
    (Lib.hid (mix_c b _ _ (-1) 0 hmb hm.1 hm.2 (.inl rfl) (.inr (.inl rfl))))
    (Lib.hid (mix_c b _ _ 1 0 hmb hm.1 hm.2 (.inr (.inr rfl)) (.inr (.inl rfl))))
    (Lib.hid (mix_c a _ _ 1 0 hma hm.1 hm.2 (.inr (.inr rfl)) (.inr (.inl rfl))))
  rw [show barI a b h = [mixI a (-1) (stepS (subP b a) h) 0 (stepA (subP b a) h), mixI b (-1) (stepS (subP b a) h) 0 (stepA (subP b a) h), mixI b 1 (stepS (subP b a) h) 0 (stepA (subP b a) h), mixI a 1 (stepS (subP b a) h) 0 (stepA (subP b a) h)] from ?_]
  · exact key
  · simp only [barI, slabI, mixI, addP, subP, List.cons.injEq, Prod.mk.injEq, and_true]
    omega
set_option maxHeartbeats 4000000 in
set_option maxRecDepth 100000 in
theorem rfirst_walk (a b n s q1 q2 q3 q4 : Pt) (h : Int) (w : World)
    (HS : Hid (∀ w, Calls Tryd.prog 67 #[.agg #[.int .i64 a.1, .int .i64 a.2], .agg #[.int .i64 b.1, .int .i64 b.2], .int .i64 h] w fun e w' => e = .returned (.tuple #[.agg #[.int .i64 n.1, .int .i64 n.2], .agg #[.int .i64 s.1, .int .i64 s.2]]) ∧ Below w.heap.size w w'))
    (HM1 : Hid (∀ w, Calls Tryd.prog 68 #[.agg #[.int .i64 a.1, .int .i64 a.2], .int .i64 (-1), .agg #[.int .i64 n.1, .int .i64 n.2], .int .i64 (-1), .agg #[.int .i64 s.1, .int .i64 s.2]] w fun e w' => e = .returned (.agg #[.int .i64 q1.1, .int .i64 q1.2]) ∧ Below w.heap.size w w'))
    (HM2 : Hid (∀ w, Calls Tryd.prog 68 #[.agg #[.int .i64 a.1, .int .i64 a.2], .int .i64 (-1), .agg #[.int .i64 n.1, .int .i64 n.2], .int .i64 0, .agg #[.int .i64 s.1, .int .i64 s.2]] w fun e w' => e = .returned (.agg #[.int .i64 q2.1, .int .i64 q2.2]) ∧ Below w.heap.size w w'))
    (HM3 : Hid (∀ w, Calls Tryd.prog 68 #[.agg #[.int .i64 a.1, .int .i64 a.2], .int .i64 1, .agg #[.int .i64 n.1, .int .i64 n.2], .int .i64 0, .agg #[.int .i64 s.1, .int .i64 s.2]] w fun e w' => e = .returned (.agg #[.int .i64 q3.1, .int .i64 q3.2]) ∧ Below w.heap.size w w'))
    (HM4 : Hid (∀ w, Calls Tryd.prog 68 #[.agg #[.int .i64 a.1, .int .i64 a.2], .int .i64 1, .agg #[.int .i64 n.1, .int .i64 n.2], .int .i64 (-1), .agg #[.int .i64 s.1, .int .i64 s.2]] w fun e w' => e = .returned (.agg #[.int .i64 q4.1, .int .i64 q4.2]) ∧ Below w.heap.size w w')) :
    Calls Tryd.prog 45 #[.agg #[.int .i64 a.1, .int .i64 a.2], .agg #[.int .i64 b.1, .int .i64 b.2], .int .i64 h] w fun e w' => ∃ v, e = .returned v ∧ Own w' w.heap.size 32 v [q1, q2, q3, q4] ∧ Below w.heap.size w w' := by
  go_enter Tryd.func45, Tryd.ntmps45
  go_wp2_with fail
  refine (HS.out _).mono ?_
  rintro e w1 ⟨rfl, hb⟩
  have S1 : Hid (Below w.heap.size w w1 ∧ w.heap.size + 2 ≤ w1.heap.size ∧ Blk w1 w.heap.size 32 (two a) ∧ Blk w1 (w.heap.size + 1) 32 (two b)) :=
    ⟨(((Below.refl _ _).alloc (Nat.le_refl _) _).alloc (by simp) _).trans (hb.mono (by simp; omega)), by have := hb.size; simp at this; omega, ((Blk.new _ 32 (two a)).alloc _).grow hb, (Blk.newAt _ 32 (two b) (by simp)).grow hb⟩
  clear hb
  go_wp2_with fail
  obtain ⟨g7, hg7⟩ : ∃ g, w1.heap.size = g := ⟨_, rfl⟩
  obtain ⟨g8, hg8⟩ : ∃ g, w1.heap.size + 1 = g := ⟨_, rfl⟩
  obtain ⟨w2, hw2⟩ : ∃ W, (w1.alloc (.cells #[.int .i64 n.1, .int .i64 n.2] 32)).alloc (.cells #[.int .i64 s.1, .int .i64 s.2] 32) = W := ⟨_, rfl⟩
  have S2 : Hid (Below w.heap.size w w2 ∧ w.heap.size ≤ w2.heap.size ∧ Blk w2 w.heap.size 32 (two a) ∧ Blk w2 (w.heap.size + 1) 32 (two b) ∧ Blk w2 g7 32 (two n) ∧ Blk w2 g8 32 (two s)) := by
    rw [← hw2]
    exact ⟨(S1.out.1.alloc (by have := S1.out.2.1; omega) _).alloc (by have := S1.out.2.1; simp; omega) _, by have := S1.out.2.1; simp; omega, (S1.out.2.2.1.alloc _).alloc _, (S1.out.2.2.2.alloc _).alloc _, (Blk.newAt _ _ _ hg7).alloc _, Blk.newAt _ _ _ (by simp; exact hg8)⟩
  rw [hw2, hg8, hg7]
  clear hw2 hg7 hg8 S1
  refine wp_region_put (by kernel_rfl) (by kernel_rfl) (by kernel_rfl) (fun b' vs w' => (b' 0 = true → vs 0 = .agg #[.int .i64 a.1, .int .i64 a.2]) ∧ (b' 1 = true → vs 1 = .agg #[.int .i64 n.1, .int .i64 n.2]) ∧ (b' 2 = true → vs 2 = .agg #[.int .i64 s.1, .int .i64 s.2]) ∧ (b' 3 = true → vs 3 = .agg #[.int .i64 q1.1, .int .i64 q1.2]) ∧ (b' 4 = true → vs 4 = .agg #[.int .i64 a.1, .int .i64 a.2]) ∧ (b' 5 = true → vs 5 = .agg #[.int .i64 n.1, .int .i64 n.2]) ∧ (b' 6 = true → vs 6 = .agg #[.int .i64 s.1, .int .i64 s.2]) ∧ (b' 7 = true → vs 7 = .agg #[.int .i64 q2.1, .int .i64 q2.2]) ∧ (b' 8 = true → vs 8 = .agg #[.int .i64 a.1, .int .i64 a.2]) ∧ (b' 9 = true → vs 9 = .agg #[.int .i64 n.1, .int .i64 n.2]) ∧ (b' 10 = true → vs 10 = .agg #[.int .i64 s.1, .int .i64 s.2]) ∧ (b' 11 = true → vs 11 = .agg #[.int .i64 q3.1, .int .i64 q3.2]) ∧ (b' 12 = true → vs 12 = .agg #[.int .i64 a.1, .int .i64 a.2]) ∧ (b' 13 = true → vs 13 = .agg #[.int .i64 n.1, .int .i64 n.2]) ∧ (b' 14 = true → vs 14 = .agg #[.int .i64 s.1, .int .i64 s.2]) ∧ (b' 15 = true → vs 15 = .agg #[.int .i64 q4.1, .int .i64 q4.2]) ∧ (b' 16 = true → Hid (Own w' w.heap.size 32 (vs 16) ([q1, q2, q3, q4]))) ∧ (b' 17 = true → Hid (Own w' w.heap.size 32 (vs 17) ([q1, q2, q3, q4]))) ∧ (Hid (Below w.heap.size w w' ∧ w.heap.size ≤ w'.heap.size)) ∧ (Hid (Blk w' w.heap.size 32 (two a) ∧ Blk w' (w.heap.size + 1) 32 (two b) ∧ Blk w' g7 32 (two n) ∧ Blk w' g8 32 (two s)))) ?_ ?_ ?_
  · intro vs
    exact ⟨fun h => Bool.noConfusion h, fun h => Bool.noConfusion h, fun h => Bool.noConfusion h, fun h => Bool.noConfusion h, fun h => Bool.noConfusion h, fun h => Bool.noConfusion h, fun h => Bool.noConfusion h, fun h => Bool.noConfusion h, fun h => Bool.noConfusion h, fun h => Bool.noConfusion h, fun h => Bool.noConfusion h, fun h => Bool.noConfusion h, fun h => Bool.noConfusion h, fun h => Bool.noConfusion h, fun h => Bool.noConfusion h, fun h => Bool.noConfusion h, fun h => Bool.noConfusion h, fun h => Bool.noConfusion h, Lib.hid ⟨below_drewN S2.out.1 1, S2.out.2.1⟩, Lib.hid ⟨S2.out.2.2.1.grow ⟨rfl, rfl, rfl, Nat.le_refl _, fun _ _ => rfl⟩, S2.out.2.2.2.1.grow ⟨rfl, rfl, rfl, Nat.le_refl _, fun _ _ => rfl⟩, S2.out.2.2.2.2.1.grow ⟨rfl, rfl, rfl, Nat.le_refl _, fun _ _ => rfl⟩, S2.out.2.2.2.2.2.grow ⟨rfl, rfl, rfl, Nat.le_refl _, fun _ _ => rfl⟩⟩⟩
  · rintro b' vs w' i op hi hun hall ⟨h0, h1, h2, h3, h4, h5, h6, h7, h8, h9, h10, h11, h12, h13, h14, h15, y16, y17, hB, hF⟩
    have hil : i < 18 := (List.getElem?_eq_some_iff.1 hi).1
    rcases i with _ | _ | _ | _ | _ | _ | _ | _ | _ | _ | _ | _ | _ | _ | _ | _ | _ | _ | i
    · obtain rfl := Option.some.inj hi
      clear hi hil
      have k := hF.out.1
      have x0 := k.p0
      have x1 := k.p1
      clear k
      refine wpOp_step rfl (fun K hK => ?_)
      have HKK := Lib.hid hK; clear hK
      simp only [putAll, Act.put, List.setIfInBounds_toArray, List.set_cons_zero, List.set_cons_succ]
      go_simp
      exact HKK.out _ _ ⟨_, by simp only [putAll, Act.put, List.setIfInBounds_toArray, List.set_cons_zero, List.set_cons_succ] <;> rfl, fun _ => rfl, h1, h2, h3, h4, h5, h6, h7, h8, h9, h10, h11, h12, h13, h14, h15, y16, y17, hB, hF⟩
    · obtain rfl := Option.some.inj hi
      clear hi hil
      have k := hF.out.2.2.1
      have x0 := k.p0
      have x1 := k.p1
      clear k
      refine wpOp_step rfl (fun K hK => ?_)
      have HKK := Lib.hid hK; clear hK
      simp only [putAll, Act.put, List.setIfInBounds_toArray, List.set_cons_zero, List.set_cons_succ]
      go_simp
      exact HKK.out _ _ ⟨_, by simp only [putAll, Act.put, List.setIfInBounds_toArray, List.set_cons_zero, List.set_cons_succ] <;> rfl, h0, fun _ => rfl, h2, h3, h4, h5, h6, h7, h8, h9, h10, h11, h12, h13, h14, h15, y16, y17, hB, hF⟩
    · obtain rfl := Option.some.inj hi
      clear hi hil
      have k := hF.out.2.2.2
      have x0 := k.p0
      have x1 := k.p1
      clear k
      refine wpOp_step rfl (fun K hK => ?_)
      have HKK := Lib.hid hK; clear hK
      simp only [putAll, Act.put, List.setIfInBounds_toArray, List.set_cons_zero, List.set_cons_succ]
      go_simp
      exact HKK.out _ _ ⟨_, by simp only [putAll, Act.put, List.setIfInBounds_toArray, List.set_cons_zero, List.set_cons_succ] <;> rfl, h0, h1, fun _ => rfl, h3, h4, h5, h6, h7, h8, h9, h10, h11, h12, h13, h14, h15, y16, y17, hB, hF⟩
    · obtain rfl := Option.some.inj hi
      clear hi hil
      have d0 := h0 (hall ⟨0, .data⟩ (by simp) rfl)
      have d1 := h1 (hall ⟨1, .data⟩ (by simp) rfl)
      have d2 := h2 (hall ⟨2, .data⟩ (by simp) rfl)
      refine wpOp_step rfl (fun K hK => ?_)
      have HKK := Lib.hid hK; clear hK
      simp only [putAll, Act.put, List.setIfInBounds_toArray, List.set_cons_zero, List.set_cons_succ]
      go_simp
      refine (HM1.out _).mono ?_
      rintro e w2 ⟨rfl, hb2⟩
      exact HKK.out _ _ ⟨_, by simp only [putAll, Act.put, List.setIfInBounds_toArray, List.set_cons_zero, List.set_cons_succ, d0, d1, d2] <;> rfl, h0, h1, h2, fun _ => rfl, h4, h5, h6, h7, h8, h9, h10, h11, h12, h13, h14, h15, fun h => Lib.hid (Own.grow (y16 h).out hb2), fun h => Lib.hid (Own.grow (y17 h).out hb2), Lib.hid ⟨(hB).out.1.trans (hb2.mono (hB).out.2), Nat.le_trans (hB).out.2 hb2.size⟩, Lib.hid (⟨(hF).out.1.grow hb2, (hF).out.2.1.grow hb2, (hF).out.2.2.1.grow hb2, (hF).out.2.2.2.grow hb2⟩)⟩
    · obtain rfl := Option.some.inj hi
      clear hi hil
      have k := hF.out.1
      have x0 := k.p0
      have x1 := k.p1
      clear k
      refine wpOp_step rfl (fun K hK => ?_)
      have HKK := Lib.hid hK; clear hK
      simp only [putAll, Act.put, List.setIfInBounds_toArray, List.set_cons_zero, List.set_cons_succ]
      go_simp
      exact HKK.out _ _ ⟨_, by simp only [putAll, Act.put, List.setIfInBounds_toArray, List.set_cons_zero, List.set_cons_succ] <;> rfl, h0, h1, h2, h3, fun _ => rfl, h5, h6, h7, h8, h9, h10, h11, h12, h13, h14, h15, y16, y17, hB, hF⟩
    · obtain rfl := Option.some.inj hi
      clear hi hil
      have k := hF.out.2.2.1
      have x0 := k.p0
      have x1 := k.p1
      clear k
      refine wpOp_step rfl (fun K hK => ?_)
      have HKK := Lib.hid hK; clear hK
      simp only [putAll, Act.put, List.setIfInBounds_toArray, List.set_cons_zero, List.set_cons_succ]
      go_simp
      exact HKK.out _ _ ⟨_, by simp only [putAll, Act.put, List.setIfInBounds_toArray, List.set_cons_zero, List.set_cons_succ] <;> rfl, h0, h1, h2, h3, h4, fun _ => rfl, h6, h7, h8, h9, h10, h11, h12, h13, h14, h15, y16, y17, hB, hF⟩
    · obtain rfl := Option.some.inj hi
      clear hi hil
      have k := hF.out.2.2.2
      have x0 := k.p0
      have x1 := k.p1
      clear k
      refine wpOp_step rfl (fun K hK => ?_)
      have HKK := Lib.hid hK; clear hK
      simp only [putAll, Act.put, List.setIfInBounds_toArray, List.set_cons_zero, List.set_cons_succ]
      go_simp
      exact HKK.out _ _ ⟨_, by simp only [putAll, Act.put, List.setIfInBounds_toArray, List.set_cons_zero, List.set_cons_succ] <;> rfl, h0, h1, h2, h3, h4, h5, fun _ => rfl, h7, h8, h9, h10, h11, h12, h13, h14, h15, y16, y17, hB, hF⟩
    · obtain rfl := Option.some.inj hi
      clear hi hil
      have d4 := h4 (hall ⟨4, .data⟩ (by simp) rfl)
      have d5 := h5 (hall ⟨5, .data⟩ (by simp) rfl)
      have d6 := h6 (hall ⟨6, .data⟩ (by simp) rfl)
      refine wpOp_step rfl (fun K hK => ?_)
      have HKK := Lib.hid hK; clear hK
      simp only [putAll, Act.put, List.setIfInBounds_toArray, List.set_cons_zero, List.set_cons_succ]
      go_simp
      refine (HM2.out _).mono ?_
      rintro e w2 ⟨rfl, hb2⟩
      exact HKK.out _ _ ⟨_, by simp only [putAll, Act.put, List.setIfInBounds_toArray, List.set_cons_zero, List.set_cons_succ, d4, d5, d6] <;> rfl, h0, h1, h2, h3, h4, h5, h6, fun _ => rfl, h8, h9, h10, h11, h12, h13, h14, h15, fun h => Lib.hid (Own.grow (y16 h).out hb2), fun h => Lib.hid (Own.grow (y17 h).out hb2), Lib.hid ⟨(hB).out.1.trans (hb2.mono (hB).out.2), Nat.le_trans (hB).out.2 hb2.size⟩, Lib.hid (⟨(hF).out.1.grow hb2, (hF).out.2.1.grow hb2, (hF).out.2.2.1.grow hb2, (hF).out.2.2.2.grow hb2⟩)⟩
    · obtain rfl := Option.some.inj hi
      clear hi hil
      have k := hF.out.1
      have x0 := k.p0
      have x1 := k.p1
      clear k
      refine wpOp_step rfl (fun K hK => ?_)
      have HKK := Lib.hid hK; clear hK
      simp only [putAll, Act.put, List.setIfInBounds_toArray, List.set_cons_zero, List.set_cons_succ]
      go_simp
      exact HKK.out _ _ ⟨_, by simp only [putAll, Act.put, List.setIfInBounds_toArray, List.set_cons_zero, List.set_cons_succ] <;> rfl, h0, h1, h2, h3, h4, h5, h6, h7, fun _ => rfl, h9, h10, h11, h12, h13, h14, h15, y16, y17, hB, hF⟩
    · obtain rfl := Option.some.inj hi
      clear hi hil
      have k := hF.out.2.2.1
      have x0 := k.p0
      have x1 := k.p1
      clear k
      refine wpOp_step rfl (fun K hK => ?_)
      have HKK := Lib.hid hK; clear hK
      simp only [putAll, Act.put, List.setIfInBounds_toArray, List.set_cons_zero, List.set_cons_succ]
      go_simp
      exact HKK.out _ _ ⟨_, by simp only [putAll, Act.put, List.setIfInBounds_toArray, List.set_cons_zero, List.set_cons_succ] <;> rfl, h0, h1, h2, h3, h4, h5, h6, h7, h8, fun _ => rfl, h10, h11, h12, h13, h14, h15, y16, y17, hB, hF⟩
    · obtain rfl := Option.some.inj hi
      clear hi hil
      have k := hF.out.2.2.2
      have x0 := k.p0
      have x1 := k.p1
      clear k
      refine wpOp_step rfl (fun K hK => ?_)
      have HKK := Lib.hid hK; clear hK
      simp only [putAll, Act.put, List.setIfInBounds_toArray, List.set_cons_zero, List.set_cons_succ]
      go_simp
      exact HKK.out _ _ ⟨_, by simp only [putAll, Act.put, List.setIfInBounds_toArray, List.set_cons_zero, List.set_cons_succ] <;> rfl, h0, h1, h2, h3, h4, h5, h6, h7, h8, h9, fun _ => rfl, h11, h12, h13, h14, h15, y16, y17, hB, hF⟩
    · obtain rfl := Option.some.inj hi
      clear hi hil
      have d8 := h8 (hall ⟨8, .data⟩ (by simp) rfl)
      have d9 := h9 (hall ⟨9, .data⟩ (by simp) rfl)
      have d10 := h10 (hall ⟨10, .data⟩ (by simp) rfl)
      refine wpOp_step rfl (fun K hK => ?_)
      have HKK := Lib.hid hK; clear hK
      simp only [putAll, Act.put, List.setIfInBounds_toArray, List.set_cons_zero, List.set_cons_succ]
      go_simp
      refine (HM3.out _).mono ?_
      rintro e w2 ⟨rfl, hb2⟩
      exact HKK.out _ _ ⟨_, by simp only [putAll, Act.put, List.setIfInBounds_toArray, List.set_cons_zero, List.set_cons_succ, d8, d9, d10] <;> rfl, h0, h1, h2, h3, h4, h5, h6, h7, h8, h9, h10, fun _ => rfl, h12, h13, h14, h15, fun h => Lib.hid (Own.grow (y16 h).out hb2), fun h => Lib.hid (Own.grow (y17 h).out hb2), Lib.hid ⟨(hB).out.1.trans (hb2.mono (hB).out.2), Nat.le_trans (hB).out.2 hb2.size⟩, Lib.hid (⟨(hF).out.1.grow hb2, (hF).out.2.1.grow hb2, (hF).out.2.2.1.grow hb2, (hF).out.2.2.2.grow hb2⟩)⟩
    · obtain rfl := Option.some.inj hi
      clear hi hil
      have k := hF.out.1
      have x0 := k.p0
      have x1 := k.p1
      clear k
      refine wpOp_step rfl (fun K hK => ?_)
      have HKK := Lib.hid hK; clear hK
      simp only [putAll, Act.put, List.setIfInBounds_toArray, List.set_cons_zero, List.set_cons_succ]
      go_simp
      exact HKK.out _ _ ⟨_, by simp only [putAll, Act.put, List.setIfInBounds_toArray, List.set_cons_zero, List.set_cons_succ] <;> rfl, h0, h1, h2, h3, h4, h5, h6, h7, h8, h9, h10, h11, fun _ => rfl, h13, h14, h15, y16, y17, hB, hF⟩
    · obtain rfl := Option.some.inj hi
      clear hi hil
      have k := hF.out.2.2.1
      have x0 := k.p0
      have x1 := k.p1
      clear k
      refine wpOp_step rfl (fun K hK => ?_)
      have HKK := Lib.hid hK; clear hK
      simp only [putAll, Act.put, List.setIfInBounds_toArray, List.set_cons_zero, List.set_cons_succ]
      go_simp
      exact HKK.out _ _ ⟨_, by simp only [putAll, Act.put, List.setIfInBounds_toArray, List.set_cons_zero, List.set_cons_succ] <;> rfl, h0, h1, h2, h3, h4, h5, h6, h7, h8, h9, h10, h11, h12, fun _ => rfl, h14, h15, y16, y17, hB, hF⟩
    · obtain rfl := Option.some.inj hi
      clear hi hil
      have k := hF.out.2.2.2
      have x0 := k.p0
      have x1 := k.p1
      clear k
      refine wpOp_step rfl (fun K hK => ?_)
      have HKK := Lib.hid hK; clear hK
      simp only [putAll, Act.put, List.setIfInBounds_toArray, List.set_cons_zero, List.set_cons_succ]
      go_simp
      exact HKK.out _ _ ⟨_, by simp only [putAll, Act.put, List.setIfInBounds_toArray, List.set_cons_zero, List.set_cons_succ] <;> rfl, h0, h1, h2, h3, h4, h5, h6, h7, h8, h9, h10, h11, h12, h13, fun _ => rfl, h15, y16, y17, hB, hF⟩
    · obtain rfl := Option.some.inj hi
      clear hi hil
      have d12 := h12 (hall ⟨12, .data⟩ (by simp) rfl)
      have d13 := h13 (hall ⟨13, .data⟩ (by simp) rfl)
      have d14 := h14 (hall ⟨14, .data⟩ (by simp) rfl)
      refine wpOp_step rfl (fun K hK => ?_)
      have HKK := Lib.hid hK; clear hK
      simp only [putAll, Act.put, List.setIfInBounds_toArray, List.set_cons_zero, List.set_cons_succ]
      go_simp
      refine (HM4.out _).mono ?_
      rintro e w2 ⟨rfl, hb2⟩
      exact HKK.out _ _ ⟨_, by simp only [putAll, Act.put, List.setIfInBounds_toArray, List.set_cons_zero, List.set_cons_succ, d12, d13, d14] <;> rfl, h0, h1, h2, h3, h4, h5, h6, h7, h8, h9, h10, h11, h12, h13, h14, fun _ => rfl, fun h => Lib.hid (Own.grow (y16 h).out hb2), fun h => Lib.hid (Own.grow (y17 h).out hb2), Lib.hid ⟨(hB).out.1.trans (hb2.mono (hB).out.2), Nat.le_trans (hB).out.2 hb2.size⟩, Lib.hid (⟨(hF).out.1.grow hb2, (hF).out.2.1.grow hb2, (hF).out.2.2.1.grow hb2, (hF).out.2.2.2.grow hb2⟩)⟩
    · obtain rfl := Option.some.inj hi
      clear hi hil
      have d3 := h3 (hall ⟨3, .data⟩ (by simp) rfl)
      have d7 := h7 (hall ⟨7, .data⟩ (by simp) rfl)
      have d11 := h11 (hall ⟨11, .data⟩ (by simp) rfl)
      have d15 := h15 (hall ⟨15, .data⟩ (by simp) rfl)
      refine wpOp_step rfl (fun K hK => ?_)
      have HKK := Lib.hid hK; clear hK
      simp only [putAll, Act.put, List.setIfInBounds_toArray, List.set_cons_zero, List.set_cons_succ]
      go_simp
      have hb2 : Below w'.heap.size w' (w'.alloc (.cells (flat [q1, q2, q3, q4]) 32)) := (Below.refl _ _).alloc (Nat.le_refl _) _
      exact HKK.out _ _ ⟨_, by simp only [putAll, Act.put, List.setIfInBounds_toArray, List.set_cons_zero, List.set_cons_succ, d3, d7, d11, d15] <;> rfl, h0, h1, h2, h3, h4, h5, h6, h7, h8, h9, h10, h11, h12, h13, h14, h15, fun _ => Lib.hid (Own.made w' hB.out.2 32 [q1, q2, q3, q4] _ 4 rfl rfl (by decide)), fun h => Lib.hid (Own.grow (y17 h).out hb2), Lib.hid ⟨(hB).out.1.trans (hb2.mono (hB).out.2), Nat.le_trans (hB).out.2 hb2.size⟩, Lib.hid (⟨(hF).out.1.grow hb2, (hF).out.2.1.grow hb2, (hF).out.2.2.1.grow hb2, (hF).out.2.2.2.grow hb2⟩)⟩
    · obtain rfl := Option.some.inj hi
      clear hi hil
      have o16 := y16 (hall ⟨16, .data⟩ (by simp) rfl)
      refine wpOp_step rfl (fun K hK => ?_)
      have HKK := Lib.hid hK; clear hK
      simp only [putAll, Act.put, List.setIfInBounds_toArray, List.set_cons_zero, List.set_cons_succ]
      go_simp
      exact HKK.out _ _ ⟨_, by simp only [putAll, Act.put, List.setIfInBounds_toArray, List.set_cons_zero, List.set_cons_succ] <;> rfl, h0, h1, h2, h3, h4, h5, h6, h7, h8, h9, h10, h11, h12, h13, h14, h15, y16, fun _ => Lib.hid (o16.out), hB, hF⟩
    · omega
  · rintro b' vs w2 hall ⟨h0, h1, h2, h3, h4, h5, h6, h7, h8, h9, h10, h11, h12, h13, h14, h15, y16, y17, hB, hF⟩
    have d0 := h0 (hall 0 (by simp))
    have d1 := h1 (hall 1 (by simp))
    have d2 := h2 (hall 2 (by simp))
    have d3 := h3 (hall 3 (by simp))
    have d4 := h4 (hall 4 (by simp))
    have d5 := h5 (hall 5 (by simp))
    have d6 := h6 (hall 6 (by simp))
    have d7 := h7 (hall 7 (by simp))
    have d8 := h8 (hall 8 (by simp))
    have d9 := h9 (hall 9 (by simp))
    have d10 := h10 (hall 10 (by simp))
    have d11 := h11 (hall 11 (by simp))
    have d12 := h12 (hall 12 (by simp))
    have d13 := h13 (hall 13 (by simp))
    have d14 := h14 (hall 14 (by simp))
    have d15 := h15 (hall 15 (by simp))
    have o16 := y16 (hall 16 (by simp))
    have o17 := y17 (hall 17 (by simp))
    have BB := hB
    have FF := hF
    simp only [putAll, Act.put, List.setIfInBounds_toArray, List.set_cons_zero, List.set_cons_succ, d0, d1, d2, d3, d4, d5, d6, d7, d8, d9, d10, d11, d12, d13, d14, d15]
    clear hall h0 d0 h1 d1 h2 d2 h3 d3 h4 d4 h5 d5 h6 d6 h7 d7 h8 d8 h9 d9 h10 d10 h11 d11 h12 d12 h13 d13 h14 d14 h15 d15 y16 y17 hB hF
    go_wp2_with fail
    go_ret
    exact ⟨_, rfl, o17.out, BB.out.1⟩
theorem rfirst_c (a b : Pt) (h : Int) (ha : roomP a = true) (hb : roomP b = true) (hl : lenOk (subP b a)) (h0 : subP b a ≠ (0, 0)) (hp : 1 ≤ h ∧ h ≤ 32768) (w : World) :
    Calls Tryd.prog 45 #[.agg #[.int .i64 a.1, .int .i64 a.2], .agg #[.int .i64 b.1, .int .i64 b.2], .int .i64 h] w fun e w' => ∃ v, e = .returned v ∧ Own w' w.heap.size 32 v (headI a b h) ∧ Below w.heap.size w w' := by
  have hm := mid_step hl h0 (k := h) (by omega) hp.2
  have hma := mid_of_room ha
  have hmb := mid_of_room hb
  have key := rfirst_walk a b (stepS (subP b a) h) (stepA (subP b a) h) _ _ _ _ h w (Lib.hid (steps_c a b h ha hb hl h0 hp))
    (Lib.hid (mix_c a _ _ (-1) (-1) hma hm.1 hm.2 (.inl rfl) (.inl rfl)))
    (Lib.hid (mix_c a _ _ (-1) 0 hma hm.1 hm.2 (.inl rfl) (.inr (.inl rfl))))
    (Lib.hid (mix_c a _ _ 1 0 hma hm.1 hm.2 (.inr (.inr rfl)) (.inr (.inl rfl))))
    (Lib.hid (mix_c a _ _ 1 (-1) hma hm.1 hm.2 (.inr (.inr rfl)) (.inl rfl)))
  rw [show headI a b h = [mixI a (-1) (stepS (subP b a) h) (-1) (stepA (subP b a) h), mixI a (-1) (stepS (subP b a) h) 0 (stepA (subP b a) h), mixI a 1 (stepS (subP b a) h) 0 (stepA (subP b a) h), mixI a 1 (stepS (subP b a) h) (-1) (stepA (subP b a) h)] from ?_]
  · exact key
  · simp only [headI, slabI, mixI, addP, subP, List.cons.injEq, Prod.mk.injEq, and_true]
    omega
set_option maxHeartbeats 4000000 in
set_option maxRecDepth 100000 in
theorem rlast_walk (a b n s q1 q2 q3 q4 : Pt) (h : Int) (w : World)
    (HS : Hid (∀ w, Calls Tryd.prog 67 #[.agg #[.int .i64 a.1, .int .i64 a.2], .agg #[.int .i64 b.1, .int .i64 b.2], .int .i64 h] w fun e w' => e = .returned (.tuple #[.agg #[.int .i64 n.1, .int .i64 n.2], .agg #[.int .i64 s.1, .int .i64 s.2]]) ∧ Below w.heap.size w w'))
    (HM1 : Hid (∀ w, Calls Tryd.prog 68 #[.agg #[.int .i64 b.1, .int .i64 b.2], .int .i64 (-1), .agg #[.int .i64 n.1, .int .i64 n.2], .int .i64 0, .agg #[.int .i64 s.1, .int .i64 s.2]] w fun e w' => e = .returned (.agg #[.int .i64 q1.1, .int .i64 q1.2]) ∧ Below w.heap.size w w'))
    (HM2 : Hid (∀ w, Calls Tryd.prog 68 #[.agg #[.int .i64 b.1, .int .i64 b.2], .int .i64 (-1), .agg #[.int .i64 n.1, .int .i64 n.2], .int .i64 1, .agg #[.int .i64 s.1, .int .i64 s.2]] w fun e w' => e = .returned (.agg #[.int .i64 q2.1, .int .i64 q2.2]) ∧ Below w.heap.size w w'))
    (HM3 : Hid (∀ w, Calls Tryd.prog 68 #[.agg #[.int .i64 b.1, .int .i64 b.2], .int .i64 1, .agg #[.int .i64 n.1, .int .i64 n.2], .int .i64 1, .agg #[.int .i64 s.1, .int .i64 s.2]] w fun e w' => e = .returned (.agg #[.int .i64 q3.1, .int .i64 q3.2]) ∧ Below w.heap.size w w'))
    (HM4 : Hid (∀ w, Calls Tryd.prog 68 #[.agg #[.int .i64 b.1, .int .i64 b.2], .int .i64 1, .agg #[.int .i64 n.1, .int .i64 n.2], .int .i64 0, .agg #[.int .i64 s.1, .int .i64 s.2]] w fun e w' => e = .returned (.agg #[.int .i64 q4.1, .int .i64 q4.2]) ∧ Below w.heap.size w w')) :
    Calls Tryd.prog 46 #[.agg #[.int .i64 a.1, .int .i64 a.2], .agg #[.int .i64 b.1, .int .i64 b.2], .int .i64 h] w fun e w' => ∃ v, e = .returned v ∧ Own w' w.heap.size 32 v [q1, q2, q3, q4] ∧ Below w.heap.size w w' := by
  go_enter Tryd.func46, Tryd.ntmps46
  go_wp2_with fail
  refine (HS.out _).mono ?_
  rintro e w1 ⟨rfl, hb⟩
  have S1 : Hid (Below w.heap.size w w1 ∧ w.heap.size + 2 ≤ w1.heap.size ∧ Blk w1 w.heap.size 32 (two a) ∧ Blk w1 (w.heap.size + 1) 32 (two b)) :=
    ⟨(((Below.refl _ _).alloc (Nat.le_refl _) _).alloc (by simp) _).trans (hb.mono (by simp; omega)), by have := hb.size; simp at this; omega, ((Blk.new _ 32 (two a)).alloc _).grow hb, (Blk.newAt _ 32 (two b) (by simp)).grow hb⟩
  clear hb
  go_wp2_with fail
  obtain ⟨g7, hg7⟩ : ∃ g, w1.heap.size = g := ⟨_, rfl⟩
  obtain ⟨g8, hg8⟩ : ∃ g, w1.heap.size + 1 = g := ⟨_, rfl⟩
  obtain ⟨w2, hw2⟩ : ∃ W, (w1.alloc (.cells #[.int .i64 n.1, .int .i64 n.2] 32)).alloc (.cells #[.int .i64 s.1, .int .i64 s.2] 32) = W := ⟨_, rfl⟩
  have S2 : Hid (Below w.heap.size w w2 ∧ w.heap.size ≤ w2.heap.size ∧ Blk w2 w.heap.size 32 (two a) ∧ Blk w2 (w.heap.size + 1) 32 (two b) ∧ Blk w2 g7 32 (two n) ∧ Blk w2 g8 32 (two s)) := by
    rw [← hw2]
    exact ⟨(S1.out.1.alloc (by have := S1.out.2.1; omega) _).alloc (by have := S1.out.2.1; simp; omega) _, by have := S1.out.2.1; simp; omega, (S1.out.2.2.1.alloc _).alloc _, (S1.out.2.2.2.alloc _).alloc _, (Blk.newAt _ _ _ hg7).alloc _, Blk.newAt _ _ _ (by simp; exact hg8)⟩
  rw [hw2, hg8, hg7]
  clear hw2 hg7 hg8 S1
  refine wp_region_put (by kernel_rfl) (by kernel_rfl) (by kernel_rfl) (fun b' vs w' => (b' 0 = true → vs 0 = .agg #[.int .i64 b.1, .int .i64 b.2]) ∧ (b' 1 = true → vs 1 = .agg #[.int .i64 n.1, .int .i64 n.2]) ∧ (b' 2 = true → vs 2 = .agg #[.int .i64 s.1, .int .i64 s.2]) ∧ (b' 3 = true → vs 3 = .agg #[.int .i64 q1.1, .int .i64 q1.2]) ∧ (b' 4 = true → vs 4 = .agg #[.int .i64 b.1, .int .i64 b.2]) ∧ (b' 5 = true → vs 5 = .agg #[.int .i64 n.1, .int .i64 n.2]) ∧ (b' 6 = true → vs 6 = .agg #[.int .i64 s.1, .int .i64 s.2]) ∧ (b' 7 = true → vs 7 = .agg #[.int .i64 q2.1, .int .i64 q2.2]) ∧ (b' 8 = true → vs 8 = .agg #[.int .i64 b.1, .int .i64 b.2]) ∧ (b' 9 = true → vs 9 = .agg #[.int .i64 n.1, .int .i64 n.2]) ∧ (b' 10 = true → vs 10 = .agg #[.int .i64 s.1, .int .i64 s.2]) ∧ (b' 11 = true → vs 11 = .agg #[.int .i64 q3.1, .int .i64 q3.2]) ∧ (b' 12 = true → vs 12 = .agg #[.int .i64 b.1, .int .i64 b.2]) ∧ (b' 13 = true → vs 13 = .agg #[.int .i64 n.1, .int .i64 n.2]) ∧ (b' 14 = true → vs 14 = .agg #[.int .i64 s.1, .int .i64 s.2]) ∧ (b' 15 = true → vs 15 = .agg #[.int .i64 q4.1, .int .i64 q4.2]) ∧ (b' 16 = true → Hid (Own w' w.heap.size 32 (vs 16) ([q1, q2, q3, q4]))) ∧ (b' 17 = true → Hid (Own w' w.heap.size 32 (vs 17) ([q1, q2, q3, q4]))) ∧ (Hid (Below w.heap.size w w' ∧ w.heap.size ≤ w'.heap.size)) ∧ (Hid (Blk w' w.heap.size 32 (two a) ∧ Blk w' (w.heap.size + 1) 32 (two b) ∧ Blk w' g7 32 (two n) ∧ Blk w' g8 32 (two s)))) ?_ ?_ ?_
  · intro vs
    exact ⟨fun h => Bool.noConfusion h, fun h => Bool.noConfusion h, fun h => Bool.noConfusion h, fun h => Bool.noConfusion h, fun h => Bool.noConfusion h, fun h => Bool.noConfusion h, fun h => Bool.noConfusion h, fun h => Bool.noConfusion h, fun h => Bool.noConfusion h, fun h => Bool.noConfusion h, fun h => Bool.noConfusion h, fun h => Bool.noConfusion h, fun h => Bool.noConfusion h, fun h => Bool.noConfusion h, fun h => Bool.noConfusion h, fun h => Bool.noConfusion h, fun h => Bool.noConfusion h, fun h => Bool.noConfusion h, Lib.hid ⟨below_drewN S2.out.1 1, S2.out.2.1⟩, Lib.hid ⟨S2.out.2.2.1.grow ⟨rfl, rfl, rfl, Nat.le_refl _, fun _ _ => rfl⟩, S2.out.2.2.2.1.grow ⟨rfl, rfl, rfl, Nat.le_refl _, fun _ _ => rfl⟩, S2.out.2.2.2.2.1.grow ⟨rfl, rfl, rfl, Nat.le_refl _, fun _ _ => rfl⟩, S2.out.2.2.2.2.2.grow ⟨rfl, rfl, rfl, Nat.le_refl _, fun _ _ => rfl⟩⟩⟩
  · rintro b' vs w' i op hi hun hall ⟨h0, h1, h2, h3, h4, h5, h6, h7, h8, h9, h10, h11, h12, h13, h14, h15, y16, y17, hB, hF⟩
    have hil : i < 18 := (List.getElem?_eq_some_iff.1 hi).1
    rcases i with _ | _ | _ | _ | _ | _ | _ | _ | _ | _ | _ | _ | _ | _ | _ | _ | _ | _ | i
    · obtain rfl := Option.some.inj hi
      clear hi hil
      have k := hF.out.2.1
      have x0 := k.p0
      have x1 := k.p1
      clear k
      refine wpOp_step rfl (fun K hK => ?_)
      have HKK := Lib.hid hK; clear hK
      simp only [putAll, Act.put, List.setIfInBounds_toArray, List.set_cons_zero, List.set_cons_succ]
      go_simp
      exact HKK.out _ _ ⟨_, by simp only [putAll, Act.put, List.setIfInBounds_toArray, List.set_cons_zero, List.set_cons_succ] <;> rfl, fun _ => rfl, h1, h2, h3, h4, h5, h6, h7, h8, h9, h10, h11, h12, h13, h14, h15, y16, y17, hB, hF⟩
    · obtain rfl := Option.some.inj hi
      clear hi hil
      have k := hF.out.2.2.1
      have x0 := k.p0
      have x1 := k.p1
      clear k
      refine wpOp_step rfl (fun K hK => ?_)
      have HKK := Lib.hid hK; clear hK
      simp only [putAll, Act.put, List.setIfInBounds_toArray, List.set_cons_zero, List.set_cons_succ]
      go_simp
      exact HKK.out _ _ ⟨_, by simp only [putAll, Act.put, List.setIfInBounds_toArray, List.set_cons_zero, List.set_cons_succ] <;> rfl, h0, fun _ => rfl, h2, h3, h4, h5, h6, h7, h8, h9, h10, h11, h12, h13, h14, h15, y16, y17, hB, hF⟩
    · obtain rfl := Option.some.inj hi
      clear hi hil
      have k := hF.out.2.2.2
      have x0 := k.p0
      have x1 := k.p1
      clear k
      refine wpOp_step rfl (fun K hK => ?_)
      have HKK := Lib.hid hK; clear hK
      simp only [putAll, Act.put, List.setIfInBounds_toArray, List.set_cons_zero, List.set_cons_succ]
      go_simp
      exact HKK.out _ _ ⟨_, by simp only [putAll, Act.put, List.setIfInBounds_toArray, List.set_cons_zero, List.set_cons_succ] <;> rfl, h0, h1, fun _ => rfl, h3, h4, h5, h6, h7, h8, h9, h10, h11, h12, h13, h14, h15, y16, y17, hB, hF⟩
    · obtain rfl := Option.some.inj hi
      clear hi hil
      have d0 := h0 (hall ⟨0, .data⟩ (by simp) rfl)
      have d1 := h1 (hall ⟨1, .data⟩ (by simp) rfl)
      have d2 := h2 (hall ⟨2, .data⟩ (by simp) rfl)
      refine wpOp_step rfl (fun K hK => ?_)
      have HKK := Lib.hid hK; clear hK
      simp only [putAll, Act.put, List.setIfInBounds_toArray, List.set_cons_zero, List.set_cons_succ]
      go_simp
      refine (HM1.out _).mono ?_
      rintro e w2 ⟨rfl, hb2⟩
      exact HKK.out _ _ ⟨_, by simp only [putAll, Act.put, List.setIfInBounds_toArray, List.set_cons_zero, List.set_cons_succ, d0, d1, d2] <;> rfl, h0, h1, h2, fun _ => rfl, h4, h5, h6, h7, h8, h9, h10, h11, h12, h13, h14, h15, fun h => Lib.hid (Own.grow (y16 h).out hb2), fun h => Lib.hid (Own.grow (y17 h).out hb2), Lib.hid ⟨(hB).out.1.trans (hb2.mono (hB).out.2), Nat.le_trans (hB).out.2 hb2.size⟩, Lib.hid (⟨(hF).out.1.grow hb2, (hF).out.2.1.grow hb2, (hF).out.2.2.1.grow hb2, (hF).out.2.2.2.grow hb2⟩)⟩
    · obtain rfl := Option.some.inj hi
      clear hi hil
      have k := hF.out.2.1
      have x0 := k.p0
      have x1 := k.p1
      clear k
      refine wpOp_step rfl (fun K hK => ?_)
      have HKK := Lib.hid hK; clear hK
      simp only [putAll, Act.put, List.setIfInBounds_toArray, List.set_cons_zero, List.set_cons_succ]
      go_simp
      exact HKK.out _ _ ⟨_, by simp only [putAll, Act.put, List.setIfInBounds_toArray, List.set_cons_zero, List.set_cons_succ] <;> rfl, h0, h1, h2, h3, fun _ => rfl, h5, h6, h7, h8, h9, h10, h11, h12, h13, h14, h15, y16, y17, hB, hF⟩
    · obtain rfl := Option.some.inj hi
      clear hi hil
      have k := hF.out.2.2.1
      have x0 := k.p0
      have x1 := k.p1
      clear k
      refine wpOp_step rfl (fun K hK => ?_)
      have HKK := Lib.hid hK; clear hK
      simp only [putAll, Act.put, List.setIfInBounds_toArray, List.set_cons_zero, List.set_cons_succ]
      go_simp
      exact HKK.out _ _ ⟨_, by simp only [putAll, Act.put, List.setIfInBounds_toArray, List.set_cons_zero, List.set_cons_succ] <;> rfl, h0, h1, h2, h3, h4, fun _ => rfl, h6, h7, h8, h9, h10, h11, h12, h13, h14, h15, y16, y17, hB, hF⟩
    · obtain rfl := Option.some.inj hi
      clear hi hil
      have k := hF.out.2.2.2
      have x0 := k.p0
      have x1 := k.p1
      clear k
      refine wpOp_step rfl (fun K hK => ?_)
      have HKK := Lib.hid hK; clear hK
      simp only [putAll, Act.put, List.setIfInBounds_toArray, List.set_cons_zero, List.set_cons_succ]
      go_simp
      exact HKK.out _ _ ⟨_, by simp only [putAll, Act.put, List.setIfInBounds_toArray, List.set_cons_zero, List.set_cons_succ] <;> rfl, h0, h1, h2, h3, h4, h5, fun _ => rfl, h7, h8, h9, h10, h11, h12, h13, h14, h15, y16, y17, hB, hF⟩
    · obtain rfl := Option.some.inj hi
      clear hi hil
      have d4 := h4 (hall ⟨4, .data⟩ (by simp) rfl)
      have d5 := h5 (hall ⟨5, .data⟩ (by simp) rfl)
      have d6 := h6 (hall ⟨6, .data⟩ (by simp) rfl)
      refine wpOp_step rfl (fun K hK => ?_)
      have HKK := Lib.hid hK; clear hK
      simp only [putAll, Act.put, List.setIfInBounds_toArray, List.set_cons_zero, List.set_cons_succ]
      go_simp
      refine (HM2.out _).mono ?_
      rintro e w2 ⟨rfl, hb2⟩
      exact HKK.out _ _ ⟨_, by simp only [putAll, Act.put, List.setIfInBounds_toArray, List.set_cons_zero, List.set_cons_succ, d4, d5, d6] <;> rfl, h0, h1, h2, h3, h4, h5, h6, fun _ => rfl, h8, h9, h10, h11, h12, h13, h14, h15, fun h => Lib.hid (Own.grow (y16 h).out hb2), fun h => Lib.hid (Own.grow (y17 h).out hb2), Lib.hid ⟨(hB).out.1.trans (hb2.mono (hB).out.2), Nat.le_trans (hB).out.2 hb2.size⟩, Lib.hid (⟨(hF).out.1.grow hb2, (hF).out.2.1.grow hb2, (hF).out.2.2.1.grow hb2, (hF).out.2.2.2.grow hb2⟩)⟩
    · obtain rfl := Option.some.inj hi
      clear hi hil
      have k := hF.out.2.1
      have x0 := k.p0
      have x1 := k.p1
      clear k
      refine wpOp_step rfl (fun K hK => ?_)
      have HKK := Lib.hid hK; clear hK
      simp only [putAll, Act.put, List.setIfInBounds_toArray, List.set_cons_zero, List.set_cons_succ]
      go_simp
      exact HKK.out _ _ ⟨_, by simp only [putAll, Act.put, List.setIfInBounds_toArray, List.set_cons_zero, List.set_cons_succ] <;> rfl, h0, h1, h2, h3, h4, h5, h6, h7, fun _ => rfl, h9, h10, h11, h12, h13, h14, h15, y16, y17, hB, hF⟩
    · obtain rfl := Option.some.inj hi
      clear hi hil
      have k := hF.out.2.2.1
      have x0 := k.p0
      have x1 := k.p1
      clear k
      refine wpOp_step rfl (fun K hK => ?_)
      have HKK := Lib.hid hK; clear hK
      simp only [putAll, Act.put, List.setIfInBounds_toArray, List.set_cons_zero, List.set_cons_succ]
      go_simp
      exact HKK.out _ _ ⟨_, by simp only [putAll, Act.put, List.setIfInBounds_toArray, List.set_cons_zero, List.set_cons_succ] <;> rfl, h0, h1, h2, h3, h4, h5, h6, h7, h8, fun _ => rfl, h10, h11, h12, h13, h14, h15, y16, y17, hB, hF⟩
    · obtain rfl := Option.some.inj hi
      clear hi hil
      have k := hF.out.2.2.2
      have x0 := k.p0
      have x1 := k.p1
      clear k
      refine wpOp_step rfl (fun K hK => ?_)
      have HKK := Lib.hid hK; clear hK
      simp only [putAll, Act.put, List.setIfInBounds_toArray, List.set_cons_zero, List.set_cons_succ]
      go_simp
      exact HKK.out _ _ ⟨_, by simp only [putAll, Act.put, List.setIfInBounds_toArray, List.set_cons_zero, List.set_cons_succ] <;> rfl, h0, h1, h2, h3, h4, h5, h6, h7, h8, h9, fun _ => rfl, h11, h12, h13, h14, h15, y16, y17, hB, hF⟩
    · obtain rfl := Option.some.inj hi
      clear hi hil
      have d8 := h8 (hall ⟨8, .data⟩ (by simp) rfl)
      have d9 := h9 (hall ⟨9, .data⟩ (by simp) rfl)
      have d10 := h10 (hall ⟨10, .data⟩ (by simp) rfl)
      refine wpOp_step rfl (fun K hK => ?_)
      have HKK := Lib.hid hK; clear hK
      simp only [putAll, Act.put, List.setIfInBounds_toArray, List.set_cons_zero, List.set_cons_succ]
      go_simp
      refine (HM3.out _).mono ?_
      rintro e w2 ⟨rfl, hb2⟩
      exact HKK.out _ _ ⟨_, by simp only [putAll, Act.put, List.setIfInBounds_toArray, List.set_cons_zero, List.set_cons_succ, d8, d9, d10] <;> rfl, h0, h1, h2, h3, h4, h5, h6, h7, h8, h9, h10, fun _ => rfl, h12, h13, h14, h15, fun h => Lib.hid (Own.grow (y16 h).out hb2), fun h => Lib.hid (Own.grow (y17 h).out hb2), Lib.hid ⟨(hB).out.1.trans (hb2.mono (hB).out.2), Nat.le_trans (hB).out.2 hb2.size⟩, Lib.hid (⟨(hF).out.1.grow hb2, (hF).out.2.1.grow hb2, (hF).out.2.2.1.grow hb2, (hF).out.2.2.2.grow hb2⟩)⟩
    · obtain rfl := Option.some.inj hi
      clear hi hil
      have k := hF.out.2.1
      have x0 := k.p0
      have x1 := k.p1
      clear k
      refine wpOp_step rfl (fun K hK => ?_)
      have HKK := Lib.hid hK; clear hK
      simp only [putAll, Act.put, List.setIfInBounds_toArray, List.set_cons_zero, List.set_cons_succ]
      go_simp
      exact HKK.out _ _ ⟨_, by simp only [putAll, Act.put, List.setIfInBounds_toArray, List.set_cons_zero, List.set_cons_succ] <;> rfl, h0, h1, h2, h3, h4, h5, h6, h7, h8, h9, h10, h11, fun _ => rfl, h13, h14, h15, y16, y17, hB, hF⟩
    · obtain rfl := Option.some.inj hi
      clear hi hil
      have k := hF.out.2.2.1
      have x0 := k.p0
      have x1 := k.p1
      clear k
      refine wpOp_step rfl (fun K hK => ?_)
      have HKK := Lib.hid hK; clear hK
      simp only [putAll, Act.put, List.setIfInBounds_toArray, List.set_cons_zero, List.set_cons_succ]
      go_simp
      exact HKK.out _ _ ⟨_, by simp only [putAll, Act.put, List.setIfInBounds_toArray, List.set_cons_zero, List.set_cons_succ] <;> rfl, h0, h1, h2, h3, h4, h5, h6, h7, h8, h9, h10, h11, h12, fun _ => rfl, h14, h15, y16, y17, hB, hF⟩
    · obtain rfl := Option.some.inj hi
      clear hi hil
      have k := hF.out.2.2.2
      have x0 := k.p0
      have x1 := k.p1
      clear k
      refine wpOp_step rfl (fun K hK => ?_)
      have HKK := Lib.hid hK; clear hK
      simp only [putAll, Act.put, List.setIfInBounds_toArray, List.set_cons_zero, List.set_cons_succ]
      go_simp
      exact HKK.out _ _ ⟨_, by simp only [putAll, Act.put, List.setIfInBounds_toArray, List.set_cons_zero, List.set_cons_succ] <;> rfl, h0, h1, h2, h3, h4, h5, h6, h7, h8, h9, h10, h11, h12, h13, fun _ => rfl, h15, y16, y17, hB, hF⟩
    · obtain rfl := Option.some.inj hi
      clear hi hil
      have d12 := h12 (hall ⟨12, .data⟩ (by simp) rfl)
      have d13 := h13 (hall ⟨13, .data⟩ (by simp) rfl)
      have d14 := h14 (hall ⟨14, .data⟩ (by simp) rfl)
      refine wpOp_step rfl (fun K hK => ?_)
      have HKK := Lib.hid hK; clear hK
      simp only [putAll, Act.put, List.setIfInBounds_toArray, List.set_cons_zero, List.set_cons_succ]
      go_simp
      refine (HM4.out _).mono ?_
      rintro e w2 ⟨rfl, hb2⟩
      exact HKK.out _ _ ⟨_, by simp only [putAll, Act.put, List.setIfInBounds_toArray, List.set_cons_zero, List.set_cons_succ, d12, d13, d14] <;> rfl, h0, h1, h2, h3, h4, h5, h6, h7, h8, h9, h10, h11, h12, h13, h14, fun _ => rfl, fun h => Lib.hid (Own.grow (y16 h).out hb2), fun h => Lib.hid (Own.grow (y17 h).out hb2), Lib.hid ⟨(hB).out.1.trans (hb2.mono (hB).out.2), Nat.le_trans (hB).out.2 hb2.size⟩, Lib.hid (⟨(hF).out.1.grow hb2, (hF).out.2.1.grow hb2, (hF).out.2.2.1.grow hb2, (hF).out.2.2.2.grow hb2⟩)⟩
    · obtain rfl := Option.some.inj hi
      clear hi hil
      have d3 := h3 (hall ⟨3, .data⟩ (by simp) rfl)
      have d7 := h7 (hall ⟨7, .data⟩ (by simp) rfl)
      have d11 := h11 (hall ⟨11, .data⟩ (by simp) rfl)
      have d15 := h15 (hall ⟨15, .data⟩ (by simp) rfl)
      refine wpOp_step rfl (fun K hK => ?_)
      have HKK := Lib.hid hK; clear hK
      simp only [putAll, Act.put, List.setIfInBounds_toArray, List.set_cons_zero, List.set_cons_succ]
      go_simp
      have hb2 : Below w'.heap.size w' (w'.alloc (.cells (flat [q1, q2, q3, q4]) 32)) := (Below.refl _ _).alloc (Nat.le_refl _) _
      exact HKK.out _ _ ⟨_, by simp only [putAll, Act.put, List.setIfInBounds_toArray, List.set_cons_zero, List.set_cons_succ, d3, d7, d11, d15] <;> rfl, h0, h1, h2, h3, h4, h5, h6, h7, h8, h9, h10, h11, h12, h13, h14, h15, fun _ => Lib.hid (Own.made w' hB.out.2 32 [q1, q2, q3, q4] _ 4 rfl rfl (by decide)), fun h => Lib.hid (Own.grow (y17 h).out hb2), Lib.hid ⟨(hB).out.1.trans (hb2.mono (hB).out.2), Nat.le_trans (hB).out.2 hb2.size⟩, Lib.hid (⟨(hF).out.1.grow hb2, (hF).out.2.1.grow hb2, (hF).out.2.2.1.grow hb2, (hF).out.2.2.2.grow hb2⟩)⟩
    · obtain rfl := Option.some.inj hi
      clear hi hil
      have o16 := y16 (hall ⟨16, .data⟩ (by simp) rfl)
      refine wpOp_step rfl (fun K hK => ?_)
      have HKK := Lib.hid hK; clear hK
      simp only [putAll, Act.put, List.setIfInBounds_toArray, List.set_cons_zero, List.set_cons_succ]
      go_simp
      exact HKK.out _ _ ⟨_, by simp only [putAll, Act.put, List.setIfInBounds_toArray, List.set_cons_zero, List.set_cons_succ] <;> rfl, h0, h1, h2, h3, h4, h5, h6, h7, h8, h9, h10, h11, h12, h13, h14, h15, y16, fun _ => Lib.hid (o16.out), hB, hF⟩
    · omega
  · rintro b' vs w2 hall ⟨h0, h1, h2, h3, h4, h5, h6, h7, h8, h9, h10, h11, h12, h13, h14, h15, y16, y17, hB, hF⟩
    have d0 := h0 (hall 0 (by simp))
    have d1 := h1 (hall 1 (by simp))
    have d2 := h2 (hall 2 (by simp))
    have d3 := h3 (hall 3 (by simp))
    have d4 := h4 (hall 4 (by simp))
    have d5 := h5 (hall 5 (by simp))
    have d6 := h6 (hall 6 (by simp))
    have d7 := h7 (hall 7 (by simp))
    have d8 := h8 (hall 8 (by simp))
    have d9 := h9 (hall 9 (by simp))
    have d10 := h10 (hall 10 (by simp))
    have d11 := h11 (hall 11 (by simp))
    have d12 := h12 (hall 12 (by simp))
    have d13 := h13 (hall 13 (by simp))
    have d14 := h14 (hall 14 (by simp))
    have d15 := h15 (hall 15 (by simp))
    have o16 := y16 (hall 16 (by simp))
    have o17 := y17 (hall 17 (by simp))
    have BB := hB
    have FF := hF
    simp only [putAll, Act.put, List.setIfInBounds_toArray, List.set_cons_zero, List.set_cons_succ, d0, d1, d2, d3, d4, d5, d6, d7, d8, d9, d10, d11, d12, d13, d14, d15]
    clear hall h0 d0 h1 d1 h2 d2 h3 d3 h4 d4 h5 d5 h6 d6 h7 d7 h8 d8 h9 d9 h10 d10 h11 d11 h12 d12 h13 d13 h14 d14 h15 d15 y16 y17 hB hF
    go_wp2_with fail
    go_ret
    exact ⟨_, rfl, o17.out, BB.out.1⟩
theorem rlast_c (a b : Pt) (h : Int) (ha : roomP a = true) (hb : roomP b = true) (hl : lenOk (subP b a)) (h0 : subP b a ≠ (0, 0)) (hp : 1 ≤ h ∧ h ≤ 32768) (w : World) :
    Calls Tryd.prog 46 #[.agg #[.int .i64 a.1, .int .i64 a.2], .agg #[.int .i64 b.1, .int .i64 b.2], .int .i64 h] w fun e w' => ∃ v, e = .returned v ∧ Own w' w.heap.size 32 v (tailI a b h) ∧ Below w.heap.size w w' := by
  have hm := mid_step hl h0 (k := h) (by omega) hp.2
  have hma := mid_of_room ha
  have hmb := mid_of_room hb
  have key := rlast_walk a b (stepS (subP b a) h) (stepA (subP b a) h) _ _ _ _ h w (Lib.hid (steps_c a b h ha hb hl h0 hp))
    (Lib.hid (mix_c b _ _ (-1) 0 hmb hm.1 hm.2 (.inl rfl) (.inr (.inl rfl))))
    (Lib.hid (mix_c b _ _ (-1) 1 hmb hm.1 hm.2 (.inl rfl) (.inr (.inr rfl))))
    (Lib.hid (mix_c b _ _ 1 1 hmb hm.1 hm.2 (.inr (.inr rfl)) (.inr (.inr rfl))))
    (Lib.hid (mix_c b _ _ 1 0 hmb hm.1 hm.2 (.inr (.inr rfl)) (.inr (.inl rfl))))
  rw [show tailI a b h = [mixI b (-1) (stepS (subP b a) h) 0 (stepA (subP b a) h), mixI b (-1) (stepS (subP b a) h) 1 (stepA (subP b a) h), mixI b 1 (stepS (subP b a) h) 1 (stepA (subP b a) h), mixI b 1 (stepS (subP b a) h) 0 (stepA (subP b a) h)] from ?_]
  · exact key
  · simp only [tailI, slabI, mixI, addP, subP, List.cons.injEq, Prod.mk.injEq, and_true]
    omega
end Go.Proofs.YtdidbejinfkhbaaDoor
