/- Layer 7: the way from a point to another. -/
import Derived.Test.YtdidbejinfkhbaaDoorSc
namespace Go.Proofs.YtdidbejinfkhbaaDoor
open Go.RowKit
theorem run_max4 {P : Program} (w : World) (ts : Array TypeId) (t : TypeId) (k : IntKind) (x y z u : Int) :
    (Builtin.max_ ts t #[.int k x, .int k y, .int k z, .int k u]).run P w = .ok (.int k (max (max (max x y) z) u)) w := by
  have e : ∀ a b : Int, (if b > a then b else a) = max a b := fun a b => by
    rw [Int.max_def]
    split <;> split <;> omega
  simp [Builtin.max_, Builtin.max2, e]
theorem results_pair {fn : Func} {tmps : Array Value} {w : World} {g : Nat} {p : Pt} {z : Int} (t s : Nat) (hres : fn.results = #[.cell t 23, .tmp s]) (ht : tmps[t]? = some (.pointer (some ⟨g, 0, none⟩))) (hs : tmps[s]? = some (.int .i64 z)) (h : Blk w g 23 (two p)) :
    (results fn tmps).run Tryd.prog w = .ok (.tuple #[.agg #[.int .i64 p.1, .int .i64 p.2], .int .i64 z]) w := by
  have h0 : w.cell? ⟨g, 0, none⟩ = some (.int .i64 p.1) := h.cell 0
  have h1 : w.cell? ⟨g, 1, none⟩ = some (.int .i64 p.2) := h.cell 1
  simp [results, hres, ht, hs, go_sem, h0, h1]
set_option maxHeartbeats 1000000 in
set_option maxRecDepth 100000 in
theorem way_near (ax ay bx bY x y M : Int) (w : World) (e1 : wrap64 (-x) = -x) (e2 : wrap64 (-y) = -y)
    (HM : Hid (∀ w, (Builtin.max_ #[3, 3, 3, 3] 3 #[.int .i64 x, .int .i64 (-x), .int .i64 y, .int .i64 (-y)]).run Tryd.prog w = .ok (.int .i64 M) w)) (hd : decide (M > 536870912) = false)
    (HL : Hid (∀ w, Calls Tryd.prog 64 #[.agg #[.int .i64 bx, .int .i64 bY], .agg #[.int .i64 ax, .int .i64 ay]] w fun e w' => e = .returned (.agg #[.int .i64 x, .int .i64 y]) ∧ Below w.heap.size w w')) :
    Calls Tryd.prog 55 #[.agg #[.int .i64 ax, .int .i64 ay], .agg #[.int .i64 bx, .int .i64 bY]] w fun e w' => e = .returned (.tuple #[.agg #[.int .i64 x, .int .i64 y], .int .i64 0]) ∧ Below w.heap.size w w' := by
  go_enter Tryd.func55, Tryd.ntmps55
  go_wp2_with fail
  refine (HL.out _).mono ?_
  rintro e w1 ⟨rfl, hb⟩
  have W1 : Hid (Below w.heap.size w w1 ∧ w.heap.size + 2 < w1.heap.size ∧ Blk w1 (w.heap.size + 2) 23 (two (0, 0))) :=
    ⟨((((Below.refl _ _).alloc (Nat.le_refl _) _).alloc (by simp) _).alloc (by simp; omega) _).trans (hb.mono (by simp; omega)), by have := hb.size; simp at this; omega, (Blk.newAt _ 23 (two (0, 0)) (by simp)).grow hb⟩
  clear hb
  have kr := W1.out.2.2
  have c0 : w1.cell? ⟨w.heap.size + 1 + 1, 0, none⟩ = some (.int .i64 0) := kr.p0
  have c1 : w1.cell? ⟨w.heap.size + 1 + 1, 1, none⟩ = some (.int .i64 0) := kr.p1
  have f0 : w1.frozen? ⟨w.heap.size + 1 + 1, 0, none⟩ = false := kr.free 0
  have f1 : w1.frozen? ⟨w.heap.size + 1 + 1, 1, none⟩ = false := kr.free 1
  have lr : w.heap.size + 1 + 1 < w1.heap.size := kr.lt
  clear kr
  have hM := HM.out
  go_wp2_with fail
  exact bodyPost_ret (results_pair (p := (x, y)) 4 5 rfl rfl rfl ((W1.out.2.2.setP _ _).alloc _)) rfl ⟨rfl, (below_two W1.out.1 (by omega) _ _).alloc (by simp; omega) _⟩
set_option maxHeartbeats 1000000 in
set_option maxRecDepth 100000 in
theorem way_far (ax ay bx bY x y M : Int) (w : World) (e1 : wrap64 (-x) = -x) (e2 : wrap64 (-y) = -y)
    (HM : Hid (∀ w, (Builtin.max_ #[3, 3, 3, 3] 3 #[.int .i64 x, .int .i64 (-x), .int .i64 y, .int .i64 (-y)]).run Tryd.prog w = .ok (.int .i64 M) w)) (hd : decide (M > 536870912) = true)
    (HL : Hid (∀ w, Calls Tryd.prog 64 #[.agg #[.int .i64 bx, .int .i64 bY], .agg #[.int .i64 ax, .int .i64 ay]] w fun e w' => e = .returned (.agg #[.int .i64 x, .int .i64 y]) ∧ Below w.heap.size w w')) :
    Calls Tryd.prog 55 #[.agg #[.int .i64 ax, .int .i64 ay], .agg #[.int .i64 bx, .int .i64 bY]] w fun e w' => e = .returned (.tuple #[.agg #[.int .i64 0, .int .i64 0], .int .i64 10]) ∧ Below w.heap.size w w' := by
  go_enter Tryd.func55, Tryd.ntmps55
  go_wp2_with fail
  refine (HL.out _).mono ?_
  rintro e w1 ⟨rfl, hb⟩
  have W1 : Hid (Below w.heap.size w w1 ∧ w.heap.size + 2 < w1.heap.size ∧ Blk w1 (w.heap.size + 2) 23 (two (0, 0))) :=
    ⟨((((Below.refl _ _).alloc (Nat.le_refl _) _).alloc (by simp) _).alloc (by simp; omega) _).trans (hb.mono (by simp; omega)), by have := hb.size; simp at this; omega, (Blk.newAt _ 23 (two (0, 0)) (by simp)).grow hb⟩
  clear hb
  have kr := W1.out.2.2
  have c0 : w1.cell? ⟨w.heap.size + 1 + 1, 0, none⟩ = some (.int .i64 0) := kr.p0
  have c1 : w1.cell? ⟨w.heap.size + 1 + 1, 1, none⟩ = some (.int .i64 0) := kr.p1
  have f0 : w1.frozen? ⟨w.heap.size + 1 + 1, 0, none⟩ = false := kr.free 0
  have f1 : w1.frozen? ⟨w.heap.size + 1 + 1, 1, none⟩ = false := kr.free 1
  have lr : w.heap.size + 1 + 1 < w1.heap.size := kr.lt
  clear kr
  have hM := HM.out
  go_wp2_with fail
  exact bodyPost_ret (results_pair (p := (0, 0)) 4 5 rfl rfl rfl ((W1.out.2.2.setP _ _).alloc _)) rfl ⟨rfl, (below_two W1.out.1 (by omega) _ _).alloc (by simp; omega) _⟩
theorem mid_of_room {p : Pt} (h : roomP p = true) : mid62 p := by
  rw [roomP_iff] at h
  unfold mid62; omega
theorem way_c (a b : Pt) (ha : roomP a = true) (hb : roomP b = true) (h : lenOk (subP b a)) (w : World) :
    Calls Tryd.prog 55 #[.agg #[.int .i64 a.1, .int .i64 a.2], .agg #[.int .i64 b.1, .int .i64 b.2]] w fun e w' => e = .returned (.tuple #[.agg #[.int .i64 (subP b a).1, .int .i64 (subP b a).2], .int .i64 0]) ∧ Below w.heap.size w w' := by
  obtain ⟨h1, h2, h3, h4⟩ := h
  exact way_near a.1 a.2 b.1 b.2 _ _ _ w (wrapR _ (by omega) (by omega)) (wrapR _ (by omega) (by omega)) (Lib.hid fun w => run_max4 w _ _ _ _ _ _ _) (by simp only [decide_eq_false_iff_not, Int.not_lt, gt_iff_lt]; omega)
    (Lib.hid fun w => less_c b a (mid_of_room hb) (mid_of_room ha) w)
theorem way_no (a b : Pt) (ha : roomP a = true) (hb : roomP b = true) (h : ¬ lenOk (subP b a)) (w : World) :
    Calls Tryd.prog 55 #[.agg #[.int .i64 a.1, .int .i64 a.2], .agg #[.int .i64 b.1, .int .i64 b.2]] w fun e w' => e = .returned (.tuple #[.agg #[.int .i64 0, .int .i64 0], .int .i64 10]) ∧ Below w.heap.size w w' := by
  have h2 : ¬ (-536870912 ≤ (subP b a).1 ∧ (subP b a).1 ≤ 536870912 ∧ -536870912 ≤ (subP b a).2 ∧ (subP b a).2 ≤ 536870912) := h
  have ra := roomP_iff.1 ha
  have rb := roomP_iff.1 hb
  have d1 : (subP b a).1 = b.1 - a.1 := rfl
  have d2 : (subP b a).2 = b.2 - a.2 := rfl
  exact way_far a.1 a.2 b.1 b.2 _ _ _ w (wrapR _ (by omega) (by omega)) (wrapR _ (by omega) (by omega)) (Lib.hid fun w => run_max4 w _ _ _ _ _ _ _) (by simp only [decide_eq_true_eq, gt_iff_lt]; omega)
    (Lib.hid fun w => less_c b a (mid_of_room hb) (mid_of_room ha) w)
/-- A row and an error, of a call. -/
def TupR (n : Nat) (T : TypeId) (z : Int) (l : List Pt) (u : Value) (w : World) : Prop := ∃ v, u = .tuple #[v, .int .i64 z] ∧ Own w n T v l
theorem TupR.grow {n : Nat} {T : TypeId} {z : Int} {l : List Pt} {u : Value} {w w' : World} (h : TupR n T z l u w) (hb : Below w.heap.size w w') : TupR n T z l u w' := by
  obtain ⟨v, e, ho⟩ := h
  exact ⟨v, e, ho.grow hb⟩
/-- A polygon, if all of it is in room. -/
def roomOut (l : List Pt) : Int × List Pt := if l.all roomP then (0, l) else (10, [])
theorem inRoom_own {w : World} {n : Nat} {T : TypeId} {s : Value} {l : List Pt} (h : Own w n T s l) (hl : l.length ≤ 100000) (_hn : n ≤ w.heap.size) :
    Calls Tryd.prog 31 #[s] w fun e w' => ∃ u, e = .returned (.tuple #[u, .int .i64 (roomOut l).1]) ∧ Own w' n T u (roomOut l).2 ∧ Below w.heap.size w w' := by
  refine (inRoom_c s l w hl h.row).mono ?_
  rintro e w' ⟨rfl, hb⟩
  unfold roomOut
  cases l.all roomP
  · exact ⟨_, rfl, Own.nil _ _ _, hb⟩
  · exact ⟨_, rfl, h.grow hb, hb⟩
def slabI (a b n : Pt) : List Pt := [subP a n, subP b n, addP b n, addP a n]
set_option maxHeartbeats 4000000 in
set_option maxRecDepth 100000 in
theorem slab_c (a b n : Pt) (ha : mid62 a) (hb : mid62 b) (hn : mid62 n) (w : World) :
    Calls Tryd.prog 56 #[.agg #[.int .i64 a.1, .int .i64 a.2], .agg #[.int .i64 b.1, .int .i64 b.2], .agg #[.int .i64 n.1, .int .i64 n.2]] w fun e w' => ∃ v, e = .returned (.tuple #[v, .int .i64 (roomOut (slabI a b n)).1]) ∧ Own w' w.heap.size 23 v (roomOut (slabI a b n)).2 ∧ Below w.heap.size w w' := by
  have HA := Lib.hid ha
  have HB := Lib.hid hb
  have HN := Lib.hid hn
  clear ha hb hn
  go_enter Tryd.func56, Tryd.ntmps56
  go_wp2_with fail
  obtain ⟨w0, hw0⟩ : ∃ W, ((w.alloc (.cells #[.int .i64 a.1, .int .i64 a.2] 23)).alloc (.cells #[.int .i64 b.1, .int .i64 b.2] 23)).alloc (.cells #[.int .i64 n.1, .int .i64 n.2] 23) = W := ⟨_, rfl⟩
  have S0 : Hid (Below w.heap.size w w0 ∧ w.heap.size ≤ w0.heap.size ∧ Blk w0 w.heap.size 23 (two a) ∧ Blk w0 (w.heap.size + 1) 23 (two b) ∧ Blk w0 (w.heap.size + 1 + 1) 23 (two n)) := by
    rw [← hw0]
    exact ⟨(((Below.refl _ _).alloc (Nat.le_refl _) _).alloc (by simp) _).alloc (by simp; omega) _, by simp; omega, ((Blk.new _ _ _).alloc _).alloc _, (Blk.newAt _ _ _ (by simp)).alloc _, Blk.newAt _ _ _ (by simp)⟩
  rw [hw0]
  clear hw0
  refine wp_region_put (by kernel_rfl) (by kernel_rfl) (by kernel_rfl) (fun b' vs w' => (b' 0 = true → vs 0 = .agg #[.int .i64 a.1, .int .i64 a.2]) ∧ (b' 1 = true → vs 1 = .agg #[.int .i64 n.1, .int .i64 n.2]) ∧ (b' 2 = true → vs 2 = .agg #[.int .i64 (subP a n).1, .int .i64 (subP a n).2]) ∧ (b' 3 = true → vs 3 = .agg #[.int .i64 b.1, .int .i64 b.2]) ∧ (b' 4 = true → vs 4 = .agg #[.int .i64 n.1, .int .i64 n.2]) ∧ (b' 5 = true → vs 5 = .agg #[.int .i64 (subP b n).1, .int .i64 (subP b n).2]) ∧ (b' 6 = true → vs 6 = .agg #[.int .i64 b.1, .int .i64 b.2]) ∧ (b' 7 = true → vs 7 = .agg #[.int .i64 n.1, .int .i64 n.2]) ∧ (b' 8 = true → vs 8 = .agg #[.int .i64 (addP b n).1, .int .i64 (addP b n).2]) ∧ (b' 9 = true → vs 9 = .agg #[.int .i64 a.1, .int .i64 a.2]) ∧ (b' 10 = true → vs 10 = .agg #[.int .i64 n.1, .int .i64 n.2]) ∧ (b' 11 = true → vs 11 = .agg #[.int .i64 (addP a n).1, .int .i64 (addP a n).2]) ∧ (b' 15 = true → vs 15 = .int .i64 (roomOut (slabI a b n)).1) ∧ (b' 17 = true → vs 17 = .int .i64 (roomOut (slabI a b n)).1) ∧ (b' 12 = true → Hid (Own w' w.heap.size 23 (vs 12) (slabI a b n))) ∧ (b' 13 = true → Hid (TupR w.heap.size 23 (roomOut (slabI a b n)).1 (roomOut (slabI a b n)).2 (vs 13) w')) ∧ (b' 14 = true → Hid (Own w' w.heap.size 23 (vs 14) ((roomOut (slabI a b n)).2))) ∧ (b' 16 = true → Hid (Own w' w.heap.size 23 (vs 16) ((roomOut (slabI a b n)).2))) ∧ (Hid (Below w.heap.size w w' ∧ w.heap.size ≤ w'.heap.size)) ∧ (Hid (Blk w' w.heap.size 23 (two a) ∧ Blk w' (w.heap.size + 1) 23 (two b) ∧ Blk w' (w.heap.size + 1 + 1) 23 (two n)))) ?_ ?_ ?_
  · intro vs
    exact ⟨fun h => Bool.noConfusion h, fun h => Bool.noConfusion h, fun h => Bool.noConfusion h, fun h => Bool.noConfusion h, fun h => Bool.noConfusion h, fun h => Bool.noConfusion h, fun h => Bool.noConfusion h, fun h => Bool.noConfusion h, fun h => Bool.noConfusion h, fun h => Bool.noConfusion h, fun h => Bool.noConfusion h, fun h => Bool.noConfusion h, fun h => Bool.noConfusion h, fun h => Bool.noConfusion h, fun h => Bool.noConfusion h, fun h => Bool.noConfusion h, fun h => Bool.noConfusion h, fun h => Bool.noConfusion h, Lib.hid ⟨below_drewN S0.out.1 1, S0.out.2.1⟩, Lib.hid ⟨S0.out.2.2.1.grow ⟨rfl, rfl, rfl, Nat.le_refl _, fun _ _ => rfl⟩, S0.out.2.2.2.1.grow ⟨rfl, rfl, rfl, Nat.le_refl _, fun _ _ => rfl⟩, S0.out.2.2.2.2.grow ⟨rfl, rfl, rfl, Nat.le_refl _, fun _ _ => rfl⟩⟩⟩
  · rintro b' vs w' i op hi hun hall ⟨h0, h1, h2, h3, h4, h5, h6, h7, h8, h9, h10, h11, h15, h17, y12, y13, y14, y16, hB, hF⟩
    have hil : i < 18 := (List.getElem?_eq_some_iff.1 hi).1
    rcases i with _ | _ | _ | _ | _ | _ | _ | _ | _ | _ | _ | _ | _ | _ | _ | _ | _ | _ | i
    · obtain rfl := Option.some.inj hi
      clear hi hil
      have k := hF.out.1
      have x0 := k.p0
      have x1 := k.p1
      clear k
      refine wpOp_step rfl (fun K hK => ?_)
      have HKK := Lib.hid hK; clear hK
      simp only [putAll, Act.put, List.setIfInBounds_toArray, List.set_cons_zero, List.set_cons_succ]
      go_simp
      exact HKK.out _ _ ⟨_, by simp only [putAll, Act.put, List.setIfInBounds_toArray, List.set_cons_zero, List.set_cons_succ] <;> rfl, fun _ => rfl, h1, h2, h3, h4, h5, h6, h7, h8, h9, h10, h11, h15, h17, y12, y13, y14, y16, hB, hF⟩
    · obtain rfl := Option.some.inj hi
      clear hi hil
      have k := hF.out.2.2
      have x0 := k.p0
      have x1 := k.p1
      clear k
      refine wpOp_step rfl (fun K hK => ?_)
      have HKK := Lib.hid hK; clear hK
      simp only [putAll, Act.put, List.setIfInBounds_toArray, List.set_cons_zero, List.set_cons_succ]
      go_simp
      exact HKK.out _ _ ⟨_, by simp only [putAll, Act.put, List.setIfInBounds_toArray, List.set_cons_zero, List.set_cons_succ] <;> rfl, h0, fun _ => rfl, h2, h3, h4, h5, h6, h7, h8, h9, h10, h11, h15, h17, y12, y13, y14, y16, hB, hF⟩
    · obtain rfl := Option.some.inj hi
      clear hi hil
      have d0 := h0 (hall ⟨0, .data⟩ (by simp) rfl)
      have d1 := h1 (hall ⟨1, .data⟩ (by simp) rfl)
      refine wpOp_step rfl (fun K hK => ?_)
      have HKK := Lib.hid hK; clear hK
      simp only [putAll, Act.put, List.setIfInBounds_toArray, List.set_cons_zero, List.set_cons_succ]
      go_simp
      refine (less_c a n HA.out HN.out _).mono ?_
      rintro e w2 ⟨rfl, hb2⟩
      exact HKK.out _ _ ⟨_, by simp only [putAll, Act.put, List.setIfInBounds_toArray, List.set_cons_zero, List.set_cons_succ, d0, d1] <;> rfl, h0, h1, fun _ => rfl, h3, h4, h5, h6, h7, h8, h9, h10, h11, h15, h17, fun h => Lib.hid (Own.grow (y12 h).out hb2), fun h => Lib.hid (TupR.grow (y13 h).out hb2), fun h => Lib.hid (Own.grow (y14 h).out hb2), fun h => Lib.hid (Own.grow (y16 h).out hb2), Lib.hid ⟨(hB).out.1.trans (hb2.mono (hB).out.2), Nat.le_trans (hB).out.2 hb2.size⟩, Lib.hid (⟨(hF).out.1.grow hb2, (hF).out.2.1.grow hb2, (hF).out.2.2.grow hb2⟩)⟩
    · obtain rfl := Option.some.inj hi
      clear hi hil
      have k := hF.out.2.1
      have x0 := k.p0
      have x1 := k.p1
      clear k
      refine wpOp_step rfl (fun K hK => ?_)
      have HKK := Lib.hid hK; clear hK
      simp only [putAll, Act.put, List.setIfInBounds_toArray, List.set_cons_zero, List.set_cons_succ]
      go_simp
      exact HKK.out _ _ ⟨_, by simp only [putAll, Act.put, List.setIfInBounds_toArray, List.set_cons_zero, List.set_cons_succ] <;> rfl, h0, h1, h2, fun _ => rfl, h4, h5, h6, h7, h8, h9, h10, h11, h15, h17, y12, y13, y14, y16, hB, hF⟩
    · obtain rfl := Option.some.inj hi
      clear hi hil
      have k := hF.out.2.2
      have x0 := k.p0
      have x1 := k.p1
      clear k
      refine wpOp_step rfl (fun K hK => ?_)
      have HKK := Lib.hid hK; clear hK
      simp only [putAll, Act.put, List.setIfInBounds_toArray, List.set_cons_zero, List.set_cons_succ]
      go_simp
      exact HKK.out _ _ ⟨_, by simp only [putAll, Act.put, List.setIfInBounds_toArray, List.set_cons_zero, List.set_cons_succ] <;> rfl, h0, h1, h2, h3, fun _ => rfl, h5, h6, h7, h8, h9, h10, h11, h15, h17, y12, y13, y14, y16, hB, hF⟩
    · obtain rfl := Option.some.inj hi
      clear hi hil
      have d3 := h3 (hall ⟨3, .data⟩ (by simp) rfl)
      have d4 := h4 (hall ⟨4, .data⟩ (by simp) rfl)
      refine wpOp_step rfl (fun K hK => ?_)
      have HKK := Lib.hid hK; clear hK
      simp only [putAll, Act.put, List.setIfInBounds_toArray, List.set_cons_zero, List.set_cons_succ]
      go_simp
      refine (less_c b n HB.out HN.out _).mono ?_
      rintro e w2 ⟨rfl, hb2⟩
      exact HKK.out _ _ ⟨_, by simp only [putAll, Act.put, List.setIfInBounds_toArray, List.set_cons_zero, List.set_cons_succ, d3, d4] <;> rfl, h0, h1, h2, h3, h4, fun _ => rfl, h6, h7, h8, h9, h10, h11, h15, h17, fun h => Lib.hid (Own.grow (y12 h).out hb2), fun h => Lib.hid (TupR.grow (y13 h).out hb2), fun h => Lib.hid (Own.grow (y14 h).out hb2), fun h => Lib.hid (Own.grow (y16 h).out hb2), Lib.hid ⟨(hB).out.1.trans (hb2.mono (hB).out.2), Nat.le_trans (hB).out.2 hb2.size⟩, Lib.hid (⟨(hF).out.1.grow hb2, (hF).out.2.1.grow hb2, (hF).out.2.2.grow hb2⟩)⟩
    · obtain rfl := Option.some.inj hi
      clear hi hil
      have k := hF.out.2.1
      have x0 := k.p0
      have x1 := k.p1
      clear k
      refine wpOp_step rfl (fun K hK => ?_)
      have HKK := Lib.hid hK; clear hK
      simp only [putAll, Act.put, List.setIfInBounds_toArray, List.set_cons_zero, List.set_cons_succ]
      go_simp
      exact HKK.out _ _ ⟨_, by simp only [putAll, Act.put, List.setIfInBounds_toArray, List.set_cons_zero, List.set_cons_succ] <;> rfl, h0, h1, h2, h3, h4, h5, fun _ => rfl, h7, h8, h9, h10, h11, h15, h17, y12, y13, y14, y16, hB, hF⟩
    · obtain rfl := Option.some.inj hi
      clear hi hil
      have k := hF.out.2.2
      have x0 := k.p0
      have x1 := k.p1
      clear k
      refine wpOp_step rfl (fun K hK => ?_)
      have HKK := Lib.hid hK; clear hK
      simp only [putAll, Act.put, List.setIfInBounds_toArray, List.set_cons_zero, List.set_cons_succ]
      go_simp
      exact HKK.out _ _ ⟨_, by simp only [putAll, Act.put, List.setIfInBounds_toArray, List.set_cons_zero, List.set_cons_succ] <;> rfl, h0, h1, h2, h3, h4, h5, h6, fun _ => rfl, h8, h9, h10, h11, h15, h17, y12, y13, y14, y16, hB, hF⟩
    · obtain rfl := Option.some.inj hi
      clear hi hil
      have d6 := h6 (hall ⟨6, .data⟩ (by simp) rfl)
      have d7 := h7 (hall ⟨7, .data⟩ (by simp) rfl)
      refine wpOp_step rfl (fun K hK => ?_)
      have HKK := Lib.hid hK; clear hK
      simp only [putAll, Act.put, List.setIfInBounds_toArray, List.set_cons_zero, List.set_cons_succ]
      go_simp
      refine (plus_c b n HB.out HN.out _).mono ?_
      rintro e w2 ⟨rfl, hb2⟩
      exact HKK.out _ _ ⟨_, by simp only [putAll, Act.put, List.setIfInBounds_toArray, List.set_cons_zero, List.set_cons_succ, d6, d7] <;> rfl, h0, h1, h2, h3, h4, h5, h6, h7, fun _ => rfl, h9, h10, h11, h15, h17, fun h => Lib.hid (Own.grow (y12 h).out hb2), fun h => Lib.hid (TupR.grow (y13 h).out hb2), fun h => Lib.hid (Own.grow (y14 h).out hb2), fun h => Lib.hid (Own.grow (y16 h).out hb2), Lib.hid ⟨(hB).out.1.trans (hb2.mono (hB).out.2), Nat.le_trans (hB).out.2 hb2.size⟩, Lib.hid (⟨(hF).out.1.grow hb2, (hF).out.2.1.grow hb2, (hF).out.2.2.grow hb2⟩)⟩
    · obtain rfl := Option.some.inj hi
      clear hi hil
      have k := hF.out.1
      have x0 := k.p0
      have x1 := k.p1
      clear k
      refine wpOp_step rfl (fun K hK => ?_)
      have HKK := Lib.hid hK; clear hK
      simp only [putAll, Act.put, List.setIfInBounds_toArray, List.set_cons_zero, List.set_cons_succ]
      go_simp
      exact HKK.out _ _ ⟨_, by simp only [putAll, Act.put, List.setIfInBounds_toArray, List.set_cons_zero, List.set_cons_succ] <;> rfl, h0, h1, h2, h3, h4, h5, h6, h7, h8, fun _ => rfl, h10, h11, h15, h17, y12, y13, y14, y16, hB, hF⟩
    · obtain rfl := Option.some.inj hi
      clear hi hil
      have k := hF.out.2.2
      have x0 := k.p0
      have x1 := k.p1
      clear k
      refine wpOp_step rfl (fun K hK => ?_)
      have HKK := Lib.hid hK; clear hK
      simp only [putAll, Act.put, List.setIfInBounds_toArray, List.set_cons_zero, List.set_cons_succ]
      go_simp
      exact HKK.out _ _ ⟨_, by simp only [putAll, Act.put, List.setIfInBounds_toArray, List.set_cons_zero, List.set_cons_succ] <;> rfl, h0, h1, h2, h3, h4, h5, h6, h7, h8, h9, fun _ => rfl, h11, h15, h17, y12, y13, y14, y16, hB, hF⟩
    · obtain rfl := Option.some.inj hi
      clear hi hil
      have d9 := h9 (hall ⟨9, .data⟩ (by simp) rfl)
      have d10 := h10 (hall ⟨10, .data⟩ (by simp) rfl)
      refine wpOp_step rfl (fun K hK => ?_)
      have HKK := Lib.hid hK; clear hK
      simp only [putAll, Act.put, List.setIfInBounds_toArray, List.set_cons_zero, List.set_cons_succ]
      go_simp
      refine (plus_c a n HA.out HN.out _).mono ?_
      rintro e w2 ⟨rfl, hb2⟩
      exact HKK.out _ _ ⟨_, by simp only [putAll, Act.put, List.setIfInBounds_toArray, List.set_cons_zero, List.set_cons_succ, d9, d10] <;> rfl, h0, h1, h2, h3, h4, h5, h6, h7, h8, h9, h10, fun _ => rfl, h15, h17, fun h => Lib.hid (Own.grow (y12 h).out hb2), fun h => Lib.hid (TupR.grow (y13 h).out hb2), fun h => Lib.hid (Own.grow (y14 h).out hb2), fun h => Lib.hid (Own.grow (y16 h).out hb2), Lib.hid ⟨(hB).out.1.trans (hb2.mono (hB).out.2), Nat.le_trans (hB).out.2 hb2.size⟩, Lib.hid (⟨(hF).out.1.grow hb2, (hF).out.2.1.grow hb2, (hF).out.2.2.grow hb2⟩)⟩
    · obtain rfl := Option.some.inj hi
      clear hi hil
      have d2 := h2 (hall ⟨2, .data⟩ (by simp) rfl)
      have d5 := h5 (hall ⟨5, .data⟩ (by simp) rfl)
      have d8 := h8 (hall ⟨8, .data⟩ (by simp) rfl)
      have d11 := h11 (hall ⟨11, .data⟩ (by simp) rfl)
      refine wpOp_step rfl (fun K hK => ?_)
      have HKK := Lib.hid hK; clear hK
      simp only [putAll, Act.put, List.setIfInBounds_toArray, List.set_cons_zero, List.set_cons_succ]
      go_simp
      have hb2 : Below w'.heap.size w' (w'.alloc (.cells (flat (slabI a b n)) 23)) := (Below.refl _ _).alloc (Nat.le_refl _) _
      exact HKK.out _ _ ⟨_, by simp only [putAll, Act.put, List.setIfInBounds_toArray, List.set_cons_zero, List.set_cons_succ, d2, d5, d8, d11] <;> rfl, h0, h1, h2, h3, h4, h5, h6, h7, h8, h9, h10, h11, h15, h17, fun _ => Lib.hid (Own.made w' hB.out.2 23 (slabI a b n) _ 4 rfl rfl (by decide)), fun h => Lib.hid (TupR.grow (y13 h).out hb2), fun h => Lib.hid (Own.grow (y14 h).out hb2), fun h => Lib.hid (Own.grow (y16 h).out hb2), Lib.hid ⟨(hB).out.1.trans (hb2.mono (hB).out.2), Nat.le_trans (hB).out.2 hb2.size⟩, Lib.hid (⟨(hF).out.1.grow hb2, (hF).out.2.1.grow hb2, (hF).out.2.2.grow hb2⟩)⟩
    · obtain rfl := Option.some.inj hi
      clear hi hil
      have o12 := y12 (hall ⟨12, .data⟩ (by simp) rfl)
      refine wpOp_step rfl (fun K hK => ?_)
      have HKK := Lib.hid hK; clear hK
      simp only [putAll, Act.put, List.setIfInBounds_toArray, List.set_cons_zero, List.set_cons_succ]
      go_simp
      refine (inRoom_own (o12.out) (by simp [slabI]) hB.out.2).mono ?_
      rintro e w2 ⟨v2, rfl, ho2, hb2⟩
      exact HKK.out _ _ ⟨_, by simp only [putAll, Act.put, List.setIfInBounds_toArray, List.set_cons_zero, List.set_cons_succ] <;> rfl, h0, h1, h2, h3, h4, h5, h6, h7, h8, h9, h10, h11, h15, h17, fun h => Lib.hid (Own.grow (y12 h).out hb2), fun _ => Lib.hid (⟨v2, rfl, ho2⟩), fun h => Lib.hid (Own.grow (y14 h).out hb2), fun h => Lib.hid (Own.grow (y16 h).out hb2), Lib.hid ⟨(hB).out.1.trans (hb2.mono (hB).out.2), Nat.le_trans (hB).out.2 hb2.size⟩, Lib.hid (⟨(hF).out.1.grow hb2, (hF).out.2.1.grow hb2, (hF).out.2.2.grow hb2⟩)⟩
    · obtain rfl := Option.some.inj hi
      clear hi hil
      have o13 := y13 (hall ⟨13, .data⟩ (by simp) rfl)
      obtain ⟨r, er, hor⟩ := o13.out
      refine wpOp_step rfl (fun K hK => ?_)
      have HKK := Lib.hid hK; clear hK
      simp only [putAll, Act.put, List.setIfInBounds_toArray, List.set_cons_zero, List.set_cons_succ]
      go_simp
      exact HKK.out _ _ ⟨_, by simp only [putAll, Act.put, List.setIfInBounds_toArray, List.set_cons_zero, List.set_cons_succ, er] <;> rfl, h0, h1, h2, h3, h4, h5, h6, h7, h8, h9, h10, h11, h15, h17, y12, y13, fun _ => Lib.hid (hor), y16, hB, hF⟩
    · obtain rfl := Option.some.inj hi
      clear hi hil
      have o13 := y13 (hall ⟨13, .data⟩ (by simp) rfl)
      obtain ⟨r, er, hor⟩ := o13.out
      clear hor
      refine wpOp_step rfl (fun K hK => ?_)
      have HKK := Lib.hid hK; clear hK
      simp only [putAll, Act.put, List.setIfInBounds_toArray, List.set_cons_zero, List.set_cons_succ]
      go_simp
      exact HKK.out _ _ ⟨_, by simp only [putAll, Act.put, List.setIfInBounds_toArray, List.set_cons_zero, List.set_cons_succ, er] <;> rfl, h0, h1, h2, h3, h4, h5, h6, h7, h8, h9, h10, h11, fun _ => rfl, h17, y12, y13, y14, y16, hB, hF⟩
    · obtain rfl := Option.some.inj hi
      clear hi hil
      have o14 := y14 (hall ⟨14, .data⟩ (by simp) rfl)
      refine wpOp_step rfl (fun K hK => ?_)
      have HKK := Lib.hid hK; clear hK
      simp only [putAll, Act.put, List.setIfInBounds_toArray, List.set_cons_zero, List.set_cons_succ]
      go_simp
      exact HKK.out _ _ ⟨_, by simp only [putAll, Act.put, List.setIfInBounds_toArray, List.set_cons_zero, List.set_cons_succ] <;> rfl, h0, h1, h2, h3, h4, h5, h6, h7, h8, h9, h10, h11, h15, h17, y12, y13, y14, fun _ => Lib.hid (o14.out), hB, hF⟩
    · obtain rfl := Option.some.inj hi
      clear hi hil
      have d15 := h15 (hall ⟨15, .data⟩ (by simp) rfl)
      refine wpOp_step rfl (fun K hK => ?_)
      have HKK := Lib.hid hK; clear hK
      simp only [putAll, Act.put, List.setIfInBounds_toArray, List.set_cons_zero, List.set_cons_succ]
      go_simp
      exact HKK.out _ _ ⟨_, by simp only [putAll, Act.put, List.setIfInBounds_toArray, List.set_cons_zero, List.set_cons_succ, d15] <;> rfl, h0, h1, h2, h3, h4, h5, h6, h7, h8, h9, h10, h11, h15, fun _ => rfl, y12, y13, y14, y16, hB, hF⟩
    · omega
  · rintro b' vs w2 hall ⟨h0, h1, h2, h3, h4, h5, h6, h7, h8, h9, h10, h11, h15, h17, y12, y13, y14, y16, hB, hF⟩
    have d0 := h0 (hall 0 (by simp))
    have d1 := h1 (hall 1 (by simp))
    have d2 := h2 (hall 2 (by simp))
    have d3 := h3 (hall 3 (by simp))
    have d4 := h4 (hall 4 (by simp))
    have d5 := h5 (hall 5 (by simp))
    have d6 := h6 (hall 6 (by simp))
    have d7 := h7 (hall 7 (by simp))
    have d8 := h8 (hall 8 (by simp))
    have d9 := h9 (hall 9 (by simp))
    have d10 := h10 (hall 10 (by simp))
    have d11 := h11 (hall 11 (by simp))
    have d15 := h15 (hall 15 (by simp))
    have d17 := h17 (hall 17 (by simp))
    have o12 := y12 (hall 12 (by simp))
    have o13 := y13 (hall 13 (by simp))
    have o14 := y14 (hall 14 (by simp))
    have o16 := y16 (hall 16 (by simp))
    have BB := hB
    have FF := hF
    simp only [putAll, Act.put, List.setIfInBounds_toArray, List.set_cons_zero, List.set_cons_succ, d0, d1, d2, d3, d4, d5, d6, d7, d8, d9, d10, d11, d15, d17]
    clear hall h0 d0 h1 d1 h2 d2 h3 d3 h4 d4 h5 d5 h6 d6 h7 d7 h8 d8 h9 d9 h10 d10 h11 d11 h15 d15 h17 d17 y12 y13 y14 y16 hB hF
    go_wp2_with fail
    go_ret2
    exact ⟨_, rfl, o16.out, BB.out.1⟩
end Go.Proofs.YtdidbejinfkhbaaDoor
