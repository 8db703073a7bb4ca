/- Layer 6: Bound of a path. -/
import Derived.Test.YtffgpikhahpomaaDoorBox
import Derived.Test.YtffgpikhahpomaaDoorMd
namespace Go.Proofs.YtffgpikhahpomaaDoor
open Go.RowKit Go.Shelf
attribute [local go_sem] Oper.semAt_some
theorem empty_zero : emptyI ⟨0, 0, 0, 0⟩ = true := by decide
theorem join_assoc (a b c : Bx) : joinI (joinI a b) c = joinI a (joinI b c) := by
  have hj : ∀ a b : Bx, emptyI a = false → emptyI b = false → emptyI (join0 a b) = false := fun a b ha hb => by
    simp [emptyI, join0] at ha hb ⊢; omega
  have h0 : ∀ a b c : Bx, join0 (join0 a b) c = join0 a (join0 b c) := fun a b c => by
    simp only [join0, Bx.mk.injEq]; omega
  cases ha : emptyI a <;> cases hb : emptyI b <;> cases hc : emptyI c <;> simp [joinI, ha, hb, hc, empty_zero, hj, h0]
theorem join_zero (a : Bx) : joinI ⟨0, 0, 0, 0⟩ (joinI ⟨0, 0, 0, 0⟩ a) = joinI ⟨0, 0, 0, 0⟩ a := by
  cases ha : emptyI a <;> simp [joinI, ha, empty_zero]
theorem fold_join : ∀ (l : List Pt) (b : Bx), joinI b ⟨0, 0, 0, 0⟩ = b → l.foldl bstep b = joinI b (boundI l)
  | [], b, h => h.symm
  | p :: l, b, h => by
    have e0 : joinI (⟨0, 0, 0, 0⟩ : Bx) ⟨0, 0, 0, 0⟩ = ⟨0, 0, 0, 0⟩ := by simp [joinI, empty_zero]
    have hz : ∀ a : Bx, joinI (bstep a p) ⟨0, 0, 0, 0⟩ = bstep a p := fun a => by
      have hp : emptyI (ptBox p) = false := by simp [emptyI, ptBox]; omega
      have e : joinI (ptBox p) ⟨0, 0, 0, 0⟩ = ptBox p := by simp [joinI, hp, empty_zero]
      unfold bstep; rw [join_assoc, e]
    unfold boundI
    simp only [List.foldl_cons]
    rw [fold_join l _ (hz b), fold_join l _ (hz ⟨0, 0, 0, 0⟩)]
    unfold bstep
    rw [← join_assoc, ← join_assoc, h]
theorem bound_norm (l : List Pt) : joinI (boundI l) ⟨0, 0, 0, 0⟩ = boundI l := by
  have e0 : joinI (⟨0, 0, 0, 0⟩ : Bx) ⟨0, 0, 0, 0⟩ = ⟨0, 0, 0, 0⟩ := by simp [joinI, empty_zero]
  have h := fold_join l ⟨0, 0, 0, 0⟩ e0
  have h2 : boundI l = joinI ⟨0, 0, 0, 0⟩ (boundI l) := h
  rw [h2]
  cases ha : emptyI (boundI l) <;> simp [joinI, ha, empty_zero]
theorem bound_append (l m : List Pt) : boundI (l ++ m) = joinI (boundI l) (boundI m) := by
  conv => lhs; unfold boundI
  rw [List.foldl_append]
  exact fold_join m _ (bound_norm l)
/-- What holds in the region that stores the bound. -/
def BdM (B : World) (g : Nat) (Z : Bx) (b : Nat → Bool) (w' : World) : Prop :=
  (b 5 = false → Below B.heap.size B w') ∧ (b 5 = true → ∃ W1, w' = (((W1.setCell ⟨g, 0, none⟩ (.int .i64 Z.x0)).setCell ⟨g, 1, none⟩ (.int .i64 Z.y0)).setCell ⟨g, 2, none⟩ (.int .i64 Z.x1)).setCell ⟨g, 3, none⟩ (.int .i64 Z.y1) ∧ Below B.heap.size B W1)
theorem BdM.start (B : World) {g : Nat} {Z : Bx} : BdM B g Z (fun _ => false) B.drew := ⟨fun _ => below_drewN (Below.refl _ _) 1, fun h => Bool.noConfusion h⟩
theorem BdM.other {B w' w'' : World} {g : Nat} {Z : Bx} {b : Nat → Bool} (h : BdM B g Z b w') (i : Nat) (hi : 5 ≠ i) (b5 : b 5 = false) (hb : Below w'.heap.size w' w'') : BdM B g Z (upd b i true) w'' := by
  unfold BdM
  rw [upd_other _ _ _ _ hi, b5]
  exact ⟨fun _ => below_next (h.1 b5) hb, fun h => Bool.noConfusion h⟩
theorem BdM.stored {B w' : World} {g : Nat} {Z : Bx} {b : Nat → Bool} (h : BdM B g Z b w') (b5 : b 5 = false) : BdM B g Z (upd b 5 true) ((((w'.setCell ⟨g, 0, none⟩ (.int .i64 Z.x0)).setCell ⟨g, 1, none⟩ (.int .i64 Z.y0)).setCell ⟨g, 2, none⟩ (.int .i64 Z.x1)).setCell ⟨g, 3, none⟩ (.int .i64 Z.y1)) := by
  unfold BdM
  rw [upd_same]
  exact ⟨fun h => Bool.noConfusion h, fun _ => ⟨w', rfl, h.1 b5⟩⟩
theorem flat_len (l : List Sg) : (l.flatMap needPts).length ≤ 3 * l.length := by
  induction l with
  | nil => simp
  | cons s l ih => have := needPts_len s; simp only [List.flatMap_cons, List.length_append, List.length_cons]; omega
set_option maxHeartbeats 8000000 in
set_option maxRecDepth 100000 in
theorem pbound_walk (ao : Option Addr) (n c : Nat) (l : List Sg) (w : World) (hn : n ≤ 300) (hr : Rd w) (row : RowS w (.slice ao n c) l) (hg : checkI l = 0) (XX : Bx) (HXX : Hid (boundI (l.flatMap needPts) = XX)) :
    Calls Tryd.prog 30 #[.slice ao n c] w fun e w' => e = .returned (.agg (four XX)) ∧ Below w.heap.size w w' := by
  have HN := Lib.hid hn
  have HR := Lib.hid hr
  have HROW := Lib.hid row
  have HLEN := Lib.hid row.len
  have HGOOD := Lib.hid (check_good hg).1
  clear hn hr row hg
  obtain ⟨w0, hw0⟩ : ∃ w0, (w.alloc (.cells (four ⟨0, 0, 0, 0⟩) 72)).alloc (.cells (four ⟨0, 0, 0, 0⟩) 72) = w0 := ⟨_, rfl⟩
  have W0 : Hid (Below w.heap.size w w0 ∧ Blk w0 w.heap.size 72 (four ⟨0, 0, 0, 0⟩) ∧ Blk w0 (w.heap.size + 1) 72 (four ⟨0, 0, 0, 0⟩) ∧ w0.heap.size = w.heap.size + 2) := by
    rw [← hw0]
    exact ⟨((Below.refl _ _).alloc (Nat.le_refl _) _).alloc (by simp) _, (Blk.new _ _ _).alloc _, Blk.newAt _ _ _ (by simp), by simp⟩
  have HW0 := Lib.hid hw0
  clear hw0
  refine callsIn_wide.1 (callsIn_of_wp_marks (n := 9) Tryd.func30 rfl trivial (wpIn_wide.2 ?_))
  simp only [Tryd.ntmps30, List.size_toArray, List.length_cons, List.length_nil, Nat.reduceAdd, Nat.reduceSub, Array.replicate_succ, Array.replicate_zero, List.push_toArray, List.append_toArray, List.nil_append, List.cons_append]
  go_wp2_with fail
  rw [show (w.alloc (.cells #[.int .i64 0, .int .i64 0, .int .i64 0, .int .i64 0] 72)).alloc (.cells #[.int .i64 0, .int .i64 0, .int .i64 0, .int .i64 0] 72) = w0 from HW0.out]
  refine (segments_c ao n c _).mono ?_
  rintro e w1 ⟨rfl, rfl⟩
  go_wp2_with fail
  obtain ⟨r7, hr7⟩ : ∃ r, w0.heap.size = r := ⟨_, rfl⟩
  obtain ⟨W, hW⟩ : ∃ W, w0.alloc (.cells #[.slice ao n c] 22) = W := ⟨_, rfl⟩
  have hr2 : r7 = w.heap.size + 2 := by rw [← hr7]; exact W0.out.2.2.2
  have hz : W.heap.size = w.heap.size + 3 := by rw [← hW]; simp [W0.out.2.2.2]
  have hb0 : Below w.heap.size w W := by rw [← hW]; exact W0.out.1.alloc W0.out.1.size _
  have hx0 : Blk W r7 22 #[.slice ao n c] := by rw [← hW]; exact Blk.newAt _ _ _ hr7
  have hr0 : Blk W w.heap.size 72 (four ⟨0, 0, 0, 0⟩) := by rw [← hW]; exact W0.out.2.1.alloc _
  have hr1 : Blk W (w.heap.size + 1) 72 (four ⟨0, 0, 0, 0⟩) := by rw [← hW]; exact W0.out.2.2.1.alloc _
  simp only [hr7]
  rw [hW]
  have HR2 := Lib.hid hr2
  clear hW W0 hr7 hr2
  refine wp_segs (w0 := w) (bx := r7) (l := l) (n := n) rfl rfl hb0 (by have := HR2.out; omega) (hx0.cell 0) HROW.out (by have := HN.out; omega)
    (fun k A => k ≤ n ∧ Below w.heap.size w A ∧ Blk A w.heap.size 72 (four ⟨0, 0, 0, 0⟩) ∧ Blk A (w.heap.size + 1) 72 (four (boundI ((l.take k).flatMap needPts))))
    (fun k A B h hk => ⟨h.1, h.2.1.trans (hk.below (fun j hj => by omega) h.2.1.size), hk.blk h.2.2.1 (by omega), hk.blk h.2.2.2 (by omega)⟩)
    (fun _ => False)
    (fun A B h hk => h)
    ⟨Nat.zero_le _, hb0, hr0, hr1⟩
    (fun x s g => #[.slice ao n c, undef, .pointer (some ⟨w.heap.size, 0, none⟩), .pointer (some ⟨w.heap.size + 1, 0, none⟩), undef, .pointer (some ⟨g, 0, none⟩), .slice ao n c, .func (.func 54) #[] #[.pointer (some ⟨r7, 0, none⟩)], .agg x.cells, .agg s.cells, undef, undef, undef, undef, undef, undef])
    (fun x s A => A.alloc (.cells s.cells 48))
    (fun x s A => Keep.alloc _ _ _)
    ?assign ?body ?done ?stop
  case assign =>
    intro L x s A K hK
    simp only [Sg.cells] at hK ⊢
    gi_wp2
    exact hK
  case body =>
    rintro L k s A o B hk ⟨hkn, hbA, k0, k1⟩ hN hB
    obtain ⟨kAB, bs, zB⟩ := round_one hN hB
    clear hB
    have FN : Fine (aheadL l k) s := fine_of (HGOOD.out k s hk)
    obtain ⟨X, hX⟩ : ∃ X, boundI ((l.take k).flatMap needPts) = X := ⟨_, rfl⟩
    obtain ⟨Y, hY⟩ : ∃ Y, boundI (needPts s) = Y := ⟨_, rfl⟩
    obtain ⟨Z, hZ⟩ : ∃ Z, joinI X Y = Z := ⟨_, rfl⟩
    have HZZ : Hid (boundI ((l.take (k + 1)).flatMap needPts) = Z) := by
      unfold Hid
      rw [List.take_add_one, hk, List.flatMap_append, bound_append, hX, ← hZ, ← hY]
      simp
    rw [hX] at k1
    have HBB := Lib.hid (show Below w.heap.size w B from hbA.trans (kAB.below (fun j hj => by omega) hbA.size))
    have HRB : Hid (Rd B) := HR.out.on HBB.out
    have HK0 := Lib.hid (kAB.blk k0 (by omega))
    have HK1 := Lib.hid (And.intro (kAB.blk k1 (by omega)) bs)
    have hkn2 : k < n := by have := (List.getElem?_eq_some_iff.1 hk).1; have := HLEN.out; omega
    have HZ := Lib.hid (show W.heap.size = w.heap.size + 3 ∧ W.heap.size + 3 ≤ A.heap.size ∧ B.heap.size = A.heap.size + 2 ∧ r7 = w.heap.size + 2 from ⟨hz, hN, zB, HR2.out⟩)
    have HPT : Hid (∀ W', Rd W' → Calls Tryd.prog 53 #[.agg (seven s.k s.p s.q s.r)] W' fun e w' => ∃ v, e = .returned v ∧ Row w' v (needPts s) ∧ Below W'.heap.size W' w') := fun W' h => (points_c s W' h).mono fun e w' h => by
      obtain ⟨rfl, rfl⟩ := h
      exact ⟨_, rfl, points_row s W', (Below.refl _ _).alloc (Nat.le_refl _) _⟩
    have HBD : Hid (∀ W' v, Row W' v (needPts s) → Calls Tryd.prog 31 #[v] W' fun e w' => e = .returned (.agg #[.int .i64 Y.x0, .int .i64 Y.y0, .int .i64 Y.x1, .int .i64 Y.y1]) ∧ Below W'.heap.size W' w') := fun W' v h => by
      have := bound_c v (needPts s) W' (by have := needPts_len s; omega) h (List.all_eq_true.2 FN.room)
      rw [hY] at this
      exact this
    have HJN : Hid (∀ W', Calls Tryd.prog 52 #[.agg #[.int .i64 X.x0, .int .i64 X.y0, .int .i64 X.x1, .int .i64 X.y1], .agg #[.int .i64 Y.x0, .int .i64 Y.y0, .int .i64 Y.x1, .int .i64 Y.y1]] W' fun e w' => e = .returned (.agg #[.int .i64 Z.x0, .int .i64 Z.y0, .int .i64 Z.x1, .int .i64 Z.y1]) ∧ Below W'.heap.size W' w') := fun W' => by
      have := join_c X Y W'
      rw [hZ] at this
      exact this
    clear hX hY hZ hk FN hkn hbA k0 k1 kAB bs zB hN hz hb0 hx0 hr0 hr1
    gi_wp2_with fail
    refine wpIn_region_put2 (by kernel_rfl) (by kernel_rfl) (by kernel_rfl) (fun b' vs w' => (b' 0 = true → vs 0 = .agg #[.int .i64 X.x0, .int .i64 X.y0, .int .i64 X.x1, .int .i64 X.y1]) ∧ (b' 1 = true → vs 1 = .agg (seven s.k s.p s.q s.r)) ∧ (b' 3 = true → vs 3 = .agg #[.int .i64 Y.x0, .int .i64 Y.y0, .int .i64 Y.x1, .int .i64 Y.y1]) ∧ (b' 4 = true → vs 4 = .agg #[.int .i64 Z.x0, .int .i64 Z.y0, .int .i64 Z.x1, .int .i64 Z.y1]) ∧ Hid (b' 5 = true → b' 4 = true) ∧ Hid (b' 4 = true → b' 0 = true ∧ b' 3 = true) ∧ Hid (b' 3 = true → b' 2 = true) ∧ Hid (b' 2 = true → b' 1 = true) ∧ Hid (b' 2 = true → b' 3 = false → Row w' (vs 2) (needPts s)) ∧ Hid (BdM B (w.heap.size + 1) Z b' w')) ?_ ?_ ?_
    · intro vs hvs
      exact ⟨fun h => Bool.noConfusion h, fun h => Bool.noConfusion h, fun h => Bool.noConfusion h, fun h => Bool.noConfusion h, Lib.hid fun h => Bool.noConfusion h, Lib.hid fun h => Bool.noConfusion h, Lib.hid fun h => Bool.noConfusion h, Lib.hid fun h => Bool.noConfusion h, Lib.hid fun h => Bool.noConfusion h, BdM.start B⟩
    · rintro b' vs w' i op hi hun hall ⟨h0, h1, h3, h4, hA, hB, hC, hD, hR, hM⟩
      have hil : i < 6 := (List.getElem?_eq_some_iff.1 hi).1
      rcases i with _ | _ | _ | _ | _ | _ | i
      · obtain rfl := Option.some.inj hi
        have n5 : b' 5 = false := by
          cases hz : b' 5 with
          | false => rfl
          | true => exact absurd (hB.out (hA.out hz)).1 (by rw [hun]; simp)
        have kb := HK1.out.1.on (hM.out.1 n5) HK1.out.1.lt
        have c0 := kb.b0
        have c1 := kb.b1
        have c2 := kb.b2
        have c3 := kb.b3
        clear kb
        refine wpOpIn_step rfl (fun K hK => ?_)
        have HKK := Lib.hid hK; clear hK
        simp only [putAll, Act.put, List.setIfInBounds_toArray, List.set_cons_zero, List.set_cons_succ]
        go_simp
        exact HKK.out _ _ ⟨_, by simp only [putAll, Act.put, List.setIfInBounds_toArray, List.set_cons_zero, List.set_cons_succ] <;> rfl, fun _ => rfl, h1, h3, h4, hA, Lib.hid (fun h => ⟨rfl, (hB.out h).2⟩), hC, hD, hR, BdM.other hM.out 0 (by decide) n5 (Below.refl _ _)⟩
      · obtain rfl := Option.some.inj hi
        have n5 : b' 5 = false := by
          cases hz : b' 5 with
          | false => rfl
          | true => exact absurd (hD.out (hC.out (hB.out (hA.out hz)).2)) (by rw [hun]; simp)
        have kb := HK1.out.2.on (hM.out.1 n5) HK1.out.2.lt
        have c0 := kb.s0
        have c1 := kb.s1
        have c2 := kb.s2
        have c3 := kb.s3
        have c4 := kb.s4
        have c5 := kb.s5
        have c6 := kb.s6
        clear kb
        refine wpOpIn_step rfl (fun K hK => ?_)
        have HKK := Lib.hid hK; clear hK
        simp only [putAll, Act.put, List.setIfInBounds_toArray, List.set_cons_zero, List.set_cons_succ]
        go_simp
        exact HKK.out _ _ ⟨_, by simp only [putAll, Act.put, List.setIfInBounds_toArray, List.set_cons_zero, List.set_cons_succ] <;> rfl, h0, fun _ => rfl, h3, h4, hA, hB, hC, Lib.hid (fun _ => rfl), hR, BdM.other hM.out 1 (by decide) n5 (Below.refl _ _)⟩
      · obtain rfl := Option.some.inj hi
        have n5 : b' 5 = false := by
          cases hz : b' 5 with
          | false => rfl
          | true => exact absurd (hC.out (hB.out (hA.out hz)).2) (by rw [hun]; simp)
        have d1 := h1 (hall ⟨1, .data⟩ (by simp) rfl)
        refine wpOpIn_step rfl (fun K hK => ?_)
        have HKK := Lib.hid hK; clear hK
        simp only [putAll, Act.put, List.setIfInBounds_toArray, List.set_cons_zero, List.set_cons_succ, d1]
        go_simp
        refine ⟨trivial, (CallsIn.inRound L (callsIn_wide.2 (HPT.out _ (HRB.out.on (hM.out.1 n5))))).mono ?_⟩
        rintro e w9 ⟨v, rfl, hrow, hb9⟩
        exact HKK.out _ _ ⟨_, by simp only [putAll, Act.put, List.setIfInBounds_toArray, List.set_cons_zero, List.set_cons_succ, d1] <;> rfl, h0, h1, h3, h4, hA, hB, Lib.hid (fun _ => rfl), Lib.hid (fun _ => hall ⟨1, .data⟩ (by simp) rfl), Lib.hid (fun _ _ => hrow), BdM.other hM.out 2 (by decide) n5 hb9⟩
      · obtain rfl := Option.some.inj hi
        have n5 : b' 5 = false := by
          cases hz : b' 5 with
          | false => rfl
          | true => exact absurd (hB.out (hA.out hz)).2 (by rw [hun]; simp)
        have hrw := hR.out (hall ⟨2, .data⟩ (by simp) rfl) hun
        have HRW := Lib.hid hrw; clear hrw
        refine wpOpIn_step rfl (fun K hK => ?_)
        have HKK := Lib.hid hK; clear hK
        simp only [putAll, Act.put, List.setIfInBounds_toArray, List.set_cons_zero, List.set_cons_succ]
        go_simp
        refine ⟨trivial, (CallsIn.inRound L (callsIn_wide.2 (HBD.out _ _ HRW.out))).mono ?_⟩
        rintro e w9 ⟨rfl, hb9⟩
        exact HKK.out _ _ ⟨_, by simp only [putAll, Act.put, List.setIfInBounds_toArray, List.set_cons_zero, List.set_cons_succ] <;> rfl, h0, h1, fun _ => rfl, h4, hA, Lib.hid (fun h => ⟨(hB.out h).1, rfl⟩), Lib.hid (fun _ => hall ⟨2, .data⟩ (by simp) rfl), hD, Lib.hid (fun _ h => Bool.noConfusion h), BdM.other hM.out 3 (by decide) n5 hb9⟩
      · obtain rfl := Option.some.inj hi
        have n5 : b' 5 = false := by
          cases hz : b' 5 with
          | false => rfl
          | true => exact absurd (hA.out hz) (by rw [hun]; simp)
        have d0 := h0 (hall ⟨0, .data⟩ (by simp) rfl)
        have d3 := h3 (hall ⟨3, .data⟩ (by simp) rfl)
        refine wpOpIn_step rfl (fun K hK => ?_)
        have HKK := Lib.hid hK; clear hK
        simp only [putAll, Act.put, List.setIfInBounds_toArray, List.set_cons_zero, List.set_cons_succ, d0, d3]
        go_simp
        refine ⟨trivial, (CallsIn.inRound L (callsIn_wide.2 (HJN.out _))).mono ?_⟩
        rintro e w9 ⟨rfl, hb9⟩
        exact HKK.out _ _ ⟨_, by simp only [putAll, Act.put, List.setIfInBounds_toArray, List.set_cons_zero, List.set_cons_succ, d0, d3] <;> rfl, h0, h1, h3, fun _ => rfl, Lib.hid (fun _ => rfl), Lib.hid (fun _ => ⟨hall ⟨0, .data⟩ (by simp) rfl, hall ⟨3, .data⟩ (by simp) rfl⟩), hC, hD, Lib.hid (fun h2 h3 => absurd (show b' 3 = true from hall ⟨3, .data⟩ (by simp) rfl) (by rw [show b' 3 = false from h3]; simp)), BdM.other hM.out 4 (by decide) n5 hb9⟩
      · obtain rfl := Option.some.inj hi
        have n5 := hun
        have d4 := h4 (hall ⟨4, .data⟩ (by simp) rfl)
        have b4 := hall ⟨4, .data⟩ (by simp) rfl
        have b3 := (hB.out b4).2
        have d0 := h0 (hB.out b4).1
        have d3 := h3 b3
        have d1 := h1 (hD.out (hC.out b3))
        have kb := HK1.out.1.on (hM.out.1 n5) HK1.out.1.lt
        have c0 := kb.b0
        have c1 := kb.b1
        have c2 := kb.b2
        have c3 := kb.b3
        have f0 := kb.free 0
        have f1 := kb.free 1
        have f2 := kb.free 2
        have f3 := kb.free 3
        have lk := kb.lt
        clear kb
        have B4 := Lib.hid b4
        have B3 := Lib.hid b3
        clear b4 b3
        refine wpOpIn_step rfl (fun K hK => ?_)
        have HKK := Lib.hid hK; clear hK
        simp only [putAll, Act.put, List.setIfInBounds_toArray, List.set_cons_zero, List.set_cons_succ, d4, d0, d3, d1]
        go_simp
        exact HKK.out _ _ ⟨undef, by simp only [putAll, Act.put, List.setIfInBounds_toArray, List.set_cons_zero, List.set_cons_succ, d4, d0, d3, d1] <;> rfl, h0, h1, h3, h4, Lib.hid (fun _ => B4.out), hB, hC, hD, Lib.hid (fun h2 h3 => absurd B3.out (by rw [show b' 3 = false from h3]; simp)), BdM.stored hM.out n5⟩
      · exact absurd hil (by omega)
    · rintro b' vs w' hb ⟨h0, h1, h3, h4, hA, hB, hC, hD, hR, hM⟩
      obtain ⟨W1, rfl, hbW⟩ := hM.out.2 (hb 5 (by decide))
      have HBW := Lib.hid hbW
      clear h0 h1 h3 h4 hA hB hC hD hR hM hb hbW
      simp only [putAll, Act.put, List.setIfInBounds_toArray, List.set_cons_zero, List.set_cons_succ]
      gi_wp2_with fail
      have hzz := HZ.out
      have kg := (HK1.out.1.on HBW.out HK1.out.1.lt).setB Z
      have kz := (HK0.out.on HBW.out HK0.out.lt).otherB (g' := w.heap.size + 1) (by omega) (.int .i64 Z.x0) (.int .i64 Z.y0) (.int .i64 Z.x1) (.int .i64 Z.y1)
      refine ⟨((Keep.of_below HBW.out).trans ((((Keep.setCell _ _ _ ?_).trans (Keep.setCell _ _ _ ?_)).trans (Keep.setCell _ _ _ ?_)).trans (Keep.setCell _ _ _ ?_))), by omega, below_four (below_next HBB.out HBW.out) (by omega) _ _ _ _, kz, ?_⟩
      iterate 4
        unfold RoundS
        simp
        omega
      rw [show boundI ((l.take (k + 1)).flatMap needPts) = Z from HZZ.out]
      exact kg
  case done =>
    rintro D ⟨_, hb, k0, k1⟩ hD
    have HD := Lib.hid hD
    have HZ := Lib.hid (And.intro hz HR2.out)
    have HBD := Lib.hid hb
    rw [List.take_of_length_le (Nat.le_of_eq HLEN.out), HXX.out] at k1
    have K1 := Lib.hid k1
    have K0 := Lib.hid k0
    have c0 := k1.b0
    have c1 := k1.b1
    have c2 := k1.b2
    have c3 := k1.b3
    have z0 : D.cell? ⟨w.heap.size, 0, none⟩ = some (.int .i64 0) := k0.b0
    have z1 : D.cell? ⟨w.heap.size, 1, none⟩ = some (.int .i64 0) := k0.b1
    have z2 : D.cell? ⟨w.heap.size, 2, none⟩ = some (.int .i64 0) := k0.b2
    have z3 : D.cell? ⟨w.heap.size, 3, none⟩ = some (.int .i64 0) := k0.b3
    have f0 := fun j => k0.free j
    have l0 := k0.lt
    clear hD hb k0 k1 hz hb0 hx0 hr0 hr1
    dsimp only
    go_wp2_with fail
    clear c0 c1 c2 c3 z0 z1 z2 z3 f0 l0
    have hz2 := HZ.out
    obtain ⟨E, hE⟩ : ∃ E, (((D.setCell ⟨w.heap.size, 0, none⟩ (.int .i64 XX.x0)).setCell ⟨w.heap.size, 1, none⟩ (.int .i64 XX.y0)).setCell ⟨w.heap.size, 2, none⟩ (.int .i64 XX.x1)).setCell ⟨w.heap.size, 3, none⟩ (.int .i64 XX.y1) = E := ⟨_, rfl⟩
    have kS : Keep (fun j => j ≠ w.heap.size) D E := by rw [← hE]; exact (((Keep.setCell _ _ _ (by simp)).trans (Keep.setCell _ _ _ (by simp))).trans (Keep.setCell _ _ _ (by simp))).trans (Keep.setCell _ _ _ (by simp))
    have e1 : Blk E w.heap.size 72 (four XX) := by rw [← hE]; exact K0.out.setB XX
    have eb : Below w.heap.size w E := by rw [← hE]; exact below_four HBD.out (Nat.le_refl _) _ _ _ _
    rw [hE]
    refine postM_ret (.agg (four XX)) ((kS.block _ (by omega) (Array.getElem?_eq_some_iff.1 HD.out).1).trans HD.out) ?_ ?_
    · exact results_box 2 rfl rfl (e1.putOther _ (by omega))
    · exact ⟨rfl, below_put eb _ (by omega) eb.size⟩
  case stop =>
    intro D h
    exact h.elim
end Go.Proofs.YtffgpikhahpomaaDoor
