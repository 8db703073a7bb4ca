/- Layer 6: the law PathBack, further. -/
import Derived.Test.YtffgpikhahpomaaDoorBa
namespace Go.Proofs.YtffgpikhahpomaaDoor
open Go.RowKit
/-- What holds in the region of the second Put. -/
def BkM (wS : World) (l : List Sg) (b : Nat → Bool) (vs : Nat → Value) (w' : World) : Prop :=
  (b 15 = false → w' = wS.drew ∧ ∀ i, 16 ≤ i → b i = false) ∧ (b 15 = true → ∃ r, vs 15 = .tuple #[r, .int .i64 0] ∧ (b 16 = true → vs 16 = .tuple #[r, .int .i64 0]) ∧ (b 17 = true → vs 17 = r) ∧ (b 18 = true → vs 18 = .int .i64 0) ∧ (b 19 = true → vs 19 = r) ∧ (b 20 = true → vs 20 = .int .i64 0) ∧ RowS w' r l ∧ Below wS.heap.size wS w')
section
variable {wS w' : World} {l : List Sg} {b : Nat → Bool} {vs : Nat → Value}
theorem BkM.below (h : BkM wS l b vs w') : Below wS.heap.size wS w' := by
  cases hz : b 15 with
  | false => rw [(h.1 hz).1]; exact below_drewN (Below.refl _ _) 1
  | true => obtain ⟨r, _, _, _, _, _, _, _, hb⟩ := h.2 hz; exact hb
theorem BkM.pre (h : BkM wS l b vs w') (i : Nat) (u : Value) (hi : i < 15) : BkM wS l (upd b i true) (upd vs i u) w' := by
  unfold BkM
  rw [upd_other _ _ _ _ (by omega), upd_other _ _ _ _ (by omega), upd_other _ _ _ _ (by omega), upd_other _ _ _ _ (by omega), upd_other _ _ _ _ (by omega), upd_other _ _ _ _ (by omega), upd_other _ _ _ _ (by omega), upd_other _ _ _ _ (by omega), upd_other _ _ _ _ (by omega), upd_other _ _ _ _ (by omega), upd_other _ _ _ _ (by omega), upd_other _ _ _ _ (by omega)]
  exact ⟨fun hz => ⟨(h.1 hz).1, fun j hj => by rw [upd_other _ _ _ _ (by omega)]; exact (h.1 hz).2 j hj⟩, h.2⟩
theorem BkM.call (h : BkM wS l b vs w') (b15 : b 15 = false) (r : Value) (w3 : World) (hr : RowS w3 r l) (hb : Below w'.heap.size w' w3) : BkM wS l (upd b 15 true) (upd vs 15 (.tuple #[r, .int .i64 0])) w3 := by
  have hq := (h.1 b15).2
  refine ⟨fun hz => ?_, fun _ => ⟨r, by rw [upd_same], ?_, ?_, ?_, ?_, ?_, hr, below_next h.below hb⟩⟩
  · rw [upd_same] at hz; cases hz
  all_goals (intro hz; rw [upd_other _ _ _ _ (by decide), hq _ (by decide)] at hz; cases hz)
theorem BkM.post (h : BkM wS l b vs w') (i : Nat) (hi : 16 ≤ i) (u : Value) (b15 : b 15 = true) (H : ∀ r, vs 15 = .tuple #[r, .int .i64 0] → (i = 16 → u = .tuple #[r, .int .i64 0]) ∧ (i = 17 → u = r) ∧ (i = 18 → u = .int .i64 0) ∧ (i = 19 → u = r) ∧ (i = 20 → u = .int .i64 0)) : BkM wS l (upd b i true) (upd vs i u) w' := by
  obtain ⟨r, e15, e16, e17, e18, e19, e20, hr, hb⟩ := h.2 b15
  obtain ⟨u16, u17, u18, u19, u20⟩ := H r e15
  have step : ∀ k (v : Value), (b k = true → vs k = v) → (i = k → u = v) → (upd b i true k = true → upd vs i u k = v) := fun k v h1 h2 h3 => by
    by_cases e : i = k
    · subst e; rw [upd_same]; exact h2 rfl
    · rw [upd_other _ _ _ _ (Ne.symm e)] at h3 ⊢; exact h1 h3
  refine ⟨fun hz => ?_, fun _ => ⟨r, ?_, step _ _ e16 u16, step _ _ e17 u17, step _ _ e18 u18, step _ _ e19 u19, step _ _ e20 u20, hr, hb⟩⟩
  · rw [upd_other _ _ _ _ (by omega), b15] at hz; cases hz
  · rw [upd_other _ _ _ _ (by omega)]; exact e15
theorem BkM.is (h : BkM wS l b vs w') (b15 : b 15 = true) {r : Value} (hr : vs 15 = .tuple #[r, .int .i64 0]) : (b 16 = true → vs 16 = .tuple #[r, .int .i64 0]) ∧ (b 17 = true → vs 17 = r) ∧ (b 18 = true → vs 18 = .int .i64 0) := by
  obtain ⟨q, e15, e16, e17, e18, _⟩ := h.2 b15
  obtain rfl : q = r := by
    have e := e15.symm.trans hr
    simp only [Value.tuple.injEq, Array.mk.injEq, List.cons.injEq, and_true] at e
    exact e
  exact ⟨e16, e17, e18⟩
end
set_option maxHeartbeats 4000000 in
set_option maxRecDepth 100000 in
theorem back_C0 (ao : Option Addr) (n c : Nat) (l : List Sg) (I : Nat) (zi : Int) (hzi : (zi == 0) = false) (s : Sg) (x y : Int) (w : World) (HA : Hid (Rd w ∧ RowS w (.slice ao n c) l ∧ n ≤ c ∧ l.length = n ∧ n ≤ 100)) (hI : I < n) (HX : Hid (insI l (I : Int) s = (zi, []) ∧ putI l (I : Int) (0 : Int) (x, y) = (0, putL l (I : Int) (0 : Int) (x, y)))) (s0 : Sg) (hq : l[I]? = some s0) (px py : Int) (hpx : Sg.pt s0 0 = (px, py)) (HP2 : Hid (putI (putL l (I : Int) (0 : Int) (x, y)) (I : Int) (0 : Int) (px, py) = (0, l) ∧ (putL l (I : Int) (0 : Int) (x, y)).length = n)) : Calls Tryd.prog 8 #[.agg (editCells (.slice ao n c) (I : Int) (0 : Int) s x y)] w fun e w' => e = .returned (.bool true) ∧ Below w.heap.size w w' := by
  have HR := Lib.hid HA.out.1
  have HROW := Lib.hid HA.out.2.1
  have HN := Lib.hid HA.out.2.2.2.1
  have hn1 := HA.out.2.2.2.2
  have hgt : decide ((n : Int) > 100) = false := decide_eq_false (by omega)
  clear hn1
  obtain ⟨w0, hw0⟩ : ∃ w0, w.alloc (.cells (editCells (.slice ao n c) (I : Int) (0 : Int) s x y) 50) = w0 := ⟨_, rfl⟩
  have B0 : Hid (Below w.heap.size w w0 ∧ w.heap.size ≤ w0.heap.size) := by rw [← hw0]; exact ⟨(Below.refl _ _).alloc (Nat.le_refl _) _, by simp⟩
  have K0 : Hid (Blk w0 w.heap.size 50 (editCells (.slice ao n c) (I : Int) (0 : Int) s x y)) := by rw [← hw0]; exact Blk.new _ _ _
  have HW0 := Lib.hid hw0
  have HINS : Hid (∀ W, Below w.heap.size w W → Calls Tryd.prog 19 #[.slice ao n c, .int .i64 (I : Int), .agg (seven s.k s.p s.q s.r)] W (Edited W ((zi, [])))) := fun W h => by have := insert_c ao n c l (I : Int) s W (HR.out.on h) (HROW.out.on h) HA.out.2.2.1 (by have := HA.out.2.2.2.2; omega); rw [HX.out.1] at this; exact this
  have HPUT : Hid (∀ W, Below w.heap.size w W → Calls Tryd.prog 18 #[.slice ao n c, .int .i64 (I : Int), .int .i64 (0 : Int), .agg #[.int .i64 x, .int .i64 y]] W (Edited W ((0, putL l (I : Int) (0 : Int) (x, y))))) := fun W h => by have := put_c ao n c l (I : Int) (0 : Int) x y W (HR.out.on h) (HROW.out.on h) HA.out.2.2.1 (by have := HA.out.2.2.2.2; omega); rw [HX.out.2] at this; exact this
  clear hw0
  go_enter Tryd.func8, Tryd.ntmps8
  go_wp2_with fail
  rw [show w.alloc (.cells (editCells (.slice ao n c) (I : Int) (0 : Int) s x y) 50) = w0 from HW0.out]
  refine (HINS.out _ B0.out.1).mono ?_
  rintro e w1 ⟨qI, rfl, ho, hb⟩
  clear ho
  have B1 : Hid (Below w.heap.size w w1 ∧ w.heap.size ≤ w1.heap.size) := ⟨below_next B0.out.1 hb, Nat.le_trans B0.out.2 hb.size⟩
  have K1 := Lib.hid (K0.out.on hb K0.out.lt)
  clear hb
  have kb := K1.out
  have c0 := kb.e0
  have c1 := kb.e1
  have c2 := kb.e2
  have c3 := kb.e3
  have c4 := kb.e4
  have c5 := kb.e5
  have c6 := kb.e6
  have c7 := kb.e7
  have c8 := kb.e8
  have c9 := kb.e9
  have c10 := kb.e10
  have c11 := kb.e11
  clear kb
  go_wp2_with fail
  refine (HPUT.out _ B1.out.1).mono ?_
  rintro e w2 ⟨qP, rfl, ho, hb⟩
  obtain ⟨pa, pc, rfl, hpc⟩ := ho.cap
  rw [HP2.out.2] at hpc ⊢
  have QP2 := Lib.hid ho.row
  rw [HP2.out.2] at QP2
  have HPC := Lib.hid hpc
  clear ho hpc
  have B2 : Hid (Below w.heap.size w w2 ∧ w.heap.size ≤ w2.heap.size) := ⟨below_next B1.out.1 hb, Nat.le_trans B1.out.2 hb.size⟩
  have K2 := Lib.hid (K1.out.on hb K1.out.lt)
  clear hb
  have kb := K2.out
  have c0 := kb.e0
  have c1 := kb.e1
  have c2 := kb.e2
  have c3 := kb.e3
  have c4 := kb.e4
  have c5 := kb.e5
  have c6 := kb.e6
  have c7 := kb.e7
  have c8 := kb.e8
  have c9 := kb.e9
  have c10 := kb.e10
  have c11 := kb.e11
  clear kb
  go_wp2_with fail
  obtain ⟨tb, tp, rfl, htb, hta⟩ := RowS.addr (HROW.out.on B2.out.1) (k := I) (by rw [HN.out]; omega)
  have t0 := hta.c1 hq
  have t1 := hta.c2 hq
  rw [show s0.p.1 = px from congrArg Prod.fst hpx] at t0
  rw [show s0.p.2 = py from congrArg Prod.snd hpx] at t1
  have hIn : (I : Int) < (n : Int) := by omega
  have HTB := Lib.hid htb
  have HPP : Hid (∀ W, Below w2.heap.size w2 W → Calls Tryd.prog 18 #[.slice pa n pc, .int .i64 (I : Int), .int .i64 0, .agg #[.int .i64 px, .int .i64 py]] W (Edited W (0, l))) := fun W h => by
    have := put_c pa n pc (putL l (I : Int) (0 : Int) (x, y)) (I : Int) (0 : Int) px py W (HR.out.on (below_next B2.out.1 h)) (QP2.out.on h) HPC.out (by have := HA.out.2.2.2.2; omega)
    rw [HP2.out.1] at this
    exact this
  clear hta htb
  refine wp_region_put2 (by kernel_rfl) (by kernel_rfl) (by kernel_rfl) (fun b' vs w' => (b' 0 = true → vs 0 = .slice pa n pc) ∧ (b' 1 = true → vs 1 = .pointer (some ⟨w.heap.size, 1, none⟩)) ∧ (b' 2 = true → vs 2 = .int .i64 (I : Int)) ∧ (b' 3 = true → vs 3 = .pointer (some ⟨w.heap.size, 2, none⟩)) ∧ (b' 4 = true → vs 4 = .int .i64 0) ∧ (b' 5 = true → vs 5 = .pointer (some ⟨w.heap.size, 0, none⟩)) ∧ (b' 6 = true → vs 6 = .slice (some ⟨tb, tp, none⟩) n c) ∧ (b' 7 = true → vs 7 = .pointer (some ⟨w.heap.size, 1, none⟩)) ∧ (b' 8 = true → vs 8 = .int .i64 (I : Int)) ∧ (b' 9 = true → vs 9 = .pointer (some ⟨w.heap.size, 2, none⟩)) ∧ (b' 10 = true → vs 10 = .int .i64 0) ∧ (b' 11 = true → vs 11 = .pointer (some ⟨tb, tp + I * 7, none⟩)) ∧ (b' 12 = true → vs 12 = .pointer (some ⟨tb, tp + I * 7 + 1, none⟩)) ∧ (b' 13 = true → vs 13 = .pointer (some ⟨tb, tp + I * 7 + 1, none⟩)) ∧ (b' 14 = true → vs 14 = .agg #[.int .i64 px, .int .i64 py]) ∧ Hid (BkM w2 l b' vs w')) ?_ ?_ ?_
  · intro vs hvs
    exact ⟨fun h => Bool.noConfusion h, fun h => Bool.noConfusion h, fun h => Bool.noConfusion h, fun h => Bool.noConfusion h, fun h => Bool.noConfusion h, fun h => Bool.noConfusion h, fun h => Bool.noConfusion h, fun h => Bool.noConfusion h, fun h => Bool.noConfusion h, fun h => Bool.noConfusion h, fun h => Bool.noConfusion h, fun h => Bool.noConfusion h, fun h => Bool.noConfusion h, fun h => Bool.noConfusion h, fun h => Bool.noConfusion h, ⟨fun _ => ⟨rfl, fun _ _ => rfl⟩, fun h => Bool.noConfusion h⟩⟩
  · rintro b' vs w' i op hi hun hall ⟨h0, h1, h2, h3, h4, h5, h6, h7, h8, h9, h10, h11, h12, h13, h14, hM⟩
    have hil : i < 21 := (List.getElem?_eq_some_iff.1 hi).1
    rcases i with _ | _ | _ | _ | _ | _ | _ | _ | _ | _ | _ | _ | _ | _ | _ | _ | _ | _ | _ | _ | _ | i
    · obtain rfl := Option.some.inj hi
      refine wpOp_step rfl (fun K hK => ?_)
      have HKK := Lib.hid hK; clear hK
      simp only [putAll, Act.put, List.setIfInBounds_toArray, List.set_cons_zero, List.set_cons_succ]
      go_simp
      exact HKK.out _ _ ⟨_, by simp only [putAll, Act.put, List.setIfInBounds_toArray, List.set_cons_zero, List.set_cons_succ] <;> rfl, fun _ => rfl, h1, h2, h3, h4, h5, h6, h7, h8, h9, h10, h11, h12, h13, h14, BkM.pre hM.out 0 _ (by decide)⟩
    · obtain rfl := Option.some.inj hi
      refine wpOp_step rfl (fun K hK => ?_)
      have HKK := Lib.hid hK; clear hK
      simp only [putAll, Act.put, List.setIfInBounds_toArray, List.set_cons_zero, List.set_cons_succ]
      go_simp
      exact HKK.out _ _ ⟨_, by simp only [putAll, Act.put, List.setIfInBounds_toArray, List.set_cons_zero, List.set_cons_succ] <;> rfl, h0, fun _ => rfl, h2, h3, h4, h5, h6, h7, h8, h9, h10, h11, h12, h13, h14, BkM.pre hM.out 1 _ (by decide)⟩
    · obtain rfl := Option.some.inj hi
      have d1 := h1 (hall ⟨1, .data⟩ (by simp) rfl)
      have kb := K2.out.on hM.out.below K2.out.lt
      have c1 := kb.e1
      clear kb
      refine wpOp_step rfl (fun K hK => ?_)
      have HKK := Lib.hid hK; clear hK
      simp only [putAll, Act.put, List.setIfInBounds_toArray, List.set_cons_zero, List.set_cons_succ, d1]
      go_simp
      exact HKK.out _ _ ⟨_, by simp only [putAll, Act.put, List.setIfInBounds_toArray, List.set_cons_zero, List.set_cons_succ, d1] <;> rfl, h0, h1, fun _ => rfl, h3, h4, h5, h6, h7, h8, h9, h10, h11, h12, h13, h14, BkM.pre hM.out 2 _ (by decide)⟩
    · obtain rfl := Option.some.inj hi
      refine wpOp_step rfl (fun K hK => ?_)
      have HKK := Lib.hid hK; clear hK
      simp only [putAll, Act.put, List.setIfInBounds_toArray, List.set_cons_zero, List.set_cons_succ]
      go_simp
      exact HKK.out _ _ ⟨_, by simp only [putAll, Act.put, List.setIfInBounds_toArray, List.set_cons_zero, List.set_cons_succ] <;> rfl, h0, h1, h2, fun _ => rfl, h4, h5, h6, h7, h8, h9, h10, h11, h12, h13, h14, BkM.pre hM.out 3 _ (by decide)⟩
    · obtain rfl := Option.some.inj hi
      have d3 := h3 (hall ⟨3, .data⟩ (by simp) rfl)
      have kb := K2.out.on hM.out.below K2.out.lt
      have c2 := kb.e2
      clear kb
      refine wpOp_step rfl (fun K hK => ?_)
      have HKK := Lib.hid hK; clear hK
      simp only [putAll, Act.put, List.setIfInBounds_toArray, List.set_cons_zero, List.set_cons_succ, d3]
      go_simp
      exact HKK.out _ _ ⟨_, by simp only [putAll, Act.put, List.setIfInBounds_toArray, List.set_cons_zero, List.set_cons_succ, d3] <;> rfl, h0, h1, h2, h3, fun _ => rfl, h5, h6, h7, h8, h9, h10, h11, h12, h13, h14, BkM.pre hM.out 4 _ (by decide)⟩
    · obtain rfl := Option.some.inj hi
      refine wpOp_step rfl (fun K hK => ?_)
      have HKK := Lib.hid hK; clear hK
      simp only [putAll, Act.put, List.setIfInBounds_toArray, List.set_cons_zero, List.set_cons_succ]
      go_simp
      exact HKK.out _ _ ⟨_, by simp only [putAll, Act.put, List.setIfInBounds_toArray, List.set_cons_zero, List.set_cons_succ] <;> rfl, h0, h1, h2, h3, h4, fun _ => rfl, h6, h7, h8, h9, h10, h11, h12, h13, h14, BkM.pre hM.out 5 _ (by decide)⟩
    · obtain rfl := Option.some.inj hi
      have d5 := h5 (hall ⟨5, .data⟩ (by simp) rfl)
      have kb := K2.out.on hM.out.below K2.out.lt
      have c0 := kb.e0
      clear kb
      refine wpOp_step rfl (fun K hK => ?_)
      have HKK := Lib.hid hK; clear hK
      simp only [putAll, Act.put, List.setIfInBounds_toArray, List.set_cons_zero, List.set_cons_succ, d5]
      go_simp
      exact HKK.out _ _ ⟨_, by simp only [putAll, Act.put, List.setIfInBounds_toArray, List.set_cons_zero, List.set_cons_succ, d5] <;> rfl, h0, h1, h2, h3, h4, h5, fun _ => rfl, h7, h8, h9, h10, h11, h12, h13, h14, BkM.pre hM.out 6 _ (by decide)⟩
    · obtain rfl := Option.some.inj hi
      refine wpOp_step rfl (fun K hK => ?_)
      have HKK := Lib.hid hK; clear hK
      simp only [putAll, Act.put, List.setIfInBounds_toArray, List.set_cons_zero, List.set_cons_succ]
      go_simp
      exact HKK.out _ _ ⟨_, by simp only [putAll, Act.put, List.setIfInBounds_toArray, List.set_cons_zero, List.set_cons_succ] <;> rfl, h0, h1, h2, h3, h4, h5, h6, fun _ => rfl, h8, h9, h10, h11, h12, h13, h14, BkM.pre hM.out 7 _ (by decide)⟩
    · obtain rfl := Option.some.inj hi
      have d7 := h7 (hall ⟨7, .data⟩ (by simp) rfl)
      have kb := K2.out.on hM.out.below K2.out.lt
      have c1 := kb.e1
      clear kb
      refine wpOp_step rfl (fun K hK => ?_)
      have HKK := Lib.hid hK; clear hK
      simp only [putAll, Act.put, List.setIfInBounds_toArray, List.set_cons_zero, List.set_cons_succ, d7]
      go_simp
      exact HKK.out _ _ ⟨_, by simp only [putAll, Act.put, List.setIfInBounds_toArray, List.set_cons_zero, List.set_cons_succ, d7] <;> rfl, h0, h1, h2, h3, h4, h5, h6, h7, fun _ => rfl, h9, h10, h11, h12, h13, h14, BkM.pre hM.out 8 _ (by decide)⟩
    · obtain rfl := Option.some.inj hi
      refine wpOp_step rfl (fun K hK => ?_)
      have HKK := Lib.hid hK; clear hK
      simp only [putAll, Act.put, List.setIfInBounds_toArray, List.set_cons_zero, List.set_cons_succ]
      go_simp
      exact HKK.out _ _ ⟨_, by simp only [putAll, Act.put, List.setIfInBounds_toArray, List.set_cons_zero, List.set_cons_succ] <;> rfl, h0, h1, h2, h3, h4, h5, h6, h7, h8, fun _ => rfl, h10, h11, h12, h13, h14, BkM.pre hM.out 9 _ (by decide)⟩
    · obtain rfl := Option.some.inj hi
      have d9 := h9 (hall ⟨9, .data⟩ (by simp) rfl)
      have kb := K2.out.on hM.out.below K2.out.lt
      have c2 := kb.e2
      clear kb
      refine wpOp_step rfl (fun K hK => ?_)
      have HKK := Lib.hid hK; clear hK
      simp only [putAll, Act.put, List.setIfInBounds_toArray, List.set_cons_zero, List.set_cons_succ, d9]
      go_simp
      exact HKK.out _ _ ⟨_, by simp only [putAll, Act.put, List.setIfInBounds_toArray, List.set_cons_zero, List.set_cons_succ, d9] <;> rfl, h0, h1, h2, h3, h4, h5, h6, h7, h8, h9, fun _ => rfl, h11, h12, h13, h14, BkM.pre hM.out 10 _ (by decide)⟩
    · obtain rfl := Option.some.inj hi
      have d6 := h6 (hall ⟨6, .data⟩ (by simp) rfl)
      have d8 := h8 (hall ⟨8, .data⟩ (by simp) rfl)
      refine wpOp_step rfl (fun K hK => ?_)
      have HKK := Lib.hid hK; clear hK
      simp only [putAll, Act.put, List.setIfInBounds_toArray, List.set_cons_zero, List.set_cons_succ, d6, d8]
      go_simp
      exact HKK.out _ _ ⟨_, by simp only [putAll, Act.put, List.setIfInBounds_toArray, List.set_cons_zero, List.set_cons_succ, d6, d8] <;> rfl, h0, h1, h2, h3, h4, h5, h6, h7, h8, h9, h10, fun _ => rfl, h12, h13, h14, BkM.pre hM.out 11 _ (by decide)⟩
    · obtain rfl := Option.some.inj hi
      have d11 := h11 (hall ⟨11, .data⟩ (by simp) rfl)
      refine wpOp_step rfl (fun K hK => ?_)
      have HKK := Lib.hid hK; clear hK
      simp only [putAll, Act.put, List.setIfInBounds_toArray, List.set_cons_zero, List.set_cons_succ, d11]
      go_simp
      exact HKK.out _ _ ⟨_, by simp only [putAll, Act.put, List.setIfInBounds_toArray, List.set_cons_zero, List.set_cons_succ, d11] <;> rfl, h0, h1, h2, h3, h4, h5, h6, h7, h8, h9, h10, h11, fun _ => rfl, h13, h14, BkM.pre hM.out 12 _ (by decide)⟩
    · obtain rfl := Option.some.inj hi
      have d12 := h12 (hall ⟨12, .data⟩ (by simp) rfl)
      have d10 := h10 (hall ⟨10, .data⟩ (by simp) rfl)
      refine wpOp_step rfl (fun K hK => ?_)
      have HKK := Lib.hid hK; clear hK
      simp only [putAll, Act.put, List.setIfInBounds_toArray, List.set_cons_zero, List.set_cons_succ, d12, d10]
      go_simp
      exact HKK.out _ _ ⟨_, by simp only [putAll, Act.put, List.setIfInBounds_toArray, List.set_cons_zero, List.set_cons_succ, d12, d10] <;> rfl, h0, h1, h2, h3, h4, h5, h6, h7, h8, h9, h10, h11, h12, fun _ => rfl, h14, BkM.pre hM.out 13 _ (by decide)⟩
    · obtain rfl := Option.some.inj hi
      have d13 := h13 (hall ⟨13, .data⟩ (by simp) rfl)
      have u0 := (cell_below hM.out.below HTB.out).trans t0
      have u1 := (cell_below hM.out.below HTB.out).trans t1
      refine wpOp_step rfl (fun K hK => ?_)
      have HKK := Lib.hid hK; clear hK
      simp only [putAll, Act.put, List.setIfInBounds_toArray, List.set_cons_zero, List.set_cons_succ, d13]
      go_simp
      exact HKK.out _ _ ⟨_, by simp only [putAll, Act.put, List.setIfInBounds_toArray, List.set_cons_zero, List.set_cons_succ, d13] <;> rfl, h0, h1, h2, h3, h4, h5, h6, h7, h8, h9, h10, h11, h12, h13, fun _ => rfl, BkM.pre hM.out 14 _ (by decide)⟩
    · obtain rfl := Option.some.inj hi
      have b15 := hun
      have d0 := h0 (hall ⟨0, .data⟩ (by simp) rfl)
      have d2 := h2 (hall ⟨2, .data⟩ (by simp) rfl)
      have d4 := h4 (hall ⟨4, .data⟩ (by simp) rfl)
      have d14 := h14 (hall ⟨14, .data⟩ (by simp) rfl)
      refine wpOp_step rfl (fun K hK => ?_)
      have HKK := Lib.hid hK; clear hK
      simp only [putAll, Act.put, List.setIfInBounds_toArray, List.set_cons_zero, List.set_cons_succ, d0, d2, d4, d14]
      go_simp
      refine (HPP.out _ hM.out.below).mono ?_
      rintro e w9 ⟨r, rfl, ho, hb⟩
      exact HKK.out _ _ ⟨_, by simp only [putAll, Act.put, List.setIfInBounds_toArray, List.set_cons_zero, List.set_cons_succ, d0, d2, d4, d14] <;> rfl, h0, h1, h2, h3, h4, h5, h6, h7, h8, h9, h10, h11, h12, h13, h14, BkM.call hM.out b15 r _ ho.row hb⟩
    · obtain rfl := Option.some.inj hi
      have b15 := hall ⟨15, .data⟩ (by simp) rfl
      obtain ⟨r, d15, e16, e17, e18, _⟩ := hM.out.2 b15
      refine wpOp_step rfl (fun K hK => ?_)
      have HKK := Lib.hid hK; clear hK
      simp only [putAll, Act.put, List.setIfInBounds_toArray, List.set_cons_zero, List.set_cons_succ, d15]
      go_simp
      exact HKK.out _ _ ⟨_, by simp only [putAll, Act.put, List.setIfInBounds_toArray, List.set_cons_zero, List.set_cons_succ, d15] <;> rfl, h0, h1, h2, h3, h4, h5, h6, h7, h8, h9, h10, h11, h12, h13, h14, BkM.post hM.out 16 (by decide) _ b15 (fun r2 h2r => ⟨fun _ => by rw [show r = r2 from (by have e := d15.symm.trans h2r; simp only [Value.tuple.injEq, Array.mk.injEq, List.cons.injEq, and_true] at e; exact e)], fun e => absurd e (by decide), fun e => absurd e (by decide), fun e => absurd e (by decide), fun e => absurd e (by decide)⟩)⟩
    · obtain rfl := Option.some.inj hi
      have b15 : b' 15 = true := by
        cases hz : b' 15 with
        | true => rfl
        | false => have := (hM.out.1 hz).2 16 (by decide); rw [hall ⟨16, .data⟩ (by simp) rfl] at this; cases this
      obtain ⟨r, d15, e16, e17, e18, _⟩ := hM.out.2 b15
      have d16 := e16 (hall ⟨16, .data⟩ (by simp) rfl)
      have D15 := Lib.hid d15
      clear d15 e16 e17 e18
      refine wpOp_step rfl (fun K hK => ?_)
      have HKK := Lib.hid hK; clear hK
      simp only [putAll, Act.put, List.setIfInBounds_toArray, List.set_cons_zero, List.set_cons_succ, d16]
      go_simp
      exact HKK.out _ _ ⟨_, by simp only [putAll, Act.put, List.setIfInBounds_toArray, List.set_cons_zero, List.set_cons_succ, d16] <;> rfl, h0, h1, h2, h3, h4, h5, h6, h7, h8, h9, h10, h11, h12, h13, h14, BkM.post hM.out 17 (by decide) _ b15 (fun r2 h2r => ⟨fun e => absurd e (by decide), fun _ => (by have e := D15.out.symm.trans h2r; simp only [Value.tuple.injEq, Array.mk.injEq, List.cons.injEq, and_true] at e; exact e), fun e => absurd e (by decide), fun e => absurd e (by decide), fun e => absurd e (by decide)⟩)⟩
    · obtain rfl := Option.some.inj hi
      have b15 : b' 15 = true := by
        cases hz : b' 15 with
        | true => rfl
        | false => have := (hM.out.1 hz).2 16 (by decide); rw [hall ⟨16, .data⟩ (by simp) rfl] at this; cases this
      obtain ⟨r, d15, e16, e17, e18, _⟩ := hM.out.2 b15
      have d16 := e16 (hall ⟨16, .data⟩ (by simp) rfl)
      have D15 := Lib.hid d15
      clear d15 e16 e17 e18
      refine wpOp_step rfl (fun K hK => ?_)
      have HKK := Lib.hid hK; clear hK
      simp only [putAll, Act.put, List.setIfInBounds_toArray, List.set_cons_zero, List.set_cons_succ, d16]
      go_simp
      exact HKK.out _ _ ⟨_, by simp only [putAll, Act.put, List.setIfInBounds_toArray, List.set_cons_zero, List.set_cons_succ, d16] <;> rfl, h0, h1, h2, h3, h4, h5, h6, h7, h8, h9, h10, h11, h12, h13, h14, BkM.post hM.out 18 (by decide) _ b15 (fun r2 h2r => ⟨fun e => absurd e (by decide), fun e => absurd e (by decide), fun _ => rfl, fun e => absurd e (by decide), fun e => absurd e (by decide)⟩)⟩
    · obtain rfl := Option.some.inj hi
      have b15 : b' 15 = true := by
        cases hz : b' 15 with
        | true => rfl
        | false => have := (hM.out.1 hz).2 17 (by decide); rw [hall ⟨17, .data⟩ (by simp) rfl] at this; cases this
      obtain ⟨r, d15, e16, e17, e18, _⟩ := hM.out.2 b15
      have d17 := e17 (hall ⟨17, .data⟩ (by simp) rfl)
      have D15 := Lib.hid d15
      clear d15 e16 e17 e18
      refine wpOp_step rfl (fun K hK => ?_)
      have HKK := Lib.hid hK; clear hK
      simp only [putAll, Act.put, List.setIfInBounds_toArray, List.set_cons_zero, List.set_cons_succ, d17]
      go_simp
      exact HKK.out _ _ ⟨_, by simp only [putAll, Act.put, List.setIfInBounds_toArray, List.set_cons_zero, List.set_cons_succ, d17] <;> rfl, h0, h1, h2, h3, h4, h5, h6, h7, h8, h9, h10, h11, h12, h13, h14, BkM.post hM.out 19 (by decide) _ b15 (fun r2 h2r => ⟨fun e => absurd e (by decide), fun e => absurd e (by decide), fun e => absurd e (by decide), fun _ => (by have e := D15.out.symm.trans h2r; simp only [Value.tuple.injEq, Array.mk.injEq, List.cons.injEq, and_true] at e; exact e), fun e => absurd e (by decide)⟩)⟩
    · obtain rfl := Option.some.inj hi
      have b15 : b' 15 = true := by
        cases hz : b' 15 with
        | true => rfl
        | false => have := (hM.out.1 hz).2 18 (by decide); rw [hall ⟨18, .data⟩ (by simp) rfl] at this; cases this
      obtain ⟨r, d15, e16, e17, e18, _⟩ := hM.out.2 b15
      have d18 := e18 (hall ⟨18, .data⟩ (by simp) rfl)
      have D15 := Lib.hid d15
      clear d15 e16 e17 e18
      refine wpOp_step rfl (fun K hK => ?_)
      have HKK := Lib.hid hK; clear hK
      simp only [putAll, Act.put, List.setIfInBounds_toArray, List.set_cons_zero, List.set_cons_succ, d18]
      go_simp
      exact HKK.out _ _ ⟨_, by simp only [putAll, Act.put, List.setIfInBounds_toArray, List.set_cons_zero, List.set_cons_succ, d18] <;> rfl, h0, h1, h2, h3, h4, h5, h6, h7, h8, h9, h10, h11, h12, h13, h14, BkM.post hM.out 20 (by decide) _ b15 (fun r2 h2r => ⟨fun e => absurd e (by decide), fun e => absurd e (by decide), fun e => absurd e (by decide), fun e => absurd e (by decide), fun _ => rfl⟩)⟩
    · exact absurd hil (by omega)
  · rintro b' vs w' hb ⟨h0, h1, h2, h3, h4, h5, h6, h7, h8, h9, h10, h11, h12, h13, h14, hM⟩
    obtain ⟨r, d15, e16, e17, e18, e19, e20, hrow, hbe⟩ := hM.out.2 (hb 15 (by decide))
    have d19 := e19 (hb 19 (by decide))
    have d20 := e20 (hb 20 (by decide))
    simp only [putAll, Act.put, List.setIfInBounds_toArray, List.set_cons_zero, List.set_cons_succ, d19, d20]
    have BF := Lib.hid (below_next B2.out.1 hbe)
    have RF := Lib.hid hrow
    have KF := Lib.hid (K2.out.on hbe K2.out.lt)
    clear h0 h1 h2 h3 h4 h5 h6 h7 h8 h9 h10 h11 h12 h13 h14 hM hb hbe hrow d15 e16 e17 e18 e19 e20 d19 d20
    have kb := KF.out
    have c0 := kb.e0
    have c1 := kb.e1
    have c2 := kb.e2
    have c3 := kb.e3
    have c4 := kb.e4
    have c5 := kb.e5
    have c6 := kb.e6
    have c7 := kb.e7
    have c8 := kb.e8
    have c9 := kb.e9
    have c10 := kb.e10
    have c11 := kb.e11
    clear kb
    go_wp2_with fail
    refine (equal_c _ _ l _ (by have := HA.out.2.2.2; omega) RF.out (HROW.out.on BF.out)).mono ?_
    rintro e w10 ⟨rfl, hb⟩
    have BG := Lib.hid (below_next BF.out hb); clear hb
    go_wp2_with fail
    refine (awake_c _ (HR.out.on BG.out)).mono ?_
    rintro e w' ⟨rfl, hb⟩
    have HBE := Lib.hid (below_next BG.out hb); clear hb
    go_wp2_with fail
    go_ret
    exact ⟨rfl, HBE.out⟩
set_option maxHeartbeats 4000000 in
set_option maxRecDepth 100000 in
theorem back_C1 (ao : Option Addr) (n c : Nat) (l : List Sg) (I : Nat) (zi : Int) (hzi : (zi == 0) = false) (s : Sg) (x y : Int) (w : World) (HA : Hid (Rd w ∧ RowS w (.slice ao n c) l ∧ n ≤ c ∧ l.length = n ∧ n ≤ 100)) (hI : I < n) (HX : Hid (insI l (I : Int) s = (zi, []) ∧ putI l (I : Int) (1 : Int) (x, y) = (0, putL l (I : Int) (1 : Int) (x, y)))) (s0 : Sg) (hq : l[I]? = some s0) (px py : Int) (hpx : Sg.pt s0 1 = (px, py)) (HP2 : Hid (putI (putL l (I : Int) (1 : Int) (x, y)) (I : Int) (1 : Int) (px, py) = (0, l) ∧ (putL l (I : Int) (1 : Int) (x, y)).length = n)) : Calls Tryd.prog 8 #[.agg (editCells (.slice ao n c) (I : Int) (1 : Int) s x y)] w fun e w' => e = .returned (.bool true) ∧ Below w.heap.size w w' := by
  have HR := Lib.hid HA.out.1
  have HROW := Lib.hid HA.out.2.1
  have HN := Lib.hid HA.out.2.2.2.1
  have hn1 := HA.out.2.2.2.2
  have hgt : decide ((n : Int) > 100) = false := decide_eq_false (by omega)
  clear hn1
  obtain ⟨w0, hw0⟩ : ∃ w0, w.alloc (.cells (editCells (.slice ao n c) (I : Int) (1 : Int) s x y) 50) = w0 := ⟨_, rfl⟩
  have B0 : Hid (Below w.heap.size w w0 ∧ w.heap.size ≤ w0.heap.size) := by rw [← hw0]; exact ⟨(Below.refl _ _).alloc (Nat.le_refl _) _, by simp⟩
  have K0 : Hid (Blk w0 w.heap.size 50 (editCells (.slice ao n c) (I : Int) (1 : Int) s x y)) := by rw [← hw0]; exact Blk.new _ _ _
  have HW0 := Lib.hid hw0
  have HINS : Hid (∀ W, Below w.heap.size w W → Calls Tryd.prog 19 #[.slice ao n c, .int .i64 (I : Int), .agg (seven s.k s.p s.q s.r)] W (Edited W ((zi, [])))) := fun W h => by have := insert_c ao n c l (I : Int) s W (HR.out.on h) (HROW.out.on h) HA.out.2.2.1 (by have := HA.out.2.2.2.2; omega); rw [HX.out.1] at this; exact this
  have HPUT : Hid (∀ W, Below w.heap.size w W → Calls Tryd.prog 18 #[.slice ao n c, .int .i64 (I : Int), .int .i64 (1 : Int), .agg #[.int .i64 x, .int .i64 y]] W (Edited W ((0, putL l (I : Int) (1 : Int) (x, y))))) := fun W h => by have := put_c ao n c l (I : Int) (1 : Int) x y W (HR.out.on h) (HROW.out.on h) HA.out.2.2.1 (by have := HA.out.2.2.2.2; omega); rw [HX.out.2] at this; exact this
  clear hw0
  go_enter Tryd.func8, Tryd.ntmps8
  go_wp2_with fail
  rw [show w.alloc (.cells (editCells (.slice ao n c) (I : Int) (1 : Int) s x y) 50) = w0 from HW0.out]
  refine (HINS.out _ B0.out.1).mono ?_
  rintro e w1 ⟨qI, rfl, ho, hb⟩
  clear ho
  have B1 : Hid (Below w.heap.size w w1 ∧ w.heap.size ≤ w1.heap.size) := ⟨below_next B0.out.1 hb, Nat.le_trans B0.out.2 hb.size⟩
  have K1 := Lib.hid (K0.out.on hb K0.out.lt)
  clear hb
  have kb := K1.out
  have c0 := kb.e0
  have c1 := kb.e1
  have c2 := kb.e2
  have c3 := kb.e3
  have c4 := kb.e4
  have c5 := kb.e5
  have c6 := kb.e6
  have c7 := kb.e7
  have c8 := kb.e8
  have c9 := kb.e9
  have c10 := kb.e10
  have c11 := kb.e11
  clear kb
  go_wp2_with fail
  refine (HPUT.out _ B1.out.1).mono ?_
  rintro e w2 ⟨qP, rfl, ho, hb⟩
  obtain ⟨pa, pc, rfl, hpc⟩ := ho.cap
  rw [HP2.out.2] at hpc ⊢
  have QP2 := Lib.hid ho.row
  rw [HP2.out.2] at QP2
  have HPC := Lib.hid hpc
  clear ho hpc
  have B2 : Hid (Below w.heap.size w w2 ∧ w.heap.size ≤ w2.heap.size) := ⟨below_next B1.out.1 hb, Nat.le_trans B1.out.2 hb.size⟩
  have K2 := Lib.hid (K1.out.on hb K1.out.lt)
  clear hb
  have kb := K2.out
  have c0 := kb.e0
  have c1 := kb.e1
  have c2 := kb.e2
  have c3 := kb.e3
  have c4 := kb.e4
  have c5 := kb.e5
  have c6 := kb.e6
  have c7 := kb.e7
  have c8 := kb.e8
  have c9 := kb.e9
  have c10 := kb.e10
  have c11 := kb.e11
  clear kb
  go_wp2_with fail
  obtain ⟨tb, tp, rfl, htb, hta⟩ := RowS.addr (HROW.out.on B2.out.1) (k := I) (by rw [HN.out]; omega)
  have t0 := hta.c3 hq
  have t1 := hta.c4 hq
  rw [show s0.q.1 = px from congrArg Prod.fst hpx] at t0
  rw [show s0.q.2 = py from congrArg Prod.snd hpx] at t1
  have hIn : (I : Int) < (n : Int) := by omega
  have HTB := Lib.hid htb
  have HPP : Hid (∀ W, Below w2.heap.size w2 W → Calls Tryd.prog 18 #[.slice pa n pc, .int .i64 (I : Int), .int .i64 1, .agg #[.int .i64 px, .int .i64 py]] W (Edited W (0, l))) := fun W h => by
    have := put_c pa n pc (putL l (I : Int) (1 : Int) (x, y)) (I : Int) (1 : Int) px py W (HR.out.on (below_next B2.out.1 h)) (QP2.out.on h) HPC.out (by have := HA.out.2.2.2.2; omega)
    rw [HP2.out.1] at this
    exact this
  clear hta htb
  refine wp_region_put2 (by kernel_rfl) (by kernel_rfl) (by kernel_rfl) (fun b' vs w' => (b' 0 = true → vs 0 = .slice pa n pc) ∧ (b' 1 = true → vs 1 = .pointer (some ⟨w.heap.size, 1, none⟩)) ∧ (b' 2 = true → vs 2 = .int .i64 (I : Int)) ∧ (b' 3 = true → vs 3 = .pointer (some ⟨w.heap.size, 2, none⟩)) ∧ (b' 4 = true → vs 4 = .int .i64 1) ∧ (b' 5 = true → vs 5 = .pointer (some ⟨w.heap.size, 0, none⟩)) ∧ (b' 6 = true → vs 6 = .slice (some ⟨tb, tp, none⟩) n c) ∧ (b' 7 = true → vs 7 = .pointer (some ⟨w.heap.size, 1, none⟩)) ∧ (b' 8 = true → vs 8 = .int .i64 (I : Int)) ∧ (b' 9 = true → vs 9 = .pointer (some ⟨w.heap.size, 2, none⟩)) ∧ (b' 10 = true → vs 10 = .int .i64 1) ∧ (b' 11 = true → vs 11 = .pointer (some ⟨tb, tp + I * 7, none⟩)) ∧ (b' 12 = true → vs 12 = .pointer (some ⟨tb, tp + I * 7 + 1, none⟩)) ∧ (b' 13 = true → vs 13 = .pointer (some ⟨tb, tp + I * 7 + 3, none⟩)) ∧ (b' 14 = true → vs 14 = .agg #[.int .i64 px, .int .i64 py]) ∧ Hid (BkM w2 l b' vs w')) ?_ ?_ ?_
  · intro vs hvs
    exact ⟨fun h => Bool.noConfusion h, fun h => Bool.noConfusion h, fun h => Bool.noConfusion h, fun h => Bool.noConfusion h, fun h => Bool.noConfusion h, fun h => Bool.noConfusion h, fun h => Bool.noConfusion h, fun h => Bool.noConfusion h, fun h => Bool.noConfusion h, fun h => Bool.noConfusion h, fun h => Bool.noConfusion h, fun h => Bool.noConfusion h, fun h => Bool.noConfusion h, fun h => Bool.noConfusion h, fun h => Bool.noConfusion h, ⟨fun _ => ⟨rfl, fun _ _ => rfl⟩, fun h => Bool.noConfusion h⟩⟩
  · rintro b' vs w' i op hi hun hall ⟨h0, h1, h2, h3, h4, h5, h6, h7, h8, h9, h10, h11, h12, h13, h14, hM⟩
    have hil : i < 21 := (List.getElem?_eq_some_iff.1 hi).1
    rcases i with _ | _ | _ | _ | _ | _ | _ | _ | _ | _ | _ | _ | _ | _ | _ | _ | _ | _ | _ | _ | _ | i
    · obtain rfl := Option.some.inj hi
      refine wpOp_step rfl (fun K hK => ?_)
      have HKK := Lib.hid hK; clear hK
      simp only [putAll, Act.put, List.setIfInBounds_toArray, List.set_cons_zero, List.set_cons_succ]
      go_simp
      exact HKK.out _ _ ⟨_, by simp only [putAll, Act.put, List.setIfInBounds_toArray, List.set_cons_zero, List.set_cons_succ] <;> rfl, fun _ => rfl, h1, h2, h3, h4, h5, h6, h7, h8, h9, h10, h11, h12, h13, h14, BkM.pre hM.out 0 _ (by decide)⟩
    · obtain rfl := Option.some.inj hi
      refine wpOp_step rfl (fun K hK => ?_)
      have HKK := Lib.hid hK; clear hK
      simp only [putAll, Act.put, List.setIfInBounds_toArray, List.set_cons_zero, List.set_cons_succ]
      go_simp
      exact HKK.out _ _ ⟨_, by simp only [putAll, Act.put, List.setIfInBounds_toArray, List.set_cons_zero, List.set_cons_succ] <;> rfl, h0, fun _ => rfl, h2, h3, h4, h5, h6, h7, h8, h9, h10, h11, h12, h13, h14, BkM.pre hM.out 1 _ (by decide)⟩
    · obtain rfl := Option.some.inj hi
      have d1 := h1 (hall ⟨1, .data⟩ (by simp) rfl)
      have kb := K2.out.on hM.out.below K2.out.lt
      have c1 := kb.e1
      clear kb
      refine wpOp_step rfl (fun K hK => ?_)
      have HKK := Lib.hid hK; clear hK
      simp only [putAll, Act.put, List.setIfInBounds_toArray, List.set_cons_zero, List.set_cons_succ, d1]
      go_simp
      exact HKK.out _ _ ⟨_, by simp only [putAll, Act.put, List.setIfInBounds_toArray, List.set_cons_zero, List.set_cons_succ, d1] <;> rfl, h0, h1, fun _ => rfl, h3, h4, h5, h6, h7, h8, h9, h10, h11, h12, h13, h14, BkM.pre hM.out 2 _ (by decide)⟩
    · obtain rfl := Option.some.inj hi
      refine wpOp_step rfl (fun K hK => ?_)
      have HKK := Lib.hid hK; clear hK
      simp only [putAll, Act.put, List.setIfInBounds_toArray, List.set_cons_zero, List.set_cons_succ]
      go_simp
      exact HKK.out _ _ ⟨_, by simp only [putAll, Act.put, List.setIfInBounds_toArray, List.set_cons_zero, List.set_cons_succ] <;> rfl, h0, h1, h2, fun _ => rfl, h4, h5, h6, h7, h8, h9, h10, h11, h12, h13, h14, BkM.pre hM.out 3 _ (by decide)⟩
    · obtain rfl := Option.some.inj hi
      have d3 := h3 (hall ⟨3, .data⟩ (by simp) rfl)
      have kb := K2.out.on hM.out.below K2.out.lt
      have c2 := kb.e2
      clear kb
      refine wpOp_step rfl (fun K hK => ?_)
      have HKK := Lib.hid hK; clear hK
      simp only [putAll, Act.put, List.setIfInBounds_toArray, List.set_cons_zero, List.set_cons_succ, d3]
      go_simp
      exact HKK.out _ _ ⟨_, by simp only [putAll, Act.put, List.setIfInBounds_toArray, List.set_cons_zero, List.set_cons_succ, d3] <;> rfl, h0, h1, h2, h3, fun _ => rfl, h5, h6, h7, h8, h9, h10, h11, h12, h13, h14, BkM.pre hM.out 4 _ (by decide)⟩
    · obtain rfl := Option.some.inj hi
      refine wpOp_step rfl (fun K hK => ?_)
      have HKK := Lib.hid hK; clear hK
      simp only [putAll, Act.put, List.setIfInBounds_toArray, List.set_cons_zero, List.set_cons_succ]
      go_simp
      exact HKK.out _ _ ⟨_, by simp only [putAll, Act.put, List.setIfInBounds_toArray, List.set_cons_zero, List.set_cons_succ] <;> rfl, h0, h1, h2, h3, h4, fun _ => rfl, h6, h7, h8, h9, h10, h11, h12, h13, h14, BkM.pre hM.out 5 _ (by decide)⟩
    · obtain rfl := Option.some.inj hi
      have d5 := h5 (hall ⟨5, .data⟩ (by simp) rfl)
      have kb := K2.out.on hM.out.below K2.out.lt
      have c0 := kb.e0
      clear kb
      refine wpOp_step rfl (fun K hK => ?_)
      have HKK := Lib.hid hK; clear hK
      simp only [putAll, Act.put, List.setIfInBounds_toArray, List.set_cons_zero, List.set_cons_succ, d5]
      go_simp
      exact HKK.out _ _ ⟨_, by simp only [putAll, Act.put, List.setIfInBounds_toArray, List.set_cons_zero, List.set_cons_succ, d5] <;> rfl, h0, h1, h2, h3, h4, h5, fun _ => rfl, h7, h8, h9, h10, h11, h12, h13, h14, BkM.pre hM.out 6 _ (by decide)⟩
    · obtain rfl := Option.some.inj hi
      refine wpOp_step rfl (fun K hK => ?_)
      have HKK := Lib.hid hK; clear hK
      simp only [putAll, Act.put, List.setIfInBounds_toArray, List.set_cons_zero, List.set_cons_succ]
      go_simp
      exact HKK.out _ _ ⟨_, by simp only [putAll, Act.put, List.setIfInBounds_toArray, List.set_cons_zero, List.set_cons_succ] <;> rfl, h0, h1, h2, h3, h4, h5, h6, fun _ => rfl, h8, h9, h10, h11, h12, h13, h14, BkM.pre hM.out 7 _ (by decide)⟩
    · obtain rfl := Option.some.inj hi
      have d7 := h7 (hall ⟨7, .data⟩ (by simp) rfl)
      have kb := K2.out.on hM.out.below K2.out.lt
      have c1 := kb.e1
      clear kb
      refine wpOp_step rfl (fun K hK => ?_)
      have HKK := Lib.hid hK; clear hK
      simp only [putAll, Act.put, List.setIfInBounds_toArray, List.set_cons_zero, List.set_cons_succ, d7]
      go_simp
      exact HKK.out _ _ ⟨_, by simp only [putAll, Act.put, List.setIfInBounds_toArray, List.set_cons_zero, List.set_cons_succ, d7] <;> rfl, h0, h1, h2, h3, h4, h5, h6, h7, fun _ => rfl, h9, h10, h11, h12, h13, h14, BkM.pre hM.out 8 _ (by decide)⟩
    · obtain rfl := Option.some.inj hi
      refine wpOp_step rfl (fun K hK => ?_)
      have HKK := Lib.hid hK; clear hK
      simp only [putAll, Act.put, List.setIfInBounds_toArray, List.set_cons_zero, List.set_cons_succ]
      go_simp
      exact HKK.out _ _ ⟨_, by simp only [putAll, Act.put, List.setIfInBounds_toArray, List.set_cons_zero, List.set_cons_succ] <;> rfl, h0, h1, h2, h3, h4, h5, h6, h7, h8, fun _ => rfl, h10, h11, h12, h13, h14, BkM.pre hM.out 9 _ (by decide)⟩
    · obtain rfl := Option.some.inj hi
      have d9 := h9 (hall ⟨9, .data⟩ (by simp) rfl)
      have kb := K2.out.on hM.out.below K2.out.lt
      have c2 := kb.e2
      clear kb
      refine wpOp_step rfl (fun K hK => ?_)
      have HKK := Lib.hid hK; clear hK
      simp only [putAll, Act.put, List.setIfInBounds_toArray, List.set_cons_zero, List.set_cons_succ, d9]
      go_simp
      exact HKK.out _ _ ⟨_, by simp only [putAll, Act.put, List.setIfInBounds_toArray, List.set_cons_zero, List.set_cons_succ, d9] <;> rfl, h0, h1, h2, h3, h4, h5, h6, h7, h8, h9, fun _ => rfl, h11, h12, h13, h14, BkM.pre hM.out 10 _ (by decide)⟩
    · obtain rfl := Option.some.inj hi
      have d6 := h6 (hall ⟨6, .data⟩ (by simp) rfl)
      have d8 := h8 (hall ⟨8, .data⟩ (by simp) rfl)
      refine wpOp_step rfl (fun K hK => ?_)
      have HKK := Lib.hid hK; clear hK
      simp only [putAll, Act.put, List.setIfInBounds_toArray, List.set_cons_zero, List.set_cons_succ, d6, d8]
      go_simp
      exact HKK.out _ _ ⟨_, by simp only [putAll, Act.put, List.setIfInBounds_toArray, List.set_cons_zero, List.set_cons_succ, d6, d8] <;> rfl, h0, h1, h2, h3, h4, h5, h6, h7, h8, h9, h10, fun _ => rfl, h12, h13, h14, BkM.pre hM.out 11 _ (by decide)⟩
    · obtain rfl := Option.some.inj hi
      have d11 := h11 (hall ⟨11, .data⟩ (by simp) rfl)
      refine wpOp_step rfl (fun K hK => ?_)
      have HKK := Lib.hid hK; clear hK
      simp only [putAll, Act.put, List.setIfInBounds_toArray, List.set_cons_zero, List.set_cons_succ, d11]
      go_simp
      exact HKK.out _ _ ⟨_, by simp only [putAll, Act.put, List.setIfInBounds_toArray, List.set_cons_zero, List.set_cons_succ, d11] <;> rfl, h0, h1, h2, h3, h4, h5, h6, h7, h8, h9, h10, h11, fun _ => rfl, h13, h14, BkM.pre hM.out 12 _ (by decide)⟩
    · obtain rfl := Option.some.inj hi
      have d12 := h12 (hall ⟨12, .data⟩ (by simp) rfl)
      have d10 := h10 (hall ⟨10, .data⟩ (by simp) rfl)
      refine wpOp_step rfl (fun K hK => ?_)
      have HKK := Lib.hid hK; clear hK
      simp only [putAll, Act.put, List.setIfInBounds_toArray, List.set_cons_zero, List.set_cons_succ, d12, d10]
      go_simp
      exact HKK.out _ _ ⟨_, by simp only [putAll, Act.put, List.setIfInBounds_toArray, List.set_cons_zero, List.set_cons_succ, d12, d10] <;> rfl, h0, h1, h2, h3, h4, h5, h6, h7, h8, h9, h10, h11, h12, fun _ => rfl, h14, BkM.pre hM.out 13 _ (by decide)⟩
    · obtain rfl := Option.some.inj hi
      have d13 := h13 (hall ⟨13, .data⟩ (by simp) rfl)
      have u0 := (cell_below hM.out.below HTB.out).trans t0
      have u1 := (cell_below hM.out.below HTB.out).trans t1
      refine wpOp_step rfl (fun K hK => ?_)
      have HKK := Lib.hid hK; clear hK
      simp only [putAll, Act.put, List.setIfInBounds_toArray, List.set_cons_zero, List.set_cons_succ, d13]
      go_simp
      exact HKK.out _ _ ⟨_, by simp only [putAll, Act.put, List.setIfInBounds_toArray, List.set_cons_zero, List.set_cons_succ, d13] <;> rfl, h0, h1, h2, h3, h4, h5, h6, h7, h8, h9, h10, h11, h12, h13, fun _ => rfl, BkM.pre hM.out 14 _ (by decide)⟩
    · obtain rfl := Option.some.inj hi
      have b15 := hun
      have d0 := h0 (hall ⟨0, .data⟩ (by simp) rfl)
      have d2 := h2 (hall ⟨2, .data⟩ (by simp) rfl)
      have d4 := h4 (hall ⟨4, .data⟩ (by simp) rfl)
      have d14 := h14 (hall ⟨14, .data⟩ (by simp) rfl)
      refine wpOp_step rfl (fun K hK => ?_)
      have HKK := Lib.hid hK; clear hK
      simp only [putAll, Act.put, List.setIfInBounds_toArray, List.set_cons_zero, List.set_cons_succ, d0, d2, d4, d14]
      go_simp
      refine (HPP.out _ hM.out.below).mono ?_
      rintro e w9 ⟨r, rfl, ho, hb⟩
      exact HKK.out _ _ ⟨_, by simp only [putAll, Act.put, List.setIfInBounds_toArray, List.set_cons_zero, List.set_cons_succ, d0, d2, d4, d14] <;> rfl, h0, h1, h2, h3, h4, h5, h6, h7, h8, h9, h10, h11, h12, h13, h14, BkM.call hM.out b15 r _ ho.row hb⟩
    · obtain rfl := Option.some.inj hi
      have b15 := hall ⟨15, .data⟩ (by simp) rfl
      obtain ⟨r, d15, e16, e17, e18, _⟩ := hM.out.2 b15
      refine wpOp_step rfl (fun K hK => ?_)
      have HKK := Lib.hid hK; clear hK
      simp only [putAll, Act.put, List.setIfInBounds_toArray, List.set_cons_zero, List.set_cons_succ, d15]
      go_simp
      exact HKK.out _ _ ⟨_, by simp only [putAll, Act.put, List.setIfInBounds_toArray, List.set_cons_zero, List.set_cons_succ, d15] <;> rfl, h0, h1, h2, h3, h4, h5, h6, h7, h8, h9, h10, h11, h12, h13, h14, BkM.post hM.out 16 (by decide) _ b15 (fun r2 h2r => ⟨fun _ => by rw [show r = r2 from (by have e := d15.symm.trans h2r; simp only [Value.tuple.injEq, Array.mk.injEq, List.cons.injEq, and_true] at e; exact e)], fun e => absurd e (by decide), fun e => absurd e (by decide), fun e => absurd e (by decide), fun e => absurd e (by decide)⟩)⟩
    · obtain rfl := Option.some.inj hi
      have b15 : b' 15 = true := by
        cases hz : b' 15 with
        | true => rfl
        | false => have := (hM.out.1 hz).2 16 (by decide); rw [hall ⟨16, .data⟩ (by simp) rfl] at this; cases this
      obtain ⟨r, d15, e16, e17, e18, _⟩ := hM.out.2 b15
      have d16 := e16 (hall ⟨16, .data⟩ (by simp) rfl)
      have D15 := Lib.hid d15
      clear d15 e16 e17 e18
      refine wpOp_step rfl (fun K hK => ?_)
      have HKK := Lib.hid hK; clear hK
      simp only [putAll, Act.put, List.setIfInBounds_toArray, List.set_cons_zero, List.set_cons_succ, d16]
      go_simp
      exact HKK.out _ _ ⟨_, by simp only [putAll, Act.put, List.setIfInBounds_toArray, List.set_cons_zero, List.set_cons_succ, d16] <;> rfl, h0, h1, h2, h3, h4, h5, h6, h7, h8, h9, h10, h11, h12, h13, h14, BkM.post hM.out 17 (by decide) _ b15 (fun r2 h2r => ⟨fun e => absurd e (by decide), fun _ => (by have e := D15.out.symm.trans h2r; simp only [Value.tuple.injEq, Array.mk.injEq, List.cons.injEq, and_true] at e; exact e), fun e => absurd e (by decide), fun e => absurd e (by decide), fun e => absurd e (by decide)⟩)⟩
    · obtain rfl := Option.some.inj hi
      have b15 : b' 15 = true := by
        cases hz : b' 15 with
        | true => rfl
        | false => have := (hM.out.1 hz).2 16 (by decide); rw [hall ⟨16, .data⟩ (by simp) rfl] at this; cases this
      obtain ⟨r, d15, e16, e17, e18, _⟩ := hM.out.2 b15
      have d16 := e16 (hall ⟨16, .data⟩ (by simp) rfl)
      have D15 := Lib.hid d15
      clear d15 e16 e17 e18
      refine wpOp_step rfl (fun K hK => ?_)
      have HKK := Lib.hid hK; clear hK
      simp only [putAll, Act.put, List.setIfInBounds_toArray, List.set_cons_zero, List.set_cons_succ, d16]
      go_simp
      exact HKK.out _ _ ⟨_, by simp only [putAll, Act.put, List.setIfInBounds_toArray, List.set_cons_zero, List.set_cons_succ, d16] <;> rfl, h0, h1, h2, h3, h4, h5, h6, h7, h8, h9, h10, h11, h12, h13, h14, BkM.post hM.out 18 (by decide) _ b15 (fun r2 h2r => ⟨fun e => absurd e (by decide), fun e => absurd e (by decide), fun _ => rfl, fun e => absurd e (by decide), fun e => absurd e (by decide)⟩)⟩
    · obtain rfl := Option.some.inj hi
      have b15 : b' 15 = true := by
        cases hz : b' 15 with
        | true => rfl
        | false => have := (hM.out.1 hz).2 17 (by decide); rw [hall ⟨17, .data⟩ (by simp) rfl] at this; cases this
      obtain ⟨r, d15, e16, e17, e18, _⟩ := hM.out.2 b15
      have d17 := e17 (hall ⟨17, .data⟩ (by simp) rfl)
      have D15 := Lib.hid d15
      clear d15 e16 e17 e18
      refine wpOp_step rfl (fun K hK => ?_)
      have HKK := Lib.hid hK; clear hK
      simp only [putAll, Act.put, List.setIfInBounds_toArray, List.set_cons_zero, List.set_cons_succ, d17]
      go_simp
      exact HKK.out _ _ ⟨_, by simp only [putAll, Act.put, List.setIfInBounds_toArray, List.set_cons_zero, List.set_cons_succ, d17] <;> rfl, h0, h1, h2, h3, h4, h5, h6, h7, h8, h9, h10, h11, h12, h13, h14, BkM.post hM.out 19 (by decide) _ b15 (fun r2 h2r => ⟨fun e => absurd e (by decide), fun e => absurd e (by decide), fun e => absurd e (by decide), fun _ => (by have e := D15.out.symm.trans h2r; simp only [Value.tuple.injEq, Array.mk.injEq, List.cons.injEq, and_true] at e; exact e), fun e => absurd e (by decide)⟩)⟩
    · obtain rfl := Option.some.inj hi
      have b15 : b' 15 = true := by
        cases hz : b' 15 with
        | true => rfl
        | false => have := (hM.out.1 hz).2 18 (by decide); rw [hall ⟨18, .data⟩ (by simp) rfl] at this; cases this
      obtain ⟨r, d15, e16, e17, e18, _⟩ := hM.out.2 b15
      have d18 := e18 (hall ⟨18, .data⟩ (by simp) rfl)
      have D15 := Lib.hid d15
      clear d15 e16 e17 e18
      refine wpOp_step rfl (fun K hK => ?_)
      have HKK := Lib.hid hK; clear hK
      simp only [putAll, Act.put, List.setIfInBounds_toArray, List.set_cons_zero, List.set_cons_succ, d18]
      go_simp
      exact HKK.out _ _ ⟨_, by simp only [putAll, Act.put, List.setIfInBounds_toArray, List.set_cons_zero, List.set_cons_succ, d18] <;> rfl, h0, h1, h2, h3, h4, h5, h6, h7, h8, h9, h10, h11, h12, h13, h14, BkM.post hM.out 20 (by decide) _ b15 (fun r2 h2r => ⟨fun e => absurd e (by decide), fun e => absurd e (by decide), fun e => absurd e (by decide), fun e => absurd e (by decide), fun _ => rfl⟩)⟩
    · exact absurd hil (by omega)
  · rintro b' vs w' hb ⟨h0, h1, h2, h3, h4, h5, h6, h7, h8, h9, h10, h11, h12, h13, h14, hM⟩
    obtain ⟨r, d15, e16, e17, e18, e19, e20, hrow, hbe⟩ := hM.out.2 (hb 15 (by decide))
    have d19 := e19 (hb 19 (by decide))
    have d20 := e20 (hb 20 (by decide))
    simp only [putAll, Act.put, List.setIfInBounds_toArray, List.set_cons_zero, List.set_cons_succ, d19, d20]
    have BF := Lib.hid (below_next B2.out.1 hbe)
    have RF := Lib.hid hrow
    have KF := Lib.hid (K2.out.on hbe K2.out.lt)
    clear h0 h1 h2 h3 h4 h5 h6 h7 h8 h9 h10 h11 h12 h13 h14 hM hb hbe hrow d15 e16 e17 e18 e19 e20 d19 d20
    have kb := KF.out
    have c0 := kb.e0
    have c1 := kb.e1
    have c2 := kb.e2
    have c3 := kb.e3
    have c4 := kb.e4
    have c5 := kb.e5
    have c6 := kb.e6
    have c7 := kb.e7
    have c8 := kb.e8
    have c9 := kb.e9
    have c10 := kb.e10
    have c11 := kb.e11
    clear kb
    go_wp2_with fail
    refine (equal_c _ _ l _ (by have := HA.out.2.2.2; omega) RF.out (HROW.out.on BF.out)).mono ?_
    rintro e w10 ⟨rfl, hb⟩
    have BG := Lib.hid (below_next BF.out hb); clear hb
    go_wp2_with fail
    refine (awake_c _ (HR.out.on BG.out)).mono ?_
    rintro e w' ⟨rfl, hb⟩
    have HBE := Lib.hid (below_next BG.out hb); clear hb
    go_wp2_with fail
    go_ret
    exact ⟨rfl, HBE.out⟩
set_option maxHeartbeats 4000000 in
set_option maxRecDepth 100000 in
theorem back_C2 (ao : Option Addr) (n c : Nat) (l : List Sg) (I : Nat) (zi : Int) (hzi : (zi == 0) = false) (s : Sg) (x y : Int) (w : World) (HA : Hid (Rd w ∧ RowS w (.slice ao n c) l ∧ n ≤ c ∧ l.length = n ∧ n ≤ 100)) (hI : I < n) (HX : Hid (insI l (I : Int) s = (zi, []) ∧ putI l (I : Int) (2 : Int) (x, y) = (0, putL l (I : Int) (2 : Int) (x, y)))) (s0 : Sg) (hq : l[I]? = some s0) (px py : Int) (hpx : Sg.pt s0 2 = (px, py)) (HP2 : Hid (putI (putL l (I : Int) (2 : Int) (x, y)) (I : Int) (2 : Int) (px, py) = (0, l) ∧ (putL l (I : Int) (2 : Int) (x, y)).length = n)) : Calls Tryd.prog 8 #[.agg (editCells (.slice ao n c) (I : Int) (2 : Int) s x y)] w fun e w' => e = .returned (.bool true) ∧ Below w.heap.size w w' := by
  have HR := Lib.hid HA.out.1
  have HROW := Lib.hid HA.out.2.1
  have HN := Lib.hid HA.out.2.2.2.1
  have hn1 := HA.out.2.2.2.2
  have hgt : decide ((n : Int) > 100) = false := decide_eq_false (by omega)
  clear hn1
  obtain ⟨w0, hw0⟩ : ∃ w0, w.alloc (.cells (editCells (.slice ao n c) (I : Int) (2 : Int) s x y) 50) = w0 := ⟨_, rfl⟩
  have B0 : Hid (Below w.heap.size w w0 ∧ w.heap.size ≤ w0.heap.size) := by rw [← hw0]; exact ⟨(Below.refl _ _).alloc (Nat.le_refl _) _, by simp⟩
  have K0 : Hid (Blk w0 w.heap.size 50 (editCells (.slice ao n c) (I : Int) (2 : Int) s x y)) := by rw [← hw0]; exact Blk.new _ _ _
  have HW0 := Lib.hid hw0
  have HINS : Hid (∀ W, Below w.heap.size w W → Calls Tryd.prog 19 #[.slice ao n c, .int .i64 (I : Int), .agg (seven s.k s.p s.q s.r)] W (Edited W ((zi, [])))) := fun W h => by have := insert_c ao n c l (I : Int) s W (HR.out.on h) (HROW.out.on h) HA.out.2.2.1 (by have := HA.out.2.2.2.2; omega); rw [HX.out.1] at this; exact this
  have HPUT : Hid (∀ W, Below w.heap.size w W → Calls Tryd.prog 18 #[.slice ao n c, .int .i64 (I : Int), .int .i64 (2 : Int), .agg #[.int .i64 x, .int .i64 y]] W (Edited W ((0, putL l (I : Int) (2 : Int) (x, y))))) := fun W h => by have := put_c ao n c l (I : Int) (2 : Int) x y W (HR.out.on h) (HROW.out.on h) HA.out.2.2.1 (by have := HA.out.2.2.2.2; omega); rw [HX.out.2] at this; exact this
  clear hw0
  go_enter Tryd.func8, Tryd.ntmps8
  go_wp2_with fail
  rw [show w.alloc (.cells (editCells (.slice ao n c) (I : Int) (2 : Int) s x y) 50) = w0 from HW0.out]
  refine (HINS.out _ B0.out.1).mono ?_
  rintro e w1 ⟨qI, rfl, ho, hb⟩
  clear ho
  have B1 : Hid (Below w.heap.size w w1 ∧ w.heap.size ≤ w1.heap.size) := ⟨below_next B0.out.1 hb, Nat.le_trans B0.out.2 hb.size⟩
  have K1 := Lib.hid (K0.out.on hb K0.out.lt)
  clear hb
  have kb := K1.out
  have c0 := kb.e0
  have c1 := kb.e1
  have c2 := kb.e2
  have c3 := kb.e3
  have c4 := kb.e4
  have c5 := kb.e5
  have c6 := kb.e6
  have c7 := kb.e7
  have c8 := kb.e8
  have c9 := kb.e9
  have c10 := kb.e10
  have c11 := kb.e11
  clear kb
  go_wp2_with fail
  refine (HPUT.out _ B1.out.1).mono ?_
  rintro e w2 ⟨qP, rfl, ho, hb⟩
  obtain ⟨pa, pc, rfl, hpc⟩ := ho.cap
  rw [HP2.out.2] at hpc ⊢
  have QP2 := Lib.hid ho.row
  rw [HP2.out.2] at QP2
  have HPC := Lib.hid hpc
  clear ho hpc
  have B2 : Hid (Below w.heap.size w w2 ∧ w.heap.size ≤ w2.heap.size) := ⟨below_next B1.out.1 hb, Nat.le_trans B1.out.2 hb.size⟩
  have K2 := Lib.hid (K1.out.on hb K1.out.lt)
  clear hb
  have kb := K2.out
  have c0 := kb.e0
  have c1 := kb.e1
  have c2 := kb.e2
  have c3 := kb.e3
  have c4 := kb.e4
  have c5 := kb.e5
  have c6 := kb.e6
  have c7 := kb.e7
  have c8 := kb.e8
  have c9 := kb.e9
  have c10 := kb.e10
  have c11 := kb.e11
  clear kb
  go_wp2_with fail
  obtain ⟨tb, tp, rfl, htb, hta⟩ := RowS.addr (HROW.out.on B2.out.1) (k := I) (by rw [HN.out]; omega)
  have t0 := hta.c5 hq
  have t1 := hta.c6 hq
  rw [show s0.r.1 = px from congrArg Prod.fst hpx] at t0
  rw [show s0.r.2 = py from congrArg Prod.snd hpx] at t1
  have hIn : (I : Int) < (n : Int) := by omega
  have HTB := Lib.hid htb
  have HPP : Hid (∀ W, Below w2.heap.size w2 W → Calls Tryd.prog 18 #[.slice pa n pc, .int .i64 (I : Int), .int .i64 2, .agg #[.int .i64 px, .int .i64 py]] W (Edited W (0, l))) := fun W h => by
    have := put_c pa n pc (putL l (I : Int) (2 : Int) (x, y)) (I : Int) (2 : Int) px py W (HR.out.on (below_next B2.out.1 h)) (QP2.out.on h) HPC.out (by have := HA.out.2.2.2.2; omega)
    rw [HP2.out.1] at this
    exact this
  clear hta htb
  refine wp_region_put2 (by kernel_rfl) (by kernel_rfl) (by kernel_rfl) (fun b' vs w' => (b' 0 = true → vs 0 = .slice pa n pc) ∧ (b' 1 = true → vs 1 = .pointer (some ⟨w.heap.size, 1, none⟩)) ∧ (b' 2 = true → vs 2 = .int .i64 (I : Int)) ∧ (b' 3 = true → vs 3 = .pointer (some ⟨w.heap.size, 2, none⟩)) ∧ (b' 4 = true → vs 4 = .int .i64 2) ∧ (b' 5 = true → vs 5 = .pointer (some ⟨w.heap.size, 0, none⟩)) ∧ (b' 6 = true → vs 6 = .slice (some ⟨tb, tp, none⟩) n c) ∧ (b' 7 = true → vs 7 = .pointer (some ⟨w.heap.size, 1, none⟩)) ∧ (b' 8 = true → vs 8 = .int .i64 (I : Int)) ∧ (b' 9 = true → vs 9 = .pointer (some ⟨w.heap.size, 2, none⟩)) ∧ (b' 10 = true → vs 10 = .int .i64 2) ∧ (b' 11 = true → vs 11 = .pointer (some ⟨tb, tp + I * 7, none⟩)) ∧ (b' 12 = true → vs 12 = .pointer (some ⟨tb, tp + I * 7 + 1, none⟩)) ∧ (b' 13 = true → vs 13 = .pointer (some ⟨tb, tp + I * 7 + 5, none⟩)) ∧ (b' 14 = true → vs 14 = .agg #[.int .i64 px, .int .i64 py]) ∧ Hid (BkM w2 l b' vs w')) ?_ ?_ ?_
  · intro vs hvs
    exact ⟨fun h => Bool.noConfusion h, fun h => Bool.noConfusion h, fun h => Bool.noConfusion h, fun h => Bool.noConfusion h, fun h => Bool.noConfusion h, fun h => Bool.noConfusion h, fun h => Bool.noConfusion h, fun h => Bool.noConfusion h, fun h => Bool.noConfusion h, fun h => Bool.noConfusion h, fun h => Bool.noConfusion h, fun h => Bool.noConfusion h, fun h => Bool.noConfusion h, fun h => Bool.noConfusion h, fun h => Bool.noConfusion h, ⟨fun _ => ⟨rfl, fun _ _ => rfl⟩, fun h => Bool.noConfusion h⟩⟩
  · rintro b' vs w' i op hi hun hall ⟨h0, h1, h2, h3, h4, h5, h6, h7, h8, h9, h10, h11, h12, h13, h14, hM⟩
    have hil : i < 21 := (List.getElem?_eq_some_iff.1 hi).1
    rcases i with _ | _ | _ | _ | _ | _ | _ | _ | _ | _ | _ | _ | _ | _ | _ | _ | _ | _ | _ | _ | _ | i
    · obtain rfl := Option.some.inj hi
      refine wpOp_step rfl (fun K hK => ?_)
      have HKK := Lib.hid hK; clear hK
      simp only [putAll, Act.put, List.setIfInBounds_toArray, List.set_cons_zero, List.set_cons_succ]
      go_simp
      exact HKK.out _ _ ⟨_, by simp only [putAll, Act.put, List.setIfInBounds_toArray, List.set_cons_zero, List.set_cons_succ] <;> rfl, fun _ => rfl, h1, h2, h3, h4, h5, h6, h7, h8, h9, h10, h11, h12, h13, h14, BkM.pre hM.out 0 _ (by decide)⟩
    · obtain rfl := Option.some.inj hi
      refine wpOp_step rfl (fun K hK => ?_)
      have HKK := Lib.hid hK; clear hK
      simp only [putAll, Act.put, List.setIfInBounds_toArray, List.set_cons_zero, List.set_cons_succ]
      go_simp
      exact HKK.out _ _ ⟨_, by simp only [putAll, Act.put, List.setIfInBounds_toArray, List.set_cons_zero, List.set_cons_succ] <;> rfl, h0, fun _ => rfl, h2, h3, h4, h5, h6, h7, h8, h9, h10, h11, h12, h13, h14, BkM.pre hM.out 1 _ (by decide)⟩
    · obtain rfl := Option.some.inj hi
      have d1 := h1 (hall ⟨1, .data⟩ (by simp) rfl)
      have kb := K2.out.on hM.out.below K2.out.lt
      have c1 := kb.e1
      clear kb
      refine wpOp_step rfl (fun K hK => ?_)
      have HKK := Lib.hid hK; clear hK
      simp only [putAll, Act.put, List.setIfInBounds_toArray, List.set_cons_zero, List.set_cons_succ, d1]
      go_simp
      exact HKK.out _ _ ⟨_, by simp only [putAll, Act.put, List.setIfInBounds_toArray, List.set_cons_zero, List.set_cons_succ, d1] <;> rfl, h0, h1, fun _ => rfl, h3, h4, h5, h6, h7, h8, h9, h10, h11, h12, h13, h14, BkM.pre hM.out 2 _ (by decide)⟩
    · obtain rfl := Option.some.inj hi
      refine wpOp_step rfl (fun K hK => ?_)
      have HKK := Lib.hid hK; clear hK
      simp only [putAll, Act.put, List.setIfInBounds_toArray, List.set_cons_zero, List.set_cons_succ]
      go_simp
      exact HKK.out _ _ ⟨_, by simp only [putAll, Act.put, List.setIfInBounds_toArray, List.set_cons_zero, List.set_cons_succ] <;> rfl, h0, h1, h2, fun _ => rfl, h4, h5, h6, h7, h8, h9, h10, h11, h12, h13, h14, BkM.pre hM.out 3 _ (by decide)⟩
    · obtain rfl := Option.some.inj hi
      have d3 := h3 (hall ⟨3, .data⟩ (by simp) rfl)
      have kb := K2.out.on hM.out.below K2.out.lt
      have c2 := kb.e2
      clear kb
      refine wpOp_step rfl (fun K hK => ?_)
      have HKK := Lib.hid hK; clear hK
      simp only [putAll, Act.put, List.setIfInBounds_toArray, List.set_cons_zero, List.set_cons_succ, d3]
      go_simp
      exact HKK.out _ _ ⟨_, by simp only [putAll, Act.put, List.setIfInBounds_toArray, List.set_cons_zero, List.set_cons_succ, d3] <;> rfl, h0, h1, h2, h3, fun _ => rfl, h5, h6, h7, h8, h9, h10, h11, h12, h13, h14, BkM.pre hM.out 4 _ (by decide)⟩
    · obtain rfl := Option.some.inj hi
      refine wpOp_step rfl (fun K hK => ?_)
      have HKK := Lib.hid hK; clear hK
      simp only [putAll, Act.put, List.setIfInBounds_toArray, List.set_cons_zero, List.set_cons_succ]
      go_simp
      exact HKK.out _ _ ⟨_, by simp only [putAll, Act.put, List.setIfInBounds_toArray, List.set_cons_zero, List.set_cons_succ] <;> rfl, h0, h1, h2, h3, h4, fun _ => rfl, h6, h7, h8, h9, h10, h11, h12, h13, h14, BkM.pre hM.out 5 _ (by decide)⟩
    · obtain rfl := Option.some.inj hi
      have d5 := h5 (hall ⟨5, .data⟩ (by simp) rfl)
      have kb := K2.out.on hM.out.below K2.out.lt
      have c0 := kb.e0
      clear kb
      refine wpOp_step rfl (fun K hK => ?_)
      have HKK := Lib.hid hK; clear hK
      simp only [putAll, Act.put, List.setIfInBounds_toArray, List.set_cons_zero, List.set_cons_succ, d5]
      go_simp
      exact HKK.out _ _ ⟨_, by simp only [putAll, Act.put, List.setIfInBounds_toArray, List.set_cons_zero, List.set_cons_succ, d5] <;> rfl, h0, h1, h2, h3, h4, h5, fun _ => rfl, h7, h8, h9, h10, h11, h12, h13, h14, BkM.pre hM.out 6 _ (by decide)⟩
    · obtain rfl := Option.some.inj hi
      refine wpOp_step rfl (fun K hK => ?_)
      have HKK := Lib.hid hK; clear hK
      simp only [putAll, Act.put, List.setIfInBounds_toArray, List.set_cons_zero, List.set_cons_succ]
      go_simp
      exact HKK.out _ _ ⟨_, by simp only [putAll, Act.put, List.setIfInBounds_toArray, List.set_cons_zero, List.set_cons_succ] <;> rfl, h0, h1, h2, h3, h4, h5, h6, fun _ => rfl, h8, h9, h10, h11, h12, h13, h14, BkM.pre hM.out 7 _ (by decide)⟩
    · obtain rfl := Option.some.inj hi
      have d7 := h7 (hall ⟨7, .data⟩ (by simp) rfl)
      have kb := K2.out.on hM.out.below K2.out.lt
      have c1 := kb.e1
      clear kb
      refine wpOp_step rfl (fun K hK => ?_)
      have HKK := Lib.hid hK; clear hK
      simp only [putAll, Act.put, List.setIfInBounds_toArray, List.set_cons_zero, List.set_cons_succ, d7]
      go_simp
      exact HKK.out _ _ ⟨_, by simp only [putAll, Act.put, List.setIfInBounds_toArray, List.set_cons_zero, List.set_cons_succ, d7] <;> rfl, h0, h1, h2, h3, h4, h5, h6, h7, fun _ => rfl, h9, h10, h11, h12, h13, h14, BkM.pre hM.out 8 _ (by decide)⟩
    · obtain rfl := Option.some.inj hi
      refine wpOp_step rfl (fun K hK => ?_)
      have HKK := Lib.hid hK; clear hK
      simp only [putAll, Act.put, List.setIfInBounds_toArray, List.set_cons_zero, List.set_cons_succ]
      go_simp
      exact HKK.out _ _ ⟨_, by simp only [putAll, Act.put, List.setIfInBounds_toArray, List.set_cons_zero, List.set_cons_succ] <;> rfl, h0, h1, h2, h3, h4, h5, h6, h7, h8, fun _ => rfl, h10, h11, h12, h13, h14, BkM.pre hM.out 9 _ (by decide)⟩
    · obtain rfl := Option.some.inj hi
      have d9 := h9 (hall ⟨9, .data⟩ (by simp) rfl)
      have kb := K2.out.on hM.out.below K2.out.lt
      have c2 := kb.e2
      clear kb
      refine wpOp_step rfl (fun K hK => ?_)
      have HKK := Lib.hid hK; clear hK
      simp only [putAll, Act.put, List.setIfInBounds_toArray, List.set_cons_zero, List.set_cons_succ, d9]
      go_simp
      exact HKK.out _ _ ⟨_, by simp only [putAll, Act.put, List.setIfInBounds_toArray, List.set_cons_zero, List.set_cons_succ, d9] <;> rfl, h0, h1, h2, h3, h4, h5, h6, h7, h8, h9, fun _ => rfl, h11, h12, h13, h14, BkM.pre hM.out 10 _ (by decide)⟩
    · obtain rfl := Option.some.inj hi
      have d6 := h6 (hall ⟨6, .data⟩ (by simp) rfl)
      have d8 := h8 (hall ⟨8, .data⟩ (by simp) rfl)
      refine wpOp_step rfl (fun K hK => ?_)
      have HKK := Lib.hid hK; clear hK
      simp only [putAll, Act.put, List.setIfInBounds_toArray, List.set_cons_zero, List.set_cons_succ, d6, d8]
      go_simp
      exact HKK.out _ _ ⟨_, by simp only [putAll, Act.put, List.setIfInBounds_toArray, List.set_cons_zero, List.set_cons_succ, d6, d8] <;> rfl, h0, h1, h2, h3, h4, h5, h6, h7, h8, h9, h10, fun _ => rfl, h12, h13, h14, BkM.pre hM.out 11 _ (by decide)⟩
    · obtain rfl := Option.some.inj hi
      have d11 := h11 (hall ⟨11, .data⟩ (by simp) rfl)
      refine wpOp_step rfl (fun K hK => ?_)
      have HKK := Lib.hid hK; clear hK
      simp only [putAll, Act.put, List.setIfInBounds_toArray, List.set_cons_zero, List.set_cons_succ, d11]
      go_simp
      exact HKK.out _ _ ⟨_, by simp only [putAll, Act.put, List.setIfInBounds_toArray, List.set_cons_zero, List.set_cons_succ, d11] <;> rfl, h0, h1, h2, h3, h4, h5, h6, h7, h8, h9, h10, h11, fun _ => rfl, h13, h14, BkM.pre hM.out 12 _ (by decide)⟩
    · obtain rfl := Option.some.inj hi
      have d12 := h12 (hall ⟨12, .data⟩ (by simp) rfl)
      have d10 := h10 (hall ⟨10, .data⟩ (by simp) rfl)
      refine wpOp_step rfl (fun K hK => ?_)
      have HKK := Lib.hid hK; clear hK
      simp only [putAll, Act.put, List.setIfInBounds_toArray, List.set_cons_zero, List.set_cons_succ, d12, d10]
      go_simp
      exact HKK.out _ _ ⟨_, by simp only [putAll, Act.put, List.setIfInBounds_toArray, List.set_cons_zero, List.set_cons_succ, d12, d10] <;> rfl, h0, h1, h2, h3, h4, h5, h6, h7, h8, h9, h10, h11, h12, fun _ => rfl, h14, BkM.pre hM.out 13 _ (by decide)⟩
    · obtain rfl := Option.some.inj hi
      have d13 := h13 (hall ⟨13, .data⟩ (by simp) rfl)
      have u0 := (cell_below hM.out.below HTB.out).trans t0
      have u1 := (cell_below hM.out.below HTB.out).trans t1
      refine wpOp_step rfl (fun K hK => ?_)
      have HKK := Lib.hid hK; clear hK
      simp only [putAll, Act.put, List.setIfInBounds_toArray, List.set_cons_zero, List.set_cons_succ, d13]
      go_simp
      exact HKK.out _ _ ⟨_, by simp only [putAll, Act.put, List.setIfInBounds_toArray, List.set_cons_zero, List.set_cons_succ, d13] <;> rfl, h0, h1, h2, h3, h4, h5, h6, h7, h8, h9, h10, h11, h12, h13, fun _ => rfl, BkM.pre hM.out 14 _ (by decide)⟩
    · obtain rfl := Option.some.inj hi
      have b15 := hun
      have d0 := h0 (hall ⟨0, .data⟩ (by simp) rfl)
      have d2 := h2 (hall ⟨2, .data⟩ (by simp) rfl)
      have d4 := h4 (hall ⟨4, .data⟩ (by simp) rfl)
      have d14 := h14 (hall ⟨14, .data⟩ (by simp) rfl)
      refine wpOp_step rfl (fun K hK => ?_)
      have HKK := Lib.hid hK; clear hK
      simp only [putAll, Act.put, List.setIfInBounds_toArray, List.set_cons_zero, List.set_cons_succ, d0, d2, d4, d14]
      go_simp
      refine (HPP.out _ hM.out.below).mono ?_
      rintro e w9 ⟨r, rfl, ho, hb⟩
      exact HKK.out _ _ ⟨_, by simp only [putAll, Act.put, List.setIfInBounds_toArray, List.set_cons_zero, List.set_cons_succ, d0, d2, d4, d14] <;> rfl, h0, h1, h2, h3, h4, h5, h6, h7, h8, h9, h10, h11, h12, h13, h14, BkM.call hM.out b15 r _ ho.row hb⟩
    · obtain rfl := Option.some.inj hi
      have b15 := hall ⟨15, .data⟩ (by simp) rfl
      obtain ⟨r, d15, e16, e17, e18, _⟩ := hM.out.2 b15
      refine wpOp_step rfl (fun K hK => ?_)
      have HKK := Lib.hid hK; clear hK
      simp only [putAll, Act.put, List.setIfInBounds_toArray, List.set_cons_zero, List.set_cons_succ, d15]
      go_simp
      exact HKK.out _ _ ⟨_, by simp only [putAll, Act.put, List.setIfInBounds_toArray, List.set_cons_zero, List.set_cons_succ, d15] <;> rfl, h0, h1, h2, h3, h4, h5, h6, h7, h8, h9, h10, h11, h12, h13, h14, BkM.post hM.out 16 (by decide) _ b15 (fun r2 h2r => ⟨fun _ => by rw [show r = r2 from (by have e := d15.symm.trans h2r; simp only [Value.tuple.injEq, Array.mk.injEq, List.cons.injEq, and_true] at e; exact e)], fun e => absurd e (by decide), fun e => absurd e (by decide), fun e => absurd e (by decide), fun e => absurd e (by decide)⟩)⟩
    · obtain rfl := Option.some.inj hi
      have b15 : b' 15 = true := by
        cases hz : b' 15 with
        | true => rfl
        | false => have := (hM.out.1 hz).2 16 (by decide); rw [hall ⟨16, .data⟩ (by simp) rfl] at this; cases this
      obtain ⟨r, d15, e16, e17, e18, _⟩ := hM.out.2 b15
      have d16 := e16 (hall ⟨16, .data⟩ (by simp) rfl)
      have D15 := Lib.hid d15
      clear d15 e16 e17 e18
      refine wpOp_step rfl (fun K hK => ?_)
      have HKK := Lib.hid hK; clear hK
      simp only [putAll, Act.put, List.setIfInBounds_toArray, List.set_cons_zero, List.set_cons_succ, d16]
      go_simp
      exact HKK.out _ _ ⟨_, by simp only [putAll, Act.put, List.setIfInBounds_toArray, List.set_cons_zero, List.set_cons_succ, d16] <;> rfl, h0, h1, h2, h3, h4, h5, h6, h7, h8, h9, h10, h11, h12, h13, h14, BkM.post hM.out 17 (by decide) _ b15 (fun r2 h2r => ⟨fun e => absurd e (by decide), fun _ => (by have e := D15.out.symm.trans h2r; simp only [Value.tuple.injEq, Array.mk.injEq, List.cons.injEq, and_true] at e; exact e), fun e => absurd e (by decide), fun e => absurd e (by decide), fun e => absurd e (by decide)⟩)⟩
    · obtain rfl := Option.some.inj hi
      have b15 : b' 15 = true := by
        cases hz : b' 15 with
        | true => rfl
        | false => have := (hM.out.1 hz).2 16 (by decide); rw [hall ⟨16, .data⟩ (by simp) rfl] at this; cases this
      obtain ⟨r, d15, e16, e17, e18, _⟩ := hM.out.2 b15
      have d16 := e16 (hall ⟨16, .data⟩ (by simp) rfl)
      have D15 := Lib.hid d15
      clear d15 e16 e17 e18
      refine wpOp_step rfl (fun K hK => ?_)
      have HKK := Lib.hid hK; clear hK
      simp only [putAll, Act.put, List.setIfInBounds_toArray, List.set_cons_zero, List.set_cons_succ, d16]
      go_simp
      exact HKK.out _ _ ⟨_, by simp only [putAll, Act.put, List.setIfInBounds_toArray, List.set_cons_zero, List.set_cons_succ, d16] <;> rfl, h0, h1, h2, h3, h4, h5, h6, h7, h8, h9, h10, h11, h12, h13, h14, BkM.post hM.out 18 (by decide) _ b15 (fun r2 h2r => ⟨fun e => absurd e (by decide), fun e => absurd e (by decide), fun _ => rfl, fun e => absurd e (by decide), fun e => absurd e (by decide)⟩)⟩
    · obtain rfl := Option.some.inj hi
      have b15 : b' 15 = true := by
        cases hz : b' 15 with
        | true => rfl
        | false => have := (hM.out.1 hz).2 17 (by decide); rw [hall ⟨17, .data⟩ (by simp) rfl] at this; cases this
      obtain ⟨r, d15, e16, e17, e18, _⟩ := hM.out.2 b15
      have d17 := e17 (hall ⟨17, .data⟩ (by simp) rfl)
      have D15 := Lib.hid d15
      clear d15 e16 e17 e18
      refine wpOp_step rfl (fun K hK => ?_)
      have HKK := Lib.hid hK; clear hK
      simp only [putAll, Act.put, List.setIfInBounds_toArray, List.set_cons_zero, List.set_cons_succ, d17]
      go_simp
      exact HKK.out _ _ ⟨_, by simp only [putAll, Act.put, List.setIfInBounds_toArray, List.set_cons_zero, List.set_cons_succ, d17] <;> rfl, h0, h1, h2, h3, h4, h5, h6, h7, h8, h9, h10, h11, h12, h13, h14, BkM.post hM.out 19 (by decide) _ b15 (fun r2 h2r => ⟨fun e => absurd e (by decide), fun e => absurd e (by decide), fun e => absurd e (by decide), fun _ => (by have e := D15.out.symm.trans h2r; simp only [Value.tuple.injEq, Array.mk.injEq, List.cons.injEq, and_true] at e; exact e), fun e => absurd e (by decide)⟩)⟩
    · obtain rfl := Option.some.inj hi
      have b15 : b' 15 = true := by
        cases hz : b' 15 with
        | true => rfl
        | false => have := (hM.out.1 hz).2 18 (by decide); rw [hall ⟨18, .data⟩ (by simp) rfl] at this; cases this
      obtain ⟨r, d15, e16, e17, e18, _⟩ := hM.out.2 b15
      have d18 := e18 (hall ⟨18, .data⟩ (by simp) rfl)
      have D15 := Lib.hid d15
      clear d15 e16 e17 e18
      refine wpOp_step rfl (fun K hK => ?_)
      have HKK := Lib.hid hK; clear hK
      simp only [putAll, Act.put, List.setIfInBounds_toArray, List.set_cons_zero, List.set_cons_succ, d18]
      go_simp
      exact HKK.out _ _ ⟨_, by simp only [putAll, Act.put, List.setIfInBounds_toArray, List.set_cons_zero, List.set_cons_succ, d18] <;> rfl, h0, h1, h2, h3, h4, h5, h6, h7, h8, h9, h10, h11, h12, h13, h14, BkM.post hM.out 20 (by decide) _ b15 (fun r2 h2r => ⟨fun e => absurd e (by decide), fun e => absurd e (by decide), fun e => absurd e (by decide), fun e => absurd e (by decide), fun _ => rfl⟩)⟩
    · exact absurd hil (by omega)
  · rintro b' vs w' hb ⟨h0, h1, h2, h3, h4, h5, h6, h7, h8, h9, h10, h11, h12, h13, h14, hM⟩
    obtain ⟨r, d15, e16, e17, e18, e19, e20, hrow, hbe⟩ := hM.out.2 (hb 15 (by decide))
    have d19 := e19 (hb 19 (by decide))
    have d20 := e20 (hb 20 (by decide))
    simp only [putAll, Act.put, List.setIfInBounds_toArray, List.set_cons_zero, List.set_cons_succ, d19, d20]
    have BF := Lib.hid (below_next B2.out.1 hbe)
    have RF := Lib.hid hrow
    have KF := Lib.hid (K2.out.on hbe K2.out.lt)
    clear h0 h1 h2 h3 h4 h5 h6 h7 h8 h9 h10 h11 h12 h13 h14 hM hb hbe hrow d15 e16 e17 e18 e19 e20 d19 d20
    have kb := KF.out
    have c0 := kb.e0
    have c1 := kb.e1
    have c2 := kb.e2
    have c3 := kb.e3
    have c4 := kb.e4
    have c5 := kb.e5
    have c6 := kb.e6
    have c7 := kb.e7
    have c8 := kb.e8
    have c9 := kb.e9
    have c10 := kb.e10
    have c11 := kb.e11
    clear kb
    go_wp2_with fail
    refine (equal_c _ _ l _ (by have := HA.out.2.2.2; omega) RF.out (HROW.out.on BF.out)).mono ?_
    rintro e w10 ⟨rfl, hb⟩
    have BG := Lib.hid (below_next BF.out hb); clear hb
    go_wp2_with fail
    refine (awake_c _ (HR.out.on BG.out)).mono ?_
    rintro e w' ⟨rfl, hb⟩
    have HBE := Lib.hid (below_next BG.out hb); clear hb
    go_wp2_with fail
    go_ret
    exact ⟨rfl, HBE.out⟩
end Go.Proofs.YtffgpikhahpomaaDoor
