/- Layer 6: the law PathEdits, further. -/
import Derived.Test.YtffgpikhahpomaaDoorEa
import Derived.Deep.QuietTactic
namespace Go.Proofs.YtffgpikhahpomaaDoor
open Go.RowKit
set_option maxHeartbeats 4000000 in
set_option maxRecDepth 100000 in
theorem edits_D (ao : Option Addr) (n c : Nat) (l : List Sg) (k : Int) (s : Sg) (x y : Int) (w : World) (HA : Hid (Rd w ∧ RowS w (.slice ao n c) l ∧ n ≤ c ∧ l.length = n ∧ n ≤ 100)) (HLEN : Hid ((insL l (n : Int) s).length ≤ 5000 ∧ (insL l (n : Int) s).length ≤ 5000 ∧ (insL l (n : Int) s).length ≤ 5000)) (HX : Hid (checkI l = 0 ∧ putI l (n : Int) k (x, y) = (30, []) ∧ insI l (n : Int) s = outI (insL l (n : Int) s) ∧ delI l (n : Int) = (30, []))) : Calls Tryd.prog 5 #[.agg (editCells (.slice ao n c) (n : Int) k s x y)] w fun e w' => e = .returned (.bool true) ∧ Below w.heap.size w w' := by
  have d1 : decide ((n : Int) < 0) = false := decide_eq_false (by omega)
  have d2 : decide ((n : Int) > (n : Int)) = false := decide_eq_false (by omega)
  have d3 : ((n : Int) == (n : Int)) = true := by simp
  have HW : Hid (∀ W ta tc v, RowS W (.slice ta n tc) l → RowS W v [s] → Calls Tryd.prog 23 #[.slice ta n tc, .int .i64 (n : Int), .int .i64 0, v] W fun e w' => ∃ u, e = .returned u ∧ RowS w' u (insL l (n : Int) s) ∧ Below W.heap.size W w') := fun W ta tc v h1 h2 => by
    have h := with_c ta n tc n 0 l v [s] W h1 h2 (by omega) (by have := HA.out.2.2.2.2; simp; omega)
    refine h.mono ?_
    rintro e w' ⟨u, rfl, ho, hb⟩
    exact ⟨u, rfl, ho.row, hb⟩
  have HR := Lib.hid HA.out.1
  have HROW := Lib.hid HA.out.2.1
  have HN := Lib.hid HA.out.2.2.2.1
  have hn1 := HA.out.2.2.2.2
  have hgt : decide ((n : Int) > 100) = false := decide_eq_false (by omega)
  clear hn1
  obtain ⟨w0, hw0⟩ : ∃ w0, w.alloc (.cells (editCells (.slice ao n c) (n : Int) k s x y) 50) = w0 := ⟨_, rfl⟩
  have B0 : Hid (Below w.heap.size w w0 ∧ w.heap.size ≤ w0.heap.size) := by rw [← hw0]; exact ⟨(Below.refl _ _).alloc (Nat.le_refl _) _, by simp⟩
  have HK : Hid (Blk w0 w.heap.size 50 (editCells (.slice ao n c) (n : Int) k s x y)) := by rw [← hw0]; exact Blk.new _ _ _
  have HW0 := Lib.hid hw0
  have HREF : Hid (∀ W v L, L.length ≤ 5000 → RowS W v L → Calls Tryd.prog 12 #[v] W fun e w' => ∃ u, e = .returned u ∧ OwnS w' W.heap.size 60 u L ∧ Below W.heap.size W w') := fun W v L h1 h2 => ref_c W v L h1 h2
  have HRC : Hid (∀ W v, RowS W v l → Calls Tryd.prog 11 #[v] W fun e w' => e = .returned (.int .i64 0) ∧ Below W.heap.size W w') := fun W v h => by have := rcheck_c v l W h; rw [HX.out.1] at this; exact this
  have HPUT : Hid (∀ W, Below w.heap.size w W → Calls Tryd.prog 18 #[.slice ao n c, .int .i64 (n : Int), .int .i64 k, .agg #[.int .i64 x, .int .i64 y]] W (Edited W ((30, [])))) := fun W h => by have := put_c ao n c l (n : Int) k x y W (HR.out.on h) (HROW.out.on h) HA.out.2.2.1 (by have := HA.out.2.2.2.2; omega); rw [HX.out.2.1] at this; exact this
  have HINS : Hid (∀ W, Below w.heap.size w W → Calls Tryd.prog 19 #[.slice ao n c, .int .i64 (n : Int), .agg (seven s.k s.p s.q s.r)] W (Edited W (outI (insL l (n : Int) s)))) := fun W h => by have := insert_c ao n c l (n : Int) s W (HR.out.on h) (HROW.out.on h) HA.out.2.2.1 (by have := HA.out.2.2.2.2; omega); rw [HX.out.2.2.1] at this; exact this
  have HDEL : Hid (∀ W, Below w.heap.size w W → Calls Tryd.prog 20 #[.slice ao n c, .int .i64 (n : Int)] W (Edited W ((30, [])))) := fun W h => by have := delete_c ao n c l (n : Int) W (HR.out.on h) (HROW.out.on h) HA.out.2.2.1 (by have := HA.out.2.2.2.2; omega); rw [HX.out.2.2.2] at this; exact this
  clear hw0
  obtain ⟨zI, hzI⟩ : ∃ z, (outI (insL l (n : Int) s)).1 = z := ⟨_, rfl⟩
  have HISI : Hid (∀ W q v, RowS W q (outI (insL l (n : Int) s)).2 → RowS W v (insL l (n : Int) s) → Calls Tryd.prog 22 #[q, .int .i64 zI, v] W fun e w' => e = .returned (.bool true) ∧ Below W.heap.size W w') := fun W q v h1 h2 => by have := is_c q v (insL l (n : Int) s) W (HLEN.out.2.1) h1 h2; rw [hzI] at this; exact this
  have HINS2 := Lib.hid hzI
  clear hzI
  go_enter Tryd.func5, Tryd.ntmps5
  go_wp2_with fail
  rw [show w.alloc (.cells (editCells (.slice ao n c) (n : Int) k s x y) 50) = w0 from HW0.out]
  refine (HREF.out _ _ l (by have := HA.out.2.2.2; omega) (HROW.out.on B0.out.1)).mono ?_
  rintro e w1 ⟨u, rfl, ho, hb⟩
  have B1 : Hid (Below w.heap.size w w1 ∧ w.heap.size ≤ w1.heap.size) := ⟨below_next B0.out.1 hb, Nat.le_trans B0.out.2 hb.size⟩
  have K1 := Lib.hid (HK.out.on hb HK.out.lt)
  have HT0 := Lib.hid ho
  obtain ⟨ta, tc, rfl, _⟩ := ho.cap
  rw [HN.out] at HT0
  have T1 := Lib.hid HT0.out.row
  clear HT0 ho hb
  simp only [HN.out]
  go_wp2_with fail
  refine (HRC.out _ _ T1.out).mono ?_
  rintro e w2 ⟨rfl, hb⟩
  have B2 : Hid (Below w.heap.size w w2 ∧ w.heap.size ≤ w2.heap.size) := ⟨below_next B1.out.1 hb, Nat.le_trans B1.out.2 hb.size⟩
  have K2 := Lib.hid (K1.out.on hb K1.out.lt)
  have T2 := Lib.hid (T1.out.on hb)
  clear hb
  have kb := K2.out
  have c0 := kb.e0
  have c1 := kb.e1
  have c2 := kb.e2
  have c3 := kb.e3
  have c4 := kb.e4
  have c5 := kb.e5
  have c6 := kb.e6
  have c7 := kb.e7
  have c8 := kb.e8
  have c9 := kb.e9
  have c10 := kb.e10
  have c11 := kb.e11
  clear kb
  go_wp2_with fail
  refine (HPUT.out _ B2.out.1).mono ?_
  rintro e w3 ⟨qP, rfl, ho, hb⟩
  obtain ⟨qaP, qcP, rfl⟩ := OwnS.empty ho
  clear ho
  have B3 : Hid (Below w.heap.size w w3 ∧ w.heap.size ≤ w3.heap.size) := ⟨below_next B2.out.1 hb, Nat.le_trans B2.out.2 hb.size⟩
  have K3 := Lib.hid (K2.out.on hb K2.out.lt)
  have T3 := Lib.hid (T2.out.on hb)
  clear hb
  have kb := K3.out
  have c0 := kb.e0
  have c1 := kb.e1
  have c2 := kb.e2
  have c3 := kb.e3
  have c4 := kb.e4
  have c5 := kb.e5
  have c6 := kb.e6
  have c7 := kb.e7
  have c8 := kb.e8
  have c9 := kb.e9
  have c10 := kb.e10
  have c11 := kb.e11
  clear kb
  go_wp2_with fail
  refine (HINS.out _ B3.out.1).mono ?_
  rintro e w4 ⟨qI, rfl, ho, hb⟩
  have QI4 := Lib.hid ho.row
  clear ho
  simp only [HINS2.out]
  have B4 : Hid (Below w.heap.size w w4 ∧ w.heap.size ≤ w4.heap.size) := ⟨below_next B3.out.1 hb, Nat.le_trans B3.out.2 hb.size⟩
  have K4 := Lib.hid (K3.out.on hb K3.out.lt)
  have T4 := Lib.hid (T3.out.on hb)
  clear hb
  have kb := K4.out
  have c0 := kb.e0
  have c1 := kb.e1
  have c2 := kb.e2
  have c3 := kb.e3
  have c4 := kb.e4
  have c5 := kb.e5
  have c6 := kb.e6
  have c7 := kb.e7
  have c8 := kb.e8
  have c9 := kb.e9
  have c10 := kb.e10
  have c11 := kb.e11
  clear kb
  go_wp2_with fail
  refine (HDEL.out _ B4.out.1).mono ?_
  rintro e w5 ⟨qD, rfl, ho, hb⟩
  obtain ⟨qaD, qcD, rfl⟩ := OwnS.empty ho
  clear ho
  have B5 : Hid (Below w.heap.size w w5 ∧ w.heap.size ≤ w5.heap.size) := ⟨below_next B4.out.1 hb, Nat.le_trans B4.out.2 hb.size⟩
  have K5 := Lib.hid (K4.out.on hb K4.out.lt)
  have T5 := Lib.hid (T4.out.on hb)
  have QI5 := Lib.hid (QI4.out.on hb)
  clear hb
  have kb := K5.out
  have c0 := kb.e0
  have c1 := kb.e1
  have c2 := kb.e2
  have c3 := kb.e3
  have c4 := kb.e4
  have c5 := kb.e5
  have c6 := kb.e6
  have c7 := kb.e7
  have c8 := kb.e8
  have c9 := kb.e9
  have c10 := kb.e10
  have c11 := kb.e11
  clear kb
  go_wp2_with fail
  refine (same_c _ _ l _ (by have := HA.out.2.2.2; omega) (HROW.out.on B5.out.1) T5.out).mono ?_
  rintro e w6 ⟨rfl, hb⟩
  have B6 : Hid (Below w.heap.size w w6 ∧ w.heap.size ≤ w6.heap.size) := ⟨below_next B5.out.1 hb, Nat.le_trans B5.out.2 hb.size⟩
  have K6 := Lib.hid (K5.out.on hb K5.out.lt)
  have T6 := Lib.hid (T5.out.on hb)
  have QI6 := Lib.hid (QI5.out.on hb)
  clear hb
  have kb := K6.out
  have c0 := kb.e0
  have c1 := kb.e1
  have c2 := kb.e2
  have c3 := kb.e3
  have c4 := kb.e4
  have c5 := kb.e5
  have c6 := kb.e6
  have c7 := kb.e7
  have c8 := kb.e8
  have c9 := kb.e9
  have c10 := kb.e10
  have c11 := kb.e11
  clear kb
  go_wp2_with fail
  refine wp_region_put2 (by kernel_rfl) (by kernel_rfl) (by kernel_rfl) (fun b' vs w' => (b' 0 = true → vs 0 = qI) ∧ (b' 1 = true → vs 1 = .int .i64 zI) ∧ (b' 2 = true → vs 2 = .slice ta n tc) ∧ (b' 3 = true → vs 3 = .pointer (some ⟨w.heap.size, 1, none⟩)) ∧ (b' 4 = true → vs 4 = .int .i64 (n : Int)) ∧ (b' 5 = true → vs 5 = .pointer (some ⟨w.heap.size, 3, none⟩)) ∧ (b' 6 = true → vs 6 = .agg (seven s.k s.p s.q s.r)) ∧ (b' 10 = true → vs 10 = .bool true) ∧ (b' 11 = true → vs 11 = .bool false) ∧ Hid (EdM w6 (insL l (n : Int) s) s b' vs w')) ?_ ?_ ?_
  · intro vs hvs
    exact ⟨fun h => Bool.noConfusion h, fun h => Bool.noConfusion h, fun h => Bool.noConfusion h, fun h => Bool.noConfusion h, fun h => Bool.noConfusion h, fun h => Bool.noConfusion h, fun h => Bool.noConfusion h, fun h => Bool.noConfusion h, fun h => Bool.noConfusion h, ⟨below_drewN (Below.refl _ _) 1, fun h => Bool.noConfusion h, fun h => Bool.noConfusion h, fun h => Bool.noConfusion h⟩⟩
  · rintro b' vs w' i op hi hun hall ⟨h0, h1, h2, h3, h4, h5, h6, h10, h11, hM⟩
    have hil : i < 12 := (List.getElem?_eq_some_iff.1 hi).1
    rcases i with _ | _ | _ | _ | _ | _ | _ | _ | _ | _ | _ | _ | i
    · obtain rfl := Option.some.inj hi
      refine wpOp_step rfl (fun K hK => ?_)
      have HKK := Lib.hid hK; clear hK
      simp only [putAll, Act.put, List.setIfInBounds_toArray, List.set_cons_zero, List.set_cons_succ]
      go_simp
      exact HKK.out _ _ ⟨_, by simp only [putAll, Act.put, List.setIfInBounds_toArray, List.set_cons_zero, List.set_cons_succ] <;> rfl, fun _ => rfl, h1, h2, h3, h4, h5, h6, h10, h11, EdM.mv hM.out 0 _ (Below.refl _ _) (fun e => absurd e (by decide)) (fun e => absurd e (by decide)) (fun e => absurd e (by decide))⟩
    · obtain rfl := Option.some.inj hi
      refine wpOp_step rfl (fun K hK => ?_)
      have HKK := Lib.hid hK; clear hK
      simp only [putAll, Act.put, List.setIfInBounds_toArray, List.set_cons_zero, List.set_cons_succ]
      go_simp
      exact HKK.out _ _ ⟨_, by simp only [putAll, Act.put, List.setIfInBounds_toArray, List.set_cons_zero, List.set_cons_succ] <;> rfl, h0, fun _ => rfl, h2, h3, h4, h5, h6, h10, h11, EdM.mv hM.out 1 _ (Below.refl _ _) (fun e => absurd e (by decide)) (fun e => absurd e (by decide)) (fun e => absurd e (by decide))⟩
    · obtain rfl := Option.some.inj hi
      refine wpOp_step rfl (fun K hK => ?_)
      have HKK := Lib.hid hK; clear hK
      simp only [putAll, Act.put, List.setIfInBounds_toArray, List.set_cons_zero, List.set_cons_succ]
      go_simp
      exact HKK.out _ _ ⟨_, by simp only [putAll, Act.put, List.setIfInBounds_toArray, List.set_cons_zero, List.set_cons_succ] <;> rfl, h0, h1, fun _ => rfl, h3, h4, h5, h6, h10, h11, EdM.mv hM.out 2 _ (Below.refl _ _) (fun e => absurd e (by decide)) (fun e => absurd e (by decide)) (fun e => absurd e (by decide))⟩
    · obtain rfl := Option.some.inj hi
      refine wpOp_step rfl (fun K hK => ?_)
      have HKK := Lib.hid hK; clear hK
      simp only [putAll, Act.put, List.setIfInBounds_toArray, List.set_cons_zero, List.set_cons_succ]
      go_simp
      exact HKK.out _ _ ⟨_, by simp only [putAll, Act.put, List.setIfInBounds_toArray, List.set_cons_zero, List.set_cons_succ] <;> rfl, h0, h1, h2, fun _ => rfl, h4, h5, h6, h10, h11, EdM.mv hM.out 3 _ (Below.refl _ _) (fun e => absurd e (by decide)) (fun e => absurd e (by decide)) (fun e => absurd e (by decide))⟩
    · obtain rfl := Option.some.inj hi
      have d3 := h3 (hall ⟨3, .data⟩ (by simp) rfl)
      have kb := K6.out.on hM.out.1 K6.out.lt
      have c1 := kb.e1
      clear kb
      refine wpOp_step rfl (fun K hK => ?_)
      have HKK := Lib.hid hK; clear hK
      simp only [putAll, Act.put, List.setIfInBounds_toArray, List.set_cons_zero, List.set_cons_succ, d3]
      go_simp
      exact HKK.out _ _ ⟨_, by simp only [putAll, Act.put, List.setIfInBounds_toArray, List.set_cons_zero, List.set_cons_succ, d3] <;> rfl, h0, h1, h2, h3, fun _ => rfl, h5, h6, h10, h11, EdM.mv hM.out 4 _ (Below.refl _ _) (fun e => absurd e (by decide)) (fun e => absurd e (by decide)) (fun e => absurd e (by decide))⟩
    · obtain rfl := Option.some.inj hi
      refine wpOp_step rfl (fun K hK => ?_)
      have HKK := Lib.hid hK; clear hK
      simp only [putAll, Act.put, List.setIfInBounds_toArray, List.set_cons_zero, List.set_cons_succ]
      go_simp
      exact HKK.out _ _ ⟨_, by simp only [putAll, Act.put, List.setIfInBounds_toArray, List.set_cons_zero, List.set_cons_succ] <;> rfl, h0, h1, h2, h3, h4, fun _ => rfl, h6, h10, h11, EdM.mv hM.out 5 _ (Below.refl _ _) (fun e => absurd e (by decide)) (fun e => absurd e (by decide)) (fun e => absurd e (by decide))⟩
    · obtain rfl := Option.some.inj hi
      have d5 := h5 (hall ⟨5, .data⟩ (by simp) rfl)
      have kb := K6.out.on hM.out.1 K6.out.lt
      have c3 := kb.e3
      have c4 := kb.e4
      have c5 := kb.e5
      have c6 := kb.e6
      have c7 := kb.e7
      have c8 := kb.e8
      have c9 := kb.e9
      clear kb
      refine wpOp_step rfl (fun K hK => ?_)
      have HKK := Lib.hid hK; clear hK
      simp only [putAll, Act.put, List.setIfInBounds_toArray, List.set_cons_zero, List.set_cons_succ, d5]
      go_simp
      exact HKK.out _ _ ⟨_, by simp only [putAll, Act.put, List.setIfInBounds_toArray, List.set_cons_zero, List.set_cons_succ, d5] <;> rfl, h0, h1, h2, h3, h4, h5, fun _ => rfl, h10, h11, EdM.mv hM.out 6 _ (Below.refl _ _) (fun e => absurd e (by decide)) (fun e => absurd e (by decide)) (fun e => absurd e (by decide))⟩
    · obtain rfl := Option.some.inj hi
      have d6 := h6 (hall ⟨6, .data⟩ (by simp) rfl)
      refine wpOp_step rfl (fun K hK => ?_)
      have HKK := Lib.hid hK; clear hK
      simp only [putAll, Act.put, List.setIfInBounds_toArray, List.set_cons_zero, List.set_cons_succ, d6]
      go_simp
      exact HKK.out _ _ ⟨_, by simp only [putAll, Act.put, List.setIfInBounds_toArray, List.set_cons_zero, List.set_cons_succ, d6] <;> rfl, h0, h1, h2, h3, h4, h5, h6, h10, h11, EdM.mv hM.out 7 _ ((Below.refl _ _).alloc (Nat.le_refl _) _) (fun _ => RowS.new w' [s] s.cells 1 rfl rfl) (fun e => absurd e (by decide)) (fun e => absurd e (by decide))⟩
    · obtain rfl := Option.some.inj hi
      have b7 := hall ⟨7, .data⟩ (by simp) rfl
      refine wpOp_step rfl (fun K hK => ?_)
      have HKK := Lib.hid hK; clear hK
      simp only [putAll, Act.put, List.setIfInBounds_toArray, List.set_cons_zero, List.set_cons_succ]
      go_simp
      refine (HREF.out _ _ [s] (by simp) (hM.out.2.1 b7)).mono ?_
      rintro e w3 ⟨u, rfl, ho, hb⟩
      exact HKK.out _ _ ⟨_, by simp only [putAll, Act.put, List.setIfInBounds_toArray, List.set_cons_zero, List.set_cons_succ] <;> rfl, h0, h1, h2, h3, h4, h5, h6, h10, h11, EdM.mv hM.out 8 _ hb (fun e => absurd e (by decide)) (fun _ => ho.row) (fun e => absurd e (by decide))⟩
    · obtain rfl := Option.some.inj hi
      have b8 := hall ⟨8, .data⟩ (by simp) rfl
      have d2 := h2 (hall ⟨2, .data⟩ (by simp) rfl)
      have d4 := h4 (hall ⟨4, .data⟩ (by simp) rfl)
      refine wpOp_step rfl (fun K hK => ?_)
      have HKK := Lib.hid hK; clear hK
      simp only [putAll, Act.put, List.setIfInBounds_toArray, List.set_cons_zero, List.set_cons_succ, d2, d4]
      go_simp
      refine (HW.out _ _ _ _ (T6.out.on hM.out.1) (hM.out.2.2.1 b8)).mono ?_
      rintro e w3 ⟨u, rfl, ho, hb⟩
      exact HKK.out _ _ ⟨_, by simp only [putAll, Act.put, List.setIfInBounds_toArray, List.set_cons_zero, List.set_cons_succ, d2, d4] <;> rfl, h0, h1, h2, h3, h4, h5, h6, h10, h11, EdM.mv hM.out 9 _ hb (fun e => absurd e (by decide)) (fun e => absurd e (by decide)) (fun _ => ho)⟩
    · obtain rfl := Option.some.inj hi
      have b9 := hall ⟨9, .data⟩ (by simp) rfl
      have d0 := h0 (hall ⟨0, .data⟩ (by simp) rfl)
      have d1 := h1 (hall ⟨1, .data⟩ (by simp) rfl)
      refine wpOp_step rfl (fun K hK => ?_)
      have HKK := Lib.hid hK; clear hK
      simp only [putAll, Act.put, List.setIfInBounds_toArray, List.set_cons_zero, List.set_cons_succ, d0, d1]
      go_simp
      refine (HISI.out _ _ _ (QI6.out.on hM.out.1) (hM.out.2.2.2 b9)).mono ?_
      rintro e w3 ⟨rfl, hb⟩
      exact HKK.out _ _ ⟨_, by simp only [putAll, Act.put, List.setIfInBounds_toArray, List.set_cons_zero, List.set_cons_succ, d0, d1] <;> rfl, h0, h1, h2, h3, h4, h5, h6, fun _ => rfl, h11, EdM.mv hM.out 10 _ hb (fun e => absurd e (by decide)) (fun e => absurd e (by decide)) (fun e => absurd e (by decide))⟩
    · obtain rfl := Option.some.inj hi
      have d10 := h10 (hall ⟨10, .data⟩ (by simp) rfl)
      refine wpOp_step rfl (fun K hK => ?_)
      have HKK := Lib.hid hK; clear hK
      simp only [putAll, Act.put, List.setIfInBounds_toArray, List.set_cons_zero, List.set_cons_succ, d10]
      go_simp
      exact HKK.out _ _ ⟨_, by simp only [putAll, Act.put, List.setIfInBounds_toArray, List.set_cons_zero, List.set_cons_succ, d10] <;> rfl, h0, h1, h2, h3, h4, h5, h6, h10, fun _ => rfl, EdM.mv hM.out 11 _ (Below.refl _ _) (fun e => absurd e (by decide)) (fun e => absurd e (by decide)) (fun e => absurd e (by decide))⟩
    · exact absurd hil (by omega)
  · rintro b' vs w' hb ⟨h0, h1, h2, h3, h4, h5, h6, h10, h11, hM⟩
    have e11 := h11 (hb 11 (by decide))
    simp only [putAll, Act.put, List.setIfInBounds_toArray, List.set_cons_zero, List.set_cons_succ, e11]
    have hM1 := hM.out.1
    obtain ⟨w7, rfl⟩ : ∃ x, x = w' := ⟨_, rfl⟩
    have B7 : Hid (Below w.heap.size w w7 ∧ w.heap.size ≤ w7.heap.size) := ⟨below_next B6.out.1 hM1, Nat.le_trans B6.out.2 hM1.size⟩
    have K7 := Lib.hid (K6.out.on hM1 K6.out.lt)
    have T7 := Lib.hid (T6.out.on hM1)
    have QI7 := Lib.hid (QI6.out.on hM1)
    clear h0 h1 h2 h3 h4 h5 h6 h10 h11 hM hb hM1 e11
    have kb := K7.out
    have c0 := kb.e0
    have c1 := kb.e1
    have c2 := kb.e2
    have c3 := kb.e3
    have c4 := kb.e4
    have c5 := kb.e5
    have c6 := kb.e6
    have c7 := kb.e7
    have c8 := kb.e8
    have c9 := kb.e9
    have c10 := kb.e10
    have c11 := kb.e11
    clear kb
    go_wp2_with fail
    refine (awake_c _ (HR.out.on B7.out.1)).mono ?_
    rintro e w' ⟨rfl, hb⟩
    have HBE := Lib.hid (below_next B7.out.1 hb); clear hb
    go_wp2_with fail
    go_ret
    exact ⟨rfl, HBE.out⟩
end Go.Proofs.YtffgpikhahpomaaDoor
