/- Layer 6: the law PathSplits: a curve, and its halves at one depth less. -/
import Derived.Test.YtffgpikhahpomaaDoorTk
import Derived.Deep.QuietTactic
namespace Go.Proofs.YtffgpikhahpomaaDoor
open Go.RowKit
set_option maxHeartbeats 4000000 in
set_option maxRecDepth 100000 in
theorem splits_E4 (ao : Option Addr) (n c : Nat) (l : List Sg) (I : Nat) (s A BB : Sg) (M : List Sg) (h1 : (s.k == 1) = false) (h5 : (s.k == 5) = false) (HI : Hid (I < n ∧ l[I]? = some s)) (HX : Hid (checkI l = 0 ∧ splitI l (I : Int) = (0, M)))
    (HPARTS : Hid (∀ W b o tc, SegsAt W b o l → b < W.heap.size → Calls Tryd.prog 25 #[.slice (some ⟨b, o, none⟩) n tc, .int .i64 (I : Int)] W fun e w' => e = .returned (.tuple #[.agg (seven A.k A.p A.q A.r), .agg (seven BB.k BB.p BB.q BB.r)]) ∧ Below W.heap.size W w'))
    (HWITH : Hid (∀ W ta tc u, RowS W (.slice ta n tc) l → RowS W u [A, BB] → Calls Tryd.prog 23 #[.slice ta n tc, .int .i64 (I : Int), .int .i64 1, u] W fun e w' => ∃ v, e = .returned v ∧ RowS w' v M ∧ Below W.heap.size W w'))
    (HIS : Hid (∀ W q v, RowS W q M → RowS W v M → Calls Tryd.prog 22 #[q, .int .i64 0, v] W fun e w' => e = .returned (.bool true) ∧ Below W.heap.size W w')) (f : Pt) (D E I2 m : Nat) (L : List Pt) (e2 : (s.k == 2) = false) (hI2 : I2 = I + 1) (hm : m = n + 1) (HED : Hid (E = D + 1 ∧ D ≤ 5)) (HLL : Hid (L.length ≤ 100000))
    (HMM : Hid (M.length = m ∧ M[I]? = some A ∧ M[I2]? = some BB))
    (HFROM : Hid (∀ W b o tc, SegsAt W b o l → b < W.heap.size → Calls Tryd.prog 26 #[.slice (some ⟨b, o, none⟩) n tc, .int .i64 (I : Int)] W fun e w' => e = .returned (.agg #[.int .i64 f.1, .int .i64 f.2]) ∧ Below W.heap.size W w'))
    (HFL1 : Hid (∀ W v, Rd W → RowS W v [⟨1, f, (0, 0), (0, 0)⟩, s] → Calls Tryd.prog 16 #[v, .int .i64 (E : Int)] W fun e w' => ∃ u, e = .returned (.tuple #[u, .int .i64 0]) ∧ OneSub L u w' ∧ Below W.heap.size W w'))
    (HFL2 : Hid (∀ W v, Rd W → RowS W v [⟨1, f, (0, 0), (0, 0)⟩, A, BB] → Calls Tryd.prog 16 #[v, .int .i64 (D : Int)] W fun e w' => ∃ u, e = .returned (.tuple #[u, .int .i64 0]) ∧ OneSub L u w' ∧ Below W.heap.size W w')) (w : World) (HA : Hid (Rd w ∧ RowS w (.slice ao n c) l ∧ n ≤ c ∧ l.length = n ∧ n ≤ 60)) : Calls Tryd.prog 6 #[.slice ao n c, .int .i64 (I : Int), .int .i64 (E : Int)] w fun e w' => e = .returned (.bool true) ∧ Below w.heap.size w w' := by
  have hI : I < n := HI.out.1
  have d1 : decide ((I : Int) < 0) = false := by simp
  have d2 : decide ((I : Int) ≥ (n : Int)) = false := decide_eq_false (by omega)
  have d3 : decide ((n : Int) ≤ (I : Int)) = false := d2
  have d4 : decide (n ≤ I) = false := decide_eq_false (by omega)
  have hIn : (I : Int) < (n : Int) := by omega
  have hn60 := HA.out.2.2.2.2
  have f1 : decide ((E : Int) < 1) = false := decide_eq_false (by have := HED.out; omega)
  have f2 : decide ((E : Int) > 6) = false := decide_eq_false (by have := HED.out; omega)
  have f3 : decide (6 < (E : Int)) = false := f2
  have f4 : decide (E < 1) = false := decide_eq_false (by have := HED.out; omega)
  have f5 : decide (6 < E) = false := decide_eq_false (by have := HED.out; omega)
  have f6 : decide (E = 0) = false := decide_eq_false (by have := HED.out; omega)
  have v1 : wrap64 ((E : Int) - 1) = (D : Int) := by have := HED.out; rw [wrapR _ (by omega) (by omega)]; omega
  have v2 : IntKind.i64.wrap ((E : Int) - 1) = (D : Int) := (wrap_is _).trans v1
  have v3 : wrap64 ((I : Int) + 1) = (I2 : Int) := by rw [wrapR _ (by omega) (by omega)]; omega
  have v4 : IntKind.i64.wrap ((I : Int) + 1) = (I2 : Int) := (wrap_is _).trans v3
  have hIm : (I : Int) < (m : Int) := by omega
  have hIm2 : (I2 : Int) < (m : Int) := by omega
  have hIm3 : I2 < m := by omega
  have hIm4 : I < m := by omega
  clear hI2 hm hn60
  have HR := Lib.hid HA.out.1
  have HROW := Lib.hid HA.out.2.1
  have HN := Lib.hid HA.out.2.2.2.1
  have hn1 := HA.out.2.2.2.2
  have hgt : decide ((n : Int) > 60) = false := decide_eq_false (by omega)
  clear hn1
  have HREF : Hid (∀ W v L, L.length ≤ 5000 → RowS W v L → Calls Tryd.prog 12 #[v] W fun e w' => ∃ u, e = .returned u ∧ OwnS w' W.heap.size 60 u L ∧ Below W.heap.size W w') := fun W v L h1 h2 => ref_c W v L h1 h2
  have HRC : Hid (∀ W v, RowS W v l → Calls Tryd.prog 11 #[v] W fun e w' => e = .returned (.int .i64 0) ∧ Below W.heap.size W w') := fun W v h => by have := rcheck_c v l W h; rw [HX.out.1] at this; exact this
  have HSPL : Hid (∀ W, Below w.heap.size w W → Calls Tryd.prog 24 #[.slice ao n c, .int .i64 (I : Int)] W (Edited W (0, M))) := fun W h => by have := split_c ao n c l (I : Int) W (HR.out.on h) (HROW.out.on h) HA.out.2.2.1 (by have := HA.out.2.2.2.2; omega); rw [HX.out.2] at this; exact this
  go_enter Tryd.func6, Tryd.ntmps6
  go_wp2_with fail
  refine (HREF.out _ _ l (by have := HA.out.2.2.2; omega) HROW.out).mono ?_
  rintro e w1 ⟨u, rfl, ho, hb⟩
  have B1 := Lib.hid hb
  have HT0 := Lib.hid ho
  obtain ⟨ta, tc, rfl, _⟩ := ho.cap
  rw [HN.out] at HT0
  have T1 := Lib.hid HT0.out.row
  clear HT0 ho hb
  simp only [HN.out]
  go_wp2_with fail
  refine (HSPL.out _ B1.out).mono ?_
  rintro e w2 ⟨q, rfl, ho, hb⟩
  have Q2 := Lib.hid ho.row
  clear ho
  have B2 := Lib.hid (below_next B1.out hb)
  have T2 := Lib.hid (T1.out.on hb)
  clear hb
  go_wp2_with fail
  refine (HRC.out _ _ T2.out).mono ?_
  rintro e w3 ⟨rfl, hb⟩
  have B3 := Lib.hid (below_next B2.out hb)
  have T3 := Lib.hid (T2.out.on hb)
  have Q3 := Lib.hid (Q2.out.on hb)
  clear hb
  obtain ⟨b, o, rfl, hbs, hpa⟩ := RowS.addr HROW.out (k := I) (by rw [HN.out]; exact hI)
  have HSG := Lib.hid (And.intro hpa hbs)
  obtain ⟨tb, tof, rfl, htb, hta⟩ := RowS.addr T3.out (k := I) (by rw [HN.out]; exact hI)
  have HSR := Lib.hid (And.intro hta htb)
  have c0 := (hpa.on B3.out hbs).c0 HI.out.2
  have hbs3 := Nat.lt_of_lt_of_le hbs B3.out.size
  clear hpa hbs hta htb
  go_wp2_with fail
  refine (HPARTS.out _ _ _ _ HSR.out.1 HSR.out.2).mono ?_
  rintro e w4 ⟨rfl, hb⟩
  have B4 := Lib.hid (below_next B3.out hb)
  have T4 := Lib.hid (T3.out.on hb)
  have Q4 := Lib.hid (Q3.out.on hb)
  clear hb c0
  go_wp2_with fail
  obtain ⟨w5, hw5⟩ : ∃ W, (w4.alloc (.cells (seven A.k A.p A.q A.r) 60)).alloc (.cells (seven BB.k BB.p BB.q BB.r) 60) = W := ⟨_, rfl⟩
  have N5 : Hid (Below w4.heap.size w4 w5 ∧ w5.heap.size = w4.heap.size + 1 + 1) := by
    rw [← hw5]
    exact ⟨((Below.refl _ _).alloc (Nat.le_refl _) _).alloc (by simp) _, by simp⟩
  rw [show (w4.alloc (.cells (seven A.k A.p A.q A.r) 60)).alloc (.cells (seven BB.k BB.p BB.q BB.r) 60) = w5 from hw5]
  have NR := Lib.hid (RowS.newT w5 60 [A, BB] (seven A.k A.p A.q A.r ++ seven BB.k BB.p BB.q BB.r) 2 rfl rfl)
  rw [N5.out.2] at NR
  have h6 := N5.out.1.alloc N5.out.1.size (.cells (seven A.k A.p A.q A.r ++ seven BB.k BB.p BB.q BB.r) 60)
  have B6 := Lib.hid (below_next B4.out h6)
  have T6 := Lib.hid (T4.out.on h6)
  have Q6 := Lib.hid (Q4.out.on h6)
  clear hw5 h6
  refine (HWITH.out _ _ _ _ T6.out NR.out).mono ?_
  rintro e w7 ⟨v7, rfl, hv, hb⟩
  have B7 := Lib.hid (below_next B6.out hb)
  have T7 := Lib.hid (T6.out.on hb)
  have Q7 := Lib.hid (Q6.out.on hb)
  have V7 := Lib.hid hv
  clear hb hv NR
  go_wp2_with fail
  refine (HIS.out _ _ _ Q7.out V7.out).mono ?_
  rintro e w8 ⟨rfl, hb⟩
  have B8 := Lib.hid (below_next B7.out hb)
  have T8 := Lib.hid (T7.out.on hb)
  have Q8 := Lib.hid (Q7.out.on hb)
  have c0 := (HSG.out.1.on B8.out HSG.out.2).c0 HI.out.2
  have hbs8 := Nat.lt_of_lt_of_le HSG.out.2 B8.out.size
  clear hb
  go_wp2_with fail
  clear c0
  have HSR8 : Hid (SegsAt w8 tb tof l ∧ tb < w8.heap.size) := by
    obtain ⟨_, _, heq, h1, h2⟩ := RowS.addr T8.out (k := I) (by rw [HN.out]; exact hI)
    cases heq
    exact ⟨h2, h1⟩
  refine wp_region_put2 (by kernel_rfl) (by kernel_rfl) (by kernel_rfl) (fun b' vs w' => (b' 0 = true → vs 0 = .slice (some ⟨tb, tof, none⟩) n tc) ∧ (b' 1 = true → vs 1 = .int .i64 (I : Int)) ∧ (b' 2 = true → vs 2 = .agg #[.int .i64 f.1, .int .i64 f.2]) ∧ (b' 3 = true → vs 3 = .int .i64 f.1) ∧ (b' 4 = true → vs 4 = .slice (some ⟨tb, tof, none⟩) n tc) ∧ (b' 5 = true → vs 5 = .int .i64 (I : Int)) ∧ (b' 6 = true → vs 6 = .agg #[.int .i64 f.1, .int .i64 f.2]) ∧ (b' 7 = true → vs 7 = .int .i64 f.2) ∧ (b' 8 = true → vs 8 = .agg #[.int .i64 f.1, .int .i64 f.2]) ∧ (b' 9 = true → vs 9 = .agg #[.int .i64 f.1, .int .i64 f.2, .int .i64 0, .int .i64 0, .int .i64 0, .int .i64 0]) ∧ (b' 10 = true → vs 10 = .agg (seven 1 f (0, 0) (0, 0))) ∧ (b' 11 = true → vs 11 = .slice (some ⟨b, o, none⟩) n c) ∧ (b' 12 = true → vs 12 = .int .i64 (I : Int)) ∧ (b' 13 = true → vs 13 = .pointer (some ⟨b, o + I * 7, none⟩)) ∧ (b' 14 = true → vs 14 = .agg (seven s.k s.p s.q s.r)) ∧ (b' 16 = true → vs 16 = .int .i64 (E : Int)) ∧ Hid (TupM w8 15 17 [⟨1, f, (0, 0), (0, 0)⟩, s] (OneSub L) b' vs w')) ?_ ?_ ?_
  · intro vs hvs
    exact ⟨fun h => Bool.noConfusion h, fun h => Bool.noConfusion h, fun h => Bool.noConfusion h, fun h => Bool.noConfusion h, fun h => Bool.noConfusion h, fun h => Bool.noConfusion h, fun h => Bool.noConfusion h, fun h => Bool.noConfusion h, fun h => Bool.noConfusion h, fun h => Bool.noConfusion h, fun h => Bool.noConfusion h, fun h => Bool.noConfusion h, fun h => Bool.noConfusion h, fun h => Bool.noConfusion h, fun h => Bool.noConfusion h, fun h => Bool.noConfusion h, TupM.start vs⟩
  · rintro b' vs w' i op hi hun hall ⟨h0, h1, h2, h3, h4, h5, h6, h7, h8, h9, h10, h11, h12, h13, h14, h16, hM⟩
    have hil : i < 23 := (List.getElem?_eq_some_iff.1 hi).1
    rcases i with _ | _ | _ | _ | _ | _ | _ | _ | _ | _ | _ | _ | _ | _ | _ | _ | _ | _ | _ | _ | _ | _ | _ | i
    · obtain rfl := Option.some.inj hi
      refine wpOp_step rfl (fun K hK => ?_)
      have HKK := Lib.hid hK; clear hK
      simp only [putAll, Act.put, List.setIfInBounds_toArray, List.set_cons_zero, List.set_cons_succ]
      go_simp
      exact HKK.out _ _ ⟨_, by simp only [putAll, Act.put, List.setIfInBounds_toArray, List.set_cons_zero, List.set_cons_succ] <;> rfl, fun _ => rfl, h1, h2, h3, h4, h5, h6, h7, h8, h9, h10, h11, h12, h13, h14, h16, TupM.pre hM.out (fun _ _ _ => OneSub.grow) 0 _ (by decide) (by decide) (Below.refl _ _)⟩
    · obtain rfl := Option.some.inj hi
      refine wpOp_step rfl (fun K hK => ?_)
      have HKK := Lib.hid hK; clear hK
      simp only [putAll, Act.put, List.setIfInBounds_toArray, List.set_cons_zero, List.set_cons_succ]
      go_simp
      exact HKK.out _ _ ⟨_, by simp only [putAll, Act.put, List.setIfInBounds_toArray, List.set_cons_zero, List.set_cons_succ] <;> rfl, h0, fun _ => rfl, h2, h3, h4, h5, h6, h7, h8, h9, h10, h11, h12, h13, h14, h16, TupM.pre hM.out (fun _ _ _ => OneSub.grow) 1 _ (by decide) (by decide) (Below.refl _ _)⟩
    · obtain rfl := Option.some.inj hi
      have d0 := h0 (hall ⟨0, .data⟩ (by simp) rfl)
      have d1 := h1 (hall ⟨1, .data⟩ (by simp) rfl)
      refine wpOp_step rfl (fun K hK => ?_)
      have HKK := Lib.hid hK; clear hK
      simp only [putAll, Act.put, List.setIfInBounds_toArray, List.set_cons_zero, List.set_cons_succ, d0, d1]
      go_simp
      refine (HFROM.out _ _ _ _ (HSR8.out.1.on hM.out.below HSR8.out.2) (Nat.lt_of_lt_of_le HSR8.out.2 hM.out.below.size)).mono ?_
      rintro e w9 ⟨rfl, hb9⟩
      exact HKK.out _ _ ⟨_, by simp only [putAll, Act.put, List.setIfInBounds_toArray, List.set_cons_zero, List.set_cons_succ, d0, d1] <;> rfl, h0, h1, fun _ => rfl, h3, h4, h5, h6, h7, h8, h9, h10, h11, h12, h13, h14, h16, TupM.pre hM.out (fun _ _ _ => OneSub.grow) 2 _ (by decide) (by decide) hb9⟩
    · obtain rfl := Option.some.inj hi
      have d2 := h2 (hall ⟨2, .data⟩ (by simp) rfl)
      refine wpOp_step rfl (fun K hK => ?_)
      have HKK := Lib.hid hK; clear hK
      simp only [putAll, Act.put, List.setIfInBounds_toArray, List.set_cons_zero, List.set_cons_succ, d2]
      go_simp
      exact HKK.out _ _ ⟨_, by simp only [putAll, Act.put, List.setIfInBounds_toArray, List.set_cons_zero, List.set_cons_succ, d2] <;> rfl, h0, h1, h2, fun _ => rfl, h4, h5, h6, h7, h8, h9, h10, h11, h12, h13, h14, h16, TupM.pre hM.out (fun _ _ _ => OneSub.grow) 3 _ (by decide) (by decide) (Below.refl _ _)⟩
    · obtain rfl := Option.some.inj hi
      refine wpOp_step rfl (fun K hK => ?_)
      have HKK := Lib.hid hK; clear hK
      simp only [putAll, Act.put, List.setIfInBounds_toArray, List.set_cons_zero, List.set_cons_succ]
      go_simp
      exact HKK.out _ _ ⟨_, by simp only [putAll, Act.put, List.setIfInBounds_toArray, List.set_cons_zero, List.set_cons_succ] <;> rfl, h0, h1, h2, h3, fun _ => rfl, h5, h6, h7, h8, h9, h10, h11, h12, h13, h14, h16, TupM.pre hM.out (fun _ _ _ => OneSub.grow) 4 _ (by decide) (by decide) (Below.refl _ _)⟩
    · obtain rfl := Option.some.inj hi
      refine wpOp_step rfl (fun K hK => ?_)
      have HKK := Lib.hid hK; clear hK
      simp only [putAll, Act.put, List.setIfInBounds_toArray, List.set_cons_zero, List.set_cons_succ]
      go_simp
      exact HKK.out _ _ ⟨_, by simp only [putAll, Act.put, List.setIfInBounds_toArray, List.set_cons_zero, List.set_cons_succ] <;> rfl, h0, h1, h2, h3, h4, fun _ => rfl, h6, h7, h8, h9, h10, h11, h12, h13, h14, h16, TupM.pre hM.out (fun _ _ _ => OneSub.grow) 5 _ (by decide) (by decide) (Below.refl _ _)⟩
    · obtain rfl := Option.some.inj hi
      have d4 := h4 (hall ⟨4, .data⟩ (by simp) rfl)
      have d5 := h5 (hall ⟨5, .data⟩ (by simp) rfl)
      refine wpOp_step rfl (fun K hK => ?_)
      have HKK := Lib.hid hK; clear hK
      simp only [putAll, Act.put, List.setIfInBounds_toArray, List.set_cons_zero, List.set_cons_succ, d4, d5]
      go_simp
      refine (HFROM.out _ _ _ _ (HSR8.out.1.on hM.out.below HSR8.out.2) (Nat.lt_of_lt_of_le HSR8.out.2 hM.out.below.size)).mono ?_
      rintro e w9 ⟨rfl, hb9⟩
      exact HKK.out _ _ ⟨_, by simp only [putAll, Act.put, List.setIfInBounds_toArray, List.set_cons_zero, List.set_cons_succ, d4, d5] <;> rfl, h0, h1, h2, h3, h4, h5, fun _ => rfl, h7, h8, h9, h10, h11, h12, h13, h14, h16, TupM.pre hM.out (fun _ _ _ => OneSub.grow) 6 _ (by decide) (by decide) hb9⟩
    · obtain rfl := Option.some.inj hi
      have d6 := h6 (hall ⟨6, .data⟩ (by simp) rfl)
      refine wpOp_step rfl (fun K hK => ?_)
      have HKK := Lib.hid hK; clear hK
      simp only [putAll, Act.put, List.setIfInBounds_toArray, List.set_cons_zero, List.set_cons_succ, d6]
      go_simp
      exact HKK.out _ _ ⟨_, by simp only [putAll, Act.put, List.setIfInBounds_toArray, List.set_cons_zero, List.set_cons_succ, d6] <;> rfl, h0, h1, h2, h3, h4, h5, h6, fun _ => rfl, h8, h9, h10, h11, h12, h13, h14, h16, TupM.pre hM.out (fun _ _ _ => OneSub.grow) 7 _ (by decide) (by decide) (Below.refl _ _)⟩
    · obtain rfl := Option.some.inj hi
      have d3 := h3 (hall ⟨3, .data⟩ (by simp) rfl)
      have d7 := h7 (hall ⟨7, .data⟩ (by simp) rfl)
      refine wpOp_step rfl (fun K hK => ?_)
      have HKK := Lib.hid hK; clear hK
      simp only [putAll, Act.put, List.setIfInBounds_toArray, List.set_cons_zero, List.set_cons_succ, d3, d7]
      go_simp
      exact HKK.out _ _ ⟨_, by simp only [putAll, Act.put, List.setIfInBounds_toArray, List.set_cons_zero, List.set_cons_succ, d3, d7] <;> rfl, h0, h1, h2, h3, h4, h5, h6, h7, fun _ => rfl, h9, h10, h11, h12, h13, h14, h16, TupM.pre hM.out (fun _ _ _ => OneSub.grow) 8 _ (by decide) (by decide) (Below.refl _ _)⟩
    · obtain rfl := Option.some.inj hi
      have d8 := h8 (hall ⟨8, .data⟩ (by simp) rfl)
      refine wpOp_step rfl (fun K hK => ?_)
      have HKK := Lib.hid hK; clear hK
      simp only [putAll, Act.put, List.setIfInBounds_toArray, List.set_cons_zero, List.set_cons_succ, d8]
      go_simp
      exact HKK.out _ _ ⟨_, by simp only [putAll, Act.put, List.setIfInBounds_toArray, List.set_cons_zero, List.set_cons_succ, d8] <;> rfl, h0, h1, h2, h3, h4, h5, h6, h7, h8, fun _ => rfl, h10, h11, h12, h13, h14, h16, TupM.pre hM.out (fun _ _ _ => OneSub.grow) 9 _ (by decide) (by decide) (Below.refl _ _)⟩
    · obtain rfl := Option.some.inj hi
      have d9 := h9 (hall ⟨9, .data⟩ (by simp) rfl)
      refine wpOp_step rfl (fun K hK => ?_)
      have HKK := Lib.hid hK; clear hK
      simp only [putAll, Act.put, List.setIfInBounds_toArray, List.set_cons_zero, List.set_cons_succ, d9]
      go_simp
      exact HKK.out _ _ ⟨_, by simp only [putAll, Act.put, List.setIfInBounds_toArray, List.set_cons_zero, List.set_cons_succ, d9] <;> rfl, h0, h1, h2, h3, h4, h5, h6, h7, h8, h9, fun _ => rfl, h11, h12, h13, h14, h16, TupM.pre hM.out (fun _ _ _ => OneSub.grow) 10 _ (by decide) (by decide) (Below.refl _ _)⟩
    · obtain rfl := Option.some.inj hi
      refine wpOp_step rfl (fun K hK => ?_)
      have HKK := Lib.hid hK; clear hK
      simp only [putAll, Act.put, List.setIfInBounds_toArray, List.set_cons_zero, List.set_cons_succ]
      go_simp
      exact HKK.out _ _ ⟨_, by simp only [putAll, Act.put, List.setIfInBounds_toArray, List.set_cons_zero, List.set_cons_succ] <;> rfl, h0, h1, h2, h3, h4, h5, h6, h7, h8, h9, h10, fun _ => rfl, h12, h13, h14, h16, TupM.pre hM.out (fun _ _ _ => OneSub.grow) 11 _ (by decide) (by decide) (Below.refl _ _)⟩
    · obtain rfl := Option.some.inj hi
      refine wpOp_step rfl (fun K hK => ?_)
      have HKK := Lib.hid hK; clear hK
      simp only [putAll, Act.put, List.setIfInBounds_toArray, List.set_cons_zero, List.set_cons_succ]
      go_simp
      exact HKK.out _ _ ⟨_, by simp only [putAll, Act.put, List.setIfInBounds_toArray, List.set_cons_zero, List.set_cons_succ] <;> rfl, h0, h1, h2, h3, h4, h5, h6, h7, h8, h9, h10, h11, fun _ => rfl, h13, h14, h16, TupM.pre hM.out (fun _ _ _ => OneSub.grow) 12 _ (by decide) (by decide) (Below.refl _ _)⟩
    · obtain rfl := Option.some.inj hi
      have d11 := h11 (hall ⟨11, .data⟩ (by simp) rfl)
      have d12 := h12 (hall ⟨12, .data⟩ (by simp) rfl)
      refine wpOp_step rfl (fun K hK => ?_)
      have HKK := Lib.hid hK; clear hK
      simp only [putAll, Act.put, List.setIfInBounds_toArray, List.set_cons_zero, List.set_cons_succ, d11, d12]
      go_simp
      exact HKK.out _ _ ⟨_, by simp only [putAll, Act.put, List.setIfInBounds_toArray, List.set_cons_zero, List.set_cons_succ, d11, d12] <;> rfl, h0, h1, h2, h3, h4, h5, h6, h7, h8, h9, h10, h11, h12, fun _ => rfl, h14, h16, TupM.pre hM.out (fun _ _ _ => OneSub.grow) 13 _ (by decide) (by decide) (Below.refl _ _)⟩
    · obtain rfl := Option.some.inj hi
      have d13 := h13 (hall ⟨13, .data⟩ (by simp) rfl)
      have hs := HSG.out.1.on (below_next B8.out hM.out.below) HSG.out.2
      have c0 := hs.c0 HI.out.2
      have c1 := hs.c1 HI.out.2
      have c2 := hs.c2 HI.out.2
      have c3 := hs.c3 HI.out.2
      have c4 := hs.c4 HI.out.2
      have c5 := hs.c5 HI.out.2
      have c6 := hs.c6 HI.out.2
      clear hs
      refine wpOp_step rfl (fun K hK => ?_)
      have HKK := Lib.hid hK; clear hK
      simp only [putAll, Act.put, List.setIfInBounds_toArray, List.set_cons_zero, List.set_cons_succ, d13]
      go_simp
      exact HKK.out _ _ ⟨_, by simp only [putAll, Act.put, List.setIfInBounds_toArray, List.set_cons_zero, List.set_cons_succ, d13] <;> rfl, h0, h1, h2, h3, h4, h5, h6, h7, h8, h9, h10, h11, h12, h13, fun _ => rfl, h16, TupM.pre hM.out (fun _ _ _ => OneSub.grow) 14 _ (by decide) (by decide) (Below.refl _ _)⟩
    · obtain rfl := Option.some.inj hi
      have d10 := h10 (hall ⟨10, .data⟩ (by simp) rfl)
      have d14 := h14 (hall ⟨14, .data⟩ (by simp) rfl)
      refine wpOp_step rfl (fun K hK => ?_)
      have HKK := Lib.hid hK; clear hK
      simp only [putAll, Act.put, List.setIfInBounds_toArray, List.set_cons_zero, List.set_cons_succ, d10, d14]
      go_simp
      exact HKK.out _ _ ⟨_, by simp only [putAll, Act.put, List.setIfInBounds_toArray, List.set_cons_zero, List.set_cons_succ, d10, d14] <;> rfl, h0, h1, h2, h3, h4, h5, h6, h7, h8, h9, h10, h11, h12, h13, h14, h16, TupM.built hM.out (fun _ _ _ => OneSub.grow) _ (by decide) ((Below.refl _ _).alloc (Nat.le_refl _) _) (RowS.new _ [⟨1, f, (0, 0), (0, 0)⟩, s] (seven 1 f (0, 0) (0, 0) ++ seven s.k s.p s.q s.r) 2 rfl rfl)⟩
    · obtain rfl := Option.some.inj hi
      refine wpOp_step rfl (fun K hK => ?_)
      have HKK := Lib.hid hK; clear hK
      simp only [putAll, Act.put, List.setIfInBounds_toArray, List.set_cons_zero, List.set_cons_succ]
      go_simp
      exact HKK.out _ _ ⟨_, by simp only [putAll, Act.put, List.setIfInBounds_toArray, List.set_cons_zero, List.set_cons_succ] <;> rfl, h0, h1, h2, h3, h4, h5, h6, h7, h8, h9, h10, h11, h12, h13, h14, fun _ => rfl, TupM.pre hM.out (fun _ _ _ => OneSub.grow) 16 _ (by decide) (by decide) (Below.refl _ _)⟩
    · obtain rfl := Option.some.inj hi
      have hrw := hM.out.row (hall ⟨15, .data⟩ (by simp) rfl)
      have d16 := h16 (hall ⟨16, .data⟩ (by simp) rfl)
      refine wpOp_step rfl (fun K hK => ?_)
      have HKK := Lib.hid hK; clear hK
      have HRW := Lib.hid hrw; clear hrw
      simp only [putAll, Act.put, List.setIfInBounds_toArray, List.set_cons_zero, List.set_cons_succ, d16]
      go_simp
      refine (HFL1.out _ _ (HR.out.on (below_next B8.out hM.out.below)) HRW.out).mono ?_
      rintro e w9 ⟨u, rfl, hg9, hb9⟩
      exact HKK.out _ _ ⟨_, by simp only [putAll, Act.put, List.setIfInBounds_toArray, List.set_cons_zero, List.set_cons_succ, d16] <;> rfl, h0, h1, h2, h3, h4, h5, h6, h7, h8, h9, h10, h11, h12, h13, h14, h16, TupM.call hM.out (by decide) hun u hg9 hb9⟩
    · obtain rfl := Option.some.inj hi
      have hbd := hall ⟨17, .data⟩ (by simp) rfl
      have hc := hbd
      obtain ⟨u, _, e0, e1, e2, e3, e4, e5⟩ := hM.out.got hc
      have E0 := Lib.hid e0
      clear e1 e2 e3 e4 e5
      refine wpOp_step rfl (fun K hK => ?_)
      have HKK := Lib.hid hK; clear hK
      simp only [putAll, Act.put, List.setIfInBounds_toArray, List.set_cons_zero, List.set_cons_succ, e0]
      go_simp
      exact HKK.out _ _ ⟨_, by simp only [putAll, Act.put, List.setIfInBounds_toArray, List.set_cons_zero, List.set_cons_succ, e0] <;> rfl, h0, h1, h2, h3, h4, h5, h6, h7, h8, h9, h10, h11, h12, h13, h14, h16, TupM.post hM.out 18 (by decide) _ (by decide) hc (fun r2 h2r => ⟨fun _ => by rw [tup_inj (E0.out.symm.trans h2r)], fun e => absurd e (by decide), fun e => absurd e (by decide), fun e => absurd e (by decide), fun e => absurd e (by decide)⟩)⟩
    · obtain rfl := Option.some.inj hi
      have hbd := hall ⟨18, .data⟩ (by simp) rfl
      have hc := hM.out.at (i := 18) (by decide) hbd
      obtain ⟨u, _, e0, e1, e2, e3, e4, e5⟩ := hM.out.got hc
      have d1 := e1 hbd
      have E0 := Lib.hid e0
      clear e0 e1 e2 e3 e4 e5
      refine wpOp_step rfl (fun K hK => ?_)
      have HKK := Lib.hid hK; clear hK
      simp only [putAll, Act.put, List.setIfInBounds_toArray, List.set_cons_zero, List.set_cons_succ, d1]
      go_simp
      exact HKK.out _ _ ⟨_, by simp only [putAll, Act.put, List.setIfInBounds_toArray, List.set_cons_zero, List.set_cons_succ, d1] <;> rfl, h0, h1, h2, h3, h4, h5, h6, h7, h8, h9, h10, h11, h12, h13, h14, h16, TupM.post hM.out 19 (by decide) _ (by decide) hc (fun r2 h2r => ⟨fun e => absurd e (by decide), fun _ => tup_inj (E0.out.symm.trans h2r), fun e => absurd e (by decide), fun e => absurd e (by decide), fun e => absurd e (by decide)⟩)⟩
    · obtain rfl := Option.some.inj hi
      have hbd := hall ⟨18, .data⟩ (by simp) rfl
      have hc := hM.out.at (i := 18) (by decide) hbd
      obtain ⟨u, _, e0, e1, e2, e3, e4, e5⟩ := hM.out.got hc
      have d1 := e1 hbd
      have E0 := Lib.hid e0
      clear e0 e1 e2 e3 e4 e5
      refine wpOp_step rfl (fun K hK => ?_)
      have HKK := Lib.hid hK; clear hK
      simp only [putAll, Act.put, List.setIfInBounds_toArray, List.set_cons_zero, List.set_cons_succ, d1]
      go_simp
      exact HKK.out _ _ ⟨_, by simp only [putAll, Act.put, List.setIfInBounds_toArray, List.set_cons_zero, List.set_cons_succ, d1] <;> rfl, h0, h1, h2, h3, h4, h5, h6, h7, h8, h9, h10, h11, h12, h13, h14, h16, TupM.post hM.out 20 (by decide) _ (by decide) hc (fun r2 h2r => ⟨fun e => absurd e (by decide), fun e => absurd e (by decide), fun _ => rfl, fun e => absurd e (by decide), fun e => absurd e (by decide)⟩)⟩
    · obtain rfl := Option.some.inj hi
      have hbd := hall ⟨19, .data⟩ (by simp) rfl
      have hc := hM.out.at (i := 19) (by decide) hbd
      obtain ⟨u, _, e0, e1, e2, e3, e4, e5⟩ := hM.out.got hc
      have d2 := e2 hbd
      have E0 := Lib.hid e0
      clear e0 e1 e2 e3 e4 e5
      refine wpOp_step rfl (fun K hK => ?_)
      have HKK := Lib.hid hK; clear hK
      simp only [putAll, Act.put, List.setIfInBounds_toArray, List.set_cons_zero, List.set_cons_succ, d2]
      go_simp
      exact HKK.out _ _ ⟨_, by simp only [putAll, Act.put, List.setIfInBounds_toArray, List.set_cons_zero, List.set_cons_succ, d2] <;> rfl, h0, h1, h2, h3, h4, h5, h6, h7, h8, h9, h10, h11, h12, h13, h14, h16, TupM.post hM.out 21 (by decide) _ (by decide) hc (fun r2 h2r => ⟨fun e => absurd e (by decide), fun e => absurd e (by decide), fun e => absurd e (by decide), fun _ => tup_inj (E0.out.symm.trans h2r), fun e => absurd e (by decide)⟩)⟩
    · obtain rfl := Option.some.inj hi
      have hbd := hall ⟨20, .data⟩ (by simp) rfl
      have hc := hM.out.at (i := 20) (by decide) hbd
      obtain ⟨u, _, e0, e1, e2, e3, e4, e5⟩ := hM.out.got hc
      have d3 := e3 hbd
      have E0 := Lib.hid e0
      clear e0 e1 e2 e3 e4 e5
      refine wpOp_step rfl (fun K hK => ?_)
      have HKK := Lib.hid hK; clear hK
      simp only [putAll, Act.put, List.setIfInBounds_toArray, List.set_cons_zero, List.set_cons_succ, d3]
      go_simp
      exact HKK.out _ _ ⟨_, by simp only [putAll, Act.put, List.setIfInBounds_toArray, List.set_cons_zero, List.set_cons_succ, d3] <;> rfl, h0, h1, h2, h3, h4, h5, h6, h7, h8, h9, h10, h11, h12, h13, h14, h16, TupM.post hM.out 22 (by decide) _ (by decide) hc (fun r2 h2r => ⟨fun e => absurd e (by decide), fun e => absurd e (by decide), fun e => absurd e (by decide), fun e => absurd e (by decide), fun _ => rfl⟩)⟩
    · exact absurd hil (by omega)
  · rintro b' vs w' hb ⟨h0, h1, h2, h3, h4, h5, h6, h7, h8, h9, h10, h11, h12, h13, h14, h16, hM⟩
    obtain ⟨u, hg, e0, e1, e2, e3, e4, e5⟩ := hM.out.got (hb 17 (by decide))
    have f4 := e4 (hb 21 (by decide))
    have f5 := e5 (hb 22 (by decide))
    have hbw := hM.out.below
    simp only [putAll, Act.put, List.setIfInBounds_toArray, List.set_cons_zero, List.set_cons_succ, f4, f5]
    clear h0 h1 h2 h3 h4 h5 h6 h7 h8 h9 h10 h11 h12 h13 h14 h16 hM hb e0 e1 e2 e3 e4 e5 f4 f5
    generalize vs 0 = r170
    generalize vs 1 = r171
    generalize vs 2 = r172
    generalize vs 3 = r173
    generalize vs 4 = r174
    generalize vs 5 = r175
    generalize vs 6 = r176
    generalize vs 7 = r177
    generalize vs 8 = r178
    generalize vs 9 = r179
    generalize vs 10 = r1710
    generalize vs 11 = r1711
    generalize vs 12 = r1712
    generalize vs 13 = r1713
    generalize vs 14 = r1714
    generalize vs 15 = r1715
    generalize vs 16 = r1716
    generalize vs 17 = r1717
    generalize vs 18 = r1718
    generalize vs 19 = r1719
    generalize vs 20 = r1720
    have B9 := Lib.hid (below_next B8.out hbw)
    have O9 := Lib.hid hg
    have Q9 := Lib.hid (Q8.out.on hbw)
    have HSR9 : Hid (SegsAt w' tb tof l ∧ tb < w'.heap.size) := ⟨HSR8.out.1.on hbw HSR8.out.2, Nat.lt_of_lt_of_le HSR8.out.2 hbw.size⟩
    clear hg hbw
    obtain ⟨w9, hw9⟩ : ∃ W, w' = W := ⟨_, rfl⟩
    rw [hw9] at B9 O9 Q9 HSR9 ⊢
    clear hw9
    obtain ⟨qa, qc, hqv⟩ := Q9.out.shape
    rw [HMM.out.1] at hqv
    subst hqv
    obtain ⟨qb, qo, rfl, hqb, hqp⟩ := RowS.addr Q9.out (k := I) (by rw [HMM.out.1]; omega)
    have HQS := Lib.hid (And.intro hqp hqb)
    clear hqb hqp
    go_wp2_with fail
    refine wp_region_put2 (by kernel_rfl) (by kernel_rfl) (by kernel_rfl) (fun b' vs w' => (b' 0 = true → vs 0 = .slice (some ⟨tb, tof, none⟩) n tc) ∧ (b' 1 = true → vs 1 = .int .i64 (I : Int)) ∧ (b' 2 = true → vs 2 = .agg #[.int .i64 f.1, .int .i64 f.2]) ∧ (b' 3 = true → vs 3 = .int .i64 f.1) ∧ (b' 4 = true → vs 4 = .slice (some ⟨tb, tof, none⟩) n tc) ∧ (b' 5 = true → vs 5 = .int .i64 (I : Int)) ∧ (b' 6 = true → vs 6 = .agg #[.int .i64 f.1, .int .i64 f.2]) ∧ (b' 7 = true → vs 7 = .int .i64 f.2) ∧ (b' 8 = true → vs 8 = .agg #[.int .i64 f.1, .int .i64 f.2]) ∧ (b' 9 = true → vs 9 = .agg #[.int .i64 f.1, .int .i64 f.2, .int .i64 0, .int .i64 0, .int .i64 0, .int .i64 0]) ∧ (b' 10 = true → vs 10 = .agg (seven 1 f (0, 0) (0, 0))) ∧ (b' 11 = true → vs 11 = .slice (some ⟨qb, qo, none⟩) m qc) ∧ (b' 12 = true → vs 12 = .int .i64 (I : Int)) ∧ (b' 13 = true → vs 13 = .pointer (some ⟨qb, qo + I * 7, none⟩)) ∧ (b' 14 = true → vs 14 = .agg (seven A.k A.p A.q A.r)) ∧ (b' 15 = true → vs 15 = .slice (some ⟨qb, qo, none⟩) m qc) ∧ (b' 16 = true → vs 16 = .int .i64 (I : Int)) ∧ (b' 17 = true → vs 17 = .int .i64 (I2 : Int)) ∧ (b' 18 = true → vs 18 = .pointer (some ⟨qb, qo + I2 * 7, none⟩)) ∧ (b' 19 = true → vs 19 = .agg (seven BB.k BB.p BB.q BB.r)) ∧ (b' 21 = true → vs 21 = .int .i64 (E : Int)) ∧ (b' 22 = true → vs 22 = .int .i64 (D : Int)) ∧ Hid (TupM w9 20 23 [⟨1, f, (0, 0), (0, 0)⟩, A, BB] (OneSub L) b' vs w')) ?_ ?_ ?_
    · intro vs hvs
      exact ⟨fun h => Bool.noConfusion h, fun h => Bool.noConfusion h, fun h => Bool.noConfusion h, fun h => Bool.noConfusion h, fun h => Bool.noConfusion h, fun h => Bool.noConfusion h, fun h => Bool.noConfusion h, fun h => Bool.noConfusion h, fun h => Bool.noConfusion h, fun h => Bool.noConfusion h, fun h => Bool.noConfusion h, fun h => Bool.noConfusion h, fun h => Bool.noConfusion h, fun h => Bool.noConfusion h, fun h => Bool.noConfusion h, fun h => Bool.noConfusion h, fun h => Bool.noConfusion h, fun h => Bool.noConfusion h, fun h => Bool.noConfusion h, fun h => Bool.noConfusion h, fun h => Bool.noConfusion h, fun h => Bool.noConfusion h, TupM.start vs⟩
    · rintro b' vs w' i op hi hun hall ⟨h0, h1, h2, h3, h4, h5, h6, h7, h8, h9, h10, h11, h12, h13, h14, h15, h16, h17, h18, h19, h21, h22, hM⟩
      have hil : i < 29 := (List.getElem?_eq_some_iff.1 hi).1
      rcases i with _ | _ | _ | _ | _ | _ | _ | _ | _ | _ | _ | _ | _ | _ | _ | _ | _ | _ | _ | _ | _ | _ | _ | _ | _ | _ | _ | _ | _ | i
      · obtain rfl := Option.some.inj hi
        refine wpOp_step rfl (fun K hK => ?_)
        have HKK := Lib.hid hK; clear hK
        simp only [putAll, Act.put, List.setIfInBounds_toArray, List.set_cons_zero, List.set_cons_succ]
        go_simp
        exact HKK.out _ _ ⟨_, by simp only [putAll, Act.put, List.setIfInBounds_toArray, List.set_cons_zero, List.set_cons_succ] <;> rfl, fun _ => rfl, h1, h2, h3, h4, h5, h6, h7, h8, h9, h10, h11, h12, h13, h14, h15, h16, h17, h18, h19, h21, h22, TupM.pre hM.out (fun _ _ _ => OneSub.grow) 0 _ (by decide) (by decide) (Below.refl _ _)⟩
      · obtain rfl := Option.some.inj hi
        refine wpOp_step rfl (fun K hK => ?_)
        have HKK := Lib.hid hK; clear hK
        simp only [putAll, Act.put, List.setIfInBounds_toArray, List.set_cons_zero, List.set_cons_succ]
        go_simp
        exact HKK.out _ _ ⟨_, by simp only [putAll, Act.put, List.setIfInBounds_toArray, List.set_cons_zero, List.set_cons_succ] <;> rfl, h0, fun _ => rfl, h2, h3, h4, h5, h6, h7, h8, h9, h10, h11, h12, h13, h14, h15, h16, h17, h18, h19, h21, h22, TupM.pre hM.out (fun _ _ _ => OneSub.grow) 1 _ (by decide) (by decide) (Below.refl _ _)⟩
      · obtain rfl := Option.some.inj hi
        have d0 := h0 (hall ⟨0, .data⟩ (by simp) rfl)
        have d1 := h1 (hall ⟨1, .data⟩ (by simp) rfl)
        refine wpOp_step rfl (fun K hK => ?_)
        have HKK := Lib.hid hK; clear hK
        simp only [putAll, Act.put, List.setIfInBounds_toArray, List.set_cons_zero, List.set_cons_succ, d0, d1]
        go_simp
        refine (HFROM.out _ _ _ _ (HSR9.out.1.on hM.out.below HSR9.out.2) (Nat.lt_of_lt_of_le HSR9.out.2 hM.out.below.size)).mono ?_
        rintro e w9 ⟨rfl, hb9⟩
        exact HKK.out _ _ ⟨_, by simp only [putAll, Act.put, List.setIfInBounds_toArray, List.set_cons_zero, List.set_cons_succ, d0, d1] <;> rfl, h0, h1, fun _ => rfl, h3, h4, h5, h6, h7, h8, h9, h10, h11, h12, h13, h14, h15, h16, h17, h18, h19, h21, h22, TupM.pre hM.out (fun _ _ _ => OneSub.grow) 2 _ (by decide) (by decide) hb9⟩
      · obtain rfl := Option.some.inj hi
        have d2 := h2 (hall ⟨2, .data⟩ (by simp) rfl)
        refine wpOp_step rfl (fun K hK => ?_)
        have HKK := Lib.hid hK; clear hK
        simp only [putAll, Act.put, List.setIfInBounds_toArray, List.set_cons_zero, List.set_cons_succ, d2]
        go_simp
        exact HKK.out _ _ ⟨_, by simp only [putAll, Act.put, List.setIfInBounds_toArray, List.set_cons_zero, List.set_cons_succ, d2] <;> rfl, h0, h1, h2, fun _ => rfl, h4, h5, h6, h7, h8, h9, h10, h11, h12, h13, h14, h15, h16, h17, h18, h19, h21, h22, TupM.pre hM.out (fun _ _ _ => OneSub.grow) 3 _ (by decide) (by decide) (Below.refl _ _)⟩
      · obtain rfl := Option.some.inj hi
        refine wpOp_step rfl (fun K hK => ?_)
        have HKK := Lib.hid hK; clear hK
        simp only [putAll, Act.put, List.setIfInBounds_toArray, List.set_cons_zero, List.set_cons_succ]
        go_simp
        exact HKK.out _ _ ⟨_, by simp only [putAll, Act.put, List.setIfInBounds_toArray, List.set_cons_zero, List.set_cons_succ] <;> rfl, h0, h1, h2, h3, fun _ => rfl, h5, h6, h7, h8, h9, h10, h11, h12, h13, h14, h15, h16, h17, h18, h19, h21, h22, TupM.pre hM.out (fun _ _ _ => OneSub.grow) 4 _ (by decide) (by decide) (Below.refl _ _)⟩
      · obtain rfl := Option.some.inj hi
        refine wpOp_step rfl (fun K hK => ?_)
        have HKK := Lib.hid hK; clear hK
        simp only [putAll, Act.put, List.setIfInBounds_toArray, List.set_cons_zero, List.set_cons_succ]
        go_simp
        exact HKK.out _ _ ⟨_, by simp only [putAll, Act.put, List.setIfInBounds_toArray, List.set_cons_zero, List.set_cons_succ] <;> rfl, h0, h1, h2, h3, h4, fun _ => rfl, h6, h7, h8, h9, h10, h11, h12, h13, h14, h15, h16, h17, h18, h19, h21, h22, TupM.pre hM.out (fun _ _ _ => OneSub.grow) 5 _ (by decide) (by decide) (Below.refl _ _)⟩
      · obtain rfl := Option.some.inj hi
        have d4 := h4 (hall ⟨4, .data⟩ (by simp) rfl)
        have d5 := h5 (hall ⟨5, .data⟩ (by simp) rfl)
        refine wpOp_step rfl (fun K hK => ?_)
        have HKK := Lib.hid hK; clear hK
        simp only [putAll, Act.put, List.setIfInBounds_toArray, List.set_cons_zero, List.set_cons_succ, d4, d5]
        go_simp
        refine (HFROM.out _ _ _ _ (HSR9.out.1.on hM.out.below HSR9.out.2) (Nat.lt_of_lt_of_le HSR9.out.2 hM.out.below.size)).mono ?_
        rintro e w9 ⟨rfl, hb9⟩
        exact HKK.out _ _ ⟨_, by simp only [putAll, Act.put, List.setIfInBounds_toArray, List.set_cons_zero, List.set_cons_succ, d4, d5] <;> rfl, h0, h1, h2, h3, h4, h5, fun _ => rfl, h7, h8, h9, h10, h11, h12, h13, h14, h15, h16, h17, h18, h19, h21, h22, TupM.pre hM.out (fun _ _ _ => OneSub.grow) 6 _ (by decide) (by decide) hb9⟩
      · obtain rfl := Option.some.inj hi
        have d6 := h6 (hall ⟨6, .data⟩ (by simp) rfl)
        refine wpOp_step rfl (fun K hK => ?_)
        have HKK := Lib.hid hK; clear hK
        simp only [putAll, Act.put, List.setIfInBounds_toArray, List.set_cons_zero, List.set_cons_succ, d6]
        go_simp
        exact HKK.out _ _ ⟨_, by simp only [putAll, Act.put, List.setIfInBounds_toArray, List.set_cons_zero, List.set_cons_succ, d6] <;> rfl, h0, h1, h2, h3, h4, h5, h6, fun _ => rfl, h8, h9, h10, h11, h12, h13, h14, h15, h16, h17, h18, h19, h21, h22, TupM.pre hM.out (fun _ _ _ => OneSub.grow) 7 _ (by decide) (by decide) (Below.refl _ _)⟩
      · obtain rfl := Option.some.inj hi
        have d3 := h3 (hall ⟨3, .data⟩ (by simp) rfl)
        have d7 := h7 (hall ⟨7, .data⟩ (by simp) rfl)
        refine wpOp_step rfl (fun K hK => ?_)
        have HKK := Lib.hid hK; clear hK
        simp only [putAll, Act.put, List.setIfInBounds_toArray, List.set_cons_zero, List.set_cons_succ, d3, d7]
        go_simp
        exact HKK.out _ _ ⟨_, by simp only [putAll, Act.put, List.setIfInBounds_toArray, List.set_cons_zero, List.set_cons_succ, d3, d7] <;> rfl, h0, h1, h2, h3, h4, h5, h6, h7, fun _ => rfl, h9, h10, h11, h12, h13, h14, h15, h16, h17, h18, h19, h21, h22, TupM.pre hM.out (fun _ _ _ => OneSub.grow) 8 _ (by decide) (by decide) (Below.refl _ _)⟩
      · obtain rfl := Option.some.inj hi
        have d8 := h8 (hall ⟨8, .data⟩ (by simp) rfl)
        refine wpOp_step rfl (fun K hK => ?_)
        have HKK := Lib.hid hK; clear hK
        simp only [putAll, Act.put, List.setIfInBounds_toArray, List.set_cons_zero, List.set_cons_succ, d8]
        go_simp
        exact HKK.out _ _ ⟨_, by simp only [putAll, Act.put, List.setIfInBounds_toArray, List.set_cons_zero, List.set_cons_succ, d8] <;> rfl, h0, h1, h2, h3, h4, h5, h6, h7, h8, fun _ => rfl, h10, h11, h12, h13, h14, h15, h16, h17, h18, h19, h21, h22, TupM.pre hM.out (fun _ _ _ => OneSub.grow) 9 _ (by decide) (by decide) (Below.refl _ _)⟩
      · obtain rfl := Option.some.inj hi
        have d9 := h9 (hall ⟨9, .data⟩ (by simp) rfl)
        refine wpOp_step rfl (fun K hK => ?_)
        have HKK := Lib.hid hK; clear hK
        simp only [putAll, Act.put, List.setIfInBounds_toArray, List.set_cons_zero, List.set_cons_succ, d9]
        go_simp
        exact HKK.out _ _ ⟨_, by simp only [putAll, Act.put, List.setIfInBounds_toArray, List.set_cons_zero, List.set_cons_succ, d9] <;> rfl, h0, h1, h2, h3, h4, h5, h6, h7, h8, h9, fun _ => rfl, h11, h12, h13, h14, h15, h16, h17, h18, h19, h21, h22, TupM.pre hM.out (fun _ _ _ => OneSub.grow) 10 _ (by decide) (by decide) (Below.refl _ _)⟩
      · obtain rfl := Option.some.inj hi
        refine wpOp_step rfl (fun K hK => ?_)
        have HKK := Lib.hid hK; clear hK
        simp only [putAll, Act.put, List.setIfInBounds_toArray, List.set_cons_zero, List.set_cons_succ]
        go_simp
        exact HKK.out _ _ ⟨_, by simp only [putAll, Act.put, List.setIfInBounds_toArray, List.set_cons_zero, List.set_cons_succ] <;> rfl, h0, h1, h2, h3, h4, h5, h6, h7, h8, h9, h10, fun _ => rfl, h12, h13, h14, h15, h16, h17, h18, h19, h21, h22, TupM.pre hM.out (fun _ _ _ => OneSub.grow) 11 _ (by decide) (by decide) (Below.refl _ _)⟩
      · obtain rfl := Option.some.inj hi
        refine wpOp_step rfl (fun K hK => ?_)
        have HKK := Lib.hid hK; clear hK
        simp only [putAll, Act.put, List.setIfInBounds_toArray, List.set_cons_zero, List.set_cons_succ]
        go_simp
        exact HKK.out _ _ ⟨_, by simp only [putAll, Act.put, List.setIfInBounds_toArray, List.set_cons_zero, List.set_cons_succ] <;> rfl, h0, h1, h2, h3, h4, h5, h6, h7, h8, h9, h10, h11, fun _ => rfl, h13, h14, h15, h16, h17, h18, h19, h21, h22, TupM.pre hM.out (fun _ _ _ => OneSub.grow) 12 _ (by decide) (by decide) (Below.refl _ _)⟩
      · obtain rfl := Option.some.inj hi
        have d11 := h11 (hall ⟨11, .data⟩ (by simp) rfl)
        have d12 := h12 (hall ⟨12, .data⟩ (by simp) rfl)
        refine wpOp_step rfl (fun K hK => ?_)
        have HKK := Lib.hid hK; clear hK
        simp only [putAll, Act.put, List.setIfInBounds_toArray, List.set_cons_zero, List.set_cons_succ, d11, d12]
        go_simp
        exact HKK.out _ _ ⟨_, by simp only [putAll, Act.put, List.setIfInBounds_toArray, List.set_cons_zero, List.set_cons_succ, d11, d12] <;> rfl, h0, h1, h2, h3, h4, h5, h6, h7, h8, h9, h10, h11, h12, fun _ => rfl, h14, h15, h16, h17, h18, h19, h21, h22, TupM.pre hM.out (fun _ _ _ => OneSub.grow) 13 _ (by decide) (by decide) (Below.refl _ _)⟩
      · obtain rfl := Option.some.inj hi
        have d13 := h13 (hall ⟨13, .data⟩ (by simp) rfl)
        have hs := HQS.out.1.on hM.out.below HQS.out.2
        have c0 := hs.c0 HMM.out.2.1
        have c1 := hs.c1 HMM.out.2.1
        have c2 := hs.c2 HMM.out.2.1
        have c3 := hs.c3 HMM.out.2.1
        have c4 := hs.c4 HMM.out.2.1
        have c5 := hs.c5 HMM.out.2.1
        have c6 := hs.c6 HMM.out.2.1
        clear hs
        refine wpOp_step rfl (fun K hK => ?_)
        have HKK := Lib.hid hK; clear hK
        simp only [putAll, Act.put, List.setIfInBounds_toArray, List.set_cons_zero, List.set_cons_succ, d13]
        go_simp
        exact HKK.out _ _ ⟨_, by simp only [putAll, Act.put, List.setIfInBounds_toArray, List.set_cons_zero, List.set_cons_succ, d13] <;> rfl, h0, h1, h2, h3, h4, h5, h6, h7, h8, h9, h10, h11, h12, h13, fun _ => rfl, h15, h16, h17, h18, h19, h21, h22, TupM.pre hM.out (fun _ _ _ => OneSub.grow) 14 _ (by decide) (by decide) (Below.refl _ _)⟩
      · obtain rfl := Option.some.inj hi
        refine wpOp_step rfl (fun K hK => ?_)
        have HKK := Lib.hid hK; clear hK
        simp only [putAll, Act.put, List.setIfInBounds_toArray, List.set_cons_zero, List.set_cons_succ]
        go_simp
        exact HKK.out _ _ ⟨_, by simp only [putAll, Act.put, List.setIfInBounds_toArray, List.set_cons_zero, List.set_cons_succ] <;> rfl, h0, h1, h2, h3, h4, h5, h6, h7, h8, h9, h10, h11, h12, h13, h14, fun _ => rfl, h16, h17, h18, h19, h21, h22, TupM.pre hM.out (fun _ _ _ => OneSub.grow) 15 _ (by decide) (by decide) (Below.refl _ _)⟩
      · obtain rfl := Option.some.inj hi
        refine wpOp_step rfl (fun K hK => ?_)
        have HKK := Lib.hid hK; clear hK
        simp only [putAll, Act.put, List.setIfInBounds_toArray, List.set_cons_zero, List.set_cons_succ]
        go_simp
        exact HKK.out _ _ ⟨_, by simp only [putAll, Act.put, List.setIfInBounds_toArray, List.set_cons_zero, List.set_cons_succ] <;> rfl, h0, h1, h2, h3, h4, h5, h6, h7, h8, h9, h10, h11, h12, h13, h14, h15, fun _ => rfl, h17, h18, h19, h21, h22, TupM.pre hM.out (fun _ _ _ => OneSub.grow) 16 _ (by decide) (by decide) (Below.refl _ _)⟩
      · obtain rfl := Option.some.inj hi
        have d16 := h16 (hall ⟨16, .data⟩ (by simp) rfl)
        refine wpOp_step rfl (fun K hK => ?_)
        have HKK := Lib.hid hK; clear hK
        simp only [putAll, Act.put, List.setIfInBounds_toArray, List.set_cons_zero, List.set_cons_succ, d16]
        go_simp
        exact HKK.out _ _ ⟨_, by simp only [putAll, Act.put, List.setIfInBounds_toArray, List.set_cons_zero, List.set_cons_succ, d16] <;> rfl, h0, h1, h2, h3, h4, h5, h6, h7, h8, h9, h10, h11, h12, h13, h14, h15, h16, fun _ => rfl, h18, h19, h21, h22, TupM.pre hM.out (fun _ _ _ => OneSub.grow) 17 _ (by decide) (by decide) (Below.refl _ _)⟩
      · obtain rfl := Option.some.inj hi
        have d15 := h15 (hall ⟨15, .data⟩ (by simp) rfl)
        have d17 := h17 (hall ⟨17, .data⟩ (by simp) rfl)
        refine wpOp_step rfl (fun K hK => ?_)
        have HKK := Lib.hid hK; clear hK
        simp only [putAll, Act.put, List.setIfInBounds_toArray, List.set_cons_zero, List.set_cons_succ, d15, d17]
        go_simp
        exact HKK.out _ _ ⟨_, by simp only [putAll, Act.put, List.setIfInBounds_toArray, List.set_cons_zero, List.set_cons_succ, d15, d17] <;> rfl, h0, h1, h2, h3, h4, h5, h6, h7, h8, h9, h10, h11, h12, h13, h14, h15, h16, h17, fun _ => rfl, h19, h21, h22, TupM.pre hM.out (fun _ _ _ => OneSub.grow) 18 _ (by decide) (by decide) (Below.refl _ _)⟩
      · obtain rfl := Option.some.inj hi
        have d18 := h18 (hall ⟨18, .data⟩ (by simp) rfl)
        have hs := HQS.out.1.on hM.out.below HQS.out.2
        have c0 := hs.c0 HMM.out.2.2
        have c1 := hs.c1 HMM.out.2.2
        have c2 := hs.c2 HMM.out.2.2
        have c3 := hs.c3 HMM.out.2.2
        have c4 := hs.c4 HMM.out.2.2
        have c5 := hs.c5 HMM.out.2.2
        have c6 := hs.c6 HMM.out.2.2
        clear hs
        refine wpOp_step rfl (fun K hK => ?_)
        have HKK := Lib.hid hK; clear hK
        simp only [putAll, Act.put, List.setIfInBounds_toArray, List.set_cons_zero, List.set_cons_succ, d18]
        go_simp
        exact HKK.out _ _ ⟨_, by simp only [putAll, Act.put, List.setIfInBounds_toArray, List.set_cons_zero, List.set_cons_succ, d18] <;> rfl, h0, h1, h2, h3, h4, h5, h6, h7, h8, h9, h10, h11, h12, h13, h14, h15, h16, h17, h18, fun _ => rfl, h21, h22, TupM.pre hM.out (fun _ _ _ => OneSub.grow) 19 _ (by decide) (by decide) (Below.refl _ _)⟩
      · obtain rfl := Option.some.inj hi
        have d10 := h10 (hall ⟨10, .data⟩ (by simp) rfl)
        have d14 := h14 (hall ⟨14, .data⟩ (by simp) rfl)
        have d19 := h19 (hall ⟨19, .data⟩ (by simp) rfl)
        refine wpOp_step rfl (fun K hK => ?_)
        have HKK := Lib.hid hK; clear hK
        simp only [putAll, Act.put, List.setIfInBounds_toArray, List.set_cons_zero, List.set_cons_succ, d10, d14, d19]
        go_simp
        exact HKK.out _ _ ⟨_, by simp only [putAll, Act.put, List.setIfInBounds_toArray, List.set_cons_zero, List.set_cons_succ, d10, d14, d19] <;> rfl, h0, h1, h2, h3, h4, h5, h6, h7, h8, h9, h10, h11, h12, h13, h14, h15, h16, h17, h18, h19, h21, h22, TupM.built hM.out (fun _ _ _ => OneSub.grow) _ (by decide) ((Below.refl _ _).alloc (Nat.le_refl _) _) (RowS.new _ [⟨1, f, (0, 0), (0, 0)⟩, A, BB] (seven 1 f (0, 0) (0, 0) ++ seven A.k A.p A.q A.r ++ seven BB.k BB.p BB.q BB.r) 3 rfl rfl)⟩
      · obtain rfl := Option.some.inj hi
        refine wpOp_step rfl (fun K hK => ?_)
        have HKK := Lib.hid hK; clear hK
        simp only [putAll, Act.put, List.setIfInBounds_toArray, List.set_cons_zero, List.set_cons_succ]
        go_simp
        exact HKK.out _ _ ⟨_, by simp only [putAll, Act.put, List.setIfInBounds_toArray, List.set_cons_zero, List.set_cons_succ] <;> rfl, h0, h1, h2, h3, h4, h5, h6, h7, h8, h9, h10, h11, h12, h13, h14, h15, h16, h17, h18, h19, fun _ => rfl, h22, TupM.pre hM.out (fun _ _ _ => OneSub.grow) 21 _ (by decide) (by decide) (Below.refl _ _)⟩
      · obtain rfl := Option.some.inj hi
        have d21 := h21 (hall ⟨21, .data⟩ (by simp) rfl)
        refine wpOp_step rfl (fun K hK => ?_)
        have HKK := Lib.hid hK; clear hK
        simp only [putAll, Act.put, List.setIfInBounds_toArray, List.set_cons_zero, List.set_cons_succ, d21]
        go_simp
        exact HKK.out _ _ ⟨_, by simp only [putAll, Act.put, List.setIfInBounds_toArray, List.set_cons_zero, List.set_cons_succ, d21] <;> rfl, h0, h1, h2, h3, h4, h5, h6, h7, h8, h9, h10, h11, h12, h13, h14, h15, h16, h17, h18, h19, h21, fun _ => rfl, TupM.pre hM.out (fun _ _ _ => OneSub.grow) 22 _ (by decide) (by decide) (Below.refl _ _)⟩
      · obtain rfl := Option.some.inj hi
        have hrw := hM.out.row (hall ⟨20, .data⟩ (by simp) rfl)
        have d22 := h22 (hall ⟨22, .data⟩ (by simp) rfl)
        refine wpOp_step rfl (fun K hK => ?_)
        have HKK := Lib.hid hK; clear hK
        have HRW := Lib.hid hrw; clear hrw
        simp only [putAll, Act.put, List.setIfInBounds_toArray, List.set_cons_zero, List.set_cons_succ, d22]
        go_simp
        refine (HFL2.out _ _ (HR.out.on (below_next B9.out hM.out.below)) HRW.out).mono ?_
        rintro e w9 ⟨u, rfl, hg9, hb9⟩
        exact HKK.out _ _ ⟨_, by simp only [putAll, Act.put, List.setIfInBounds_toArray, List.set_cons_zero, List.set_cons_succ, d22] <;> rfl, h0, h1, h2, h3, h4, h5, h6, h7, h8, h9, h10, h11, h12, h13, h14, h15, h16, h17, h18, h19, h21, h22, TupM.call hM.out (by decide) hun u hg9 hb9⟩
      · obtain rfl := Option.some.inj hi
        have hbd := hall ⟨23, .data⟩ (by simp) rfl
        have hc := hbd
        obtain ⟨u, _, e0, e1, e2, e3, e4, e5⟩ := hM.out.got hc
        have E0 := Lib.hid e0
        clear e1 e2 e3 e4 e5
        refine wpOp_step rfl (fun K hK => ?_)
        have HKK := Lib.hid hK; clear hK
        simp only [putAll, Act.put, List.setIfInBounds_toArray, List.set_cons_zero, List.set_cons_succ, e0]
        go_simp
        exact HKK.out _ _ ⟨_, by simp only [putAll, Act.put, List.setIfInBounds_toArray, List.set_cons_zero, List.set_cons_succ, e0] <;> rfl, h0, h1, h2, h3, h4, h5, h6, h7, h8, h9, h10, h11, h12, h13, h14, h15, h16, h17, h18, h19, h21, h22, TupM.post hM.out 24 (by decide) _ (by decide) hc (fun r2 h2r => ⟨fun _ => by rw [tup_inj (E0.out.symm.trans h2r)], fun e => absurd e (by decide), fun e => absurd e (by decide), fun e => absurd e (by decide), fun e => absurd e (by decide)⟩)⟩
      · obtain rfl := Option.some.inj hi
        have hbd := hall ⟨24, .data⟩ (by simp) rfl
        have hc := hM.out.at (i := 24) (by decide) hbd
        obtain ⟨u, _, e0, e1, e2, e3, e4, e5⟩ := hM.out.got hc
        have d1 := e1 hbd
        have E0 := Lib.hid e0
        clear e0 e1 e2 e3 e4 e5
        refine wpOp_step rfl (fun K hK => ?_)
        have HKK := Lib.hid hK; clear hK
        simp only [putAll, Act.put, List.setIfInBounds_toArray, List.set_cons_zero, List.set_cons_succ, d1]
        go_simp
        exact HKK.out _ _ ⟨_, by simp only [putAll, Act.put, List.setIfInBounds_toArray, List.set_cons_zero, List.set_cons_succ, d1] <;> rfl, h0, h1, h2, h3, h4, h5, h6, h7, h8, h9, h10, h11, h12, h13, h14, h15, h16, h17, h18, h19, h21, h22, TupM.post hM.out 25 (by decide) _ (by decide) hc (fun r2 h2r => ⟨fun e => absurd e (by decide), fun _ => tup_inj (E0.out.symm.trans h2r), fun e => absurd e (by decide), fun e => absurd e (by decide), fun e => absurd e (by decide)⟩)⟩
      · obtain rfl := Option.some.inj hi
        have hbd := hall ⟨24, .data⟩ (by simp) rfl
        have hc := hM.out.at (i := 24) (by decide) hbd
        obtain ⟨u, _, e0, e1, e2, e3, e4, e5⟩ := hM.out.got hc
        have d1 := e1 hbd
        have E0 := Lib.hid e0
        clear e0 e1 e2 e3 e4 e5
        refine wpOp_step rfl (fun K hK => ?_)
        have HKK := Lib.hid hK; clear hK
        simp only [putAll, Act.put, List.setIfInBounds_toArray, List.set_cons_zero, List.set_cons_succ, d1]
        go_simp
        exact HKK.out _ _ ⟨_, by simp only [putAll, Act.put, List.setIfInBounds_toArray, List.set_cons_zero, List.set_cons_succ, d1] <;> rfl, h0, h1, h2, h3, h4, h5, h6, h7, h8, h9, h10, h11, h12, h13, h14, h15, h16, h17, h18, h19, h21, h22, TupM.post hM.out 26 (by decide) _ (by decide) hc (fun r2 h2r => ⟨fun e => absurd e (by decide), fun e => absurd e (by decide), fun _ => rfl, fun e => absurd e (by decide), fun e => absurd e (by decide)⟩)⟩
      · obtain rfl := Option.some.inj hi
        have hbd := hall ⟨25, .data⟩ (by simp) rfl
        have hc := hM.out.at (i := 25) (by decide) hbd
        obtain ⟨u, _, e0, e1, e2, e3, e4, e5⟩ := hM.out.got hc
        have d2 := e2 hbd
        have E0 := Lib.hid e0
        clear e0 e1 e2 e3 e4 e5
        refine wpOp_step rfl (fun K hK => ?_)
        have HKK := Lib.hid hK; clear hK
        simp only [putAll, Act.put, List.setIfInBounds_toArray, List.set_cons_zero, List.set_cons_succ, d2]
        go_simp
        exact HKK.out _ _ ⟨_, by simp only [putAll, Act.put, List.setIfInBounds_toArray, List.set_cons_zero, List.set_cons_succ, d2] <;> rfl, h0, h1, h2, h3, h4, h5, h6, h7, h8, h9, h10, h11, h12, h13, h14, h15, h16, h17, h18, h19, h21, h22, TupM.post hM.out 27 (by decide) _ (by decide) hc (fun r2 h2r => ⟨fun e => absurd e (by decide), fun e => absurd e (by decide), fun e => absurd e (by decide), fun _ => tup_inj (E0.out.symm.trans h2r), fun e => absurd e (by decide)⟩)⟩
      · obtain rfl := Option.some.inj hi
        have hbd := hall ⟨26, .data⟩ (by simp) rfl
        have hc := hM.out.at (i := 26) (by decide) hbd
        obtain ⟨u, _, e0, e1, e2, e3, e4, e5⟩ := hM.out.got hc
        have d3 := e3 hbd
        have E0 := Lib.hid e0
        clear e0 e1 e2 e3 e4 e5
        refine wpOp_step rfl (fun K hK => ?_)
        have HKK := Lib.hid hK; clear hK
        simp only [putAll, Act.put, List.setIfInBounds_toArray, List.set_cons_zero, List.set_cons_succ, d3]
        go_simp
        exact HKK.out _ _ ⟨_, by simp only [putAll, Act.put, List.setIfInBounds_toArray, List.set_cons_zero, List.set_cons_succ, d3] <;> rfl, h0, h1, h2, h3, h4, h5, h6, h7, h8, h9, h10, h11, h12, h13, h14, h15, h16, h17, h18, h19, h21, h22, TupM.post hM.out 28 (by decide) _ (by decide) hc (fun r2 h2r => ⟨fun e => absurd e (by decide), fun e => absurd e (by decide), fun e => absurd e (by decide), fun e => absurd e (by decide), fun _ => rfl⟩)⟩
      · exact absurd hil (by omega)
    · rintro b' vs w' hb ⟨h0, h1, h2, h3, h4, h5, h6, h7, h8, h9, h10, h11, h12, h13, h14, h15, h16, h17, h18, h19, h21, h22, hM⟩
      obtain ⟨u, hg, e0, e1, e2, e3, e4, e5⟩ := hM.out.got (hb 23 (by decide))
      have f4 := e4 (hb 27 (by decide))
      have f5 := e5 (hb 28 (by decide))
      have hbw := hM.out.below
      simp only [putAll, Act.put, List.setIfInBounds_toArray, List.set_cons_zero, List.set_cons_succ, f4, f5]
      clear h0 h1 h2 h3 h4 h5 h6 h7 h8 h9 h10 h11 h12 h13 h14 h15 h16 h17 h18 h19 h21 h22 hM hb e0 e1 e2 e3 e4 e5 f4 f5
      generalize vs 0 = r230
      generalize vs 1 = r231
      generalize vs 2 = r232
      generalize vs 3 = r233
      generalize vs 4 = r234
      generalize vs 5 = r235
      generalize vs 6 = r236
      generalize vs 7 = r237
      generalize vs 8 = r238
      generalize vs 9 = r239
      generalize vs 10 = r2310
      generalize vs 11 = r2311
      generalize vs 12 = r2312
      generalize vs 13 = r2313
      generalize vs 14 = r2314
      generalize vs 15 = r2315
      generalize vs 16 = r2316
      generalize vs 17 = r2317
      generalize vs 18 = r2318
      generalize vs 19 = r2319
      generalize vs 20 = r2320
      generalize vs 21 = r2321
      generalize vs 22 = r2322
      generalize vs 23 = r2323
      generalize vs 24 = r2324
      generalize vs 25 = r2325
      generalize vs 26 = r2326
      have O10 := Lib.hid hg
      have B10 := Lib.hid (below_next B9.out hbw)
      have P10 := Lib.hid (O9.out.grow hbw)
      clear hg hbw
      obtain ⟨w10, hw10⟩ : ∃ W, w' = W := ⟨_, rfl⟩
      rw [hw10] at O10 B10 P10 ⊢
      clear hw10
      obtain ⟨g, cg, xa, xc, rfl, hgl, c0, RX⟩ := P10.out.open
      obtain ⟨g2, cg2, ya, yc, rfl, hgl2, d0, RY⟩ := O10.out.open
      obtain ⟨q, hq⟩ : ∃ q, L.length = q := ⟨_, rfl⟩
      rw [hq] at c0 d0 RX RY
      have HQ := Lib.hid hq
      have HX0 := Lib.hid RX
      have HY0 := Lib.hid RY
      have eq : ((q : Int) != (q : Int)) = false := by simp
      have hq60 : q ≤ 100000 := by rw [← hq]; exact HLL.out
      have HC0 := Lib.hid c0
      have HD0 := Lib.hid d0
      clear hq RX RY
      go_wp2_with fail
      go_quiet (fail)
      go_wp2_with fail
      go_loopw [201] (fun i wr => ∃ j : Nat, j ≤ q ∧ i = .int .i64 j ∧ Hid (Below w10.heap.size w10 wr)) (fun i _ => q - (intOf i).toNat)
      case atStart => exact ⟨0, by omega, rfl, below_drewN (Below.refl _ _) _⟩
      case round =>
        obtain ⟨j, hj, rfl, hx⟩ := hrel
        have BX := Lib.hid (show Below w.heap.size w wr from below_next B10.out hx.out)
        by_cases hjq : j < q
        · have hdj : decide ((j : Int) < (q : Int)) = true := decide_eq_true (by omega)
          obtain ⟨⟨px, py⟩, hp⟩ : ∃ p, L[j]? = some p := ⟨_, List.getElem?_eq_getElem (by rw [HQ.out]; exact hjq)⟩
          have HRX := HX0.out
          have HRY := HY0.out
          obtain ⟨xb, xo, rfl, hxb, hxp⟩ := Row.addr HRX (k := j) (by rw [HQ.out]; exact hjq)
          obtain ⟨yb, yo, rfl, hyb, hyp⟩ := Row.addr HRY (k := j) (by rw [HQ.out]; exact hjq)
          obtain ⟨p0, p1⟩ := (hxp.on hx.out hxb) j (px, py) hp
          obtain ⟨q0, q1⟩ := (hyp.on hx.out hyb) j (px, py) hp
          have hbl := Nat.lt_of_lt_of_le hyb hx.out.size
          have hgl3 := Nat.lt_of_lt_of_le hgl2 hx.out.size
          have d0' : wr.cell? ⟨g2, 0, none⟩ = some (.slice (some ⟨yb, yo, none⟩) q yc) := (cell_below hx.out hgl2).trans HD0.out
          have B11 := Lib.hid (hx.out.alloc hx.out.size (.cells #[.int .i64 px, .int .i64 py] 44))
          have ex : (px == px) = true := by simp
          have ey : (py == py) = true := by simp
          simp only at p0 p1 q0 q1
          clear hp hxb hxp hyb hyp c0 d0 HRX HRY hgl hgl2
          go_wp2_with fail
          go_quiet (fail)
          go_wp2_with fail
          exact ⟨⟨j + 1, by omega, by go_num, below_drewN B11.out _⟩, by simp [intOf]; omega⟩
        · have hdj : decide ((j : Int) < (q : Int)) = false := decide_eq_false (by omega)
          go_wp2_with fail
          refine (awake_c _ (HR.out.on BX.out)).mono ?_
          rintro e w11 ⟨rfl, hb⟩
          have BZ := Lib.hid (below_next BX.out hb)
          clear hb
          go_wp2_with fail
          go_ret
          exact ⟨rfl, BZ.out⟩
end Go.Proofs.YtffgpikhahpomaaDoor
