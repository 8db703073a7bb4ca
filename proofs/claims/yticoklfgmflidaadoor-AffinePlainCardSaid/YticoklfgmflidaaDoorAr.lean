/- The law AffinePlain. -/
import Derived.Test.YticoklfgmflidaaDoorAo
namespace Go.Proofs.YticoklfgmflidaaDoor
open Go.RowKit
abbrev zA (a b x y nn : Int) : Array Value := #[.int .i64 a, .int .i64 b, .int .i64 x, .int .i64 y, .int .i64 nn]
def rot (a b : Int) : Nat → Pt
  | 0 => (a, b)
  | j + 1 => (-(rot a b j).2, (rot a b j).1)
theorem rot_in (a b : Int) (ha : -2147483648 ≤ a ∧ a ≤ 2147483648) (hb : -2147483648 ≤ b ∧ b ≤ 2147483648) : ∀ j, (-2147483648 ≤ (rot a b j).1 ∧ (rot a b j).1 ≤ 2147483648) ∧ (-2147483648 ≤ (rot a b j).2 ∧ (rot a b j).2 ≤ 2147483648)
  | 0 => ⟨ha, hb⟩
  | j + 1 => by
    have h := rot_in a b ha hb j
    unfold rot
    dsimp only
    omega
theorem Mem.setP {w W : World} {l : BlkL} {g : Nat} {p : Pt} (h : Mem w W ((g, 25, two p) :: l)) (hg : w.heap.size ≤ g) (hl : ∀ x ∈ l, x.1 < g) (u v : Int) : Mem w ((W.setCell ⟨g, 0, none⟩ (.int .i64 u)).setCell ⟨g, 1, none⟩ (.int .i64 v)) ((g, 25, two (u, v)) :: l) :=
  ⟨below_two h.below hg _ _, h.lays.1.setP u v, (h.lays.2.other _ _ (fun x hx => by have := hl x hx; dsimp only; omega)).other _ _ (fun x hx => by have := hl x hx; dsimp only; omega)⟩
set_option maxHeartbeats 8000000 in
set_option maxRecDepth 100000 in
theorem plain_walk (a b x y nn : Int) (Q : Mx) (K : Nat) (w : World) (ri rx ry f1 f2 : Bool)
    (HO : Hid (∀ w', Below w.heap.size w w' → Calls Tryd.prog 19 #[] w' fun e w'' => e = .returned (.agg #[.int .i64 65536, .int .i64 0, .int .i64 0, .int .i64 65536, .int .i64 0, .int .i64 0]) ∧ Below w'.heap.size w' w''))
    (HM : Hid (∀ w', Below w.heap.size w w' → Calls Tryd.prog 20 #[.int .i64 x, .int .i64 y] w' fun e w'' => e = .returned (.agg #[.int .i64 65536, .int .i64 0, .int .i64 0, .int .i64 65536, .int .i64 x, .int .i64 y]) ∧ Below w'.heap.size w' w''))
    (HQ : Hid (∀ w', Below w.heap.size w w' → Calls Tryd.prog 21 #[.int .i64 nn] w' fun e w'' => e = .returned (.agg #[.int .i64 Q.a, .int .i64 Q.b, .int .i64 Q.c, .int .i64 Q.d, .int .i64 Q.e, .int .i64 Q.f]) ∧ Below w'.heap.size w' w''))
    (HS : Hid (∀ w, Calls Tryd.prog 22 #[.int .i64 x, .int .i64 y] w fun e w' => e = .returned (.agg #[.int .i64 x, .int .i64 0, .int .i64 0, .int .i64 y, .int .i64 0, .int .i64 0]) ∧ Below w.heap.size w w'))
    (HR1 : Hid (∀ w, Calls Tryd.prog 11 #[.agg #[.int .i64 65536, .int .i64 0, .int .i64 0, .int .i64 65536, .int .i64 0, .int .i64 0]] w fun e w' => e = .returned (.agg #[.int .i64 65536, .int .i64 0, .int .i64 0, .int .i64 65536, .int .i64 0, .int .i64 0]) ∧ Below w.heap.size w w'))
    (HR2 : Hid (∀ w, Calls Tryd.prog 11 #[.agg #[.int .i64 65536, .int .i64 0, .int .i64 0, .int .i64 65536, .int .i64 x, .int .i64 y]] w fun e w' => e = .returned (.agg #[.int .i64 65536, .int .i64 0, .int .i64 0, .int .i64 65536, .int .i64 x, .int .i64 y]) ∧ Below w.heap.size w w'))
    (HR3 : Hid (∀ w, Calls Tryd.prog 11 #[.agg #[.int .i64 x, .int .i64 0, .int .i64 0, .int .i64 y, .int .i64 0, .int .i64 0]] w fun e w' => e = .returned (.agg #[.int .i64 x, .int .i64 0, .int .i64 0, .int .i64 y, .int .i64 0, .int .i64 0]) ∧ Below w.heap.size w w'))
    (HI : Hid (∀ w, Calls Tryd.prog 13 #[.agg #[.int .i64 a, .int .i64 b]] w fun e w' => e = .returned (.bool ri) ∧ Below w.heap.size w w'))
    (HIx : Hid (∀ w, Calls Tryd.prog 23 #[.int .i64 x] w fun e w' => e = .returned (.bool rx) ∧ w = w'))
    (HIy : Hid (∀ w, Calls Tryd.prog 23 #[.int .i64 y] w fun e w' => e = .returned (.bool ry) ∧ w = w'))
    (HI1 : Hid (∀ w, Calls Tryd.prog 23 #[.int .i64 (a + x)] w fun e w' => e = .returned (.bool f1) ∧ w = w'))
    (HI2 : Hid (∀ w, Calls Tryd.prog 23 #[.int .i64 (b + y)] w fun e w' => e = .returned (.bool f2) ∧ w = w'))
    (HW : Hid (ri = true → (rx && ry) = true → wrap64 (a + x) = a + x ∧ wrap64 (b + y) = b + y))
    (HB : Hid (ri = true → (-2147483648 ≤ a ∧ a ≤ 2147483648) ∧ (-2147483648 ≤ b ∧ b ≤ 2147483648)))
    (HA0 : Hid (ri = true → ∀ w, Calls Tryd.prog 9 #[.agg #[.int .i64 65536, .int .i64 0, .int .i64 0, .int .i64 65536, .int .i64 0, .int .i64 0], .agg #[.int .i64 a, .int .i64 b]] w fun e w' => e = .returned (.tuple #[.agg #[.int .i64 a, .int .i64 b], .int .i64 0]) ∧ Below w.heap.size w w'))
    (HAM : Hid (ri = true → (rx && ry) = true → ∀ w, Calls Tryd.prog 9 #[.agg #[.int .i64 65536, .int .i64 0, .int .i64 0, .int .i64 65536, .int .i64 x, .int .i64 y], .agg #[.int .i64 a, .int .i64 b]] w fun e w' => e = .returned (.tuple #[.agg #[.int .i64 (if f1 && f2 then a + x else 0), .int .i64 (if f1 && f2 then b + y else 0)], .int .i64 (if f1 && f2 then 0 else 10)]) ∧ Below w.heap.size w w'))
    (HAQ : Hid (ri = true → ∀ w, Calls Tryd.prog 9 #[.agg #[.int .i64 Q.a, .int .i64 Q.b, .int .i64 Q.c, .int .i64 Q.d, .int .i64 Q.e, .int .i64 Q.f], .agg #[.int .i64 a, .int .i64 b]] w fun e w' => e = .returned (.tuple #[.agg #[.int .i64 (rot a b K).1, .int .i64 (rot a b K).2], .int .i64 0]) ∧ Below w.heap.size w w'))
    (HK : Hid ((nn.tmod 4 < 0 ∧ wrap64 (nn.tmod 4 + 4) = (K : Int)) ∨ (0 ≤ nn.tmod 4 ∧ nn.tmod 4 = (K : Int))))
    (hK : K ≤ 3)
    (HAW : Hid (∀ w', Below w.heap.size w w' → Calls Tryd.prog 15 #[] w' fun e w'' => e = .returned (.bool true) ∧ Below w'.heap.size w' w'')) :
    Calls Tryd.prog 6 #[.agg (zA a b x y nn)] w fun e w' => e = .returned (.bool true) ∧ Below w.heap.size w w' := by
  have S1 : Hid (Mem w ((w.alloc (.cells (zA a b x y nn) 47)).alloc (.cells #[.int .i64 a, .int .i64 b] 25)).drew [(w.heap.size + 1, 25, two (a, b)), (w.heap.size, 47, zA a b x y nn)]) := (((Mem.refl w).add _ _).addAt _ _ _ (by simp)).drew
  have E1 := equal_six 65536 0 0 65536 0 0
  have E2 := equal_six 65536 0 0 65536 x y
  have E3 := equal_six x 0 0 y 0 0
  obtain ⟨n, hn⟩ : ∃ n, w.heap.size = n := ⟨_, rfl⟩
  have hn' : w.heap.size ≤ n := by omega
  rw [hn] at S1
  go_enter Tryd.func6, Tryd.ntmps6
  go_wp2_with fail
  go_region
  generalize World.drew _ = W at S1 ⊢
  have HF : Hid (∀ w', Below W.heap.size W w' → w'.cell? ⟨n, 4, none⟩ = some (.int .i64 nn)) := fun w' hw' => (S1.out.next hw').lays.2.1.cell 4
  go_wp2_with fail
  refine wp_region_put (by kernel_rfl) (by kernel_rfl) (by kernel_rfl) (fun b' vs w' => (b' 0 = true → vs 0 = .agg #[.int .i64 65536, .int .i64 0, .int .i64 0, .int .i64 65536, .int .i64 0, .int .i64 0]) ∧ (b' 1 = true → vs 1 = .int .i64 x) ∧ (b' 2 = true → vs 2 = .int .i64 y) ∧ (b' 3 = true → vs 3 = .agg #[.int .i64 65536, .int .i64 0, .int .i64 0, .int .i64 65536, .int .i64 x, .int .i64 y]) ∧ (b' 4 = true → vs 4 = .pointer (some ⟨n, 4, none⟩)) ∧ (b' 5 = true → vs 5 = .int .i64 nn) ∧ (b' 6 = true → vs 6 = .agg #[.int .i64 Q.a, .int .i64 Q.b, .int .i64 Q.c, .int .i64 Q.d, .int .i64 Q.e, .int .i64 Q.f]) ∧ Hid (LayM W 23 (six zeroM) [⟨7, 10, six q0⟩, ⟨8, 11, six ⟨65536, 0, 0, 65536, x, y⟩⟩, ⟨9, 12, six Q⟩] b' vs w')) ?_ ?_ ?_
  · intro vs
    exact ⟨fun h => Bool.noConfusion h, fun h => Bool.noConfusion h, fun h => Bool.noConfusion h, fun h => Bool.noConfusion h, fun h => Bool.noConfusion h, fun h => Bool.noConfusion h, fun h => Bool.noConfusion h, LayM.start vs⟩
  · rintro b' vs w' i op hi hun hall ⟨h0, h1, h2, h3, h4, h5, h6, hM⟩
    have hil : i < 13 := (List.getElem?_eq_some_iff.1 hi).1
    have hbelow := LayM.below hM.out
    rcases i with _ | _ | _ | _ | _ | _ | _ | _ | _ | _ | _ | _ | _ | i
    · obtain rfl := Option.some.inj hi
      refine wpOp_step rfl (fun K hK => ?_)
      have HKK := Lib.hid hK; clear hK
      simp only [putAll, Act.put, List.setIfInBounds_toArray, List.set_cons_zero, List.set_cons_succ]
      go_simp
      refine (HO.out _ (S1.out.next hbelow).below).mono ?_
      rintro e w2 ⟨rfl, hb2⟩
      exact HKK.out _ _ ⟨_, by simp only [putAll, Act.put, List.setIfInBounds_toArray, List.set_cons_zero, List.set_cons_succ] <;> rfl, fun _ => rfl, h1, h2, h3, h4, h5, h6, (LayM.other hM.out 0 _ rfl).grow hb2⟩
    · obtain rfl := Option.some.inj hi
      refine wpOp_step rfl (fun K hK => ?_)
      have HKK := Lib.hid hK; clear hK
      simp only [putAll, Act.put, List.setIfInBounds_toArray, List.set_cons_zero, List.set_cons_succ]
      go_simp
      exact HKK.out _ _ ⟨_, by simp only [putAll, Act.put, List.setIfInBounds_toArray, List.set_cons_zero, List.set_cons_succ] <;> rfl, h0, fun _ => rfl, h2, h3, h4, h5, h6, LayM.other hM.out 1 _ rfl⟩
    · obtain rfl := Option.some.inj hi
      refine wpOp_step rfl (fun K hK => ?_)
      have HKK := Lib.hid hK; clear hK
      simp only [putAll, Act.put, List.setIfInBounds_toArray, List.set_cons_zero, List.set_cons_succ]
      go_simp
      exact HKK.out _ _ ⟨_, by simp only [putAll, Act.put, List.setIfInBounds_toArray, List.set_cons_zero, List.set_cons_succ] <;> rfl, h0, h1, fun _ => rfl, h3, h4, h5, h6, LayM.other hM.out 2 _ rfl⟩
    · obtain rfl := Option.some.inj hi
      have d1 := h1 (hall ⟨1, .data⟩ (by simp) rfl)
      have d2 := h2 (hall ⟨2, .data⟩ (by simp) rfl)
      refine wpOp_step rfl (fun K hK => ?_)
      have HKK := Lib.hid hK; clear hK
      simp only [putAll, Act.put, List.setIfInBounds_toArray, List.set_cons_zero, List.set_cons_succ]
      go_simp
      refine (HM.out _ (S1.out.next hbelow).below).mono ?_
      rintro e w2 ⟨rfl, hb2⟩
      exact HKK.out _ _ ⟨_, by simp only [putAll, Act.put, List.setIfInBounds_toArray, List.set_cons_zero, List.set_cons_succ, d1, d2] <;> rfl, h0, h1, h2, fun _ => rfl, h4, h5, h6, (LayM.other hM.out 3 _ rfl).grow hb2⟩
    · obtain rfl := Option.some.inj hi
      refine wpOp_step rfl (fun K hK => ?_)
      have HKK := Lib.hid hK; clear hK
      simp only [putAll, Act.put, List.setIfInBounds_toArray, List.set_cons_zero, List.set_cons_succ]
      go_simp
      exact HKK.out _ _ ⟨_, by simp only [putAll, Act.put, List.setIfInBounds_toArray, List.set_cons_zero, List.set_cons_succ] <;> rfl, h0, h1, h2, h3, fun _ => rfl, h5, h6, LayM.other hM.out 4 _ rfl⟩
    · obtain rfl := Option.some.inj hi
      have d4 := h4 (hall ⟨4, .data⟩ (by simp) rfl)
      have c4 := HF.out _ hbelow
      refine wpOp_step rfl (fun K hK => ?_)
      have HKK := Lib.hid hK; clear hK
      simp only [putAll, Act.put, List.setIfInBounds_toArray, List.set_cons_zero, List.set_cons_succ]
      go_simp
      exact HKK.out _ _ ⟨_, by simp only [putAll, Act.put, List.setIfInBounds_toArray, List.set_cons_zero, List.set_cons_succ, d4] <;> rfl, h0, h1, h2, h3, h4, fun _ => rfl, h6, LayM.other hM.out 5 _ rfl⟩
    · obtain rfl := Option.some.inj hi
      have d5 := h5 (hall ⟨5, .data⟩ (by simp) rfl)
      refine wpOp_step rfl (fun K hK => ?_)
      have HKK := Lib.hid hK; clear hK
      simp only [putAll, Act.put, List.setIfInBounds_toArray, List.set_cons_zero, List.set_cons_succ]
      go_simp
      refine (HQ.out _ (S1.out.next hbelow).below).mono ?_
      rintro e w2 ⟨rfl, hb2⟩
      exact HKK.out _ _ ⟨_, by simp only [putAll, Act.put, List.setIfInBounds_toArray, List.set_cons_zero, List.set_cons_succ, d5] <;> rfl, h0, h1, h2, h3, h4, h5, fun _ => rfl, (LayM.other hM.out 6 _ rfl).grow hb2⟩
    · obtain rfl := Option.some.inj hi
      refine wpOp_step rfl (fun K hK => ?_)
      have HKK := Lib.hid hK; clear hK
      simp only [putAll, Act.put, List.setIfInBounds_toArray, List.set_cons_zero, List.set_cons_succ]
      go_simp
      exact HKK.out _ _ ⟨_, by simp only [putAll, Act.put, List.setIfInBounds_toArray, List.set_cons_zero, List.set_cons_succ] <;> rfl, h0, h1, h2, h3, h4, h5, h6, LayM.made hM.out rfl ⟨7, 10, six q0⟩ (by simp) hun⟩
    · obtain rfl := Option.some.inj hi
      refine wpOp_step rfl (fun K hK => ?_)
      have HKK := Lib.hid hK; clear hK
      simp only [putAll, Act.put, List.setIfInBounds_toArray, List.set_cons_zero, List.set_cons_succ]
      go_simp
      exact HKK.out _ _ ⟨_, by simp only [putAll, Act.put, List.setIfInBounds_toArray, List.set_cons_zero, List.set_cons_succ] <;> rfl, h0, h1, h2, h3, h4, h5, h6, LayM.made hM.out rfl ⟨8, 11, six ⟨65536, 0, 0, 65536, x, y⟩⟩ (by simp) hun⟩
    · obtain rfl := Option.some.inj hi
      refine wpOp_step rfl (fun K hK => ?_)
      have HKK := Lib.hid hK; clear hK
      simp only [putAll, Act.put, List.setIfInBounds_toArray, List.set_cons_zero, List.set_cons_succ]
      go_simp
      exact HKK.out _ _ ⟨_, by simp only [putAll, Act.put, List.setIfInBounds_toArray, List.set_cons_zero, List.set_cons_succ] <;> rfl, h0, h1, h2, h3, h4, h5, h6, LayM.made hM.out rfl ⟨9, 12, six Q⟩ (by simp) hun⟩
    · obtain rfl := Option.some.inj hi
      have d0 := h0 (hall ⟨0, .data⟩ (by simp) rfl)
      have dal := hall ⟨7, .data⟩ (by simp) rfl
      obtain ⟨g, eg, lg, kg⟩ := LayM.at hM.out ⟨7, 10, six q0⟩ (by simp) dal hun
      have kg' : Blk w' g 23 (six zeroM) := kg
      have c0 := kg'.m0; have c1 := kg'.m1; have c2 := kg'.m2; have c3 := kg'.m3; have c4 := kg'.m4; have c5 := kg'.m5
      have f0 := kg.free 0; have f1 := kg.free 1; have f2 := kg.free 2; have f3 := kg.free 3; have f4 := kg.free 4; have f5 := kg.free 5
      simp only at c0 c1 c2 c3 c4 c5
      have lgw := kg.lt
      refine wpOp_step rfl (fun K hK => ?_)
      have HKK := Lib.hid hK; clear hK
      simp only [putAll, Act.put, List.setIfInBounds_toArray, List.set_cons_zero, List.set_cons_succ]
      go_simp
      exact HKK.out _ _ ⟨_, by simp only [putAll, Act.put, List.setIfInBounds_toArray, List.set_cons_zero, List.set_cons_succ, d0, eg] <;> rfl, h0, h1, h2, h3, h4, h5, h6, LayM.stored hM.out rfl ⟨7, 10, six q0⟩ (by simp) undef dal eg (below_six hbelow lg _ _ _ _ _ _) (Blk.setM kg' q0) (fun g' cs hne k => k.otherM hne _ _ _ _ _ _)⟩
    · obtain rfl := Option.some.inj hi
      have d3 := h3 (hall ⟨3, .data⟩ (by simp) rfl)
      have dal := hall ⟨8, .data⟩ (by simp) rfl
      obtain ⟨g, eg, lg, kg⟩ := LayM.at hM.out ⟨8, 11, six ⟨65536, 0, 0, 65536, x, y⟩⟩ (by simp) dal hun
      have kg' : Blk w' g 23 (six zeroM) := kg
      have c0 := kg'.m0; have c1 := kg'.m1; have c2 := kg'.m2; have c3 := kg'.m3; have c4 := kg'.m4; have c5 := kg'.m5
      have f0 := kg.free 0; have f1 := kg.free 1; have f2 := kg.free 2; have f3 := kg.free 3; have f4 := kg.free 4; have f5 := kg.free 5
      simp only at c0 c1 c2 c3 c4 c5
      have lgw := kg.lt
      refine wpOp_step rfl (fun K hK => ?_)
      have HKK := Lib.hid hK; clear hK
      simp only [putAll, Act.put, List.setIfInBounds_toArray, List.set_cons_zero, List.set_cons_succ]
      go_simp
      exact HKK.out _ _ ⟨_, by simp only [putAll, Act.put, List.setIfInBounds_toArray, List.set_cons_zero, List.set_cons_succ, d3, eg] <;> rfl, h0, h1, h2, h3, h4, h5, h6, LayM.stored hM.out rfl ⟨8, 11, six ⟨65536, 0, 0, 65536, x, y⟩⟩ (by simp) undef dal eg (below_six hbelow lg _ _ _ _ _ _) (Blk.setM kg' ⟨65536, 0, 0, 65536, x, y⟩) (fun g' cs hne k => k.otherM hne _ _ _ _ _ _)⟩
    · obtain rfl := Option.some.inj hi
      have d6 := h6 (hall ⟨6, .data⟩ (by simp) rfl)
      have dal := hall ⟨9, .data⟩ (by simp) rfl
      obtain ⟨g, eg, lg, kg⟩ := LayM.at hM.out ⟨9, 12, six Q⟩ (by simp) dal hun
      have kg' : Blk w' g 23 (six zeroM) := kg
      have c0 := kg'.m0; have c1 := kg'.m1; have c2 := kg'.m2; have c3 := kg'.m3; have c4 := kg'.m4; have c5 := kg'.m5
      have f0 := kg.free 0; have f1 := kg.free 1; have f2 := kg.free 2; have f3 := kg.free 3; have f4 := kg.free 4; have f5 := kg.free 5
      simp only at c0 c1 c2 c3 c4 c5
      have lgw := kg.lt
      refine wpOp_step rfl (fun K hK => ?_)
      have HKK := Lib.hid hK; clear hK
      simp only [putAll, Act.put, List.setIfInBounds_toArray, List.set_cons_zero, List.set_cons_succ]
      go_simp
      exact HKK.out _ _ ⟨_, by simp only [putAll, Act.put, List.setIfInBounds_toArray, List.set_cons_zero, List.set_cons_succ, d6, eg] <;> rfl, h0, h1, h2, h3, h4, h5, h6, LayM.stored hM.out rfl ⟨9, 12, six Q⟩ (by simp) undef dal eg (below_six hbelow lg _ _ _ _ _ _) (Blk.setM kg' Q) (fun g' cs hne k => k.otherM hne _ _ _ _ _ _)⟩
    · omega
  · rintro b' vs w2 hall ⟨h0, h1, h2, h3, h4, h5, h6, hM⟩
    have d0 := h0 (hall 0 (by simp)); have d1 := h1 (hall 1 (by simp)); have d2 := h2 (hall 2 (by simp)); have d3 := h3 (hall 3 (by simp)); have d4 := h4 (hall 4 (by simp)); have d5 := h5 (hall 5 (by simp)); have d6 := h6 (hall 6 (by simp))
    obtain ⟨g6, e6, _, k6⟩ := LayM.done hM.out ⟨7, 10, six q0⟩ (by simp) (hall 7 (by simp)) (hall 10 (by simp))
    obtain ⟨g7, e7, _, k7⟩ := LayM.done hM.out ⟨8, 11, six ⟨65536, 0, 0, 65536, x, y⟩⟩ (by simp) (hall 8 (by simp)) (hall 11 (by simp))
    obtain ⟨g8, e8, _, k8⟩ := LayM.done hM.out ⟨9, 12, six Q⟩ (by simp) (hall 9 (by simp)) (hall 12 (by simp))
    have S2 : Hid (Mem w w2 [(g8, 23, six Q), (g7, 23, six ⟨65536, 0, 0, 65536, x, y⟩), (g6, 23, six q0), (n + 1, 25, two (a, b)), (n, 47, zA a b x y nn)]) := by
      have S := S1.out.next (LayM.below hM.out)
      exact ⟨S.below, k8, k7, k6, S.lays⟩
    simp only [putAll, Act.put, List.setIfInBounds_toArray, List.set_cons_zero, List.set_cons_succ, d0, d1, d2, d3, d4, d5, d6, e6, e7, e8]
    clear h0 d0 h1 d1 h2 d2 h3 d3 h4 d4 h5 d5 h6 d6 hM hall e6 e7 e8 k6 k7 k8 HF S1
    have u0 := S2.out.lays.2.2.1.m0
    have u1 := S2.out.lays.2.2.1.m1
    have u2 := S2.out.lays.2.2.1.m2
    have u3 := S2.out.lays.2.2.1.m3
    have u4 := S2.out.lays.2.2.1.m4
    have u5 := S2.out.lays.2.2.1.m5
    simp only at u0 u1 u2 u3 u4 u5
    go_wp2_with fail
    refine (HR1.out _).mono ?_
    rintro e w3 ⟨rfl, hb⟩
    have S3 := Lib.hid (S2.out.next hb)
    clear hb
    clear u0 u1 u2 u3 u4 u5
    have u0 := S3.out.lays.2.1.m0
    have u1 := S3.out.lays.2.1.m1
    have u2 := S3.out.lays.2.1.m2
    have u3 := S3.out.lays.2.1.m3
    have u4 := S3.out.lays.2.1.m4
    have u5 := S3.out.lays.2.1.m5
    simp only at u0 u1 u2 u3 u4 u5
    go_wp2_with fail
    refine (HR2.out _).mono ?_
    rintro e w4 ⟨rfl, hb⟩
    have S4 := Lib.hid (S3.out.next hb)
    clear hb
    clear u0 u1 u2 u3 u4 u5
    go_wp2_with fail
    refine (HS.out _).mono ?_
    rintro e w5 ⟨rfl, hb⟩
    have S5 := Lib.hid (S4.out.next hb)
    clear hb
    go_wp2_with fail
    refine (HR3.out _).mono ?_
    rintro e w6 ⟨rfl, hb⟩
    have S6 := Lib.hid (S5.out.next hb)
    clear hb
    have p0 := S6.out.lays.2.2.2.1.p0
    have p1 := S6.out.lays.2.2.2.1.p1
    go_wp2_with fail
    refine (HI.out _).mono ?_
    rintro e w7 ⟨rfl, hb⟩
    have S7 := Lib.hid (S6.out.next hb)
    clear hb
    clear p0 p1 E1 E2 E3
    cases ri
    · go_wp2_with fail
      refine (HAW.out _ S7.out.below).mono ?_
      rintro e w8 ⟨rfl, hb⟩
      have B8 : Hid (Below w.heap.size w w8) := below_next S7.out.below hb
      clear hb
      go_wp2_with fail
      go_ret
      exact ⟨rfl, B8.out⟩
    · obtain ⟨hba, hbb⟩ := HB.out rfl
      have HA1 := Lib.hid (HA0.out rfl)
      have HA2 := Lib.hid (HAQ.out rfl)
      have HA3 := Lib.hid (HAM.out rfl)
      have HRot := Lib.hid (rot_in a b hba hbb)
      have HW1 := Lib.hid (HW.out rfl)
      clear HA0 HAQ HAM HB HW hba hbb
      have u0 := S7.out.lays.2.2.1.m0
      have u1 := S7.out.lays.2.2.1.m1
      have u2 := S7.out.lays.2.2.1.m2
      have u3 := S7.out.lays.2.2.1.m3
      have u4 := S7.out.lays.2.2.1.m4
      have u5 := S7.out.lays.2.2.1.m5
      have p0 := S7.out.lays.2.2.2.1.p0
      have p1 := S7.out.lays.2.2.2.1.p1
      simp only at u0 u1 u2 u3 u4 u5
      go_wp2_with fail
      refine (HA1.out _).mono ?_
      rintro e w8 ⟨rfl, hb⟩
      have S8 := Lib.hid (S7.out.next hb)
      clear hb
      clear u0 u1 u2 u3 u4 u5 p0 p1
      have p0 := S8.out.lays.2.2.2.1.p0
      have p1 := S8.out.lays.2.2.2.1.p1
      have l1 := S8.out.lays.2.2.2.1.lt
      have HL := Lib.hid (fun x hx => S8.out.lays.lt (x := x) hx)
      have hg9 : w.heap.size ≤ w8.heap.size := S8.out.below.size
      go_upto_region 10 with fail
      have S9 : Hid (Mem w (w8.alloc (.cells #[.int .i64 a, .int .i64 b] 25)) ((w8.heap.size, 25, two (a, b)) :: _)) := S8.out.add 25 (two (a, b))
      clear p0 p1 l1
      generalize World.alloc w8 _ = W9 at S9 ⊢
      generalize w8.heap.size = g9 at *
      go_cut [74] (fun c wx => c = .bool (rx && ry) ∧ wx = W9)
      case first =>
        cases rx
        · go_wp2_with fail
          refine (HIx.out _).mono ?_
          rintro e w' ⟨rfl, rfl⟩
          go_wp2_with fail
          go_meet
          exact ⟨rfl, rfl⟩
        · go_wp2_with fail
          refine (HIx.out _).mono ?_
          rintro e w' ⟨rfl, rfl⟩
          go_wp2_with fail
          refine (HIy.out _).mono ?_
          rintro e w' ⟨rfl, rfl⟩
          go_wp2_with fail
          go_meet
          exact ⟨by simp, rfl⟩
      case rest =>
        obtain ⟨rfl, rfl⟩ := hcut
        go_upto_if 74 with fail
        go_cut [11, 12, 13] (fun _ _ _ wx => Hid (Mem w wx [(g9, 25, two (a, b)), (g8, 23, six Q), (g7, 23, six ⟨65536, 0, 0, 65536, x, y⟩), (g6, 23, six q0), (n + 1, 25, two (a, b)), (n, 47, zA a b x y nn)]))
        case first =>
          cases hxy : (rx && ry)
          · go_wp2_with fail
            go_meet
            exact S9
          · have HA4 := Lib.hid (HA3.out hxy)
            obtain ⟨ww1, ww2⟩ := HW1.out hxy
            clear HA3 HW1
            have u0 := S9.out.lays.2.2.1.m0
            have u1 := S9.out.lays.2.2.1.m1
            have u2 := S9.out.lays.2.2.1.m2
            have u3 := S9.out.lays.2.2.1.m3
            have u4 := S9.out.lays.2.2.1.m4
            have u5 := S9.out.lays.2.2.1.m5
            have p0 := S9.out.lays.2.2.2.2.1.p0
            have p1 := S9.out.lays.2.2.2.2.1.p1
            simp only at u0 u1 u2 u3 u4 u5
            cases f1
            · go_wp2_with fail
              refine (HA4.out _).mono ?_
              rintro e w10 ⟨rfl, hb⟩
              have S10 := Lib.hid (S9.out.next hb)
              clear hb
              clear u0 u1 u2 u3 u4 u5 p0 p1
              have p0 := S10.out.lays.2.2.2.2.1.p0
              have p1 := S10.out.lays.2.2.2.2.1.p1
              have l1 := S10.out.lays.2.2.2.2.1.lt
              go_wp2_with fail
              refine (HI1.out _).mono ?_
              rintro e w' ⟨rfl, rfl⟩
              go_wp2_with fail
              go_meet
              exact S10.out.next ((Below.refl _ _).alloc (Nat.le_refl _) _)
            · cases f2
              · go_wp2_with fail
                refine (HA4.out _).mono ?_
                rintro e w10 ⟨rfl, hb⟩
                have S10 := Lib.hid (S9.out.next hb)
                clear hb
                clear u0 u1 u2 u3 u4 u5 p0 p1
                have p0 := S10.out.lays.2.2.2.2.1.p0
                have p1 := S10.out.lays.2.2.2.2.1.p1
                have l1 := S10.out.lays.2.2.2.2.1.lt
                go_wp2_with fail
                refine (HI1.out _).mono ?_
                rintro e w' ⟨rfl, rfl⟩
                go_wp2_with fail
                refine (HI2.out _).mono ?_
                rintro e w' ⟨rfl, rfl⟩
                go_wp2_with fail
                go_meet
                exact S10.out.next ((Below.refl _ _).alloc (Nat.le_refl _) _)
              · go_wp2_with fail
                refine (HA4.out _).mono ?_
                rintro e w10 ⟨rfl, hb⟩
                have S10 := Lib.hid (S9.out.next hb)
                clear hb
                clear u0 u1 u2 u3 u4 u5 p0 p1
                have p0 := S10.out.lays.2.2.2.2.1.p0
                have p1 := S10.out.lays.2.2.2.2.1.p1
                have l1 := S10.out.lays.2.2.2.2.1.lt
                go_wp2_with fail
                refine (HI1.out _).mono ?_
                rintro e w' ⟨rfl, rfl⟩
                go_wp2_with fail
                refine (HI2.out _).mono ?_
                rintro e w' ⟨rfl, rfl⟩
                go_wp2_with fail
                go_meet
                exact S10.out.next ((Below.refl _ _).alloc (Nat.le_refl _) _)
        case rest =>
          have SC := hcut
          clear S9 HA3 HW1 HA1 hcut
          have c4 : wc.cell? ⟨n, 4, none⟩ = some (.int .i64 nn) := SC.out.lays.2.2.2.2.2.1.cell 4
          rcases HK.out with ⟨hneg, hk1⟩ | ⟨hpos, hk1⟩
          · clear HK
            go_wp2_with fail
            try rw [hk1]
            clear c4 hk1 hneg
            go_loopw [121] (fun i wr => ∃ j : Nat, j ≤ K ∧ i = .int .i64 j ∧ Hid (Mem w wr [(g9, 25, two (rot a b j)), (g8, 23, six Q), (g7, 23, six ⟨65536, 0, 0, 65536, x, y⟩), (g6, 23, six q0), (n + 1, 25, two (a, b)), (n, 47, zA a b x y nn)])) (fun i _ => K - (intOf i).toNat)
            case atStart => exact ⟨0, by omega, rfl, SC.out⟩
            case round =>
              obtain ⟨j, hj, rfl, hw⟩ := hrel
              by_cases hlt : j < K
              · have hd : decide ((j : Int) < (K : Int)) = true := by simp; omega
                have hlt' : (j : Int) < (K : Int) := by omega
                obtain ⟨⟨u, v⟩, huv⟩ : ∃ p, rot a b j = p := ⟨_, rfl⟩
                have hr := HRot.out j
                rw [huv] at hr hw
                obtain ⟨hu, hv⟩ := hr
                have Huv := Lib.hid huv
                clear huv
                dsimp only at hu hv
                have ev : wrap64 (-v) = -v := by unfold wrap64; omega
                have c0 := hw.out.lays.1.p0
                have c1 := hw.out.lays.1.p1
                have f0 := hw.out.lays.1.free 0
                have f1 := hw.out.lays.1.free 1
                go_wp2_with fail
                refine ⟨⟨j + 1, by omega, by go_num, ?_⟩, by simp [intOf]; omega⟩
                rw [show rot a b (j + 1) = (-v, u) by show (-(rot a b j).2, (rot a b j).1) = _; rw [Huv.out]]
                exact hw.out.setP (by omega) HL.out _ _
              · have hd : decide ((j : Int) < (K : Int)) = false := by simp; omega
                have hlt' : ¬ (j : Int) < (K : Int) := by omega
                have hjk : j = K := by omega
                have S11 : Hid (Mem w wr [(g9, 25, two (rot a b K)), (g8, 23, six Q), (g7, 23, six ⟨65536, 0, 0, 65536, x, y⟩), (g6, 23, six q0), (n + 1, 25, two (a, b)), (n, 47, zA a b x y nn)]) := hjk ▸ hw.out
                clear hw
                obtain ⟨⟨u, v⟩, huv⟩ : ∃ p, rot a b K = p := ⟨_, rfl⟩
                rw [huv] at S11 HA2
                dsimp only at HA2
                clear huv
                have u0 := S11.out.lays.2.1.m0
                have u1 := S11.out.lays.2.1.m1
                have u2 := S11.out.lays.2.1.m2
                have u3 := S11.out.lays.2.1.m3
                have u4 := S11.out.lays.2.1.m4
                have u5 := S11.out.lays.2.1.m5
                have p0 := S11.out.lays.2.2.2.2.1.p0
                have p1 := S11.out.lays.2.2.2.2.1.p1
                go_wp2_with fail
                refine (HA2.out _).mono ?_
                rintro e w12 ⟨rfl, hb⟩
                have S12 := Lib.hid (S11.out.next hb)
                clear hb
                clear u0 u1 u2 u3 u4 u5 p0 p1
                have r0 := S12.out.lays.1.p0
                have r1 := S12.out.lays.1.p1
                have l1 := S12.out.lays.1.lt
                go_wp2_with fail
                refine (HAW.out _ (S12.out.add 25 (two (u, v))).below).mono ?_
                rintro e w13 ⟨rfl, hb⟩
                have B13 : Hid (Below w.heap.size w w13) := below_next (S12.out.add 25 (two (u, v))).below hb
                clear hb
                go_wp2_with fail
                go_ret
                exact ⟨rfl, B13.out⟩
          · clear HK
            go_wp2_with fail
            try rw [hk1]
            clear c4 hk1 hpos
            go_loopw [121] (fun i wr => ∃ j : Nat, j ≤ K ∧ i = .int .i64 j ∧ Hid (Mem w wr [(g9, 25, two (rot a b j)), (g8, 23, six Q), (g7, 23, six ⟨65536, 0, 0, 65536, x, y⟩), (g6, 23, six q0), (n + 1, 25, two (a, b)), (n, 47, zA a b x y nn)])) (fun i _ => K - (intOf i).toNat)
            case atStart => exact ⟨0, by omega, rfl, SC.out⟩
            case round =>
              obtain ⟨j, hj, rfl, hw⟩ := hrel
              by_cases hlt : j < K
              · have hd : decide ((j : Int) < (K : Int)) = true := by simp; omega
                have hlt' : (j : Int) < (K : Int) := by omega
                obtain ⟨⟨u, v⟩, huv⟩ : ∃ p, rot a b j = p := ⟨_, rfl⟩
                have hr := HRot.out j
                rw [huv] at hr hw
                obtain ⟨hu, hv⟩ := hr
                have Huv := Lib.hid huv
                clear huv
                dsimp only at hu hv
                have ev : wrap64 (-v) = -v := by unfold wrap64; omega
                have c0 := hw.out.lays.1.p0
                have c1 := hw.out.lays.1.p1
                have f0 := hw.out.lays.1.free 0
                have f1 := hw.out.lays.1.free 1
                go_wp2_with fail
                refine ⟨⟨j + 1, by omega, by go_num, ?_⟩, by simp [intOf]; omega⟩
                rw [show rot a b (j + 1) = (-v, u) by show (-(rot a b j).2, (rot a b j).1) = _; rw [Huv.out]]
                exact hw.out.setP (by omega) HL.out _ _
              · have hd : decide ((j : Int) < (K : Int)) = false := by simp; omega
                have hlt' : ¬ (j : Int) < (K : Int) := by omega
                have hjk : j = K := by omega
                have S11 : Hid (Mem w wr [(g9, 25, two (rot a b K)), (g8, 23, six Q), (g7, 23, six ⟨65536, 0, 0, 65536, x, y⟩), (g6, 23, six q0), (n + 1, 25, two (a, b)), (n, 47, zA a b x y nn)]) := hjk ▸ hw.out
                clear hw
                obtain ⟨⟨u, v⟩, huv⟩ : ∃ p, rot a b K = p := ⟨_, rfl⟩
                rw [huv] at S11 HA2
                dsimp only at HA2
                clear huv
                have u0 := S11.out.lays.2.1.m0
                have u1 := S11.out.lays.2.1.m1
                have u2 := S11.out.lays.2.1.m2
                have u3 := S11.out.lays.2.1.m3
                have u4 := S11.out.lays.2.1.m4
                have u5 := S11.out.lays.2.1.m5
                have p0 := S11.out.lays.2.2.2.2.1.p0
                have p1 := S11.out.lays.2.2.2.2.1.p1
                go_wp2_with fail
                refine (HA2.out _).mono ?_
                rintro e w12 ⟨rfl, hb⟩
                have S12 := Lib.hid (S11.out.next hb)
                clear hb
                clear u0 u1 u2 u3 u4 u5 p0 p1
                have r0 := S12.out.lays.1.p0
                have r1 := S12.out.lays.1.p1
                have l1 := S12.out.lays.1.lt
                go_wp2_with fail
                refine (HAW.out _ (S12.out.add 25 (two (u, v))).below).mono ?_
                rintro e w13 ⟨rfl, hb⟩
                have B13 : Hid (Below w.heap.size w w13) := below_next (S12.out.add 25 (two (u, v))).below hb
                clear hb
                go_wp2_with fail
                go_ret
                exact ⟨rfl, B13.out⟩
theorem plain_law (a b x y nn : Int) (w : World) (hr : Rd w) : Calls Tryd.prog 6 #[.agg (zA a b x y nn)] w fun e w' => e = .returned (.bool true) ∧ Below w.heap.size w w' := by
  have rt : ∀ k : Nat, k = (nn % 4).toNat → ∀ a b : Int, apX (quarterI nn) a b = (rot a b k).1 ∧ apY (quarterI nn) a b = (rot a b k).2 := by
    rintro k hk a b
    have hk4 : nn % 4 = 0 ∨ nn % 4 = 1 ∨ nn % 4 = 2 ∨ nn % 4 = 3 := by omega
    rcases hk4 with h | h | h | h
    · rw [show k = 0 by omega, show quarterI nn = q0 by unfold quarterI; rw [if_pos h]]
      simp only [apX, apY, turnX, turnY, near16, rot]; omega
    · rw [show k = 1 by omega, show quarterI nn = q1 by unfold quarterI; rw [if_neg (by omega), if_pos h]]
      simp only [apX, apY, turnX, turnY, near16, rot]; omega
    · rw [show k = 2 by omega, show quarterI nn = q2 by unfold quarterI; rw [if_neg (by omega), if_neg (by omega), if_pos h]]
      simp only [apX, apY, turnX, turnY, near16, rot]; omega
    · rw [show k = 3 by omega, show quarterI nn = q3 by unfold quarterI; rw [if_neg (by omega), if_neg (by omega), if_neg (by omega)]]
      simp only [apX, apY, turnX, turnY, near16, rot]; omega
  have rq : rightI (quarterI nn) = true := by
    unfold quarterI
    split
    · decide
    · split
      · decide
      · split <;> decide
  refine plain_walk a b x y nn (quarterI nn) (nn % 4).toNat w (room a && room b) (room x) (room y) (room (a + x)) (room (b + y)) (Lib.hid fun w' hb => one_c w' (hr.on hb)) (Lib.hid fun w' hb => move_c x y w' (hr.on hb)) (Lib.hid fun w' hb => quarter_c nn w' (hr.on hb)) (Lib.hid (scale_c x y)) (Lib.hid (ref_c q0)) (Lib.hid (ref_c ⟨65536, 0, 0, 65536, x, y⟩)) (Lib.hid (ref_c ⟨x, 0, 0, y, 0, 0⟩)) (Lib.hid (in4_c a b)) (Lib.hid (refIn_c x)) (Lib.hid (refIn_c y)) (Lib.hid (refIn_c _)) (Lib.hid (refIn_c _)) (Lib.hid fun h k => ?_) (Lib.hid fun h => ?_) (Lib.hid fun h => ?_) (Lib.hid fun h k => ?_) (Lib.hid fun h => ?_) (Lib.hid ?_) (by omega) (Lib.hid fun w' hb => awake4_c w' (hr.on hb))
  · rw [Bool.and_eq_true, room_iff, room_iff] at h k
    exact ⟨by unfold wrap64; omega, by unfold wrap64; omega⟩
  · rw [Bool.and_eq_true, room_iff, room_iff] at h
    exact h
  · intro w
    have e1 : apX q0 a b = a := by simp only [apX, turnX, near16]; omega
    have e2 : apY q0 a b = b := by simp only [apY, turnY, near16]; omega
    have e3 : apOk q0 a b = true := by unfold apOk; rw [e1, e2, h]; decide
    have := apply_c q0 a b w
    rw [e1, e2, e3] at this
    exact this
  · intro w
    have e1 : apX ⟨65536, 0, 0, 65536, x, y⟩ a b = a + x := by simp only [apX, turnX, near16]; omega
    have e2 : apY ⟨65536, 0, 0, 65536, x, y⟩ a b = b + y := by simp only [apY, turnY, near16]; omega
    have e3 : apOk ⟨65536, 0, 0, 65536, x, y⟩ a b = (room (a + x) && room (b + y)) := by
      unfold apOk
      rw [e1, e2, h]
      rw [Bool.and_eq_true] at k
      simp only [rightI, k.1, k.2]
      rfl
    have := apply_c ⟨65536, 0, 0, 65536, x, y⟩ a b w
    rw [e1, e2, e3] at this
    exact this
  · intro w
    obtain ⟨e1, e2⟩ := rt _ rfl a b
    have hrot := h
    rw [Bool.and_eq_true, room_iff, room_iff] at hrot
    have hin := rot_in a b hrot.1 hrot.2 (nn % 4).toNat
    have e3 : apOk (quarterI nn) a b = true := by
      unfold apOk
      rw [rq, h, e1, e2, room_iff.2 hin.1, room_iff.2 hin.2]
      rfl
    have := apply_c (quarterI nn) a b w
    rw [e1, e2, e3] at this
    exact this
  · rcases tdiv_cases nn 4 (by decide) with ⟨_, h⟩ | ⟨_, h, h1, _⟩
    · exact .inr ⟨by omega, by omega⟩
    · exact .inl ⟨by omega, by unfold wrap64; omega⟩
end Go.Proofs.YticoklfgmflidaaDoor
