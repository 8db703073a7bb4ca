/- Layer 15: package pathtext: a number of a segment. -/
import Derived.Test.YtbnbglngpgikfaaGreatDoorQj
namespace Go.Proofs.YtbnbglngpgikfaaGreatDoor
open Go.RowKit Go.Shelf
attribute [local go_sem] Oper.semAt_some
theorem add_c15 (a b : Int) (w : World) (ha : room a = true) (hb : room b = true) : Calls Tryz.prog 74 #[.int .i64 a, .int .i64 b] w fun e w' => e = twoE (if room (a + b) = true then a + b else 0) (if room (a + b) = true then 0 else 10) ∧ w' = w := by
  refine (add_in a b w (by rw [in_room]; exact ha) (by rw [in_room]; exact hb)).mono ?_
  rintro e w' ⟨rfl, rfl⟩
  refine ⟨?_, rfl⟩
  unfold resN resE
  simp only [in_room]
/-- Behind a step that is refused. -/
def StopQ (g : Nat) (v : Value) (w w' : World) : Prop := Keep (fun j => j ≠ g ∧ v.ownBlock ≠ some j) w w'
def PutQ (N g : Nat) (v : Value) (w : World) (r : Except Int Rs) (e : Ending) (w' : World) : Prop :=
  match r with
  | .ok st' => e = .returned (.int .i64 0) ∧ StepQ N g st' v w w'
  | .error x => e = .returned (.int .i64 x) ∧ StopQ g v w w'
theorem setAt_cells {st : Rs} {v : Value} {w : World} {g : Nat} (h : Blk w g 59 (cellsR st v)) {j : Nat} (hj : j ≤ 5) (x : Int) : Blk (w.setCell ⟨g, 2 + j, none⟩ (.int .i64 x)) g 59 (cellsR { st with s := setAt st.s j x } v) := by
  have h2 := h.set (2 + j) (.int .i64 x)
  rcases (by omega : j = 0 ∨ j = 1 ∨ j = 2 ∨ j = 3 ∨ j = 4 ∨ j = 5) with rfl | rfl | rfl | rfl | rfl | rfl <;> simpa [cellsR, setAt] using h2
theorem coord_cell {st : Rs} {v : Value} {w : World} {g : Nat} (h : Blk w g 59 (cellsR st v)) {j : Nat} (hj : j ≤ 5) : ∃ y, w.cell? ⟨g, 2 + j, none⟩ = some (.int .i64 y) := by
  rw [h.cell]
  rcases (by omega : j = 0 ∨ j = 1 ∨ j = 2 ∨ j = 3 ∨ j = 4 ∨ j = 5) with rfl | rfl | rfl | rfl | rfl | rfl <;> exact ⟨_, rfl⟩
theorem put_end {N g : Nat} {st : Rs} {v : Value} {n : Int} {w A : World} {jj : Nat} (hat : atR st = jj) (hj : jj ≤ 5) (hR : RdAt N g { st with due := st.due - 1 } v A) (hk : Keep (fun j => j ≠ g ∧ v.ownBlock ≠ some j) w A) {x y : Int} (hxy : (room (fromR st + n) = true ∧ x = fromR st + n ∧ y = 0) ∨ (room (fromR st + n) = false ∧ y = 10)) :
    PutQ N g v w (putR st n) (.returned (.int .i64 y)) (A.setCell ⟨g, 2 + jj, none⟩ (.int .i64 x)) := by
  have ks : Keep (fun j => j ≠ g) A (A.setCell ⟨g, 2 + jj, none⟩ (.int .i64 x)) := Keep.setCell _ _ _ (by simp)
  unfold putR
  rcases hxy with ⟨h, rfl, rfl⟩ | ⟨h, rfl⟩
  · rw [if_pos h, hat]
    refine ⟨rfl, v, hR.turn ks (setAt_cells hR.blk hj _) rfl, hk.trans (ks.mono fun j hj => hj.1), Moved.refl _ _⟩
  · rw [if_neg (by rw [h]; decide)]
    exact ⟨rfl, hk.trans (ks.mono fun j hj => hj.1)⟩
theorem add_xy (a b : Int) (w : World) (ha : room a = true) (hb : room b = true) : ∃ x y, ((room (a + b) = true ∧ x = a + b ∧ y = 0) ∨ (room (a + b) = false ∧ y = 10)) ∧ Calls Tryz.prog 74 #[.int .i64 a, .int .i64 b] w fun e w' => e = .returned (.tuple #[.int .i64 x, .int .i64 y]) ∧ w' = w := by
  refine ⟨_, _, ?_, add_c15 a b w ha hb⟩
  cases h : room (a + b) with
  | true => exact .inl ⟨rfl, by simp, by simp⟩
  | false => exact .inr ⟨rfl, by simp⟩
set_option maxHeartbeats 4000000 in
set_option maxRecDepth 100000 in
theorem put_big (N g : Nat) (st : Rs) (v : Value) (n : Int) (w : World) (hr : Ev N w) (h : RdAt N g st v w) (hd : 0 < st.due) (hdu : st.due ≤ 2 * needI st.s.k) (hn : room n = true) (he : roomP st.e = true) (hs : st.small = false) :
    Calls Tryz.prog 64 #[ptrR g, .int .i64 n] w (PutQ N g v w (putR st n)) := by
  obtain ⟨dd, hdd⟩ : ∃ d, st.due = d := ⟨_, rfl⟩
  obtain ⟨nn, hnn⟩ : ∃ x, needI st.s.k = x := ⟨_, rfl⟩
  have hn3 := needI_le st.s.k
  obtain ⟨jj, hjj⟩ : ∃ j, atR st = j := ⟨_, rfl⟩
  have hj : jj = 2 * nn - dd := by rw [← hjj, atR, hdd, hnn]
  rw [hdd] at hd
  rw [hdd, hnn] at hdu
  rw [hnn] at hn3
  have H := Lib.hid h
  have HR := Lib.hid hr
  have HDD := Lib.hid hdd
  have HNN := Lib.hid hnn
  have HAT := Lib.hid hjj
  have HEE := Lib.hid (And.intro hn he)
  have HSM := Lib.hid hs
  have HE1 : Hid (IntKind.i64.wrap (2 * (nn : Int)) = 2 * (nn : Int)) := (wrap_is _).trans (wrapR _ (by omega) (by omega))
  have HE2 : Hid (IntKind.i64.wrap (2 * (nn : Int) - (dd : Int)) = (jj : Int)) := (wrap_is _).trans ((wrapR _ (by omega) (by omega)).trans (by omega))
  have HJ : Hid (jj ≤ 5 ∧ dd ≤ 6 ∧ 1 ≤ dd) := ⟨by omega, by omega, by omega⟩
  have l0 := h.blk.lt
  have cs := h.cs
  have ce1 := h.ce1
  have ce2 := h.ce2
  rw [hs] at cs
  clear h hr hdd hnn hjj hn he hs hd hdu hn3 hj
  go_enter Tryz.func64, Tryz.ntmps64
  go_upto_region 4 with fail
  obtain ⟨w1, hw1⟩ : ∃ W, w.alloc (.cells #[.int .i64 0, .int .i64 0] 50) = W := ⟨_, rfl⟩
  rw [hw1]
  have H1 : Hid (RdAt N g st v w1 ∧ Blk w1 w.heap.size 50 #[.int .i64 (fP false st.e).1, .int .i64 (fP false st.e).2] ∧ Below w.heap.size w w1 ∧ w.heap.size < w1.heap.size) := by
    rw [← hw1]
    exact ⟨H.out.grow ((Below.refl _ _).alloc (Nat.le_refl _) _), Blk.new _ _ _, (Below.refl _ _).alloc (Nat.le_refl _) _, by simp⟩
  clear hw1 l0 cs ce1 ce2
  obtain ⟨D, hD⟩ : ∃ D, w1.drew = D := ⟨_, rfl⟩
  have H2 : Hid (RdAt N g st v D ∧ Blk D w.heap.size 50 #[.int .i64 (fP false st.e).1, .int .i64 (fP false st.e).2] ∧ Below w.heap.size w D ∧ w.heap.size < D.heap.size) := by
    rw [← hD]
    exact ⟨H1.out.1.grow (below_drewN (Below.refl _ _) 1), H1.out.2.1, below_drewN H1.out.2.2.1 1, H1.out.2.2.2⟩
  have HKD : Hid (w1.drew = D) := hD
  have HBD : Hid (D.cell? ⟨g, 1, none⟩ = some (.int .i64 st.s.k) ∧ D.cell? ⟨g, 8, none⟩ = some (.int .i64 (dd : Int))) := ⟨H2.out.1.ck, by rw [← HDD.out]; exact H2.out.1.cd⟩
  have HND : Hid (Calls Tryz.prog 22 #[.int .i64 st.s.k] D fun e w' => e = .returned (.int .i64 (nn : Int)) ∧ D = w') := by
    rw [← HNN.out]
    exact need_c _ D (HR.out D (H2.out.2.2.1.mono H.out.hb)).1
  clear hD
  refine wp_region_put (by kernel_rfl) (by kernel_rfl) (by kernel_rfl) (fun b' vs w' => (b' 0 = true → vs 0 = ptrR g) ∧ (b' 1 = true → vs 1 = .pointer (some ⟨g, 0, none⟩)) ∧ (b' 2 = true → vs 2 = .pointer (some ⟨g, 1, none⟩)) ∧ (b' 3 = true → vs 3 = .pointer (some ⟨g, 1, none⟩)) ∧ (b' 4 = true → vs 4 = .int .i64 st.s.k) ∧ (b' 5 = true → vs 5 = .int .i64 (nn : Int)) ∧ (b' 6 = true → vs 6 = .int .i64 (2 * (nn : Int))) ∧ (b' 7 = true → vs 7 = ptrR g) ∧ (b' 8 = true → vs 8 = .pointer (some ⟨g, 0, none⟩)) ∧ (b' 9 = true → vs 9 = .pointer (some ⟨g, 8, none⟩)) ∧ (b' 10 = true → vs 10 = .int .i64 (dd : Int)) ∧ (b' 11 = true → vs 11 = .int .i64 (jj : Int)) ∧ (b' 12 = true → vs 12 = .int .i64 (jj : Int)) ∧ Hid (w' = D)) ?_ ?_ ?_
  · intro vs
    exact ⟨fun h => Bool.noConfusion h, fun h => Bool.noConfusion h, fun h => Bool.noConfusion h, fun h => Bool.noConfusion h, fun h => Bool.noConfusion h, fun h => Bool.noConfusion h, fun h => Bool.noConfusion h, fun h => Bool.noConfusion h, fun h => Bool.noConfusion h, fun h => Bool.noConfusion h, fun h => Bool.noConfusion h, fun h => Bool.noConfusion h, fun h => Bool.noConfusion h, HKD⟩
  · rintro b' vs w' i op hi hun hall ⟨h0, h1, h2, h3, h4, h5, h6, h7, h8, h9, h10, h11, h12, hW⟩
    have hil : i < 13 := (List.getElem?_eq_some_iff.1 hi).1
    rcases i with _ | _ | _ | _ | _ | _ | _ | _ | _ | _ | _ | _ | _ | i
    · obtain rfl := Option.some.inj hi
      clear hi hil
      have hWW := hW.out
      subst hWW
      refine wpOp_step rfl (fun K hK => ?_)
      have HKK := Lib.hid hK; clear hK
      simp only [putAll, Act.put, List.setIfInBounds_toArray, List.set_cons_zero, List.set_cons_succ]
      go_simp
      exact HKK.out _ _ ⟨_, by simp only [putAll, Act.put, List.setIfInBounds_toArray, List.set_cons_zero, List.set_cons_succ] <;> rfl, fun _ => rfl, h1, h2, h3, h4, h5, h6, h7, h8, h9, h10, h11, h12, Lib.hid rfl⟩
    · obtain rfl := Option.some.inj hi
      clear hi hil
      have hWW := hW.out
      subst hWW
      have d0 := h0 (hall ⟨0, .data⟩ (by simp) rfl)
      refine wpOp_step rfl (fun K hK => ?_)
      have HKK := Lib.hid hK; clear hK
      simp only [putAll, Act.put, List.setIfInBounds_toArray, List.set_cons_zero, List.set_cons_succ]
      go_simp
      exact HKK.out _ _ ⟨_, by simp only [putAll, Act.put, List.setIfInBounds_toArray, List.set_cons_zero, List.set_cons_succ, d0] <;> rfl, h0, fun _ => rfl, h2, h3, h4, h5, h6, h7, h8, h9, h10, h11, h12, Lib.hid rfl⟩
    · obtain rfl := Option.some.inj hi
      clear hi hil
      have hWW := hW.out
      subst hWW
      have d1 := h1 (hall ⟨1, .data⟩ (by simp) rfl)
      refine wpOp_step rfl (fun K hK => ?_)
      have HKK := Lib.hid hK; clear hK
      simp only [putAll, Act.put, List.setIfInBounds_toArray, List.set_cons_zero, List.set_cons_succ]
      go_simp
      exact HKK.out _ _ ⟨_, by simp only [putAll, Act.put, List.setIfInBounds_toArray, List.set_cons_zero, List.set_cons_succ, d1] <;> rfl, h0, h1, fun _ => rfl, h3, h4, h5, h6, h7, h8, h9, h10, h11, h12, Lib.hid rfl⟩
    · obtain rfl := Option.some.inj hi
      clear hi hil
      have hWW := hW.out
      subst hWW
      have d2 := h2 (hall ⟨2, .data⟩ (by simp) rfl)
      refine wpOp_step rfl (fun K hK => ?_)
      have HKK := Lib.hid hK; clear hK
      simp only [putAll, Act.put, List.setIfInBounds_toArray, List.set_cons_zero, List.set_cons_succ]
      go_simp
      exact HKK.out _ _ ⟨_, by simp only [putAll, Act.put, List.setIfInBounds_toArray, List.set_cons_zero, List.set_cons_succ, d2] <;> rfl, h0, h1, h2, fun _ => rfl, h4, h5, h6, h7, h8, h9, h10, h11, h12, Lib.hid rfl⟩
    · obtain rfl := Option.some.inj hi
      clear hi hil
      have hWW := hW.out
      subst hWW
      have d3 := h3 (hall ⟨3, .data⟩ (by simp) rfl)
      have k1 := HBD.out.1
      refine wpOp_step rfl (fun K hK => ?_)
      have HKK := Lib.hid hK; clear hK
      simp only [putAll, Act.put, List.setIfInBounds_toArray, List.set_cons_zero, List.set_cons_succ]
      go_simp
      exact HKK.out _ _ ⟨_, by simp only [putAll, Act.put, List.setIfInBounds_toArray, List.set_cons_zero, List.set_cons_succ, d3] <;> rfl, h0, h1, h2, h3, fun _ => rfl, h5, h6, h7, h8, h9, h10, h11, h12, Lib.hid rfl⟩
    · obtain rfl := Option.some.inj hi
      clear hi hil
      have hWW := hW.out
      subst hWW
      have d4 := h4 (hall ⟨4, .data⟩ (by simp) rfl)
      refine wpOp_step rfl (fun K hK => ?_)
      have HKK := Lib.hid hK; clear hK
      simp only [putAll, Act.put, List.setIfInBounds_toArray, List.set_cons_zero, List.set_cons_succ]
      go_simp
      refine (HND.out).mono ?_
      rintro e w9 ⟨rfl, rfl⟩
      exact HKK.out _ _ ⟨_, by simp only [putAll, Act.put, List.setIfInBounds_toArray, List.set_cons_zero, List.set_cons_succ, d4] <;> rfl, h0, h1, h2, h3, h4, fun _ => rfl, h6, h7, h8, h9, h10, h11, h12, Lib.hid rfl⟩
    · obtain rfl := Option.some.inj hi
      clear hi hil
      have hWW := hW.out
      subst hWW
      have d5 := h5 (hall ⟨5, .data⟩ (by simp) rfl)
      refine wpOp_step rfl (fun K hK => ?_)
      have HKK := Lib.hid hK; clear hK
      simp only [putAll, Act.put, List.setIfInBounds_toArray, List.set_cons_zero, List.set_cons_succ]
      go_simp
      exact HKK.out _ _ ⟨_, by simp only [putAll, Act.put, List.setIfInBounds_toArray, List.set_cons_zero, List.set_cons_succ, d5, HE1.out] <;> rfl, h0, h1, h2, h3, h4, h5, fun _ => rfl, h7, h8, h9, h10, h11, h12, Lib.hid rfl⟩
    · obtain rfl := Option.some.inj hi
      clear hi hil
      have hWW := hW.out
      subst hWW
      refine wpOp_step rfl (fun K hK => ?_)
      have HKK := Lib.hid hK; clear hK
      simp only [putAll, Act.put, List.setIfInBounds_toArray, List.set_cons_zero, List.set_cons_succ]
      go_simp
      exact HKK.out _ _ ⟨_, by simp only [putAll, Act.put, List.setIfInBounds_toArray, List.set_cons_zero, List.set_cons_succ] <;> rfl, h0, h1, h2, h3, h4, h5, h6, fun _ => rfl, h8, h9, h10, h11, h12, Lib.hid rfl⟩
    · obtain rfl := Option.some.inj hi
      clear hi hil
      have hWW := hW.out
      subst hWW
      have d7 := h7 (hall ⟨7, .data⟩ (by simp) rfl)
      refine wpOp_step rfl (fun K hK => ?_)
      have HKK := Lib.hid hK; clear hK
      simp only [putAll, Act.put, List.setIfInBounds_toArray, List.set_cons_zero, List.set_cons_succ]
      go_simp
      exact HKK.out _ _ ⟨_, by simp only [putAll, Act.put, List.setIfInBounds_toArray, List.set_cons_zero, List.set_cons_succ, d7] <;> rfl, h0, h1, h2, h3, h4, h5, h6, h7, fun _ => rfl, h9, h10, h11, h12, Lib.hid rfl⟩
    · obtain rfl := Option.some.inj hi
      clear hi hil
      have hWW := hW.out
      subst hWW
      have d8 := h8 (hall ⟨8, .data⟩ (by simp) rfl)
      refine wpOp_step rfl (fun K hK => ?_)
      have HKK := Lib.hid hK; clear hK
      simp only [putAll, Act.put, List.setIfInBounds_toArray, List.set_cons_zero, List.set_cons_succ]
      go_simp
      exact HKK.out _ _ ⟨_, by simp only [putAll, Act.put, List.setIfInBounds_toArray, List.set_cons_zero, List.set_cons_succ, d8] <;> rfl, h0, h1, h2, h3, h4, h5, h6, h7, h8, fun _ => rfl, h10, h11, h12, Lib.hid rfl⟩
    · obtain rfl := Option.some.inj hi
      clear hi hil
      have hWW := hW.out
      subst hWW
      have d9 := h9 (hall ⟨9, .data⟩ (by simp) rfl)
      have k8 := HBD.out.2
      refine wpOp_step rfl (fun K hK => ?_)
      have HKK := Lib.hid hK; clear hK
      simp only [putAll, Act.put, List.setIfInBounds_toArray, List.set_cons_zero, List.set_cons_succ]
      go_simp
      exact HKK.out _ _ ⟨_, by simp only [putAll, Act.put, List.setIfInBounds_toArray, List.set_cons_zero, List.set_cons_succ, d9] <;> rfl, h0, h1, h2, h3, h4, h5, h6, h7, h8, h9, fun _ => rfl, h11, h12, Lib.hid rfl⟩
    · obtain rfl := Option.some.inj hi
      clear hi hil
      have hWW := hW.out
      subst hWW
      have d6 := h6 (hall ⟨6, .data⟩ (by simp) rfl)
      have d10 := h10 (hall ⟨10, .data⟩ (by simp) rfl)
      refine wpOp_step rfl (fun K hK => ?_)
      have HKK := Lib.hid hK; clear hK
      simp only [putAll, Act.put, List.setIfInBounds_toArray, List.set_cons_zero, List.set_cons_succ]
      go_simp
      exact HKK.out _ _ ⟨_, by simp only [putAll, Act.put, List.setIfInBounds_toArray, List.set_cons_zero, List.set_cons_succ, d6, d10, HE2.out] <;> rfl, h0, h1, h2, h3, h4, h5, h6, h7, h8, h9, h10, fun _ => rfl, h12, Lib.hid rfl⟩
    · obtain rfl := Option.some.inj hi
      clear hi hil
      have hWW := hW.out
      subst hWW
      have d11 := h11 (hall ⟨11, .data⟩ (by simp) rfl)
      refine wpOp_step rfl (fun K hK => ?_)
      have HKK := Lib.hid hK; clear hK
      simp only [putAll, Act.put, List.setIfInBounds_toArray, List.set_cons_zero, List.set_cons_succ]
      go_simp
      exact HKK.out _ _ ⟨_, by simp only [putAll, Act.put, List.setIfInBounds_toArray, List.set_cons_zero, List.set_cons_succ, d11] <;> rfl, h0, h1, h2, h3, h4, h5, h6, h7, h8, h9, h10, h11, fun _ => rfl, Lib.hid rfl⟩
    · omega
  · rintro b' vs w2 hall ⟨h0, h1, h2, h3, h4, h5, h6, h7, h8, h9, h10, h11, h12, hW⟩
    have d0 := h0 (hall 0 (by simp))
    have d1 := h1 (hall 1 (by simp))
    have d2 := h2 (hall 2 (by simp))
    have d3 := h3 (hall 3 (by simp))
    have d4 := h4 (hall 4 (by simp))
    have d5 := h5 (hall 5 (by simp))
    have d6 := h6 (hall 6 (by simp))
    have d7 := h7 (hall 7 (by simp))
    have d8 := h8 (hall 8 (by simp))
    have d9 := h9 (hall 9 (by simp))
    have d10 := h10 (hall 10 (by simp))
    have d11 := h11 (hall 11 (by simp))
    have d12 := h12 (hall 12 (by simp))
    have PP := hW.out
    simp only [putAll, Act.put, List.setIfInBounds_toArray, List.set_cons_zero, List.set_cons_succ, d0, d1, d2, d3, d4, d5, d6, d7, d8, d9, d10, d11, d12]
    clear hall h0 d0 h1 d1 h2 d2 h3 d3 h4 d4 h5 d5 h6 d6 h7 d7 h8 d8 h9 d9 h10 d10 h11 d11 h12 d12 hW
    subst PP
    have c8 := HBD.out.2
    have f8 := H2.out.1.blk.free 8
    have l8 := H2.out.1.blk.lt
    have hd0 : (0 : Int) ≤ (dd : Int) - 1 := by have := HJ.out; omega
    have hd6 : (dd : Int) ≤ 6 := by have := HJ.out; omega
    go_upto_region 6 with fail
    obtain ⟨w3, hw3⟩ : ∃ W, w2.setCell ⟨g, 8, none⟩ (.int .i64 ((dd : Int) - 1)) = W := ⟨_, rfl⟩
    rw [hw3]
    have H3 : Hid (RdAt N g { st with due := st.due - 1 } v w3 ∧ Blk w3 w.heap.size 50 #[.int .i64 (fP false st.e).1, .int .i64 (fP false st.e).2] ∧ Keep (fun j => j ≠ g ∧ v.ownBlock ≠ some j) w w3) := by
      have ks : Keep (fun j => j ≠ g) w2 w3 := by rw [← hw3]; exact Keep.setCell _ _ _ (by simp)
      have e1 : ((dd : Int) - 1) = ((dd - 1 : Nat) : Int) := by have := HJ.out; omega
      have hb8 : Blk w3 g 59 (cellsR { st with due := st.due - 1 } v) := by
        rw [← hw3, e1, HDD.out]
        have := H2.out.1.blk.set 8 (.int .i64 ((dd - 1 : Nat) : Int))
        simpa [cellsR] using this
      refine ⟨H2.out.1.turn ks hb8 rfl, ks.blk H2.out.2.1 ?_, (Keep.of_below H2.out.2.2.1).trans (ks.mono fun j hj => hj.1)⟩
      have := H.out.blk.lt
      omega
    clear hw3 c8 f8 l8 hd0 hd6
    have HFR : Hid (fromR st = if jj % 2 = 0 then (fP false st.e).1 else (fP false st.e).2) := by
      unfold Hid
      rw [← HSM.out]
      split
      · exact fromR_even (by rw [HAT.out]; assumption)
      · exact fromR_odd (by rw [HAT.out]; omega)
    have HRF : Hid (room (fP false st.e).1 = true ∧ room (fP false st.e).2 = true) := by
      have := HEE.out.2
      unfold roomP at this
      rw [Bool.and_eq_true] at this
      unfold Hid fP
      split
      · exact this
      · exact ⟨by decide, by decide⟩
    have cp1 : w3.cell? ⟨w.heap.size, 0, none⟩ = some (.int .i64 (fP false st.e).1) := H3.out.2.1.cell 0
    have cp2 : w3.cell? ⟨w.heap.size, 1, none⟩ = some (.int .i64 (fP false st.e).2) := H3.out.2.1.cell 1
    have lg := H3.out.1.blk.lt
    rcases (by have := HJ.out; omega : jj = 0 ∨ jj = 1 ∨ jj = 2 ∨ jj = 3 ∨ jj = 4 ∨ jj = 5) with rfl | rfl | rfl | rfl | rfl | rfl
    · obtain ⟨y0, cy⟩ := coord_cell H3.out.1.blk (j := 0) (by omega)
      have fy := H3.out.1.blk.free (2 + 0)
      obtain ⟨x, y, hxy, hadd⟩ := add_xy (fP false st.e).1 n w3 HRF.out.1 HEE.out.1
      have HADD := Lib.hid hadd
      have HXY : Hid ((room (fromR st + n) = true ∧ x = fromR st + n ∧ y = 0) ∨ (room (fromR st + n) = false ∧ y = 10)) := by
        unfold Hid
        rw [HFR.out]
        exact hxy
      clear hadd hxy
      simp only [Nat.reduceAdd] at cy fy
      go_wp2_with fail
      refine HADD.out.mono ?_
      rintro e w9 ⟨rfl, rfl⟩
      go_wp2_with fail
      go_ret
      exact put_end HAT.out (by omega) H3.out.1 H3.out.2.2 HXY.out
    · obtain ⟨y0, cy⟩ := coord_cell H3.out.1.blk (j := 1) (by omega)
      have fy := H3.out.1.blk.free (2 + 1)
      obtain ⟨x, y, hxy, hadd⟩ := add_xy (fP false st.e).2 n w3 HRF.out.2 HEE.out.1
      have HADD := Lib.hid hadd
      have HXY : Hid ((room (fromR st + n) = true ∧ x = fromR st + n ∧ y = 0) ∨ (room (fromR st + n) = false ∧ y = 10)) := by
        unfold Hid
        rw [HFR.out]
        exact hxy
      clear hadd hxy
      simp only [Nat.reduceAdd] at cy fy
      go_wp2_with fail
      refine HADD.out.mono ?_
      rintro e w9 ⟨rfl, rfl⟩
      go_wp2_with fail
      go_ret
      exact put_end HAT.out (by omega) H3.out.1 H3.out.2.2 HXY.out
    · obtain ⟨y0, cy⟩ := coord_cell H3.out.1.blk (j := 2) (by omega)
      have fy := H3.out.1.blk.free (2 + 2)
      obtain ⟨x, y, hxy, hadd⟩ := add_xy (fP false st.e).1 n w3 HRF.out.1 HEE.out.1
      have HADD := Lib.hid hadd
      have HXY : Hid ((room (fromR st + n) = true ∧ x = fromR st + n ∧ y = 0) ∨ (room (fromR st + n) = false ∧ y = 10)) := by
        unfold Hid
        rw [HFR.out]
        exact hxy
      clear hadd hxy
      simp only [Nat.reduceAdd] at cy fy
      go_wp2_with fail
      refine HADD.out.mono ?_
      rintro e w9 ⟨rfl, rfl⟩
      go_wp2_with fail
      go_ret
      exact put_end HAT.out (by omega) H3.out.1 H3.out.2.2 HXY.out
    · obtain ⟨y0, cy⟩ := coord_cell H3.out.1.blk (j := 3) (by omega)
      have fy := H3.out.1.blk.free (2 + 3)
      obtain ⟨x, y, hxy, hadd⟩ := add_xy (fP false st.e).2 n w3 HRF.out.2 HEE.out.1
      have HADD := Lib.hid hadd
      have HXY : Hid ((room (fromR st + n) = true ∧ x = fromR st + n ∧ y = 0) ∨ (room (fromR st + n) = false ∧ y = 10)) := by
        unfold Hid
        rw [HFR.out]
        exact hxy
      clear hadd hxy
      simp only [Nat.reduceAdd] at cy fy
      go_wp2_with fail
      refine HADD.out.mono ?_
      rintro e w9 ⟨rfl, rfl⟩
      go_wp2_with fail
      go_ret
      exact put_end HAT.out (by omega) H3.out.1 H3.out.2.2 HXY.out
    · obtain ⟨y0, cy⟩ := coord_cell H3.out.1.blk (j := 4) (by omega)
      have fy := H3.out.1.blk.free (2 + 4)
      obtain ⟨x, y, hxy, hadd⟩ := add_xy (fP false st.e).1 n w3 HRF.out.1 HEE.out.1
      have HADD := Lib.hid hadd
      have HXY : Hid ((room (fromR st + n) = true ∧ x = fromR st + n ∧ y = 0) ∨ (room (fromR st + n) = false ∧ y = 10)) := by
        unfold Hid
        rw [HFR.out]
        exact hxy
      clear hadd hxy
      simp only [Nat.reduceAdd] at cy fy
      go_wp2_with fail
      refine HADD.out.mono ?_
      rintro e w9 ⟨rfl, rfl⟩
      go_wp2_with fail
      go_ret
      exact put_end HAT.out (by omega) H3.out.1 H3.out.2.2 HXY.out
    · obtain ⟨y0, cy⟩ := coord_cell H3.out.1.blk (j := 5) (by omega)
      have fy := H3.out.1.blk.free (2 + 5)
      obtain ⟨x, y, hxy, hadd⟩ := add_xy (fP false st.e).2 n w3 HRF.out.2 HEE.out.1
      have HADD := Lib.hid hadd
      have HXY : Hid ((room (fromR st + n) = true ∧ x = fromR st + n ∧ y = 0) ∨ (room (fromR st + n) = false ∧ y = 10)) := by
        unfold Hid
        rw [HFR.out]
        exact hxy
      clear hadd hxy
      simp only [Nat.reduceAdd] at cy fy
      go_wp2_with fail
      refine HADD.out.mono ?_
      rintro e w9 ⟨rfl, rfl⟩
      go_wp2_with fail
      go_ret
      exact put_end HAT.out (by omega) H3.out.1 H3.out.2.2 HXY.out
set_option maxHeartbeats 4000000 in
set_option maxRecDepth 100000 in
theorem put_small (N g : Nat) (st : Rs) (v : Value) (n : Int) (w : World) (hr : Ev N w) (h : RdAt N g st v w) (hd : 0 < st.due) (hdu : st.due ≤ 2 * needI st.s.k) (hn : room n = true) (he : roomP st.e = true) (hs : st.small = true) :
    Calls Tryz.prog 64 #[ptrR g, .int .i64 n] w (PutQ N g v w (putR st n)) := by
  obtain ⟨dd, hdd⟩ : ∃ d, st.due = d := ⟨_, rfl⟩
  obtain ⟨nn, hnn⟩ : ∃ x, needI st.s.k = x := ⟨_, rfl⟩
  have hn3 := needI_le st.s.k
  obtain ⟨jj, hjj⟩ : ∃ j, atR st = j := ⟨_, rfl⟩
  have hj : jj = 2 * nn - dd := by rw [← hjj, atR, hdd, hnn]
  rw [hdd] at hd
  rw [hdd, hnn] at hdu
  rw [hnn] at hn3
  have H := Lib.hid h
  have HR := Lib.hid hr
  have HDD := Lib.hid hdd
  have HNN := Lib.hid hnn
  have HAT := Lib.hid hjj
  have HEE := Lib.hid (And.intro hn he)
  have HSM := Lib.hid hs
  have HE1 : Hid (IntKind.i64.wrap (2 * (nn : Int)) = 2 * (nn : Int)) := (wrap_is _).trans (wrapR _ (by omega) (by omega))
  have HE2 : Hid (IntKind.i64.wrap (2 * (nn : Int) - (dd : Int)) = (jj : Int)) := (wrap_is _).trans ((wrapR _ (by omega) (by omega)).trans (by omega))
  have HJ : Hid (jj ≤ 5 ∧ dd ≤ 6 ∧ 1 ≤ dd) := ⟨by omega, by omega, by omega⟩
  have l0 := h.blk.lt
  have cs := h.cs
  have ce1 := h.ce1
  have ce2 := h.ce2
  rw [hs] at cs
  clear h hr hdd hnn hjj hn he hs hd hdu hn3 hj
  go_enter Tryz.func64, Tryz.ntmps64
  go_upto_region 4 with fail
  obtain ⟨w1, hw1⟩ : ∃ W, w.alloc (.cells #[.int .i64 st.e.1, .int .i64 st.e.2] 50) = W := ⟨_, rfl⟩
  rw [hw1]
  have H1 : Hid (RdAt N g st v w1 ∧ Blk w1 w.heap.size 50 #[.int .i64 (fP true st.e).1, .int .i64 (fP true st.e).2] ∧ Below w.heap.size w w1 ∧ w.heap.size < w1.heap.size) := by
    rw [← hw1]
    exact ⟨H.out.grow ((Below.refl _ _).alloc (Nat.le_refl _) _), Blk.new _ _ _, (Below.refl _ _).alloc (Nat.le_refl _) _, by simp⟩
  clear hw1 l0 cs ce1 ce2
  obtain ⟨D, hD⟩ : ∃ D, w1.drew = D := ⟨_, rfl⟩
  have H2 : Hid (RdAt N g st v D ∧ Blk D w.heap.size 50 #[.int .i64 (fP true st.e).1, .int .i64 (fP true st.e).2] ∧ Below w.heap.size w D ∧ w.heap.size < D.heap.size) := by
    rw [← hD]
    exact ⟨H1.out.1.grow (below_drewN (Below.refl _ _) 1), H1.out.2.1, below_drewN H1.out.2.2.1 1, H1.out.2.2.2⟩
  have HKD : Hid (w1.drew = D) := hD
  have HBD : Hid (D.cell? ⟨g, 1, none⟩ = some (.int .i64 st.s.k) ∧ D.cell? ⟨g, 8, none⟩ = some (.int .i64 (dd : Int))) := ⟨H2.out.1.ck, by rw [← HDD.out]; exact H2.out.1.cd⟩
  have HND : Hid (Calls Tryz.prog 22 #[.int .i64 st.s.k] D fun e w' => e = .returned (.int .i64 (nn : Int)) ∧ D = w') := by
    rw [← HNN.out]
    exact need_c _ D (HR.out D (H2.out.2.2.1.mono H.out.hb)).1
  clear hD
  refine wp_region_put (by kernel_rfl) (by kernel_rfl) (by kernel_rfl) (fun b' vs w' => (b' 0 = true → vs 0 = ptrR g) ∧ (b' 1 = true → vs 1 = .pointer (some ⟨g, 0, none⟩)) ∧ (b' 2 = true → vs 2 = .pointer (some ⟨g, 1, none⟩)) ∧ (b' 3 = true → vs 3 = .pointer (some ⟨g, 1, none⟩)) ∧ (b' 4 = true → vs 4 = .int .i64 st.s.k) ∧ (b' 5 = true → vs 5 = .int .i64 (nn : Int)) ∧ (b' 6 = true → vs 6 = .int .i64 (2 * (nn : Int))) ∧ (b' 7 = true → vs 7 = ptrR g) ∧ (b' 8 = true → vs 8 = .pointer (some ⟨g, 0, none⟩)) ∧ (b' 9 = true → vs 9 = .pointer (some ⟨g, 8, none⟩)) ∧ (b' 10 = true → vs 10 = .int .i64 (dd : Int)) ∧ (b' 11 = true → vs 11 = .int .i64 (jj : Int)) ∧ (b' 12 = true → vs 12 = .int .i64 (jj : Int)) ∧ Hid (w' = D)) ?_ ?_ ?_
  · intro vs
    exact ⟨fun h => Bool.noConfusion h, fun h => Bool.noConfusion h, fun h => Bool.noConfusion h, fun h => Bool.noConfusion h, fun h => Bool.noConfusion h, fun h => Bool.noConfusion h, fun h => Bool.noConfusion h, fun h => Bool.noConfusion h, fun h => Bool.noConfusion h, fun h => Bool.noConfusion h, fun h => Bool.noConfusion h, fun h => Bool.noConfusion h, fun h => Bool.noConfusion h, HKD⟩
  · rintro b' vs w' i op hi hun hall ⟨h0, h1, h2, h3, h4, h5, h6, h7, h8, h9, h10, h11, h12, hW⟩
    have hil : i < 13 := (List.getElem?_eq_some_iff.1 hi).1
    rcases i with _ | _ | _ | _ | _ | _ | _ | _ | _ | _ | _ | _ | _ | i
    · obtain rfl := Option.some.inj hi
      clear hi hil
      have hWW := hW.out
      subst hWW
      refine wpOp_step rfl (fun K hK => ?_)
      have HKK := Lib.hid hK; clear hK
      simp only [putAll, Act.put, List.setIfInBounds_toArray, List.set_cons_zero, List.set_cons_succ]
      go_simp
      exact HKK.out _ _ ⟨_, by simp only [putAll, Act.put, List.setIfInBounds_toArray, List.set_cons_zero, List.set_cons_succ] <;> rfl, fun _ => rfl, h1, h2, h3, h4, h5, h6, h7, h8, h9, h10, h11, h12, Lib.hid rfl⟩
    · obtain rfl := Option.some.inj hi
      clear hi hil
      have hWW := hW.out
      subst hWW
      have d0 := h0 (hall ⟨0, .data⟩ (by simp) rfl)
      refine wpOp_step rfl (fun K hK => ?_)
      have HKK := Lib.hid hK; clear hK
      simp only [putAll, Act.put, List.setIfInBounds_toArray, List.set_cons_zero, List.set_cons_succ]
      go_simp
      exact HKK.out _ _ ⟨_, by simp only [putAll, Act.put, List.setIfInBounds_toArray, List.set_cons_zero, List.set_cons_succ, d0] <;> rfl, h0, fun _ => rfl, h2, h3, h4, h5, h6, h7, h8, h9, h10, h11, h12, Lib.hid rfl⟩
    · obtain rfl := Option.some.inj hi
      clear hi hil
      have hWW := hW.out
      subst hWW
      have d1 := h1 (hall ⟨1, .data⟩ (by simp) rfl)
      refine wpOp_step rfl (fun K hK => ?_)
      have HKK := Lib.hid hK; clear hK
      simp only [putAll, Act.put, List.setIfInBounds_toArray, List.set_cons_zero, List.set_cons_succ]
      go_simp
      exact HKK.out _ _ ⟨_, by simp only [putAll, Act.put, List.setIfInBounds_toArray, List.set_cons_zero, List.set_cons_succ, d1] <;> rfl, h0, h1, fun _ => rfl, h3, h4, h5, h6, h7, h8, h9, h10, h11, h12, Lib.hid rfl⟩
    · obtain rfl := Option.some.inj hi
      clear hi hil
      have hWW := hW.out
      subst hWW
      have d2 := h2 (hall ⟨2, .data⟩ (by simp) rfl)
      refine wpOp_step rfl (fun K hK => ?_)
      have HKK := Lib.hid hK; clear hK
      simp only [putAll, Act.put, List.setIfInBounds_toArray, List.set_cons_zero, List.set_cons_succ]
      go_simp
      exact HKK.out _ _ ⟨_, by simp only [putAll, Act.put, List.setIfInBounds_toArray, List.set_cons_zero, List.set_cons_succ, d2] <;> rfl, h0, h1, h2, fun _ => rfl, h4, h5, h6, h7, h8, h9, h10, h11, h12, Lib.hid rfl⟩
    · obtain rfl := Option.some.inj hi
      clear hi hil
      have hWW := hW.out
      subst hWW
      have d3 := h3 (hall ⟨3, .data⟩ (by simp) rfl)
      have k1 := HBD.out.1
      refine wpOp_step rfl (fun K hK => ?_)
      have HKK := Lib.hid hK; clear hK
      simp only [putAll, Act.put, List.setIfInBounds_toArray, List.set_cons_zero, List.set_cons_succ]
      go_simp
      exact HKK.out _ _ ⟨_, by simp only [putAll, Act.put, List.setIfInBounds_toArray, List.set_cons_zero, List.set_cons_succ, d3] <;> rfl, h0, h1, h2, h3, fun _ => rfl, h5, h6, h7, h8, h9, h10, h11, h12, Lib.hid rfl⟩
    · obtain rfl := Option.some.inj hi
      clear hi hil
      have hWW := hW.out
      subst hWW
      have d4 := h4 (hall ⟨4, .data⟩ (by simp) rfl)
      refine wpOp_step rfl (fun K hK => ?_)
      have HKK := Lib.hid hK; clear hK
      simp only [putAll, Act.put, List.setIfInBounds_toArray, List.set_cons_zero, List.set_cons_succ]
      go_simp
      refine (HND.out).mono ?_
      rintro e w9 ⟨rfl, rfl⟩
      exact HKK.out _ _ ⟨_, by simp only [putAll, Act.put, List.setIfInBounds_toArray, List.set_cons_zero, List.set_cons_succ, d4] <;> rfl, h0, h1, h2, h3, h4, fun _ => rfl, h6, h7, h8, h9, h10, h11, h12, Lib.hid rfl⟩
    · obtain rfl := Option.some.inj hi
      clear hi hil
      have hWW := hW.out
      subst hWW
      have d5 := h5 (hall ⟨5, .data⟩ (by simp) rfl)
      refine wpOp_step rfl (fun K hK => ?_)
      have HKK := Lib.hid hK; clear hK
      simp only [putAll, Act.put, List.setIfInBounds_toArray, List.set_cons_zero, List.set_cons_succ]
      go_simp
      exact HKK.out _ _ ⟨_, by simp only [putAll, Act.put, List.setIfInBounds_toArray, List.set_cons_zero, List.set_cons_succ, d5, HE1.out] <;> rfl, h0, h1, h2, h3, h4, h5, fun _ => rfl, h7, h8, h9, h10, h11, h12, Lib.hid rfl⟩
    · obtain rfl := Option.some.inj hi
      clear hi hil
      have hWW := hW.out
      subst hWW
      refine wpOp_step rfl (fun K hK => ?_)
      have HKK := Lib.hid hK; clear hK
      simp only [putAll, Act.put, List.setIfInBounds_toArray, List.set_cons_zero, List.set_cons_succ]
      go_simp
      exact HKK.out _ _ ⟨_, by simp only [putAll, Act.put, List.setIfInBounds_toArray, List.set_cons_zero, List.set_cons_succ] <;> rfl, h0, h1, h2, h3, h4, h5, h6, fun _ => rfl, h8, h9, h10, h11, h12, Lib.hid rfl⟩
    · obtain rfl := Option.some.inj hi
      clear hi hil
      have hWW := hW.out
      subst hWW
      have d7 := h7 (hall ⟨7, .data⟩ (by simp) rfl)
      refine wpOp_step rfl (fun K hK => ?_)
      have HKK := Lib.hid hK; clear hK
      simp only [putAll, Act.put, List.setIfInBounds_toArray, List.set_cons_zero, List.set_cons_succ]
      go_simp
      exact HKK.out _ _ ⟨_, by simp only [putAll, Act.put, List.setIfInBounds_toArray, List.set_cons_zero, List.set_cons_succ, d7] <;> rfl, h0, h1, h2, h3, h4, h5, h6, h7, fun _ => rfl, h9, h10, h11, h12, Lib.hid rfl⟩
    · obtain rfl := Option.some.inj hi
      clear hi hil
      have hWW := hW.out
      subst hWW
      have d8 := h8 (hall ⟨8, .data⟩ (by simp) rfl)
      refine wpOp_step rfl (fun K hK => ?_)
      have HKK := Lib.hid hK; clear hK
      simp only [putAll, Act.put, List.setIfInBounds_toArray, List.set_cons_zero, List.set_cons_succ]
      go_simp
      exact HKK.out _ _ ⟨_, by simp only [putAll, Act.put, List.setIfInBounds_toArray, List.set_cons_zero, List.set_cons_succ, d8] <;> rfl, h0, h1, h2, h3, h4, h5, h6, h7, h8, fun _ => rfl, h10, h11, h12, Lib.hid rfl⟩
    · obtain rfl := Option.some.inj hi
      clear hi hil
      have hWW := hW.out
      subst hWW
      have d9 := h9 (hall ⟨9, .data⟩ (by simp) rfl)
      have k8 := HBD.out.2
      refine wpOp_step rfl (fun K hK => ?_)
      have HKK := Lib.hid hK; clear hK
      simp only [putAll, Act.put, List.setIfInBounds_toArray, List.set_cons_zero, List.set_cons_succ]
      go_simp
      exact HKK.out _ _ ⟨_, by simp only [putAll, Act.put, List.setIfInBounds_toArray, List.set_cons_zero, List.set_cons_succ, d9] <;> rfl, h0, h1, h2, h3, h4, h5, h6, h7, h8, h9, fun _ => rfl, h11, h12, Lib.hid rfl⟩
    · obtain rfl := Option.some.inj hi
      clear hi hil
      have hWW := hW.out
      subst hWW
      have d6 := h6 (hall ⟨6, .data⟩ (by simp) rfl)
      have d10 := h10 (hall ⟨10, .data⟩ (by simp) rfl)
      refine wpOp_step rfl (fun K hK => ?_)
      have HKK := Lib.hid hK; clear hK
      simp only [putAll, Act.put, List.setIfInBounds_toArray, List.set_cons_zero, List.set_cons_succ]
      go_simp
      exact HKK.out _ _ ⟨_, by simp only [putAll, Act.put, List.setIfInBounds_toArray, List.set_cons_zero, List.set_cons_succ, d6, d10, HE2.out] <;> rfl, h0, h1, h2, h3, h4, h5, h6, h7, h8, h9, h10, fun _ => rfl, h12, Lib.hid rfl⟩
    · obtain rfl := Option.some.inj hi
      clear hi hil
      have hWW := hW.out
      subst hWW
      have d11 := h11 (hall ⟨11, .data⟩ (by simp) rfl)
      refine wpOp_step rfl (fun K hK => ?_)
      have HKK := Lib.hid hK; clear hK
      simp only [putAll, Act.put, List.setIfInBounds_toArray, List.set_cons_zero, List.set_cons_succ]
      go_simp
      exact HKK.out _ _ ⟨_, by simp only [putAll, Act.put, List.setIfInBounds_toArray, List.set_cons_zero, List.set_cons_succ, d11] <;> rfl, h0, h1, h2, h3, h4, h5, h6, h7, h8, h9, h10, h11, fun _ => rfl, Lib.hid rfl⟩
    · omega
  · rintro b' vs w2 hall ⟨h0, h1, h2, h3, h4, h5, h6, h7, h8, h9, h10, h11, h12, hW⟩
    have d0 := h0 (hall 0 (by simp))
    have d1 := h1 (hall 1 (by simp))
    have d2 := h2 (hall 2 (by simp))
    have d3 := h3 (hall 3 (by simp))
    have d4 := h4 (hall 4 (by simp))
    have d5 := h5 (hall 5 (by simp))
    have d6 := h6 (hall 6 (by simp))
    have d7 := h7 (hall 7 (by simp))
    have d8 := h8 (hall 8 (by simp))
    have d9 := h9 (hall 9 (by simp))
    have d10 := h10 (hall 10 (by simp))
    have d11 := h11 (hall 11 (by simp))
    have d12 := h12 (hall 12 (by simp))
    have PP := hW.out
    simp only [putAll, Act.put, List.setIfInBounds_toArray, List.set_cons_zero, List.set_cons_succ, d0, d1, d2, d3, d4, d5, d6, d7, d8, d9, d10, d11, d12]
    clear hall h0 d0 h1 d1 h2 d2 h3 d3 h4 d4 h5 d5 h6 d6 h7 d7 h8 d8 h9 d9 h10 d10 h11 d11 h12 d12 hW
    subst PP
    have c8 := HBD.out.2
    have f8 := H2.out.1.blk.free 8
    have l8 := H2.out.1.blk.lt
    have hd0 : (0 : Int) ≤ (dd : Int) - 1 := by have := HJ.out; omega
    have hd6 : (dd : Int) ≤ 6 := by have := HJ.out; omega
    go_upto_region 6 with fail
    obtain ⟨w3, hw3⟩ : ∃ W, w2.setCell ⟨g, 8, none⟩ (.int .i64 ((dd : Int) - 1)) = W := ⟨_, rfl⟩
    rw [hw3]
    have H3 : Hid (RdAt N g { st with due := st.due - 1 } v w3 ∧ Blk w3 w.heap.size 50 #[.int .i64 (fP true st.e).1, .int .i64 (fP true st.e).2] ∧ Keep (fun j => j ≠ g ∧ v.ownBlock ≠ some j) w w3) := by
      have ks : Keep (fun j => j ≠ g) w2 w3 := by rw [← hw3]; exact Keep.setCell _ _ _ (by simp)
      have e1 : ((dd : Int) - 1) = ((dd - 1 : Nat) : Int) := by have := HJ.out; omega
      have hb8 : Blk w3 g 59 (cellsR { st with due := st.due - 1 } v) := by
        rw [← hw3, e1, HDD.out]
        have := H2.out.1.blk.set 8 (.int .i64 ((dd - 1 : Nat) : Int))
        simpa [cellsR] using this
      refine ⟨H2.out.1.turn ks hb8 rfl, ks.blk H2.out.2.1 ?_, (Keep.of_below H2.out.2.2.1).trans (ks.mono fun j hj => hj.1)⟩
      have := H.out.blk.lt
      omega
    clear hw3 c8 f8 l8 hd0 hd6
    have HFR : Hid (fromR st = if jj % 2 = 0 then (fP true st.e).1 else (fP true st.e).2) := by
      unfold Hid
      rw [← HSM.out]
      split
      · exact fromR_even (by rw [HAT.out]; assumption)
      · exact fromR_odd (by rw [HAT.out]; omega)
    have HRF : Hid (room (fP true st.e).1 = true ∧ room (fP true st.e).2 = true) := by
      have := HEE.out.2
      unfold roomP at this
      rw [Bool.and_eq_true] at this
      unfold Hid fP
      split
      · exact this
      · exact ⟨by decide, by decide⟩
    have cp1 : w3.cell? ⟨w.heap.size, 0, none⟩ = some (.int .i64 (fP true st.e).1) := H3.out.2.1.cell 0
    have cp2 : w3.cell? ⟨w.heap.size, 1, none⟩ = some (.int .i64 (fP true st.e).2) := H3.out.2.1.cell 1
    have lg := H3.out.1.blk.lt
    rcases (by have := HJ.out; omega : jj = 0 ∨ jj = 1 ∨ jj = 2 ∨ jj = 3 ∨ jj = 4 ∨ jj = 5) with rfl | rfl | rfl | rfl | rfl | rfl
    · obtain ⟨y0, cy⟩ := coord_cell H3.out.1.blk (j := 0) (by omega)
      have fy := H3.out.1.blk.free (2 + 0)
      obtain ⟨x, y, hxy, hadd⟩ := add_xy (fP true st.e).1 n w3 HRF.out.1 HEE.out.1
      have HADD := Lib.hid hadd
      have HXY : Hid ((room (fromR st + n) = true ∧ x = fromR st + n ∧ y = 0) ∨ (room (fromR st + n) = false ∧ y = 10)) := by
        unfold Hid
        rw [HFR.out]
        exact hxy
      clear hadd hxy
      simp only [Nat.reduceAdd] at cy fy
      go_wp2_with fail
      refine HADD.out.mono ?_
      rintro e w9 ⟨rfl, rfl⟩
      go_wp2_with fail
      go_ret
      exact put_end HAT.out (by omega) H3.out.1 H3.out.2.2 HXY.out
    · obtain ⟨y0, cy⟩ := coord_cell H3.out.1.blk (j := 1) (by omega)
      have fy := H3.out.1.blk.free (2 + 1)
      obtain ⟨x, y, hxy, hadd⟩ := add_xy (fP true st.e).2 n w3 HRF.out.2 HEE.out.1
      have HADD := Lib.hid hadd
      have HXY : Hid ((room (fromR st + n) = true ∧ x = fromR st + n ∧ y = 0) ∨ (room (fromR st + n) = false ∧ y = 10)) := by
        unfold Hid
        rw [HFR.out]
        exact hxy
      clear hadd hxy
      simp only [Nat.reduceAdd] at cy fy
      go_wp2_with fail
      refine HADD.out.mono ?_
      rintro e w9 ⟨rfl, rfl⟩
      go_wp2_with fail
      go_ret
      exact put_end HAT.out (by omega) H3.out.1 H3.out.2.2 HXY.out
    · obtain ⟨y0, cy⟩ := coord_cell H3.out.1.blk (j := 2) (by omega)
      have fy := H3.out.1.blk.free (2 + 2)
      obtain ⟨x, y, hxy, hadd⟩ := add_xy (fP true st.e).1 n w3 HRF.out.1 HEE.out.1
      have HADD := Lib.hid hadd
      have HXY : Hid ((room (fromR st + n) = true ∧ x = fromR st + n ∧ y = 0) ∨ (room (fromR st + n) = false ∧ y = 10)) := by
        unfold Hid
        rw [HFR.out]
        exact hxy
      clear hadd hxy
      simp only [Nat.reduceAdd] at cy fy
      go_wp2_with fail
      refine HADD.out.mono ?_
      rintro e w9 ⟨rfl, rfl⟩
      go_wp2_with fail
      go_ret
      exact put_end HAT.out (by omega) H3.out.1 H3.out.2.2 HXY.out
    · obtain ⟨y0, cy⟩ := coord_cell H3.out.1.blk (j := 3) (by omega)
      have fy := H3.out.1.blk.free (2 + 3)
      obtain ⟨x, y, hxy, hadd⟩ := add_xy (fP true st.e).2 n w3 HRF.out.2 HEE.out.1
      have HADD := Lib.hid hadd
      have HXY : Hid ((room (fromR st + n) = true ∧ x = fromR st + n ∧ y = 0) ∨ (room (fromR st + n) = false ∧ y = 10)) := by
        unfold Hid
        rw [HFR.out]
        exact hxy
      clear hadd hxy
      simp only [Nat.reduceAdd] at cy fy
      go_wp2_with fail
      refine HADD.out.mono ?_
      rintro e w9 ⟨rfl, rfl⟩
      go_wp2_with fail
      go_ret
      exact put_end HAT.out (by omega) H3.out.1 H3.out.2.2 HXY.out
    · obtain ⟨y0, cy⟩ := coord_cell H3.out.1.blk (j := 4) (by omega)
      have fy := H3.out.1.blk.free (2 + 4)
      obtain ⟨x, y, hxy, hadd⟩ := add_xy (fP true st.e).1 n w3 HRF.out.1 HEE.out.1
      have HADD := Lib.hid hadd
      have HXY : Hid ((room (fromR st + n) = true ∧ x = fromR st + n ∧ y = 0) ∨ (room (fromR st + n) = false ∧ y = 10)) := by
        unfold Hid
        rw [HFR.out]
        exact hxy
      clear hadd hxy
      simp only [Nat.reduceAdd] at cy fy
      go_wp2_with fail
      refine HADD.out.mono ?_
      rintro e w9 ⟨rfl, rfl⟩
      go_wp2_with fail
      go_ret
      exact put_end HAT.out (by omega) H3.out.1 H3.out.2.2 HXY.out
    · obtain ⟨y0, cy⟩ := coord_cell H3.out.1.blk (j := 5) (by omega)
      have fy := H3.out.1.blk.free (2 + 5)
      obtain ⟨x, y, hxy, hadd⟩ := add_xy (fP true st.e).2 n w3 HRF.out.2 HEE.out.1
      have HADD := Lib.hid hadd
      have HXY : Hid ((room (fromR st + n) = true ∧ x = fromR st + n ∧ y = 0) ∨ (room (fromR st + n) = false ∧ y = 10)) := by
        unfold Hid
        rw [HFR.out]
        exact hxy
      clear hadd hxy
      simp only [Nat.reduceAdd] at cy fy
      go_wp2_with fail
      refine HADD.out.mono ?_
      rintro e w9 ⟨rfl, rfl⟩
      go_wp2_with fail
      go_ret
      exact put_end HAT.out (by omega) H3.out.1 H3.out.2.2 HXY.out
theorem put_c (N g : Nat) (st : Rs) (v : Value) (n : Int) (w : World) (hr : Ev N w) (h : RdAt N g st v w) (hd : 0 < st.due) (hdu : st.due ≤ 2 * needI st.s.k) (hn : room n = true) (he : roomP st.e = true) :
    Calls Tryz.prog 64 #[ptrR g, .int .i64 n] w (PutQ N g v w (putR st n)) := by
  cases hs : st.small with
  | false => exact put_big N g st v n w hr h hd hdu hn he hs
  | true => exact put_small N g st v n w hr h hd hdu hn he hs
end Go.Proofs.YtbnbglngpgikfaaGreatDoor
