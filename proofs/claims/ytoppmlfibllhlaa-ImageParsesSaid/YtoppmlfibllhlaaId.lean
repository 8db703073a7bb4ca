/- Layer 11: the document's Fill. -/
import Derived.Test.YtoppmlfibllhlaaIc
import Derived.BigQuiet
namespace Go.Proofs.Ytoppmlfibllhlaa
open Go.RowKit
def cAt (l : List Col) (k : Nat) : Col := l.getD k (fun _ => 0)
theorem cAt_some {l : List Col} {k : Nat} (h : k < l.length) : l[k]? = some (cAt l k) := by
  unfold cAt
  rw [List.getD_eq_getElem?_getD, List.getElem?_eq_getElem h]; rfl
/-- Does the k-th pixel of rows of W lie in the box? -/
def inBx (W x0 y0 x1 y1 : Int) (k : Nat) : Bool := decide ((k : Int) % W ≥ x0) && decide ((k : Int) % W < x1) && decide ((k : Int) / W ≥ y0) && decide ((k : Int) / W < y1)
def fillPx (W x0 y0 x1 y1 : Int) (c : Col) (l : List Col) (k : Nat) : Col := if inBx W x0 y0 x1 y1 k then c else cAt l k
def fillL (W x0 y0 x1 y1 : Int) (c : Col) (l : List Col) (n : Nat) : List Col := (List.range n).map (fillPx W x0 y0 x1 y1 c l)
theorem fillL_succ (W x0 y0 x1 y1 : Int) (c : Col) (l : List Col) (n : Nat) : fillL W x0 y0 x1 y1 c l (n + 1) = fillL W x0 y0 x1 y1 c l n ++ [fillPx W x0 y0 x1 y1 c l n] := by
  unfold fillL; rw [List.range_succ, List.map_append]; rfl
theorem fillL_len (W x0 y0 x1 y1 : Int) (c : Col) (l : List Col) (n : Nat) : (fillL W x0 y0 x1 y1 c l n).length = n := by simp [fillL]
theorem rem_quo {k : Nat} {W : Int} (h : 1 ≤ W) : ((k : Int).tmod W = (k : Int) % W) ∧ ((k : Int).tdiv W = (k : Int) / W) ∧ 0 ≤ (k : Int) % W ∧ (k : Int) % W < W ∧ 0 ≤ (k : Int) / W ∧ (k : Int) / W ≤ k := by
  have h1 := tdiv_pos (k : Int) W (by omega)
  refine ⟨h1.2, h1.1, Int.emod_nonneg _ (by omega), Int.emod_lt_of_pos _ (by omega), Int.ediv_nonneg (by omega) (by omega), Int.ediv_le_self _ (by omega)⟩
set_option maxHeartbeats 8000000 in
set_option maxRecDepth 100000 in
theorem ref11Fill_c (W H x0 y0 x1 y1 : Int) (u : Value) (c : Col) (l : List Col) (w : World) (row : RowK .i64 w u l) (hW : 1 ≤ W ∧ W ≤ 256) (hl : l.length ≤ 70000) : Calls Try.prog 18 #[.agg #[.int .i64 W, .int .i64 H, u], .int .i64 x0, .int .i64 y0, .int .i64 x1, .int .i64 y1, .agg #[.int .i64 (c 0), .int .i64 (c 1), .int .i64 (c 2), .int .i64 (c 3)]] w fun e w' => ∃ v, e = .returned (.agg #[.int .i64 W, .int .i64 H, v]) ∧ OwnK .i64 w' w.heap.size 43 v (fillL W x0 y0 x1 y1 c l l.length) ∧ Below w.heap.size w w' := by
  obtain ⟨au, cu, rfl⟩ := row.shape
  have HROW := Lib.hid row
  have HW := Lib.hid hW
  obtain ⟨n, hn⟩ : ∃ n, l.length = n := ⟨_, rfl⟩
  have HN := Lib.hid hn
  rw [hn] at HROW hl ⊢
  clear row hn hW
  go_enter Try.func18, Try.ntmps18
  go_wp2_with fail
  go_loopw [14] (fun s14 wr => ∃ (k : Nat) (v : Value), k ≤ n ∧ s14 = .int .i64 (k : Int) ∧ Hid (AppS w (w.heap.size + 1 + 1 + 1 + 1) (w.heap.size + 1 + 1 + 1) 33 (.int .i64 W) (.int .i64 H) [(w.heap.size, 33, #[.int .i64 W, .int .i64 H, .slice au n cu]), (w.heap.size + 1, 43, c64 c), (w.heap.size + 1 + 1, 33, #[.int .i64 0, .int .i64 0, .slice none 0 0])] v v (fillL W x0 y0 x1 y1 c l k) wr)) (fun s14 _ => n - (intOf s14).toNat)
  case atStart =>
    refine ⟨0, .slice none 0 0, by omega, rfl, ((((Below.refl _ _).alloc (Nat.le_refl _) _).alloc (by simp) _).alloc (by simp; omega) _).alloc (by simp; omega) _, by simp, ⟨(((Blk.new _ _ _).alloc _).alloc _).alloc _, ((Blk.newAt _ _ _ (by simp)).alloc _).alloc _, (Blk.newAt _ _ _ (by simp)).alloc _, trivial⟩, Blk.newAt _ _ _ (by simp), OwnK.nil _ _ _ _, by omega, by omega, ?_⟩
    intro b hb
    simp at hb
    rcases hb with rfl | rfl | rfl
    · exact ⟨by simp <;> omega, by simp <;> omega⟩
    · exact ⟨by simp <;> omega, by simp <;> omega⟩
    · exact ⟨by simp <;> omega, by simp <;> omega⟩
  case round =>
    obtain ⟨k, v, hk, rfl, hw⟩ := hrel
    have m2 := hw.out.lays.1.cell 2
    simp only [List.getElem?_toArray, List.getElem?_cons_zero, List.getElem?_cons_succ] at m2
    by_cases hlt : k < n
    · have hd : decide ((k : Int) < (n : Int)) = true := by simp; omega
      have hki : (k : Int) < (n : Int) := by omega
      obtain ⟨x, hxx⟩ : ∃ x, cAt l k = x := ⟨_, rfl⟩
      have hx : l[k]? = some x := by rw [← hxx]; exact cAt_some (by rw [HN.out]; exact hlt)
      obtain ⟨d, p, rfl, hdl, hau⟩ := RowK.addr (HROW.out) (by rw [HN.out]; omega)
      have HAT : Hid (∀ A, Below w.heap.size w A → ColAt .i64 A d (p + k * 4) x) := fun A hA => (hau k x hx).on hA hdl
      have HTK := Lib.hid (fillL_succ W x0 y0 x1 y1 c l k)
      have HLL : Hid ((fillL W x0 y0 x1 y1 c l k).length + 1 ≤ 100000) := by unfold Hid; rw [fillL_len]; omega
      obtain ⟨r1, r2, r3, r4, r5, r6⟩ := rem_quo (k := k) HW.out.1
      have HPX0 : Hid (inBx W x0 y0 x1 y1 k = false → fillPx W x0 y0 x1 y1 c l k = x) := fun h => by unfold fillPx; rw [h, hxx]; rfl
      have HPX1 : Hid (inBx W x0 y0 x1 y1 k = true → fillPx W x0 y0 x1 y1 c l k = c) := fun h => by unfold fillPx; rw [h]; rfl
      obtain ⟨X, hX⟩ : ∃ X, (k : Int) % W = X := ⟨_, rfl⟩
      obtain ⟨Y, hY⟩ : ∃ Y, (k : Int) / W = Y := ⟨_, rfl⟩
      have HIN : Hid (inBx W x0 y0 x1 y1 k = (decide (X ≥ x0) && decide (X < x1) && decide (Y ≥ y0) && decide (Y < y1))) := by unfold Hid inBx; rw [hX, hY]
      rw [hX] at r1 r3 r4
      rw [hY] at r2 r5 r6
      have HRQ : Hid ((k : Int).tmod W = X ∧ (k : Int).tdiv W = Y ∧ (W == 0) = false ∧ ¬ W = 0 ∧ wrap64 Y = Y ∧ IntKind.i64.wrap Y = Y) := ⟨r1, r2, by have := HW.out; simp; omega, by have := HW.out; omega, wrapR _ (by omega) (by omega), by rw [wrap_is]; exact wrapR _ (by omega) (by omega)⟩
      obtain ⟨va, vc, rfl⟩ := hw.out.row.shape
      obtain ⟨L, hL⟩ : ∃ L, fillL W x0 y0 x1 y1 c l k = L := ⟨_, rfl⟩
      rw [hL] at hw HTK HLL
      generalize L.length = vn at hw
      have HST : Hid (∀ A, Below wr.heap.size wr A → AppS w (w.heap.size + 1 + 1 + 1 + 1) (w.heap.size + 1 + 1 + 1) 33 (.int .i64 W) (.int .i64 H) [(w.heap.size, 33, #[.int .i64 W, .int .i64 H, .slice (some ⟨d, p, none⟩) n cu]), (w.heap.size + 1, 43, c64 c), (w.heap.size + 1 + 1, 33, #[.int .i64 0, .int .i64 0, .slice none 0 0])] (.slice va vn vc) (.slice va vn vc) L A) := fun A hA => hw.out.grow hA
      clear hx hxx hau hdl hL r1 r2 r3 r4 r5 r6 hX hY
      go_wp2_with fail
      refine wp_region_quiet (C := Out wr) (by kernel_rfl) (by kernel_rfl) ⟨rfl, rfl, rfl, Nat.le_refl _, fun _ _ => rfl⟩ ?_
      refine BigFrame.wpQuiet_want rfl (fun K hK => ?_)
      refine quiet_val (.int .i64 (k : Int)) (fun w' hw' => by go_simp) (hK _ ?_)
      clear hK K
      simp only [Act.put, List.setIfInBounds_toArray, List.set_cons_zero, List.set_cons_succ]
      refine BigFrame.wpQuiet_want rfl (fun K hK => ?_)
      refine quiet_val (.pointer (some ⟨w.heap.size, 0, none⟩)) (fun w' hw' => by go_simp) (hK _ ?_)
      clear hK K
      simp only [Act.put, List.setIfInBounds_toArray, List.set_cons_zero, List.set_cons_succ]
      refine BigFrame.wpQuiet_want rfl (fun K hK => ?_)
      refine quiet_val (.int .i64 W) (fun w' hw' => by have c0 : w'.cell? ⟨w.heap.size, 0, none⟩ = some (.int .i64 W) := (HST.out w' hw').lays.1.cell 0; go_simp) (hK _ ?_)
      clear hK K
      simp only [Act.put, List.setIfInBounds_toArray, List.set_cons_zero, List.set_cons_succ]
      refine BigFrame.wpQuiet_want rfl (fun K hK => ?_)
      refine quiet_val (.int .i64 X) (fun w' hw' => by obtain ⟨e1, e2, e3, e4, e5, e6⟩ := HRQ.out; go_simp) (hK _ ?_)
      clear hK K
      simp only [Act.put, List.setIfInBounds_toArray, List.set_cons_zero, List.set_cons_succ]
      refine BigFrame.wpQuiet_want rfl (fun K hK => ?_)
      refine quiet_val (.int .i64 (k : Int)) (fun w' hw' => by go_simp) (hK _ ?_)
      clear hK K
      simp only [Act.put, List.setIfInBounds_toArray, List.set_cons_zero, List.set_cons_succ]
      refine BigFrame.wpQuiet_want rfl (fun K hK => ?_)
      refine quiet_val (.pointer (some ⟨w.heap.size, 0, none⟩)) (fun w' hw' => by go_simp) (hK _ ?_)
      clear hK K
      simp only [Act.put, List.setIfInBounds_toArray, List.set_cons_zero, List.set_cons_succ]
      refine BigFrame.wpQuiet_want rfl (fun K hK => ?_)
      refine quiet_val (.int .i64 W) (fun w' hw' => by have c0 : w'.cell? ⟨w.heap.size, 0, none⟩ = some (.int .i64 W) := (HST.out w' hw').lays.1.cell 0; go_simp) (hK _ ?_)
      clear hK K
      simp only [Act.put, List.setIfInBounds_toArray, List.set_cons_zero, List.set_cons_succ]
      refine BigFrame.wpQuiet_want rfl (fun K hK => ?_)
      refine quiet_val (.int .i64 Y) (fun w' hw' => by obtain ⟨e1, e2, e3, e4, e5, e6⟩ := HRQ.out; go_simp) (hK _ ?_)
      clear hK K
      simp only [Act.put, List.setIfInBounds_toArray, List.set_cons_zero, List.set_cons_succ]
      refine BigFrame.wpQuiet_want rfl (fun K hK => ?_)
      refine quiet_val (.int .i64 X) (fun w' hw' => by go_simp) (hK _ ?_)
      clear hK K
      simp only [Act.put, List.setIfInBounds_toArray, List.set_cons_zero, List.set_cons_succ]
      refine BigFrame.wpQuiet_want rfl (fun K hK => ?_)
      refine quiet_val (.int .i64 Y) (fun w' hw' => by go_simp) (hK _ ?_)
      clear hK K
      simp only [Act.put, List.setIfInBounds_toArray, List.set_cons_zero, List.set_cons_succ]
      refine wpQuiet_nil ?_
      intro w2 hb
      have M2 := Lib.hid (HST.out w2 hb)
      clear hb HST hw m2
      by_cases n0 : X ≥ x0
      · by_cases n1 : X < x1
        · by_cases n2 : Y ≥ y0
          · by_cases n3 : Y < y1
            · have t0 : decide (X ≥ x0) = true := by simp; omega
              have t1 : decide (X < x1) = true := by simp; omega
              have t2 : decide (Y ≥ y0) = true := by simp; omega
              have t3 : decide (Y < y1) = true := by simp; omega
              have HPX : Hid (fillPx W x0 y0 x1 y1 c l k = c) := HPX1.out (by rw [HIN.out, t0, t1, t2, t3]; simp)
              clear HPX0 HPX1 HIN n0 n1 n2 n3
              have c2 := M2.out.out.cell 2
              simp only [List.getElem?_toArray, List.getElem?_cons_zero, List.getElem?_cons_succ] at c2
              obtain ⟨k0, k1, k2, k3⟩ := Blk.c0 (show Blk w2 (w.heap.size + 1) 43 (c64 c) from M2.out.lays.2.1)
              have HA : Hid (AppS w (w.heap.size + 1 + 1 + 1 + 1) (w.heap.size + 1 + 1 + 1) 33 (.int .i64 W) (.int .i64 H) [(w.heap.size, 33, #[.int .i64 W, .int .i64 H, .slice (some ⟨d, p, none⟩) n cu]), (w.heap.size + 1, 43, c64 c), (w.heap.size + 1 + 1, 33, #[.int .i64 0, .int .i64 0, .slice none 0 0])] (.slice va vn vc) (.slice va vn vc) L (w2.alloc (.cells #[.int .i64 (c 0), .int .i64 (c 1), .int .i64 (c 2), .int .i64 (c 3)] 43))) := M2.out.grow ((Below.refl _ _).alloc (Nat.le_refl _) _)
              have HQ : Hid (ColAt .i64 (w2.alloc (.cells #[.int .i64 (c 0), .int .i64 (c 1), .int .i64 (c 2), .int .i64 (c 3)] 43)) w2.heap.size 0 c) := ⟨(Blk.new _ _ _).cell 0, (Blk.new _ _ _).cell 1, (Blk.new _ _ _).cell 2, (Blk.new _ _ _).cell 3⟩
              go_wp2_with (at_builtin; refine wpList_app_c64 rfl _ _ 31 43 rfl Try.underlying31 infoC64 (w.heap.size + 1 + 1 + 1 + 1) _ L c rfl HA.out.row w2.heap.size rfl HQ.out HLL.out HA.out.size ?_)
              intro v' w5 ho hg _
              have HB5 := Lib.hid (HA.out.app ho hg)
              obtain ⟨xa, xc, rfl⟩ := ho.shape
              have HV := Lib.hid HB5.out.store
              generalize (L ++ [c]).length = xn at *
              have c2 := HB5.out.out.cell 2
              have f2 := HB5.out.out.free 2
              have lg := HB5.out.out.lt
              simp only [List.getElem?_toArray, List.getElem?_cons_zero, List.getElem?_cons_succ] at c2
              clear ho hg HA HQ k0 k1 k2 k3
              go_wp2_with fail
              exact ⟨⟨k + 1, _, by omega, by go_num, by rw [HTK.out, HPX.out]; exact HV.out⟩, by simp [intOf]; omega⟩
            · have t0 : decide (X ≥ x0) = true := by simp; omega
              have t1 : decide (X < x1) = true := by simp; omega
              have t2 : decide (Y ≥ y0) = true := by simp; omega
              have t3 : decide (Y < y1) = false := by simp; omega
              have HPX : Hid (fillPx W x0 y0 x1 y1 c l k = x) := HPX0.out (by rw [HIN.out, t0, t1, t2, t3]; simp)
              clear HPX0 HPX1 HIN n0 n1 n2 n3
              go_wp2_with fail
              refine wp_region_put (by kernel_rfl) (by kernel_rfl) (by kernel_rfl) (fun b' vs w' => (b' 0 = true → vs 0 = .pointer (some ⟨w.heap.size + 1 + 1 + 1, 2, none⟩)) ∧ (b' 1 = true → vs 1 = .slice va vn vc) ∧ (b' 2 = true → vs 2 = .pointer (some ⟨w.heap.size, 2, none⟩)) ∧ (b' 3 = true → vs 3 = .slice (some ⟨d, p, none⟩) n cu) ∧ (b' 4 = true → vs 4 = .int .i64 (k : Int)) ∧ (b' 5 = true → vs 5 = .pointer (some ⟨d, p + k * 4, none⟩)) ∧ (b' 6 = true → vs 6 = .agg #[.int .i64 (x 0), .int .i64 (x 1), .int .i64 (x 2), .int .i64 (x 3)]) ∧ (b' 9 = true → vs 9 = .pointer (some ⟨w.heap.size + 1 + 1 + 1, 2, none⟩)) ∧ (b' 7 = true → b' 8 = false → Hid (OneK .i64 (vs 7) x w')) ∧ (b' 8 = false → Hid (AppS w (w.heap.size + 1 + 1 + 1 + 1) (w.heap.size + 1 + 1 + 1) 33 (.int .i64 W) (.int .i64 H) [(w.heap.size, 33, #[.int .i64 W, .int .i64 H, .slice (some ⟨d, p, none⟩) n cu]), (w.heap.size + 1, 43, c64 c), (w.heap.size + 1 + 1, 33, #[.int .i64 0, .int .i64 0, .slice none 0 0])] (.slice va vn vc) (.slice va vn vc) L w')) ∧ (b' 8 = true → b' 10 = false → Hid (AppS w (w.heap.size + 1 + 1 + 1 + 1) (w.heap.size + 1 + 1 + 1) 33 (.int .i64 W) (.int .i64 H) [(w.heap.size, 33, #[.int .i64 W, .int .i64 H, .slice (some ⟨d, p, none⟩) n cu]), (w.heap.size + 1, 43, c64 c), (w.heap.size + 1 + 1, 33, #[.int .i64 0, .int .i64 0, .slice none 0 0])] (.slice va vn vc) (vs 8) (L ++ [x]) w')) ∧ (b' 10 = true → Hid (∃ v', AppS w (w.heap.size + 1 + 1 + 1 + 1) (w.heap.size + 1 + 1 + 1) 33 (.int .i64 W) (.int .i64 H) [(w.heap.size, 33, #[.int .i64 W, .int .i64 H, .slice (some ⟨d, p, none⟩) n cu]), (w.heap.size + 1, 43, c64 c), (w.heap.size + 1 + 1, 33, #[.int .i64 0, .int .i64 0, .slice none 0 0])] v' v' (L ++ [x]) w')) ∧ (b' 7 = true → b' 6 = true) ∧ (b' 6 = true → b' 5 = true) ∧ (b' 5 = true → b' 3 = true) ∧ (b' 8 = true → b' 1 = true) ∧ (b' 8 = true → b' 3 = true) ∧ (b' 8 = true → b' 6 = true) ∧ (b' 8 = true → b' 7 = true) ∧ (b' 10 = true → b' 8 = true)) ?_ ?_ ?_
              · intro vs
                exact ⟨fun h => Bool.noConfusion h, fun h => Bool.noConfusion h, fun h => Bool.noConfusion h, fun h => Bool.noConfusion h, fun h => Bool.noConfusion h, fun h => Bool.noConfusion h, fun h => Bool.noConfusion h, fun h => Bool.noConfusion h, fun h => Bool.noConfusion h, fun _ => Lib.hid (M2.out.grow ⟨rfl, rfl, rfl, Nat.le_refl _, fun _ _ => rfl⟩), fun h => Bool.noConfusion h, fun h => Bool.noConfusion h, fun h => Bool.noConfusion h, fun h => Bool.noConfusion h, fun h => Bool.noConfusion h, fun h => Bool.noConfusion h, fun h => Bool.noConfusion h, fun h => Bool.noConfusion h, fun h => Bool.noConfusion h, fun h => Bool.noConfusion h⟩
              · rintro b' vs w' i op hi hun hall ⟨h0, h1, h2, h3, h4, h5, h6, h9, yM, hF, yA, yS, hE7_6, hE6_5, hE5_3, hW1, hW3, hW6, hW7, hX⟩
                have hil : i < 11 := (List.getElem?_eq_some_iff.1 hi).1
                rcases i with _ | _ | _ | _ | _ | _ | _ | _ | _ | _ | _ | i
                · obtain rfl := Option.some.inj hi
                  clear hi hil
                  refine wpOp_step rfl (fun K hK => ?_)
                  have HKK := Lib.hid hK; clear hK
                  simp only [putAll, Act.put, List.setIfInBounds_toArray, List.set_cons_zero, List.set_cons_succ]
                  go_simp
                  exact HKK.out _ _ ⟨_, by simp only [putAll, Act.put, List.setIfInBounds_toArray, List.set_cons_zero, List.set_cons_succ] <;> rfl, fun _ => rfl, h1, h2, h3, h4, h5, h6, h9, yM, hF, yA, yS, hE7_6, hE6_5, hE5_3, hW1, hW3, hW6, hW7, hX⟩
                · obtain rfl := Option.some.inj hi
                  clear hi hil
                  have d0 := h0 (hall ⟨0, .data⟩ (by simp) rfl)
                  have na : b' 8 = false := by
                    cases hz : b' 8 with
                    | false => rfl
                    | true => exact absurd (hW1 hz) (by rw [hun]; decide)
                  have hS := hF na
                  have c2 := hS.out.out.cell 2
                  simp only [List.getElem?_toArray, List.getElem?_cons_zero, List.getElem?_cons_succ] at c2
                  refine wpOp_step rfl (fun K hK => ?_)
                  have HKK := Lib.hid hK; clear hK
                  simp only [putAll, Act.put, List.setIfInBounds_toArray, List.set_cons_zero, List.set_cons_succ]
                  go_simp
                  exact HKK.out _ _ ⟨_, by simp only [putAll, Act.put, List.setIfInBounds_toArray, List.set_cons_zero, List.set_cons_succ, d0] <;> rfl, h0, fun _ => rfl, h2, h3, h4, h5, h6, h9, yM, hF, yA, yS, hE7_6, hE6_5, hE5_3, fun _ => rfl, hW3, hW6, hW7, hX⟩
                · obtain rfl := Option.some.inj hi
                  clear hi hil
                  refine wpOp_step rfl (fun K hK => ?_)
                  have HKK := Lib.hid hK; clear hK
                  simp only [putAll, Act.put, List.setIfInBounds_toArray, List.set_cons_zero, List.set_cons_succ]
                  go_simp
                  exact HKK.out _ _ ⟨_, by simp only [putAll, Act.put, List.setIfInBounds_toArray, List.set_cons_zero, List.set_cons_succ] <;> rfl, h0, h1, fun _ => rfl, h3, h4, h5, h6, h9, yM, hF, yA, yS, hE7_6, hE6_5, hE5_3, hW1, hW3, hW6, hW7, hX⟩
                · obtain rfl := Option.some.inj hi
                  clear hi hil
                  have d2 := h2 (hall ⟨2, .data⟩ (by simp) rfl)
                  have na : b' 8 = false := by
                    cases hz : b' 8 with
                    | false => rfl
                    | true => exact absurd (hW3 hz) (by rw [hun]; decide)
                  have hS := hF na
                  have c2 := hS.out.lays.1.cell 2
                  simp only [List.getElem?_toArray, List.getElem?_cons_zero, List.getElem?_cons_succ] at c2
                  refine wpOp_step rfl (fun K hK => ?_)
                  have HKK := Lib.hid hK; clear hK
                  simp only [putAll, Act.put, List.setIfInBounds_toArray, List.set_cons_zero, List.set_cons_succ]
                  go_simp
                  exact HKK.out _ _ ⟨_, by simp only [putAll, Act.put, List.setIfInBounds_toArray, List.set_cons_zero, List.set_cons_succ, d2] <;> rfl, h0, h1, h2, fun _ => rfl, h4, h5, h6, h9, yM, hF, yA, yS, hE7_6, hE6_5, fun _ => rfl, hW1, fun _ => rfl, hW6, hW7, hX⟩
                · obtain rfl := Option.some.inj hi
                  clear hi hil
                  refine wpOp_step rfl (fun K hK => ?_)
                  have HKK := Lib.hid hK; clear hK
                  simp only [putAll, Act.put, List.setIfInBounds_toArray, List.set_cons_zero, List.set_cons_succ]
                  go_simp
                  exact HKK.out _ _ ⟨_, by simp only [putAll, Act.put, List.setIfInBounds_toArray, List.set_cons_zero, List.set_cons_succ] <;> rfl, h0, h1, h2, h3, fun _ => rfl, h5, h6, h9, yM, hF, yA, yS, hE7_6, hE6_5, hE5_3, hW1, hW3, hW6, hW7, hX⟩
                · obtain rfl := Option.some.inj hi
                  clear hi hil
                  have d3 := h3 (hall ⟨3, .data⟩ (by simp) rfl)
                  have d4 := h4 (hall ⟨4, .data⟩ (by simp) rfl)
                  refine wpOp_step rfl (fun K hK => ?_)
                  have HKK := Lib.hid hK; clear hK
                  simp only [putAll, Act.put, List.setIfInBounds_toArray, List.set_cons_zero, List.set_cons_succ]
                  go_simp
                  exact HKK.out _ _ ⟨_, by simp only [putAll, Act.put, List.setIfInBounds_toArray, List.set_cons_zero, List.set_cons_succ, d3, d4] <;> rfl, h0, h1, h2, h3, h4, fun _ => rfl, h6, h9, yM, hF, yA, yS, hE7_6, fun _ => rfl, fun _ => hall ⟨3, .data⟩ (by simp) rfl, hW1, hW3, hW6, hW7, hX⟩
                · obtain rfl := Option.some.inj hi
                  clear hi hil
                  have d5 := h5 (hall ⟨5, .data⟩ (by simp) rfl)
                  have na : b' 8 = false := by
                    cases hz : b' 8 with
                    | false => rfl
                    | true => exact absurd (hW6 hz) (by rw [hun]; decide)
                  have hS := hF na
                  obtain ⟨c0, c1, c2, c3⟩ := HAT.out w' hS.out.below
                  refine wpOp_step rfl (fun K hK => ?_)
                  have HKK := Lib.hid hK; clear hK
                  simp only [putAll, Act.put, List.setIfInBounds_toArray, List.set_cons_zero, List.set_cons_succ]
                  go_simp
                  exact HKK.out _ _ ⟨_, by simp only [putAll, Act.put, List.setIfInBounds_toArray, List.set_cons_zero, List.set_cons_succ, d5] <;> rfl, h0, h1, h2, h3, h4, h5, fun _ => rfl, h9, yM, hF, yA, yS, fun _ => rfl, fun _ => hall ⟨5, .data⟩ (by simp) rfl, hE5_3, hW1, hW3, fun _ => rfl, hW7, hX⟩
                · obtain rfl := Option.some.inj hi
                  clear hi hil
                  have d6 := h6 (hall ⟨6, .data⟩ (by simp) rfl)
                  have na : b' 8 = false := by
                    cases hz : b' 8 with
                    | false => rfl
                    | true => exact absurd (hW7 hz) (by rw [hun]; decide)
                  have hS := hF na
                  refine wpOp_step rfl (fun K hK => ?_)
                  have HKK := Lib.hid hK; clear hK
                  simp only [putAll, Act.put, List.setIfInBounds_toArray, List.set_cons_zero, List.set_cons_succ]
                  go_simp
                  have hb2 : Below w'.heap.size w' (w'.alloc (.cells #[.int .i64 (x 0), .int .i64 (x 1), .int .i64 (x 2), .int .i64 (x 3)] 43)) := (Below.refl _ _).alloc (Nat.le_refl _) _
                  exact HKK.out _ _ ⟨_, by simp only [putAll, Act.put, List.setIfInBounds_toArray, List.set_cons_zero, List.set_cons_succ, d6] <;> rfl, h0, h1, h2, h3, h4, h5, h6, h9, fun _ _ => Lib.hid (OneK.made .i64 w' x 43), fun ha => Lib.hid (hS.out.grow hb2), fun h => absurd (show b' 8 = true from h) (by rw [na]; decide), fun h => absurd (hX (show b' 10 = true from h)) (by rw [na]; decide), fun _ => hall ⟨6, .data⟩ (by simp) rfl, hE6_5, hE5_3, hW1, hW3, hW6, fun _ => rfl, hX⟩
                · obtain rfl := Option.some.inj hi
                  clear hi hil
                  have d1 := h1 (hall ⟨1, .data⟩ (by simp) rfl)
                  have hS := hF hun
                  have oM := yM (hall ⟨7, .data⟩ (by simp) rfl) hun
                  obtain ⟨q, e4, hq, hql⟩ := oM.out
                  refine wpOp_step rfl (fun K hK => ?_)
                  have HKK := Lib.hid hK; clear hK
                  simp only [putAll, Act.put, List.setIfInBounds_toArray, List.set_cons_zero, List.set_cons_succ]
                  refine (if_pos rfl).mpr (wp_app_c64 _ _ 31 43 rfl Try.underlying31 infoC64 (w.heap.size + 1 + 1 + 1 + 1) _ L x d1 hS.out.row q e4 hq HLL.out hS.out.size ?_)
                  intro v' w2 ho2 hg2 hm2
                  exact HKK.out _ _ ⟨_, by simp only [putAll, Act.put, List.setIfInBounds_toArray, List.set_cons_zero, List.set_cons_succ, d1] <;> rfl, h0, h1, h2, h3, h4, h5, h6, h9, fun _ h => Bool.noConfusion h, fun h => Bool.noConfusion h, fun _ _ => Lib.hid (hS.out.app ho2 hg2), fun h => absurd (hX (show b' 10 = true from h)) (by rw [hun]; decide), hE7_6, hE6_5, hE5_3, fun _ => hall ⟨1, .data⟩ (by simp) rfl, fun _ => hE5_3 (hE6_5 (hE7_6 (hall ⟨7, .data⟩ (by simp) rfl))), fun _ => hE7_6 (hall ⟨7, .data⟩ (by simp) rfl), fun _ => hall ⟨7, .data⟩ (by simp) rfl, fun _ => rfl⟩
                · obtain rfl := Option.some.inj hi
                  clear hi hil
                  refine wpOp_step rfl (fun K hK => ?_)
                  have HKK := Lib.hid hK; clear hK
                  simp only [putAll, Act.put, List.setIfInBounds_toArray, List.set_cons_zero, List.set_cons_succ]
                  go_simp
                  exact HKK.out _ _ ⟨_, by simp only [putAll, Act.put, List.setIfInBounds_toArray, List.set_cons_zero, List.set_cons_succ] <;> rfl, h0, h1, h2, h3, h4, h5, h6, fun _ => rfl, yM, hF, yA, yS, hE7_6, hE6_5, hE5_3, hW1, hW3, hW6, hW7, hX⟩
                · obtain rfl := Option.some.inj hi
                  clear hi hil
                  have d9 := h9 (hall ⟨9, .data⟩ (by simp) rfl)
                  have ta : b' 8 = true := hall ⟨8, .data⟩ (by simp) rfl
                  have oA := yA ta hun
                  have q1 := h1 (hW1 ta)
                  have q3 := h3 (hW3 ta)
                  have q6 := h6 (hW6 ta)
                  obtain ⟨xa, xc, e5⟩ := oA.out.row.shape
                  have hst := oA.out.store
                  rw [e5] at hst
                  generalize (L ++ [x]).length = xn at e5 hst
                  have c2 := oA.out.out.cell 2
                  have f2 := oA.out.out.free 2
                  have lg := oA.out.out.lt
                  simp only [List.getElem?_toArray, List.getElem?_cons_zero, List.getElem?_cons_succ] at c2
                  refine wpOp_step rfl (fun K hK => ?_)
                  have HKK := Lib.hid hK; clear hK
                  simp only [putAll, Act.put, List.setIfInBounds_toArray, List.set_cons_zero, List.set_cons_succ]
                  go_simp
                  exact HKK.out _ _ ⟨undef, by simp only [putAll, Act.put, List.setIfInBounds_toArray, List.set_cons_zero, List.set_cons_succ, d9, e5, q1, q3, q6] <;> rfl, h0, h1, h2, h3, h4, h5, h6, h9, fun _ h => absurd (show b' 8 = false from h) (by rw [ta]; decide), fun h => absurd (show b' 8 = false from h) (by rw [ta]; decide), fun _ h => Bool.noConfusion h, fun _ => Lib.hid (⟨_, hst⟩), hE7_6, hE6_5, hE5_3, hW1, hW3, hW6, hW7, fun _ => ta⟩
                · omega
              · rintro b' vs w9 hall ⟨h0, h1, h2, h3, h4, h5, h6, h9, yM, hF, yA, yS, hE7_6, hE6_5, hE5_3, hW1, hW3, hW6, hW7, hX⟩
                have d0 := h0 (hall 0 (by simp))
                have d1 := h1 (hall 1 (by simp))
                have d2 := h2 (hall 2 (by simp))
                have d3 := h3 (hall 3 (by simp))
                have d4 := h4 (hall 4 (by simp))
                have d5 := h5 (hall 5 (by simp))
                have d6 := h6 (hall 6 (by simp))
                have d9 := h9 (hall 9 (by simp))
                have PP := yS (hall 10 (by simp))
                simp only [putAll, Act.put, List.setIfInBounds_toArray, List.set_cons_zero, List.set_cons_succ, d0, d1, d2, d3, d4, d5, d6, d9]
                clear hall h0 d0 h1 d1 h2 d2 h3 d3 h4 d4 h5 d5 h6 d6 h9 d9 yM hF yA yS hE7_6 hE6_5 hE5_3 hW1 hW3 hW6 hW7 hX
                generalize vs 7 = vM at *
                generalize vs 8 = vA at *
                obtain ⟨v', hv'⟩ := PP.out
                have HV := Lib.hid hv'
                clear PP hv'
                go_wp2_with fail
                exact ⟨⟨k + 1, v', by omega, by go_num, by rw [HTK.out, HPX.out]; exact HV.out⟩, by simp [intOf]; omega⟩
          · have t0 : decide (X ≥ x0) = true := by simp; omega
            have t1 : decide (X < x1) = true := by simp; omega
            have t2 : decide (Y ≥ y0) = false := by simp; omega
            have HPX : Hid (fillPx W x0 y0 x1 y1 c l k = x) := HPX0.out (by rw [HIN.out, t0, t1, t2]; simp)
            clear HPX0 HPX1 HIN n0 n1 n2
            go_wp2_with fail
            refine wp_region_put (by kernel_rfl) (by kernel_rfl) (by kernel_rfl) (fun b' vs w' => (b' 0 = true → vs 0 = .pointer (some ⟨w.heap.size + 1 + 1 + 1, 2, none⟩)) ∧ (b' 1 = true → vs 1 = .slice va vn vc) ∧ (b' 2 = true → vs 2 = .pointer (some ⟨w.heap.size, 2, none⟩)) ∧ (b' 3 = true → vs 3 = .slice (some ⟨d, p, none⟩) n cu) ∧ (b' 4 = true → vs 4 = .int .i64 (k : Int)) ∧ (b' 5 = true → vs 5 = .pointer (some ⟨d, p + k * 4, none⟩)) ∧ (b' 6 = true → vs 6 = .agg #[.int .i64 (x 0), .int .i64 (x 1), .int .i64 (x 2), .int .i64 (x 3)]) ∧ (b' 9 = true → vs 9 = .pointer (some ⟨w.heap.size + 1 + 1 + 1, 2, none⟩)) ∧ (b' 7 = true → b' 8 = false → Hid (OneK .i64 (vs 7) x w')) ∧ (b' 8 = false → Hid (AppS w (w.heap.size + 1 + 1 + 1 + 1) (w.heap.size + 1 + 1 + 1) 33 (.int .i64 W) (.int .i64 H) [(w.heap.size, 33, #[.int .i64 W, .int .i64 H, .slice (some ⟨d, p, none⟩) n cu]), (w.heap.size + 1, 43, c64 c), (w.heap.size + 1 + 1, 33, #[.int .i64 0, .int .i64 0, .slice none 0 0])] (.slice va vn vc) (.slice va vn vc) L w')) ∧ (b' 8 = true → b' 10 = false → Hid (AppS w (w.heap.size + 1 + 1 + 1 + 1) (w.heap.size + 1 + 1 + 1) 33 (.int .i64 W) (.int .i64 H) [(w.heap.size, 33, #[.int .i64 W, .int .i64 H, .slice (some ⟨d, p, none⟩) n cu]), (w.heap.size + 1, 43, c64 c), (w.heap.size + 1 + 1, 33, #[.int .i64 0, .int .i64 0, .slice none 0 0])] (.slice va vn vc) (vs 8) (L ++ [x]) w')) ∧ (b' 10 = true → Hid (∃ v', AppS w (w.heap.size + 1 + 1 + 1 + 1) (w.heap.size + 1 + 1 + 1) 33 (.int .i64 W) (.int .i64 H) [(w.heap.size, 33, #[.int .i64 W, .int .i64 H, .slice (some ⟨d, p, none⟩) n cu]), (w.heap.size + 1, 43, c64 c), (w.heap.size + 1 + 1, 33, #[.int .i64 0, .int .i64 0, .slice none 0 0])] v' v' (L ++ [x]) w')) ∧ (b' 7 = true → b' 6 = true) ∧ (b' 6 = true → b' 5 = true) ∧ (b' 5 = true → b' 3 = true) ∧ (b' 8 = true → b' 1 = true) ∧ (b' 8 = true → b' 3 = true) ∧ (b' 8 = true → b' 6 = true) ∧ (b' 8 = true → b' 7 = true) ∧ (b' 10 = true → b' 8 = true)) ?_ ?_ ?_
            · intro vs
              exact ⟨fun h => Bool.noConfusion h, fun h => Bool.noConfusion h, fun h => Bool.noConfusion h, fun h => Bool.noConfusion h, fun h => Bool.noConfusion h, fun h => Bool.noConfusion h, fun h => Bool.noConfusion h, fun h => Bool.noConfusion h, fun h => Bool.noConfusion h, fun _ => Lib.hid (M2.out.grow ⟨rfl, rfl, rfl, Nat.le_refl _, fun _ _ => rfl⟩), fun h => Bool.noConfusion h, fun h => Bool.noConfusion h, fun h => Bool.noConfusion h, fun h => Bool.noConfusion h, fun h => Bool.noConfusion h, fun h => Bool.noConfusion h, fun h => Bool.noConfusion h, fun h => Bool.noConfusion h, fun h => Bool.noConfusion h, fun h => Bool.noConfusion h⟩
            · rintro b' vs w' i op hi hun hall ⟨h0, h1, h2, h3, h4, h5, h6, h9, yM, hF, yA, yS, hE7_6, hE6_5, hE5_3, hW1, hW3, hW6, hW7, hX⟩
              have hil : i < 11 := (List.getElem?_eq_some_iff.1 hi).1
              rcases i with _ | _ | _ | _ | _ | _ | _ | _ | _ | _ | _ | i
              · obtain rfl := Option.some.inj hi
                clear hi hil
                refine wpOp_step rfl (fun K hK => ?_)
                have HKK := Lib.hid hK; clear hK
                simp only [putAll, Act.put, List.setIfInBounds_toArray, List.set_cons_zero, List.set_cons_succ]
                go_simp
                exact HKK.out _ _ ⟨_, by simp only [putAll, Act.put, List.setIfInBounds_toArray, List.set_cons_zero, List.set_cons_succ] <;> rfl, fun _ => rfl, h1, h2, h3, h4, h5, h6, h9, yM, hF, yA, yS, hE7_6, hE6_5, hE5_3, hW1, hW3, hW6, hW7, hX⟩
              · obtain rfl := Option.some.inj hi
                clear hi hil
                have d0 := h0 (hall ⟨0, .data⟩ (by simp) rfl)
                have na : b' 8 = false := by
                  cases hz : b' 8 with
                  | false => rfl
                  | true => exact absurd (hW1 hz) (by rw [hun]; decide)
                have hS := hF na
                have c2 := hS.out.out.cell 2
                simp only [List.getElem?_toArray, List.getElem?_cons_zero, List.getElem?_cons_succ] at c2
                refine wpOp_step rfl (fun K hK => ?_)
                have HKK := Lib.hid hK; clear hK
                simp only [putAll, Act.put, List.setIfInBounds_toArray, List.set_cons_zero, List.set_cons_succ]
                go_simp
                exact HKK.out _ _ ⟨_, by simp only [putAll, Act.put, List.setIfInBounds_toArray, List.set_cons_zero, List.set_cons_succ, d0] <;> rfl, h0, fun _ => rfl, h2, h3, h4, h5, h6, h9, yM, hF, yA, yS, hE7_6, hE6_5, hE5_3, fun _ => rfl, hW3, hW6, hW7, hX⟩
              · obtain rfl := Option.some.inj hi
                clear hi hil
                refine wpOp_step rfl (fun K hK => ?_)
                have HKK := Lib.hid hK; clear hK
                simp only [putAll, Act.put, List.setIfInBounds_toArray, List.set_cons_zero, List.set_cons_succ]
                go_simp
                exact HKK.out _ _ ⟨_, by simp only [putAll, Act.put, List.setIfInBounds_toArray, List.set_cons_zero, List.set_cons_succ] <;> rfl, h0, h1, fun _ => rfl, h3, h4, h5, h6, h9, yM, hF, yA, yS, hE7_6, hE6_5, hE5_3, hW1, hW3, hW6, hW7, hX⟩
              · obtain rfl := Option.some.inj hi
                clear hi hil
                have d2 := h2 (hall ⟨2, .data⟩ (by simp) rfl)
                have na : b' 8 = false := by
                  cases hz : b' 8 with
                  | false => rfl
                  | true => exact absurd (hW3 hz) (by rw [hun]; decide)
                have hS := hF na
                have c2 := hS.out.lays.1.cell 2
                simp only [List.getElem?_toArray, List.getElem?_cons_zero, List.getElem?_cons_succ] at c2
                refine wpOp_step rfl (fun K hK => ?_)
                have HKK := Lib.hid hK; clear hK
                simp only [putAll, Act.put, List.setIfInBounds_toArray, List.set_cons_zero, List.set_cons_succ]
                go_simp
                exact HKK.out _ _ ⟨_, by simp only [putAll, Act.put, List.setIfInBounds_toArray, List.set_cons_zero, List.set_cons_succ, d2] <;> rfl, h0, h1, h2, fun _ => rfl, h4, h5, h6, h9, yM, hF, yA, yS, hE7_6, hE6_5, fun _ => rfl, hW1, fun _ => rfl, hW6, hW7, hX⟩
              · obtain rfl := Option.some.inj hi
                clear hi hil
                refine wpOp_step rfl (fun K hK => ?_)
                have HKK := Lib.hid hK; clear hK
                simp only [putAll, Act.put, List.setIfInBounds_toArray, List.set_cons_zero, List.set_cons_succ]
                go_simp
                exact HKK.out _ _ ⟨_, by simp only [putAll, Act.put, List.setIfInBounds_toArray, List.set_cons_zero, List.set_cons_succ] <;> rfl, h0, h1, h2, h3, fun _ => rfl, h5, h6, h9, yM, hF, yA, yS, hE7_6, hE6_5, hE5_3, hW1, hW3, hW6, hW7, hX⟩
              · obtain rfl := Option.some.inj hi
                clear hi hil
                have d3 := h3 (hall ⟨3, .data⟩ (by simp) rfl)
                have d4 := h4 (hall ⟨4, .data⟩ (by simp) rfl)
                refine wpOp_step rfl (fun K hK => ?_)
                have HKK := Lib.hid hK; clear hK
                simp only [putAll, Act.put, List.setIfInBounds_toArray, List.set_cons_zero, List.set_cons_succ]
                go_simp
                exact HKK.out _ _ ⟨_, by simp only [putAll, Act.put, List.setIfInBounds_toArray, List.set_cons_zero, List.set_cons_succ, d3, d4] <;> rfl, h0, h1, h2, h3, h4, fun _ => rfl, h6, h9, yM, hF, yA, yS, hE7_6, fun _ => rfl, fun _ => hall ⟨3, .data⟩ (by simp) rfl, hW1, hW3, hW6, hW7, hX⟩
              · obtain rfl := Option.some.inj hi
                clear hi hil
                have d5 := h5 (hall ⟨5, .data⟩ (by simp) rfl)
                have na : b' 8 = false := by
                  cases hz : b' 8 with
                  | false => rfl
                  | true => exact absurd (hW6 hz) (by rw [hun]; decide)
                have hS := hF na
                obtain ⟨c0, c1, c2, c3⟩ := HAT.out w' hS.out.below
                refine wpOp_step rfl (fun K hK => ?_)
                have HKK := Lib.hid hK; clear hK
                simp only [putAll, Act.put, List.setIfInBounds_toArray, List.set_cons_zero, List.set_cons_succ]
                go_simp
                exact HKK.out _ _ ⟨_, by simp only [putAll, Act.put, List.setIfInBounds_toArray, List.set_cons_zero, List.set_cons_succ, d5] <;> rfl, h0, h1, h2, h3, h4, h5, fun _ => rfl, h9, yM, hF, yA, yS, fun _ => rfl, fun _ => hall ⟨5, .data⟩ (by simp) rfl, hE5_3, hW1, hW3, fun _ => rfl, hW7, hX⟩
              · obtain rfl := Option.some.inj hi
                clear hi hil
                have d6 := h6 (hall ⟨6, .data⟩ (by simp) rfl)
                have na : b' 8 = false := by
                  cases hz : b' 8 with
                  | false => rfl
                  | true => exact absurd (hW7 hz) (by rw [hun]; decide)
                have hS := hF na
                refine wpOp_step rfl (fun K hK => ?_)
                have HKK := Lib.hid hK; clear hK
                simp only [putAll, Act.put, List.setIfInBounds_toArray, List.set_cons_zero, List.set_cons_succ]
                go_simp
                have hb2 : Below w'.heap.size w' (w'.alloc (.cells #[.int .i64 (x 0), .int .i64 (x 1), .int .i64 (x 2), .int .i64 (x 3)] 43)) := (Below.refl _ _).alloc (Nat.le_refl _) _
                exact HKK.out _ _ ⟨_, by simp only [putAll, Act.put, List.setIfInBounds_toArray, List.set_cons_zero, List.set_cons_succ, d6] <;> rfl, h0, h1, h2, h3, h4, h5, h6, h9, fun _ _ => Lib.hid (OneK.made .i64 w' x 43), fun ha => Lib.hid (hS.out.grow hb2), fun h => absurd (show b' 8 = true from h) (by rw [na]; decide), fun h => absurd (hX (show b' 10 = true from h)) (by rw [na]; decide), fun _ => hall ⟨6, .data⟩ (by simp) rfl, hE6_5, hE5_3, hW1, hW3, hW6, fun _ => rfl, hX⟩
              · obtain rfl := Option.some.inj hi
                clear hi hil
                have d1 := h1 (hall ⟨1, .data⟩ (by simp) rfl)
                have hS := hF hun
                have oM := yM (hall ⟨7, .data⟩ (by simp) rfl) hun
                obtain ⟨q, e4, hq, hql⟩ := oM.out
                refine wpOp_step rfl (fun K hK => ?_)
                have HKK := Lib.hid hK; clear hK
                simp only [putAll, Act.put, List.setIfInBounds_toArray, List.set_cons_zero, List.set_cons_succ]
                refine (if_pos rfl).mpr (wp_app_c64 _ _ 31 43 rfl Try.underlying31 infoC64 (w.heap.size + 1 + 1 + 1 + 1) _ L x d1 hS.out.row q e4 hq HLL.out hS.out.size ?_)
                intro v' w2 ho2 hg2 hm2
                exact HKK.out _ _ ⟨_, by simp only [putAll, Act.put, List.setIfInBounds_toArray, List.set_cons_zero, List.set_cons_succ, d1] <;> rfl, h0, h1, h2, h3, h4, h5, h6, h9, fun _ h => Bool.noConfusion h, fun h => Bool.noConfusion h, fun _ _ => Lib.hid (hS.out.app ho2 hg2), fun h => absurd (hX (show b' 10 = true from h)) (by rw [hun]; decide), hE7_6, hE6_5, hE5_3, fun _ => hall ⟨1, .data⟩ (by simp) rfl, fun _ => hE5_3 (hE6_5 (hE7_6 (hall ⟨7, .data⟩ (by simp) rfl))), fun _ => hE7_6 (hall ⟨7, .data⟩ (by simp) rfl), fun _ => hall ⟨7, .data⟩ (by simp) rfl, fun _ => rfl⟩
              · obtain rfl := Option.some.inj hi
                clear hi hil
                refine wpOp_step rfl (fun K hK => ?_)
                have HKK := Lib.hid hK; clear hK
                simp only [putAll, Act.put, List.setIfInBounds_toArray, List.set_cons_zero, List.set_cons_succ]
                go_simp
                exact HKK.out _ _ ⟨_, by simp only [putAll, Act.put, List.setIfInBounds_toArray, List.set_cons_zero, List.set_cons_succ] <;> rfl, h0, h1, h2, h3, h4, h5, h6, fun _ => rfl, yM, hF, yA, yS, hE7_6, hE6_5, hE5_3, hW1, hW3, hW6, hW7, hX⟩
              · obtain rfl := Option.some.inj hi
                clear hi hil
                have d9 := h9 (hall ⟨9, .data⟩ (by simp) rfl)
                have ta : b' 8 = true := hall ⟨8, .data⟩ (by simp) rfl
                have oA := yA ta hun
                have q1 := h1 (hW1 ta)
                have q3 := h3 (hW3 ta)
                have q6 := h6 (hW6 ta)
                obtain ⟨xa, xc, e5⟩ := oA.out.row.shape
                have hst := oA.out.store
                rw [e5] at hst
                generalize (L ++ [x]).length = xn at e5 hst
                have c2 := oA.out.out.cell 2
                have f2 := oA.out.out.free 2
                have lg := oA.out.out.lt
                simp only [List.getElem?_toArray, List.getElem?_cons_zero, List.getElem?_cons_succ] at c2
                refine wpOp_step rfl (fun K hK => ?_)
                have HKK := Lib.hid hK; clear hK
                simp only [putAll, Act.put, List.setIfInBounds_toArray, List.set_cons_zero, List.set_cons_succ]
                go_simp
                exact HKK.out _ _ ⟨undef, by simp only [putAll, Act.put, List.setIfInBounds_toArray, List.set_cons_zero, List.set_cons_succ, d9, e5, q1, q3, q6] <;> rfl, h0, h1, h2, h3, h4, h5, h6, h9, fun _ h => absurd (show b' 8 = false from h) (by rw [ta]; decide), fun h => absurd (show b' 8 = false from h) (by rw [ta]; decide), fun _ h => Bool.noConfusion h, fun _ => Lib.hid (⟨_, hst⟩), hE7_6, hE6_5, hE5_3, hW1, hW3, hW6, hW7, fun _ => ta⟩
              · omega
            · rintro b' vs w9 hall ⟨h0, h1, h2, h3, h4, h5, h6, h9, yM, hF, yA, yS, hE7_6, hE6_5, hE5_3, hW1, hW3, hW6, hW7, hX⟩
              have d0 := h0 (hall 0 (by simp))
              have d1 := h1 (hall 1 (by simp))
              have d2 := h2 (hall 2 (by simp))
              have d3 := h3 (hall 3 (by simp))
              have d4 := h4 (hall 4 (by simp))
              have d5 := h5 (hall 5 (by simp))
              have d6 := h6 (hall 6 (by simp))
              have d9 := h9 (hall 9 (by simp))
              have PP := yS (hall 10 (by simp))
              simp only [putAll, Act.put, List.setIfInBounds_toArray, List.set_cons_zero, List.set_cons_succ, d0, d1, d2, d3, d4, d5, d6, d9]
              clear hall h0 d0 h1 d1 h2 d2 h3 d3 h4 d4 h5 d5 h6 d6 h9 d9 yM hF yA yS hE7_6 hE6_5 hE5_3 hW1 hW3 hW6 hW7 hX
              generalize vs 7 = vM at *
              generalize vs 8 = vA at *
              obtain ⟨v', hv'⟩ := PP.out
              have HV := Lib.hid hv'
              clear PP hv'
              go_wp2_with fail
              exact ⟨⟨k + 1, v', by omega, by go_num, by rw [HTK.out, HPX.out]; exact HV.out⟩, by simp [intOf]; omega⟩
        · have t0 : decide (X ≥ x0) = true := by simp; omega
          have t1 : decide (X < x1) = false := by simp; omega
          have HPX : Hid (fillPx W x0 y0 x1 y1 c l k = x) := HPX0.out (by rw [HIN.out, t0, t1]; simp)
          clear HPX0 HPX1 HIN n0 n1
          go_wp2_with fail
          refine wp_region_put (by kernel_rfl) (by kernel_rfl) (by kernel_rfl) (fun b' vs w' => (b' 0 = true → vs 0 = .pointer (some ⟨w.heap.size + 1 + 1 + 1, 2, none⟩)) ∧ (b' 1 = true → vs 1 = .slice va vn vc) ∧ (b' 2 = true → vs 2 = .pointer (some ⟨w.heap.size, 2, none⟩)) ∧ (b' 3 = true → vs 3 = .slice (some ⟨d, p, none⟩) n cu) ∧ (b' 4 = true → vs 4 = .int .i64 (k : Int)) ∧ (b' 5 = true → vs 5 = .pointer (some ⟨d, p + k * 4, none⟩)) ∧ (b' 6 = true → vs 6 = .agg #[.int .i64 (x 0), .int .i64 (x 1), .int .i64 (x 2), .int .i64 (x 3)]) ∧ (b' 9 = true → vs 9 = .pointer (some ⟨w.heap.size + 1 + 1 + 1, 2, none⟩)) ∧ (b' 7 = true → b' 8 = false → Hid (OneK .i64 (vs 7) x w')) ∧ (b' 8 = false → Hid (AppS w (w.heap.size + 1 + 1 + 1 + 1) (w.heap.size + 1 + 1 + 1) 33 (.int .i64 W) (.int .i64 H) [(w.heap.size, 33, #[.int .i64 W, .int .i64 H, .slice (some ⟨d, p, none⟩) n cu]), (w.heap.size + 1, 43, c64 c), (w.heap.size + 1 + 1, 33, #[.int .i64 0, .int .i64 0, .slice none 0 0])] (.slice va vn vc) (.slice va vn vc) L w')) ∧ (b' 8 = true → b' 10 = false → Hid (AppS w (w.heap.size + 1 + 1 + 1 + 1) (w.heap.size + 1 + 1 + 1) 33 (.int .i64 W) (.int .i64 H) [(w.heap.size, 33, #[.int .i64 W, .int .i64 H, .slice (some ⟨d, p, none⟩) n cu]), (w.heap.size + 1, 43, c64 c), (w.heap.size + 1 + 1, 33, #[.int .i64 0, .int .i64 0, .slice none 0 0])] (.slice va vn vc) (vs 8) (L ++ [x]) w')) ∧ (b' 10 = true → Hid (∃ v', AppS w (w.heap.size + 1 + 1 + 1 + 1) (w.heap.size + 1 + 1 + 1) 33 (.int .i64 W) (.int .i64 H) [(w.heap.size, 33, #[.int .i64 W, .int .i64 H, .slice (some ⟨d, p, none⟩) n cu]), (w.heap.size + 1, 43, c64 c), (w.heap.size + 1 + 1, 33, #[.int .i64 0, .int .i64 0, .slice none 0 0])] v' v' (L ++ [x]) w')) ∧ (b' 7 = true → b' 6 = true) ∧ (b' 6 = true → b' 5 = true) ∧ (b' 5 = true → b' 3 = true) ∧ (b' 8 = true → b' 1 = true) ∧ (b' 8 = true → b' 3 = true) ∧ (b' 8 = true → b' 6 = true) ∧ (b' 8 = true → b' 7 = true) ∧ (b' 10 = true → b' 8 = true)) ?_ ?_ ?_
          · intro vs
            exact ⟨fun h => Bool.noConfusion h, fun h => Bool.noConfusion h, fun h => Bool.noConfusion h, fun h => Bool.noConfusion h, fun h => Bool.noConfusion h, fun h => Bool.noConfusion h, fun h => Bool.noConfusion h, fun h => Bool.noConfusion h, fun h => Bool.noConfusion h, fun _ => Lib.hid (M2.out.grow ⟨rfl, rfl, rfl, Nat.le_refl _, fun _ _ => rfl⟩), fun h => Bool.noConfusion h, fun h => Bool.noConfusion h, fun h => Bool.noConfusion h, fun h => Bool.noConfusion h, fun h => Bool.noConfusion h, fun h => Bool.noConfusion h, fun h => Bool.noConfusion h, fun h => Bool.noConfusion h, fun h => Bool.noConfusion h, fun h => Bool.noConfusion h⟩
          · rintro b' vs w' i op hi hun hall ⟨h0, h1, h2, h3, h4, h5, h6, h9, yM, hF, yA, yS, hE7_6, hE6_5, hE5_3, hW1, hW3, hW6, hW7, hX⟩
            have hil : i < 11 := (List.getElem?_eq_some_iff.1 hi).1
            rcases i with _ | _ | _ | _ | _ | _ | _ | _ | _ | _ | _ | i
            · obtain rfl := Option.some.inj hi
              clear hi hil
              refine wpOp_step rfl (fun K hK => ?_)
              have HKK := Lib.hid hK; clear hK
              simp only [putAll, Act.put, List.setIfInBounds_toArray, List.set_cons_zero, List.set_cons_succ]
              go_simp
              exact HKK.out _ _ ⟨_, by simp only [putAll, Act.put, List.setIfInBounds_toArray, List.set_cons_zero, List.set_cons_succ] <;> rfl, fun _ => rfl, h1, h2, h3, h4, h5, h6, h9, yM, hF, yA, yS, hE7_6, hE6_5, hE5_3, hW1, hW3, hW6, hW7, hX⟩
            · obtain rfl := Option.some.inj hi
              clear hi hil
              have d0 := h0 (hall ⟨0, .data⟩ (by simp) rfl)
              have na : b' 8 = false := by
                cases hz : b' 8 with
                | false => rfl
                | true => exact absurd (hW1 hz) (by rw [hun]; decide)
              have hS := hF na
              have c2 := hS.out.out.cell 2
              simp only [List.getElem?_toArray, List.getElem?_cons_zero, List.getElem?_cons_succ] at c2
              refine wpOp_step rfl (fun K hK => ?_)
              have HKK := Lib.hid hK; clear hK
              simp only [putAll, Act.put, List.setIfInBounds_toArray, List.set_cons_zero, List.set_cons_succ]
              go_simp
              exact HKK.out _ _ ⟨_, by simp only [putAll, Act.put, List.setIfInBounds_toArray, List.set_cons_zero, List.set_cons_succ, d0] <;> rfl, h0, fun _ => rfl, h2, h3, h4, h5, h6, h9, yM, hF, yA, yS, hE7_6, hE6_5, hE5_3, fun _ => rfl, hW3, hW6, hW7, hX⟩
            · obtain rfl := Option.some.inj hi
              clear hi hil
              refine wpOp_step rfl (fun K hK => ?_)
              have HKK := Lib.hid hK; clear hK
              simp only [putAll, Act.put, List.setIfInBounds_toArray, List.set_cons_zero, List.set_cons_succ]
              go_simp
              exact HKK.out _ _ ⟨_, by simp only [putAll, Act.put, List.setIfInBounds_toArray, List.set_cons_zero, List.set_cons_succ] <;> rfl, h0, h1, fun _ => rfl, h3, h4, h5, h6, h9, yM, hF, yA, yS, hE7_6, hE6_5, hE5_3, hW1, hW3, hW6, hW7, hX⟩
            · obtain rfl := Option.some.inj hi
              clear hi hil
              have d2 := h2 (hall ⟨2, .data⟩ (by simp) rfl)
              have na : b' 8 = false := by
                cases hz : b' 8 with
                | false => rfl
                | true => exact absurd (hW3 hz) (by rw [hun]; decide)
              have hS := hF na
              have c2 := hS.out.lays.1.cell 2
              simp only [List.getElem?_toArray, List.getElem?_cons_zero, List.getElem?_cons_succ] at c2
              refine wpOp_step rfl (fun K hK => ?_)
              have HKK := Lib.hid hK; clear hK
              simp only [putAll, Act.put, List.setIfInBounds_toArray, List.set_cons_zero, List.set_cons_succ]
              go_simp
              exact HKK.out _ _ ⟨_, by simp only [putAll, Act.put, List.setIfInBounds_toArray, List.set_cons_zero, List.set_cons_succ, d2] <;> rfl, h0, h1, h2, fun _ => rfl, h4, h5, h6, h9, yM, hF, yA, yS, hE7_6, hE6_5, fun _ => rfl, hW1, fun _ => rfl, hW6, hW7, hX⟩
            · obtain rfl := Option.some.inj hi
              clear hi hil
              refine wpOp_step rfl (fun K hK => ?_)
              have HKK := Lib.hid hK; clear hK
              simp only [putAll, Act.put, List.setIfInBounds_toArray, List.set_cons_zero, List.set_cons_succ]
              go_simp
              exact HKK.out _ _ ⟨_, by simp only [putAll, Act.put, List.setIfInBounds_toArray, List.set_cons_zero, List.set_cons_succ] <;> rfl, h0, h1, h2, h3, fun _ => rfl, h5, h6, h9, yM, hF, yA, yS, hE7_6, hE6_5, hE5_3, hW1, hW3, hW6, hW7, hX⟩
            · obtain rfl := Option.some.inj hi
              clear hi hil
              have d3 := h3 (hall ⟨3, .data⟩ (by simp) rfl)
              have d4 := h4 (hall ⟨4, .data⟩ (by simp) rfl)
              refine wpOp_step rfl (fun K hK => ?_)
              have HKK := Lib.hid hK; clear hK
              simp only [putAll, Act.put, List.setIfInBounds_toArray, List.set_cons_zero, List.set_cons_succ]
              go_simp
              exact HKK.out _ _ ⟨_, by simp only [putAll, Act.put, List.setIfInBounds_toArray, List.set_cons_zero, List.set_cons_succ, d3, d4] <;> rfl, h0, h1, h2, h3, h4, fun _ => rfl, h6, h9, yM, hF, yA, yS, hE7_6, fun _ => rfl, fun _ => hall ⟨3, .data⟩ (by simp) rfl, hW1, hW3, hW6, hW7, hX⟩
            · obtain rfl := Option.some.inj hi
              clear hi hil
              have d5 := h5 (hall ⟨5, .data⟩ (by simp) rfl)
              have na : b' 8 = false := by
                cases hz : b' 8 with
                | false => rfl
                | true => exact absurd (hW6 hz) (by rw [hun]; decide)
              have hS := hF na
              obtain ⟨c0, c1, c2, c3⟩ := HAT.out w' hS.out.below
              refine wpOp_step rfl (fun K hK => ?_)
              have HKK := Lib.hid hK; clear hK
              simp only [putAll, Act.put, List.setIfInBounds_toArray, List.set_cons_zero, List.set_cons_succ]
              go_simp
              exact HKK.out _ _ ⟨_, by simp only [putAll, Act.put, List.setIfInBounds_toArray, List.set_cons_zero, List.set_cons_succ, d5] <;> rfl, h0, h1, h2, h3, h4, h5, fun _ => rfl, h9, yM, hF, yA, yS, fun _ => rfl, fun _ => hall ⟨5, .data⟩ (by simp) rfl, hE5_3, hW1, hW3, fun _ => rfl, hW7, hX⟩
            · obtain rfl := Option.some.inj hi
              clear hi hil
              have d6 := h6 (hall ⟨6, .data⟩ (by simp) rfl)
              have na : b' 8 = false := by
                cases hz : b' 8 with
                | false => rfl
                | true => exact absurd (hW7 hz) (by rw [hun]; decide)
              have hS := hF na
              refine wpOp_step rfl (fun K hK => ?_)
              have HKK := Lib.hid hK; clear hK
              simp only [putAll, Act.put, List.setIfInBounds_toArray, List.set_cons_zero, List.set_cons_succ]
              go_simp
              have hb2 : Below w'.heap.size w' (w'.alloc (.cells #[.int .i64 (x 0), .int .i64 (x 1), .int .i64 (x 2), .int .i64 (x 3)] 43)) := (Below.refl _ _).alloc (Nat.le_refl _) _
              exact HKK.out _ _ ⟨_, by simp only [putAll, Act.put, List.setIfInBounds_toArray, List.set_cons_zero, List.set_cons_succ, d6] <;> rfl, h0, h1, h2, h3, h4, h5, h6, h9, fun _ _ => Lib.hid (OneK.made .i64 w' x 43), fun ha => Lib.hid (hS.out.grow hb2), fun h => absurd (show b' 8 = true from h) (by rw [na]; decide), fun h => absurd (hX (show b' 10 = true from h)) (by rw [na]; decide), fun _ => hall ⟨6, .data⟩ (by simp) rfl, hE6_5, hE5_3, hW1, hW3, hW6, fun _ => rfl, hX⟩
            · obtain rfl := Option.some.inj hi
              clear hi hil
              have d1 := h1 (hall ⟨1, .data⟩ (by simp) rfl)
              have hS := hF hun
              have oM := yM (hall ⟨7, .data⟩ (by simp) rfl) hun
              obtain ⟨q, e4, hq, hql⟩ := oM.out
              refine wpOp_step rfl (fun K hK => ?_)
              have HKK := Lib.hid hK; clear hK
              simp only [putAll, Act.put, List.setIfInBounds_toArray, List.set_cons_zero, List.set_cons_succ]
              refine (if_pos rfl).mpr (wp_app_c64 _ _ 31 43 rfl Try.underlying31 infoC64 (w.heap.size + 1 + 1 + 1 + 1) _ L x d1 hS.out.row q e4 hq HLL.out hS.out.size ?_)
              intro v' w2 ho2 hg2 hm2
              exact HKK.out _ _ ⟨_, by simp only [putAll, Act.put, List.setIfInBounds_toArray, List.set_cons_zero, List.set_cons_succ, d1] <;> rfl, h0, h1, h2, h3, h4, h5, h6, h9, fun _ h => Bool.noConfusion h, fun h => Bool.noConfusion h, fun _ _ => Lib.hid (hS.out.app ho2 hg2), fun h => absurd (hX (show b' 10 = true from h)) (by rw [hun]; decide), hE7_6, hE6_5, hE5_3, fun _ => hall ⟨1, .data⟩ (by simp) rfl, fun _ => hE5_3 (hE6_5 (hE7_6 (hall ⟨7, .data⟩ (by simp) rfl))), fun _ => hE7_6 (hall ⟨7, .data⟩ (by simp) rfl), fun _ => hall ⟨7, .data⟩ (by simp) rfl, fun _ => rfl⟩
            · obtain rfl := Option.some.inj hi
              clear hi hil
              refine wpOp_step rfl (fun K hK => ?_)
              have HKK := Lib.hid hK; clear hK
              simp only [putAll, Act.put, List.setIfInBounds_toArray, List.set_cons_zero, List.set_cons_succ]
              go_simp
              exact HKK.out _ _ ⟨_, by simp only [putAll, Act.put, List.setIfInBounds_toArray, List.set_cons_zero, List.set_cons_succ] <;> rfl, h0, h1, h2, h3, h4, h5, h6, fun _ => rfl, yM, hF, yA, yS, hE7_6, hE6_5, hE5_3, hW1, hW3, hW6, hW7, hX⟩
            · obtain rfl := Option.some.inj hi
              clear hi hil
              have d9 := h9 (hall ⟨9, .data⟩ (by simp) rfl)
              have ta : b' 8 = true := hall ⟨8, .data⟩ (by simp) rfl
              have oA := yA ta hun
              have q1 := h1 (hW1 ta)
              have q3 := h3 (hW3 ta)
              have q6 := h6 (hW6 ta)
              obtain ⟨xa, xc, e5⟩ := oA.out.row.shape
              have hst := oA.out.store
              rw [e5] at hst
              generalize (L ++ [x]).length = xn at e5 hst
              have c2 := oA.out.out.cell 2
              have f2 := oA.out.out.free 2
              have lg := oA.out.out.lt
              simp only [List.getElem?_toArray, List.getElem?_cons_zero, List.getElem?_cons_succ] at c2
              refine wpOp_step rfl (fun K hK => ?_)
              have HKK := Lib.hid hK; clear hK
              simp only [putAll, Act.put, List.setIfInBounds_toArray, List.set_cons_zero, List.set_cons_succ]
              go_simp
              exact HKK.out _ _ ⟨undef, by simp only [putAll, Act.put, List.setIfInBounds_toArray, List.set_cons_zero, List.set_cons_succ, d9, e5, q1, q3, q6] <;> rfl, h0, h1, h2, h3, h4, h5, h6, h9, fun _ h => absurd (show b' 8 = false from h) (by rw [ta]; decide), fun h => absurd (show b' 8 = false from h) (by rw [ta]; decide), fun _ h => Bool.noConfusion h, fun _ => Lib.hid (⟨_, hst⟩), hE7_6, hE6_5, hE5_3, hW1, hW3, hW6, hW7, fun _ => ta⟩
            · omega
          · rintro b' vs w9 hall ⟨h0, h1, h2, h3, h4, h5, h6, h9, yM, hF, yA, yS, hE7_6, hE6_5, hE5_3, hW1, hW3, hW6, hW7, hX⟩
            have d0 := h0 (hall 0 (by simp))
            have d1 := h1 (hall 1 (by simp))
            have d2 := h2 (hall 2 (by simp))
            have d3 := h3 (hall 3 (by simp))
            have d4 := h4 (hall 4 (by simp))
            have d5 := h5 (hall 5 (by simp))
            have d6 := h6 (hall 6 (by simp))
            have d9 := h9 (hall 9 (by simp))
            have PP := yS (hall 10 (by simp))
            simp only [putAll, Act.put, List.setIfInBounds_toArray, List.set_cons_zero, List.set_cons_succ, d0, d1, d2, d3, d4, d5, d6, d9]
            clear hall h0 d0 h1 d1 h2 d2 h3 d3 h4 d4 h5 d5 h6 d6 h9 d9 yM hF yA yS hE7_6 hE6_5 hE5_3 hW1 hW3 hW6 hW7 hX
            generalize vs 7 = vM at *
            generalize vs 8 = vA at *
            obtain ⟨v', hv'⟩ := PP.out
            have HV := Lib.hid hv'
            clear PP hv'
            go_wp2_with fail
            exact ⟨⟨k + 1, v', by omega, by go_num, by rw [HTK.out, HPX.out]; exact HV.out⟩, by simp [intOf]; omega⟩
      · have t0 : decide (X ≥ x0) = false := by simp; omega
        have HPX : Hid (fillPx W x0 y0 x1 y1 c l k = x) := HPX0.out (by rw [HIN.out, t0]; simp)
        clear HPX0 HPX1 HIN n0
        go_wp2_with fail
        refine wp_region_put (by kernel_rfl) (by kernel_rfl) (by kernel_rfl) (fun b' vs w' => (b' 0 = true → vs 0 = .pointer (some ⟨w.heap.size + 1 + 1 + 1, 2, none⟩)) ∧ (b' 1 = true → vs 1 = .slice va vn vc) ∧ (b' 2 = true → vs 2 = .pointer (some ⟨w.heap.size, 2, none⟩)) ∧ (b' 3 = true → vs 3 = .slice (some ⟨d, p, none⟩) n cu) ∧ (b' 4 = true → vs 4 = .int .i64 (k : Int)) ∧ (b' 5 = true → vs 5 = .pointer (some ⟨d, p + k * 4, none⟩)) ∧ (b' 6 = true → vs 6 = .agg #[.int .i64 (x 0), .int .i64 (x 1), .int .i64 (x 2), .int .i64 (x 3)]) ∧ (b' 9 = true → vs 9 = .pointer (some ⟨w.heap.size + 1 + 1 + 1, 2, none⟩)) ∧ (b' 7 = true → b' 8 = false → Hid (OneK .i64 (vs 7) x w')) ∧ (b' 8 = false → Hid (AppS w (w.heap.size + 1 + 1 + 1 + 1) (w.heap.size + 1 + 1 + 1) 33 (.int .i64 W) (.int .i64 H) [(w.heap.size, 33, #[.int .i64 W, .int .i64 H, .slice (some ⟨d, p, none⟩) n cu]), (w.heap.size + 1, 43, c64 c), (w.heap.size + 1 + 1, 33, #[.int .i64 0, .int .i64 0, .slice none 0 0])] (.slice va vn vc) (.slice va vn vc) L w')) ∧ (b' 8 = true → b' 10 = false → Hid (AppS w (w.heap.size + 1 + 1 + 1 + 1) (w.heap.size + 1 + 1 + 1) 33 (.int .i64 W) (.int .i64 H) [(w.heap.size, 33, #[.int .i64 W, .int .i64 H, .slice (some ⟨d, p, none⟩) n cu]), (w.heap.size + 1, 43, c64 c), (w.heap.size + 1 + 1, 33, #[.int .i64 0, .int .i64 0, .slice none 0 0])] (.slice va vn vc) (vs 8) (L ++ [x]) w')) ∧ (b' 10 = true → Hid (∃ v', AppS w (w.heap.size + 1 + 1 + 1 + 1) (w.heap.size + 1 + 1 + 1) 33 (.int .i64 W) (.int .i64 H) [(w.heap.size, 33, #[.int .i64 W, .int .i64 H, .slice (some ⟨d, p, none⟩) n cu]), (w.heap.size + 1, 43, c64 c), (w.heap.size + 1 + 1, 33, #[.int .i64 0, .int .i64 0, .slice none 0 0])] v' v' (L ++ [x]) w')) ∧ (b' 7 = true → b' 6 = true) ∧ (b' 6 = true → b' 5 = true) ∧ (b' 5 = true → b' 3 = true) ∧ (b' 8 = true → b' 1 = true) ∧ (b' 8 = true → b' 3 = true) ∧ (b' 8 = true → b' 6 = true) ∧ (b' 8 = true → b' 7 = true) ∧ (b' 10 = true → b' 8 = true)) ?_ ?_ ?_
        · intro vs
          exact ⟨fun h => Bool.noConfusion h, fun h => Bool.noConfusion h, fun h => Bool.noConfusion h, fun h => Bool.noConfusion h, fun h => Bool.noConfusion h, fun h => Bool.noConfusion h, fun h => Bool.noConfusion h, fun h => Bool.noConfusion h, fun h => Bool.noConfusion h, fun _ => Lib.hid (M2.out.grow ⟨rfl, rfl, rfl, Nat.le_refl _, fun _ _ => rfl⟩), fun h => Bool.noConfusion h, fun h => Bool.noConfusion h, fun h => Bool.noConfusion h, fun h => Bool.noConfusion h, fun h => Bool.noConfusion h, fun h => Bool.noConfusion h, fun h => Bool.noConfusion h, fun h => Bool.noConfusion h, fun h => Bool.noConfusion h, fun h => Bool.noConfusion h⟩
        · rintro b' vs w' i op hi hun hall ⟨h0, h1, h2, h3, h4, h5, h6, h9, yM, hF, yA, yS, hE7_6, hE6_5, hE5_3, hW1, hW3, hW6, hW7, hX⟩
          have hil : i < 11 := (List.getElem?_eq_some_iff.1 hi).1
          rcases i with _ | _ | _ | _ | _ | _ | _ | _ | _ | _ | _ | i
          · obtain rfl := Option.some.inj hi
            clear hi hil
            refine wpOp_step rfl (fun K hK => ?_)
            have HKK := Lib.hid hK; clear hK
            simp only [putAll, Act.put, List.setIfInBounds_toArray, List.set_cons_zero, List.set_cons_succ]
            go_simp
            exact HKK.out _ _ ⟨_, by simp only [putAll, Act.put, List.setIfInBounds_toArray, List.set_cons_zero, List.set_cons_succ] <;> rfl, fun _ => rfl, h1, h2, h3, h4, h5, h6, h9, yM, hF, yA, yS, hE7_6, hE6_5, hE5_3, hW1, hW3, hW6, hW7, hX⟩
          · obtain rfl := Option.some.inj hi
            clear hi hil
            have d0 := h0 (hall ⟨0, .data⟩ (by simp) rfl)
            have na : b' 8 = false := by
              cases hz : b' 8 with
              | false => rfl
              | true => exact absurd (hW1 hz) (by rw [hun]; decide)
            have hS := hF na
            have c2 := hS.out.out.cell 2
            simp only [List.getElem?_toArray, List.getElem?_cons_zero, List.getElem?_cons_succ] at c2
            refine wpOp_step rfl (fun K hK => ?_)
            have HKK := Lib.hid hK; clear hK
            simp only [putAll, Act.put, List.setIfInBounds_toArray, List.set_cons_zero, List.set_cons_succ]
            go_simp
            exact HKK.out _ _ ⟨_, by simp only [putAll, Act.put, List.setIfInBounds_toArray, List.set_cons_zero, List.set_cons_succ, d0] <;> rfl, h0, fun _ => rfl, h2, h3, h4, h5, h6, h9, yM, hF, yA, yS, hE7_6, hE6_5, hE5_3, fun _ => rfl, hW3, hW6, hW7, hX⟩
          · obtain rfl := Option.some.inj hi
            clear hi hil
            refine wpOp_step rfl (fun K hK => ?_)
            have HKK := Lib.hid hK; clear hK
            simp only [putAll, Act.put, List.setIfInBounds_toArray, List.set_cons_zero, List.set_cons_succ]
            go_simp
            exact HKK.out _ _ ⟨_, by simp only [putAll, Act.put, List.setIfInBounds_toArray, List.set_cons_zero, List.set_cons_succ] <;> rfl, h0, h1, fun _ => rfl, h3, h4, h5, h6, h9, yM, hF, yA, yS, hE7_6, hE6_5, hE5_3, hW1, hW3, hW6, hW7, hX⟩
          · obtain rfl := Option.some.inj hi
            clear hi hil
            have d2 := h2 (hall ⟨2, .data⟩ (by simp) rfl)
            have na : b' 8 = false := by
              cases hz : b' 8 with
              | false => rfl
              | true => exact absurd (hW3 hz) (by rw [hun]; decide)
            have hS := hF na
            have c2 := hS.out.lays.1.cell 2
            simp only [List.getElem?_toArray, List.getElem?_cons_zero, List.getElem?_cons_succ] at c2
            refine wpOp_step rfl (fun K hK => ?_)
            have HKK := Lib.hid hK; clear hK
            simp only [putAll, Act.put, List.setIfInBounds_toArray, List.set_cons_zero, List.set_cons_succ]
            go_simp
            exact HKK.out _ _ ⟨_, by simp only [putAll, Act.put, List.setIfInBounds_toArray, List.set_cons_zero, List.set_cons_succ, d2] <;> rfl, h0, h1, h2, fun _ => rfl, h4, h5, h6, h9, yM, hF, yA, yS, hE7_6, hE6_5, fun _ => rfl, hW1, fun _ => rfl, hW6, hW7, hX⟩
          · obtain rfl := Option.some.inj hi
            clear hi hil
            refine wpOp_step rfl (fun K hK => ?_)
            have HKK := Lib.hid hK; clear hK
            simp only [putAll, Act.put, List.setIfInBounds_toArray, List.set_cons_zero, List.set_cons_succ]
            go_simp
            exact HKK.out _ _ ⟨_, by simp only [putAll, Act.put, List.setIfInBounds_toArray, List.set_cons_zero, List.set_cons_succ] <;> rfl, h0, h1, h2, h3, fun _ => rfl, h5, h6, h9, yM, hF, yA, yS, hE7_6, hE6_5, hE5_3, hW1, hW3, hW6, hW7, hX⟩
          · obtain rfl := Option.some.inj hi
            clear hi hil
            have d3 := h3 (hall ⟨3, .data⟩ (by simp) rfl)
            have d4 := h4 (hall ⟨4, .data⟩ (by simp) rfl)
            refine wpOp_step rfl (fun K hK => ?_)
            have HKK := Lib.hid hK; clear hK
            simp only [putAll, Act.put, List.setIfInBounds_toArray, List.set_cons_zero, List.set_cons_succ]
            go_simp
            exact HKK.out _ _ ⟨_, by simp only [putAll, Act.put, List.setIfInBounds_toArray, List.set_cons_zero, List.set_cons_succ, d3, d4] <;> rfl, h0, h1, h2, h3, h4, fun _ => rfl, h6, h9, yM, hF, yA, yS, hE7_6, fun _ => rfl, fun _ => hall ⟨3, .data⟩ (by simp) rfl, hW1, hW3, hW6, hW7, hX⟩
          · obtain rfl := Option.some.inj hi
            clear hi hil
            have d5 := h5 (hall ⟨5, .data⟩ (by simp) rfl)
            have na : b' 8 = false := by
              cases hz : b' 8 with
              | false => rfl
              | true => exact absurd (hW6 hz) (by rw [hun]; decide)
            have hS := hF na
            obtain ⟨c0, c1, c2, c3⟩ := HAT.out w' hS.out.below
            refine wpOp_step rfl (fun K hK => ?_)
            have HKK := Lib.hid hK; clear hK
            simp only [putAll, Act.put, List.setIfInBounds_toArray, List.set_cons_zero, List.set_cons_succ]
            go_simp
            exact HKK.out _ _ ⟨_, by simp only [putAll, Act.put, List.setIfInBounds_toArray, List.set_cons_zero, List.set_cons_succ, d5] <;> rfl, h0, h1, h2, h3, h4, h5, fun _ => rfl, h9, yM, hF, yA, yS, fun _ => rfl, fun _ => hall ⟨5, .data⟩ (by simp) rfl, hE5_3, hW1, hW3, fun _ => rfl, hW7, hX⟩
          · obtain rfl := Option.some.inj hi
            clear hi hil
            have d6 := h6 (hall ⟨6, .data⟩ (by simp) rfl)
            have na : b' 8 = false := by
              cases hz : b' 8 with
              | false => rfl
              | true => exact absurd (hW7 hz) (by rw [hun]; decide)
            have hS := hF na
            refine wpOp_step rfl (fun K hK => ?_)
            have HKK := Lib.hid hK; clear hK
            simp only [putAll, Act.put, List.setIfInBounds_toArray, List.set_cons_zero, List.set_cons_succ]
            go_simp
            have hb2 : Below w'.heap.size w' (w'.alloc (.cells #[.int .i64 (x 0), .int .i64 (x 1), .int .i64 (x 2), .int .i64 (x 3)] 43)) := (Below.refl _ _).alloc (Nat.le_refl _) _
            exact HKK.out _ _ ⟨_, by simp only [putAll, Act.put, List.setIfInBounds_toArray, List.set_cons_zero, List.set_cons_succ, d6] <;> rfl, h0, h1, h2, h3, h4, h5, h6, h9, fun _ _ => Lib.hid (OneK.made .i64 w' x 43), fun ha => Lib.hid (hS.out.grow hb2), fun h => absurd (show b' 8 = true from h) (by rw [na]; decide), fun h => absurd (hX (show b' 10 = true from h)) (by rw [na]; decide), fun _ => hall ⟨6, .data⟩ (by simp) rfl, hE6_5, hE5_3, hW1, hW3, hW6, fun _ => rfl, hX⟩
          · obtain rfl := Option.some.inj hi
            clear hi hil
            have d1 := h1 (hall ⟨1, .data⟩ (by simp) rfl)
            have hS := hF hun
            have oM := yM (hall ⟨7, .data⟩ (by simp) rfl) hun
            obtain ⟨q, e4, hq, hql⟩ := oM.out
            refine wpOp_step rfl (fun K hK => ?_)
            have HKK := Lib.hid hK; clear hK
            simp only [putAll, Act.put, List.setIfInBounds_toArray, List.set_cons_zero, List.set_cons_succ]
            refine (if_pos rfl).mpr (wp_app_c64 _ _ 31 43 rfl Try.underlying31 infoC64 (w.heap.size + 1 + 1 + 1 + 1) _ L x d1 hS.out.row q e4 hq HLL.out hS.out.size ?_)
            intro v' w2 ho2 hg2 hm2
            exact HKK.out _ _ ⟨_, by simp only [putAll, Act.put, List.setIfInBounds_toArray, List.set_cons_zero, List.set_cons_succ, d1] <;> rfl, h0, h1, h2, h3, h4, h5, h6, h9, fun _ h => Bool.noConfusion h, fun h => Bool.noConfusion h, fun _ _ => Lib.hid (hS.out.app ho2 hg2), fun h => absurd (hX (show b' 10 = true from h)) (by rw [hun]; decide), hE7_6, hE6_5, hE5_3, fun _ => hall ⟨1, .data⟩ (by simp) rfl, fun _ => hE5_3 (hE6_5 (hE7_6 (hall ⟨7, .data⟩ (by simp) rfl))), fun _ => hE7_6 (hall ⟨7, .data⟩ (by simp) rfl), fun _ => hall ⟨7, .data⟩ (by simp) rfl, fun _ => rfl⟩
          · obtain rfl := Option.some.inj hi
            clear hi hil
            refine wpOp_step rfl (fun K hK => ?_)
            have HKK := Lib.hid hK; clear hK
            simp only [putAll, Act.put, List.setIfInBounds_toArray, List.set_cons_zero, List.set_cons_succ]
            go_simp
            exact HKK.out _ _ ⟨_, by simp only [putAll, Act.put, List.setIfInBounds_toArray, List.set_cons_zero, List.set_cons_succ] <;> rfl, h0, h1, h2, h3, h4, h5, h6, fun _ => rfl, yM, hF, yA, yS, hE7_6, hE6_5, hE5_3, hW1, hW3, hW6, hW7, hX⟩
          · obtain rfl := Option.some.inj hi
            clear hi hil
            have d9 := h9 (hall ⟨9, .data⟩ (by simp) rfl)
            have ta : b' 8 = true := hall ⟨8, .data⟩ (by simp) rfl
            have oA := yA ta hun
            have q1 := h1 (hW1 ta)
            have q3 := h3 (hW3 ta)
            have q6 := h6 (hW6 ta)
            obtain ⟨xa, xc, e5⟩ := oA.out.row.shape
            have hst := oA.out.store
            rw [e5] at hst
            generalize (L ++ [x]).length = xn at e5 hst
            have c2 := oA.out.out.cell 2
            have f2 := oA.out.out.free 2
            have lg := oA.out.out.lt
            simp only [List.getElem?_toArray, List.getElem?_cons_zero, List.getElem?_cons_succ] at c2
            refine wpOp_step rfl (fun K hK => ?_)
            have HKK := Lib.hid hK; clear hK
            simp only [putAll, Act.put, List.setIfInBounds_toArray, List.set_cons_zero, List.set_cons_succ]
            go_simp
            exact HKK.out _ _ ⟨undef, by simp only [putAll, Act.put, List.setIfInBounds_toArray, List.set_cons_zero, List.set_cons_succ, d9, e5, q1, q3, q6] <;> rfl, h0, h1, h2, h3, h4, h5, h6, h9, fun _ h => absurd (show b' 8 = false from h) (by rw [ta]; decide), fun h => absurd (show b' 8 = false from h) (by rw [ta]; decide), fun _ h => Bool.noConfusion h, fun _ => Lib.hid (⟨_, hst⟩), hE7_6, hE6_5, hE5_3, hW1, hW3, hW6, hW7, fun _ => ta⟩
          · omega
        · rintro b' vs w9 hall ⟨h0, h1, h2, h3, h4, h5, h6, h9, yM, hF, yA, yS, hE7_6, hE6_5, hE5_3, hW1, hW3, hW6, hW7, hX⟩
          have d0 := h0 (hall 0 (by simp))
          have d1 := h1 (hall 1 (by simp))
          have d2 := h2 (hall 2 (by simp))
          have d3 := h3 (hall 3 (by simp))
          have d4 := h4 (hall 4 (by simp))
          have d5 := h5 (hall 5 (by simp))
          have d6 := h6 (hall 6 (by simp))
          have d9 := h9 (hall 9 (by simp))
          have PP := yS (hall 10 (by simp))
          simp only [putAll, Act.put, List.setIfInBounds_toArray, List.set_cons_zero, List.set_cons_succ, d0, d1, d2, d3, d4, d5, d6, d9]
          clear hall h0 d0 h1 d1 h2 d2 h3 d3 h4 d4 h5 d5 h6 d6 h9 d9 yM hF yA yS hE7_6 hE6_5 hE5_3 hW1 hW3 hW6 hW7 hX
          generalize vs 7 = vM at *
          generalize vs 8 = vA at *
          obtain ⟨v', hv'⟩ := PP.out
          have HV := Lib.hid hv'
          clear PP hv'
          go_wp2_with fail
          exact ⟨⟨k + 1, v', by omega, by go_num, by rw [HTK.out, HPX.out]; exact HV.out⟩, by simp [intOf]; omega⟩
    · have hd : decide ((k : Int) < (n : Int)) = false := by simp; omega
      obtain rfl : n = k := by omega
      have HR := Lib.hid hw.out.row
      have d0 := hw.out.out.cell 0
      have d1 := hw.out.out.cell 1
      have d2 := hw.out.out.cell 2
      have z0 := hw.out.lays.2.2.1.cell 0
      have z1 := hw.out.lays.2.2.1.cell 1
      have z2 := hw.out.lays.2.2.1.cell 2
      have f0 := hw.out.lays.2.2.1.free 0
      have f1 := hw.out.lays.2.2.1.free 1
      have f2 := hw.out.lays.2.2.1.free 2
      have lg := hw.out.lays.2.2.1.lt
      simp only [List.getElem?_toArray, List.getElem?_cons_zero, List.getElem?_cons_succ] at d0 d1 d2 z0 z1 z2 lg f0 f1 f2
      obtain ⟨va, vc, rfl⟩ := HR.out.shape
      generalize (fillL W x0 y0 x1 y1 c l n).length = vn at *
      go_wp2_with fail
      exact bodyPost_ret (results_im 12 rfl rfl (((hw.out.lays.2.2.1.set 0 _).set 1 _).set 2 _)) rfl ⟨_, rfl, (((HR.out.setCell (by omega) _).setCell (by omega) _).setCell (by omega) _).base (by omega), ((hw.out.below.setCell (by simp; omega) _).setCell (by simp; omega) _).setCell (by simp; omega) _⟩
end Go.Proofs.Ytoppmlfibllhlaa

