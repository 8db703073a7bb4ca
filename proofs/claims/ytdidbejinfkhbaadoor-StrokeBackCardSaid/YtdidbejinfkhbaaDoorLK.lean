/- Layer 7: the law StrokeBack. -/
import Derived.Test.YtdidbejinfkhbaaDoorTj
import Derived.Test.YtdidbejinfkhbaaDoorSh
namespace Go.Proofs.YtdidbejinfkhbaaDoor
open Go.RowKit
set_option maxHeartbeats 4000000 in
set_option maxRecDepth 100000 in
theorem back_many (ao : Option Addr) (n c : Nat) (cl : Bool) (h cap : Int) (w : World) (HAW : Hid (∀ w, Calls Tryd.prog 10 #[] w fun e w' => e = .returned (.bool true) ∧ Below w.heap.size w w')) (hn : n > 20) :
    Calls Tryd.prog 7 #[.agg #[.slice ao n c, .bool cl], .int .i64 h, .int .i64 cap] w fun e w' => e = .returned (.bool true) ∧ Below w.heap.size w w' := by
  go_enter Tryd.func7, Tryd.ntmps7
  go_wp2_with fail
  have B0 : Hid (Below w.heap.size w (w.alloc (.cells #[.slice ao n c, .bool cl] 39))) := (Below.refl _ _).alloc (Nat.le_refl _) _
  refine (HAW.out _).mono ?_
  rintro e w9 ⟨rfl, hb9⟩
  have B9 : Hid (Below w.heap.size w w9) := B0.out.trans (hb9.mono B0.out.size)
  clear hb9
  go_wp2_with fail
  go_ret
  exact ⟨rfl, B9.out⟩
/-- What lies in memory: the subpath, and the one with points told twice. -/
structure BackM (w W : World) (ao : Option Addr) (n c : Nat) (cl : Bool) (u : Value) (T : List Pt) : Prop where
  below : Below w.heap.size w W
  box : Blk W w.heap.size 39 #[.slice ao n c, .bool cl]
  two : Blk W (w.heap.size + 1) 39 #[u, .bool cl]
  own : Own W w.heap.size 23 u T
theorem BackM.grow {w W W' : World} {ao : Option Addr} {n c : Nat} {cl : Bool} {u : Value} {T : List Pt} (h : BackM w W ao n c cl u T) (hb : Below W.heap.size W W') : BackM w W' ao n c cl u T := ⟨below_next h.below hb, h.box.grow hb, h.two.grow hb, h.own.grow hb⟩
/-- Two polygons in memory, of the same points. -/
structure BkM (w : World) (gA gB m : Nat) (aA : Option Addr) (nA kA : Nat) (aB : Option Addr) (nB kB : Nat) (L : List Pt) : Prop where
  cA : w.cell? ⟨gA, m, none⟩ = some (.slice aA nA kA)
  cB : w.cell? ⟨gB, m, none⟩ = some (.slice aB nB kB)
  rA : Row w (.slice aA nA kA) L
  rB : Row w (.slice aB nB kB) L
  lA : gA < w.heap.size
  lB : gB < w.heap.size
theorem BkM.grow {w w' : World} {gA gB m : Nat} {aA : Option Addr} {nA kA : Nat} {aB : Option Addr} {nB kB : Nat} {L : List Pt} (h : BkM w gA gB m aA nA kA aB nB kB L) (hb : Below w.heap.size w w') : BkM w' gA gB m aA nA kA aB nB kB L :=
  ⟨(cell_below hb h.lA).trans h.cA, (cell_below hb h.lB).trans h.cB, h.rA.on hb, h.rB.on hb, Nat.lt_of_lt_of_le h.lA hb.size, Nat.lt_of_lt_of_le h.lB hb.size⟩
set_option maxHeartbeats 4000000 in
set_option maxRecDepth 100000 in
theorem back_small (ao : Option Addr) (n c : Nat) (cl : Bool) (h cap : Int) (w : World) (HAW : Hid (∀ w, Calls Tryd.prog 10 #[] w fun e w' => e = .returned (.bool true) ∧ Below w.heap.size w w')) (hn : ¬ n > 20) (l : List Pt) (HROW : Hid (Row w (.slice ao n c) l)) (HN : Hid (l.length = n)) (z : Int) (PP : List (List Pt))
    (HST1 : Hid (∀ w', Below w.heap.size w w' → Calls Tryd.prog 17 #[.agg #[.slice ao n c, .bool cl], .int .i64 h, .int .i64 cap] w' (ToldQ w'.heap.size w' (z, PP))))
    (HST2 : Hid (∀ u w', Row w' u (twiceL l) → Below w.heap.size w w' → Calls Tryd.prog 17 #[.agg #[u, .bool cl], .int .i64 h, .int .i64 cap] w' (ToldQ w'.heap.size w' (z, PP))))
    (HLEN : Hid (∀ L ∈ PP, L.length ≤ 16)) (hn2 : n < 2) :
    Calls Tryd.prog 7 #[.agg #[.slice ao n c, .bool cl], .int .i64 h, .int .i64 cap] w fun e w' => e = .returned (.bool true) ∧ Below w.heap.size w w' := by
  go_enter Tryd.func7, Tryd.ntmps7
  go_wp2_with fail
  have M0 : Hid (BackM w ((w.alloc (.cells #[.slice ao n c, .bool cl] 39)).alloc (.cells #[.slice none 0 0, .bool cl] 39)) ao n c cl (.slice none 0 0) []) :=
    ⟨((Below.refl _ _).alloc (Nat.le_refl _) _).alloc (by simp) _, (Blk.new _ _ _).alloc _, Blk.newAt _ _ _ (by simp), Own.nil _ _ _⟩
  go_loopw [30] (fun i wr => ∃ (k : Nat) (u : Value), k ≤ n ∧ i = .int .i64 k ∧ Hid (BackM w wr ao n c cl u (twiceL (l.take k)))) (fun i _ => n - (intOf i).toNat)
  case atStart => exact ⟨0, _, by omega, rfl, M0.out⟩
  case round =>
    obtain ⟨k, u, hk, rfl, hw⟩ := hrel
    by_cases hlt : k < n
    · have hd : decide ((k : Int) < (n : Int)) = true := by simp; omega
      have hne : l ≠ [] := fun e => by have := HN.out; rw [e] at this; simp at this; omega
      obtain ⟨b', o', rfl, _, _⟩ := Row.addr HROW.out (k := k) (by rw [HN.out]; exact hlt)
      obtain ⟨⟨x, y⟩, hp⟩ : ∃ p, l[k]? = some p := ⟨_, List.getElem?_eq_getElem (by rw [HN.out]; exact hlt)⟩
      obtain ⟨c0, c1⟩ := (HROW.out.on hw.out.below).pts hp
      have HP := Lib.hid hp
      obtain ⟨ua, un, uc, rfl⟩ := own_shape' hw.out.own
      have t0 : wr.cell? ⟨w.heap.size + 1, 0, none⟩ = some (.slice ua un uc) := hw.out.two.cell 0
      have f0 := hw.out.two.free 0
      have lt0 := hw.out.two.lt
      simp only at c0 c1
      have AX : Hid (Below wr.heap.size wr ((wr.alloc (.cells #[.int .i64 x, .int .i64 y] 23)).alloc (.cells #[.int .i64 x, .int .i64 y, .int .i64 x, .int .i64 y] 23))) := ((Below.refl _ _).alloc (Nat.le_refl _) _).alloc (by simp) _
      have OWX : Hid (Own ((wr.alloc (.cells #[.int .i64 x, .int .i64 y] 23)).alloc (.cells #[.int .i64 x, .int .i64 y, .int .i64 x, .int .i64 y] 23)) w.heap.size 23 (.slice ua un uc) (twiceL (l.take k))) := hw.out.own.grow AX.out
      have ROWX : Hid (Row ((wr.alloc (.cells #[.int .i64 x, .int .i64 y] 23)).alloc (.cells #[.int .i64 x, .int .i64 y, .int .i64 x, .int .i64 y] 23)) (.slice (some ⟨wr.heap.size + 1, 0, none⟩) 2 2) [(x, y), (x, y)]) := by
        have := Row.new (wr.alloc (.cells #[.int .i64 x, .int .i64 y] 23)) [(x, y), (x, y)] 23 #[.int .i64 x, .int .i64 y, .int .i64 x, .int .i64 y] 2 rfl rfl
        rw [show (wr.alloc (.cells #[.int .i64 x, .int .i64 y] 23)).heap.size = wr.heap.size + 1 by simp] at this
        exact this
      have HLX : Hid ((twiceL (l.take k)).length + [(x, y), (x, y)].length ≤ 100000) := by unfold Hid; rw [twiceL_length, List.length_take, HN.out]; simp; omega
      have HBX : Hid (w.heap.size ≤ ((wr.alloc (.cells #[.int .i64 x, .int .i64 y] 23)).alloc (.cells #[.int .i64 x, .int .i64 y, .int .i64 x, .int .i64 y] 23)).heap.size) := Nat.le_trans hw.out.below.size AX.out.size
      clear hp hne
      go_wp2_with (at_builtin; refine wpList_append_pts rfl _ _ 24 23 rfl Tryd.underlying24 infoP w.heap.size _ _ rfl OWX.out _ [(x, y), (x, y)] rfl ROWX.out HLX.out HBX.out ?_)
      intro v' w5 hown hgrow _
      have HT : Hid (twiceL (l.take (k + 1)) = twiceL (l.take k) ++ [(x, y), (x, y)]) := by
        unfold Hid
        rw [List.take_add_one, HP.out, twiceL_append]; rfl
      have KX := Lib.hid ((Keep.of_below (S := fun j => (Value.slice ua un uc).ownBlock ≠ some j) AX.out).trans (Keep.of_grown hgrow))
      have O5 := Lib.hid hown
      have BX5 : Hid (Blk w5 w.heap.size 39 #[.slice (some ⟨b', o', none⟩) n c, .bool cl]) := KX.out.blk hw.out.box (owns_off hw.out.own hw.out.box (by decide))
      have TW5 : Hid (Blk w5 (w.heap.size + 1) 39 #[.slice ua un uc, .bool cl]) := KX.out.blk hw.out.two (owns_off hw.out.own hw.out.two (by decide))
      have B5 : Hid (Below w.heap.size w w5) := hw.out.below.trans (KX.out.below (fun j hj e => by have := (hw.out.own.lt j e).1; omega) hw.out.below.size)
      obtain ⟨va, vn, vc, rfl⟩ := own_shape' hown
      clear hown hgrow c0 c1 t0 f0 lt0
      have t0 : w5.cell? ⟨w.heap.size + 1, 0, none⟩ = some (.slice ua un uc) := TW5.out.cell 0
      have f0 := TW5.out.free 0
      have lt0 := TW5.out.lt
      have M6 : Hid (BackM w (w5.setCell ⟨w.heap.size + 1, 0, none⟩ (.slice va vn vc)) (some ⟨b', o', none⟩) n c cl (.slice va vn vc) (twiceL (l.take k) ++ [(x, y), (x, y)])) :=
        ⟨B5.out.setCell (by dsimp only; omega) _, BX5.out.other _ _ (by simp), TW5.out.put 0 _ _ rfl, World.ownsRow.kept O5.out (grownBy_set _ _ _) (.inr (owns_off O5.out TW5.out (by decide)))⟩
      rw [← HT.out] at M6
      go_wp2_with fail
      exact ⟨⟨k + 1, _, by omega, by go_num, M6.out⟩, by simp [intOf]; omega⟩
    · have hd : decide ((k : Int) < (n : Int)) = false := by simp; omega
      have hkn : k = n := by omega
      have M1 : Hid (BackM w wr ao n c cl u (twiceL l)) := by
        have := hw.out
        rw [hkn, ← HN.out, List.take_length, HN.out] at this
        exact this
      clear hw hkn
      obtain ⟨ua, un, uc, rfl⟩ := own_shape' M1.out.own
      have s0 : wr.cell? ⟨w.heap.size, 0, none⟩ = some (.slice ao n c) := M1.out.box.cell 0
      have s1 : wr.cell? ⟨w.heap.size, 1, none⟩ = some (.bool cl) := M1.out.box.cell 1
      obtain ⟨wz, rfl⟩ : ∃ x, x = wr := ⟨_, rfl⟩
      go_wp2_with fail
      refine (HST1.out _ M1.out.below).mono ?_
      rintro e w4 ⟨v4, S1, rfl, p1, e1, b1⟩
      have e1 : S1.map Prod.snd = PP := e1
      have P1 := Lib.hid p1
      have E1 := Lib.hid e1
      have M4 := Lib.hid (M1.out.grow b1)
      have s2 : w4.cell? ⟨w.heap.size + 1, 0, none⟩ = some (.slice ua un uc) := M4.out.two.cell 0
      have s3 : w4.cell? ⟨w.heap.size + 1, 1, none⟩ = some (.bool cl) := M4.out.two.cell 1
      obtain ⟨a1, k1, rfl⟩ : ∃ a k, v4 = .slice a PP.length k := by
        rw [← e1, List.length_map]; exact polys_shape p1
      clear p1 e1 b1 s0 s1
      go_wp2_with fail
      refine (HST2.out _ _ M4.out.own.row M4.out.below).mono ?_
      rintro e w5 ⟨v5, S2, rfl, p2, e2, b2⟩
      have e2 : S2.map Prod.snd = PP := e2
      have P2 := Lib.hid p2
      have E2 := Lib.hid e2
      have P1 := Lib.hid (P1.out.grow b2)
      have M5 := Lib.hid (M4.out.grow b2)
      obtain ⟨a2, k2, rfl⟩ : ∃ a k, v5 = .slice a PP.length k := by
        rw [← e2, List.length_map]; exact polys_shape p2
      have HQ1 : Hid (S1.length = PP.length) := by unfold Hid; rw [← E1.out, List.length_map]
      have HQ2 : Hid (S2.length = PP.length) := by unfold Hid; rw [← E2.out, List.length_map]
      have hq3 : PP.length ≤ 9223372036854775807 := by have := (own_lim P1.out.row); have := HQ1.out; unfold maxLen at *; omega
      clear p2 e2 b2 s2 s3
      obtain ⟨q, hq⟩ : ∃ q, PP.length = q := ⟨_, rfl⟩
      rw [hq] at HQ1 HQ2 hq3 P1 P2 ⊢
      have HQ := Lib.hid hq
      clear hq
      go_wp2_with fail
      go_loopw [68] (fun i wr => ∃ m : Nat, m ≤ q ∧ i = .int .i64 m ∧ Hid (Below w5.heap.size w5 wr)) (fun i _ => q - (intOf i).toNat)
      case atStart => exact ⟨0, by omega, rfl, Below.refl _ _⟩
      case round =>
        obtain ⟨m, hm, rfl, hv⟩ := hrel
        by_cases hlt2 : m < q
        · have hd2 : decide ((m : Int) < (q : Int)) = true := by simp; omega
          obtain ⟨⟨vA, LA⟩, hxA⟩ : ∃ x, S1[m]? = some x := ⟨_, List.getElem?_eq_getElem (by rw [HQ1.out]; exact hlt2)⟩
          obtain ⟨⟨vB, LB⟩, hxB⟩ : ∃ x, S2[m]? = some x := ⟨_, List.getElem?_eq_getElem (by rw [HQ2.out]; exact hlt2)⟩
          have eA : PP[m]? = some LA := by rw [← E1.out, List.getElem?_map, hxA]; rfl
          have eB : PP[m]? = some LB := by rw [← E2.out, List.getElem?_map, hxB]; rfl
          obtain rfl : LA = LB := by rw [eA] at eB; exact Option.some.inj eB
          have HL16 : Hid (LA.length ≤ 16) := HLEN.out LA (List.mem_of_getElem? eA)
          have PA := Lib.hid (P1.out.grow hv.out)
          have PB := Lib.hid (P2.out.grow hv.out)
          obtain ⟨gA, rfl, hgA, cA⟩ := polys_cell PA.out HQ1.out hxA
          obtain ⟨gB, rfl, hgB, cB⟩ := polys_cell PB.out HQ2.out hxB
          have OA := Lib.hid (PA.out.own _ (List.mem_of_getElem? hxA))
          have OB := Lib.hid (PB.out.own _ (List.mem_of_getElem? hxB))
          simp only at OA OB cA cB
          obtain ⟨aA, nA, kA, rfl⟩ := own_shape' OA.out
          obtain ⟨aB, nB, kB, rfl⟩ := own_shape' OB.out
          have FW : Hid (BkM wr gA gB m aA nA kA aB nB kB LA) := ⟨cA, cB, OA.out.row, OB.out.row, hgA, hgB⟩
          clear eA eB hxA hxB cA cB hgA hgB
          go_wp2_with fail
          refine wp_region_put (by kernel_rfl) (by kernel_rfl) (by kernel_rfl) (fun b' vs w' => (b' 0 = true → vs 0 = .slice (some ⟨gA, 0, none⟩) q k1) ∧ (b' 1 = true → vs 1 = .int .i64 (m : Int)) ∧ (b' 2 = true → vs 2 = .pointer (some ⟨gA, m, none⟩)) ∧ (b' 3 = true → vs 3 = .slice aA nA kA) ∧ (b' 4 = true → vs 4 = .slice (some ⟨gB, 0, none⟩) q k2) ∧ (b' 5 = true → vs 5 = .int .i64 (m : Int)) ∧ (b' 6 = true → vs 6 = .pointer (some ⟨gB, m, none⟩)) ∧ (b' 7 = true → vs 7 = .slice aB nB kB) ∧ (b' 9 = true → vs 9 = .bool true) ∧ (b' 10 = true → vs 10 = .bool false) ∧ (b' 8 = true → Hid (Row w' (vs 8) LA)) ∧ (Hid (Below wr.heap.size wr w' ∧ wr.heap.size ≤ w'.heap.size)) ∧ (Hid (BkM w' gA gB m aA nA kA aB nB kB LA))) ?_ ?_ ?_
          · intro vs
            exact ⟨fun h => Bool.noConfusion h, fun h => Bool.noConfusion h, fun h => Bool.noConfusion h, fun h => Bool.noConfusion h, fun h => Bool.noConfusion h, fun h => Bool.noConfusion h, fun h => Bool.noConfusion h, fun h => Bool.noConfusion h, fun h => Bool.noConfusion h, fun h => Bool.noConfusion h, fun h => Bool.noConfusion h, Lib.hid ⟨below_drewN (Below.refl _ _) 1, Nat.le_refl _⟩, Lib.hid (FW.out.grow ⟨rfl, rfl, rfl, Nat.le_refl _, fun _ _ => rfl⟩)⟩
          · rintro b' vs w' i op hi hun hall ⟨h0, h1, h2, h3, h4, h5, h6, h7, h9, h10, y8, hB, hF⟩
            have hil : i < 11 := (List.getElem?_eq_some_iff.1 hi).1
            rcases i with _ | _ | _ | _ | _ | _ | _ | _ | _ | _ | _ | i
            · obtain rfl := Option.some.inj hi
              clear hi hil
              refine wpOp_step rfl (fun K hK => ?_)
              have HKK := Lib.hid hK; clear hK
              simp only [putAll, Act.put, List.setIfInBounds_toArray, List.set_cons_zero, List.set_cons_succ]
              go_simp
              exact HKK.out _ _ ⟨_, by simp only [putAll, Act.put, List.setIfInBounds_toArray, List.set_cons_zero, List.set_cons_succ] <;> rfl, fun _ => rfl, h1, h2, h3, h4, h5, h6, h7, h9, h10, y8, hB, hF⟩
            · obtain rfl := Option.some.inj hi
              clear hi hil
              refine wpOp_step rfl (fun K hK => ?_)
              have HKK := Lib.hid hK; clear hK
              simp only [putAll, Act.put, List.setIfInBounds_toArray, List.set_cons_zero, List.set_cons_succ]
              go_simp
              exact HKK.out _ _ ⟨_, by simp only [putAll, Act.put, List.setIfInBounds_toArray, List.set_cons_zero, List.set_cons_succ] <;> rfl, h0, fun _ => rfl, h2, h3, h4, h5, h6, h7, h9, h10, y8, hB, hF⟩
            · obtain rfl := Option.some.inj hi
              clear hi hil
              have d0 := h0 (hall ⟨0, .data⟩ (by simp) rfl)
              have d1 := h1 (hall ⟨1, .data⟩ (by simp) rfl)
              have hmq : m < q := hlt2
              refine wpOp_step rfl (fun K hK => ?_)
              have HKK := Lib.hid hK; clear hK
              simp only [putAll, Act.put, List.setIfInBounds_toArray, List.set_cons_zero, List.set_cons_succ]
              go_simp
              exact HKK.out _ _ ⟨_, by simp only [putAll, Act.put, List.setIfInBounds_toArray, List.set_cons_zero, List.set_cons_succ, d0, d1] <;> rfl, h0, h1, fun _ => rfl, h3, h4, h5, h6, h7, h9, h10, y8, hB, hF⟩
            · obtain rfl := Option.some.inj hi
              clear hi hil
              have d2 := h2 (hall ⟨2, .data⟩ (by simp) rfl)
              have x0 := hF.out.cA
              refine wpOp_step rfl (fun K hK => ?_)
              have HKK := Lib.hid hK; clear hK
              simp only [putAll, Act.put, List.setIfInBounds_toArray, List.set_cons_zero, List.set_cons_succ]
              go_simp
              exact HKK.out _ _ ⟨_, by simp only [putAll, Act.put, List.setIfInBounds_toArray, List.set_cons_zero, List.set_cons_succ, d2] <;> rfl, h0, h1, h2, fun _ => rfl, h4, h5, h6, h7, h9, h10, y8, hB, hF⟩
            · obtain rfl := Option.some.inj hi
              clear hi hil
              refine wpOp_step rfl (fun K hK => ?_)
              have HKK := Lib.hid hK; clear hK
              simp only [putAll, Act.put, List.setIfInBounds_toArray, List.set_cons_zero, List.set_cons_succ]
              go_simp
              exact HKK.out _ _ ⟨_, by simp only [putAll, Act.put, List.setIfInBounds_toArray, List.set_cons_zero, List.set_cons_succ] <;> rfl, h0, h1, h2, h3, fun _ => rfl, h5, h6, h7, h9, h10, y8, hB, hF⟩
            · obtain rfl := Option.some.inj hi
              clear hi hil
              refine wpOp_step rfl (fun K hK => ?_)
              have HKK := Lib.hid hK; clear hK
              simp only [putAll, Act.put, List.setIfInBounds_toArray, List.set_cons_zero, List.set_cons_succ]
              go_simp
              exact HKK.out _ _ ⟨_, by simp only [putAll, Act.put, List.setIfInBounds_toArray, List.set_cons_zero, List.set_cons_succ] <;> rfl, h0, h1, h2, h3, h4, fun _ => rfl, h6, h7, h9, h10, y8, hB, hF⟩
            · obtain rfl := Option.some.inj hi
              clear hi hil
              have d4 := h4 (hall ⟨4, .data⟩ (by simp) rfl)
              have d5 := h5 (hall ⟨5, .data⟩ (by simp) rfl)
              have hmq : m < q := hlt2
              refine wpOp_step rfl (fun K hK => ?_)
              have HKK := Lib.hid hK; clear hK
              simp only [putAll, Act.put, List.setIfInBounds_toArray, List.set_cons_zero, List.set_cons_succ]
              go_simp
              exact HKK.out _ _ ⟨_, by simp only [putAll, Act.put, List.setIfInBounds_toArray, List.set_cons_zero, List.set_cons_succ, d4, d5] <;> rfl, h0, h1, h2, h3, h4, h5, fun _ => rfl, h7, h9, h10, y8, hB, hF⟩
            · obtain rfl := Option.some.inj hi
              clear hi hil
              have d6 := h6 (hall ⟨6, .data⟩ (by simp) rfl)
              have x0 := hF.out.cB
              refine wpOp_step rfl (fun K hK => ?_)
              have HKK := Lib.hid hK; clear hK
              simp only [putAll, Act.put, List.setIfInBounds_toArray, List.set_cons_zero, List.set_cons_succ]
              go_simp
              exact HKK.out _ _ ⟨_, by simp only [putAll, Act.put, List.setIfInBounds_toArray, List.set_cons_zero, List.set_cons_succ, d6] <;> rfl, h0, h1, h2, h3, h4, h5, h6, fun _ => rfl, h9, h10, y8, hB, hF⟩
            · obtain rfl := Option.some.inj hi
              clear hi hil
              have d7 := h7 (hall ⟨7, .data⟩ (by simp) rfl)
              refine wpOp_step rfl (fun K hK => ?_)
              have HKK := Lib.hid hK; clear hK
              simp only [putAll, Act.put, List.setIfInBounds_toArray, List.set_cons_zero, List.set_cons_succ]
              go_simp
              refine (refs_c w' _ LA (by have := HL16.out; omega) hF.out.rB).mono ?_
              rintro e w2 ⟨v2, rfl, ho2, hb2⟩
              exact HKK.out _ _ ⟨_, by simp only [putAll, Act.put, List.setIfInBounds_toArray, List.set_cons_zero, List.set_cons_succ, d7] <;> rfl, h0, h1, h2, h3, h4, h5, h6, h7, h9, h10, fun _ => Lib.hid (ho2.row), Lib.hid ⟨(hB).out.1.trans (hb2.mono (hB).out.2), Nat.le_trans (hB).out.2 hb2.size⟩, Lib.hid ((hF).out.grow hb2)⟩
            · obtain rfl := Option.some.inj hi
              clear hi hil
              have d3 := h3 (hall ⟨3, .data⟩ (by simp) rfl)
              have o8 := y8 (hall ⟨8, .data⟩ (by simp) rfl)
              refine wpOp_step rfl (fun K hK => ?_)
              have HKK := Lib.hid hK; clear hK
              simp only [putAll, Act.put, List.setIfInBounds_toArray, List.set_cons_zero, List.set_cons_succ]
              go_simp
              refine (same_c _ _ LA w' (by have := HL16.out; omega) hF.out.rA o8.out).mono ?_
              rintro e w2 ⟨rfl, hb2⟩
              exact HKK.out _ _ ⟨_, by simp only [putAll, Act.put, List.setIfInBounds_toArray, List.set_cons_zero, List.set_cons_succ, d3] <;> rfl, h0, h1, h2, h3, h4, h5, h6, h7, fun _ => rfl, h10, fun h => Lib.hid (Row.on (y8 h).out hb2), Lib.hid ⟨(hB).out.1.trans (hb2.mono (hB).out.2), Nat.le_trans (hB).out.2 hb2.size⟩, Lib.hid ((hF).out.grow hb2)⟩
            · obtain rfl := Option.some.inj hi
              clear hi hil
              have d9 := h9 (hall ⟨9, .data⟩ (by simp) rfl)
              refine wpOp_step rfl (fun K hK => ?_)
              have HKK := Lib.hid hK; clear hK
              simp only [putAll, Act.put, List.setIfInBounds_toArray, List.set_cons_zero, List.set_cons_succ]
              go_simp
              exact HKK.out _ _ ⟨_, by simp only [putAll, Act.put, List.setIfInBounds_toArray, List.set_cons_zero, List.set_cons_succ, d9] <;> rfl, h0, h1, h2, h3, h4, h5, h6, h7, h9, fun _ => rfl, y8, hB, hF⟩
            · omega
          · rintro b' vs w2 hall ⟨h0, h1, h2, h3, h4, h5, h6, h7, h9, h10, y8, hB, hF⟩
            have d0 := h0 (hall 0 (by simp))
            have d1 := h1 (hall 1 (by simp))
            have d2 := h2 (hall 2 (by simp))
            have d3 := h3 (hall 3 (by simp))
            have d4 := h4 (hall 4 (by simp))
            have d5 := h5 (hall 5 (by simp))
            have d6 := h6 (hall 6 (by simp))
            have d7 := h7 (hall 7 (by simp))
            have d9 := h9 (hall 9 (by simp))
            have d10 := h10 (hall 10 (by simp))
            have o8 := y8 (hall 8 (by simp))
            have BB := hB
            have FF := hF
            simp only [putAll, Act.put, List.setIfInBounds_toArray, List.set_cons_zero, List.set_cons_succ, d0, d1, d2, d3, d4, d5, d6, d7, d9, d10]
            clear hall h0 d0 h1 d1 h2 d2 h3 d3 h4 d4 h5 d5 h6 d6 h7 d7 h9 d9 h10 d10 y8 hB hF
            have B8 : Hid (Below w5.heap.size w5 w2) := below_next hv.out BB.out.1
            go_wp2_with fail
            exact ⟨⟨m + 1, by omega, by go_num, B8.out⟩, by simp [intOf]; omega⟩
        · have hd2 : decide ((m : Int) < (q : Int)) = false := by simp; omega
          have M6 := Lib.hid (M5.out.grow hv.out)
          have s0 : wr.cell? ⟨w.heap.size, 0, none⟩ = some (.slice ao n c) := M6.out.box.cell 0
          obtain ⟨w6, rfl⟩ : ∃ x, x = wr := ⟨_, rfl⟩
          go_wp2_with fail
          refine (HAW.out _).mono ?_
          rintro e w9 ⟨rfl, hb9⟩
          have B9 : Hid (Below w.heap.size w w9) := M6.out.below.trans (hb9.mono M6.out.below.size)
          clear hb9
          go_wp2_with fail
          go_ret
          exact ⟨rfl, B9.out⟩
set_option maxHeartbeats 4000000 in
set_option maxRecDepth 100000 in
theorem back_big (b o : Nat) (n c : Nat) (cl : Bool) (h cap : Int) (w : World) (HAW : Hid (∀ w, Calls Tryd.prog 10 #[] w fun e w' => e = .returned (.bool true) ∧ Below w.heap.size w w')) (hn : ¬ n > 20) (l : List Pt) (HROW : Hid (Row w (.slice (some ⟨b, o, none⟩) n c) l)) (HN : Hid (l.length = n)) (z : Int) (PP : List (List Pt))
    (HST1 : Hid (∀ w', Below w.heap.size w w' → Calls Tryd.prog 17 #[.agg #[.slice (some ⟨b, o, none⟩) n c, .bool cl], .int .i64 h, .int .i64 cap] w' (ToldQ w'.heap.size w' (z, PP))))
    (HST2 : Hid (∀ u w', Row w' u (twiceL l) → Below w.heap.size w w' → Calls Tryd.prog 17 #[.agg #[u, .bool cl], .int .i64 h, .int .i64 cap] w' (ToldQ w'.heap.size w' (z, PP))))
    (HLEN : Hid (∀ L ∈ PP, L.length ≤ 16)) (hn2 : ¬ n < 2) (p q : Pt) (HP : Hid (l[0]? = some p)) (HQ : Hid (l[1]? = some q)) (HN2 : Hid (2 ≤ n)) :
    Calls Tryd.prog 7 #[.agg #[.slice (some ⟨b, o, none⟩) n c, .bool cl], .int .i64 h, .int .i64 cap] w fun e w' => e = .returned (.bool true) ∧ Below w.heap.size w w' := by
  go_enter Tryd.func7, Tryd.ntmps7
  go_wp2_with fail
  have M0 : Hid (BackM w ((w.alloc (.cells #[.slice (some ⟨b, o, none⟩) n c, .bool cl] 39)).alloc (.cells #[.slice none 0 0, .bool cl] 39)) (some ⟨b, o, none⟩) n c cl (.slice none 0 0) []) :=
    ⟨((Below.refl _ _).alloc (Nat.le_refl _) _).alloc (by simp) _, (Blk.new _ _ _).alloc _, Blk.newAt _ _ _ (by simp), Own.nil _ _ _⟩
  go_loopw [30] (fun i wr => ∃ (k : Nat) (u : Value), k ≤ n ∧ i = .int .i64 k ∧ Hid (BackM w wr (some ⟨b, o, none⟩) n c cl u (twiceL (l.take k)))) (fun i _ => n - (intOf i).toNat)
  case atStart => exact ⟨0, _, by omega, rfl, M0.out⟩
  case round =>
    obtain ⟨k, u, hk, rfl, hw⟩ := hrel
    by_cases hlt : k < n
    · have hd : decide ((k : Int) < (n : Int)) = true := by simp; omega
      have hne : l ≠ [] := fun e => by have := HN.out; rw [e] at this; simp at this; omega
      obtain ⟨⟨x, y⟩, hp⟩ : ∃ p, l[k]? = some p := ⟨_, List.getElem?_eq_getElem (by rw [HN.out]; exact hlt)⟩
      obtain ⟨c0, c1⟩ := (HROW.out.on hw.out.below).pts hp
      have HPk := Lib.hid hp
      obtain ⟨ua, un, uc, rfl⟩ := own_shape' hw.out.own
      have t0 : wr.cell? ⟨w.heap.size + 1, 0, none⟩ = some (.slice ua un uc) := hw.out.two.cell 0
      have f0 := hw.out.two.free 0
      have lt0 := hw.out.two.lt
      simp only at c0 c1
      have AX : Hid (Below wr.heap.size wr ((wr.alloc (.cells #[.int .i64 x, .int .i64 y] 23)).alloc (.cells #[.int .i64 x, .int .i64 y, .int .i64 x, .int .i64 y] 23))) := ((Below.refl _ _).alloc (Nat.le_refl _) _).alloc (by simp) _
      have OWX : Hid (Own ((wr.alloc (.cells #[.int .i64 x, .int .i64 y] 23)).alloc (.cells #[.int .i64 x, .int .i64 y, .int .i64 x, .int .i64 y] 23)) w.heap.size 23 (.slice ua un uc) (twiceL (l.take k))) := hw.out.own.grow AX.out
      have ROWX : Hid (Row ((wr.alloc (.cells #[.int .i64 x, .int .i64 y] 23)).alloc (.cells #[.int .i64 x, .int .i64 y, .int .i64 x, .int .i64 y] 23)) (.slice (some ⟨wr.heap.size + 1, 0, none⟩) 2 2) [(x, y), (x, y)]) := by
        have := Row.new (wr.alloc (.cells #[.int .i64 x, .int .i64 y] 23)) [(x, y), (x, y)] 23 #[.int .i64 x, .int .i64 y, .int .i64 x, .int .i64 y] 2 rfl rfl
        rw [show (wr.alloc (.cells #[.int .i64 x, .int .i64 y] 23)).heap.size = wr.heap.size + 1 by simp] at this
        exact this
      have HLX : Hid ((twiceL (l.take k)).length + [(x, y), (x, y)].length ≤ 100000) := by unfold Hid; rw [twiceL_length, List.length_take, HN.out]; simp; omega
      have HBX : Hid (w.heap.size ≤ ((wr.alloc (.cells #[.int .i64 x, .int .i64 y] 23)).alloc (.cells #[.int .i64 x, .int .i64 y, .int .i64 x, .int .i64 y] 23)).heap.size) := Nat.le_trans hw.out.below.size AX.out.size
      clear hp hne
      go_wp2_with (at_builtin; refine wpList_append_pts rfl _ _ 24 23 rfl Tryd.underlying24 infoP w.heap.size _ _ rfl OWX.out _ [(x, y), (x, y)] rfl ROWX.out HLX.out HBX.out ?_)
      intro v' w5 hown hgrow _
      have HT : Hid (twiceL (l.take (k + 1)) = twiceL (l.take k) ++ [(x, y), (x, y)]) := by
        unfold Hid
        rw [List.take_add_one, HPk.out, twiceL_append]; rfl
      have KX := Lib.hid ((Keep.of_below (S := fun j => (Value.slice ua un uc).ownBlock ≠ some j) AX.out).trans (Keep.of_grown hgrow))
      have O5 := Lib.hid hown
      have BX5 : Hid (Blk w5 w.heap.size 39 #[.slice (some ⟨b, o, none⟩) n c, .bool cl]) := KX.out.blk hw.out.box (owns_off hw.out.own hw.out.box (by decide))
      have TW5 : Hid (Blk w5 (w.heap.size + 1) 39 #[.slice ua un uc, .bool cl]) := KX.out.blk hw.out.two (owns_off hw.out.own hw.out.two (by decide))
      have B5 : Hid (Below w.heap.size w w5) := hw.out.below.trans (KX.out.below (fun j hj e => by have := (hw.out.own.lt j e).1; omega) hw.out.below.size)
      obtain ⟨va, vn, vc, rfl⟩ := own_shape' hown
      clear hown hgrow c0 c1 t0 f0 lt0
      have t0 : w5.cell? ⟨w.heap.size + 1, 0, none⟩ = some (.slice ua un uc) := TW5.out.cell 0
      have f0 := TW5.out.free 0
      have lt0 := TW5.out.lt
      have M6 : Hid (BackM w (w5.setCell ⟨w.heap.size + 1, 0, none⟩ (.slice va vn vc)) (some ⟨b, o, none⟩) n c cl (.slice va vn vc) (twiceL (l.take k) ++ [(x, y), (x, y)])) :=
        ⟨B5.out.setCell (by dsimp only; omega) _, BX5.out.other _ _ (by simp), TW5.out.put 0 _ _ rfl, World.ownsRow.kept O5.out (grownBy_set _ _ _) (.inr (owns_off O5.out TW5.out (by decide)))⟩
      rw [← HT.out] at M6
      go_wp2_with fail
      exact ⟨⟨k + 1, _, by omega, by go_num, M6.out⟩, by simp [intOf]; omega⟩
    · have hd : decide ((k : Int) < (n : Int)) = false := by simp; omega
      have hkn : k = n := by omega
      have M1 : Hid (BackM w wr (some ⟨b, o, none⟩) n c cl u (twiceL l)) := by
        have := hw.out
        rw [hkn, ← HN.out, List.take_length, HN.out] at this
        exact this
      clear hw hkn
      obtain ⟨ua, un, uc, rfl⟩ := own_shape' M1.out.own
      have s0 : wr.cell? ⟨w.heap.size, 0, none⟩ = some (.slice (some ⟨b, o, none⟩) n c) := M1.out.box.cell 0
      have s1 : wr.cell? ⟨w.heap.size, 1, none⟩ = some (.bool cl) := M1.out.box.cell 1
      obtain ⟨wz, rfl⟩ : ∃ x, x = wr := ⟨_, rfl⟩
      go_wp2_with fail
      refine (HST1.out _ M1.out.below).mono ?_
      rintro e w4 ⟨v4, S1, rfl, p1, e1, b1⟩
      have e1 : S1.map Prod.snd = PP := e1
      have P1 := Lib.hid p1
      have E1 := Lib.hid e1
      have M4 := Lib.hid (M1.out.grow b1)
      have s2 : w4.cell? ⟨w.heap.size + 1, 0, none⟩ = some (.slice ua un uc) := M4.out.two.cell 0
      have s3 : w4.cell? ⟨w.heap.size + 1, 1, none⟩ = some (.bool cl) := M4.out.two.cell 1
      obtain ⟨a1, k1, rfl⟩ : ∃ a k, v4 = .slice a PP.length k := by
        rw [← e1, List.length_map]; exact polys_shape p1
      clear p1 e1 b1 s0 s1
      go_wp2_with fail
      refine (HST2.out _ _ M4.out.own.row M4.out.below).mono ?_
      rintro e w5 ⟨v5, S2, rfl, p2, e2, b2⟩
      have e2 : S2.map Prod.snd = PP := e2
      have P2 := Lib.hid p2
      have E2 := Lib.hid e2
      have P1 := Lib.hid (P1.out.grow b2)
      have M5 := Lib.hid (M4.out.grow b2)
      obtain ⟨a2, k2, rfl⟩ : ∃ a k, v5 = .slice a PP.length k := by
        rw [← e2, List.length_map]; exact polys_shape p2
      have HQ1 : Hid (S1.length = PP.length) := by unfold Hid; rw [← E1.out, List.length_map]
      have HQ2 : Hid (S2.length = PP.length) := by unfold Hid; rw [← E2.out, List.length_map]
      have hq3 : PP.length ≤ 9223372036854775807 := by have := (own_lim P1.out.row); have := HQ1.out; unfold maxLen at *; omega
      clear p2 e2 b2 s2 s3
      obtain ⟨qn, hq⟩ : ∃ qn, PP.length = qn := ⟨_, rfl⟩
      rw [hq] at HQ1 HQ2 hq3 P1 P2 ⊢
      have HQL := Lib.hid hq
      clear hq
      go_wp2_with fail
      go_loopw [68] (fun i wr => ∃ m : Nat, m ≤ qn ∧ i = .int .i64 m ∧ Hid (Below w5.heap.size w5 wr)) (fun i _ => qn - (intOf i).toNat)
      case atStart => exact ⟨0, by omega, rfl, Below.refl _ _⟩
      case round =>
        obtain ⟨m, hm, rfl, hv⟩ := hrel
        by_cases hlt2 : m < qn
        · have hd2 : decide ((m : Int) < (qn : Int)) = true := by simp; omega
          obtain ⟨⟨vA, LA⟩, hxA⟩ : ∃ x, S1[m]? = some x := ⟨_, List.getElem?_eq_getElem (by rw [HQ1.out]; exact hlt2)⟩
          obtain ⟨⟨vB, LB⟩, hxB⟩ : ∃ x, S2[m]? = some x := ⟨_, List.getElem?_eq_getElem (by rw [HQ2.out]; exact hlt2)⟩
          have eA : PP[m]? = some LA := by rw [← E1.out, List.getElem?_map, hxA]; rfl
          have eB : PP[m]? = some LB := by rw [← E2.out, List.getElem?_map, hxB]; rfl
          obtain rfl : LA = LB := by rw [eA] at eB; exact Option.some.inj eB
          have HL16 : Hid (LA.length ≤ 16) := HLEN.out LA (List.mem_of_getElem? eA)
          have PA := Lib.hid (P1.out.grow hv.out)
          have PB := Lib.hid (P2.out.grow hv.out)
          obtain ⟨gA, rfl, hgA, cA⟩ := polys_cell PA.out HQ1.out hxA
          obtain ⟨gB, rfl, hgB, cB⟩ := polys_cell PB.out HQ2.out hxB
          have OA := Lib.hid (PA.out.own _ (List.mem_of_getElem? hxA))
          have OB := Lib.hid (PB.out.own _ (List.mem_of_getElem? hxB))
          simp only at OA OB cA cB
          obtain ⟨aA, nA, kA, rfl⟩ := own_shape' OA.out
          obtain ⟨aB, nB, kB, rfl⟩ := own_shape' OB.out
          have FW : Hid (BkM wr gA gB m aA nA kA aB nB kB LA) := ⟨cA, cB, OA.out.row, OB.out.row, hgA, hgB⟩
          clear eA eB hxA hxB cA cB hgA hgB
          go_wp2_with fail
          refine wp_region_put (by kernel_rfl) (by kernel_rfl) (by kernel_rfl) (fun b' vs w' => (b' 0 = true → vs 0 = .slice (some ⟨gA, 0, none⟩) qn k1) ∧ (b' 1 = true → vs 1 = .int .i64 (m : Int)) ∧ (b' 2 = true → vs 2 = .pointer (some ⟨gA, m, none⟩)) ∧ (b' 3 = true → vs 3 = .slice aA nA kA) ∧ (b' 4 = true → vs 4 = .slice (some ⟨gB, 0, none⟩) qn k2) ∧ (b' 5 = true → vs 5 = .int .i64 (m : Int)) ∧ (b' 6 = true → vs 6 = .pointer (some ⟨gB, m, none⟩)) ∧ (b' 7 = true → vs 7 = .slice aB nB kB) ∧ (b' 9 = true → vs 9 = .bool true) ∧ (b' 10 = true → vs 10 = .bool false) ∧ (b' 8 = true → Hid (Row w' (vs 8) LA)) ∧ (Hid (Below wr.heap.size wr w' ∧ wr.heap.size ≤ w'.heap.size)) ∧ (Hid (BkM w' gA gB m aA nA kA aB nB kB LA))) ?_ ?_ ?_
          · intro vs
            exact ⟨fun h => Bool.noConfusion h, fun h => Bool.noConfusion h, fun h => Bool.noConfusion h, fun h => Bool.noConfusion h, fun h => Bool.noConfusion h, fun h => Bool.noConfusion h, fun h => Bool.noConfusion h, fun h => Bool.noConfusion h, fun h => Bool.noConfusion h, fun h => Bool.noConfusion h, fun h => Bool.noConfusion h, Lib.hid ⟨below_drewN (Below.refl _ _) 1, Nat.le_refl _⟩, Lib.hid (FW.out.grow ⟨rfl, rfl, rfl, Nat.le_refl _, fun _ _ => rfl⟩)⟩
          · rintro b' vs w' i op hi hun hall ⟨h0, h1, h2, h3, h4, h5, h6, h7, h9, h10, y8, hB, hF⟩
            have hil : i < 11 := (List.getElem?_eq_some_iff.1 hi).1
            rcases i with _ | _ | _ | _ | _ | _ | _ | _ | _ | _ | _ | i
            · obtain rfl := Option.some.inj hi
              clear hi hil
              refine wpOp_step rfl (fun K hK => ?_)
              have HKK := Lib.hid hK; clear hK
              simp only [putAll, Act.put, List.setIfInBounds_toArray, List.set_cons_zero, List.set_cons_succ]
              go_simp
              exact HKK.out _ _ ⟨_, by simp only [putAll, Act.put, List.setIfInBounds_toArray, List.set_cons_zero, List.set_cons_succ] <;> rfl, fun _ => rfl, h1, h2, h3, h4, h5, h6, h7, h9, h10, y8, hB, hF⟩
            · obtain rfl := Option.some.inj hi
              clear hi hil
              refine wpOp_step rfl (fun K hK => ?_)
              have HKK := Lib.hid hK; clear hK
              simp only [putAll, Act.put, List.setIfInBounds_toArray, List.set_cons_zero, List.set_cons_succ]
              go_simp
              exact HKK.out _ _ ⟨_, by simp only [putAll, Act.put, List.setIfInBounds_toArray, List.set_cons_zero, List.set_cons_succ] <;> rfl, h0, fun _ => rfl, h2, h3, h4, h5, h6, h7, h9, h10, y8, hB, hF⟩
            · obtain rfl := Option.some.inj hi
              clear hi hil
              have d0 := h0 (hall ⟨0, .data⟩ (by simp) rfl)
              have d1 := h1 (hall ⟨1, .data⟩ (by simp) rfl)
              have hmq : m < qn := hlt2
              refine wpOp_step rfl (fun K hK => ?_)
              have HKK := Lib.hid hK; clear hK
              simp only [putAll, Act.put, List.setIfInBounds_toArray, List.set_cons_zero, List.set_cons_succ]
              go_simp
              exact HKK.out _ _ ⟨_, by simp only [putAll, Act.put, List.setIfInBounds_toArray, List.set_cons_zero, List.set_cons_succ, d0, d1] <;> rfl, h0, h1, fun _ => rfl, h3, h4, h5, h6, h7, h9, h10, y8, hB, hF⟩
            · obtain rfl := Option.some.inj hi
              clear hi hil
              have d2 := h2 (hall ⟨2, .data⟩ (by simp) rfl)
              have x0 := hF.out.cA
              refine wpOp_step rfl (fun K hK => ?_)
              have HKK := Lib.hid hK; clear hK
              simp only [putAll, Act.put, List.setIfInBounds_toArray, List.set_cons_zero, List.set_cons_succ]
              go_simp
              exact HKK.out _ _ ⟨_, by simp only [putAll, Act.put, List.setIfInBounds_toArray, List.set_cons_zero, List.set_cons_succ, d2] <;> rfl, h0, h1, h2, fun _ => rfl, h4, h5, h6, h7, h9, h10, y8, hB, hF⟩
            · obtain rfl := Option.some.inj hi
              clear hi hil
              refine wpOp_step rfl (fun K hK => ?_)
              have HKK := Lib.hid hK; clear hK
              simp only [putAll, Act.put, List.setIfInBounds_toArray, List.set_cons_zero, List.set_cons_succ]
              go_simp
              exact HKK.out _ _ ⟨_, by simp only [putAll, Act.put, List.setIfInBounds_toArray, List.set_cons_zero, List.set_cons_succ] <;> rfl, h0, h1, h2, h3, fun _ => rfl, h5, h6, h7, h9, h10, y8, hB, hF⟩
            · obtain rfl := Option.some.inj hi
              clear hi hil
              refine wpOp_step rfl (fun K hK => ?_)
              have HKK := Lib.hid hK; clear hK
              simp only [putAll, Act.put, List.setIfInBounds_toArray, List.set_cons_zero, List.set_cons_succ]
              go_simp
              exact HKK.out _ _ ⟨_, by simp only [putAll, Act.put, List.setIfInBounds_toArray, List.set_cons_zero, List.set_cons_succ] <;> rfl, h0, h1, h2, h3, h4, fun _ => rfl, h6, h7, h9, h10, y8, hB, hF⟩
            · obtain rfl := Option.some.inj hi
              clear hi hil
              have d4 := h4 (hall ⟨4, .data⟩ (by simp) rfl)
              have d5 := h5 (hall ⟨5, .data⟩ (by simp) rfl)
              have hmq : m < qn := hlt2
              refine wpOp_step rfl (fun K hK => ?_)
              have HKK := Lib.hid hK; clear hK
              simp only [putAll, Act.put, List.setIfInBounds_toArray, List.set_cons_zero, List.set_cons_succ]
              go_simp
              exact HKK.out _ _ ⟨_, by simp only [putAll, Act.put, List.setIfInBounds_toArray, List.set_cons_zero, List.set_cons_succ, d4, d5] <;> rfl, h0, h1, h2, h3, h4, h5, fun _ => rfl, h7, h9, h10, y8, hB, hF⟩
            · obtain rfl := Option.some.inj hi
              clear hi hil
              have d6 := h6 (hall ⟨6, .data⟩ (by simp) rfl)
              have x0 := hF.out.cB
              refine wpOp_step rfl (fun K hK => ?_)
              have HKK := Lib.hid hK; clear hK
              simp only [putAll, Act.put, List.setIfInBounds_toArray, List.set_cons_zero, List.set_cons_succ]
              go_simp
              exact HKK.out _ _ ⟨_, by simp only [putAll, Act.put, List.setIfInBounds_toArray, List.set_cons_zero, List.set_cons_succ, d6] <;> rfl, h0, h1, h2, h3, h4, h5, h6, fun _ => rfl, h9, h10, y8, hB, hF⟩
            · obtain rfl := Option.some.inj hi
              clear hi hil
              have d7 := h7 (hall ⟨7, .data⟩ (by simp) rfl)
              refine wpOp_step rfl (fun K hK => ?_)
              have HKK := Lib.hid hK; clear hK
              simp only [putAll, Act.put, List.setIfInBounds_toArray, List.set_cons_zero, List.set_cons_succ]
              go_simp
              refine (refs_c w' _ LA (by have := HL16.out; omega) hF.out.rB).mono ?_
              rintro e w2 ⟨v2, rfl, ho2, hb2⟩
              exact HKK.out _ _ ⟨_, by simp only [putAll, Act.put, List.setIfInBounds_toArray, List.set_cons_zero, List.set_cons_succ, d7] <;> rfl, h0, h1, h2, h3, h4, h5, h6, h7, h9, h10, fun _ => Lib.hid (ho2.row), Lib.hid ⟨(hB).out.1.trans (hb2.mono (hB).out.2), Nat.le_trans (hB).out.2 hb2.size⟩, Lib.hid ((hF).out.grow hb2)⟩
            · obtain rfl := Option.some.inj hi
              clear hi hil
              have d3 := h3 (hall ⟨3, .data⟩ (by simp) rfl)
              have o8 := y8 (hall ⟨8, .data⟩ (by simp) rfl)
              refine wpOp_step rfl (fun K hK => ?_)
              have HKK := Lib.hid hK; clear hK
              simp only [putAll, Act.put, List.setIfInBounds_toArray, List.set_cons_zero, List.set_cons_succ]
              go_simp
              refine (same_c _ _ LA w' (by have := HL16.out; omega) hF.out.rA o8.out).mono ?_
              rintro e w2 ⟨rfl, hb2⟩
              exact HKK.out _ _ ⟨_, by simp only [putAll, Act.put, List.setIfInBounds_toArray, List.set_cons_zero, List.set_cons_succ, d3] <;> rfl, h0, h1, h2, h3, h4, h5, h6, h7, fun _ => rfl, h10, fun h => Lib.hid (Row.on (y8 h).out hb2), Lib.hid ⟨(hB).out.1.trans (hb2.mono (hB).out.2), Nat.le_trans (hB).out.2 hb2.size⟩, Lib.hid ((hF).out.grow hb2)⟩
            · obtain rfl := Option.some.inj hi
              clear hi hil
              have d9 := h9 (hall ⟨9, .data⟩ (by simp) rfl)
              refine wpOp_step rfl (fun K hK => ?_)
              have HKK := Lib.hid hK; clear hK
              simp only [putAll, Act.put, List.setIfInBounds_toArray, List.set_cons_zero, List.set_cons_succ]
              go_simp
              exact HKK.out _ _ ⟨_, by simp only [putAll, Act.put, List.setIfInBounds_toArray, List.set_cons_zero, List.set_cons_succ, d9] <;> rfl, h0, h1, h2, h3, h4, h5, h6, h7, h9, fun _ => rfl, y8, hB, hF⟩
            · omega
          · rintro b' vs w2 hall ⟨h0, h1, h2, h3, h4, h5, h6, h7, h9, h10, y8, hB, hF⟩
            have d0 := h0 (hall 0 (by simp))
            have d1 := h1 (hall 1 (by simp))
            have d2 := h2 (hall 2 (by simp))
            have d3 := h3 (hall 3 (by simp))
            have d4 := h4 (hall 4 (by simp))
            have d5 := h5 (hall 5 (by simp))
            have d6 := h6 (hall 6 (by simp))
            have d7 := h7 (hall 7 (by simp))
            have d9 := h9 (hall 9 (by simp))
            have d10 := h10 (hall 10 (by simp))
            have o8 := y8 (hall 8 (by simp))
            have BB := hB
            have FF := hF
            simp only [putAll, Act.put, List.setIfInBounds_toArray, List.set_cons_zero, List.set_cons_succ, d0, d1, d2, d3, d4, d5, d6, d7, d9, d10]
            clear hall h0 d0 h1 d1 h2 d2 h3 d3 h4 d4 h5 d5 h6 d6 h7 d7 h9 d9 h10 d10 y8 hB hF
            have B8 : Hid (Below w5.heap.size w5 w2) := below_next hv.out BB.out.1
            go_wp2_with fail
            exact ⟨⟨m + 1, by omega, by go_num, B8.out⟩, by simp [intOf]; omega⟩
        · have hd2 : decide ((m : Int) < (qn : Int)) = false := by simp; omega
          have M6 := Lib.hid (M5.out.grow hv.out)
          have s0 : wr.cell? ⟨w.heap.size, 0, none⟩ = some (.slice (some ⟨b, o, none⟩) n c) := M6.out.box.cell 0
          obtain ⟨w6, rfl⟩ : ∃ x, x = wr := ⟨_, rfl⟩
          go_wp2_with fail
          clear s0
          have HBW : Hid (w.heap.size ≤ w6.heap.size) := M6.out.below.size
          have FW21 : Hid (Blk w6 w.heap.size 39 #[.slice (some ⟨b, o, none⟩) n c, .bool cl] ∧ Row w6 (.slice (some ⟨b, o, none⟩) n c) l) := ⟨M6.out.box, HROW.out.on M6.out.below⟩
          refine wp_region_put (by kernel_rfl) (by kernel_rfl) (by kernel_rfl) (fun b' vs w' => (b' 0 = true → vs 0 = .pointer (some ⟨w.heap.size, 0, none⟩)) ∧ (b' 1 = true → vs 1 = .slice (some ⟨b, o, none⟩) n c) ∧ (b' 2 = true → vs 2 = .pointer (some ⟨b, o, none⟩)) ∧ (b' 3 = true → vs 3 = .agg #[.int .i64 p.1, .int .i64 p.2]) ∧ (b' 4 = true → vs 4 = .pointer (some ⟨w.heap.size, 0, none⟩)) ∧ (b' 5 = true → vs 5 = .slice (some ⟨b, o, none⟩) n c) ∧ (b' 6 = true → vs 6 = .pointer (some ⟨b, o + 2, none⟩)) ∧ (b' 7 = true → vs 7 = .agg #[.int .i64 q.1, .int .i64 q.2]) ∧ (b' 8 = true → vs 8 = .int .i64 h) ∧ (b' 12 = true → vs 12 = .int .i64 (barOut p q h).1) ∧ (b' 14 = true → vs 14 = .int .i64 (barOut p q h).1) ∧ (b' 9 = true → Hid (TupR w.heap.size 23 (barOut p q h).1 (barOut p q h).2 (vs 9) w')) ∧ (b' 10 = true → Hid (TupR w.heap.size 23 (barOut p q h).1 (barOut p q h).2 (vs 10) w')) ∧ (b' 11 = true → Hid (Own w' w.heap.size 23 (vs 11) ((barOut p q h).2))) ∧ (b' 13 = true → Hid (Own w' w.heap.size 23 (vs 13) ((barOut p q h).2))) ∧ (Hid (Below w6.heap.size w6 w' ∧ w6.heap.size ≤ w'.heap.size)) ∧ (Hid (Blk w' w.heap.size 39 #[.slice (some ⟨b, o, none⟩) n c, .bool cl] ∧ Row w' (.slice (some ⟨b, o, none⟩) n c) l))) ?_ ?_ ?_
          · intro vs
            exact ⟨fun h => Bool.noConfusion h, fun h => Bool.noConfusion h, fun h => Bool.noConfusion h, fun h => Bool.noConfusion h, fun h => Bool.noConfusion h, fun h => Bool.noConfusion h, fun h => Bool.noConfusion h, fun h => Bool.noConfusion h, fun h => Bool.noConfusion h, fun h => Bool.noConfusion h, fun h => Bool.noConfusion h, fun h => Bool.noConfusion h, fun h => Bool.noConfusion h, fun h => Bool.noConfusion h, fun h => Bool.noConfusion h, Lib.hid ⟨below_drewN (Below.refl _ _) 1, Nat.le_refl _⟩, Lib.hid ⟨FW21.out.1.grow ⟨rfl, rfl, rfl, Nat.le_refl _, fun _ _ => rfl⟩, FW21.out.2.on ⟨rfl, rfl, rfl, Nat.le_refl _, fun _ _ => rfl⟩⟩⟩
          · rintro b' vs w' i op hi hun hall ⟨h0, h1, h2, h3, h4, h5, h6, h7, h8, h12, h14, y9, y10, y11, y13, hB, hF⟩
            have hil : i < 15 := (List.getElem?_eq_some_iff.1 hi).1
            rcases i with _ | _ | _ | _ | _ | _ | _ | _ | _ | _ | _ | _ | _ | _ | _ | i
            · obtain rfl := Option.some.inj hi
              clear hi hil
              refine wpOp_step rfl (fun K hK => ?_)
              have HKK := Lib.hid hK; clear hK
              simp only [putAll, Act.put, List.setIfInBounds_toArray, List.set_cons_zero, List.set_cons_succ]
              go_simp
              exact HKK.out _ _ ⟨_, by simp only [putAll, Act.put, List.setIfInBounds_toArray, List.set_cons_zero, List.set_cons_succ] <;> rfl, fun _ => rfl, h1, h2, h3, h4, h5, h6, h7, h8, h12, h14, y9, y10, y11, y13, hB, hF⟩
            · obtain rfl := Option.some.inj hi
              clear hi hil
              have d0 := h0 (hall ⟨0, .data⟩ (by simp) rfl)
              have kl := hF.out.1
              have x0 : w'.cell? ⟨w.heap.size, 0, none⟩ = some (.slice (some ⟨b, o, none⟩) n c) := kl.cell 0
              clear kl
              refine wpOp_step rfl (fun K hK => ?_)
              have HKK := Lib.hid hK; clear hK
              simp only [putAll, Act.put, List.setIfInBounds_toArray, List.set_cons_zero, List.set_cons_succ]
              go_simp
              exact HKK.out _ _ ⟨_, by simp only [putAll, Act.put, List.setIfInBounds_toArray, List.set_cons_zero, List.set_cons_succ, d0] <;> rfl, h0, fun _ => rfl, h2, h3, h4, h5, h6, h7, h8, h12, h14, y9, y10, y11, y13, hB, hF⟩
            · obtain rfl := Option.some.inj hi
              clear hi hil
              have d1 := h1 (hall ⟨1, .data⟩ (by simp) rfl)
              have hi0 : 0 < n := by have := HN2.out; omega
              have hi1 : 1 < n := by have := HN2.out; omega
              have hj0 : (0 : Int) < (n : Int) := by omega
              have hj1 : (1 : Int) < (n : Int) := by omega
              refine wpOp_step rfl (fun K hK => ?_)
              have HKK := Lib.hid hK; clear hK
              simp only [putAll, Act.put, List.setIfInBounds_toArray, List.set_cons_zero, List.set_cons_succ]
              go_simp
              exact HKK.out _ _ ⟨_, by simp only [putAll, Act.put, List.setIfInBounds_toArray, List.set_cons_zero, List.set_cons_succ, d1] <;> rfl, h0, h1, fun _ => rfl, h3, h4, h5, h6, h7, h8, h12, h14, y9, y10, y11, y13, hB, hF⟩
            · obtain rfl := Option.some.inj hi
              clear hi hil
              have d2 := h2 (hall ⟨2, .data⟩ (by simp) rfl)
              obtain ⟨x0, x1⟩ := hF.out.2.pts HP.out
              rw [Nat.zero_mul, Nat.add_zero] at x0 x1
              refine wpOp_step rfl (fun K hK => ?_)
              have HKK := Lib.hid hK; clear hK
              simp only [putAll, Act.put, List.setIfInBounds_toArray, List.set_cons_zero, List.set_cons_succ]
              go_simp
              exact HKK.out _ _ ⟨_, by simp only [putAll, Act.put, List.setIfInBounds_toArray, List.set_cons_zero, List.set_cons_succ, d2] <;> rfl, h0, h1, h2, fun _ => rfl, h4, h5, h6, h7, h8, h12, h14, y9, y10, y11, y13, hB, hF⟩
            · obtain rfl := Option.some.inj hi
              clear hi hil
              refine wpOp_step rfl (fun K hK => ?_)
              have HKK := Lib.hid hK; clear hK
              simp only [putAll, Act.put, List.setIfInBounds_toArray, List.set_cons_zero, List.set_cons_succ]
              go_simp
              exact HKK.out _ _ ⟨_, by simp only [putAll, Act.put, List.setIfInBounds_toArray, List.set_cons_zero, List.set_cons_succ] <;> rfl, h0, h1, h2, h3, fun _ => rfl, h5, h6, h7, h8, h12, h14, y9, y10, y11, y13, hB, hF⟩
            · obtain rfl := Option.some.inj hi
              clear hi hil
              have d4 := h4 (hall ⟨4, .data⟩ (by simp) rfl)
              have kl := hF.out.1
              have x0 : w'.cell? ⟨w.heap.size, 0, none⟩ = some (.slice (some ⟨b, o, none⟩) n c) := kl.cell 0
              clear kl
              refine wpOp_step rfl (fun K hK => ?_)
              have HKK := Lib.hid hK; clear hK
              simp only [putAll, Act.put, List.setIfInBounds_toArray, List.set_cons_zero, List.set_cons_succ]
              go_simp
              exact HKK.out _ _ ⟨_, by simp only [putAll, Act.put, List.setIfInBounds_toArray, List.set_cons_zero, List.set_cons_succ, d4] <;> rfl, h0, h1, h2, h3, h4, fun _ => rfl, h6, h7, h8, h12, h14, y9, y10, y11, y13, hB, hF⟩
            · obtain rfl := Option.some.inj hi
              clear hi hil
              have d5 := h5 (hall ⟨5, .data⟩ (by simp) rfl)
              have hi0 : 0 < n := by have := HN2.out; omega
              have hi1 : 1 < n := by have := HN2.out; omega
              have hj0 : (0 : Int) < (n : Int) := by omega
              have hj1 : (1 : Int) < (n : Int) := by omega
              refine wpOp_step rfl (fun K hK => ?_)
              have HKK := Lib.hid hK; clear hK
              simp only [putAll, Act.put, List.setIfInBounds_toArray, List.set_cons_zero, List.set_cons_succ]
              go_simp
              exact HKK.out _ _ ⟨_, by simp only [putAll, Act.put, List.setIfInBounds_toArray, List.set_cons_zero, List.set_cons_succ, d5] <;> rfl, h0, h1, h2, h3, h4, h5, fun _ => rfl, h7, h8, h12, h14, y9, y10, y11, y13, hB, hF⟩
            · obtain rfl := Option.some.inj hi
              clear hi hil
              have d6 := h6 (hall ⟨6, .data⟩ (by simp) rfl)
              obtain ⟨x0, x1⟩ := hF.out.2.pts HQ.out
              rw [Nat.one_mul] at x0 x1
              refine wpOp_step rfl (fun K hK => ?_)
              have HKK := Lib.hid hK; clear hK
              simp only [putAll, Act.put, List.setIfInBounds_toArray, List.set_cons_zero, List.set_cons_succ]
              go_simp
              exact HKK.out _ _ ⟨_, by simp only [putAll, Act.put, List.setIfInBounds_toArray, List.set_cons_zero, List.set_cons_succ, d6] <;> rfl, h0, h1, h2, h3, h4, h5, h6, fun _ => rfl, h8, h12, h14, y9, y10, y11, y13, hB, hF⟩
            · obtain rfl := Option.some.inj hi
              clear hi hil
              refine wpOp_step rfl (fun K hK => ?_)
              have HKK := Lib.hid hK; clear hK
              simp only [putAll, Act.put, List.setIfInBounds_toArray, List.set_cons_zero, List.set_cons_succ]
              go_simp
              exact HKK.out _ _ ⟨_, by simp only [putAll, Act.put, List.setIfInBounds_toArray, List.set_cons_zero, List.set_cons_succ] <;> rfl, h0, h1, h2, h3, h4, h5, h6, h7, fun _ => rfl, h12, h14, y9, y10, y11, y13, hB, hF⟩
            · obtain rfl := Option.some.inj hi
              clear hi hil
              have d3 := h3 (hall ⟨3, .data⟩ (by simp) rfl)
              have d7 := h7 (hall ⟨7, .data⟩ (by simp) rfl)
              have d8 := h8 (hall ⟨8, .data⟩ (by simp) rfl)
              refine wpOp_step rfl (fun K hK => ?_)
              have HKK := Lib.hid hK; clear hK
              simp only [putAll, Act.put, List.setIfInBounds_toArray, List.set_cons_zero, List.set_cons_succ]
              go_simp
              refine (bar_c p q h w').mono ?_
              rintro e w2 ⟨v2, rfl, ho2, hb2⟩
              exact HKK.out _ _ ⟨_, by simp only [putAll, Act.put, List.setIfInBounds_toArray, List.set_cons_zero, List.set_cons_succ, d3, d7, d8] <;> rfl, h0, h1, h2, h3, h4, h5, h6, h7, h8, h12, h14, fun _ => Lib.hid (⟨v2, rfl, ho2.base (Nat.le_trans HBW.out hB.out.2)⟩), fun h => Lib.hid (TupR.grow (y10 h).out hb2), fun h => Lib.hid (Own.grow (y11 h).out hb2), fun h => Lib.hid (Own.grow (y13 h).out hb2), Lib.hid ⟨(hB).out.1.trans (hb2.mono (hB).out.2), Nat.le_trans (hB).out.2 hb2.size⟩, Lib.hid (⟨(hF).out.1.grow hb2, (hF).out.2.on hb2⟩)⟩
            · obtain rfl := Option.some.inj hi
              clear hi hil
              have o9 := y9 (hall ⟨9, .data⟩ (by simp) rfl)
              refine wpOp_step rfl (fun K hK => ?_)
              have HKK := Lib.hid hK; clear hK
              simp only [putAll, Act.put, List.setIfInBounds_toArray, List.set_cons_zero, List.set_cons_succ]
              go_simp
              exact HKK.out _ _ ⟨_, by simp only [putAll, Act.put, List.setIfInBounds_toArray, List.set_cons_zero, List.set_cons_succ] <;> rfl, h0, h1, h2, h3, h4, h5, h6, h7, h8, h12, h14, y9, fun _ => Lib.hid (o9.out), y11, y13, hB, hF⟩
            · obtain rfl := Option.some.inj hi
              clear hi hil
              have o10 := y10 (hall ⟨10, .data⟩ (by simp) rfl)
              obtain ⟨r, er, hor⟩ := o10.out
              refine wpOp_step rfl (fun K hK => ?_)
              have HKK := Lib.hid hK; clear hK
              simp only [putAll, Act.put, List.setIfInBounds_toArray, List.set_cons_zero, List.set_cons_succ]
              go_simp
              exact HKK.out _ _ ⟨_, by simp only [putAll, Act.put, List.setIfInBounds_toArray, List.set_cons_zero, List.set_cons_succ, er] <;> rfl, h0, h1, h2, h3, h4, h5, h6, h7, h8, h12, h14, y9, y10, fun _ => Lib.hid (hor), y13, hB, hF⟩
            · obtain rfl := Option.some.inj hi
              clear hi hil
              have o10 := y10 (hall ⟨10, .data⟩ (by simp) rfl)
              obtain ⟨r, er, hor⟩ := o10.out
              clear hor
              refine wpOp_step rfl (fun K hK => ?_)
              have HKK := Lib.hid hK; clear hK
              simp only [putAll, Act.put, List.setIfInBounds_toArray, List.set_cons_zero, List.set_cons_succ]
              go_simp
              exact HKK.out _ _ ⟨_, by simp only [putAll, Act.put, List.setIfInBounds_toArray, List.set_cons_zero, List.set_cons_succ, er] <;> rfl, h0, h1, h2, h3, h4, h5, h6, h7, h8, fun _ => rfl, h14, y9, y10, y11, y13, hB, hF⟩
            · obtain rfl := Option.some.inj hi
              clear hi hil
              have o11 := y11 (hall ⟨11, .data⟩ (by simp) rfl)
              refine wpOp_step rfl (fun K hK => ?_)
              have HKK := Lib.hid hK; clear hK
              simp only [putAll, Act.put, List.setIfInBounds_toArray, List.set_cons_zero, List.set_cons_succ]
              go_simp
              exact HKK.out _ _ ⟨_, by simp only [putAll, Act.put, List.setIfInBounds_toArray, List.set_cons_zero, List.set_cons_succ] <;> rfl, h0, h1, h2, h3, h4, h5, h6, h7, h8, h12, h14, y9, y10, y11, fun _ => Lib.hid (o11.out), hB, hF⟩
            · obtain rfl := Option.some.inj hi
              clear hi hil
              have d12 := h12 (hall ⟨12, .data⟩ (by simp) rfl)
              refine wpOp_step rfl (fun K hK => ?_)
              have HKK := Lib.hid hK; clear hK
              simp only [putAll, Act.put, List.setIfInBounds_toArray, List.set_cons_zero, List.set_cons_succ]
              go_simp
              exact HKK.out _ _ ⟨_, by simp only [putAll, Act.put, List.setIfInBounds_toArray, List.set_cons_zero, List.set_cons_succ, d12] <;> rfl, h0, h1, h2, h3, h4, h5, h6, h7, h8, h12, fun _ => rfl, y9, y10, y11, y13, hB, hF⟩
            · omega
          · rintro b' vs w2 hall ⟨h0, h1, h2, h3, h4, h5, h6, h7, h8, h12, h14, y9, y10, y11, y13, hB, hF⟩
            have d0 := h0 (hall 0 (by simp))
            have d1 := h1 (hall 1 (by simp))
            have d2 := h2 (hall 2 (by simp))
            have d3 := h3 (hall 3 (by simp))
            have d4 := h4 (hall 4 (by simp))
            have d5 := h5 (hall 5 (by simp))
            have d6 := h6 (hall 6 (by simp))
            have d7 := h7 (hall 7 (by simp))
            have d8 := h8 (hall 8 (by simp))
            have d12 := h12 (hall 12 (by simp))
            have d14 := h14 (hall 14 (by simp))
            have o9 := y9 (hall 9 (by simp))
            have o10 := y10 (hall 10 (by simp))
            have o11 := y11 (hall 11 (by simp))
            have o13 := y13 (hall 13 (by simp))
            have BB := hB
            have FF := hF
            simp only [putAll, Act.put, List.setIfInBounds_toArray, List.set_cons_zero, List.set_cons_succ, d0, d1, d2, d3, d4, d5, d6, d7, d8, d12, d14]
            clear hall h0 d0 h1 d1 h2 d2 h3 d3 h4 d4 h5 d5 h6 d6 h7 d7 h8 d8 h12 d12 h14 d14 y9 y10 y11 y13 hB hF
            have B7 : Hid (Below w.heap.size w w2) := below_next M6.out.below BB.out.1
            have O7 := Lib.hid o13.out
            have F7 := Lib.hid FF.out
            generalize vs 13 = X at *
            clear BB FF
            obtain ⟨xa, xn, xc, rfl⟩ := own_shape' O7.out
            generalize vs 9 = r21_9
            generalize vs 10 = r21_10
            generalize vs 11 = r21_11
            obtain ⟨w7, rfl⟩ : ∃ x, x = w2 := ⟨_, rfl⟩
            have HBW : Hid (w.heap.size ≤ w7.heap.size) := B7.out.size
            have FW22 : Hid ((Blk w7 w.heap.size 39 #[.slice (some ⟨b, o, none⟩) n c, .bool cl] ∧ Row w7 (.slice (some ⟨b, o, none⟩) n c) l ∧ Own w7 w.heap.size 23 (.slice xa xn xc) ((barOut p q h).2))) := ⟨F7.out.1, F7.out.2, O7.out⟩
            clear F7 O7
            go_wp2_with fail
            refine wp_region_put (by kernel_rfl) (by kernel_rfl) (by kernel_rfl) (fun b' vs w' => (b' 0 = true → vs 0 = .pointer (some ⟨w.heap.size, 0, none⟩)) ∧ (b' 1 = true → vs 1 = .slice (some ⟨b, o, none⟩) n c) ∧ (b' 2 = true → vs 2 = .pointer (some ⟨b, o + 2, none⟩)) ∧ (b' 3 = true → vs 3 = .agg #[.int .i64 q.1, .int .i64 q.2]) ∧ (b' 4 = true → vs 4 = .pointer (some ⟨w.heap.size, 0, none⟩)) ∧ (b' 5 = true → vs 5 = .slice (some ⟨b, o, none⟩) n c) ∧ (b' 6 = true → vs 6 = .pointer (some ⟨b, o, none⟩)) ∧ (b' 7 = true → vs 7 = .agg #[.int .i64 p.1, .int .i64 p.2]) ∧ (b' 8 = true → vs 8 = .int .i64 h) ∧ (b' 12 = true → vs 12 = .int .i64 (barOut q p h).1) ∧ (b' 14 = true → vs 14 = .int .i64 (barOut q p h).1) ∧ (b' 9 = true → Hid (TupR w.heap.size 23 (barOut q p h).1 (barOut q p h).2 (vs 9) w')) ∧ (b' 10 = true → Hid (TupR w.heap.size 23 (barOut q p h).1 (barOut q p h).2 (vs 10) w')) ∧ (b' 11 = true → Hid (Own w' w.heap.size 23 (vs 11) ((barOut q p h).2))) ∧ (b' 13 = true → Hid (Own w' w.heap.size 23 (vs 13) ((barOut q p h).2))) ∧ (Hid (Below w7.heap.size w7 w' ∧ w7.heap.size ≤ w'.heap.size)) ∧ (Hid (Blk w' w.heap.size 39 #[.slice (some ⟨b, o, none⟩) n c, .bool cl] ∧ Row w' (.slice (some ⟨b, o, none⟩) n c) l ∧ Own w' w.heap.size 23 (.slice xa xn xc) ((barOut p q h).2)))) ?_ ?_ ?_
            · intro vs
              exact ⟨fun h => Bool.noConfusion h, fun h => Bool.noConfusion h, fun h => Bool.noConfusion h, fun h => Bool.noConfusion h, fun h => Bool.noConfusion h, fun h => Bool.noConfusion h, fun h => Bool.noConfusion h, fun h => Bool.noConfusion h, fun h => Bool.noConfusion h, fun h => Bool.noConfusion h, fun h => Bool.noConfusion h, fun h => Bool.noConfusion h, fun h => Bool.noConfusion h, fun h => Bool.noConfusion h, fun h => Bool.noConfusion h, Lib.hid ⟨below_drewN (Below.refl _ _) 1, Nat.le_refl _⟩, Lib.hid ⟨FW22.out.1.grow ⟨rfl, rfl, rfl, Nat.le_refl _, fun _ _ => rfl⟩, FW22.out.2.1.on ⟨rfl, rfl, rfl, Nat.le_refl _, fun _ _ => rfl⟩, FW22.out.2.2.grow ⟨rfl, rfl, rfl, Nat.le_refl _, fun _ _ => rfl⟩⟩⟩
            · rintro b' vs w' i op hi hun hall ⟨h0, h1, h2, h3, h4, h5, h6, h7, h8, h12, h14, y9, y10, y11, y13, hB, hF⟩
              have hil : i < 15 := (List.getElem?_eq_some_iff.1 hi).1
              rcases i with _ | _ | _ | _ | _ | _ | _ | _ | _ | _ | _ | _ | _ | _ | _ | i
              · obtain rfl := Option.some.inj hi
                clear hi hil
                refine wpOp_step rfl (fun K hK => ?_)
                have HKK := Lib.hid hK; clear hK
                simp only [putAll, Act.put, List.setIfInBounds_toArray, List.set_cons_zero, List.set_cons_succ]
                go_simp
                exact HKK.out _ _ ⟨_, by simp only [putAll, Act.put, List.setIfInBounds_toArray, List.set_cons_zero, List.set_cons_succ] <;> rfl, fun _ => rfl, h1, h2, h3, h4, h5, h6, h7, h8, h12, h14, y9, y10, y11, y13, hB, hF⟩
              · obtain rfl := Option.some.inj hi
                clear hi hil
                have d0 := h0 (hall ⟨0, .data⟩ (by simp) rfl)
                have kl := hF.out.1
                have x0 : w'.cell? ⟨w.heap.size, 0, none⟩ = some (.slice (some ⟨b, o, none⟩) n c) := kl.cell 0
                clear kl
                refine wpOp_step rfl (fun K hK => ?_)
                have HKK := Lib.hid hK; clear hK
                simp only [putAll, Act.put, List.setIfInBounds_toArray, List.set_cons_zero, List.set_cons_succ]
                go_simp
                exact HKK.out _ _ ⟨_, by simp only [putAll, Act.put, List.setIfInBounds_toArray, List.set_cons_zero, List.set_cons_succ, d0] <;> rfl, h0, fun _ => rfl, h2, h3, h4, h5, h6, h7, h8, h12, h14, y9, y10, y11, y13, hB, hF⟩
              · obtain rfl := Option.some.inj hi
                clear hi hil
                have d1 := h1 (hall ⟨1, .data⟩ (by simp) rfl)
                have hi0 : 0 < n := by have := HN2.out; omega
                have hi1 : 1 < n := by have := HN2.out; omega
                have hj0 : (0 : Int) < (n : Int) := by omega
                have hj1 : (1 : Int) < (n : Int) := by omega
                refine wpOp_step rfl (fun K hK => ?_)
                have HKK := Lib.hid hK; clear hK
                simp only [putAll, Act.put, List.setIfInBounds_toArray, List.set_cons_zero, List.set_cons_succ]
                go_simp
                exact HKK.out _ _ ⟨_, by simp only [putAll, Act.put, List.setIfInBounds_toArray, List.set_cons_zero, List.set_cons_succ, d1] <;> rfl, h0, h1, fun _ => rfl, h3, h4, h5, h6, h7, h8, h12, h14, y9, y10, y11, y13, hB, hF⟩
              · obtain rfl := Option.some.inj hi
                clear hi hil
                have d2 := h2 (hall ⟨2, .data⟩ (by simp) rfl)
                obtain ⟨x0, x1⟩ := hF.out.2.1.pts HQ.out
                rw [Nat.one_mul] at x0 x1
                refine wpOp_step rfl (fun K hK => ?_)
                have HKK := Lib.hid hK; clear hK
                simp only [putAll, Act.put, List.setIfInBounds_toArray, List.set_cons_zero, List.set_cons_succ]
                go_simp
                exact HKK.out _ _ ⟨_, by simp only [putAll, Act.put, List.setIfInBounds_toArray, List.set_cons_zero, List.set_cons_succ, d2] <;> rfl, h0, h1, h2, fun _ => rfl, h4, h5, h6, h7, h8, h12, h14, y9, y10, y11, y13, hB, hF⟩
              · obtain rfl := Option.some.inj hi
                clear hi hil
                refine wpOp_step rfl (fun K hK => ?_)
                have HKK := Lib.hid hK; clear hK
                simp only [putAll, Act.put, List.setIfInBounds_toArray, List.set_cons_zero, List.set_cons_succ]
                go_simp
                exact HKK.out _ _ ⟨_, by simp only [putAll, Act.put, List.setIfInBounds_toArray, List.set_cons_zero, List.set_cons_succ] <;> rfl, h0, h1, h2, h3, fun _ => rfl, h5, h6, h7, h8, h12, h14, y9, y10, y11, y13, hB, hF⟩
              · obtain rfl := Option.some.inj hi
                clear hi hil
                have d4 := h4 (hall ⟨4, .data⟩ (by simp) rfl)
                have kl := hF.out.1
                have x0 : w'.cell? ⟨w.heap.size, 0, none⟩ = some (.slice (some ⟨b, o, none⟩) n c) := kl.cell 0
                clear kl
                refine wpOp_step rfl (fun K hK => ?_)
                have HKK := Lib.hid hK; clear hK
                simp only [putAll, Act.put, List.setIfInBounds_toArray, List.set_cons_zero, List.set_cons_succ]
                go_simp
                exact HKK.out _ _ ⟨_, by simp only [putAll, Act.put, List.setIfInBounds_toArray, List.set_cons_zero, List.set_cons_succ, d4] <;> rfl, h0, h1, h2, h3, h4, fun _ => rfl, h6, h7, h8, h12, h14, y9, y10, y11, y13, hB, hF⟩
              · obtain rfl := Option.some.inj hi
                clear hi hil
                have d5 := h5 (hall ⟨5, .data⟩ (by simp) rfl)
                have hi0 : 0 < n := by have := HN2.out; omega
                have hi1 : 1 < n := by have := HN2.out; omega
                have hj0 : (0 : Int) < (n : Int) := by omega
                have hj1 : (1 : Int) < (n : Int) := by omega
                refine wpOp_step rfl (fun K hK => ?_)
                have HKK := Lib.hid hK; clear hK
                simp only [putAll, Act.put, List.setIfInBounds_toArray, List.set_cons_zero, List.set_cons_succ]
                go_simp
                exact HKK.out _ _ ⟨_, by simp only [putAll, Act.put, List.setIfInBounds_toArray, List.set_cons_zero, List.set_cons_succ, d5] <;> rfl, h0, h1, h2, h3, h4, h5, fun _ => rfl, h7, h8, h12, h14, y9, y10, y11, y13, hB, hF⟩
              · obtain rfl := Option.some.inj hi
                clear hi hil
                have d6 := h6 (hall ⟨6, .data⟩ (by simp) rfl)
                obtain ⟨x0, x1⟩ := hF.out.2.1.pts HP.out
                rw [Nat.zero_mul, Nat.add_zero] at x0 x1
                refine wpOp_step rfl (fun K hK => ?_)
                have HKK := Lib.hid hK; clear hK
                simp only [putAll, Act.put, List.setIfInBounds_toArray, List.set_cons_zero, List.set_cons_succ]
                go_simp
                exact HKK.out _ _ ⟨_, by simp only [putAll, Act.put, List.setIfInBounds_toArray, List.set_cons_zero, List.set_cons_succ, d6] <;> rfl, h0, h1, h2, h3, h4, h5, h6, fun _ => rfl, h8, h12, h14, y9, y10, y11, y13, hB, hF⟩
              · obtain rfl := Option.some.inj hi
                clear hi hil
                refine wpOp_step rfl (fun K hK => ?_)
                have HKK := Lib.hid hK; clear hK
                simp only [putAll, Act.put, List.setIfInBounds_toArray, List.set_cons_zero, List.set_cons_succ]
                go_simp
                exact HKK.out _ _ ⟨_, by simp only [putAll, Act.put, List.setIfInBounds_toArray, List.set_cons_zero, List.set_cons_succ] <;> rfl, h0, h1, h2, h3, h4, h5, h6, h7, fun _ => rfl, h12, h14, y9, y10, y11, y13, hB, hF⟩
              · obtain rfl := Option.some.inj hi
                clear hi hil
                have d3 := h3 (hall ⟨3, .data⟩ (by simp) rfl)
                have d7 := h7 (hall ⟨7, .data⟩ (by simp) rfl)
                have d8 := h8 (hall ⟨8, .data⟩ (by simp) rfl)
                refine wpOp_step rfl (fun K hK => ?_)
                have HKK := Lib.hid hK; clear hK
                simp only [putAll, Act.put, List.setIfInBounds_toArray, List.set_cons_zero, List.set_cons_succ]
                go_simp
                refine (bar_c q p h w').mono ?_
                rintro e w2 ⟨v2, rfl, ho2, hb2⟩
                exact HKK.out _ _ ⟨_, by simp only [putAll, Act.put, List.setIfInBounds_toArray, List.set_cons_zero, List.set_cons_succ, d3, d7, d8] <;> rfl, h0, h1, h2, h3, h4, h5, h6, h7, h8, h12, h14, fun _ => Lib.hid (⟨v2, rfl, ho2.base (Nat.le_trans HBW.out hB.out.2)⟩), fun h => Lib.hid (TupR.grow (y10 h).out hb2), fun h => Lib.hid (Own.grow (y11 h).out hb2), fun h => Lib.hid (Own.grow (y13 h).out hb2), Lib.hid ⟨(hB).out.1.trans (hb2.mono (hB).out.2), Nat.le_trans (hB).out.2 hb2.size⟩, Lib.hid (⟨(hF).out.1.grow hb2, (hF).out.2.1.on hb2, (hF).out.2.2.grow hb2⟩)⟩
              · obtain rfl := Option.some.inj hi
                clear hi hil
                have o9 := y9 (hall ⟨9, .data⟩ (by simp) rfl)
                refine wpOp_step rfl (fun K hK => ?_)
                have HKK := Lib.hid hK; clear hK
                simp only [putAll, Act.put, List.setIfInBounds_toArray, List.set_cons_zero, List.set_cons_succ]
                go_simp
                exact HKK.out _ _ ⟨_, by simp only [putAll, Act.put, List.setIfInBounds_toArray, List.set_cons_zero, List.set_cons_succ] <;> rfl, h0, h1, h2, h3, h4, h5, h6, h7, h8, h12, h14, y9, fun _ => Lib.hid (o9.out), y11, y13, hB, hF⟩
              · obtain rfl := Option.some.inj hi
                clear hi hil
                have o10 := y10 (hall ⟨10, .data⟩ (by simp) rfl)
                obtain ⟨r, er, hor⟩ := o10.out
                refine wpOp_step rfl (fun K hK => ?_)
                have HKK := Lib.hid hK; clear hK
                simp only [putAll, Act.put, List.setIfInBounds_toArray, List.set_cons_zero, List.set_cons_succ]
                go_simp
                exact HKK.out _ _ ⟨_, by simp only [putAll, Act.put, List.setIfInBounds_toArray, List.set_cons_zero, List.set_cons_succ, er] <;> rfl, h0, h1, h2, h3, h4, h5, h6, h7, h8, h12, h14, y9, y10, fun _ => Lib.hid (hor), y13, hB, hF⟩
              · obtain rfl := Option.some.inj hi
                clear hi hil
                have o10 := y10 (hall ⟨10, .data⟩ (by simp) rfl)
                obtain ⟨r, er, hor⟩ := o10.out
                clear hor
                refine wpOp_step rfl (fun K hK => ?_)
                have HKK := Lib.hid hK; clear hK
                simp only [putAll, Act.put, List.setIfInBounds_toArray, List.set_cons_zero, List.set_cons_succ]
                go_simp
                exact HKK.out _ _ ⟨_, by simp only [putAll, Act.put, List.setIfInBounds_toArray, List.set_cons_zero, List.set_cons_succ, er] <;> rfl, h0, h1, h2, h3, h4, h5, h6, h7, h8, fun _ => rfl, h14, y9, y10, y11, y13, hB, hF⟩
              · obtain rfl := Option.some.inj hi
                clear hi hil
                have o11 := y11 (hall ⟨11, .data⟩ (by simp) rfl)
                refine wpOp_step rfl (fun K hK => ?_)
                have HKK := Lib.hid hK; clear hK
                simp only [putAll, Act.put, List.setIfInBounds_toArray, List.set_cons_zero, List.set_cons_succ]
                go_simp
                exact HKK.out _ _ ⟨_, by simp only [putAll, Act.put, List.setIfInBounds_toArray, List.set_cons_zero, List.set_cons_succ] <;> rfl, h0, h1, h2, h3, h4, h5, h6, h7, h8, h12, h14, y9, y10, y11, fun _ => Lib.hid (o11.out), hB, hF⟩
              · obtain rfl := Option.some.inj hi
                clear hi hil
                have d12 := h12 (hall ⟨12, .data⟩ (by simp) rfl)
                refine wpOp_step rfl (fun K hK => ?_)
                have HKK := Lib.hid hK; clear hK
                simp only [putAll, Act.put, List.setIfInBounds_toArray, List.set_cons_zero, List.set_cons_succ]
                go_simp
                exact HKK.out _ _ ⟨_, by simp only [putAll, Act.put, List.setIfInBounds_toArray, List.set_cons_zero, List.set_cons_succ, d12] <;> rfl, h0, h1, h2, h3, h4, h5, h6, h7, h8, h12, fun _ => rfl, y9, y10, y11, y13, hB, hF⟩
              · omega
            · rintro b' vs w2 hall ⟨h0, h1, h2, h3, h4, h5, h6, h7, h8, h12, h14, y9, y10, y11, y13, hB, hF⟩
              have d0 := h0 (hall 0 (by simp))
              have d1 := h1 (hall 1 (by simp))
              have d2 := h2 (hall 2 (by simp))
              have d3 := h3 (hall 3 (by simp))
              have d4 := h4 (hall 4 (by simp))
              have d5 := h5 (hall 5 (by simp))
              have d6 := h6 (hall 6 (by simp))
              have d7 := h7 (hall 7 (by simp))
              have d8 := h8 (hall 8 (by simp))
              have d12 := h12 (hall 12 (by simp))
              have d14 := h14 (hall 14 (by simp))
              have o9 := y9 (hall 9 (by simp))
              have o10 := y10 (hall 10 (by simp))
              have o11 := y11 (hall 11 (by simp))
              have o13 := y13 (hall 13 (by simp))
              have BB := hB
              have FF := hF
              simp only [putAll, Act.put, List.setIfInBounds_toArray, List.set_cons_zero, List.set_cons_succ, d0, d1, d2, d3, d4, d5, d6, d7, d8, d12, d14]
              clear hall h0 d0 h1 d1 h2 d2 h3 d3 h4 d4 h5 d5 h6 d6 h7 d7 h8 d8 h12 d12 h14 d14 y9 y10 y11 y13 hB hF
              have B8 : Hid (Below w.heap.size w w2) := below_next B7.out BB.out.1
              have O8 := Lib.hid o13.out
              have F8 := Lib.hid FF.out
              generalize vs 13 = Y at *
              clear BB FF
              obtain ⟨ya, yn, yc, rfl⟩ := own_shape' O8.out
              generalize vs 9 = r22_9
              generalize vs 10 = r22_10
              generalize vs 11 = r22_11
              obtain ⟨w8, rfl⟩ : ∃ x, x = w2 := ⟨_, rfl⟩
              have HT1 := Lib.hid (fun hz => bar_told (a := p) (b := q) (h := h) hz)
              have HT2 := Lib.hid (fun hz => bar_told (a := q) (b := p) (h := h) hz)
              have HNB := Lib.hid (fun hz => bars_near (a := p) (b := q) (h := h) hz)
              have OX := Lib.hid F8.out.2.2
              clear F8 FW22 B7
              generalize hg1 : (barOut p q h).1 = g1 at *
              generalize hg2 : (barOut q p h).1 = g2 at *
              generalize (barOut p q h).2 = PX at *
              generalize (barOut q p h).2 = PY at *
              clear hg1 hg2
              by_cases hz1 : g1 = 0
              · subst hz1
                by_cases hz2 : g2 = 0
                · subst hz2
                  obtain ⟨t1, t2, t3, t4⟩ := HT1.out rfl
                  obtain ⟨t5, t6, t7, t8⟩ := HT2.out rfl
                  obtain ⟨n0, n1, n2, n3⟩ := HNB.out rfl
                  rw [t1] at OX
                  rw [t5] at O8
                  clear HT1 HT2 HNB t1 t3 t4 t5 t7 t8
                  unfold barI slabI at *
                  generalize subP p (stepS (subP q p) h) = X0 at *
                  generalize subP q (stepS (subP q p) h) = X1 at *
                  generalize addP q (stepS (subP q p) h) = X2 at *
                  generalize addP p (stepS (subP q p) h) = X3 at *
                  generalize subP q (stepS (subP p q) h) = Y0 at *
                  generalize subP p (stepS (subP p q) h) = Y1 at *
                  generalize addP p (stepS (subP p q) h) = Y2 at *
                  generalize addP q (stepS (subP p q) h) = Y3 at *
                  have t2' := List.all_eq_true.1 t2
                  have t6' := List.all_eq_true.1 t6
                  have HN0 := Lib.hid (near_c X0 Y2 (t2' _ (by simp)) (t6' _ (by simp)) n0)
                  have HN1 := Lib.hid (near_c X1 Y3 (t2' _ (by simp)) (t6' _ (by simp)) n1)
                  have HN2' := Lib.hid (near_c X2 Y0 (t2' _ (by simp)) (t6' _ (by simp)) n2)
                  have HN3 := Lib.hid (near_c X3 Y1 (t2' _ (by simp)) (t6' _ (by simp)) n3)
                  clear t2 t6 t2' t6' n0 n1 n2 n3 HN2
                  have HN2 := HN2'
                  clear HN2'
                  obtain ⟨gx, hgx⟩ : ∃ gx, xa = some ⟨gx, 0, none⟩ ∧ xn = 4 := by
                    rcases own_some OX.out with ⟨_, e⟩ | ⟨g, cp, e⟩
                    · cases e
                    · cases e; exact ⟨g, rfl, rfl⟩
                  obtain ⟨gy, hgy⟩ : ∃ gy, ya = some ⟨gy, 0, none⟩ ∧ yn = 4 := by
                    rcases own_some O8.out with ⟨_, e⟩ | ⟨g, cp, e⟩
                    · cases e
                    · cases e; exact ⟨g, rfl, rfl⟩
                  obtain ⟨rfl, rfl⟩ := hgx
                  obtain ⟨rfl, rfl⟩ := hgy
                  have FX : Hid (Row w8 (.slice (some ⟨gx, 0, none⟩) 4 xc) [X0, X1, X2, X3] ∧ Row w8 (.slice (some ⟨gy, 0, none⟩) 4 yc) [Y0, Y1, Y2, Y3]) := ⟨OX.out.row, O8.out.row⟩
                  clear OX O8
                  go_wp2_with fail
                  refine wp_region_put3 (by kernel_rfl) (by kernel_rfl) (by kernel_rfl) (fun b' vs w' => (b' 0 = true → vs 0 = .slice (some ⟨gx, 0, none⟩) 4 xc) ∧ (b' 1 = true → vs 1 = .int .i64 4) ∧ (b' 2 = true → vs 2 = .bool true) ∧ (b' 3 = true → vs 3 = .bool true) ∧ (b' 4 = true → vs 4 = .slice (some ⟨gy, 0, none⟩) 4 yc) ∧ (b' 5 = true → vs 5 = .int .i64 4) ∧ (b' 6 = true → vs 6 = .bool true) ∧ (b' 7 = true → vs 7 = .bool true) ∧ (b' 8 = true → vs 8 = .bool true) ∧ (b' 9 = true → vs 9 = .slice (some ⟨gx, 0, none⟩) 4 xc) ∧ (b' 10 = true → vs 10 = .pointer (some ⟨gx, 0, none⟩)) ∧ (b' 11 = true → vs 11 = .agg #[.int .i64 X0.1, .int .i64 X0.2]) ∧ (b' 12 = true → vs 12 = .slice (some ⟨gy, 0, none⟩) 4 yc) ∧ (b' 13 = true → vs 13 = .pointer (some ⟨gy, 4, none⟩)) ∧ (b' 14 = true → vs 14 = .agg #[.int .i64 Y2.1, .int .i64 Y2.2]) ∧ (b' 15 = true → vs 15 = .bool true) ∧ (b' 16 = true → vs 16 = .bool true) ∧ (b' 17 = true → vs 17 = .bool true) ∧ (b' 18 = true → vs 18 = .slice (some ⟨gx, 0, none⟩) 4 xc) ∧ (b' 19 = true → vs 19 = .pointer (some ⟨gx, 2, none⟩)) ∧ (b' 20 = true → vs 20 = .agg #[.int .i64 X1.1, .int .i64 X1.2]) ∧ (b' 21 = true → vs 21 = .slice (some ⟨gy, 0, none⟩) 4 yc) ∧ (b' 22 = true → vs 22 = .pointer (some ⟨gy, 6, none⟩)) ∧ (b' 23 = true → vs 23 = .agg #[.int .i64 Y3.1, .int .i64 Y3.2]) ∧ (b' 24 = true → vs 24 = .bool true) ∧ (b' 25 = true → vs 25 = .bool true) ∧ (b' 26 = true → vs 26 = .bool true) ∧ (b' 27 = true → vs 27 = .slice (some ⟨gx, 0, none⟩) 4 xc) ∧ (b' 28 = true → vs 28 = .pointer (some ⟨gx, 4, none⟩)) ∧ (b' 29 = true → vs 29 = .agg #[.int .i64 X2.1, .int .i64 X2.2]) ∧ (b' 30 = true → vs 30 = .slice (some ⟨gy, 0, none⟩) 4 yc) ∧ (b' 31 = true → vs 31 = .pointer (some ⟨gy, 0, none⟩)) ∧ (b' 32 = true → vs 32 = .agg #[.int .i64 Y0.1, .int .i64 Y0.2]) ∧ (b' 33 = true → vs 33 = .bool true) ∧ (b' 34 = true → vs 34 = .bool true) ∧ (b' 35 = true → vs 35 = .bool true) ∧ (b' 36 = true → vs 36 = .slice (some ⟨gx, 0, none⟩) 4 xc) ∧ (b' 37 = true → vs 37 = .pointer (some ⟨gx, 6, none⟩)) ∧ (b' 38 = true → vs 38 = .agg #[.int .i64 X3.1, .int .i64 X3.2]) ∧ (b' 39 = true → vs 39 = .slice (some ⟨gy, 0, none⟩) 4 yc) ∧ (b' 40 = true → vs 40 = .pointer (some ⟨gy, 2, none⟩)) ∧ (b' 41 = true → vs 41 = .agg #[.int .i64 Y1.1, .int .i64 Y1.2]) ∧ (b' 42 = true → vs 42 = .bool true) ∧ (b' 43 = true → vs 43 = .bool true) ∧ (b' 44 = true → vs 44 = .bool true) ∧ (b' 45 = true → vs 45 = .bool true) ∧ (b' 46 = true → vs 46 = .bool true) ∧ (b' 47 = true → vs 47 = .bool true) ∧ (Hid (Below w8.heap.size w8 w' ∧ w8.heap.size ≤ w'.heap.size)) ∧ (Hid (Row w' (.slice (some ⟨gx, 0, none⟩) 4 xc) [X0, X1, X2, X3] ∧ Row w' (.slice (some ⟨gy, 0, none⟩) 4 yc) [Y0, Y1, Y2, Y3]))) ?_ ?_ ?_
                  · intro vs
                    exact ⟨fun h => Bool.noConfusion h, fun h => Bool.noConfusion h, fun h => Bool.noConfusion h, fun h => Bool.noConfusion h, fun h => Bool.noConfusion h, fun h => Bool.noConfusion h, fun h => Bool.noConfusion h, fun h => Bool.noConfusion h, fun h => Bool.noConfusion h, fun h => Bool.noConfusion h, fun h => Bool.noConfusion h, fun h => Bool.noConfusion h, fun h => Bool.noConfusion h, fun h => Bool.noConfusion h, fun h => Bool.noConfusion h, fun h => Bool.noConfusion h, fun h => Bool.noConfusion h, fun h => Bool.noConfusion h, fun h => Bool.noConfusion h, fun h => Bool.noConfusion h, fun h => Bool.noConfusion h, fun h => Bool.noConfusion h, fun h => Bool.noConfusion h, fun h => Bool.noConfusion h, fun h => Bool.noConfusion h, fun h => Bool.noConfusion h, fun h => Bool.noConfusion h, fun h => Bool.noConfusion h, fun h => Bool.noConfusion h, fun h => Bool.noConfusion h, fun h => Bool.noConfusion h, fun h => Bool.noConfusion h, fun h => Bool.noConfusion h, fun h => Bool.noConfusion h, fun h => Bool.noConfusion h, fun h => Bool.noConfusion h, fun h => Bool.noConfusion h, fun h => Bool.noConfusion h, fun h => Bool.noConfusion h, fun h => Bool.noConfusion h, fun h => Bool.noConfusion h, fun h => Bool.noConfusion h, fun h => Bool.noConfusion h, fun h => Bool.noConfusion h, fun h => Bool.noConfusion h, fun h => Bool.noConfusion h, fun h => Bool.noConfusion h, fun h => Bool.noConfusion h, Lib.hid ⟨below_drewN (Below.refl _ _) 1, Nat.le_refl _⟩, Lib.hid ⟨FX.out.1.on ⟨rfl, rfl, rfl, Nat.le_refl _, fun _ _ => rfl⟩, FX.out.2.on ⟨rfl, rfl, rfl, Nat.le_refl _, fun _ _ => rfl⟩⟩⟩
                  · rintro b' vs w' i op hi hun hall ⟨h0, h1, h2, h3, h4, h5, h6, h7, h8, h9, h10, h11, h12, h13, h14, h15, h16, h17, h18, h19, h20, h21, h22, h23, h24, h25, h26, h27, h28, h29, h30, h31, h32, h33, h34, h35, h36, h37, h38, h39, h40, h41, h42, h43, h44, h45, h46, h47, hB, hF⟩
                    have hil : i < 48 := (List.getElem?_eq_some_iff.1 hi).1
                    rcases i with _ | _ | _ | _ | _ | _ | _ | _ | _ | _ | _ | _ | _ | _ | _ | _ | _ | _ | _ | _ | _ | _ | _ | _ | _ | _ | _ | _ | _ | _ | _ | _ | _ | _ | _ | _ | _ | _ | _ | _ | _ | _ | _ | _ | _ | _ | _ | _ | i
                    · obtain rfl := Option.some.inj hi
                      clear hi hil
                      refine StepOk.plain rfl (fun K hK => ?_)
                      have HKK := Lib.hid hK; clear hK
                      simp only [putAll, Act.put, List.setIfInBounds_toArray, List.set_cons_zero, List.set_cons_succ]
                      go_simp
                      exact HKK.out _ _ ⟨_, by simp only [putAll, Act.put, List.setIfInBounds_toArray, List.set_cons_zero, List.set_cons_succ] <;> rfl, fun _ => rfl, h1, h2, h3, h4, h5, h6, h7, h8, h9, h10, h11, h12, h13, h14, h15, h16, h17, h18, h19, h20, h21, h22, h23, h24, h25, h26, h27, h28, h29, h30, h31, h32, h33, h34, h35, h36, h37, h38, h39, h40, h41, h42, h43, h44, h45, h46, h47, hB, hF⟩
                    · obtain rfl := Option.some.inj hi
                      clear hi hil
                      have d0 := h0 (hall ⟨0, .data⟩ (by simp) rfl)
                      refine StepOk.plain rfl (fun K hK => ?_)
                      have HKK := Lib.hid hK; clear hK
                      simp only [putAll, Act.put, List.setIfInBounds_toArray, List.set_cons_zero, List.set_cons_succ]
                      go_simp
                      exact HKK.out _ _ ⟨_, by simp only [putAll, Act.put, List.setIfInBounds_toArray, List.set_cons_zero, List.set_cons_succ, d0] <;> rfl, h0, fun _ => rfl, h2, h3, h4, h5, h6, h7, h8, h9, h10, h11, h12, h13, h14, h15, h16, h17, h18, h19, h20, h21, h22, h23, h24, h25, h26, h27, h28, h29, h30, h31, h32, h33, h34, h35, h36, h37, h38, h39, h40, h41, h42, h43, h44, h45, h46, h47, hB, hF⟩
                    · obtain rfl := Option.some.inj hi
                      clear hi hil
                      have d1 := h1 (hall ⟨1, .data⟩ (by simp) rfl)
                      refine StepOk.plain rfl (fun K hK => ?_)
                      have HKK := Lib.hid hK; clear hK
                      simp only [putAll, Act.put, List.setIfInBounds_toArray, List.set_cons_zero, List.set_cons_succ]
                      go_simp
                      exact HKK.out _ _ ⟨_, by simp only [putAll, Act.put, List.setIfInBounds_toArray, List.set_cons_zero, List.set_cons_succ, d1] <;> rfl, h0, h1, fun _ => rfl, h3, h4, h5, h6, h7, h8, h9, h10, h11, h12, h13, h14, h15, h16, h17, h18, h19, h20, h21, h22, h23, h24, h25, h26, h27, h28, h29, h30, h31, h32, h33, h34, h35, h36, h37, h38, h39, h40, h41, h42, h43, h44, h45, h46, h47, hB, hF⟩
                    · obtain rfl := Option.some.inj hi
                      clear hi hil
                      have d2 := h2 (hall ⟨2, .data⟩ (by simp) rfl)
                      refine StepOk.plain rfl (fun K hK => ?_)
                      have HKK := Lib.hid hK; clear hK
                      simp only [putAll, Act.put, List.setIfInBounds_toArray, List.set_cons_zero, List.set_cons_succ]
                      go_simp
                      exact HKK.out _ _ ⟨_, by simp only [putAll, Act.put, List.setIfInBounds_toArray, List.set_cons_zero, List.set_cons_succ, d2] <;> rfl, h0, h1, h2, fun _ => rfl, h4, h5, h6, h7, h8, h9, h10, h11, h12, h13, h14, h15, h16, h17, h18, h19, h20, h21, h22, h23, h24, h25, h26, h27, h28, h29, h30, h31, h32, h33, h34, h35, h36, h37, h38, h39, h40, h41, h42, h43, h44, h45, h46, h47, hB, hF⟩
                    · obtain rfl := Option.some.inj hi
                      clear hi hil
                      have d3 := h3 (hall ⟨3, .guard⟩ (by simp) rfl)
                      refine StepOk.on 3 true rfl rfl d3 (fun K hK => ?_)
                      have HKK := Lib.hid hK; clear hK
                      simp only [putAll, Act.put, List.setIfInBounds_toArray, List.set_cons_zero, List.set_cons_succ]
                      go_simp
                      exact HKK.out _ _ ⟨_, by simp only [putAll, Act.put, List.setIfInBounds_toArray, List.set_cons_zero, List.set_cons_succ, d3] <;> rfl, h0, h1, h2, h3, fun _ => rfl, h5, h6, h7, h8, h9, h10, h11, h12, h13, h14, h15, h16, h17, h18, h19, h20, h21, h22, h23, h24, h25, h26, h27, h28, h29, h30, h31, h32, h33, h34, h35, h36, h37, h38, h39, h40, h41, h42, h43, h44, h45, h46, h47, hB, hF⟩
                    · obtain rfl := Option.some.inj hi
                      clear hi hil
                      have d4 := h4 (hall ⟨4, .data⟩ (by simp) rfl)
                      have d3 := h3 (hall ⟨3, .guard⟩ (by simp) rfl)
                      refine StepOk.on 3 true rfl rfl d3 (fun K hK => ?_)
                      have HKK := Lib.hid hK; clear hK
                      simp only [putAll, Act.put, List.setIfInBounds_toArray, List.set_cons_zero, List.set_cons_succ]
                      go_simp
                      exact HKK.out _ _ ⟨_, by simp only [putAll, Act.put, List.setIfInBounds_toArray, List.set_cons_zero, List.set_cons_succ, d4, d3] <;> rfl, h0, h1, h2, h3, h4, fun _ => rfl, h6, h7, h8, h9, h10, h11, h12, h13, h14, h15, h16, h17, h18, h19, h20, h21, h22, h23, h24, h25, h26, h27, h28, h29, h30, h31, h32, h33, h34, h35, h36, h37, h38, h39, h40, h41, h42, h43, h44, h45, h46, h47, hB, hF⟩
                    · obtain rfl := Option.some.inj hi
                      clear hi hil
                      have d5 := h5 (hall ⟨5, .data⟩ (by simp) rfl)
                      have d3 := h3 (hall ⟨3, .guard⟩ (by simp) rfl)
                      refine StepOk.on 3 true rfl rfl d3 (fun K hK => ?_)
                      have HKK := Lib.hid hK; clear hK
                      simp only [putAll, Act.put, List.setIfInBounds_toArray, List.set_cons_zero, List.set_cons_succ]
                      go_simp
                      exact HKK.out _ _ ⟨_, by simp only [putAll, Act.put, List.setIfInBounds_toArray, List.set_cons_zero, List.set_cons_succ, d5, d3] <;> rfl, h0, h1, h2, h3, h4, h5, fun _ => rfl, h7, h8, h9, h10, h11, h12, h13, h14, h15, h16, h17, h18, h19, h20, h21, h22, h23, h24, h25, h26, h27, h28, h29, h30, h31, h32, h33, h34, h35, h36, h37, h38, h39, h40, h41, h42, h43, h44, h45, h46, h47, hB, hF⟩
                    · obtain rfl := Option.some.inj hi
                      clear hi hil
                      have d3 := h3 (hall ⟨3, .data⟩ (by simp) rfl)
                      have d6 := h6 (hall ⟨6, .data⟩ (by simp) rfl)
                      refine StepOk.plain rfl (fun K hK => ?_)
                      have HKK := Lib.hid hK; clear hK
                      simp only [putAll, Act.put, List.setIfInBounds_toArray, List.set_cons_zero, List.set_cons_succ]
                      go_simp
                      exact HKK.out _ _ ⟨_, by simp only [putAll, Act.put, List.setIfInBounds_toArray, List.set_cons_zero, List.set_cons_succ, d3, d6] <;> rfl, h0, h1, h2, h3, h4, h5, h6, fun _ => rfl, h8, h9, h10, h11, h12, h13, h14, h15, h16, h17, h18, h19, h20, h21, h22, h23, h24, h25, h26, h27, h28, h29, h30, h31, h32, h33, h34, h35, h36, h37, h38, h39, h40, h41, h42, h43, h44, h45, h46, h47, hB, hF⟩
                    · obtain rfl := Option.some.inj hi
                      clear hi hil
                      have d7 := h7 (hall ⟨7, .data⟩ (by simp) rfl)
                      refine StepOk.plain rfl (fun K hK => ?_)
                      have HKK := Lib.hid hK; clear hK
                      simp only [putAll, Act.put, List.setIfInBounds_toArray, List.set_cons_zero, List.set_cons_succ]
                      go_simp
                      exact HKK.out _ _ ⟨_, by simp only [putAll, Act.put, List.setIfInBounds_toArray, List.set_cons_zero, List.set_cons_succ, d7] <;> rfl, h0, h1, h2, h3, h4, h5, h6, h7, fun _ => rfl, h9, h10, h11, h12, h13, h14, h15, h16, h17, h18, h19, h20, h21, h22, h23, h24, h25, h26, h27, h28, h29, h30, h31, h32, h33, h34, h35, h36, h37, h38, h39, h40, h41, h42, h43, h44, h45, h46, h47, hB, hF⟩
                    · obtain rfl := Option.some.inj hi
                      clear hi hil
                      have d8 := h8 (hall ⟨8, .guard⟩ (by simp) rfl)
                      refine StepOk.on 8 true rfl rfl d8 (fun K hK => ?_)
                      have HKK := Lib.hid hK; clear hK
                      simp only [putAll, Act.put, List.setIfInBounds_toArray, List.set_cons_zero, List.set_cons_succ]
                      go_simp
                      exact HKK.out _ _ ⟨_, by simp only [putAll, Act.put, List.setIfInBounds_toArray, List.set_cons_zero, List.set_cons_succ, d8] <;> rfl, h0, h1, h2, h3, h4, h5, h6, h7, h8, fun _ => rfl, h10, h11, h12, h13, h14, h15, h16, h17, h18, h19, h20, h21, h22, h23, h24, h25, h26, h27, h28, h29, h30, h31, h32, h33, h34, h35, h36, h37, h38, h39, h40, h41, h42, h43, h44, h45, h46, h47, hB, hF⟩
                    · obtain rfl := Option.some.inj hi
                      clear hi hil
                      have d9 := h9 (hall ⟨9, .data⟩ (by simp) rfl)
                      have d8 := h8 (hall ⟨8, .guard⟩ (by simp) rfl)
                      refine StepOk.on 8 true rfl rfl d8 (fun K hK => ?_)
                      have HKK := Lib.hid hK; clear hK
                      simp only [putAll, Act.put, List.setIfInBounds_toArray, List.set_cons_zero, List.set_cons_succ]
                      go_simp
                      exact HKK.out _ _ ⟨_, by simp only [putAll, Act.put, List.setIfInBounds_toArray, List.set_cons_zero, List.set_cons_succ, d9, d8] <;> rfl, h0, h1, h2, h3, h4, h5, h6, h7, h8, h9, fun _ => rfl, h11, h12, h13, h14, h15, h16, h17, h18, h19, h20, h21, h22, h23, h24, h25, h26, h27, h28, h29, h30, h31, h32, h33, h34, h35, h36, h37, h38, h39, h40, h41, h42, h43, h44, h45, h46, h47, hB, hF⟩
                    · obtain rfl := Option.some.inj hi
                      clear hi hil
                      have d10 := h10 (hall ⟨10, .data⟩ (by simp) rfl)
                      have d8 := h8 (hall ⟨8, .guard⟩ (by simp) rfl)
                      obtain ⟨x0, x1⟩ := hF.out.1.pts (k := 0) (p := X0) rfl
                      simp only [Nat.reduceMul, Nat.reduceAdd] at x0 x1
                      refine StepOk.on 8 true rfl rfl d8 (fun K hK => ?_)
                      have HKK := Lib.hid hK; clear hK
                      simp only [putAll, Act.put, List.setIfInBounds_toArray, List.set_cons_zero, List.set_cons_succ]
                      go_simp
                      exact HKK.out _ _ ⟨_, by simp only [putAll, Act.put, List.setIfInBounds_toArray, List.set_cons_zero, List.set_cons_succ, d10, d8] <;> rfl, h0, h1, h2, h3, h4, h5, h6, h7, h8, h9, h10, fun _ => rfl, h12, h13, h14, h15, h16, h17, h18, h19, h20, h21, h22, h23, h24, h25, h26, h27, h28, h29, h30, h31, h32, h33, h34, h35, h36, h37, h38, h39, h40, h41, h42, h43, h44, h45, h46, h47, hB, hF⟩
                    · obtain rfl := Option.some.inj hi
                      clear hi hil
                      have d8 := h8 (hall ⟨8, .guard⟩ (by simp) rfl)
                      refine StepOk.on 8 true rfl rfl d8 (fun K hK => ?_)
                      have HKK := Lib.hid hK; clear hK
                      simp only [putAll, Act.put, List.setIfInBounds_toArray, List.set_cons_zero, List.set_cons_succ]
                      go_simp
                      exact HKK.out _ _ ⟨_, by simp only [putAll, Act.put, List.setIfInBounds_toArray, List.set_cons_zero, List.set_cons_succ, d8] <;> rfl, h0, h1, h2, h3, h4, h5, h6, h7, h8, h9, h10, h11, fun _ => rfl, h13, h14, h15, h16, h17, h18, h19, h20, h21, h22, h23, h24, h25, h26, h27, h28, h29, h30, h31, h32, h33, h34, h35, h36, h37, h38, h39, h40, h41, h42, h43, h44, h45, h46, h47, hB, hF⟩
                    · obtain rfl := Option.some.inj hi
                      clear hi hil
                      have d12 := h12 (hall ⟨12, .data⟩ (by simp) rfl)
                      have d8 := h8 (hall ⟨8, .guard⟩ (by simp) rfl)
                      refine StepOk.on 8 true rfl rfl d8 (fun K hK => ?_)
                      have HKK := Lib.hid hK; clear hK
                      simp only [putAll, Act.put, List.setIfInBounds_toArray, List.set_cons_zero, List.set_cons_succ]
                      go_simp
                      exact HKK.out _ _ ⟨_, by simp only [putAll, Act.put, List.setIfInBounds_toArray, List.set_cons_zero, List.set_cons_succ, d12, d8] <;> rfl, h0, h1, h2, h3, h4, h5, h6, h7, h8, h9, h10, h11, h12, fun _ => rfl, h14, h15, h16, h17, h18, h19, h20, h21, h22, h23, h24, h25, h26, h27, h28, h29, h30, h31, h32, h33, h34, h35, h36, h37, h38, h39, h40, h41, h42, h43, h44, h45, h46, h47, hB, hF⟩
                    · obtain rfl := Option.some.inj hi
                      clear hi hil
                      have d13 := h13 (hall ⟨13, .data⟩ (by simp) rfl)
                      have d8 := h8 (hall ⟨8, .guard⟩ (by simp) rfl)
                      obtain ⟨x0, x1⟩ := hF.out.2.pts (k := 2) (p := Y2) rfl
                      simp only [Nat.reduceMul, Nat.reduceAdd] at x0 x1
                      refine StepOk.on 8 true rfl rfl d8 (fun K hK => ?_)
                      have HKK := Lib.hid hK; clear hK
                      simp only [putAll, Act.put, List.setIfInBounds_toArray, List.set_cons_zero, List.set_cons_succ]
                      go_simp
                      exact HKK.out _ _ ⟨_, by simp only [putAll, Act.put, List.setIfInBounds_toArray, List.set_cons_zero, List.set_cons_succ, d13, d8] <;> rfl, h0, h1, h2, h3, h4, h5, h6, h7, h8, h9, h10, h11, h12, h13, fun _ => rfl, h15, h16, h17, h18, h19, h20, h21, h22, h23, h24, h25, h26, h27, h28, h29, h30, h31, h32, h33, h34, h35, h36, h37, h38, h39, h40, h41, h42, h43, h44, h45, h46, h47, hB, hF⟩
                    · obtain rfl := Option.some.inj hi
                      clear hi hil
                      have d11 := h11 (hall ⟨11, .data⟩ (by simp) rfl)
                      have d14 := h14 (hall ⟨14, .data⟩ (by simp) rfl)
                      have d8 := h8 (hall ⟨8, .guard⟩ (by simp) rfl)
                      refine StepOk.on 8 true rfl rfl d8 (fun K hK => ?_)
                      have HKK := Lib.hid hK; clear hK
                      simp only [putAll, Act.put, List.setIfInBounds_toArray, List.set_cons_zero, List.set_cons_succ]
                      go_simp
                      refine (HN0.out w').mono ?_
                      rintro e w2 ⟨rfl, hb2⟩
                      exact HKK.out _ _ ⟨_, by simp only [putAll, Act.put, List.setIfInBounds_toArray, List.set_cons_zero, List.set_cons_succ, d11, d14, d8] <;> rfl, h0, h1, h2, h3, h4, h5, h6, h7, h8, h9, h10, h11, h12, h13, h14, fun _ => rfl, h16, h17, h18, h19, h20, h21, h22, h23, h24, h25, h26, h27, h28, h29, h30, h31, h32, h33, h34, h35, h36, h37, h38, h39, h40, h41, h42, h43, h44, h45, h46, h47, Lib.hid ⟨(hB).out.1.trans (hb2.mono (hB).out.2), Nat.le_trans (hB).out.2 hb2.size⟩, Lib.hid (⟨(hF).out.1.on hb2, (hF).out.2.on hb2⟩)⟩
                    · obtain rfl := Option.some.inj hi
                      clear hi hil
                      have d8 := h8 (hall ⟨8, .data⟩ (by simp) rfl)
                      have d15 := h15 (hall ⟨15, .data⟩ (by simp) rfl)
                      refine StepOk.plain rfl (fun K hK => ?_)
                      have HKK := Lib.hid hK; clear hK
                      simp only [putAll, Act.put, List.setIfInBounds_toArray, List.set_cons_zero, List.set_cons_succ]
                      go_simp
                      exact HKK.out _ _ ⟨_, by simp only [putAll, Act.put, List.setIfInBounds_toArray, List.set_cons_zero, List.set_cons_succ, d8, d15] <;> rfl, h0, h1, h2, h3, h4, h5, h6, h7, h8, h9, h10, h11, h12, h13, h14, h15, fun _ => rfl, h17, h18, h19, h20, h21, h22, h23, h24, h25, h26, h27, h28, h29, h30, h31, h32, h33, h34, h35, h36, h37, h38, h39, h40, h41, h42, h43, h44, h45, h46, h47, hB, hF⟩
                    · obtain rfl := Option.some.inj hi
                      clear hi hil
                      have d16 := h16 (hall ⟨16, .data⟩ (by simp) rfl)
                      refine StepOk.plain rfl (fun K hK => ?_)
                      have HKK := Lib.hid hK; clear hK
                      simp only [putAll, Act.put, List.setIfInBounds_toArray, List.set_cons_zero, List.set_cons_succ]
                      go_simp
                      exact HKK.out _ _ ⟨_, by simp only [putAll, Act.put, List.setIfInBounds_toArray, List.set_cons_zero, List.set_cons_succ, d16] <;> rfl, h0, h1, h2, h3, h4, h5, h6, h7, h8, h9, h10, h11, h12, h13, h14, h15, h16, fun _ => rfl, h18, h19, h20, h21, h22, h23, h24, h25, h26, h27, h28, h29, h30, h31, h32, h33, h34, h35, h36, h37, h38, h39, h40, h41, h42, h43, h44, h45, h46, h47, hB, hF⟩
                    · obtain rfl := Option.some.inj hi
                      clear hi hil
                      have d17 := h17 (hall ⟨17, .guard⟩ (by simp) rfl)
                      refine StepOk.on 17 true rfl rfl d17 (fun K hK => ?_)
                      have HKK := Lib.hid hK; clear hK
                      simp only [putAll, Act.put, List.setIfInBounds_toArray, List.set_cons_zero, List.set_cons_succ]
                      go_simp
                      exact HKK.out _ _ ⟨_, by simp only [putAll, Act.put, List.setIfInBounds_toArray, List.set_cons_zero, List.set_cons_succ, d17] <;> rfl, h0, h1, h2, h3, h4, h5, h6, h7, h8, h9, h10, h11, h12, h13, h14, h15, h16, h17, fun _ => rfl, h19, h20, h21, h22, h23, h24, h25, h26, h27, h28, h29, h30, h31, h32, h33, h34, h35, h36, h37, h38, h39, h40, h41, h42, h43, h44, h45, h46, h47, hB, hF⟩
                    · obtain rfl := Option.some.inj hi
                      clear hi hil
                      have d18 := h18 (hall ⟨18, .data⟩ (by simp) rfl)
                      have d17 := h17 (hall ⟨17, .guard⟩ (by simp) rfl)
                      refine StepOk.on 17 true rfl rfl d17 (fun K hK => ?_)
                      have HKK := Lib.hid hK; clear hK
                      simp only [putAll, Act.put, List.setIfInBounds_toArray, List.set_cons_zero, List.set_cons_succ]
                      go_simp
                      exact HKK.out _ _ ⟨_, by simp only [putAll, Act.put, List.setIfInBounds_toArray, List.set_cons_zero, List.set_cons_succ, d18, d17] <;> rfl, h0, h1, h2, h3, h4, h5, h6, h7, h8, h9, h10, h11, h12, h13, h14, h15, h16, h17, h18, fun _ => rfl, h20, h21, h22, h23, h24, h25, h26, h27, h28, h29, h30, h31, h32, h33, h34, h35, h36, h37, h38, h39, h40, h41, h42, h43, h44, h45, h46, h47, hB, hF⟩
                    · obtain rfl := Option.some.inj hi
                      clear hi hil
                      have d19 := h19 (hall ⟨19, .data⟩ (by simp) rfl)
                      have d17 := h17 (hall ⟨17, .guard⟩ (by simp) rfl)
                      obtain ⟨x0, x1⟩ := hF.out.1.pts (k := 1) (p := X1) rfl
                      simp only [Nat.reduceMul, Nat.reduceAdd] at x0 x1
                      refine StepOk.on 17 true rfl rfl d17 (fun K hK => ?_)
                      have HKK := Lib.hid hK; clear hK
                      simp only [putAll, Act.put, List.setIfInBounds_toArray, List.set_cons_zero, List.set_cons_succ]
                      go_simp
                      exact HKK.out _ _ ⟨_, by simp only [putAll, Act.put, List.setIfInBounds_toArray, List.set_cons_zero, List.set_cons_succ, d19, d17] <;> rfl, h0, h1, h2, h3, h4, h5, h6, h7, h8, h9, h10, h11, h12, h13, h14, h15, h16, h17, h18, h19, fun _ => rfl, h21, h22, h23, h24, h25, h26, h27, h28, h29, h30, h31, h32, h33, h34, h35, h36, h37, h38, h39, h40, h41, h42, h43, h44, h45, h46, h47, hB, hF⟩
                    · obtain rfl := Option.some.inj hi
                      clear hi hil
                      have d17 := h17 (hall ⟨17, .guard⟩ (by simp) rfl)
                      refine StepOk.on 17 true rfl rfl d17 (fun K hK => ?_)
                      have HKK := Lib.hid hK; clear hK
                      simp only [putAll, Act.put, List.setIfInBounds_toArray, List.set_cons_zero, List.set_cons_succ]
                      go_simp
                      exact HKK.out _ _ ⟨_, by simp only [putAll, Act.put, List.setIfInBounds_toArray, List.set_cons_zero, List.set_cons_succ, d17] <;> rfl, h0, h1, h2, h3, h4, h5, h6, h7, h8, h9, h10, h11, h12, h13, h14, h15, h16, h17, h18, h19, h20, fun _ => rfl, h22, h23, h24, h25, h26, h27, h28, h29, h30, h31, h32, h33, h34, h35, h36, h37, h38, h39, h40, h41, h42, h43, h44, h45, h46, h47, hB, hF⟩
                    · obtain rfl := Option.some.inj hi
                      clear hi hil
                      have d21 := h21 (hall ⟨21, .data⟩ (by simp) rfl)
                      have d17 := h17 (hall ⟨17, .guard⟩ (by simp) rfl)
                      refine StepOk.on 17 true rfl rfl d17 (fun K hK => ?_)
                      have HKK := Lib.hid hK; clear hK
                      simp only [putAll, Act.put, List.setIfInBounds_toArray, List.set_cons_zero, List.set_cons_succ]
                      go_simp
                      exact HKK.out _ _ ⟨_, by simp only [putAll, Act.put, List.setIfInBounds_toArray, List.set_cons_zero, List.set_cons_succ, d21, d17] <;> rfl, h0, h1, h2, h3, h4, h5, h6, h7, h8, h9, h10, h11, h12, h13, h14, h15, h16, h17, h18, h19, h20, h21, fun _ => rfl, h23, h24, h25, h26, h27, h28, h29, h30, h31, h32, h33, h34, h35, h36, h37, h38, h39, h40, h41, h42, h43, h44, h45, h46, h47, hB, hF⟩
                    · obtain rfl := Option.some.inj hi
                      clear hi hil
                      have d22 := h22 (hall ⟨22, .data⟩ (by simp) rfl)
                      have d17 := h17 (hall ⟨17, .guard⟩ (by simp) rfl)
                      obtain ⟨x0, x1⟩ := hF.out.2.pts (k := 3) (p := Y3) rfl
                      simp only [Nat.reduceMul, Nat.reduceAdd] at x0 x1
                      refine StepOk.on 17 true rfl rfl d17 (fun K hK => ?_)
                      have HKK := Lib.hid hK; clear hK
                      simp only [putAll, Act.put, List.setIfInBounds_toArray, List.set_cons_zero, List.set_cons_succ]
                      go_simp
                      exact HKK.out _ _ ⟨_, by simp only [putAll, Act.put, List.setIfInBounds_toArray, List.set_cons_zero, List.set_cons_succ, d22, d17] <;> rfl, h0, h1, h2, h3, h4, h5, h6, h7, h8, h9, h10, h11, h12, h13, h14, h15, h16, h17, h18, h19, h20, h21, h22, fun _ => rfl, h24, h25, h26, h27, h28, h29, h30, h31, h32, h33, h34, h35, h36, h37, h38, h39, h40, h41, h42, h43, h44, h45, h46, h47, hB, hF⟩
                    · obtain rfl := Option.some.inj hi
                      clear hi hil
                      have d20 := h20 (hall ⟨20, .data⟩ (by simp) rfl)
                      have d23 := h23 (hall ⟨23, .data⟩ (by simp) rfl)
                      have d17 := h17 (hall ⟨17, .guard⟩ (by simp) rfl)
                      refine StepOk.on 17 true rfl rfl d17 (fun K hK => ?_)
                      have HKK := Lib.hid hK; clear hK
                      simp only [putAll, Act.put, List.setIfInBounds_toArray, List.set_cons_zero, List.set_cons_succ]
                      go_simp
                      refine (HN1.out w').mono ?_
                      rintro e w2 ⟨rfl, hb2⟩
                      exact HKK.out _ _ ⟨_, by simp only [putAll, Act.put, List.setIfInBounds_toArray, List.set_cons_zero, List.set_cons_succ, d20, d23, d17] <;> rfl, h0, h1, h2, h3, h4, h5, h6, h7, h8, h9, h10, h11, h12, h13, h14, h15, h16, h17, h18, h19, h20, h21, h22, h23, fun _ => rfl, h25, h26, h27, h28, h29, h30, h31, h32, h33, h34, h35, h36, h37, h38, h39, h40, h41, h42, h43, h44, h45, h46, h47, Lib.hid ⟨(hB).out.1.trans (hb2.mono (hB).out.2), Nat.le_trans (hB).out.2 hb2.size⟩, Lib.hid (⟨(hF).out.1.on hb2, (hF).out.2.on hb2⟩)⟩
                    · obtain rfl := Option.some.inj hi
                      clear hi hil
                      have d17 := h17 (hall ⟨17, .data⟩ (by simp) rfl)
                      have d24 := h24 (hall ⟨24, .data⟩ (by simp) rfl)
                      refine StepOk.plain rfl (fun K hK => ?_)
                      have HKK := Lib.hid hK; clear hK
                      simp only [putAll, Act.put, List.setIfInBounds_toArray, List.set_cons_zero, List.set_cons_succ]
                      go_simp
                      exact HKK.out _ _ ⟨_, by simp only [putAll, Act.put, List.setIfInBounds_toArray, List.set_cons_zero, List.set_cons_succ, d17, d24] <;> rfl, h0, h1, h2, h3, h4, h5, h6, h7, h8, h9, h10, h11, h12, h13, h14, h15, h16, h17, h18, h19, h20, h21, h22, h23, h24, fun _ => rfl, h26, h27, h28, h29, h30, h31, h32, h33, h34, h35, h36, h37, h38, h39, h40, h41, h42, h43, h44, h45, h46, h47, hB, hF⟩
                    · obtain rfl := Option.some.inj hi
                      clear hi hil
                      have d25 := h25 (hall ⟨25, .data⟩ (by simp) rfl)
                      refine StepOk.plain rfl (fun K hK => ?_)
                      have HKK := Lib.hid hK; clear hK
                      simp only [putAll, Act.put, List.setIfInBounds_toArray, List.set_cons_zero, List.set_cons_succ]
                      go_simp
                      exact HKK.out _ _ ⟨_, by simp only [putAll, Act.put, List.setIfInBounds_toArray, List.set_cons_zero, List.set_cons_succ, d25] <;> rfl, h0, h1, h2, h3, h4, h5, h6, h7, h8, h9, h10, h11, h12, h13, h14, h15, h16, h17, h18, h19, h20, h21, h22, h23, h24, h25, fun _ => rfl, h27, h28, h29, h30, h31, h32, h33, h34, h35, h36, h37, h38, h39, h40, h41, h42, h43, h44, h45, h46, h47, hB, hF⟩
                    · obtain rfl := Option.some.inj hi
                      clear hi hil
                      have d26 := h26 (hall ⟨26, .guard⟩ (by simp) rfl)
                      refine StepOk.on 26 true rfl rfl d26 (fun K hK => ?_)
                      have HKK := Lib.hid hK; clear hK
                      simp only [putAll, Act.put, List.setIfInBounds_toArray, List.set_cons_zero, List.set_cons_succ]
                      go_simp
                      exact HKK.out _ _ ⟨_, by simp only [putAll, Act.put, List.setIfInBounds_toArray, List.set_cons_zero, List.set_cons_succ, d26] <;> rfl, h0, h1, h2, h3, h4, h5, h6, h7, h8, h9, h10, h11, h12, h13, h14, h15, h16, h17, h18, h19, h20, h21, h22, h23, h24, h25, h26, fun _ => rfl, h28, h29, h30, h31, h32, h33, h34, h35, h36, h37, h38, h39, h40, h41, h42, h43, h44, h45, h46, h47, hB, hF⟩
                    · obtain rfl := Option.some.inj hi
                      clear hi hil
                      have d27 := h27 (hall ⟨27, .data⟩ (by simp) rfl)
                      have d26 := h26 (hall ⟨26, .guard⟩ (by simp) rfl)
                      refine StepOk.on 26 true rfl rfl d26 (fun K hK => ?_)
                      have HKK := Lib.hid hK; clear hK
                      simp only [putAll, Act.put, List.setIfInBounds_toArray, List.set_cons_zero, List.set_cons_succ]
                      go_simp
                      exact HKK.out _ _ ⟨_, by simp only [putAll, Act.put, List.setIfInBounds_toArray, List.set_cons_zero, List.set_cons_succ, d27, d26] <;> rfl, h0, h1, h2, h3, h4, h5, h6, h7, h8, h9, h10, h11, h12, h13, h14, h15, h16, h17, h18, h19, h20, h21, h22, h23, h24, h25, h26, h27, fun _ => rfl, h29, h30, h31, h32, h33, h34, h35, h36, h37, h38, h39, h40, h41, h42, h43, h44, h45, h46, h47, hB, hF⟩
                    · obtain rfl := Option.some.inj hi
                      clear hi hil
                      have d28 := h28 (hall ⟨28, .data⟩ (by simp) rfl)
                      have d26 := h26 (hall ⟨26, .guard⟩ (by simp) rfl)
                      obtain ⟨x0, x1⟩ := hF.out.1.pts (k := 2) (p := X2) rfl
                      simp only [Nat.reduceMul, Nat.reduceAdd] at x0 x1
                      refine StepOk.on 26 true rfl rfl d26 (fun K hK => ?_)
                      have HKK := Lib.hid hK; clear hK
                      simp only [putAll, Act.put, List.setIfInBounds_toArray, List.set_cons_zero, List.set_cons_succ]
                      go_simp
                      exact HKK.out _ _ ⟨_, by simp only [putAll, Act.put, List.setIfInBounds_toArray, List.set_cons_zero, List.set_cons_succ, d28, d26] <;> rfl, h0, h1, h2, h3, h4, h5, h6, h7, h8, h9, h10, h11, h12, h13, h14, h15, h16, h17, h18, h19, h20, h21, h22, h23, h24, h25, h26, h27, h28, fun _ => rfl, h30, h31, h32, h33, h34, h35, h36, h37, h38, h39, h40, h41, h42, h43, h44, h45, h46, h47, hB, hF⟩
                    · obtain rfl := Option.some.inj hi
                      clear hi hil
                      have d26 := h26 (hall ⟨26, .guard⟩ (by simp) rfl)
                      refine StepOk.on 26 true rfl rfl d26 (fun K hK => ?_)
                      have HKK := Lib.hid hK; clear hK
                      simp only [putAll, Act.put, List.setIfInBounds_toArray, List.set_cons_zero, List.set_cons_succ]
                      go_simp
                      exact HKK.out _ _ ⟨_, by simp only [putAll, Act.put, List.setIfInBounds_toArray, List.set_cons_zero, List.set_cons_succ, d26] <;> rfl, h0, h1, h2, h3, h4, h5, h6, h7, h8, h9, h10, h11, h12, h13, h14, h15, h16, h17, h18, h19, h20, h21, h22, h23, h24, h25, h26, h27, h28, h29, fun _ => rfl, h31, h32, h33, h34, h35, h36, h37, h38, h39, h40, h41, h42, h43, h44, h45, h46, h47, hB, hF⟩
                    · obtain rfl := Option.some.inj hi
                      clear hi hil
                      have d30 := h30 (hall ⟨30, .data⟩ (by simp) rfl)
                      have d26 := h26 (hall ⟨26, .guard⟩ (by simp) rfl)
                      refine StepOk.on 26 true rfl rfl d26 (fun K hK => ?_)
                      have HKK := Lib.hid hK; clear hK
                      simp only [putAll, Act.put, List.setIfInBounds_toArray, List.set_cons_zero, List.set_cons_succ]
                      go_simp
                      exact HKK.out _ _ ⟨_, by simp only [putAll, Act.put, List.setIfInBounds_toArray, List.set_cons_zero, List.set_cons_succ, d30, d26] <;> rfl, h0, h1, h2, h3, h4, h5, h6, h7, h8, h9, h10, h11, h12, h13, h14, h15, h16, h17, h18, h19, h20, h21, h22, h23, h24, h25, h26, h27, h28, h29, h30, fun _ => rfl, h32, h33, h34, h35, h36, h37, h38, h39, h40, h41, h42, h43, h44, h45, h46, h47, hB, hF⟩
                    · obtain rfl := Option.some.inj hi
                      clear hi hil
                      have d31 := h31 (hall ⟨31, .data⟩ (by simp) rfl)
                      have d26 := h26 (hall ⟨26, .guard⟩ (by simp) rfl)
                      obtain ⟨x0, x1⟩ := hF.out.2.pts (k := 0) (p := Y0) rfl
                      simp only [Nat.reduceMul, Nat.reduceAdd] at x0 x1
                      refine StepOk.on 26 true rfl rfl d26 (fun K hK => ?_)
                      have HKK := Lib.hid hK; clear hK
                      simp only [putAll, Act.put, List.setIfInBounds_toArray, List.set_cons_zero, List.set_cons_succ]
                      go_simp
                      exact HKK.out _ _ ⟨_, by simp only [putAll, Act.put, List.setIfInBounds_toArray, List.set_cons_zero, List.set_cons_succ, d31, d26] <;> rfl, h0, h1, h2, h3, h4, h5, h6, h7, h8, h9, h10, h11, h12, h13, h14, h15, h16, h17, h18, h19, h20, h21, h22, h23, h24, h25, h26, h27, h28, h29, h30, h31, fun _ => rfl, h33, h34, h35, h36, h37, h38, h39, h40, h41, h42, h43, h44, h45, h46, h47, hB, hF⟩
                    · obtain rfl := Option.some.inj hi
                      clear hi hil
                      have d29 := h29 (hall ⟨29, .data⟩ (by simp) rfl)
                      have d32 := h32 (hall ⟨32, .data⟩ (by simp) rfl)
                      have d26 := h26 (hall ⟨26, .guard⟩ (by simp) rfl)
                      refine StepOk.on 26 true rfl rfl d26 (fun K hK => ?_)
                      have HKK := Lib.hid hK; clear hK
                      simp only [putAll, Act.put, List.setIfInBounds_toArray, List.set_cons_zero, List.set_cons_succ]
                      go_simp
                      refine (HN2.out w').mono ?_
                      rintro e w2 ⟨rfl, hb2⟩
                      exact HKK.out _ _ ⟨_, by simp only [putAll, Act.put, List.setIfInBounds_toArray, List.set_cons_zero, List.set_cons_succ, d29, d32, d26] <;> rfl, h0, h1, h2, h3, h4, h5, h6, h7, h8, h9, h10, h11, h12, h13, h14, h15, h16, h17, h18, h19, h20, h21, h22, h23, h24, h25, h26, h27, h28, h29, h30, h31, h32, fun _ => rfl, h34, h35, h36, h37, h38, h39, h40, h41, h42, h43, h44, h45, h46, h47, Lib.hid ⟨(hB).out.1.trans (hb2.mono (hB).out.2), Nat.le_trans (hB).out.2 hb2.size⟩, Lib.hid (⟨(hF).out.1.on hb2, (hF).out.2.on hb2⟩)⟩
                    · obtain rfl := Option.some.inj hi
                      clear hi hil
                      have d26 := h26 (hall ⟨26, .data⟩ (by simp) rfl)
                      have d33 := h33 (hall ⟨33, .data⟩ (by simp) rfl)
                      refine StepOk.plain rfl (fun K hK => ?_)
                      have HKK := Lib.hid hK; clear hK
                      simp only [putAll, Act.put, List.setIfInBounds_toArray, List.set_cons_zero, List.set_cons_succ]
                      go_simp
                      exact HKK.out _ _ ⟨_, by simp only [putAll, Act.put, List.setIfInBounds_toArray, List.set_cons_zero, List.set_cons_succ, d26, d33] <;> rfl, h0, h1, h2, h3, h4, h5, h6, h7, h8, h9, h10, h11, h12, h13, h14, h15, h16, h17, h18, h19, h20, h21, h22, h23, h24, h25, h26, h27, h28, h29, h30, h31, h32, h33, fun _ => rfl, h35, h36, h37, h38, h39, h40, h41, h42, h43, h44, h45, h46, h47, hB, hF⟩
                    · obtain rfl := Option.some.inj hi
                      clear hi hil
                      have d34 := h34 (hall ⟨34, .data⟩ (by simp) rfl)
                      refine StepOk.plain rfl (fun K hK => ?_)
                      have HKK := Lib.hid hK; clear hK
                      simp only [putAll, Act.put, List.setIfInBounds_toArray, List.set_cons_zero, List.set_cons_succ]
                      go_simp
                      exact HKK.out _ _ ⟨_, by simp only [putAll, Act.put, List.setIfInBounds_toArray, List.set_cons_zero, List.set_cons_succ, d34] <;> rfl, h0, h1, h2, h3, h4, h5, h6, h7, h8, h9, h10, h11, h12, h13, h14, h15, h16, h17, h18, h19, h20, h21, h22, h23, h24, h25, h26, h27, h28, h29, h30, h31, h32, h33, h34, fun _ => rfl, h36, h37, h38, h39, h40, h41, h42, h43, h44, h45, h46, h47, hB, hF⟩
                    · obtain rfl := Option.some.inj hi
                      clear hi hil
                      have d35 := h35 (hall ⟨35, .guard⟩ (by simp) rfl)
                      refine StepOk.on 35 true rfl rfl d35 (fun K hK => ?_)
                      have HKK := Lib.hid hK; clear hK
                      simp only [putAll, Act.put, List.setIfInBounds_toArray, List.set_cons_zero, List.set_cons_succ]
                      go_simp
                      exact HKK.out _ _ ⟨_, by simp only [putAll, Act.put, List.setIfInBounds_toArray, List.set_cons_zero, List.set_cons_succ, d35] <;> rfl, h0, h1, h2, h3, h4, h5, h6, h7, h8, h9, h10, h11, h12, h13, h14, h15, h16, h17, h18, h19, h20, h21, h22, h23, h24, h25, h26, h27, h28, h29, h30, h31, h32, h33, h34, h35, fun _ => rfl, h37, h38, h39, h40, h41, h42, h43, h44, h45, h46, h47, hB, hF⟩
                    · obtain rfl := Option.some.inj hi
                      clear hi hil
                      have d36 := h36 (hall ⟨36, .data⟩ (by simp) rfl)
                      have d35 := h35 (hall ⟨35, .guard⟩ (by simp) rfl)
                      refine StepOk.on 35 true rfl rfl d35 (fun K hK => ?_)
                      have HKK := Lib.hid hK; clear hK
                      simp only [putAll, Act.put, List.setIfInBounds_toArray, List.set_cons_zero, List.set_cons_succ]
                      go_simp
                      exact HKK.out _ _ ⟨_, by simp only [putAll, Act.put, List.setIfInBounds_toArray, List.set_cons_zero, List.set_cons_succ, d36, d35] <;> rfl, h0, h1, h2, h3, h4, h5, h6, h7, h8, h9, h10, h11, h12, h13, h14, h15, h16, h17, h18, h19, h20, h21, h22, h23, h24, h25, h26, h27, h28, h29, h30, h31, h32, h33, h34, h35, h36, fun _ => rfl, h38, h39, h40, h41, h42, h43, h44, h45, h46, h47, hB, hF⟩
                    · obtain rfl := Option.some.inj hi
                      clear hi hil
                      have d37 := h37 (hall ⟨37, .data⟩ (by simp) rfl)
                      have d35 := h35 (hall ⟨35, .guard⟩ (by simp) rfl)
                      obtain ⟨x0, x1⟩ := hF.out.1.pts (k := 3) (p := X3) rfl
                      simp only [Nat.reduceMul, Nat.reduceAdd] at x0 x1
                      refine StepOk.on 35 true rfl rfl d35 (fun K hK => ?_)
                      have HKK := Lib.hid hK; clear hK
                      simp only [putAll, Act.put, List.setIfInBounds_toArray, List.set_cons_zero, List.set_cons_succ]
                      go_simp
                      exact HKK.out _ _ ⟨_, by simp only [putAll, Act.put, List.setIfInBounds_toArray, List.set_cons_zero, List.set_cons_succ, d37, d35] <;> rfl, h0, h1, h2, h3, h4, h5, h6, h7, h8, h9, h10, h11, h12, h13, h14, h15, h16, h17, h18, h19, h20, h21, h22, h23, h24, h25, h26, h27, h28, h29, h30, h31, h32, h33, h34, h35, h36, h37, fun _ => rfl, h39, h40, h41, h42, h43, h44, h45, h46, h47, hB, hF⟩
                    · obtain rfl := Option.some.inj hi
                      clear hi hil
                      have d35 := h35 (hall ⟨35, .guard⟩ (by simp) rfl)
                      refine StepOk.on 35 true rfl rfl d35 (fun K hK => ?_)
                      have HKK := Lib.hid hK; clear hK
                      simp only [putAll, Act.put, List.setIfInBounds_toArray, List.set_cons_zero, List.set_cons_succ]
                      go_simp
                      exact HKK.out _ _ ⟨_, by simp only [putAll, Act.put, List.setIfInBounds_toArray, List.set_cons_zero, List.set_cons_succ, d35] <;> rfl, h0, h1, h2, h3, h4, h5, h6, h7, h8, h9, h10, h11, h12, h13, h14, h15, h16, h17, h18, h19, h20, h21, h22, h23, h24, h25, h26, h27, h28, h29, h30, h31, h32, h33, h34, h35, h36, h37, h38, fun _ => rfl, h40, h41, h42, h43, h44, h45, h46, h47, hB, hF⟩
                    · obtain rfl := Option.some.inj hi
                      clear hi hil
                      have d39 := h39 (hall ⟨39, .data⟩ (by simp) rfl)
                      have d35 := h35 (hall ⟨35, .guard⟩ (by simp) rfl)
                      refine StepOk.on 35 true rfl rfl d35 (fun K hK => ?_)
                      have HKK := Lib.hid hK; clear hK
                      simp only [putAll, Act.put, List.setIfInBounds_toArray, List.set_cons_zero, List.set_cons_succ]
                      go_simp
                      exact HKK.out _ _ ⟨_, by simp only [putAll, Act.put, List.setIfInBounds_toArray, List.set_cons_zero, List.set_cons_succ, d39, d35] <;> rfl, h0, h1, h2, h3, h4, h5, h6, h7, h8, h9, h10, h11, h12, h13, h14, h15, h16, h17, h18, h19, h20, h21, h22, h23, h24, h25, h26, h27, h28, h29, h30, h31, h32, h33, h34, h35, h36, h37, h38, h39, fun _ => rfl, h41, h42, h43, h44, h45, h46, h47, hB, hF⟩
                    · obtain rfl := Option.some.inj hi
                      clear hi hil
                      have d40 := h40 (hall ⟨40, .data⟩ (by simp) rfl)
                      have d35 := h35 (hall ⟨35, .guard⟩ (by simp) rfl)
                      obtain ⟨x0, x1⟩ := hF.out.2.pts (k := 1) (p := Y1) rfl
                      simp only [Nat.reduceMul, Nat.reduceAdd] at x0 x1
                      refine StepOk.on 35 true rfl rfl d35 (fun K hK => ?_)
                      have HKK := Lib.hid hK; clear hK
                      simp only [putAll, Act.put, List.setIfInBounds_toArray, List.set_cons_zero, List.set_cons_succ]
                      go_simp
                      exact HKK.out _ _ ⟨_, by simp only [putAll, Act.put, List.setIfInBounds_toArray, List.set_cons_zero, List.set_cons_succ, d40, d35] <;> rfl, h0, h1, h2, h3, h4, h5, h6, h7, h8, h9, h10, h11, h12, h13, h14, h15, h16, h17, h18, h19, h20, h21, h22, h23, h24, h25, h26, h27, h28, h29, h30, h31, h32, h33, h34, h35, h36, h37, h38, h39, h40, fun _ => rfl, h42, h43, h44, h45, h46, h47, hB, hF⟩
                    · obtain rfl := Option.some.inj hi
                      clear hi hil
                      have d38 := h38 (hall ⟨38, .data⟩ (by simp) rfl)
                      have d41 := h41 (hall ⟨41, .data⟩ (by simp) rfl)
                      have d35 := h35 (hall ⟨35, .guard⟩ (by simp) rfl)
                      refine StepOk.on 35 true rfl rfl d35 (fun K hK => ?_)
                      have HKK := Lib.hid hK; clear hK
                      simp only [putAll, Act.put, List.setIfInBounds_toArray, List.set_cons_zero, List.set_cons_succ]
                      go_simp
                      refine (HN3.out w').mono ?_
                      rintro e w2 ⟨rfl, hb2⟩
                      exact HKK.out _ _ ⟨_, by simp only [putAll, Act.put, List.setIfInBounds_toArray, List.set_cons_zero, List.set_cons_succ, d38, d41, d35] <;> rfl, h0, h1, h2, h3, h4, h5, h6, h7, h8, h9, h10, h11, h12, h13, h14, h15, h16, h17, h18, h19, h20, h21, h22, h23, h24, h25, h26, h27, h28, h29, h30, h31, h32, h33, h34, h35, h36, h37, h38, h39, h40, h41, fun _ => rfl, h43, h44, h45, h46, h47, Lib.hid ⟨(hB).out.1.trans (hb2.mono (hB).out.2), Nat.le_trans (hB).out.2 hb2.size⟩, Lib.hid (⟨(hF).out.1.on hb2, (hF).out.2.on hb2⟩)⟩
                    · obtain rfl := Option.some.inj hi
                      clear hi hil
                      have d35 := h35 (hall ⟨35, .data⟩ (by simp) rfl)
                      have d42 := h42 (hall ⟨42, .data⟩ (by simp) rfl)
                      refine StepOk.plain rfl (fun K hK => ?_)
                      have HKK := Lib.hid hK; clear hK
                      simp only [putAll, Act.put, List.setIfInBounds_toArray, List.set_cons_zero, List.set_cons_succ]
                      go_simp
                      exact HKK.out _ _ ⟨_, by simp only [putAll, Act.put, List.setIfInBounds_toArray, List.set_cons_zero, List.set_cons_succ, d35, d42] <;> rfl, h0, h1, h2, h3, h4, h5, h6, h7, h8, h9, h10, h11, h12, h13, h14, h15, h16, h17, h18, h19, h20, h21, h22, h23, h24, h25, h26, h27, h28, h29, h30, h31, h32, h33, h34, h35, h36, h37, h38, h39, h40, h41, h42, fun _ => rfl, h44, h45, h46, h47, hB, hF⟩
                    · obtain rfl := Option.some.inj hi
                      clear hi hil
                      have d43 := h43 (hall ⟨43, .data⟩ (by simp) rfl)
                      refine StepOk.plain rfl (fun K hK => ?_)
                      have HKK := Lib.hid hK; clear hK
                      simp only [putAll, Act.put, List.setIfInBounds_toArray, List.set_cons_zero, List.set_cons_succ]
                      go_simp
                      exact HKK.out _ _ ⟨_, by simp only [putAll, Act.put, List.setIfInBounds_toArray, List.set_cons_zero, List.set_cons_succ, d43] <;> rfl, h0, h1, h2, h3, h4, h5, h6, h7, h8, h9, h10, h11, h12, h13, h14, h15, h16, h17, h18, h19, h20, h21, h22, h23, h24, h25, h26, h27, h28, h29, h30, h31, h32, h33, h34, h35, h36, h37, h38, h39, h40, h41, h42, h43, fun _ => rfl, h45, h46, h47, hB, hF⟩
                    · obtain rfl := Option.some.inj hi
                      clear hi hil
                      have d44 := h44 (hall ⟨44, .guard⟩ (by simp) rfl)
                      refine StepOk.on 44 true rfl rfl d44 (fun K hK => ?_)
                      have HKK := Lib.hid hK; clear hK
                      simp only [putAll, Act.put, List.setIfInBounds_toArray, List.set_cons_zero, List.set_cons_succ]
                      go_simp
                      refine (HAW.out w').mono ?_
                      rintro e w2 ⟨rfl, hb2⟩
                      exact HKK.out _ _ ⟨_, by simp only [putAll, Act.put, List.setIfInBounds_toArray, List.set_cons_zero, List.set_cons_succ, d44] <;> rfl, h0, h1, h2, h3, h4, h5, h6, h7, h8, h9, h10, h11, h12, h13, h14, h15, h16, h17, h18, h19, h20, h21, h22, h23, h24, h25, h26, h27, h28, h29, h30, h31, h32, h33, h34, h35, h36, h37, h38, h39, h40, h41, h42, h43, h44, fun _ => rfl, h46, h47, Lib.hid ⟨(hB).out.1.trans (hb2.mono (hB).out.2), Nat.le_trans (hB).out.2 hb2.size⟩, Lib.hid (⟨(hF).out.1.on hb2, (hF).out.2.on hb2⟩)⟩
                    · obtain rfl := Option.some.inj hi
                      clear hi hil
                      have d44 := h44 (hall ⟨44, .data⟩ (by simp) rfl)
                      have d45 := h45 (hall ⟨45, .data⟩ (by simp) rfl)
                      refine StepOk.plain rfl (fun K hK => ?_)
                      have HKK := Lib.hid hK; clear hK
                      simp only [putAll, Act.put, List.setIfInBounds_toArray, List.set_cons_zero, List.set_cons_succ]
                      go_simp
                      exact HKK.out _ _ ⟨_, by simp only [putAll, Act.put, List.setIfInBounds_toArray, List.set_cons_zero, List.set_cons_succ, d44, d45] <;> rfl, h0, h1, h2, h3, h4, h5, h6, h7, h8, h9, h10, h11, h12, h13, h14, h15, h16, h17, h18, h19, h20, h21, h22, h23, h24, h25, h26, h27, h28, h29, h30, h31, h32, h33, h34, h35, h36, h37, h38, h39, h40, h41, h42, h43, h44, h45, fun _ => rfl, h47, hB, hF⟩
                    · obtain rfl := Option.some.inj hi
                      clear hi hil
                      have d46 := h46 (hall ⟨46, .data⟩ (by simp) rfl)
                      refine StepOk.plain rfl (fun K hK => ?_)
                      have HKK := Lib.hid hK; clear hK
                      simp only [putAll, Act.put, List.setIfInBounds_toArray, List.set_cons_zero, List.set_cons_succ]
                      go_simp
                      exact HKK.out _ _ ⟨_, by simp only [putAll, Act.put, List.setIfInBounds_toArray, List.set_cons_zero, List.set_cons_succ, d46] <;> rfl, h0, h1, h2, h3, h4, h5, h6, h7, h8, h9, h10, h11, h12, h13, h14, h15, h16, h17, h18, h19, h20, h21, h22, h23, h24, h25, h26, h27, h28, h29, h30, h31, h32, h33, h34, h35, h36, h37, h38, h39, h40, h41, h42, h43, h44, h45, h46, fun _ => rfl, hB, hF⟩
                    · omega
                  · rintro b' vs w2 hall ⟨h0, h1, h2, h3, h4, h5, h6, h7, h8, h9, h10, h11, h12, h13, h14, h15, h16, h17, h18, h19, h20, h21, h22, h23, h24, h25, h26, h27, h28, h29, h30, h31, h32, h33, h34, h35, h36, h37, h38, h39, h40, h41, h42, h43, h44, h45, h46, h47, hB, hF⟩
                    have d0 := h0 (hall 0 (by simp))
                    have d1 := h1 (hall 1 (by simp))
                    have d2 := h2 (hall 2 (by simp))
                    have d3 := h3 (hall 3 (by simp))
                    have d4 := h4 (hall 4 (by simp))
                    have d5 := h5 (hall 5 (by simp))
                    have d6 := h6 (hall 6 (by simp))
                    have d7 := h7 (hall 7 (by simp))
                    have d8 := h8 (hall 8 (by simp))
                    have d9 := h9 (hall 9 (by simp))
                    have d10 := h10 (hall 10 (by simp))
                    have d11 := h11 (hall 11 (by simp))
                    have d12 := h12 (hall 12 (by simp))
                    have d13 := h13 (hall 13 (by simp))
                    have d14 := h14 (hall 14 (by simp))
                    have d15 := h15 (hall 15 (by simp))
                    have d16 := h16 (hall 16 (by simp))
                    have d17 := h17 (hall 17 (by simp))
                    have d18 := h18 (hall 18 (by simp))
                    have d19 := h19 (hall 19 (by simp))
                    have d20 := h20 (hall 20 (by simp))
                    have d21 := h21 (hall 21 (by simp))
                    have d22 := h22 (hall 22 (by simp))
                    have d23 := h23 (hall 23 (by simp))
                    have d24 := h24 (hall 24 (by simp))
                    have d25 := h25 (hall 25 (by simp))
                    have d26 := h26 (hall 26 (by simp))
                    have d27 := h27 (hall 27 (by simp))
                    have d28 := h28 (hall 28 (by simp))
                    have d29 := h29 (hall 29 (by simp))
                    have d30 := h30 (hall 30 (by simp))
                    have d31 := h31 (hall 31 (by simp))
                    have d32 := h32 (hall 32 (by simp))
                    have d33 := h33 (hall 33 (by simp))
                    have d34 := h34 (hall 34 (by simp))
                    have d35 := h35 (hall 35 (by simp))
                    have d36 := h36 (hall 36 (by simp))
                    have d37 := h37 (hall 37 (by simp))
                    have d38 := h38 (hall 38 (by simp))
                    have d39 := h39 (hall 39 (by simp))
                    have d40 := h40 (hall 40 (by simp))
                    have d41 := h41 (hall 41 (by simp))
                    have d42 := h42 (hall 42 (by simp))
                    have d43 := h43 (hall 43 (by simp))
                    have d44 := h44 (hall 44 (by simp))
                    have d45 := h45 (hall 45 (by simp))
                    have d46 := h46 (hall 46 (by simp))
                    have d47 := h47 (hall 47 (by simp))
                    have BB := hB
                    have FF := hF
                    simp only [putAll, Act.put, List.setIfInBounds_toArray, List.set_cons_zero, List.set_cons_succ, d0, d1, d2, d3, d4, d5, d6, d7, d8, d9, d10, d11, d12, d13, d14, d15, d16, d17, d18, d19, d20, d21, d22, d23, d24, d25, d26, d27, d28, d29, d30, d31, d32, d33, d34, d35, d36, d37, d38, d39, d40, d41, d42, d43, d44, d45, d46, d47]
                    clear hall h0 d0 h1 d1 h2 d2 h3 d3 h4 d4 h5 d5 h6 d6 h7 d7 h8 d8 h9 d9 h10 d10 h11 d11 h12 d12 h13 d13 h14 d14 h15 d15 h16 d16 h17 d17 h18 d18 h19 d19 h20 d20 h21 d21 h22 d22 h23 d23 h24 d24 h25 d25 h26 d26 h27 d27 h28 d28 h29 d29 h30 d30 h31 d31 h32 d32 h33 d33 h34 d34 h35 d35 h36 d36 h37 d37 h38 d38 h39 d39 h40 d40 h41 d41 h42 d42 h43 d43 h44 d44 h45 d45 h46 d46 h47 d47 hB hF
                    have B9 : Hid (Below w.heap.size w w2) := below_next B8.out BB.out.1
                    go_wp2_with fail
                    go_ret
                    exact ⟨rfl, B9.out⟩
                · go_wp2_with fail
                  refine (HAW.out _).mono ?_
                  rintro e w9 ⟨rfl, hb9⟩
                  have B9 : Hid (Below w.heap.size w w9) := B8.out.trans (hb9.mono B8.out.size)
                  clear hb9
                  go_wp2_with fail
                  go_ret
                  exact ⟨rfl, B9.out⟩
              · go_wp2_with fail
                refine (HAW.out _).mono ?_
                rintro e w9 ⟨rfl, hb9⟩
                have B9 : Hid (Below w.heap.size w w9) := B8.out.trans (hb9.mono B8.out.size)
                clear hb9
                go_wp2_with fail
                go_ret
                exact ⟨rfl, B9.out⟩
theorem strokeBack_c (ao : Option Addr) (n c : Nat) (l : List Pt) (cl : Bool) (h cap : Int) (w : World) (hr : Rd w) (row : Row w (.slice ao n c) l) (_hnc : n ≤ c) :
    Calls Tryd.prog 7 #[.agg #[.slice ao n c, .bool cl], .int .i64 h, .int .i64 cap] w fun e w' => e = .returned (.bool true) ∧ Below w.heap.size w w' := by
  have HAW := Lib.hid (fun w => awake_c w)
  have hlen := row_len row
  by_cases hn : n > 20
  · exact back_many ao n c cl h cap w HAW hn
  have HST1 : Hid (∀ w', Below w.heap.size w w' → Calls Tryd.prog 17 #[.agg #[.slice ao n c, .bool cl], .int .i64 h, .int .i64 cap] w' (ToldQ w'.heap.size w' ((strokeOut l cl h cap).1, (strokeOut l cl h cap).2))) := fun w' hb => stroke_c _ l cl h cap w' (row.on hb) (hr.on hb) (by omega)
  have HST2 : Hid (∀ u w', Row w' u (twiceL l) → Below w.heap.size w w' → Calls Tryd.prog 17 #[.agg #[u, .bool cl], .int .i64 h, .int .i64 cap] w' (ToldQ w'.heap.size w' ((strokeOut l cl h cap).1, (strokeOut l cl h cap).2))) := fun u w' hu hb => by
    have k := stroke_c u (twiceL l) cl h cap w' hu (hr.on hb) (by rw [twiceL_length]; omega)
    rw [strokeOut_twice] at k
    exact k
  by_cases hn2 : n < 2
  · exact back_small ao n c cl h cap w HAW hn l row hlen _ _ HST1 HST2 (len_all l cl h cap) hn2
  · obtain ⟨b, o, rfl, _, _⟩ := Row.addr row (k := 0) (by omega)
    obtain ⟨p, hp⟩ : ∃ p, l[0]? = some p := ⟨_, List.getElem?_eq_getElem (by omega)⟩
    obtain ⟨q, hq⟩ : ∃ p, l[1]? = some p := ⟨_, List.getElem?_eq_getElem (by omega)⟩
    exact back_big b o n c cl h cap w HAW hn l row hlen _ _ HST1 HST2 (len_all l cl h cap) hn2 p q hp hq (by unfold Hid; omega)
end Go.Proofs.YtdidbejinfkhbaaDoor
