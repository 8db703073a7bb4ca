/- The law AffineBounds. -/
import Derived.Test.YticoklfgmflidaaDoorBa
namespace Go.Proofs.YticoklfgmflidaaDoor
open Go.RowKit

theorem info_parts4 {T : TypeId} {z : Value} {s b : Nat} (h : (Tryd.prog.info? T).map (fun i => (i.zero, i.size, i.bytes)) = some (some z, s, b)) : ∃ i, Tryd.prog.info? T = some i ∧ i.zero = some z ∧ i.size = s ∧ i.bytes = b := by
  obtain ⟨i, hi, he⟩ := Option.map_eq_some_iff.1 h
  simp only [Prod.mk.injEq] at he
  exact ⟨i, hi, he.1, he.2.1, he.2.2⟩
theorem Lays.appended {W w' : World} {base : Nat} {t e : TypeId} {v : Value} {n size : Nat} {xs : List Value} (h : W.ownsRow base e size v n xs) (g : W.grownBy w' v.ownBlock) : ∀ {l : BlkL}, Lays W l → (∀ x ∈ l, x.1 < base) → Lays w' l
  | [], _, _ => trivial
  | y :: l, hl, hb => ⟨own_blk h g hl.1 (hb y (by simp)), Lays.appended (t := t) h g hl.2 fun x hx => hb x (by simp [hx])⟩
set_option maxHeartbeats 16000000 in
set_option maxRecDepth 100000 in
theorem bounds_walk (m : Mx) (b D : Bx) (x y X1 Y1 U0 V0 U1 V1 U2 V2 U3 V3 PX PY : Int) (r em k0 k1 k2 k3 ha : Bool) (w : World)
    (HB1 : Hid (r = false → ∀ w, Calls Tryd.prog 24 #[.agg #[.int .i64 m.a, .int .i64 m.b, .int .i64 m.c, .int .i64 m.d, .int .i64 m.e, .int .i64 m.f], .agg #[.int .i64 b.x0, .int .i64 b.y0, .int .i64 b.x1, .int .i64 b.y1]] w fun e w' => e = .returned (.tuple #[.agg (four ⟨0, 0, 0, 0⟩), .int .i64 10]) ∧ Below w.heap.size w w'))
    (HB2 : Hid (r = true → em = true → ∀ w, Calls Tryd.prog 24 #[.agg #[.int .i64 m.a, .int .i64 m.b, .int .i64 m.c, .int .i64 m.d, .int .i64 m.e, .int .i64 m.f], .agg #[.int .i64 b.x0, .int .i64 b.y0, .int .i64 b.x1, .int .i64 b.y1]] w fun e w' => e = .returned (.tuple #[.agg (four ⟨0, 0, 0, 0⟩), .int .i64 0]) ∧ Below w.heap.size w w'))
    (HB3 : Hid (r = true → em = false → ∀ w, Calls Tryd.prog 24 #[.agg #[.int .i64 m.a, .int .i64 m.b, .int .i64 m.c, .int .i64 m.d, .int .i64 m.e, .int .i64 m.f], .agg #[.int .i64 b.x0, .int .i64 b.y0, .int .i64 b.x1, .int .i64 b.y1]] w fun e w' => e = .returned (.tuple #[.agg (four (if (k0 && k1 && k2 && k3) then D else ⟨0, 0, 0, 0⟩)), .int .i64 (if (k0 && k1 && k2 && k3) then 0 else 10)]) ∧ Below w.heap.size w w'))
    (HF : Hid (∀ w, Calls Tryd.prog 11 #[.agg #[.int .i64 m.a, .int .i64 m.b, .int .i64 m.c, .int .i64 m.d, .int .i64 m.e, .int .i64 m.f]] w fun e w' => e = .returned (.agg #[.int .i64 m.a, .int .i64 m.b, .int .i64 m.c, .int .i64 m.d, .int .i64 m.e, .int .i64 m.f]) ∧ Below w.heap.size w w'))
    (HRR : Hid (∀ w, Calls Tryd.prog 10 #[.agg #[.int .i64 m.a, .int .i64 m.b, .int .i64 m.c, .int .i64 m.d, .int .i64 m.e, .int .i64 m.f]] w fun e w' => e = .returned (.bool r) ∧ Below w.heap.size w w'))
    (HEM : Hid (em = (decide (b.x0 ≥ b.x1) || decide (b.y0 ≥ b.y1))))
    (HX : Hid (em = false → wrap64 (b.x1 - 1) = X1 ∧ wrap64 (b.y1 - 1) = Y1))
    (HA0 : Hid (∀ w, Calls Tryd.prog 9 #[.agg #[.int .i64 m.a, .int .i64 m.b, .int .i64 m.c, .int .i64 m.d, .int .i64 m.e, .int .i64 m.f], .agg #[.int .i64 b.x0, .int .i64 b.y0]] w fun e w' => e = .returned (.tuple #[.agg #[.int .i64 (if k0 then U0 else 0), .int .i64 (if k0 then V0 else 0)], .int .i64 (if k0 then 0 else 10)]) ∧ Below w.heap.size w w'))
    (HA1 : Hid (∀ w, Calls Tryd.prog 9 #[.agg #[.int .i64 m.a, .int .i64 m.b, .int .i64 m.c, .int .i64 m.d, .int .i64 m.e, .int .i64 m.f], .agg #[.int .i64 X1, .int .i64 b.y0]] w fun e w' => e = .returned (.tuple #[.agg #[.int .i64 (if k1 then U1 else 0), .int .i64 (if k1 then V1 else 0)], .int .i64 (if k1 then 0 else 10)]) ∧ Below w.heap.size w w'))
    (HA2 : Hid (∀ w, Calls Tryd.prog 9 #[.agg #[.int .i64 m.a, .int .i64 m.b, .int .i64 m.c, .int .i64 m.d, .int .i64 m.e, .int .i64 m.f], .agg #[.int .i64 b.x0, .int .i64 Y1]] w fun e w' => e = .returned (.tuple #[.agg #[.int .i64 (if k2 then U2 else 0), .int .i64 (if k2 then V2 else 0)], .int .i64 (if k2 then 0 else 10)]) ∧ Below w.heap.size w w'))
    (HA3 : Hid (∀ w, Calls Tryd.prog 9 #[.agg #[.int .i64 m.a, .int .i64 m.b, .int .i64 m.c, .int .i64 m.d, .int .i64 m.e, .int .i64 m.f], .agg #[.int .i64 X1, .int .i64 Y1]] w fun e w' => e = .returned (.tuple #[.agg #[.int .i64 (if k3 then U3 else 0), .int .i64 (if k3 then V3 else 0)], .int .i64 (if k3 then 0 else 10)]) ∧ Below w.heap.size w w'))
    (HBo : Hid ((k0 && k1 && k2 && k3) = true → ∀ w s, Row w s [(U0, V0), (U2, V2), (U1, V1), (U3, V3)] → Calls Tryd.prog 25 #[s] w fun e w' => e = .returned (.agg #[.int .i64 D.x0, .int .i64 D.y0, .int .i64 D.x1, .int .i64 D.y1]) ∧ Below w.heap.size w w'))
    (HHas : Hid (∀ w, Calls Tryd.prog 26 #[.agg #[.int .i64 b.x0, .int .i64 b.y0, .int .i64 b.x1, .int .i64 b.y1], .agg #[.int .i64 x, .int .i64 y]] w fun e w' => e = .returned (.bool ha) ∧ Below w.heap.size w w'))
    (HAp : Hid ((k0 && k1 && k2 && k3) = true → ha = true → ∀ w, Calls Tryd.prog 9 #[.agg #[.int .i64 m.a, .int .i64 m.b, .int .i64 m.c, .int .i64 m.d, .int .i64 m.e, .int .i64 m.f], .agg #[.int .i64 x, .int .i64 y]] w fun e w' => e = .returned (.tuple #[.agg #[.int .i64 PX, .int .i64 PY], .int .i64 0]) ∧ Below w.heap.size w w'))
    (HHD : Hid ((k0 && k1 && k2 && k3) = true → ha = true → ∀ w, Calls Tryd.prog 26 #[.agg #[.int .i64 D.x0, .int .i64 D.y0, .int .i64 D.x1, .int .i64 D.y1], .agg #[.int .i64 PX, .int .i64 PY]] w fun e w' => e = .returned (.bool true) ∧ Below w.heap.size w w'))
    (HAW : Hid (∀ w', Below w.heap.size w w' → Calls Tryd.prog 15 #[] w' fun e w'' => e = .returned (.bool true) ∧ Below w'.heap.size w' w'')) :
    Calls Tryd.prog 7 #[.agg (six m), .agg (four b), .agg #[.int .i64 x, .int .i64 y]] w fun e w' => e = .returned (.bool true) ∧ Below w.heap.size w w' := by
  have S0 : Hid (Mem w (((w.alloc (.cells (six m) 23)).alloc (.cells (four b) 54)).alloc (.cells (two (x, y)) 25)) [(w.heap.size + 2, 25, two (x, y)), (w.heap.size + 1, 54, four b), (w.heap.size, 23, six m)]) := (((Mem.refl w).add _ _).addAt _ _ _ (by simp)).addAt _ _ _ (by simp)
  obtain ⟨n, hn⟩ : ∃ n, w.heap.size = n := ⟨_, rfl⟩
  have hn' : w.heap.size ≤ n := by omega
  rw [hn] at S0
  cases r
  · have HBx := Lib.hid (HB1.out rfl)
    go_enter Tryd.func7, Tryd.ntmps7
    go_wp2_with fail
    refine (HBx.out _).mono ?_
    rintro e w1 ⟨rfl, hb⟩
    have S1 : Hid (Mem w w1 _) := S0.out.next hb
    clear hb
    have b0 := S1.out.lays.2.1.b0
    have b1 := S1.out.lays.2.1.b1
    have b2 := S1.out.lays.2.1.b2
    have b3 := S1.out.lays.2.1.b3
    have lt := S1.out.lays.2.1.lt
    go_upto_region 2 with fail
    have S2 : Hid (Mem w (w1.alloc (.cells #[.int .i64 0, .int .i64 0, .int .i64 0, .int .i64 0] 54)) ((w1.heap.size, 54, four ⟨0, 0, 0, 0⟩) :: _)) := S1.out.add 54 (four ⟨0, 0, 0, 0⟩)
    generalize World.alloc w1 _ = W1 at S2 ⊢
    have hgc : n + 2 < w1.heap.size := S1.out.lays.1.lt
    clear S1 lt b0 b1 b2 b3
    generalize w1.heap.size = gc at *
    have b0 := S2.out.lays.2.2.1.b0
    have b1 := S2.out.lays.2.2.1.b1
    have b2 := S2.out.lays.2.2.1.b2
    have b3 := S2.out.lays.2.2.1.b3
    go_cut [9] (fun c wx => c = .bool em ∧ wx = W1)
    case first =>
      have hem := HEM.out
      clear HEM
      by_cases h1 : b.x1 ≤ b.x0
      · go_wp2_with fail
        go_meet
        exact ⟨by rw [hem]; simp [h1], rfl⟩
      · by_cases h2 : b.y1 ≤ b.y0
        · go_wp2_with fail
          go_meet
          exact ⟨by rw [hem]; simp [h2], rfl⟩
        · go_wp2_with fail
          go_meet
          exact ⟨by rw [hem]; simp; omega, rfl⟩
    case rest =>
      obtain ⟨rfl, rfl⟩ := hcut
      clear b0 b1 b2 b3
      have m0 := S2.out.lays.2.2.2.1.m0
      have m1 := S2.out.lays.2.2.2.1.m1
      have m2 := S2.out.lays.2.2.2.1.m2
      have m3 := S2.out.lays.2.2.2.1.m3
      have m4 := S2.out.lays.2.2.2.1.m4
      have m5 := S2.out.lays.2.2.2.1.m5
      go_upto_region 3 with fail
      go_wp2_with fail
      refine (HF.out _).mono ?_
      rintro e w2 ⟨rfl, hb⟩
      have S3 := Lib.hid (S2.out.next hb)
      clear hb
      clear m0 m1 m2 m3 m4 m5
      go_wp2_with fail
      refine (HRR.out _).mono ?_
      rintro e w3 ⟨rfl, hb⟩
      have S4 := Lib.hid (S3.out.next hb)
      clear hb
      have z0 := S4.out.lays.1.b0
      have z1 := S4.out.lays.1.b1
      have z2 := S4.out.lays.1.b2
      have z3 := S4.out.lays.1.b3
      simp only at z0 z1 z2 z3
      go_wp2_with fail
      refine (HAW.out _ S4.out.below).mono ?_
      rintro e w4 ⟨rfl, hb⟩
      have B4 : Hid (Below w.heap.size w w4) := below_next S4.out.below hb
      clear hb
      go_wp2_with fail
      go_ret
      exact ⟨rfl, B4.out⟩
  · cases hemv : em
    · obtain ⟨hw1, hw2⟩ := HX.out hemv
      have HAll := Lib.hid (fun h : (k0 && k1 && k2 && k3) = false => (show (if (k0 && k1 && k2 && k3) = true then D else (⟨0, 0, 0, 0⟩ : Bx)) = ⟨0, 0, 0, 0⟩ by rw [h]; rfl))
      have HAllT := Lib.hid (fun h : (k0 && k1 && k2 && k3) = true => (show (if (k0 && k1 && k2 && k3) = true then D else (⟨0, 0, 0, 0⟩ : Bx)) = D by rw [h]; rfl))
      have HEr := Lib.hid (fun h : (k0 && k1 && k2 && k3) = false => (show (if (k0 && k1 && k2 && k3) = true then (0 : Int) else 10) = 10 by rw [h]; rfl))
      have HErT := Lib.hid (fun h : (k0 && k1 && k2 && k3) = true => (show (if (k0 && k1 && k2 && k3) = true then (0 : Int) else 10) = 0 by rw [h]; rfl))
      have hB3 := HB3.out rfl hemv
      have HEv := Lib.hid hemv
      clear HB1 HB2 HB3 HX hemv
      generalize (if (k0 && k1 && k2 && k3) = true then D else (⟨0, 0, 0, 0⟩ : Bx)) = Cc at *
      generalize (if (k0 && k1 && k2 && k3) = true then (0 : Int) else 10) = ce at *
      have HBx := Lib.hid (hB3)
      go_enter Tryd.func7, Tryd.ntmps7
      go_wp2_with fail
      refine (HBx.out _).mono ?_
      rintro e w1 ⟨rfl, hb⟩
      have S1 : Hid (Mem w w1 _) := S0.out.next hb
      clear hb
      have b0 := S1.out.lays.2.1.b0
      have b1 := S1.out.lays.2.1.b1
      have b2 := S1.out.lays.2.1.b2
      have b3 := S1.out.lays.2.1.b3
      have lt := S1.out.lays.2.1.lt
      go_upto_region 2 with fail
      have S2 : Hid (Mem w (w1.alloc (.cells #[.int .i64 Cc.x0, .int .i64 Cc.y0, .int .i64 Cc.x1, .int .i64 Cc.y1] 54)) ((w1.heap.size, 54, four Cc) :: _)) := S1.out.add 54 (four Cc)
      generalize World.alloc w1 _ = W1 at S2 ⊢
      have hgc : n + 2 < w1.heap.size := S1.out.lays.1.lt
      clear S1 lt b0 b1 b2 b3
      generalize w1.heap.size = gc at *
      have b0 := S2.out.lays.2.2.1.b0
      have b1 := S2.out.lays.2.2.1.b1
      have b2 := S2.out.lays.2.2.1.b2
      have b3 := S2.out.lays.2.2.1.b3
      go_cut [9] (fun c wx => c = .bool em ∧ wx = W1)
      clear hB3
      case first =>
        have hem := HEM.out
        clear HEM
        by_cases h1 : b.x1 ≤ b.x0
        · go_wp2_with fail
          go_meet
          exact ⟨by rw [hem]; simp [h1], rfl⟩
        · by_cases h2 : b.y1 ≤ b.y0
          · go_wp2_with fail
            go_meet
            exact ⟨by rw [hem]; simp [h2], rfl⟩
          · go_wp2_with fail
            go_meet
            exact ⟨by rw [hem]; simp; omega, rfl⟩
      case rest =>
        obtain ⟨rfl, rfl⟩ := hcut
        clear b0 b1 b2 b3
        rw [HEv.out]
        have m0 := S2.out.lays.2.2.2.1.m0
        have m1 := S2.out.lays.2.2.2.1.m1
        have m2 := S2.out.lays.2.2.2.1.m2
        have m3 := S2.out.lays.2.2.2.1.m3
        have m4 := S2.out.lays.2.2.2.1.m4
        have m5 := S2.out.lays.2.2.2.1.m5
        go_wp2_with fail
        refine (HF.out _).mono ?_
        rintro e w2 ⟨rfl, hb⟩
        have S3 := Lib.hid (S2.out.next hb)
        clear hb
        clear m0 m1 m2 m3 m4 m5
        go_wp2_with fail
        refine (HRR.out _).mono ?_
        rintro e w3 ⟨rfl, hb⟩
        have S4 := Lib.hid (S3.out.next hb)
        clear hb
        have b0 := S4.out.lays.2.2.1.b0
        have b1 := S4.out.lays.2.2.1.b1
        have b2 := S4.out.lays.2.2.1.b2
        have b3 := S4.out.lays.2.2.1.b3
        have hgx : gc < w3.heap.size := S4.out.lays.1.lt
        go_wp2_with fail
        try rw [hw1]
        have S5 : Hid (Mem w (w3.alloc (.cells #[.int .i64 b.x0, .int .i64 X1] 3)) ((w3.heap.size, 3, #[.int .i64 b.x0, .int .i64 X1]) :: _)) := S4.out.add 3 #[.int .i64 b.x0, .int .i64 X1]
        generalize World.alloc w3 _ = W5 at S5 ⊢
        generalize w3.heap.size = gx at *
        clear b0 b1 b2 b3
        obtain ⟨i0, hi, hz0, hz1, hz2⟩ := info_parts4 infoP
        have HLT : Hid (∀ z ∈ ([(gx, 3, #[.int .i64 b.x0, .int .i64 X1]), (gc, 54, four Cc), (n + 2, 25, two (x, y)), (n + 1, 54, four b), (n, 23, six m)] : BlkL), z.1 < gx + 1) := fun z hz => by simp at hz; rcases hz with rfl | rfl | rfl | rfl | rfl <;> dsimp only <;> omega
        go_loopw [10, 69] (fun v i wr => ∃ z : Int, i = .int .i64 z ∧ (z = 0 ∧ Hid (Own wr (gx + 1) 25 v [] ∧ Mem w wr [(gx, 3, #[.int .i64 b.x0, .int .i64 X1]), (gc, 54, four Cc), (n + 2, 25, two (x, y)), (n + 1, 54, four b), (n, 23, six m)]) ∨ z = 1 ∧ Hid (k0 = true ∧ k2 = true) ∧ Hid (Own wr (gx + 1) 25 v [(U0, V0), (U2, V2)] ∧ Mem w wr [(gx, 3, #[.int .i64 b.x0, .int .i64 X1]), (gc, 54, four Cc), (n + 2, 25, two (x, y)), (n + 1, 54, four b), (n, 23, six m)]) ∨ z = 2 ∧ Hid (k0 = true ∧ k2 = true ∧ k1 = true ∧ k3 = true) ∧ Hid (Own wr (gx + 1) 25 v [(U0, V0), (U2, V2), (U1, V1), (U3, V3)] ∧ Mem w wr [(gx, 3, #[.int .i64 b.x0, .int .i64 X1]), (gc, 54, four Cc), (n + 2, 25, two (x, y)), (n + 1, 54, four b), (n, 23, six m)]))) (fun _ i _ => (2 - intOf i).toNat)
        case atStart => exact ⟨0, rfl, .inl ⟨rfl, Own.nil _ _ _, S5.out⟩⟩
        case round =>
          obtain ⟨z, rfl, hz⟩ := hrel
          clear S5
          rcases hz with ⟨rfl, hS⟩ | ⟨rfl, hk, hS⟩ | ⟨rfl, hk, hS⟩
          · have O := Lib.hid hS.out.1
            have S := Lib.hid hS.out.2
            clear hS
            have c0 : wr.cell? ⟨gx, 0, none⟩ = some (.int .i64 b.x0) := S.out.lays.1.cell 0
            have b0 := S.out.lays.2.2.2.1.b0
            have b1 := S.out.lays.2.2.2.1.b1
            have b2 := S.out.lays.2.2.2.1.b2
            have b3 := S.out.lays.2.2.2.1.b3
            have ltb := S.out.lays.2.2.2.1.lt
            go_wp2_with fail
            have Sy : Hid (Mem w (wr.alloc (.cells #[.int .i64 b.y0, .int .i64 Y1] 3)) ((wr.heap.size, 3, #[.int .i64 b.y0, .int .i64 Y1]) :: _)) := S.out.add 3 #[.int .i64 b.y0, .int .i64 Y1]
            have Oy : Hid (Own (wr.alloc (.cells #[.int .i64 b.y0, .int .i64 Y1] 3)) (gx + 1) 25 u10 []) := O.out.grow ((Below.refl _ _).alloc (Nat.le_refl _) _)
            have hny : u10.ownBlock ≠ some wr.heap.size := fun h => by have := O.out.lt h; omega
            have hgy : gx < wr.heap.size := S.out.lays.1.lt
            generalize World.alloc wr _ = Wy at Sy Oy ⊢
            generalize wr.heap.size = gy at *
            clear c0 b0 b1 b2 b3 ltb O S
            go_loopw [10, 80] (fun v i wi => ∃ z : Int, i = .int .i64 z ∧ (z = 0 ∧ Hid (Own wi (gx + 1) 25 v [] ∧ v.ownBlock ≠ some gy ∧ Mem w wi [(gy, 3, #[.int .i64 b.y0, .int .i64 Y1]), (gx, 3, #[.int .i64 b.x0, .int .i64 X1]), (gc, 54, four Cc), (n + 2, 25, two (x, y)), (n + 1, 54, four b), (n, 23, six m)]) ∨ z = 1 ∧ Hid (k0 = true) ∧ Hid (Own wi (gx + 1) 25 v [(U0, V0)] ∧ Mem w wi [(gy, 3, #[.int .i64 b.y0, .int .i64 Y1]), (gx, 3, #[.int .i64 b.x0, .int .i64 X1]), (gc, 54, four Cc), (n + 2, 25, two (x, y)), (n + 1, 54, four b), (n, 23, six m)]) ∨ z = 2 ∧ Hid (k0 = true ∧ k2 = true) ∧ Hid (Own wi (gx + 1) 25 v [(U0, V0), (U2, V2)] ∧ Mem w wi [(gx, 3, #[.int .i64 b.x0, .int .i64 X1]), (gc, 54, four Cc), (n + 2, 25, two (x, y)), (n + 1, 54, four b), (n, 23, six m)]))) (fun _ i _ => (2 - intOf i).toNat)
            case atStart => exact ⟨0, rfl, .inl ⟨rfl, Oy.out, hny, Sy.out⟩⟩
            case round =>
              obtain ⟨z, rfl, hz⟩ := hrel
              clear Oy Sy hny
              rcases hz with ⟨rfl, hT⟩ | ⟨rfl, hj, hT⟩ | ⟨rfl, hj, hT⟩
              · have O := Lib.hid hT.out.1
                have hny := hT.out.2.1
                have S := Lib.hid hT.out.2.2
                clear hT
                have c0 : wr.cell? ⟨gy, 0, none⟩ = some (.int .i64 b.y0) := S.out.lays.1.cell 0
                have m0 := S.out.lays.2.2.2.2.2.1.m0
                have m1 := S.out.lays.2.2.2.2.2.1.m1
                have m2 := S.out.lays.2.2.2.2.2.1.m2
                have m3 := S.out.lays.2.2.2.2.2.1.m3
                have m4 := S.out.lays.2.2.2.2.2.1.m4
                have m5 := S.out.lays.2.2.2.2.2.1.m5
                go_wp2_with fail
                refine (HA0.out _).mono ?_
                rintro e w6 ⟨rfl, hb⟩
                have S6 := Lib.hid (S.out.next hb)
                have O6 := Lib.hid (O.out.grow hb)
                clear hb c0 m0 m1 m2 m3 m4 m5
                cases k0
                · have e1 := HAll.out (by simp)
                  have e2 := HEr.out (by simp)
                  subst e2
                  rw [e1] at S6
                  clear HAll HAllT HEr HErT
                  have z0 := S6.out.lays.2.2.1.b0
                  have z1 := S6.out.lays.2.2.1.b1
                  have z2 := S6.out.lays.2.2.1.b2
                  have z3 := S6.out.lays.2.2.1.b3
                  have ltc := S6.out.lays.2.2.1.lt
                  simp only at z0 z1 z2 z3
                  go_wp2_with fail
                  refine (HAW.out _ (S6.out.next ((Below.refl _ _).alloc (Nat.le_refl _) _)).below).mono ?_
                  rintro e w7 ⟨rfl, hb⟩
                  have B7 : Hid (Below w.heap.size w w7) := below_next (S6.out.next ((Below.refl _ _).alloc (Nat.le_refl _) _)).below hb
                  clear hb
                  go_wp2_with fail
                  go_ret
                  exact ⟨rfl, B7.out⟩
                · go_upto_region 17 with fail
                  have S7 : Hid (Mem w (w6.alloc (.cells #[.int .i64 U0, .int .i64 V0] 25)) ((w6.heap.size, 25, two (U0, V0)) :: _)) := S6.out.add 25 (two (U0, V0))
                  have O7 : Hid (Own (w6.alloc (.cells #[.int .i64 U0, .int .i64 V0] 25)) (gx + 1) 25 u10 []) := O6.out.grow ((Below.refl _ _).alloc (Nat.le_refl _) _)
                  generalize World.alloc w6 _ = W7 at S7 O7 ⊢
                  generalize w6.heap.size = g15 at *
                  clear O6 S6
                  have q0 := S7.out.lays.1.p0
                  have q1 := S7.out.lays.1.p1
                  have O8 : Hid (Own (W7.alloc (.cells #[.int .i64 U0, .int .i64 V0] 25)) (gx + 1) 25 u10 []) := O7.out.grow ((Below.refl _ _).alloc (Nat.le_refl _) _)
                  have S8 : Hid (Mem w (W7.alloc (.cells #[.int .i64 U0, .int .i64 V0] 25)) ((W7.heap.size, 25, two (U0, V0)) :: _)) := S7.out.add 25 (two (U0, V0))
                  have hsz : gx < W7.heap.size := by have := S7.out.lays.2.2.1.lt; exact this
                  go_wp2_with (at_builtin; refine wpList_append_own _ rfl _ _ 57 rfl (gx + 1) 25 i0 (.agg (two (0, 0))) 2 16 Tryd.underlying57 hi hz0 hz1 hz2 rfl (by decide) _ _ _ rfl O8.out ⟨W7.heap.size, 0, none⟩ 1 1 [.int .i64 U0, .int .i64 V0] rfl rfl ?e00a ?e00b ?e00c ?e00d ?e00e ?_)
                  any_goals (first | (exact ⟨rfl, rfl⟩) | (unfold maxLen; omega) | (exact Nat.le_of_lt hsz) | (exact hsz))
                  · intro v' w9 hown hgrow _
                    have O9 : Hid (Own w9 (gx + 1) 25 v' [(U0, V0)]) := hown
                    have B9 := own_below O8.out hgrow S8.out.below (by omega) (by simp; omega)
                    have L9 : Lays w9 [(gx, 3, #[.int .i64 b.x0, .int .i64 X1]), (gc, 54, four Cc), (n + 2, 25, two (x, y)), (n + 1, 54, four b), (n, 23, six m)] := Lays.appended (t := 25) O8.out hgrow S8.out.lays.2.2.2 HLT.out
                    have y9 : Blk w9 gy 3 #[.int .i64 b.y0, .int .i64 Y1] := by
                      have k8 := S8.out.lays.2.2.1
                      unfold Blk at k8 ⊢
                      rw [hgrow.block gy (Array.getElem?_eq_some_iff.1 k8).1 (fun e => hny (e.symm))]
                      exact k8
                    have M9 : Hid (Mem w w9 [(gy, 3, #[.int .i64 b.y0, .int .i64 Y1]), (gx, 3, #[.int .i64 b.x0, .int .i64 X1]), (gc, 54, four Cc), (n + 2, 25, two (x, y)), (n + 1, 54, four b), (n, 23, six m)]) := ⟨B9, y9, L9⟩
                    clear hown hgrow B9 L9 y9 hny
                    go_wp2_with fail
                    exact ⟨⟨1, rfl, (.inr (.inl ⟨rfl, (by unfold Hid; simp), O9.out, M9.out⟩))⟩, by simp [intOf]⟩
              · have O := Lib.hid hT.out.1
                have S := Lib.hid hT.out.2
                clear hT
                have c0 : wr.cell? ⟨gy, 1, none⟩ = some (.int .i64 Y1) := S.out.lays.1.cell 1
                have m0 := S.out.lays.2.2.2.2.2.1.m0
                have m1 := S.out.lays.2.2.2.2.2.1.m1
                have m2 := S.out.lays.2.2.2.2.2.1.m2
                have m3 := S.out.lays.2.2.2.2.2.1.m3
                have m4 := S.out.lays.2.2.2.2.2.1.m4
                have m5 := S.out.lays.2.2.2.2.2.1.m5
                go_wp2_with fail
                refine (HA2.out _).mono ?_
                rintro e w6 ⟨rfl, hb⟩
                have S6 := Lib.hid (S.out.next hb)
                have O6 := Lib.hid (O.out.grow hb)
                clear hb c0 m0 m1 m2 m3 m4 m5
                cases k2
                · have e1 := HAll.out (by simp)
                  have e2 := HEr.out (by simp)
                  subst e2
                  rw [e1] at S6
                  clear HAll HAllT HEr HErT
                  have z0 := S6.out.lays.2.2.1.b0
                  have z1 := S6.out.lays.2.2.1.b1
                  have z2 := S6.out.lays.2.2.1.b2
                  have z3 := S6.out.lays.2.2.1.b3
                  have ltc := S6.out.lays.2.2.1.lt
                  simp only at z0 z1 z2 z3
                  go_wp2_with fail
                  refine (HAW.out _ (S6.out.next ((Below.refl _ _).alloc (Nat.le_refl _) _)).below).mono ?_
                  rintro e w7 ⟨rfl, hb⟩
                  have B7 : Hid (Below w.heap.size w w7) := below_next (S6.out.next ((Below.refl _ _).alloc (Nat.le_refl _) _)).below hb
                  clear hb
                  go_wp2_with fail
                  go_ret
                  exact ⟨rfl, B7.out⟩
                · go_upto_region 17 with fail
                  have S7 : Hid (Mem w (w6.alloc (.cells #[.int .i64 U2, .int .i64 V2] 25)) ((w6.heap.size, 25, two (U2, V2)) :: _)) := S6.out.add 25 (two (U2, V2))
                  have O7 : Hid (Own (w6.alloc (.cells #[.int .i64 U2, .int .i64 V2] 25)) (gx + 1) 25 u10 [(U0, V0)]) := O6.out.grow ((Below.refl _ _).alloc (Nat.le_refl _) _)
                  generalize World.alloc w6 _ = W7 at S7 O7 ⊢
                  generalize w6.heap.size = g15 at *
                  clear O6 S6
                  have q0 := S7.out.lays.1.p0
                  have q1 := S7.out.lays.1.p1
                  have O8 : Hid (Own (W7.alloc (.cells #[.int .i64 U2, .int .i64 V2] 25)) (gx + 1) 25 u10 [(U0, V0)]) := O7.out.grow ((Below.refl _ _).alloc (Nat.le_refl _) _)
                  have S8 : Hid (Mem w (W7.alloc (.cells #[.int .i64 U2, .int .i64 V2] 25)) ((W7.heap.size, 25, two (U2, V2)) :: _)) := S7.out.add 25 (two (U2, V2))
                  have hsz : gx < W7.heap.size := by have := S7.out.lays.2.2.1.lt; exact this
                  go_wp2_with (at_builtin; refine wpList_append_own _ rfl _ _ 57 rfl (gx + 1) 25 i0 (.agg (two (0, 0))) 2 16 Tryd.underlying57 hi hz0 hz1 hz2 rfl (by decide) _ _ _ rfl O8.out ⟨W7.heap.size, 0, none⟩ 1 1 [.int .i64 U2, .int .i64 V2] rfl rfl ?e01a ?e01b ?e01c ?e01d ?e01e ?_)
                  any_goals (first | (exact ⟨rfl, rfl⟩) | (unfold maxLen; omega) | (exact Nat.le_of_lt hsz) | (exact hsz))
                  · intro v' w9 hown hgrow _
                    have O9 : Hid (Own w9 (gx + 1) 25 v' [(U0, V0), (U2, V2)]) := hown
                    have B9 := own_below O8.out hgrow S8.out.below (by omega) (by simp; omega)
                    have L9 : Lays w9 [(gx, 3, #[.int .i64 b.x0, .int .i64 X1]), (gc, 54, four Cc), (n + 2, 25, two (x, y)), (n + 1, 54, four b), (n, 23, six m)] := Lays.appended (t := 25) O8.out hgrow S8.out.lays.2.2.2 HLT.out
                    have M9 : Hid (Mem w w9 [(gx, 3, #[.int .i64 b.x0, .int .i64 X1]), (gc, 54, four Cc), (n + 2, 25, two (x, y)), (n + 1, 54, four b), (n, 23, six m)]) := ⟨B9, L9⟩
                    clear hown hgrow B9 L9
                    go_wp2_with fail
                    exact ⟨⟨2, rfl, (.inr (.inr ⟨rfl, (by unfold Hid; have h := hj.out; simp_all), O9.out, M9.out⟩))⟩, by simp [intOf]⟩
              · have O := Lib.hid hT.out.1
                have S := Lib.hid hT.out.2
                clear hT
                go_wp2_with fail
                exact ⟨⟨1, rfl, .inr (.inl ⟨rfl, (by unfold Hid; have h := hj.out; simp_all), O.out, S.out⟩)⟩, by simp [intOf]⟩
          · have O := Lib.hid hS.out.1
            have S := Lib.hid hS.out.2
            clear hS
            have c0 : wr.cell? ⟨gx, 1, none⟩ = some (.int .i64 X1) := S.out.lays.1.cell 1
            have b0 := S.out.lays.2.2.2.1.b0
            have b1 := S.out.lays.2.2.2.1.b1
            have b2 := S.out.lays.2.2.2.1.b2
            have b3 := S.out.lays.2.2.2.1.b3
            have ltb := S.out.lays.2.2.2.1.lt
            go_wp2_with fail
            have Sy : Hid (Mem w (wr.alloc (.cells #[.int .i64 b.y0, .int .i64 Y1] 3)) ((wr.heap.size, 3, #[.int .i64 b.y0, .int .i64 Y1]) :: _)) := S.out.add 3 #[.int .i64 b.y0, .int .i64 Y1]
            have Oy : Hid (Own (wr.alloc (.cells #[.int .i64 b.y0, .int .i64 Y1] 3)) (gx + 1) 25 u10 [(U0, V0), (U2, V2)]) := O.out.grow ((Below.refl _ _).alloc (Nat.le_refl _) _)
            have hny : u10.ownBlock ≠ some wr.heap.size := fun h => by have := O.out.lt h; omega
            have hgy : gx < wr.heap.size := S.out.lays.1.lt
            generalize World.alloc wr _ = Wy at Sy Oy ⊢
            generalize wr.heap.size = gy at *
            clear c0 b0 b1 b2 b3 ltb O S
            go_loopw [10, 80] (fun v i wi => ∃ z : Int, i = .int .i64 z ∧ (z = 0 ∧ Hid (Own wi (gx + 1) 25 v [(U0, V0), (U2, V2)] ∧ v.ownBlock ≠ some gy ∧ Mem w wi [(gy, 3, #[.int .i64 b.y0, .int .i64 Y1]), (gx, 3, #[.int .i64 b.x0, .int .i64 X1]), (gc, 54, four Cc), (n + 2, 25, two (x, y)), (n + 1, 54, four b), (n, 23, six m)]) ∨ z = 1 ∧ Hid (k1 = true) ∧ Hid (Own wi (gx + 1) 25 v [(U0, V0), (U2, V2), (U1, V1)] ∧ Mem w wi [(gy, 3, #[.int .i64 b.y0, .int .i64 Y1]), (gx, 3, #[.int .i64 b.x0, .int .i64 X1]), (gc, 54, four Cc), (n + 2, 25, two (x, y)), (n + 1, 54, four b), (n, 23, six m)]) ∨ z = 2 ∧ Hid (k1 = true ∧ k3 = true) ∧ Hid (Own wi (gx + 1) 25 v [(U0, V0), (U2, V2), (U1, V1), (U3, V3)] ∧ Mem w wi [(gx, 3, #[.int .i64 b.x0, .int .i64 X1]), (gc, 54, four Cc), (n + 2, 25, two (x, y)), (n + 1, 54, four b), (n, 23, six m)]))) (fun _ i _ => (2 - intOf i).toNat)
            case atStart => exact ⟨0, rfl, .inl ⟨rfl, Oy.out, hny, Sy.out⟩⟩
            case round =>
              obtain ⟨z, rfl, hz⟩ := hrel
              clear Oy Sy hny
              rcases hz with ⟨rfl, hT⟩ | ⟨rfl, hj, hT⟩ | ⟨rfl, hj, hT⟩
              · have O := Lib.hid hT.out.1
                have hny := hT.out.2.1
                have S := Lib.hid hT.out.2.2
                clear hT
                have c0 : wr.cell? ⟨gy, 0, none⟩ = some (.int .i64 b.y0) := S.out.lays.1.cell 0
                have m0 := S.out.lays.2.2.2.2.2.1.m0
                have m1 := S.out.lays.2.2.2.2.2.1.m1
                have m2 := S.out.lays.2.2.2.2.2.1.m2
                have m3 := S.out.lays.2.2.2.2.2.1.m3
                have m4 := S.out.lays.2.2.2.2.2.1.m4
                have m5 := S.out.lays.2.2.2.2.2.1.m5
                go_wp2_with fail
                refine (HA1.out _).mono ?_
                rintro e w6 ⟨rfl, hb⟩
                have S6 := Lib.hid (S.out.next hb)
                have O6 := Lib.hid (O.out.grow hb)
                clear hb c0 m0 m1 m2 m3 m4 m5
                cases k1
                · have e1 := HAll.out (by simp)
                  have e2 := HEr.out (by simp)
                  subst e2
                  rw [e1] at S6
                  clear HAll HAllT HEr HErT
                  have z0 := S6.out.lays.2.2.1.b0
                  have z1 := S6.out.lays.2.2.1.b1
                  have z2 := S6.out.lays.2.2.1.b2
                  have z3 := S6.out.lays.2.2.1.b3
                  have ltc := S6.out.lays.2.2.1.lt
                  simp only at z0 z1 z2 z3
                  go_wp2_with fail
                  refine (HAW.out _ (S6.out.next ((Below.refl _ _).alloc (Nat.le_refl _) _)).below).mono ?_
                  rintro e w7 ⟨rfl, hb⟩
                  have B7 : Hid (Below w.heap.size w w7) := below_next (S6.out.next ((Below.refl _ _).alloc (Nat.le_refl _) _)).below hb
                  clear hb
                  go_wp2_with fail
                  go_ret
                  exact ⟨rfl, B7.out⟩
                · go_upto_region 17 with fail
                  have S7 : Hid (Mem w (w6.alloc (.cells #[.int .i64 U1, .int .i64 V1] 25)) ((w6.heap.size, 25, two (U1, V1)) :: _)) := S6.out.add 25 (two (U1, V1))
                  have O7 : Hid (Own (w6.alloc (.cells #[.int .i64 U1, .int .i64 V1] 25)) (gx + 1) 25 u10 [(U0, V0), (U2, V2)]) := O6.out.grow ((Below.refl _ _).alloc (Nat.le_refl _) _)
                  generalize World.alloc w6 _ = W7 at S7 O7 ⊢
                  generalize w6.heap.size = g15 at *
                  clear O6 S6
                  have q0 := S7.out.lays.1.p0
                  have q1 := S7.out.lays.1.p1
                  have O8 : Hid (Own (W7.alloc (.cells #[.int .i64 U1, .int .i64 V1] 25)) (gx + 1) 25 u10 [(U0, V0), (U2, V2)]) := O7.out.grow ((Below.refl _ _).alloc (Nat.le_refl _) _)
                  have S8 : Hid (Mem w (W7.alloc (.cells #[.int .i64 U1, .int .i64 V1] 25)) ((W7.heap.size, 25, two (U1, V1)) :: _)) := S7.out.add 25 (two (U1, V1))
                  have hsz : gx < W7.heap.size := by have := S7.out.lays.2.2.1.lt; exact this
                  go_wp2_with (at_builtin; refine wpList_append_own _ rfl _ _ 57 rfl (gx + 1) 25 i0 (.agg (two (0, 0))) 2 16 Tryd.underlying57 hi hz0 hz1 hz2 rfl (by decide) _ _ _ rfl O8.out ⟨W7.heap.size, 0, none⟩ 1 1 [.int .i64 U1, .int .i64 V1] rfl rfl ?e10a ?e10b ?e10c ?e10d ?e10e ?_)
                  any_goals (first | (exact ⟨rfl, rfl⟩) | (unfold maxLen; omega) | (exact Nat.le_of_lt hsz) | (exact hsz))
                  · intro v' w9 hown hgrow _
                    have O9 : Hid (Own w9 (gx + 1) 25 v' [(U0, V0), (U2, V2), (U1, V1)]) := hown
                    have B9 := own_below O8.out hgrow S8.out.below (by omega) (by simp; omega)
                    have L9 : Lays w9 [(gx, 3, #[.int .i64 b.x0, .int .i64 X1]), (gc, 54, four Cc), (n + 2, 25, two (x, y)), (n + 1, 54, four b), (n, 23, six m)] := Lays.appended (t := 25) O8.out hgrow S8.out.lays.2.2.2 HLT.out
                    have y9 : Blk w9 gy 3 #[.int .i64 b.y0, .int .i64 Y1] := by
                      have k8 := S8.out.lays.2.2.1
                      unfold Blk at k8 ⊢
                      rw [hgrow.block gy (Array.getElem?_eq_some_iff.1 k8).1 (fun e => hny (e.symm))]
                      exact k8
                    have M9 : Hid (Mem w w9 [(gy, 3, #[.int .i64 b.y0, .int .i64 Y1]), (gx, 3, #[.int .i64 b.x0, .int .i64 X1]), (gc, 54, four Cc), (n + 2, 25, two (x, y)), (n + 1, 54, four b), (n, 23, six m)]) := ⟨B9, y9, L9⟩
                    clear hown hgrow B9 L9 y9 hny
                    go_wp2_with fail
                    exact ⟨⟨1, rfl, (.inr (.inl ⟨rfl, (by unfold Hid; simp), O9.out, M9.out⟩))⟩, by simp [intOf]⟩
              · have O := Lib.hid hT.out.1
                have S := Lib.hid hT.out.2
                clear hT
                have c0 : wr.cell? ⟨gy, 1, none⟩ = some (.int .i64 Y1) := S.out.lays.1.cell 1
                have m0 := S.out.lays.2.2.2.2.2.1.m0
                have m1 := S.out.lays.2.2.2.2.2.1.m1
                have m2 := S.out.lays.2.2.2.2.2.1.m2
                have m3 := S.out.lays.2.2.2.2.2.1.m3
                have m4 := S.out.lays.2.2.2.2.2.1.m4
                have m5 := S.out.lays.2.2.2.2.2.1.m5
                go_wp2_with fail
                refine (HA3.out _).mono ?_
                rintro e w6 ⟨rfl, hb⟩
                have S6 := Lib.hid (S.out.next hb)
                have O6 := Lib.hid (O.out.grow hb)
                clear hb c0 m0 m1 m2 m3 m4 m5
                cases k3
                · have e1 := HAll.out (by simp)
                  have e2 := HEr.out (by simp)
                  subst e2
                  rw [e1] at S6
                  clear HAll HAllT HEr HErT
                  have z0 := S6.out.lays.2.2.1.b0
                  have z1 := S6.out.lays.2.2.1.b1
                  have z2 := S6.out.lays.2.2.1.b2
                  have z3 := S6.out.lays.2.2.1.b3
                  have ltc := S6.out.lays.2.2.1.lt
                  simp only at z0 z1 z2 z3
                  go_wp2_with fail
                  refine (HAW.out _ (S6.out.next ((Below.refl _ _).alloc (Nat.le_refl _) _)).below).mono ?_
                  rintro e w7 ⟨rfl, hb⟩
                  have B7 : Hid (Below w.heap.size w w7) := below_next (S6.out.next ((Below.refl _ _).alloc (Nat.le_refl _) _)).below hb
                  clear hb
                  go_wp2_with fail
                  go_ret
                  exact ⟨rfl, B7.out⟩
                · go_upto_region 17 with fail
                  have S7 : Hid (Mem w (w6.alloc (.cells #[.int .i64 U3, .int .i64 V3] 25)) ((w6.heap.size, 25, two (U3, V3)) :: _)) := S6.out.add 25 (two (U3, V3))
                  have O7 : Hid (Own (w6.alloc (.cells #[.int .i64 U3, .int .i64 V3] 25)) (gx + 1) 25 u10 [(U0, V0), (U2, V2), (U1, V1)]) := O6.out.grow ((Below.refl _ _).alloc (Nat.le_refl _) _)
                  generalize World.alloc w6 _ = W7 at S7 O7 ⊢
                  generalize w6.heap.size = g15 at *
                  clear O6 S6
                  have q0 := S7.out.lays.1.p0
                  have q1 := S7.out.lays.1.p1
                  have O8 : Hid (Own (W7.alloc (.cells #[.int .i64 U3, .int .i64 V3] 25)) (gx + 1) 25 u10 [(U0, V0), (U2, V2), (U1, V1)]) := O7.out.grow ((Below.refl _ _).alloc (Nat.le_refl _) _)
                  have S8 : Hid (Mem w (W7.alloc (.cells #[.int .i64 U3, .int .i64 V3] 25)) ((W7.heap.size, 25, two (U3, V3)) :: _)) := S7.out.add 25 (two (U3, V3))
                  have hsz : gx < W7.heap.size := by have := S7.out.lays.2.2.1.lt; exact this
                  go_wp2_with (at_builtin; refine wpList_append_own _ rfl _ _ 57 rfl (gx + 1) 25 i0 (.agg (two (0, 0))) 2 16 Tryd.underlying57 hi hz0 hz1 hz2 rfl (by decide) _ _ _ rfl O8.out ⟨W7.heap.size, 0, none⟩ 1 1 [.int .i64 U3, .int .i64 V3] rfl rfl ?e11a ?e11b ?e11c ?e11d ?e11e ?_)
                  any_goals (first | (exact ⟨rfl, rfl⟩) | (unfold maxLen; omega) | (exact Nat.le_of_lt hsz) | (exact hsz))
                  · intro v' w9 hown hgrow _
                    have O9 : Hid (Own w9 (gx + 1) 25 v' [(U0, V0), (U2, V2), (U1, V1), (U3, V3)]) := hown
                    have B9 := own_below O8.out hgrow S8.out.below (by omega) (by simp; omega)
                    have L9 : Lays w9 [(gx, 3, #[.int .i64 b.x0, .int .i64 X1]), (gc, 54, four Cc), (n + 2, 25, two (x, y)), (n + 1, 54, four b), (n, 23, six m)] := Lays.appended (t := 25) O8.out hgrow S8.out.lays.2.2.2 HLT.out
                    have M9 : Hid (Mem w w9 [(gx, 3, #[.int .i64 b.x0, .int .i64 X1]), (gc, 54, four Cc), (n + 2, 25, two (x, y)), (n + 1, 54, four b), (n, 23, six m)]) := ⟨B9, L9⟩
                    clear hown hgrow B9 L9
                    go_wp2_with fail
                    exact ⟨⟨2, rfl, (.inr (.inr ⟨rfl, (by unfold Hid; have h := hj.out; simp_all), O9.out, M9.out⟩))⟩, by simp [intOf]⟩
              · have O := Lib.hid hT.out.1
                have S := Lib.hid hT.out.2
                clear hT
                go_wp2_with fail
                exact ⟨⟨2, rfl, .inr (.inr ⟨rfl, (by unfold Hid; have h := hj.out; have h2 := hk.out; simp_all), O.out, S.out⟩)⟩, by simp [intOf]⟩
          · obtain ⟨rfl, rfl, rfl, rfl⟩ := hk.out
            have O := Lib.hid hS.out.1
            have S := Lib.hid hS.out.2
            clear hS hk
            have e1 := HAllT.out rfl
            have e2 := HErT.out rfl
            subst e2
            rw [e1] at S
            clear HAll HAllT HEr HErT e1
            have HB2' := Lib.hid (HBo.out rfl)
            have HA' := Lib.hid (HAp.out rfl)
            have HD' := Lib.hid (HHD.out rfl)
            clear HBo HAp HHD
            go_wp2_with fail
            have HV : Hid (∀ w', Out wr w' → w'.cell? ⟨gc, 0, none⟩ = some (.int .i64 D.x0) ∧ w'.cell? ⟨gc, 1, none⟩ = some (.int .i64 D.y0) ∧ w'.cell? ⟨gc, 2, none⟩ = some (.int .i64 D.x1) ∧ w'.cell? ⟨gc, 3, none⟩ = some (.int .i64 D.y1)) := fun w' hw' => by
              have T := S.out.next hw'
              exact ⟨T.lays.2.1.b0, T.lays.2.1.b1, T.lays.2.1.b2, T.lays.2.1.b3⟩
            refine wp_region_quiet (C := Out wr) (by kernel_rfl) (by kernel_rfl) ⟨rfl, rfl, rfl, Nat.le_refl _, fun _ _ => rfl⟩ ?_
            refine BigFrame.wpQuiet_want rfl (fun K hK => ?_)
            refine quiet_val (.int .i64 0) (fun w' hw' => by go_simp) (hK _ ?_)
            clear hK K
            simp only [Act.put, List.setIfInBounds_toArray, List.set_cons_zero, List.set_cons_succ]
            refine BigFrame.wpQuiet_want rfl (fun K hK => ?_)
            refine quiet_val (.bool false) (fun w' hw' => by go_simp) (hK _ ?_)
            clear hK K
            simp only [Act.put, List.setIfInBounds_toArray, List.set_cons_zero, List.set_cons_succ]
            refine BigFrame.wpQuiet_want rfl (fun K hK => ?_)
            refine quiet_val (.bool false) (fun w' hw' => by go_simp) (hK _ ?_)
            clear hK K
            simp only [Act.put, List.setIfInBounds_toArray, List.set_cons_zero, List.set_cons_succ]
            refine BigFrame.wpQuiet_want rfl (fun K hK => ?_)
            refine quiet_val (.agg #[.int .i64 D.x0, .int .i64 D.y0, .int .i64 D.x1, .int .i64 D.y1]) (fun w' hw' => by obtain ⟨d0, d1, d2, d3⟩ := HV.out w' hw'; go_simp) (hK _ ?_)
            clear hK K
            simp only [Act.put, List.setIfInBounds_toArray, List.set_cons_zero, List.set_cons_succ]
            refine BigFrame.wpQuiet_want rfl (fun K hK => ?_)
            refine quiet_val (u10) (fun w' hw' => by go_simp) (hK _ ?_)
            clear hK K
            simp only [Act.put, List.setIfInBounds_toArray, List.set_cons_zero, List.set_cons_succ]
            refine BigFrame.wpQuiet_want rfl (fun K hK => ?_)
            refine quiet_call 25 #[u10] (.agg #[.int .i64 D.x0, .int .i64 D.y0, .int .i64 D.x1, .int .i64 D.y1]) (fun w' _ => by go_simp) (fun w' hw' => Calls.out hw' (HB2'.out _ _ (O.out.row.on hw'))) (hK _ ?_)
            clear hK K
            simp only [Act.put, List.setIfInBounds_toArray, List.set_cons_zero, List.set_cons_succ]
            refine BigFrame.wpQuiet_want rfl (fun K hK => ?_)
            refine quiet_val (.bool false) (fun w' hw' => by go_simp) (hK _ ?_)
            clear hK K
            simp only [Act.put, List.setIfInBounds_toArray, List.set_cons_zero, List.set_cons_succ]
            refine BigFrame.wpQuiet_want rfl (fun K hK => ?_)
            refine quiet_val (.bool false) (fun w' hw' => by go_simp) (hK _ ?_)
            clear hK K
            simp only [Act.put, List.setIfInBounds_toArray, List.set_cons_zero, List.set_cons_succ]
            refine wpQuiet_nil ?_
            intro w6 hb
            have S6 := Lib.hid (S.out.next hb)
            clear hb HV
            have b0 := S6.out.lays.2.2.2.1.b0
            have b1 := S6.out.lays.2.2.2.1.b1
            have b2 := S6.out.lays.2.2.2.1.b2
            have b3 := S6.out.lays.2.2.2.1.b3
            have p0 := S6.out.lays.2.2.1.p0
            have p1 := S6.out.lays.2.2.1.p1
            go_wp2_with fail
            refine (HHas.out _).mono ?_
            rintro e w7 ⟨rfl, hb⟩
            have S7 := Lib.hid (S6.out.next hb)
            clear hb
            clear b0 b1 b2 b3 p0 p1
            cases ha
            · go_wp2_with fail
              refine (HAW.out _ S7.out.below).mono ?_
              rintro e w8 ⟨rfl, hb⟩
              have B8 : Hid (Below w.heap.size w w8) := below_next S7.out.below hb
              clear hb
              go_wp2_with fail
              go_ret
              exact ⟨rfl, B8.out⟩
            · have HA2' := Lib.hid (HA'.out rfl)
              have HD2' := Lib.hid (HD'.out rfl)
              have m0 := S7.out.lays.2.2.2.2.1.m0
              have m1 := S7.out.lays.2.2.2.2.1.m1
              have m2 := S7.out.lays.2.2.2.2.1.m2
              have m3 := S7.out.lays.2.2.2.2.1.m3
              have m4 := S7.out.lays.2.2.2.2.1.m4
              have m5 := S7.out.lays.2.2.2.2.1.m5
              have p0 := S7.out.lays.2.2.1.p0
              have p1 := S7.out.lays.2.2.1.p1
              go_wp2_with fail
              refine (HA2'.out _).mono ?_
              rintro e w8 ⟨rfl, hb⟩
              have S8 := Lib.hid (S7.out.next hb)
              clear hb
              clear m0 m1 m2 m3 m4 m5 p0 p1
              have d0 := S8.out.lays.2.1.b0
              have d1 := S8.out.lays.2.1.b1
              have d2 := S8.out.lays.2.1.b2
              have d3 := S8.out.lays.2.1.b3
              have ltc := S8.out.lays.2.1.lt
              go_wp2_with fail
              refine (HD2'.out _).mono ?_
              rintro e w9 ⟨rfl, hb⟩
              have S9 := Lib.hid ((S8.out.next ((Below.refl _ _).alloc (Nat.le_refl _) _)).next hb)
              clear hb d0 d1 d2 d3 ltc
              go_wp2_with fail
              refine (HAW.out _ S9.out.below).mono ?_
              rintro e w10 ⟨rfl, hb⟩
              have B10 : Hid (Below w.heap.size w w10) := below_next S9.out.below hb
              clear hb
              go_wp2_with fail
              go_ret
              exact ⟨rfl, B10.out⟩
    · have HBx := Lib.hid (HB2.out rfl hemv)
      go_enter Tryd.func7, Tryd.ntmps7
      go_wp2_with fail
      refine (HBx.out _).mono ?_
      rintro e w1 ⟨rfl, hb⟩
      have S1 : Hid (Mem w w1 _) := S0.out.next hb
      clear hb
      have b0 := S1.out.lays.2.1.b0
      have b1 := S1.out.lays.2.1.b1
      have b2 := S1.out.lays.2.1.b2
      have b3 := S1.out.lays.2.1.b3
      have lt := S1.out.lays.2.1.lt
      go_upto_region 2 with fail
      have S2 : Hid (Mem w (w1.alloc (.cells #[.int .i64 0, .int .i64 0, .int .i64 0, .int .i64 0] 54)) ((w1.heap.size, 54, four ⟨0, 0, 0, 0⟩) :: _)) := S1.out.add 54 (four ⟨0, 0, 0, 0⟩)
      generalize World.alloc w1 _ = W1 at S2 ⊢
      have hgc : n + 2 < w1.heap.size := S1.out.lays.1.lt
      clear S1 lt b0 b1 b2 b3
      generalize w1.heap.size = gc at *
      have b0 := S2.out.lays.2.2.1.b0
      have b1 := S2.out.lays.2.2.1.b1
      have b2 := S2.out.lays.2.2.1.b2
      have b3 := S2.out.lays.2.2.1.b3
      go_cut [9] (fun c wx => c = .bool em ∧ wx = W1)
      case first =>
        have hem := HEM.out
        clear HEM
        by_cases h1 : b.x1 ≤ b.x0
        · go_wp2_with fail
          go_meet
          exact ⟨by rw [hem]; simp [h1], rfl⟩
        · by_cases h2 : b.y1 ≤ b.y0
          · go_wp2_with fail
            go_meet
            exact ⟨by rw [hem]; simp [h2], rfl⟩
          · go_wp2_with fail
            go_meet
            exact ⟨by rw [hem]; simp; omega, rfl⟩
      case rest =>
        obtain ⟨rfl, rfl⟩ := hcut
        clear b0 b1 b2 b3
        rw [hemv]
        have m0 := S2.out.lays.2.2.2.1.m0
        have m1 := S2.out.lays.2.2.2.1.m1
        have m2 := S2.out.lays.2.2.2.1.m2
        have m3 := S2.out.lays.2.2.2.1.m3
        have m4 := S2.out.lays.2.2.2.1.m4
        have m5 := S2.out.lays.2.2.2.1.m5
        go_wp2_with fail
        refine (HF.out _).mono ?_
        rintro e w2 ⟨rfl, hb⟩
        have S3 := Lib.hid (S2.out.next hb)
        clear hb
        clear m0 m1 m2 m3 m4 m5
        go_wp2_with fail
        refine (HRR.out _).mono ?_
        rintro e w3 ⟨rfl, hb⟩
        have S4 := Lib.hid (S3.out.next hb)
        clear hb
        have z0 := S4.out.lays.1.b0
        have z1 := S4.out.lays.1.b1
        have z2 := S4.out.lays.1.b2
        have z3 := S4.out.lays.1.b3
        simp only at z0 z1 z2 z3
        go_wp2_with fail
        refine (HAW.out _ S4.out.below).mono ?_
        rintro e w4 ⟨rfl, hb⟩
        have B4 : Hid (Below w.heap.size w w4) := below_next S4.out.below hb
        clear hb
        go_wp2_with fail
        go_ret
        exact ⟨rfl, B4.out⟩
end Go.Proofs.YticoklfgmflidaaDoor
