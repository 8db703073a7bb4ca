/- The law AffineNear. -/
import Derived.Test.YticoklfgmflidaaDoorAo
namespace Go.Proofs.YticoklfgmflidaaDoor
open Go.RowKit

def nearL (m o : Mx) : List Int := [m.a, m.b, m.c, m.d, o.a, o.b, o.c, o.d]
abbrev nearA (m o : Mx) : Array Value := #[.int .i64 m.a, .int .i64 m.b, .int .i64 m.c, .int .i64 m.d, .int .i64 o.a, .int .i64 o.b, .int .i64 o.c, .int .i64 o.d]
def le17 (e : Int) : Prop := -131072 ≤ e ∧ e ≤ 131072
def upTo (m o : Mx) (k : Nat) : Prop := ∀ j e, j < k → (nearL m o)[j]? = some e → le17 e
structure Bd (m o : Mx) (x y : Int) : Prop where
  ma : le17 m.a
  mb : le17 m.b
  mc : le17 m.c
  md : le17 m.d
  oa : le17 o.a
  ob : le17 o.b
  oc : le17 o.c
  od : le17 o.d
  hx : -32768 ≤ x ∧ x ≤ 32768
  hy : -32768 ≤ y ∧ y ≤ 32768
theorem Bd.of {m o : Mx} {x y : Int} (h : upTo m o 8) (hx : -32768 ≤ x ∧ x ≤ 32768) (hy : -32768 ≤ y ∧ y ≤ 32768) : Bd m o x y :=
  ⟨h 0 _ (by omega) rfl, h 1 _ (by omega) rfl, h 2 _ (by omega) rfl, h 3 _ (by omega) rfl, h 4 _ (by omega) rfl, h 5 _ (by omega) rfl, h 6 _ (by omega) rfl, h 7 _ (by omega) rfl, hx, hy⟩
theorem nearA_at (m o : Mx) (k : Nat) (e : Int) (h : (nearL m o)[k]? = some e) : (nearA m o)[k]? = some (.int .i64 e) := by
  have hk : k < 8 := (List.getElem?_eq_some_iff.1 h).1
  match k, hk with
  | 0, _ => simpa [nearL] using h
  | 1, _ => simpa [nearL] using h
  | 2, _ => simpa [nearL] using h
  | 3, _ => simpa [nearL] using h
  | 4, _ => simpa [nearL] using h
  | 5, _ => simpa [nearL] using h
  | 6, _ => simpa [nearL] using h
  | 7, _ => simpa [nearL] using h
set_option maxHeartbeats 8000000 in
set_option maxRecDepth 100000 in
theorem near_walk (m o T : Mx) (x y qx qy ax ay bx bY : Int) (w : World) (k1 k2 k3 k4 : Bool)
    (HT : Hid (∀ w, Calls Tryd.prog 16 #[.agg #[.int .i64 m.a, .int .i64 m.b, .int .i64 m.c, .int .i64 m.d, .int .i64 m.e, .int .i64 m.f], .agg #[.int .i64 o.a, .int .i64 o.b, .int .i64 o.c, .int .i64 o.d, .int .i64 o.e, .int .i64 o.f]] w fun e w' => e = .returned (.tuple #[.agg (six T), .int .i64 (if k1 then 0 else 10)]) ∧ Below w.heap.size w w'))
    (HA1 : Hid (∀ w, Calls Tryd.prog 9 #[.agg #[.int .i64 m.a, .int .i64 m.b, .int .i64 m.c, .int .i64 m.d, .int .i64 m.e, .int .i64 m.f], .agg #[.int .i64 x, .int .i64 y]] w fun e w' => e = .returned (.tuple #[.agg #[.int .i64 qx, .int .i64 qy], .int .i64 (if k2 then 0 else 10)]) ∧ Below w.heap.size w w'))
    (HA2 : Hid (∀ w, Calls Tryd.prog 9 #[.agg #[.int .i64 o.a, .int .i64 o.b, .int .i64 o.c, .int .i64 o.d, .int .i64 o.e, .int .i64 o.f], .agg #[.int .i64 qx, .int .i64 qy]] w fun e w' => e = .returned (.tuple #[.agg #[.int .i64 ax, .int .i64 ay], .int .i64 (if k3 then 0 else 10)]) ∧ Below w.heap.size w w'))
    (HA3 : Hid (∀ w, Calls Tryd.prog 9 #[.agg #[.int .i64 T.a, .int .i64 T.b, .int .i64 T.c, .int .i64 T.d, .int .i64 T.e, .int .i64 T.f], .agg #[.int .i64 x, .int .i64 y]] w fun e w' => e = .returned (.tuple #[.agg #[.int .i64 bx, .int .i64 bY], .int .i64 (if k4 then 0 else 10)]) ∧ Below w.heap.size w w'))
    (HN : Hid (Bd m o x y → k1 = true → k2 = true → k3 = true → k4 = true → (∀ w, Calls Tryd.prog 18 #[.int .i64 ax, .int .i64 bx] w fun e w' => e = .returned (.bool true) ∧ w = w') ∧ (∀ w, Calls Tryd.prog 18 #[.int .i64 ay, .int .i64 bY] w fun e w' => e = .returned (.bool true) ∧ w = w')))
    (HAW : Hid (∀ w', Below w.heap.size w w' → Calls Tryd.prog 15 #[] w' fun e w'' => e = .returned (.bool true) ∧ Below w'.heap.size w' w'')) :
    Calls Tryd.prog 5 #[.agg (six m), .agg (six o), .agg #[.int .i64 x, .int .i64 y]] w fun e w' => e = .returned (.bool true) ∧ Below w.heap.size w w' := by
  have S0 : Hid (Mem w ((((w.alloc (.cells (six m) 23)).alloc (.cells (six o) 23)).alloc (.cells (two (x, y)) 25)).alloc (.cells (nearA m o) 3)) [(w.heap.size + 3, 3, nearA m o), (w.heap.size + 2, 25, two (x, y)), (w.heap.size + 1, 23, six o), (w.heap.size, 23, six m)]) := ((((Mem.refl w).add _ _).addAt _ _ _ (by simp)).addAt _ _ _ (by simp)).addAt _ _ _ (by simp)
  obtain ⟨n, hn⟩ : ∃ n, w.heap.size = n := ⟨_, rfl⟩
  rw [hn] at S0
  go_enter Tryd.func5, Tryd.ntmps5
  go_wp2_with fail
  go_loopw [35] (fun i wr => ∃ k : Nat, k ≤ 8 ∧ i = .int .i64 k ∧ Hid (Mem w wr [(n + 3, 3, nearA m o), (n + 2, 25, two (x, y)), (n + 1, 23, six o), (n, 23, six m)] ∧ upTo m o k)) (fun i _ => 8 - (intOf i).toNat)
  case atStart => exact ⟨0, by omega, rfl, S0.out, fun j e h => absurd h (by omega)⟩
  case round =>
    obtain ⟨k, hk, rfl, hw⟩ := hrel
    by_cases hlt : k < 8
    · have hd : decide ((k : Int) < 8) = true := by simp; omega
      have hlt' : (k : Int) < 8 := by omega
      obtain ⟨e, he⟩ : ∃ e, (nearL m o)[k]? = some e := ⟨_, List.getElem?_eq_getElem (by simpa [nearL] using hlt)⟩
      have c : wr.cell? ⟨n + 3, k, none⟩ = some (.int .i64 e) := (hw.out.1.lays.1.cell k).trans (nearA_at m o k e he)
      have HE := Lib.hid he
      clear he
      go_wp2_with (go_at_call 15; refine (HAW.out _ hw.out.1.below).mono ?_; rintro e w1 ⟨rfl, hb⟩; have B1 : Hid (Below w.heap.size w w1) := below_next hw.out.1.below hb; clear hb)
      all_goals first
        | (go_ret; exact ⟨rfl, B1.out⟩)
        | exact ⟨⟨k + 1, by omega, by go_num, hw.out.1, fun j e' hj h => by
            by_cases hjk : j = k
            · subst hjk
              have := HE.out.symm.trans h
              simp only [Option.some.injEq] at this
              subst this
              exact ⟨by omega, by omega⟩
            · exact hw.out.2 j e' (by omega) h⟩, by simp [intOf]; omega⟩
    · have hd : decide ((k : Int) < 8) = false := by simp; omega
      have hk8 : k = 8 := by omega
      have S := Lib.hid hw.out.1
      have HU : Hid (upTo m o 8) := hk8 ▸ hw.out.2
      clear hw hk8
      have p0 := S.out.lays.2.1.p0
      have p1 := S.out.lays.2.1.p1
      by_cases hin : -32768 ≤ x ∧ x ≤ 32768 ∧ -32768 ≤ y ∧ y ≤ 32768
      · obtain ⟨hx0, hx1, hy0, hy1⟩ := hin
        have HB : Hid (Bd m o x y) := Bd.of HU.out ⟨hx0, hx1⟩ ⟨hy0, hy1⟩
        clear HU
        have m0 := S.out.lays.2.2.2.1.m0
        have m1 := S.out.lays.2.2.2.1.m1
        have m2 := S.out.lays.2.2.2.1.m2
        have m3 := S.out.lays.2.2.2.1.m3
        have m4 := S.out.lays.2.2.2.1.m4
        have m5 := S.out.lays.2.2.2.1.m5
        have o0 := S.out.lays.2.2.1.m0
        have o1 := S.out.lays.2.2.1.m1
        have o2 := S.out.lays.2.2.1.m2
        have o3 := S.out.lays.2.2.1.m3
        have o4 := S.out.lays.2.2.1.m4
        have o5 := S.out.lays.2.2.1.m5
        go_wp2_with fail
        refine (HT.out _).mono ?_
        rintro e w1 ⟨rfl, hb⟩
        have S1 := Lib.hid (S.out.next hb)
        clear hb
        clear p0 p1 m0 m1 m2 m3 m4 m5 o0 o1 o2 o3 o4 o5
        cases k1
        · have m0 := S1.out.lays.2.2.2.1.m0
          have m1 := S1.out.lays.2.2.2.1.m1
          have m2 := S1.out.lays.2.2.2.1.m2
          have m3 := S1.out.lays.2.2.2.1.m3
          have m4 := S1.out.lays.2.2.2.1.m4
          have m5 := S1.out.lays.2.2.2.1.m5
          have p0 := S1.out.lays.2.1.p0
          have p1 := S1.out.lays.2.1.p1
          have l0 := S1.out.lays.2.2.2.1.lt
          have l2 := S1.out.lays.2.1.lt
          go_wp2_with fail
          refine (HA1.out _).mono ?_
          rintro e w2 ⟨rfl, hb⟩
          have S2 := Lib.hid ((S1.out.add 23 (six T)).next hb)
          clear hb l0 l2
          clear m0 m1 m2 m3 m4 m5 p0 p1
          generalize w1.heap.size = g1 at *
          cases k2
          · go_wp2_with fail
            refine (HAW.out _ (S2.out.add 25 (two (qx, qy))).below).mono ?_
            rintro e w3 ⟨rfl, hb⟩
            have B3 : Hid (Below w.heap.size w w3) := below_next (S2.out.add 25 (two (qx, qy))).below hb
            clear hb
            go_wp2_with fail
            go_ret
            exact ⟨rfl, B3.out⟩
          · go_wp2_with fail
            refine (HAW.out _ (S2.out.add 25 (two (qx, qy))).below).mono ?_
            rintro e w3 ⟨rfl, hb⟩
            have B3 : Hid (Below w.heap.size w w3) := below_next (S2.out.add 25 (two (qx, qy))).below hb
            clear hb
            go_wp2_with fail
            go_ret
            exact ⟨rfl, B3.out⟩
        · have m0 := S1.out.lays.2.2.2.1.m0
          have m1 := S1.out.lays.2.2.2.1.m1
          have m2 := S1.out.lays.2.2.2.1.m2
          have m3 := S1.out.lays.2.2.2.1.m3
          have m4 := S1.out.lays.2.2.2.1.m4
          have m5 := S1.out.lays.2.2.2.1.m5
          have p0 := S1.out.lays.2.1.p0
          have p1 := S1.out.lays.2.1.p1
          have l0 := S1.out.lays.2.2.2.1.lt
          have l2 := S1.out.lays.2.1.lt
          go_wp2_with fail
          refine (HA1.out _).mono ?_
          rintro e w2 ⟨rfl, hb⟩
          have S2 := Lib.hid ((S1.out.add 23 (six T)).next hb)
          clear hb l0 l2
          clear m0 m1 m2 m3 m4 m5 p0 p1
          generalize w1.heap.size = g1 at *
          cases k2
          · go_wp2_with fail
            refine (HAW.out _ (S2.out.add 25 (two (qx, qy))).below).mono ?_
            rintro e w3 ⟨rfl, hb⟩
            have B3 : Hid (Below w.heap.size w w3) := below_next (S2.out.add 25 (two (qx, qy))).below hb
            clear hb
            go_wp2_with fail
            go_ret
            exact ⟨rfl, B3.out⟩
          · have o0 := S2.out.lays.2.2.2.1.m0
            have o1 := S2.out.lays.2.2.2.1.m1
            have o2 := S2.out.lays.2.2.2.1.m2
            have o3 := S2.out.lays.2.2.2.1.m3
            have o4 := S2.out.lays.2.2.2.1.m4
            have o5 := S2.out.lays.2.2.2.1.m5
            have l1 := S2.out.lays.2.2.2.1.lt
            go_wp2_with fail
            refine (HA2.out _).mono ?_
            rintro e w3 ⟨rfl, hb⟩
            have S3 := Lib.hid ((S2.out.add 25 (two (qx, qy))).next hb)
            clear hb l1
            clear o0 o1 o2 o3 o4 o5
            generalize w2.heap.size = g2 at *
            cases k3
            · have t0 := S3.out.lays.2.1.m0
              have t1 := S3.out.lays.2.1.m1
              have t2 := S3.out.lays.2.1.m2
              have t3 := S3.out.lays.2.1.m3
              have t4 := S3.out.lays.2.1.m4
              have t5 := S3.out.lays.2.1.m5
              have p0 := S3.out.lays.2.2.2.1.p0
              have p1 := S3.out.lays.2.2.2.1.p1
              have l0 := S3.out.lays.2.1.lt
              have l2 := S3.out.lays.2.2.2.1.lt
              go_wp2_with fail
              refine (HA3.out _).mono ?_
              rintro e w4 ⟨rfl, hb⟩
              have S4 := Lib.hid ((S3.out.add 25 (two (ax, ay))).next hb)
              clear hb l0 l2
              clear t0 t1 t2 t3 t4 t5 p0 p1
              generalize w3.heap.size = g3 at *
              cases k4
              · go_wp2_with fail
                refine (HAW.out _ (S4.out.add 25 (two (bx, bY))).below).mono ?_
                rintro e w5 ⟨rfl, hb⟩
                have B5 : Hid (Below w.heap.size w w5) := below_next (S4.out.add 25 (two (bx, bY))).below hb
                clear hb
                go_wp2_with fail
                go_ret
                exact ⟨rfl, B5.out⟩
              · go_wp2_with fail
                refine (HAW.out _ (S4.out.add 25 (two (bx, bY))).below).mono ?_
                rintro e w5 ⟨rfl, hb⟩
                have B5 : Hid (Below w.heap.size w w5) := below_next (S4.out.add 25 (two (bx, bY))).below hb
                clear hb
                go_wp2_with fail
                go_ret
                exact ⟨rfl, B5.out⟩
            · have t0 := S3.out.lays.2.1.m0
              have t1 := S3.out.lays.2.1.m1
              have t2 := S3.out.lays.2.1.m2
              have t3 := S3.out.lays.2.1.m3
              have t4 := S3.out.lays.2.1.m4
              have t5 := S3.out.lays.2.1.m5
              have p0 := S3.out.lays.2.2.2.1.p0
              have p1 := S3.out.lays.2.2.2.1.p1
              have l0 := S3.out.lays.2.1.lt
              have l2 := S3.out.lays.2.2.2.1.lt
              go_wp2_with fail
              refine (HA3.out _).mono ?_
              rintro e w4 ⟨rfl, hb⟩
              have S4 := Lib.hid ((S3.out.add 25 (two (ax, ay))).next hb)
              clear hb l0 l2
              clear t0 t1 t2 t3 t4 t5 p0 p1
              generalize w3.heap.size = g3 at *
              cases k4
              · go_wp2_with fail
                refine (HAW.out _ (S4.out.add 25 (two (bx, bY))).below).mono ?_
                rintro e w5 ⟨rfl, hb⟩
                have B5 : Hid (Below w.heap.size w w5) := below_next (S4.out.add 25 (two (bx, bY))).below hb
                clear hb
                go_wp2_with fail
                go_ret
                exact ⟨rfl, B5.out⟩
              · obtain ⟨hn1, hn2⟩ := HN.out HB.out (by simp) (by simp) (by simp) (by simp)
                have HN1 := Lib.hid hn1
                have HN2 := Lib.hid hn2
                clear hn1 hn2 HN
                have a0 := S4.out.lays.1.p0
                have a1 := S4.out.lays.1.p1
                have la := S4.out.lays.1.lt
                go_wp2_with fail
                refine (HN1.out _).mono ?_
                rintro e w' ⟨rfl, rfl⟩
                go_wp2_with fail
                refine (HN2.out _).mono ?_
                rintro e w' ⟨rfl, rfl⟩
                go_wp2_with fail
                refine (HAW.out _ (S4.out.add 25 (two (bx, bY))).below).mono ?_
                rintro e w5 ⟨rfl, hb⟩
                have B5 : Hid (Below w.heap.size w w5) := below_next (S4.out.add 25 (two (bx, bY))).below hb
                clear hb
                go_wp2_with fail
                go_ret
                exact ⟨rfl, B5.out⟩
      · go_wp2_with (go_at_call 15; refine (HAW.out _ S.out.below).mono ?_; rintro e w1 ⟨rfl, hb⟩; have B1 : Hid (Below w.heap.size w w1) := below_next S.out.below hb; clear hb)
        all_goals first
          | (go_ret; exact ⟨rfl, B1.out⟩)
          | (exfalso; omega)
theorem near_ring (oa oc ma mb mc md x y u v ta tc du dv da dc : Int) (hu : 65536 * u = ma * x + mc * y + du) (hv : 65536 * v = mb * x + md * y + dv) (ha : 65536 * ta = oa * ma + oc * mb + da) (hc : 65536 * tc = oa * mc + oc * md + dc) :
    65536 * (oa * u + oc * v - ta * x - tc * y) = oa * du + oc * dv - da * x - dc * y := by
  grind
theorem near16_d (n : Int) : ∃ d, 65536 * near16 n = n + d ∧ -32768 ≤ d ∧ d ≤ 32768 := ⟨65536 * near16 n - n, by omega, by unfold near16; omega, by unfold near16; omega⟩
/-- One coordinate. -/
theorem near_one (oa oc oe ma mb mc md me mf x y : Int) (h1 : le17 oa) (h2 : le17 oc) (hx : -32768 ≤ x ∧ x ≤ 32768) (hy : -32768 ≤ y ∧ y ≤ 32768) :
    (near16 (oa * (near16 (ma * x + mc * y) + me) + oc * (near16 (mb * x + md * y) + mf)) + oe) - (near16 (near16 (oa * ma + oc * mb) * x + near16 (oa * mc + oc * md) * y) + (near16 (oa * me + oc * mf) + oe)) ≤ 6 ∧
    -6 ≤ (near16 (oa * (near16 (ma * x + mc * y) + me) + oc * (near16 (mb * x + md * y) + mf)) + oe) - (near16 (near16 (oa * ma + oc * mb) * x + near16 (oa * mc + oc * md) * y) + (near16 (oa * me + oc * mf) + oe)) := by
  obtain ⟨du, hu, u1, u2⟩ := near16_d (ma * x + mc * y)
  obtain ⟨dv, hv, v1, v2⟩ := near16_d (mb * x + md * y)
  obtain ⟨da, ha, a1, a2⟩ := near16_d (oa * ma + oc * mb)
  obtain ⟨dc, hc, c1, c2⟩ := near16_d (oa * mc + oc * md)
  have R := near_ring oa oc ma mb mc md x y _ _ _ _ du dv da dc hu hv ha hc
  generalize near16 (ma * x + mc * y) = u at *
  generalize near16 (mb * x + md * y) = v at *
  generalize near16 (oa * ma + oc * mb) = ta at *
  generalize near16 (oa * mc + oc * md) = tc at *
  obtain ⟨d1, e1, p1, q1⟩ := near16_d (oa * (u + me) + oc * (v + mf))
  obtain ⟨d2, e2, p2, q2⟩ := near16_d (ta * x + tc * y)
  obtain ⟨d3, e3, p3, q3⟩ := near16_d (oa * me + oc * mf)
  generalize near16 (oa * (u + me) + oc * (v + mf)) = A at *
  generalize near16 (ta * x + tc * y) = B at *
  generalize near16 (oa * me + oc * mf) = C at *
  have b1 := prod_in oa du 131072 32768 h1 ⟨u1, u2⟩
  have b2 := prod_in oc dv 131072 32768 h2 ⟨v1, v2⟩
  have b3 := prod_in da x 32768 32768 ⟨a1, a2⟩ hx
  have b4 := prod_in dc y 32768 32768 ⟨c1, c2⟩ hy
  rw [Int.mul_add, Int.mul_add] at e1
  clear hu hv ha hc
  generalize oa * du = z1 at *
  generalize oc * dv = z2 at *
  generalize da * x = z3 at *
  generalize dc * y = z4 at *
  generalize oa * u = z5 at *
  generalize oc * v = z6 at *
  generalize ta * x = z7 at *
  generalize tc * y = z8 at *
  generalize oa * me = z9 at *
  generalize oc * mf = z0 at *
  omega
theorem near_law (m o : Mx) (x y : Int) (w : World) (hr : Rd w) : Calls Tryd.prog 5 #[.agg (six m), .agg (six o), .agg #[.int .i64 x, .int .i64 y]] w fun e w' => e = .returned (.bool true) ∧ Below w.heap.size w w' := by
  refine near_walk m o (if thOk m o then thenI m o else zeroM) x y (if apOk m x y then apX m x y else 0) (if apOk m x y then apY m x y else 0) _ _ _ _ w (thOk m o) (apOk m x y) _ _ (Lib.hid (then_c m o)) (Lib.hid (apply_c m x y)) (Lib.hid (apply_c o _ _)) (Lib.hid (apply_c _ x y)) (Lib.hid fun h e1 e2 e3 e4 => ?_) (Lib.hid fun w' hb => awake4_c w' (hr.on hb))
  simp only [e1, e2, if_true] at e3 e4 ⊢
  simp only [e3, e4, if_true]
  have n1 := near_one o.a o.c o.e m.a m.b m.c m.d m.e m.f x y h.oa h.oc h.hx h.hy
  have n2 := near_one o.b o.d o.f m.a m.b m.c m.d m.e m.f x y h.ob h.od h.hx h.hy
  have k1 : apX o (apX m x y) (apY m x y) - apX (thenI m o) x y ≤ 6 ∧ -6 ≤ apX o (apX m x y) (apY m x y) - apX (thenI m o) x y := n1
  have k2 : apY o (apX m x y) (apY m x y) - apY (thenI m o) x y ≤ 6 ∧ -6 ≤ apY o (apX m x y) (apY m x y) - apY (thenI m o) x y := n2
  generalize apX o (apX m x y) (apY m x y) = a1 at *
  generalize apY o (apX m x y) (apY m x y) = a2 at *
  generalize apX (thenI m o) x y = c1 at *
  generalize apY (thenI m o) x y = c2 at *
  refine ⟨fun w => ?_, fun w => ?_⟩
  · refine (nearFn_c a1 c1 (by omega) (by omega) w).mono fun e w' ⟨he, hw⟩ => ⟨?_, hw⟩
    rw [he, decide_eq_true (show a1 - c1 ≤ 6 by omega), decide_eq_true (show c1 - a1 ≤ 6 by omega)]
    rfl
  · refine (nearFn_c a2 c2 (by omega) (by omega) w).mono fun e w' ⟨he, hw⟩ => ⟨?_, hw⟩
    rw [he, decide_eq_true (show a2 - c2 ≤ 6 by omega), decide_eq_true (show c2 - a2 ≤ 6 by omega)]
    rfl
end Go.Proofs.YticoklfgmflidaaDoor
