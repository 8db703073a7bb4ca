/- The law AffineDets. -/
import Derived.Test.YticoklfgmflidaaDoorAu
import Derived.Test.YticoklfgmflidaaDoorAo
namespace Go.Proofs.YticoklfgmflidaaDoor
open Go.RowKit

structure Bd8 (a0 a1 a2 a3 b0 b1 b2 b3 : Int) : Prop where
  a0 : le200 a0
  a1 : le200 a1
  a2 : le200 a2
  a3 : le200 a3
  b0 : le200 b0
  b1 : le200 b1
  b2 : le200 b2
  b3 : le200 b3
def upTo4 (l : List Int) (k : Nat) : Prop := ∀ j e, j < k → l[j]? = some e → le200 e
abbrev ints4 (a0 a1 a2 a3 : Int) : Array Value := #[.int .i64 a0, .int .i64 a1, .int .i64 a2, .int .i64 a3]
theorem ints4_at (a0 a1 a2 a3 : Int) (k : Nat) (e : Int) (h : [a0, a1, a2, a3][k]? = some e) : (ints4 a0 a1 a2 a3)[k]? = some (.int .i64 e) := by
  have hk : k < 4 := (List.getElem?_eq_some_iff.1 h).1
  match k, hk with
  | 0, _ => simpa using h
  | 1, _ => simpa using h
  | 2, _ => simpa using h
  | 3, _ => simpa using h
theorem upTo4.next {l : List Int} {k : Nat} {e : Int} (h : upTo4 l k) (he : l[k]? = some e) (hl : le200 e) : upTo4 l (k + 1) := fun j e' hj hj' => by
  by_cases hjk : j = k
  · subst hjk
    have := he.symm.trans hj'
    simp only [Option.some.injEq] at this
    subst this
    exact hl
  · exact h j e' (by omega) hj'
theorem Bd8.of {a0 a1 a2 a3 b0 b1 b2 b3 : Int} (h : upTo4 [a0, a1, a2, a3] 4) (k : upTo4 [b0, b1, b2, b3] 4) : Bd8 a0 a1 a2 a3 b0 b1 b2 b3 :=
  ⟨h 0 _ (by omega) rfl, h 1 _ (by omega) rfl, h 2 _ (by omega) rfl, h 3 _ (by omega) rfl, k 0 _ (by omega) rfl, k 1 _ (by omega) rfl, k 2 _ (by omega) rfl, k 3 _ (by omega) rfl⟩
/-- What the calls tell, once all numbers are in their bounds. -/
structure DetCalls (a0 a1 a2 a3 b0 b1 b2 b3 : Int) (T : Mx) (q : Bool) (r1 l1 r2 l2 r3 l3 r4 l4 r5 l5 r6 l6 X Y : Int) : Prop where
  th : (∀ w, Calls Tryd.prog 16 #[.agg #[.int .i64 (a0 * 65536), .int .i64 (a1 * 65536), .int .i64 (a2 * 65536), .int .i64 (a3 * 65536), .int .i64 0, .int .i64 0], .agg #[.int .i64 (b0 * 65536), .int .i64 (b1 * 65536), .int .i64 (b2 * 65536), .int .i64 (b3 * 65536), .int .i64 0, .int .i64 0]] w fun e w' => e = .returned (.tuple #[.agg (six (if q then T else zeroM)), .int .i64 (if q then 0 else 10)]) ∧ Below w.heap.size w w')
  d1 : (∀ w, Calls Tryd.prog 27 #[.agg #[.int .i64 (a0 * 65536), .int .i64 (a1 * 65536), .int .i64 (a2 * 65536), .int .i64 (a3 * 65536), .int .i64 0, .int .i64 0]] w fun e w' => e = .returned (.agg #[.int .i64 r1, .int .u64 l1]) ∧ Below w.heap.size w w')
  s1 : (∀ w, Calls Tryd.prog 28 #[.agg #[.int .i64 r1, .int .u64 l1], .int .i64 32] w fun e w' => e = .returned (.agg #[.int .i64 r2, .int .u64 l2]) ∧ Below w.heap.size w w')
  i1 : (∀ w, Calls Tryd.prog 29 #[.agg #[.int .i64 r2, .int .u64 l2]] w fun e w' => e = .returned (.tuple #[.int .i64 X, .bool true]) ∧ Below w.heap.size w w')
  d2 : (∀ w, Calls Tryd.prog 27 #[.agg #[.int .i64 (b0 * 65536), .int .i64 (b1 * 65536), .int .i64 (b2 * 65536), .int .i64 (b3 * 65536), .int .i64 0, .int .i64 0]] w fun e w' => e = .returned (.agg #[.int .i64 r3, .int .u64 l3]) ∧ Below w.heap.size w w')
  s2 : (∀ w, Calls Tryd.prog 28 #[.agg #[.int .i64 r3, .int .u64 l3], .int .i64 32] w fun e w' => e = .returned (.agg #[.int .i64 r4, .int .u64 l4]) ∧ Below w.heap.size w w')
  i2 : (∀ w, Calls Tryd.prog 29 #[.agg #[.int .i64 r4, .int .u64 l4]] w fun e w' => e = .returned (.tuple #[.int .i64 Y, .bool true]) ∧ Below w.heap.size w w')
  dt : (∀ w, Calls Tryd.prog 27 #[.agg #[.int .i64 T.a, .int .i64 T.b, .int .i64 T.c, .int .i64 T.d, .int .i64 T.e, .int .i64 T.f]] w fun e w' => e = .returned (.agg #[.int .i64 r5, .int .u64 l5]) ∧ Below w.heap.size w w')
  st : (∀ w, Calls Tryd.prog 28 #[.agg #[.int .i64 r5, .int .u64 l5], .int .i64 32] w fun e w' => e = .returned (.agg #[.int .i64 r6, .int .u64 l6]) ∧ Below w.heap.size w w')
  mx : (∀ w, Calls Tryd.prog 30 #[.int .i64 X, .int .i64 Y] w fun e w' => e = .returned (.agg #[.int .i64 r6, .int .u64 l6]) ∧ Below w.heap.size w w')
  md : (∀ w, Calls Tryd.prog 30 #[.int .i64 (a0 * a3 - a1 * a2), .int .i64 4294967296] w fun e w' => e = .returned (.agg #[.int .i64 r1, .int .u64 l1]) ∧ Below w.heap.size w w')
set_option maxHeartbeats 8000000 in
set_option maxRecDepth 100000 in
theorem dets_walk (a0 a1 a2 a3 b0 b1 b2 b3 : Int) (T : Mx) (q : Bool) (r1 l1 r2 l2 r3 l3 r4 l4 r5 l5 r6 l6 X Y : Int) (w : World)
    (HC : Hid (Bd8 a0 a1 a2 a3 b0 b1 b2 b3 → DetCalls a0 a1 a2 a3 b0 b1 b2 b3 T q r1 l1 r2 l2 r3 l3 r4 l4 r5 l5 r6 l6 X Y))
    (HAW : Hid (∀ w', Below w.heap.size w w' → Calls Tryd.prog 15 #[] w' fun e w'' => e = .returned (.bool true) ∧ Below w'.heap.size w' w'')) :
    Calls Tryd.prog 8 #[.agg #[.int .i64 a0, .int .i64 a1, .int .i64 a2, .int .i64 a3], .agg #[.int .i64 b0, .int .i64 b1, .int .i64 b2, .int .i64 b3]] w fun e w' => e = .returned (.bool true) ∧ Below w.heap.size w w' := by
  have S0 : Hid (Mem w ((((w.alloc (.cells (ints4 a0 a1 a2 a3) 60)).alloc (.cells (ints4 b0 b1 b2 b3) 60)).alloc (.cells (six zeroM) 23)).alloc (.cells (six zeroM) 23)) [(w.heap.size + 3, 23, six zeroM), (w.heap.size + 2, 23, six zeroM), (w.heap.size + 1, 60, ints4 b0 b1 b2 b3), (w.heap.size, 60, ints4 a0 a1 a2 a3)]) := ((((Mem.refl w).add _ _).addAt _ _ _ (by simp)).addAt _ _ _ (by simp)).addAt _ _ _ (by simp)
  obtain ⟨n, hn⟩ : ∃ n, w.heap.size = n := ⟨_, rfl⟩
  have hn' : w.heap.size ≤ n := by omega
  rw [hn] at S0
  go_enter Tryd.func8, Tryd.ntmps8
  go_wp2_with fail
  go_loopw [14] (fun i wr => ∃ k : Nat, k ≤ 4 ∧ i = .int .i64 k ∧ Hid (Mem w wr [(n + 3, 23, six zeroM), (n + 2, 23, six zeroM), (n + 1, 60, ints4 b0 b1 b2 b3), (n, 60, ints4 a0 a1 a2 a3)] ∧ upTo4 [a0, a1, a2, a3] k ∧ upTo4 [b0, b1, b2, b3] k)) (fun i _ => 4 - (intOf i).toNat)
  case atStart => exact ⟨0, by omega, rfl, S0.out, fun j e h => absurd h (by omega), fun j e h => absurd h (by omega)⟩
  case round =>
    obtain ⟨k, hk, rfl, hw⟩ := hrel
    by_cases hlt : k < 4
    · have hd : decide ((k : Int) < 4) = true := by simp; omega
      have hlt' : (k : Int) < 4 := by omega
      obtain ⟨e1, he1⟩ : ∃ e, [a0, a1, a2, a3][k]? = some e := ⟨_, List.getElem?_eq_getElem (by simpa using hlt)⟩
      obtain ⟨e2, he2⟩ : ∃ e, [b0, b1, b2, b3][k]? = some e := ⟨_, List.getElem?_eq_getElem (by simpa using hlt)⟩
      have c1 : wr.cell? ⟨n, k, none⟩ = some (.int .i64 e1) := (hw.out.1.lays.2.2.2.1.cell k).trans (ints4_at _ _ _ _ k e1 he1)
      have c2 : wr.cell? ⟨n + 1, k, none⟩ = some (.int .i64 e2) := (hw.out.1.lays.2.2.1.cell k).trans (ints4_at _ _ _ _ k e2 he2)
      have HE1 := Lib.hid he1
      have HE2 := Lib.hid he2
      clear he1 he2
      go_wp2_with (go_at_call 15; refine (HAW.out _ hw.out.1.below).mono ?_; rintro e w1 ⟨rfl, hb⟩; have B1 : Hid (Below w.heap.size w w1) := below_next hw.out.1.below hb; clear hb)
      all_goals first
        | (go_ret; exact ⟨rfl, B1.out⟩)
        | exact ⟨⟨k + 1, by omega, by go_num, hw.out.1, hw.out.2.1.next HE1.out ⟨by omega, by omega⟩, hw.out.2.2.next HE2.out ⟨by omega, by omega⟩⟩, by simp [intOf]; omega⟩
    · have hd : decide ((k : Int) < 4) = false := by simp; omega
      have hlt' : ¬ (k : Int) < 4 := by omega
      have hk4 : k = 4 := by omega
      have S := Lib.hid hw.out.1
      have hB : Bd8 a0 a1 a2 a3 b0 b1 b2 b3 := Bd8.of (hk4 ▸ hw.out.2.1) (hk4 ▸ hw.out.2.2)
      have HD := Lib.hid (HC.out hB)
      have p1 := prod_in a0 a3 200 200 hB.a0 hB.a3
      have p2 := prod_in a1 a2 200 200 hB.a1 hB.a2
      obtain ⟨⟨x0, x0'⟩, ⟨x1, x1'⟩, ⟨x2, x2'⟩, ⟨x3, x3'⟩, ⟨y0, y0'⟩, ⟨y1, y1'⟩, ⟨y2, y2'⟩, ⟨y3, y3'⟩⟩ := hB
      have e1 : IntKind.i64.wrap (a0 * a3) = a0 * a3 := by rw [IntKind.wrap_i64]; omega
      have e2 : IntKind.i64.wrap (a1 * a2) = a1 * a2 := by rw [IntKind.wrap_i64]; omega
      have e3 : IntKind.i64.wrap (a0 * a3 - a1 * a2) = a0 * a3 - a1 * a2 := by rw [IntKind.wrap_i64]; omega
      have E := Lib.hid (And.intro e1 (And.intro e2 e3))
      clear hw hk4 HC p1 p2 e1 e2 e3
      have c0 := S.out.lays.2.2.2.1.cell 0
      have c1 := S.out.lays.2.2.2.1.cell 1
      have c2 := S.out.lays.2.2.2.1.cell 2
      have c3 := S.out.lays.2.2.2.1.cell 3
      have d0 := S.out.lays.2.2.1.cell 0
      have d1 := S.out.lays.2.2.1.cell 1
      have d2 := S.out.lays.2.2.1.cell 2
      have d3 := S.out.lays.2.2.1.cell 3
      simp at c0 c1 c2 c3 d0 d1 d2 d3
      have z0 := S.out.lays.2.1.m0
      have z1 := S.out.lays.2.1.m1
      have z2 := S.out.lays.2.1.m2
      have z3 := S.out.lays.2.1.m3
      have z4 := S.out.lays.2.1.m4
      have z5 := S.out.lays.2.1.m5
      have f0 := S.out.lays.2.1.free 0
      have f1 := S.out.lays.2.1.free 1
      have f2 := S.out.lays.2.1.free 2
      have f3 := S.out.lays.2.1.free 3
      have f4 := S.out.lays.2.1.free 4
      have f5 := S.out.lays.2.1.free 5
      simp only at z0 z1 z2 z3 z4 z5
      go_upto_region 9 with fail
      have T1 : Hid (Mem w ((((((wr.setCell ⟨n + 1 + 1, 0, none⟩ (.int .i64 (a0 * 65536))).setCell ⟨n + 1 + 1, 1, none⟩ (.int .i64 (a1 * 65536))).setCell ⟨n + 1 + 1, 2, none⟩ (.int .i64 (a2 * 65536))).setCell ⟨n + 1 + 1, 3, none⟩ (.int .i64 (a3 * 65536))).setCell ⟨n + 1 + 1, 4, none⟩ (.int .i64 0)).setCell ⟨n + 1 + 1, 5, none⟩ (.int .i64 0)) [(n + 3, 23, six zeroM), (n + 2, 23, six (shM a0 a1 a2 a3)), (n + 1, 60, ints4 b0 b1 b2 b3), (n, 60, ints4 a0 a1 a2 a3)]) := ⟨below_six S.out.below (by omega) _ _ _ _ _ _, S.out.lays.1.otherM (by omega) _ _ _ _ _ _, Blk.setM S.out.lays.2.1 (shM a0 a1 a2 a3), S.out.lays.2.2.1.otherM (by omega) _ _ _ _ _ _, S.out.lays.2.2.2.1.otherM (by omega) _ _ _ _ _ _, trivial⟩
      generalize World.setCell _ _ _ = W1 at T1 ⊢
      clear c0 c1 c2 c3 d0 d1 d2 d3 z0 z1 z2 z3 z4 z5 f0 f1 f2 f3 f4 f5 S
      have d0 := T1.out.lays.2.2.1.cell 0
      have d1 := T1.out.lays.2.2.1.cell 1
      have d2 := T1.out.lays.2.2.1.cell 2
      have d3 := T1.out.lays.2.2.1.cell 3
      simp at d0 d1 d2 d3
      have z0 := T1.out.lays.1.m0
      have z1 := T1.out.lays.1.m1
      have z2 := T1.out.lays.1.m2
      have z3 := T1.out.lays.1.m3
      have z4 := T1.out.lays.1.m4
      have z5 := T1.out.lays.1.m5
      have f0 := T1.out.lays.1.free 0
      have f1 := T1.out.lays.1.free 1
      have f2 := T1.out.lays.1.free 2
      have f3 := T1.out.lays.1.free 3
      have f4 := T1.out.lays.1.free 4
      have f5 := T1.out.lays.1.free 5
      simp only at z0 z1 z2 z3 z4 z5
      go_upto_region 10 with fail
      have T2 : Hid (Mem w ((((((W1.setCell ⟨n + 1 + 1 + 1, 0, none⟩ (.int .i64 (b0 * 65536))).setCell ⟨n + 1 + 1 + 1, 1, none⟩ (.int .i64 (b1 * 65536))).setCell ⟨n + 1 + 1 + 1, 2, none⟩ (.int .i64 (b2 * 65536))).setCell ⟨n + 1 + 1 + 1, 3, none⟩ (.int .i64 (b3 * 65536))).setCell ⟨n + 1 + 1 + 1, 4, none⟩ (.int .i64 0)).setCell ⟨n + 1 + 1 + 1, 5, none⟩ (.int .i64 0)) [(n + 3, 23, six (shM b0 b1 b2 b3)), (n + 2, 23, six (shM a0 a1 a2 a3)), (n + 1, 60, ints4 b0 b1 b2 b3), (n, 60, ints4 a0 a1 a2 a3)]) := ⟨below_six T1.out.below (by omega) _ _ _ _ _ _, Blk.setM T1.out.lays.1 (shM b0 b1 b2 b3), T1.out.lays.2.1.otherM (by omega) _ _ _ _ _ _, T1.out.lays.2.2.1.otherM (by omega) _ _ _ _ _ _, T1.out.lays.2.2.2.1.otherM (by omega) _ _ _ _ _ _, trivial⟩
      generalize World.setCell _ _ _ = W2 at T2 ⊢
      clear d0 d1 d2 d3 z0 z1 z2 z3 z4 z5 f0 f1 f2 f3 f4 f5 T1 x0 x0' x1 x1' x2 x2' x3 x3' y0 y0' y1 y1' y2 y2' y3 y3'
      have HTh := Lib.hid HD.out.th
      have H1 := Lib.hid HD.out.d1
      have H2 := Lib.hid HD.out.s1
      have H3 := Lib.hid HD.out.i1
      have H4 := Lib.hid HD.out.d2
      have H5 := Lib.hid HD.out.s2
      have H6 := Lib.hid HD.out.i2
      have H7 := Lib.hid HD.out.dt
      have H8 := Lib.hid HD.out.st
      have H9 := Lib.hid HD.out.mx
      have H10 := Lib.hid HD.out.md
      clear HD
      have m0 := T2.out.lays.2.1.m0
      have m1 := T2.out.lays.2.1.m1
      have m2 := T2.out.lays.2.1.m2
      have m3 := T2.out.lays.2.1.m3
      have m4 := T2.out.lays.2.1.m4
      have m5 := T2.out.lays.2.1.m5
      have o0 := T2.out.lays.1.m0
      have o1 := T2.out.lays.1.m1
      have o2 := T2.out.lays.1.m2
      have o3 := T2.out.lays.1.m3
      have o4 := T2.out.lays.1.m4
      have o5 := T2.out.lays.1.m5
      simp only [shM] at m0 m1 m2 m3 m4 m5 o0 o1 o2 o3 o4 o5
      cases q
      · go_wp2_with fail
        refine (HTh.out _).mono ?_
        rintro e w1 ⟨rfl, hb⟩
        have S1 := Lib.hid (T2.out.next hb)
        clear hb
        clear m0 m1 m2 m3 m4 m5 o0 o1 o2 o3 o4 o5
        go_wp2_with fail
        refine (HAW.out _ (S1.out.add 23 (six zeroM)).below).mono ?_
        rintro e w2 ⟨rfl, hb⟩
        have B2 : Hid (Below w.heap.size w w2) := below_next (S1.out.add 23 (six zeroM)).below hb
        clear hb
        go_wp2_with fail
        go_ret
        exact ⟨rfl, B2.out⟩
      · go_wp2_with fail
        refine (HTh.out _).mono ?_
        rintro e w1 ⟨rfl, hb⟩
        have S1 := Lib.hid (T2.out.next hb)
        clear hb
        clear m0 m1 m2 m3 m4 m5 o0 o1 o2 o3 o4 o5
        have m0 := S1.out.lays.2.1.m0
        have m1 := S1.out.lays.2.1.m1
        have m2 := S1.out.lays.2.1.m2
        have m3 := S1.out.lays.2.1.m3
        have m4 := S1.out.lays.2.1.m4
        have m5 := S1.out.lays.2.1.m5
        simp only [shM] at m0 m1 m2 m3 m4 m5
        have lt := S1.out.lays.2.1.lt
        go_wp2_with fail
        refine (H1.out _).mono ?_
        rintro e w2 ⟨rfl, hb⟩
        have S2 := Lib.hid ((S1.out.add 23 (six T)).next hb)
        clear hb lt
        clear m0 m1 m2 m3 m4 m5
        generalize w1.heap.size = g at *
        go_wp2_with fail
        refine (H2.out _).mono ?_
        rintro e w3 ⟨rfl, hb⟩
        have S3 := Lib.hid (S2.out.next hb)
        clear hb
        go_wp2_with fail
        refine (H3.out _).mono ?_
        rintro e w4 ⟨rfl, hb⟩
        have S4 := Lib.hid (S3.out.next hb)
        clear hb
        have o0 := S4.out.lays.2.1.m0
        have o1 := S4.out.lays.2.1.m1
        have o2 := S4.out.lays.2.1.m2
        have o3 := S4.out.lays.2.1.m3
        have o4 := S4.out.lays.2.1.m4
        have o5 := S4.out.lays.2.1.m5
        simp only [shM] at o0 o1 o2 o3 o4 o5
        go_wp2_with fail
        refine (H4.out _).mono ?_
        rintro e w5 ⟨rfl, hb⟩
        have S5 := Lib.hid (S4.out.next hb)
        clear hb
        clear o0 o1 o2 o3 o4 o5
        go_wp2_with fail
        refine (H5.out _).mono ?_
        rintro e w6 ⟨rfl, hb⟩
        have S6 := Lib.hid (S5.out.next hb)
        clear hb
        go_wp2_with fail
        refine (H6.out _).mono ?_
        rintro e w7 ⟨rfl, hb⟩
        have S7 := Lib.hid (S6.out.next hb)
        clear hb
        obtain ⟨e1, e2, e3⟩ := E.out
        go_wp2_with fail
        have HV : Hid (∀ w', Out w7 w' → (w'.cell? ⟨g, 0, none⟩ = some (.int .i64 T.a) ∧ w'.cell? ⟨g, 1, none⟩ = some (.int .i64 T.b) ∧ w'.cell? ⟨g, 2, none⟩ = some (.int .i64 T.c) ∧ w'.cell? ⟨g, 3, none⟩ = some (.int .i64 T.d) ∧ w'.cell? ⟨g, 4, none⟩ = some (.int .i64 T.e) ∧ w'.cell? ⟨g, 5, none⟩ = some (.int .i64 T.f)) ∧ (w'.cell? ⟨n + 2, 0, none⟩ = some (.int .i64 (a0 * 65536)) ∧ w'.cell? ⟨n + 2, 1, none⟩ = some (.int .i64 (a1 * 65536)) ∧ w'.cell? ⟨n + 2, 2, none⟩ = some (.int .i64 (a2 * 65536)) ∧ w'.cell? ⟨n + 2, 3, none⟩ = some (.int .i64 (a3 * 65536)) ∧ w'.cell? ⟨n + 2, 4, none⟩ = some (.int .i64 0) ∧ w'.cell? ⟨n + 2, 5, none⟩ = some (.int .i64 0)) ∧ w'.cell? ⟨n, 0, none⟩ = some (.int .i64 a0) ∧ w'.cell? ⟨n, 1, none⟩ = some (.int .i64 a1) ∧ w'.cell? ⟨n, 2, none⟩ = some (.int .i64 a2) ∧ w'.cell? ⟨n, 3, none⟩ = some (.int .i64 a3)) := fun w' hw' => by
          have S := S7.out.next hw'
          exact ⟨⟨S.lays.1.m0, S.lays.1.m1, S.lays.1.m2, S.lays.1.m3, S.lays.1.m4, S.lays.1.m5⟩, ⟨S.lays.2.2.1.m0, S.lays.2.2.1.m1, S.lays.2.2.1.m2, S.lays.2.2.1.m3, S.lays.2.2.1.m4, S.lays.2.2.1.m5⟩, S.lays.2.2.2.2.1.cell 0, S.lays.2.2.2.2.1.cell 1, S.lays.2.2.2.2.1.cell 2, S.lays.2.2.2.2.1.cell 3⟩
        refine wp_region_quiet (C := Out w7) (by kernel_rfl) (by kernel_rfl) ⟨rfl, rfl, rfl, Nat.le_refl _, fun _ _ => rfl⟩ ?_
        refine BigFrame.wpQuiet_want rfl (fun K hK => ?_)
        refine quiet_val (.agg #[.int .i64 T.a, .int .i64 T.b, .int .i64 T.c, .int .i64 T.d, .int .i64 T.e, .int .i64 T.f]) (fun w' hw' => by obtain ⟨⟨t0, t1, t2, t3, t4, t5⟩, ⟨s0, s1, s2, s3, s4, s5⟩, c0, c1, c2, c3⟩ := HV.out w' hw'; go_simp) (hK _ ?_)
        clear hK K
        simp only [Act.put, List.setIfInBounds_toArray, List.set_cons_zero, List.set_cons_succ]
        refine BigFrame.wpQuiet_want rfl (fun K hK => ?_)
        refine quiet_call 27 #[.agg #[.int .i64 T.a, .int .i64 T.b, .int .i64 T.c, .int .i64 T.d, .int .i64 T.e, .int .i64 T.f]] (.agg #[.int .i64 r5, .int .u64 l5]) (fun w' _ => by go_simp) (fun w' hw' => Calls.out hw' (H7.out _)) (hK _ ?_)
        clear hK K
        simp only [Act.put, List.setIfInBounds_toArray, List.set_cons_zero, List.set_cons_succ]
        refine BigFrame.wpQuiet_want rfl (fun K hK => ?_)
        refine quiet_call 28 #[.agg #[.int .i64 r5, .int .u64 l5], .int .i64 32] (.agg #[.int .i64 r6, .int .u64 l6]) (fun w' _ => by go_simp) (fun w' hw' => Calls.out hw' (H8.out _)) (hK _ ?_)
        clear hK K
        simp only [Act.put, List.setIfInBounds_toArray, List.set_cons_zero, List.set_cons_succ]
        refine BigFrame.wpQuiet_want rfl (fun K hK => ?_)
        refine quiet_val (.int .i64 X) (fun w' hw' => by go_simp) (hK _ ?_)
        clear hK K
        simp only [Act.put, List.setIfInBounds_toArray, List.set_cons_zero, List.set_cons_succ]
        refine BigFrame.wpQuiet_want rfl (fun K hK => ?_)
        refine quiet_val (.int .i64 Y) (fun w' hw' => by go_simp) (hK _ ?_)
        clear hK K
        simp only [Act.put, List.setIfInBounds_toArray, List.set_cons_zero, List.set_cons_succ]
        refine BigFrame.wpQuiet_want rfl (fun K hK => ?_)
        refine quiet_call 30 #[.int .i64 X, .int .i64 Y] (.agg #[.int .i64 r6, .int .u64 l6]) (fun w' _ => by go_simp) (fun w' hw' => Calls.out hw' (H9.out _)) (hK _ ?_)
        clear hK K
        simp only [Act.put, List.setIfInBounds_toArray, List.set_cons_zero, List.set_cons_succ]
        refine BigFrame.wpQuiet_want rfl (fun K hK => ?_)
        refine quiet_val (.bool true) (fun w' hw' => by go_simp) (hK _ ?_)
        clear hK K
        simp only [Act.put, List.setIfInBounds_toArray, List.set_cons_zero, List.set_cons_succ]
        refine BigFrame.wpQuiet_want rfl (fun K hK => ?_)
        refine quiet_val (.bool true) (fun w' hw' => by go_simp) (hK _ ?_)
        clear hK K
        simp only [Act.put, List.setIfInBounds_toArray, List.set_cons_zero, List.set_cons_succ]
        refine BigFrame.wpQuiet_want rfl (fun K hK => ?_)
        refine quiet_val (.agg #[.int .i64 (a0 * 65536), .int .i64 (a1 * 65536), .int .i64 (a2 * 65536), .int .i64 (a3 * 65536), .int .i64 0, .int .i64 0]) (fun w' hw' => by obtain ⟨⟨t0, t1, t2, t3, t4, t5⟩, ⟨s0, s1, s2, s3, s4, s5⟩, c0, c1, c2, c3⟩ := HV.out w' hw'; go_simp) (hK _ ?_)
        clear hK K
        simp only [Act.put, List.setIfInBounds_toArray, List.set_cons_zero, List.set_cons_succ]
        refine BigFrame.wpQuiet_want rfl (fun K hK => ?_)
        refine quiet_call 27 #[.agg #[.int .i64 (a0 * 65536), .int .i64 (a1 * 65536), .int .i64 (a2 * 65536), .int .i64 (a3 * 65536), .int .i64 0, .int .i64 0]] (.agg #[.int .i64 r1, .int .u64 l1]) (fun w' _ => by go_simp) (fun w' hw' => Calls.out hw' (H1.out _)) (hK _ ?_)
        clear hK K
        simp only [Act.put, List.setIfInBounds_toArray, List.set_cons_zero, List.set_cons_succ]
        refine BigFrame.wpQuiet_want rfl (fun K hK => ?_)
        refine quiet_val (.pointer (some ⟨n, 0, none⟩)) (fun w' hw' => by go_simp) (hK _ ?_)
        clear hK K
        simp only [Act.put, List.setIfInBounds_toArray, List.set_cons_zero, List.set_cons_succ]
        refine BigFrame.wpQuiet_want rfl (fun K hK => ?_)
        refine quiet_val (.int .i64 a0) (fun w' hw' => by obtain ⟨⟨t0, t1, t2, t3, t4, t5⟩, ⟨s0, s1, s2, s3, s4, s5⟩, c0, c1, c2, c3⟩ := HV.out w' hw'; go_simp) (hK _ ?_)
        clear hK K
        simp only [Act.put, List.setIfInBounds_toArray, List.set_cons_zero, List.set_cons_succ]
        refine BigFrame.wpQuiet_want rfl (fun K hK => ?_)
        refine quiet_val (.pointer (some ⟨n, 3, none⟩)) (fun w' hw' => by go_simp) (hK _ ?_)
        clear hK K
        simp only [Act.put, List.setIfInBounds_toArray, List.set_cons_zero, List.set_cons_succ]
        refine BigFrame.wpQuiet_want rfl (fun K hK => ?_)
        refine quiet_val (.int .i64 a3) (fun w' hw' => by obtain ⟨⟨t0, t1, t2, t3, t4, t5⟩, ⟨s0, s1, s2, s3, s4, s5⟩, c0, c1, c2, c3⟩ := HV.out w' hw'; go_simp) (hK _ ?_)
        clear hK K
        simp only [Act.put, List.setIfInBounds_toArray, List.set_cons_zero, List.set_cons_succ]
        refine BigFrame.wpQuiet_want rfl (fun K hK => ?_)
        refine quiet_val (.int .i64 (a0 * a3)) (fun w' hw' => by go_simp) (hK _ ?_)
        clear hK K
        simp only [Act.put, List.setIfInBounds_toArray, List.set_cons_zero, List.set_cons_succ]
        refine BigFrame.wpQuiet_want rfl (fun K hK => ?_)
        refine quiet_val (.pointer (some ⟨n, 1, none⟩)) (fun w' hw' => by go_simp) (hK _ ?_)
        clear hK K
        simp only [Act.put, List.setIfInBounds_toArray, List.set_cons_zero, List.set_cons_succ]
        refine BigFrame.wpQuiet_want rfl (fun K hK => ?_)
        refine quiet_val (.int .i64 a1) (fun w' hw' => by obtain ⟨⟨t0, t1, t2, t3, t4, t5⟩, ⟨s0, s1, s2, s3, s4, s5⟩, c0, c1, c2, c3⟩ := HV.out w' hw'; go_simp) (hK _ ?_)
        clear hK K
        simp only [Act.put, List.setIfInBounds_toArray, List.set_cons_zero, List.set_cons_succ]
        refine BigFrame.wpQuiet_want rfl (fun K hK => ?_)
        refine quiet_val (.pointer (some ⟨n, 2, none⟩)) (fun w' hw' => by go_simp) (hK _ ?_)
        clear hK K
        simp only [Act.put, List.setIfInBounds_toArray, List.set_cons_zero, List.set_cons_succ]
        refine BigFrame.wpQuiet_want rfl (fun K hK => ?_)
        refine quiet_val (.int .i64 a2) (fun w' hw' => by obtain ⟨⟨t0, t1, t2, t3, t4, t5⟩, ⟨s0, s1, s2, s3, s4, s5⟩, c0, c1, c2, c3⟩ := HV.out w' hw'; go_simp) (hK _ ?_)
        clear hK K
        simp only [Act.put, List.setIfInBounds_toArray, List.set_cons_zero, List.set_cons_succ]
        refine BigFrame.wpQuiet_want rfl (fun K hK => ?_)
        refine quiet_val (.int .i64 (a1 * a2)) (fun w' hw' => by go_simp) (hK _ ?_)
        clear hK K
        simp only [Act.put, List.setIfInBounds_toArray, List.set_cons_zero, List.set_cons_succ]
        refine BigFrame.wpQuiet_want rfl (fun K hK => ?_)
        refine quiet_val (.int .i64 ((a0 * a3) - (a1 * a2))) (fun w' hw' => by go_simp) (hK _ ?_)
        clear hK K
        simp only [Act.put, List.setIfInBounds_toArray, List.set_cons_zero, List.set_cons_succ]
        refine BigFrame.wpQuiet_want rfl (fun K hK => ?_)
        refine quiet_call 30 #[.int .i64 ((a0 * a3) - (a1 * a2)), .int .i64 4294967296] (.agg #[.int .i64 r1, .int .u64 l1]) (fun w' _ => by go_simp) (fun w' hw' => Calls.out hw' (H10.out _)) (hK _ ?_)
        clear hK K
        simp only [Act.put, List.setIfInBounds_toArray, List.set_cons_zero, List.set_cons_succ]
        refine BigFrame.wpQuiet_want rfl (fun K hK => ?_)
        refine quiet_val (.bool true) (fun w' hw' => by go_simp) (hK _ ?_)
        clear hK K
        simp only [Act.put, List.setIfInBounds_toArray, List.set_cons_zero, List.set_cons_succ]
        refine BigFrame.wpQuiet_want rfl (fun K hK => ?_)
        refine quiet_val (.bool true) (fun w' hw' => by go_simp) (hK _ ?_)
        clear hK K
        simp only [Act.put, List.setIfInBounds_toArray, List.set_cons_zero, List.set_cons_succ]
        refine BigFrame.wpQuiet_want rfl (fun K hK => ?_)
        refine quiet_val (.bool true) (fun w' hw' => by go_simp) (hK _ ?_)
        clear hK K
        simp only [Act.put, List.setIfInBounds_toArray, List.set_cons_zero, List.set_cons_succ]
        refine BigFrame.wpQuiet_want rfl (fun K hK => ?_)
        refine quiet_call 15 #[] (.bool true) (fun w' _ => by go_simp) (fun w' hw' => Calls.out hw' (HAW.out _ (S7.out.next hw').below)) (hK _ ?_)
        clear hK K
        simp only [Act.put, List.setIfInBounds_toArray, List.set_cons_zero, List.set_cons_succ]
        refine BigFrame.wpQuiet_want rfl (fun K hK => ?_)
        refine quiet_val (.bool true) (fun w' hw' => by go_simp) (hK _ ?_)
        clear hK K
        simp only [Act.put, List.setIfInBounds_toArray, List.set_cons_zero, List.set_cons_succ]
        refine BigFrame.wpQuiet_want rfl (fun K hK => ?_)
        refine quiet_val (.bool true) (fun w' hw' => by go_simp) (hK _ ?_)
        clear hK K
        simp only [Act.put, List.setIfInBounds_toArray, List.set_cons_zero, List.set_cons_succ]
        refine wpQuiet_nil ?_
        intro w8 hb
        have S8 := Lib.hid (S7.out.next hb)
        clear hb
        go_wp2_with fail
        go_ret
        exact ⟨rfl, S8.out.below⟩
theorem same_num (u v : BitVec 128) (h : u.toInt = v.toInt) : u = v := BitVec.eq_of_toInt_eq h
theorem dets_law (a0 a1 a2 a3 b0 b1 b2 b3 : Int) (w : World) (hr : Rd w) : Calls Tryd.prog 8 #[.agg #[.int .i64 a0, .int .i64 a1, .int .i64 a2, .int .i64 a3], .agg #[.int .i64 b0, .int .i64 b1, .int .i64 b2, .int .i64 b3]] w fun e w' => e = .returned (.bool true) ∧ Below w.heap.size w w' := by
  refine dets_walk a0 a1 a2 a3 b0 b1 b2 b3 (thenI (shM a0 a1 a2 a3) (shM b0 b1 b2 b3)) (thOk (shM a0 a1 a2 a3) (shM b0 b1 b2 b3)) (hiOf (detI (shM a0 a1 a2 a3))) (loOf (detI (shM a0 a1 a2 a3))) (hiOf ((detI (shM a0 a1 a2 a3)).sshiftRight 32)) (loOf ((detI (shM a0 a1 a2 a3)).sshiftRight 32)) (hiOf (detI (shM b0 b1 b2 b3))) (loOf (detI (shM b0 b1 b2 b3))) (hiOf ((detI (shM b0 b1 b2 b3)).sshiftRight 32)) (loOf ((detI (shM b0 b1 b2 b3)).sshiftRight 32)) (hiOf (detI (thenI (shM a0 a1 a2 a3) (shM b0 b1 b2 b3)))) (loOf (detI (thenI (shM a0 a1 a2 a3) (shM b0 b1 b2 b3)))) (hiOf ((detI (thenI (shM a0 a1 a2 a3) (shM b0 b1 b2 b3))).sshiftRight 32)) (loOf ((detI (thenI (shM a0 a1 a2 a3) (shM b0 b1 b2 b3))).sshiftRight 32)) (a0 * a3 - a1 * a2) (b0 * b3 - b1 * b2) w (Lib.hid fun h => ?_) (Lib.hid fun w' hb => awake4_c w' (hr.on hb))
  have hx := det2_in a0 a1 a2 a3 h.a0 h.a1 h.a2 h.a3
  have hy := det2_in b0 b1 b2 b3 h.b0 h.b1 h.b2 h.b3
  have m1 := detM a0 a1 a2 a3 h.a0 h.a1 h.a2 h.a3
  have m2 := detM b0 b1 b2 b3 h.b0 h.b1 h.b2 h.b3
  obtain ⟨⟨ia, ib, ic, id⟩, m3⟩ := detT a0 a1 a2 a3 b0 b1 b2 b3 h.a0 h.a1 h.a2 h.a3 h.b0 h.b1 h.b2 h.b3
  have n1 := shr32 _ _ m1
  have n2 := shr32 _ _ m2
  have n3 := shr32 _ _ m3
  have x64 : I64 (a0 * a3 - a1 * a2) := by unfold I64; omega
  have y64 : I64 (b0 * b3 - b1 * b2) := by unfold I64; omega
  have c64 : I64 4294967296 := by unfold I64; omega
  have t64 : I64 32 := by unfold I64; omega
  have k1 := same_num (ofI (a0 * a3 - a1 * a2) * ofI (b0 * b3 - b1 * b2)) _ ((ofI_mul _ _ x64 y64).trans n3.symm)
  have k2 := same_num (ofI (a0 * a3 - a1 * a2) * ofI 4294967296) _ ((ofI_mul _ _ x64 c64).trans ((Int.mul_comm _ _).trans m1.symm))
  have ha : ∀ p : Int, le200 p → I64 (p * 65536) := fun p hp => by unfold le200 at hp; unfold I64; omega
  refine ⟨fun w => then_c _ _ w, fun w => det_c (shM a0 a1 a2 a3) w (ha _ h.a0) (ha _ h.a1) (ha _ h.a2) (ha _ h.a3), fun w => shr_c _ 32 w t64, fun w => ?_, fun w => det_c (shM b0 b1 b2 b3) w (ha _ h.b0) (ha _ h.b1) (ha _ h.b2) (ha _ h.b3), fun w => shr_c _ 32 w t64, fun w => ?_, fun w => det_c _ w ia ib ic id, fun w => shr_c _ 32 w t64, fun w => ?_, fun w => ?_⟩
  · have := int_c ((detI (shM a0 a1 a2 a3)).sshiftRight 32) w
    rw [n1, fits_iff.2 x64] at this
    exact this
  · have := int_c ((detI (shM b0 b1 b2 b3)).sshiftRight 32) w
    rw [n2, fits_iff.2 y64] at this
    exact this
  · have := mul_c _ _ w x64 y64
    rw [k1] at this
    exact this
  · have := mul_c _ _ w x64 c64
    rw [k2] at this
    exact this
end Go.Proofs.YticoklfgmflidaaDoor
