/- Layer 4: Bound. -/
import Derived.Test.YticoklfgmflidaaDoorAw
namespace Go.Proofs.YticoklfgmflidaaDoor
open Go.RowKit

theorem index4_0 (a b c d e f i j : Int) (w : World) : (Instr.index 75 (.agg (eight a b c d e f i j)) (.int .i64 0)).run Tryd.prog w = .ok (.agg #[.int .i64 a, .int .i64 b]) w := by
  simp [Instr.index, run_underlying Tryd.underlying75, asIntOf, go_sem]
theorem index4_1 (a b c d e f i j : Int) (w : World) : (Instr.index 75 (.agg (eight a b c d e f i j)) (.int .i64 1)).run Tryd.prog w = .ok (.agg #[.int .i64 c, .int .i64 d]) w := by
  simp [Instr.index, run_underlying Tryd.underlying75, asIntOf, go_sem]
theorem index4_2 (a b c d e f i j : Int) (w : World) : (Instr.index 75 (.agg (eight a b c d e f i j)) (.int .i64 2)).run Tryd.prog w = .ok (.agg #[.int .i64 e, .int .i64 f]) w := by
  simp [Instr.index, run_underlying Tryd.underlying75, asIntOf, go_sem]
theorem index4_3 (a b c d e f i j : Int) (w : World) : (Instr.index 75 (.agg (eight a b c d e f i j)) (.int .i64 3)).run Tryd.prog w = .ok (.agg #[.int .i64 i, .int .i64 j]) w := by
  simp [Instr.index, run_underlying Tryd.underlying75, asIntOf, go_sem]
theorem results_be {fn : Func} {tmps : Array Value} {w : World} {g : Nat} {b : Bx} {e : Int} (t s : Nat) (hres : fn.results = #[.cell t 54, .tmp s]) (ht : tmps[t]? = some (.pointer (some ⟨g, 0, none⟩))) (hs : tmps[s]? = some (.int .i64 e)) (h : Blk w g 54 (four b)) :
    (results fn tmps).run Tryd.prog w = .ok (.tuple #[.agg (four b), .int .i64 e]) w := by
  have h0 := h.b0
  have h1 := h.b1
  have h2 := h.b2
  have h3 := h.b3
  simp [results, hres, ht, hs, go_sem, h0, h1, h2, h3]
theorem Mem.tail {w W : World} {x : Nat × TypeId × Array Value} {l : BlkL} (h : Mem w W (x :: l)) : Mem w W l := ⟨h.below, h.lays.2⟩
theorem Mem.put2 {w W : World} {l : BlkL} {g : Nat} {t : TypeId} {cs cs' : Array Value} (h : Mem w W ((g, t, cs) :: l)) (i j : Nat) (u v : Value) (e : (cs.setIfInBounds i u).setIfInBounds j v = cs') (hg : w.heap.size ≤ g) (hl : ∀ x ∈ l, x.1 ≠ g) :
    Mem w ((W.setCell ⟨g, i, none⟩ u).setCell ⟨g, j, none⟩ v) ((g, t, cs') :: l) :=
  ⟨(h.below.setCell hg _).setCell hg _, e ▸ (h.lays.1.set i u).set j v, (h.lays.2.other _ _ hl).other _ _ hl⟩
theorem row8 {w : World} {g : Nat} {t : TypeId} {a b c d e f i j : Int} (h : Blk w g t (eight a b c d e f i j)) : Row w (.slice (some ⟨g, 0, none⟩) 4 4) [(a, b), (c, d), (e, f), (i, j)] := by
  refine .inr (.inr ⟨g, 0, 4, rfl, h.lt, fun k p hp => ?_⟩)
  have hk : k < 4 := (List.getElem?_eq_some_iff.1 hp).1
  rw [Nat.zero_add, h.cell, h.cell]
  match k, hk with
  | 0, _ => simp at hp; subst hp; exact ⟨rfl, rfl⟩
  | 1, _ => simp at hp; subst hp; exact ⟨rfl, rfl⟩
  | 2, _ => simp at hp; subst hp; exact ⟨rfl, rfl⟩
  | 3, _ => simp at hp; subst hp; exact ⟨rfl, rfl⟩
set_option maxHeartbeats 8000000 in
set_option maxRecDepth 100000 in
theorem bnd_walk (m : Mx) (b D : Bx) (X1 Y1 U0 V0 U1 V1 U2 V2 U3 V3 : Int) (r em k0 k1 k2 k3 : Bool) (w : World)
    (HR : Hid (∀ w, Calls Tryd.prog 12 #[.agg #[.int .i64 m.a, .int .i64 m.b, .int .i64 m.c, .int .i64 m.d, .int .i64 m.e, .int .i64 m.f]] w fun e w' => e = .returned (.bool r) ∧ Below w.heap.size w w'))
    (HE : Hid (∀ w, Calls Tryd.prog 36 #[.agg #[.int .i64 b.x0, .int .i64 b.y0, .int .i64 b.x1, .int .i64 b.y1]] w fun e w' => e = .returned (.bool em) ∧ Below w.heap.size w w'))
    (HC : Hid (em = false → ∀ w, Calls Tryd.prog 37 #[.agg #[.int .i64 b.x0, .int .i64 b.y0, .int .i64 b.x1, .int .i64 b.y1]] w fun e w' => e = .returned (.agg (eight b.x0 b.y0 X1 b.y0 b.x0 Y1 X1 Y1)) ∧ Below w.heap.size w w'))
    (HA0 : Hid (∀ w, Calls Tryd.prog 9 #[.agg #[.int .i64 m.a, .int .i64 m.b, .int .i64 m.c, .int .i64 m.d, .int .i64 m.e, .int .i64 m.f], .agg #[.int .i64 b.x0, .int .i64 b.y0]] w fun e w' => e = .returned (.tuple #[.agg #[.int .i64 (if k0 then U0 else 0), .int .i64 (if k0 then V0 else 0)], .int .i64 (if k0 then 0 else 10)]) ∧ Below w.heap.size w w'))
    (HA1 : Hid (∀ w, Calls Tryd.prog 9 #[.agg #[.int .i64 m.a, .int .i64 m.b, .int .i64 m.c, .int .i64 m.d, .int .i64 m.e, .int .i64 m.f], .agg #[.int .i64 X1, .int .i64 b.y0]] w fun e w' => e = .returned (.tuple #[.agg #[.int .i64 (if k1 then U1 else 0), .int .i64 (if k1 then V1 else 0)], .int .i64 (if k1 then 0 else 10)]) ∧ Below w.heap.size w w'))
    (HA2 : Hid (∀ w, Calls Tryd.prog 9 #[.agg #[.int .i64 m.a, .int .i64 m.b, .int .i64 m.c, .int .i64 m.d, .int .i64 m.e, .int .i64 m.f], .agg #[.int .i64 b.x0, .int .i64 Y1]] w fun e w' => e = .returned (.tuple #[.agg #[.int .i64 (if k2 then U2 else 0), .int .i64 (if k2 then V2 else 0)], .int .i64 (if k2 then 0 else 10)]) ∧ Below w.heap.size w w'))
    (HA3 : Hid (∀ w, Calls Tryd.prog 9 #[.agg #[.int .i64 m.a, .int .i64 m.b, .int .i64 m.c, .int .i64 m.d, .int .i64 m.e, .int .i64 m.f], .agg #[.int .i64 X1, .int .i64 Y1]] w fun e w' => e = .returned (.tuple #[.agg #[.int .i64 (if k3 then U3 else 0), .int .i64 (if k3 then V3 else 0)], .int .i64 (if k3 then 0 else 10)]) ∧ Below w.heap.size w w'))
    (HB : Hid (k0 = true → k1 = true → k2 = true → k3 = true → ∀ w s, Row w s [(U0, V0), (U1, V1), (U2, V2), (U3, V3)] → Calls Tryd.prog 25 #[s] w fun e w' => e = .returned (.agg (four D)) ∧ Below w.heap.size w w')) :
    Calls Tryd.prog 24 #[.agg (six m), .agg (four b)] w fun e w' => e = .returned (.tuple #[.agg (four (if r && !em && (k0 && k1 && k2 && k3) then D else ⟨0, 0, 0, 0⟩)), .int .i64 (if r then (if em then 0 else if (k0 && k1 && k2 && k3) then 0 else 10) else 10)]) ∧ Below w.heap.size w w' := by
  have S0 : Hid (Mem w (((w.alloc (.cells (six m) 23)).alloc (.cells (four b) 54)).alloc (.cells (four ⟨0, 0, 0, 0⟩) 54)) [(w.heap.size + 2, 54, four ⟨0, 0, 0, 0⟩), (w.heap.size + 1, 54, four b), (w.heap.size, 23, six m)]) := (((Mem.refl w).add _ _).addAt _ _ _ (by simp)).addAt _ _ _ (by simp)
  obtain ⟨n, hn⟩ : ∃ n, w.heap.size = n := ⟨_, rfl⟩
  have hn' : w.heap.size ≤ n := by omega
  rw [hn] at S0
  cases r
  · go_enter Tryd.func24, Tryd.ntmps24
    go_wp2_with fail
    refine (HR.out _).mono ?_
    rintro e w1 ⟨rfl, hb⟩
    have S1 := Lib.hid (S0.out.next hb)
    clear hb
    have z0 := S1.out.lays.1.b0
    have z1 := S1.out.lays.1.b1
    have z2 := S1.out.lays.1.b2
    have z3 := S1.out.lays.1.b3
    have f0 := S1.out.lays.1.free 0
    have f1 := S1.out.lays.1.free 1
    have f2 := S1.out.lays.1.free 2
    have f3 := S1.out.lays.1.free 3
    simp only at z0 z1 z2 z3
    go_wp2_with fail
    exact bodyPost_ret (results_be 4 5 rfl rfl rfl (S1.out.lays.1.setB ⟨0, 0, 0, 0⟩)) rfl ⟨by simp, below_four (hn ▸ S1.out.below) (by omega) _ _ _ _⟩
  · cases em
    · have HC1 := Lib.hid (HC.out rfl)
      clear HC
      go_enter Tryd.func24, Tryd.ntmps24
      go_wp2_with fail
      refine (HR.out _).mono ?_
      rintro e w1 ⟨rfl, hb⟩
      have S1 := Lib.hid (S0.out.next hb)
      clear hb
      have b0 := S1.out.lays.2.1.b0
      have b1 := S1.out.lays.2.1.b1
      have b2 := S1.out.lays.2.1.b2
      have b3 := S1.out.lays.2.1.b3
      go_wp2_with fail
      refine (HE.out _).mono ?_
      rintro e w2 ⟨rfl, hb⟩
      have S2 := Lib.hid (S1.out.next hb)
      clear hb
      clear b0 b1 b2 b3
      have b0 := S2.out.lays.2.1.b0
      have b1 := S2.out.lays.2.1.b1
      have b2 := S2.out.lays.2.1.b2
      have b3 := S2.out.lays.2.1.b3
      go_wp2_with fail
      refine (HC1.out _).mono ?_
      rintro e w3 ⟨rfl, hb⟩
      have S3 := Lib.hid (S2.out.next hb)
      clear hb
      clear b0 b1 b2 b3
      have hg : n + 2 < w3.heap.size := S3.out.lays.1.lt
      go_wp2_with fail
      have S4 := Lib.hid (S3.out.add 75 (eight b.x0 b.y0 X1 b.y0 b.x0 Y1 X1 Y1))
      generalize w3.heap.size = g at *
      have HL : Hid (∀ x ∈ ([(n + 2, 54, four ⟨0, 0, 0, 0⟩), (n + 1, 54, four b), (n, 23, six m)] : BlkL), x.1 ≠ g) := fun x hx => by simp at hx; rcases hx with rfl | rfl | rfl <;> dsimp only <;> omega
      go_loopw [21] (fun i wr => ∃ z : Int, i = .int .i64 z ∧ (z = 0 ∧ Hid (Mem w wr [(g, 75, eight b.x0 b.y0 X1 b.y0 b.x0 Y1 X1 Y1), (n + 2, 54, four ⟨0, 0, 0, 0⟩), (n + 1, 54, four b), (n, 23, six m)]) ∨ z = 1 ∧ Hid (k0 = true) ∧ Hid (Mem w wr [(g, 75, eight U0 V0 X1 b.y0 b.x0 Y1 X1 Y1), (n + 2, 54, four ⟨0, 0, 0, 0⟩), (n + 1, 54, four b), (n, 23, six m)]) ∨ z = 2 ∧ Hid (k0 = true ∧ k1 = true) ∧ Hid (Mem w wr [(g, 75, eight U0 V0 U1 V1 b.x0 Y1 X1 Y1), (n + 2, 54, four ⟨0, 0, 0, 0⟩), (n + 1, 54, four b), (n, 23, six m)]) ∨ z = 3 ∧ Hid (k0 = true ∧ k1 = true ∧ k2 = true) ∧ Hid (Mem w wr [(g, 75, eight U0 V0 U1 V1 U2 V2 X1 Y1), (n + 2, 54, four ⟨0, 0, 0, 0⟩), (n + 1, 54, four b), (n, 23, six m)]) ∨ z = 4 ∧ Hid (k0 = true ∧ k1 = true ∧ k2 = true ∧ k3 = true) ∧ Hid (Mem w wr [(g, 75, eight U0 V0 U1 V1 U2 V2 U3 V3), (n + 2, 54, four ⟨0, 0, 0, 0⟩), (n + 1, 54, four b), (n, 23, six m)]))) (fun i _ => (4 - intOf i).toNat)
      case atStart => exact ⟨0, rfl, .inl ⟨rfl, S4.out⟩⟩
      case round =>
        obtain ⟨z, rfl, hz⟩ := hrel
        clear S4
        rcases hz with ⟨rfl, S⟩ | ⟨rfl, hk, S⟩ | ⟨rfl, hk, S⟩ | ⟨rfl, hk, S⟩ | ⟨rfl, hk, S⟩
        · have IX := index4_0 b.x0 b.y0 X1 b.y0 b.x0 Y1 X1 Y1
          have m0 := S.out.lays.2.2.2.1.m0
          have m1 := S.out.lays.2.2.2.1.m1
          have m2 := S.out.lays.2.2.2.1.m2
          have m3 := S.out.lays.2.2.2.1.m3
          have m4 := S.out.lays.2.2.2.1.m4
          have m5 := S.out.lays.2.2.2.1.m5
          have lt := S.out.lays.2.2.2.1.lt
          go_wp2_with fail
          refine (HA0.out _).mono ?_
          rintro e w4 ⟨rfl, hb⟩
          have S1 := Lib.hid ((S.out.add 25 (two (b.x0, b.y0))).next hb)
          clear hb lt IX m0 m1 m2 m3 m4 m5
          cases k0
          · go_upto_region 11 with fail
            have T : Hid (Mem w (w4.alloc (.cells #[.int .i64 0, .int .i64 0] 25)) _) := S1.out.next ((Below.refl _ _).alloc (Nat.le_refl _) _)
            generalize World.alloc w4 _ = W at T ⊢
            have z0 := T.out.lays.2.2.1.b0
            have z1 := T.out.lays.2.2.1.b1
            have z2 := T.out.lays.2.2.1.b2
            have z3 := T.out.lays.2.2.1.b3
            have f0 := T.out.lays.2.2.1.free 0
            have f1 := T.out.lays.2.2.1.free 1
            have f2 := T.out.lays.2.2.1.free 2
            have f3 := T.out.lays.2.2.1.free 3
            simp only at z0 z1 z2 z3
            go_wp2_with fail
            exact bodyPost_ret (results_be 4 5 rfl rfl rfl (T.out.lays.2.2.1.setB ⟨0, 0, 0, 0⟩)) rfl ⟨by simp, below_four (hn ▸ T.out.below) (by omega) _ _ _ _⟩
          · go_upto_region 12 with fail
            have T : Hid (Mem w (w4.alloc (.cells #[.int .i64 U0, .int .i64 V0] 25)) ((w4.heap.size, 25, two (U0, V0)) :: _)) := S1.out.add 25 (two (U0, V0))
            generalize World.alloc w4 _ = W at T ⊢
            generalize w4.heap.size = g9 at *
            have q0 := T.out.lays.1.p0
            have q1 := T.out.lays.1.p1
            have c0 := T.out.lays.2.2.1.cell 0
            have c1 := T.out.lays.2.2.1.cell 1
            have f0 := T.out.lays.2.2.1.free 0
            have f1 := T.out.lays.2.2.1.free 1
            simp at c0 c1
            go_wp2_with fail
            exact ⟨⟨1, rfl, (.inr (.inl ⟨rfl, (by unfold Hid; simp), T.out.tail.tail.put2 0 1 _ _ rfl (by omega) HL.out⟩))⟩, by simp [intOf]⟩
        · have IX := index4_1 b.x0 b.y0 X1 b.y0 b.x0 Y1 X1 Y1
          have m0 := S.out.lays.2.2.2.1.m0
          have m1 := S.out.lays.2.2.2.1.m1
          have m2 := S.out.lays.2.2.2.1.m2
          have m3 := S.out.lays.2.2.2.1.m3
          have m4 := S.out.lays.2.2.2.1.m4
          have m5 := S.out.lays.2.2.2.1.m5
          have lt := S.out.lays.2.2.2.1.lt
          go_wp2_with fail
          refine (HA1.out _).mono ?_
          rintro e w4 ⟨rfl, hb⟩
          have S1 := Lib.hid ((S.out.add 25 (two (X1, b.y0))).next hb)
          clear hb lt IX m0 m1 m2 m3 m4 m5
          cases k1
          · go_upto_region 11 with fail
            have T : Hid (Mem w (w4.alloc (.cells #[.int .i64 0, .int .i64 0] 25)) _) := S1.out.next ((Below.refl _ _).alloc (Nat.le_refl _) _)
            generalize World.alloc w4 _ = W at T ⊢
            have z0 := T.out.lays.2.2.1.b0
            have z1 := T.out.lays.2.2.1.b1
            have z2 := T.out.lays.2.2.1.b2
            have z3 := T.out.lays.2.2.1.b3
            have f0 := T.out.lays.2.2.1.free 0
            have f1 := T.out.lays.2.2.1.free 1
            have f2 := T.out.lays.2.2.1.free 2
            have f3 := T.out.lays.2.2.1.free 3
            simp only at z0 z1 z2 z3
            go_wp2_with fail
            exact bodyPost_ret (results_be 4 5 rfl rfl rfl (T.out.lays.2.2.1.setB ⟨0, 0, 0, 0⟩)) rfl ⟨by simp, below_four (hn ▸ T.out.below) (by omega) _ _ _ _⟩
          · go_upto_region 12 with fail
            have T : Hid (Mem w (w4.alloc (.cells #[.int .i64 U1, .int .i64 V1] 25)) ((w4.heap.size, 25, two (U1, V1)) :: _)) := S1.out.add 25 (two (U1, V1))
            generalize World.alloc w4 _ = W at T ⊢
            generalize w4.heap.size = g9 at *
            have q0 := T.out.lays.1.p0
            have q1 := T.out.lays.1.p1
            have c0 := T.out.lays.2.2.1.cell 2
            have c1 := T.out.lays.2.2.1.cell 3
            have f0 := T.out.lays.2.2.1.free 2
            have f1 := T.out.lays.2.2.1.free 3
            simp at c0 c1
            go_wp2_with fail
            exact ⟨⟨2, rfl, (.inr (.inr (.inl ⟨rfl, (by unfold Hid; have h := hk.out; simp_all), T.out.tail.tail.put2 2 3 _ _ rfl (by omega) HL.out⟩)))⟩, by simp [intOf]⟩
        · have IX := index4_2 b.x0 b.y0 X1 b.y0 b.x0 Y1 X1 Y1
          have m0 := S.out.lays.2.2.2.1.m0
          have m1 := S.out.lays.2.2.2.1.m1
          have m2 := S.out.lays.2.2.2.1.m2
          have m3 := S.out.lays.2.2.2.1.m3
          have m4 := S.out.lays.2.2.2.1.m4
          have m5 := S.out.lays.2.2.2.1.m5
          have lt := S.out.lays.2.2.2.1.lt
          go_wp2_with fail
          refine (HA2.out _).mono ?_
          rintro e w4 ⟨rfl, hb⟩
          have S1 := Lib.hid ((S.out.add 25 (two (b.x0, Y1))).next hb)
          clear hb lt IX m0 m1 m2 m3 m4 m5
          cases k2
          · go_upto_region 11 with fail
            have T : Hid (Mem w (w4.alloc (.cells #[.int .i64 0, .int .i64 0] 25)) _) := S1.out.next ((Below.refl _ _).alloc (Nat.le_refl _) _)
            generalize World.alloc w4 _ = W at T ⊢
            have z0 := T.out.lays.2.2.1.b0
            have z1 := T.out.lays.2.2.1.b1
            have z2 := T.out.lays.2.2.1.b2
            have z3 := T.out.lays.2.2.1.b3
            have f0 := T.out.lays.2.2.1.free 0
            have f1 := T.out.lays.2.2.1.free 1
            have f2 := T.out.lays.2.2.1.free 2
            have f3 := T.out.lays.2.2.1.free 3
            simp only at z0 z1 z2 z3
            go_wp2_with fail
            exact bodyPost_ret (results_be 4 5 rfl rfl rfl (T.out.lays.2.2.1.setB ⟨0, 0, 0, 0⟩)) rfl ⟨by simp, below_four (hn ▸ T.out.below) (by omega) _ _ _ _⟩
          · go_upto_region 12 with fail
            have T : Hid (Mem w (w4.alloc (.cells #[.int .i64 U2, .int .i64 V2] 25)) ((w4.heap.size, 25, two (U2, V2)) :: _)) := S1.out.add 25 (two (U2, V2))
            generalize World.alloc w4 _ = W at T ⊢
            generalize w4.heap.size = g9 at *
            have q0 := T.out.lays.1.p0
            have q1 := T.out.lays.1.p1
            have c0 := T.out.lays.2.2.1.cell 4
            have c1 := T.out.lays.2.2.1.cell 5
            have f0 := T.out.lays.2.2.1.free 4
            have f1 := T.out.lays.2.2.1.free 5
            simp at c0 c1
            go_wp2_with fail
            exact ⟨⟨3, rfl, (.inr (.inr (.inr (.inl ⟨rfl, (by unfold Hid; have h := hk.out; simp_all), T.out.tail.tail.put2 4 5 _ _ rfl (by omega) HL.out⟩))))⟩, by simp [intOf]⟩
        · have IX := index4_3 b.x0 b.y0 X1 b.y0 b.x0 Y1 X1 Y1
          have m0 := S.out.lays.2.2.2.1.m0
          have m1 := S.out.lays.2.2.2.1.m1
          have m2 := S.out.lays.2.2.2.1.m2
          have m3 := S.out.lays.2.2.2.1.m3
          have m4 := S.out.lays.2.2.2.1.m4
          have m5 := S.out.lays.2.2.2.1.m5
          have lt := S.out.lays.2.2.2.1.lt
          go_wp2_with fail
          refine (HA3.out _).mono ?_
          rintro e w4 ⟨rfl, hb⟩
          have S1 := Lib.hid ((S.out.add 25 (two (X1, Y1))).next hb)
          clear hb lt IX m0 m1 m2 m3 m4 m5
          cases k3
          · go_upto_region 11 with fail
            have T : Hid (Mem w (w4.alloc (.cells #[.int .i64 0, .int .i64 0] 25)) _) := S1.out.next ((Below.refl _ _).alloc (Nat.le_refl _) _)
            generalize World.alloc w4 _ = W at T ⊢
            have z0 := T.out.lays.2.2.1.b0
            have z1 := T.out.lays.2.2.1.b1
            have z2 := T.out.lays.2.2.1.b2
            have z3 := T.out.lays.2.2.1.b3
            have f0 := T.out.lays.2.2.1.free 0
            have f1 := T.out.lays.2.2.1.free 1
            have f2 := T.out.lays.2.2.1.free 2
            have f3 := T.out.lays.2.2.1.free 3
            simp only at z0 z1 z2 z3
            go_wp2_with fail
            exact bodyPost_ret (results_be 4 5 rfl rfl rfl (T.out.lays.2.2.1.setB ⟨0, 0, 0, 0⟩)) rfl ⟨by simp, below_four (hn ▸ T.out.below) (by omega) _ _ _ _⟩
          · go_upto_region 12 with fail
            have T : Hid (Mem w (w4.alloc (.cells #[.int .i64 U3, .int .i64 V3] 25)) ((w4.heap.size, 25, two (U3, V3)) :: _)) := S1.out.add 25 (two (U3, V3))
            generalize World.alloc w4 _ = W at T ⊢
            generalize w4.heap.size = g9 at *
            have q0 := T.out.lays.1.p0
            have q1 := T.out.lays.1.p1
            have c0 := T.out.lays.2.2.1.cell 6
            have c1 := T.out.lays.2.2.1.cell 7
            have f0 := T.out.lays.2.2.1.free 6
            have f1 := T.out.lays.2.2.1.free 7
            simp at c0 c1
            go_wp2_with fail
            exact ⟨⟨4, rfl, (.inr (.inr (.inr (.inr ⟨rfl, (by unfold Hid; have h := hk.out; simp_all), T.out.tail.tail.put2 6 7 _ _ rfl (by omega) HL.out⟩))))⟩, by simp [intOf]⟩
        · obtain ⟨rfl, rfl, rfl, rfl⟩ := hk.out
          have HB1 := Lib.hid (HB.out rfl rfl rfl rfl)
          clear HB hk
          go_wp2_with fail
          refine (HB1.out _ _ (row8 S.out.lays.1)).mono ?_
          rintro e w4 ⟨rfl, hb⟩
          have T := Lib.hid (S.out.next hb)
          clear hb
          have z0 := T.out.lays.2.1.b0
          have z1 := T.out.lays.2.1.b1
          have z2 := T.out.lays.2.1.b2
          have z3 := T.out.lays.2.1.b3
          have f0 := T.out.lays.2.1.free 0
          have f1 := T.out.lays.2.1.free 1
          have f2 := T.out.lays.2.1.free 2
          have f3 := T.out.lays.2.1.free 3
          simp only at z0 z1 z2 z3
          go_wp2_with fail
          exact bodyPost_ret (results_be 4 5 rfl rfl rfl (T.out.lays.2.1.setB D)) rfl ⟨by simp, below_four (hn ▸ T.out.below) (by omega) _ _ _ _⟩
    · go_enter Tryd.func24, Tryd.ntmps24
      go_wp2_with fail
      refine (HR.out _).mono ?_
      rintro e w1 ⟨rfl, hb⟩
      have S1 := Lib.hid (S0.out.next hb)
      clear hb
      have b0 := S1.out.lays.2.1.b0
      have b1 := S1.out.lays.2.1.b1
      have b2 := S1.out.lays.2.1.b2
      have b3 := S1.out.lays.2.1.b3
      go_wp2_with fail
      refine (HE.out _).mono ?_
      rintro e w2 ⟨rfl, hb⟩
      have S2 := Lib.hid (S1.out.next hb)
      clear hb
      clear b0 b1 b2 b3
      have z0 := S2.out.lays.1.b0
      have z1 := S2.out.lays.1.b1
      have z2 := S2.out.lays.1.b2
      have z3 := S2.out.lays.1.b3
      have f0 := S2.out.lays.1.free 0
      have f1 := S2.out.lays.1.free 1
      have f2 := S2.out.lays.1.free 2
      have f3 := S2.out.lays.1.free 3
      simp only at z0 z1 z2 z3
      go_wp2_with fail
      exact bodyPost_ret (results_be 4 5 rfl rfl rfl (S2.out.lays.1.setB ⟨0, 0, 0, 0⟩)) rfl ⟨by simp, below_four (hn ▸ S2.out.below) (by omega) _ _ _ _⟩
end Go.Proofs.YticoklfgmflidaaDoor
