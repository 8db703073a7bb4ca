/- Layer 9: Length, Place, and the place on a line. -/
import Derived.Test.YtclkkdhfdoidfaaDa
import Derived.Test.YtclkkdhfdoidfaaSf
import Derived.Lib.MinMax
namespace Go.Proofs.Ytclkkdhfdoidfaa
open Go.RowKit
theorem run_max4 {P : Program} (w : World) (ts : Array TypeId) (t : TypeId) (k : IntKind) (x y z u : Int) :
    (Builtin.max_ ts t #[.int k x, .int k y, .int k z, .int k u]).run P w = .ok (.int k (max (max (max x y) z) u)) w := by
  have e : ∀ a b : Int, (if b > a then b else a) = max a b := fun a b => by
    rw [Int.max_def]
    split <;> split <;> omega
  simp [Builtin.max_, Builtin.max2, e]
theorem results_pair {fn : Func} {tmps : Array Value} {w : World} {g : Nat} {p : Pt} {z : Int} (t s : Nat) (hres : fn.results = #[.cell t 32, .tmp s]) (ht : tmps[t]? = some (.pointer (some ⟨g, 0, none⟩))) (hs : tmps[s]? = some (.int .i64 z)) (h : Blk w g 32 (two p)) :
    (results fn tmps).run Try.prog w = .ok (.tuple #[.agg #[.int .i64 p.1, .int .i64 p.2], .int .i64 z]) w := by
  have h0 : w.cell? ⟨g, 0, none⟩ = some (.int .i64 p.1) := h.cell 0
  have h1 : w.cell? ⟨g, 1, none⟩ = some (.int .i64 p.2) := h.cell 1
  simp [results, hres, ht, hs, go_sem, h0, h1]
noncomputable def lengthO (a b : Pt) : Int × Int := if roomP a && roomP b then (if lenB (subP b a) then (lenI (subP b a), 0) else (0, 10)) else (0, 30)
theorem notRoom_len {a b : Pt} (h : (roomP a && roomP b) = false) : lengthO a b = (0, 30) := by unfold lengthO; rw [h]; rfl
set_option maxHeartbeats 2000000 in
set_option maxRecDepth 100000 in
theorem length_walk (a b : Pt) (x y n M : Int) (w : World) (e1 : Hid (wrap64 (b.1 - a.1) = x)) (e2 : Hid (wrap64 (b.2 - a.2) = y)) (e3 : Hid (wrap64 (-x) = -x)) (e4 : Hid (wrap64 (-y) = -y))
    (HM : Hid (∀ w, (Builtin.max_ #[3, 3, 3, 3] 3 #[.int .i64 x, .int .i64 (-x), .int .i64 y, .int .i64 (-y)]).run Try.prog w = .ok (.int .i64 M) w))
    (r : Bool) (hr : Hid (r = decide (M > 536870912))) (e5 : Hid (r = false → wrap64 (x * x) = x * x)) (e6 : Hid (r = false → wrap64 (y * y) = y * y)) (e7 : Hid (r = false → wrap64 (x * x + y * y) = x * x + y * y))
    (HIA : Hid (∀ w, Calls Try.prog 35 #[.agg #[.int .i64 a.1, .int .i64 a.2]] w fun e w' => e = .returned (.bool true) ∧ Below w.heap.size w w'))
    (HIB : Hid (∀ w, Calls Try.prog 35 #[.agg #[.int .i64 b.1, .int .i64 b.2]] w fun e w' => e = .returned (.bool true) ∧ Below w.heap.size w w'))
    (HS : Hid (r = false → ∀ w, Calls Try.prog 36 #[.int .i64 (x * x + y * y)] w fun e w' => e = .returned (.int .i64 n) ∧ Below w.heap.size w w')) :
    Calls Try.prog 13 #[.agg #[.int .i64 a.1, .int .i64 a.2], .agg #[.int .i64 b.1, .int .i64 b.2]] w fun e w' => e = .returned (if r then .tuple #[.int .i64 0, .int .i64 10] else .tuple #[.int .i64 n, .int .i64 0]) ∧ Below w.heap.size w w' := by
  go_enter Try.func13, Try.ntmps13
  go_wp2_with fail
  obtain ⟨w0, hw0⟩ : ∃ W, (w.alloc (.cells #[.int .i64 a.1, .int .i64 a.2] 32)).alloc (.cells #[.int .i64 b.1, .int .i64 b.2] 32) = W := ⟨_, rfl⟩
  have S0 : Hid (Below w.heap.size w w0 ∧ w.heap.size ≤ w0.heap.size ∧ Blk w0 w.heap.size 32 (two a) ∧ Blk w0 (w.heap.size + 1) 32 (two b)) := by
    rw [← hw0]
    exact ⟨((Below.refl _ _).alloc (Nat.le_refl _) _).alloc (by simp) _, by simp; omega, (Blk.new _ _ _).alloc _, Blk.newAt _ _ _ (by simp)⟩
  rw [hw0]
  clear hw0
  refine (HIA.out _).mono ?_
  rintro e w1 ⟨rfl, hb⟩
  have S1 : Hid (Below w.heap.size w w1 ∧ w.heap.size ≤ w1.heap.size ∧ Blk w1 w.heap.size 32 (two a) ∧ Blk w1 (w.heap.size + 1) 32 (two b)) := ⟨S0.out.1.trans (hb.mono S0.out.2.1), Nat.le_trans S0.out.2.1 hb.size, S0.out.2.2.1.grow hb, S0.out.2.2.2.grow hb⟩
  clear hb S0
  have kb := S1.out.2.2.2
  have b0 := kb.p0
  have b1 := kb.p1
  clear kb
  go_wp2_with fail
  refine (HIB.out _).mono ?_
  rintro e w2 ⟨rfl, hb⟩
  have S2 : Hid (Below w.heap.size w w2 ∧ w.heap.size ≤ w2.heap.size ∧ Blk w2 w.heap.size 32 (two a) ∧ Blk w2 (w.heap.size + 1) 32 (two b)) := ⟨S1.out.1.trans (hb.mono S1.out.2.1), Nat.le_trans S1.out.2.1 hb.size, S1.out.2.2.1.grow hb, S1.out.2.2.2.grow hb⟩
  clear hb S1 b0 b1
  have ka := S2.out.2.2.1
  have a0 := ka.p0
  have a1 := ka.p1
  have kb := S2.out.2.2.2
  have b0 := kb.p0
  have b1 := kb.p1
  clear ka kb
  go_wp2_with fail
  go_quiet (fail)
  simp only [e1.out, e2.out]
  have hM := HM.out
  have h3 := e3.out
  have h4 := e4.out
  cases r
  · have hd : decide (M > 536870912) = false := hr.out.symm
    have h5 := e5.out rfl
    have h6 := e6.out rfl
    have h7 := e7.out rfl
    go_wp2_with fail
    refine (HS.out trivial _).mono ?_
    rintro e w3 ⟨rfl, hb⟩
    have B3 : Hid (Below w.heap.size w w3) := (below_drewN S2.out.1 _).trans (hb.mono S2.out.2.1)
    clear hb
    go_wp2_with fail
    go_ret2
    exact ⟨rfl, B3.out⟩
  · have hd : decide (M > 536870912) = true := hr.out.symm
    go_wp2_with fail
    go_ret2
    exact ⟨rfl, below_drewN S2.out.1 _⟩
set_option maxHeartbeats 2000000 in
set_option maxRecDepth 100000 in
theorem length_no (a b : Pt) (h : (roomP a && roomP b) = false) (w : World) :
    Calls Try.prog 13 #[.agg #[.int .i64 a.1, .int .i64 a.2], .agg #[.int .i64 b.1, .int .i64 b.2]] w fun e w' => e = .returned (.tuple #[.int .i64 0, .int .i64 30]) ∧ Below w.heap.size w w' := by
  have HIA : Hid (∀ w, Calls Try.prog 35 #[.agg #[.int .i64 a.1, .int .i64 a.2]] w fun e w' => e = .returned (.bool (roomP a)) ∧ Below w.heap.size w w') := fun w => ptIn_c a.1 a.2 w
  have HIB : Hid (∀ w, Calls Try.prog 35 #[.agg #[.int .i64 b.1, .int .i64 b.2]] w fun e w' => e = .returned (.bool (roomP b)) ∧ Below w.heap.size w w') := fun w => ptIn_c b.1 b.2 w
  generalize roomP a = ra at h HIA
  generalize roomP b = rb at h HIB
  go_enter Try.func13, Try.ntmps13
  go_wp2_with fail
  obtain ⟨w0, hw0⟩ : ∃ W, (w.alloc (.cells #[.int .i64 a.1, .int .i64 a.2] 32)).alloc (.cells #[.int .i64 b.1, .int .i64 b.2] 32) = W := ⟨_, rfl⟩
  have S0 : Hid (Below w.heap.size w w0 ∧ w.heap.size ≤ w0.heap.size ∧ Blk w0 w.heap.size 32 (two a) ∧ Blk w0 (w.heap.size + 1) 32 (two b)) := by
    rw [← hw0]
    exact ⟨((Below.refl _ _).alloc (Nat.le_refl _) _).alloc (by simp) _, by simp; omega, (Blk.new _ _ _).alloc _, Blk.newAt _ _ _ (by simp)⟩
  rw [hw0]
  clear hw0
  refine (HIA.out _).mono ?_
  rintro e w1 ⟨rfl, hb⟩
  have S1 : Hid (Below w.heap.size w w1 ∧ w.heap.size ≤ w1.heap.size ∧ Blk w1 w.heap.size 32 (two a) ∧ Blk w1 (w.heap.size + 1) 32 (two b)) := ⟨S0.out.1.trans (hb.mono S0.out.2.1), Nat.le_trans S0.out.2.1 hb.size, S0.out.2.2.1.grow hb, S0.out.2.2.2.grow hb⟩
  clear hb S0
  have kb := S1.out.2.2.2
  have b0 := kb.p0
  have b1 := kb.p1
  clear kb
  cases ra
  · go_wp2_with fail
    go_ret2
    exact ⟨rfl, S1.out.1⟩
  · obtain rfl : rb = false := by simpa using h
    go_wp2_with fail
    refine (HIB.out _).mono ?_
    rintro e w2 ⟨rfl, hb⟩
    have B2 : Hid (Below w.heap.size w w2) := S1.out.1.trans (hb.mono S1.out.2.1)
    clear hb
    go_wp2_with fail
    go_ret2
    exact ⟨rfl, B2.out⟩
theorem length_c (a b : Pt) (w : World) : Calls Try.prog 13 #[.agg #[.int .i64 a.1, .int .i64 a.2], .agg #[.int .i64 b.1, .int .i64 b.2]] w fun e w' => e = .returned (.tuple #[.int .i64 (lengthO a b).1, .int .i64 (lengthO a b).2]) ∧ Below w.heap.size w w' := by
  cases h : (roomP a && roomP b) with
  | false => rw [notRoom_len h]; exact length_no a b h w
  | true =>
    have hab := h
    rw [Bool.and_eq_true] at hab
    have HA := Lib.hid (fun w => ptIn_c a.1 a.2 w)
    have HB := Lib.hid (fun w => ptIn_c b.1 b.2 w)
    have ea : (room a.1 && room a.2) = true := hab.1
    have eb : (room b.1 && room b.2) = true := hab.2
    rw [ea] at HA
    rw [eb] at HB
    have ra := roomP_iff.1 hab.1
    have rb := roomP_iff.1 hab.2
    have d1 : (subP b a).1 = b.1 - a.1 := rfl
    have d2 : (subP b a).2 = b.2 - a.2 := rfl
    have hs : lenB (subP b a) = true → 0 ≤ (subP b a).1 * (subP b a).1 + (subP b a).2 * (subP b a).2 ∧ (subP b a).1 * (subP b a).1 + (subP b a).2 * (subP b a).2 ≤ 576460752303423488 := fun k => sqs_bound (lenB_iff.1 k)
    have hx : lenB (subP b a) = true → 0 ≤ (subP b a).1 * (subP b a).1 ∧ (subP b a).1 * (subP b a).1 ≤ 288230376151711744 := fun k => sq_bound (lenB_iff.1 k).1 (lenB_iff.1 k).2.1
    have hy : lenB (subP b a) = true → 0 ≤ (subP b a).2 * (subP b a).2 ∧ (subP b a).2 * (subP b a).2 ≤ 288230376151711744 := fun k => sq_bound (lenB_iff.1 k).2.2.1 (lenB_iff.1 k).2.2.2
    have hl : lenB (subP b a) = true → isRoot ((subP b a).1 * (subP b a).1 + (subP b a).2 * (subP b a).2) (lenI (subP b a)) := fun k => len_is (lenB_iff.1 k)
    have hB : lenB (subP b a) = !decide (max (max (max (subP b a).1 (-(subP b a).1)) (subP b a).2) (-(subP b a).2) > 536870912) := by
      unfold lenB
      rw [Bool.eq_iff_iff]
      simp only [Bool.and_eq_true, decide_eq_true_eq, Bool.not_eq_true', decide_eq_false_iff_not]
      omega
    unfold lengthO
    rw [h, if_pos rfl]
    obtain ⟨r, hr⟩ : ∃ r, (!lenB (subP b a)) = r := ⟨_, rfl⟩
    have hr2 : r = false → lenB (subP b a) = true := fun e => by rw [e] at hr; simpa using hr
    refine (length_walk a b (subP b a).1 (subP b a).2 (lenI (subP b a)) _ w (Lib.hid (by rw [d1]; exact wrapR _ (by omega) (by omega))) (Lib.hid (by rw [d2]; exact wrapR _ (by omega) (by omega))) (Lib.hid (wrapR _ (by omega) (by omega))) (Lib.hid (wrapR _ (by omega) (by omega)))
      (Lib.hid fun w => run_max4 w _ _ _ _ _ _ _) r (Lib.hid (by rw [← hr, hB, Bool.not_not])) (Lib.hid fun e => wrapR _ (by have := hx (hr2 e); omega) (by have := hx (hr2 e); omega)) (Lib.hid fun e => wrapR _ (by have := hy (hr2 e); omega) (by have := hy (hr2 e); omega)) (Lib.hid fun e => wrapR _ (by have := hs (hr2 e); omega) (by have := hs (hr2 e); omega))
      HA HB (Lib.hid fun e w => sqrt_c _ _ (by have := hs (hr2 e); unfold I64; omega) (hl (hr2 e)) w)).mono ?_
    rintro e w' ⟨rfl, hb⟩
    refine ⟨?_, hb⟩
    cases r
    · have : lenB (subP b a) = true := by simpa using hr
      rw [this]; rfl
    · have : lenB (subP b a) = false := by simpa using hr
      rw [this]; rfl
set_option maxHeartbeats 4000000 in
set_option maxRecDepth 100000 in
theorem on_walk (ax ay bx bY t n x y mx my qx qy rx rY : Int) (w : World) (E1 : Hid (IntKind.i64.wrap (bx - ax) = x)) (E2 : Hid (IntKind.i64.wrap (t * x) = mx)) (E3 : Hid (IntKind.i64.wrap (ax + qx) = rx)) (F1 : Hid (IntKind.i64.wrap (bY - ay) = y)) (F2 : Hid (IntKind.i64.wrap (t * y) = my)) (F3 : Hid (IntKind.i64.wrap (ay + qy) = rY))
    (HQ1 : Hid (∀ w, Calls Try.prog 52 #[.int .i64 mx, .int .i64 n] w fun e w' => e = .returned (.int .i64 qx) ∧ Below w.heap.size w w'))
    (HQ2 : Hid (∀ w, Calls Try.prog 52 #[.int .i64 my, .int .i64 n] w fun e w' => e = .returned (.int .i64 qy) ∧ Below w.heap.size w w')) :
    Calls Try.prog 37 #[.agg #[.int .i64 ax, .int .i64 ay], .agg #[.int .i64 bx, .int .i64 bY], .int .i64 t, .int .i64 n] w fun e w' => e = .returned (.agg #[.int .i64 rx, .int .i64 rY]) ∧ Below w.heap.size w w' := by
  go_enter Try.func37, Try.ntmps37
  go_wp2_with fail
  obtain ⟨w1, hw1⟩ : ∃ W, ((w.alloc (.cells #[.int .i64 ax, .int .i64 ay] 32)).alloc (.cells #[.int .i64 bx, .int .i64 bY] 32)).alloc (.cells #[.int .i64 0, .int .i64 0] 32) = W := ⟨_, rfl⟩
  have S1 : Hid (Below w.heap.size w w1 ∧ Blk w1 w.heap.size 32 (two (ax, ay)) ∧ Blk w1 (w.heap.size + 1) 32 (two (bx, bY)) ∧ Blk w1 (w.heap.size + 1 + 1) 32 (two (0, 0)) ∧ w.heap.size ≤ w1.heap.size) := by
    rw [← hw1]
    exact ⟨(((Below.refl _ _).alloc (Nat.le_refl _) _).alloc (by simp) _).alloc (by simp; omega) _, ((Blk.new _ _ _).alloc _).alloc _, (Blk.newAt _ _ _ (by simp)).alloc _, Blk.newAt _ _ _ (by simp), by simp; omega⟩
  rw [hw1]
  clear hw1
  refine wp_region_put (by kernel_rfl) (by kernel_rfl) (by kernel_rfl) (fun b' vs w' => (b' 0 = true → vs 0 = .pointer (some ⟨w.heap.size, 0, none⟩)) ∧ (b' 1 = true → vs 1 = .int .i64 ax) ∧ (b' 2 = true → vs 2 = .int .i64 t) ∧ (b' 3 = true → vs 3 = .pointer (some ⟨w.heap.size + 1, 0, none⟩)) ∧ (b' 4 = true → vs 4 = .int .i64 bx) ∧ (b' 5 = true → vs 5 = .pointer (some ⟨w.heap.size, 0, none⟩)) ∧ (b' 6 = true → vs 6 = .int .i64 ax) ∧ (b' 7 = true → vs 7 = .int .i64 x) ∧ (b' 8 = true → vs 8 = .int .i64 mx) ∧ (b' 9 = true → vs 9 = .int .i64 n) ∧ (b' 10 = true → vs 10 = .int .i64 qx) ∧ (b' 11 = true → vs 11 = .int .i64 rx) ∧ (b' 12 = true → vs 12 = .pointer (some ⟨w.heap.size, 1, none⟩)) ∧ (b' 13 = true → vs 13 = .int .i64 ay) ∧ (b' 14 = true → vs 14 = .int .i64 t) ∧ (b' 15 = true → vs 15 = .pointer (some ⟨w.heap.size + 1, 1, none⟩)) ∧ (b' 16 = true → vs 16 = .int .i64 bY) ∧ (b' 17 = true → vs 17 = .pointer (some ⟨w.heap.size, 1, none⟩)) ∧ (b' 18 = true → vs 18 = .int .i64 ay) ∧ (b' 19 = true → vs 19 = .int .i64 y) ∧ (b' 20 = true → vs 20 = .int .i64 my) ∧ (b' 21 = true → vs 21 = .int .i64 n) ∧ (b' 22 = true → vs 22 = .int .i64 qy) ∧ (b' 23 = true → vs 23 = .int .i64 rY) ∧ (b' 24 = true → vs 24 = .agg #[.int .i64 rx, .int .i64 rY]) ∧ (b' 25 = false → Hid (Below w.heap.size w w' ∧ w.heap.size ≤ w'.heap.size)) ∧ (b' 25 = false → Hid (Blk w' w.heap.size 32 (two (ax, ay)) ∧ Blk w' (w.heap.size + 1) 32 (two (bx, bY)) ∧ Blk w' (w.heap.size + 1 + 1) 32 (two (0, 0)))) ∧ (b' 25 = true → Hid (Below w.heap.size w w' ∧ Blk w' (w.heap.size + 1 + 1) 32 (two (rx, rY)))) ∧ (b' 24 = true → b' 11 = true) ∧ (b' 11 = true → b' 1 = true) ∧ (b' 11 = true → b' 10 = true) ∧ (b' 10 = true → b' 8 = true) ∧ (b' 8 = true → b' 7 = true) ∧ (b' 7 = true → b' 4 = true) ∧ (b' 7 = true → b' 6 = true) ∧ (b' 24 = true → b' 23 = true) ∧ (b' 23 = true → b' 13 = true) ∧ (b' 23 = true → b' 22 = true) ∧ (b' 22 = true → b' 20 = true) ∧ (b' 20 = true → b' 19 = true) ∧ (b' 19 = true → b' 16 = true) ∧ (b' 19 = true → b' 18 = true) ∧ (b' 25 = true → b' 1 = true) ∧ (b' 25 = true → b' 4 = true) ∧ (b' 25 = true → b' 6 = true) ∧ (b' 25 = true → b' 10 = true) ∧ (b' 25 = true → b' 13 = true) ∧ (b' 25 = true → b' 16 = true) ∧ (b' 25 = true → b' 18 = true) ∧ (b' 25 = true → b' 22 = true)) ?_ ?_ ?_
  · intro vs
    exact ⟨fun h => Bool.noConfusion h, fun h => Bool.noConfusion h, fun h => Bool.noConfusion h, fun h => Bool.noConfusion h, fun h => Bool.noConfusion h, fun h => Bool.noConfusion h, fun h => Bool.noConfusion h, fun h => Bool.noConfusion h, fun h => Bool.noConfusion h, fun h => Bool.noConfusion h, fun h => Bool.noConfusion h, fun h => Bool.noConfusion h, fun h => Bool.noConfusion h, fun h => Bool.noConfusion h, fun h => Bool.noConfusion h, fun h => Bool.noConfusion h, fun h => Bool.noConfusion h, fun h => Bool.noConfusion h, fun h => Bool.noConfusion h, fun h => Bool.noConfusion h, fun h => Bool.noConfusion h, fun h => Bool.noConfusion h, fun h => Bool.noConfusion h, fun h => Bool.noConfusion h, fun h => Bool.noConfusion h, fun _ => Lib.hid ⟨below_drewN S1.out.1 1, S1.out.2.2.2.2⟩, fun _ => Lib.hid ⟨S1.out.2.1.grow ⟨rfl, rfl, rfl, Nat.le_refl _, fun _ _ => rfl⟩, S1.out.2.2.1.grow ⟨rfl, rfl, rfl, Nat.le_refl _, fun _ _ => rfl⟩, S1.out.2.2.2.1.grow ⟨rfl, rfl, rfl, Nat.le_refl _, fun _ _ => rfl⟩⟩, fun h => Bool.noConfusion h, fun h => Bool.noConfusion h, fun h => Bool.noConfusion h, fun h => Bool.noConfusion h, fun h => Bool.noConfusion h, fun h => Bool.noConfusion h, fun h => Bool.noConfusion h, fun h => Bool.noConfusion h, fun h => Bool.noConfusion h, fun h => Bool.noConfusion h, fun h => Bool.noConfusion h, fun h => Bool.noConfusion h, fun h => Bool.noConfusion h, fun h => Bool.noConfusion h, fun h => Bool.noConfusion h, fun h => Bool.noConfusion h, fun h => Bool.noConfusion h, fun h => Bool.noConfusion h, fun h => Bool.noConfusion h, fun h => Bool.noConfusion h, fun h => Bool.noConfusion h, fun h => Bool.noConfusion h, fun h => Bool.noConfusion h⟩
  · rintro b' vs w' i op hi hun hall ⟨h0, h1, h2, h3, h4, h5, h6, h7, h8, h9, h10, h11, h12, h13, h14, h15, h16, h17, h18, h19, h20, h21, h22, h23, h24, hB, hF, hG, hE24_11, hE11_1, hE11_10, hE10_8, hE8_7, hE7_4, hE7_6, hE24_23, hE23_13, hE23_22, hE22_20, hE20_19, hE19_16, hE19_18, hW1, hW4, hW6, hW10, hW13, hW16, hW18, hW22⟩
    have hil : i < 26 := (List.getElem?_eq_some_iff.1 hi).1
    rcases i with _ | _ | _ | _ | _ | _ | _ | _ | _ | _ | _ | _ | _ | _ | _ | _ | _ | _ | _ | _ | _ | _ | _ | _ | _ | _ | i
    · obtain rfl := Option.some.inj hi
      clear hi hil
      refine wpOp_step rfl (fun K hK => ?_)
      have HKK := Lib.hid hK; clear hK
      simp only [putAll, Act.put, List.setIfInBounds_toArray, List.set_cons_zero, List.set_cons_succ]
      go_simp
      exact HKK.out _ _ ⟨_, by simp only [putAll, Act.put, List.setIfInBounds_toArray, List.set_cons_zero, List.set_cons_succ] <;> rfl, fun _ => rfl, h1, h2, h3, h4, h5, h6, h7, h8, h9, h10, h11, h12, h13, h14, h15, h16, h17, h18, h19, h20, h21, h22, h23, h24, hB, hF, hG, hE24_11, hE11_1, hE11_10, hE10_8, hE8_7, hE7_4, hE7_6, hE24_23, hE23_13, hE23_22, hE22_20, hE20_19, hE19_16, hE19_18, hW1, hW4, hW6, hW10, hW13, hW16, hW18, hW22⟩
    · obtain rfl := Option.some.inj hi
      clear hi hil
      have hap : b' 25 = false := by
        cases hz : b' 25 with
        | false => rfl
        | true => exact absurd (hW1 hz) (by rw [hun]; decide)
      have d0 := h0 (hall ⟨0, .data⟩ (by simp) rfl)
      have c0 := (hF hap).out.1.p0
      refine wpOp_step rfl (fun K hK => ?_)
      have HKK := Lib.hid hK; clear hK
      simp only [putAll, Act.put, List.setIfInBounds_toArray, List.set_cons_zero, List.set_cons_succ]
      go_simp
      exact HKK.out _ _ ⟨_, by simp only [putAll, Act.put, List.setIfInBounds_toArray, List.set_cons_zero, List.set_cons_succ, d0] <;> rfl, h0, fun _ => rfl, h2, h3, h4, h5, h6, h7, h8, h9, h10, h11, h12, h13, h14, h15, h16, h17, h18, h19, h20, h21, h22, h23, h24, hB, hF, hG, hE24_11, fun _ => rfl, hE11_10, hE10_8, hE8_7, hE7_4, hE7_6, hE24_23, hE23_13, hE23_22, hE22_20, hE20_19, hE19_16, hE19_18, fun _ => rfl, hW4, hW6, hW10, hW13, hW16, hW18, hW22⟩
    · obtain rfl := Option.some.inj hi
      clear hi hil
      refine wpOp_step rfl (fun K hK => ?_)
      have HKK := Lib.hid hK; clear hK
      simp only [putAll, Act.put, List.setIfInBounds_toArray, List.set_cons_zero, List.set_cons_succ]
      go_simp
      exact HKK.out _ _ ⟨_, by simp only [putAll, Act.put, List.setIfInBounds_toArray, List.set_cons_zero, List.set_cons_succ] <;> rfl, h0, h1, fun _ => rfl, h3, h4, h5, h6, h7, h8, h9, h10, h11, h12, h13, h14, h15, h16, h17, h18, h19, h20, h21, h22, h23, h24, hB, hF, hG, hE24_11, hE11_1, hE11_10, hE10_8, hE8_7, hE7_4, hE7_6, hE24_23, hE23_13, hE23_22, hE22_20, hE20_19, hE19_16, hE19_18, hW1, hW4, hW6, hW10, hW13, hW16, hW18, hW22⟩
    · obtain rfl := Option.some.inj hi
      clear hi hil
      refine wpOp_step rfl (fun K hK => ?_)
      have HKK := Lib.hid hK; clear hK
      simp only [putAll, Act.put, List.setIfInBounds_toArray, List.set_cons_zero, List.set_cons_succ]
      go_simp
      exact HKK.out _ _ ⟨_, by simp only [putAll, Act.put, List.setIfInBounds_toArray, List.set_cons_zero, List.set_cons_succ] <;> rfl, h0, h1, h2, fun _ => rfl, h4, h5, h6, h7, h8, h9, h10, h11, h12, h13, h14, h15, h16, h17, h18, h19, h20, h21, h22, h23, h24, hB, hF, hG, hE24_11, hE11_1, hE11_10, hE10_8, hE8_7, hE7_4, hE7_6, hE24_23, hE23_13, hE23_22, hE22_20, hE20_19, hE19_16, hE19_18, hW1, hW4, hW6, hW10, hW13, hW16, hW18, hW22⟩
    · obtain rfl := Option.some.inj hi
      clear hi hil
      have hap : b' 25 = false := by
        cases hz : b' 25 with
        | false => rfl
        | true => exact absurd (hW4 hz) (by rw [hun]; decide)
      have d3 := h3 (hall ⟨3, .data⟩ (by simp) rfl)
      have c0 := (hF hap).out.2.1.p0
      refine wpOp_step rfl (fun K hK => ?_)
      have HKK := Lib.hid hK; clear hK
      simp only [putAll, Act.put, List.setIfInBounds_toArray, List.set_cons_zero, List.set_cons_succ]
      go_simp
      exact HKK.out _ _ ⟨_, by simp only [putAll, Act.put, List.setIfInBounds_toArray, List.set_cons_zero, List.set_cons_succ, d3] <;> rfl, h0, h1, h2, h3, fun _ => rfl, h5, h6, h7, h8, h9, h10, h11, h12, h13, h14, h15, h16, h17, h18, h19, h20, h21, h22, h23, h24, hB, hF, hG, hE24_11, hE11_1, hE11_10, hE10_8, hE8_7, fun _ => rfl, hE7_6, hE24_23, hE23_13, hE23_22, hE22_20, hE20_19, hE19_16, hE19_18, hW1, fun _ => rfl, hW6, hW10, hW13, hW16, hW18, hW22⟩
    · obtain rfl := Option.some.inj hi
      clear hi hil
      refine wpOp_step rfl (fun K hK => ?_)
      have HKK := Lib.hid hK; clear hK
      simp only [putAll, Act.put, List.setIfInBounds_toArray, List.set_cons_zero, List.set_cons_succ]
      go_simp
      exact HKK.out _ _ ⟨_, by simp only [putAll, Act.put, List.setIfInBounds_toArray, List.set_cons_zero, List.set_cons_succ] <;> rfl, h0, h1, h2, h3, h4, fun _ => rfl, h6, h7, h8, h9, h10, h11, h12, h13, h14, h15, h16, h17, h18, h19, h20, h21, h22, h23, h24, hB, hF, hG, hE24_11, hE11_1, hE11_10, hE10_8, hE8_7, hE7_4, hE7_6, hE24_23, hE23_13, hE23_22, hE22_20, hE20_19, hE19_16, hE19_18, hW1, hW4, hW6, hW10, hW13, hW16, hW18, hW22⟩
    · obtain rfl := Option.some.inj hi
      clear hi hil
      have hap : b' 25 = false := by
        cases hz : b' 25 with
        | false => rfl
        | true => exact absurd (hW6 hz) (by rw [hun]; decide)
      have d5 := h5 (hall ⟨5, .data⟩ (by simp) rfl)
      have c0 := (hF hap).out.1.p0
      refine wpOp_step rfl (fun K hK => ?_)
      have HKK := Lib.hid hK; clear hK
      simp only [putAll, Act.put, List.setIfInBounds_toArray, List.set_cons_zero, List.set_cons_succ]
      go_simp
      exact HKK.out _ _ ⟨_, by simp only [putAll, Act.put, List.setIfInBounds_toArray, List.set_cons_zero, List.set_cons_succ, d5] <;> rfl, h0, h1, h2, h3, h4, h5, fun _ => rfl, h7, h8, h9, h10, h11, h12, h13, h14, h15, h16, h17, h18, h19, h20, h21, h22, h23, h24, hB, hF, hG, hE24_11, hE11_1, hE11_10, hE10_8, hE8_7, hE7_4, fun _ => rfl, hE24_23, hE23_13, hE23_22, hE22_20, hE20_19, hE19_16, hE19_18, hW1, hW4, fun _ => rfl, hW10, hW13, hW16, hW18, hW22⟩
    · obtain rfl := Option.some.inj hi
      clear hi hil
      have d4 := h4 (hall ⟨4, .data⟩ (by simp) rfl)
      have d6 := h6 (hall ⟨6, .data⟩ (by simp) rfl)
      refine wpOp_step rfl (fun K hK => ?_)
      have HKK := Lib.hid hK; clear hK
      simp only [putAll, Act.put, List.setIfInBounds_toArray, List.set_cons_zero, List.set_cons_succ]
      go_simp
      exact HKK.out _ _ ⟨_, by simp only [putAll, Act.put, List.setIfInBounds_toArray, List.set_cons_zero, List.set_cons_succ, d4, d6, E1.out] <;> rfl, h0, h1, h2, h3, h4, h5, h6, fun _ => rfl, h8, h9, h10, h11, h12, h13, h14, h15, h16, h17, h18, h19, h20, h21, h22, h23, h24, hB, hF, hG, hE24_11, hE11_1, hE11_10, hE10_8, fun _ => rfl, fun _ => hall ⟨4, .data⟩ (by simp) rfl, fun _ => hall ⟨6, .data⟩ (by simp) rfl, hE24_23, hE23_13, hE23_22, hE22_20, hE20_19, hE19_16, hE19_18, hW1, hW4, hW6, hW10, hW13, hW16, hW18, hW22⟩
    · obtain rfl := Option.some.inj hi
      clear hi hil
      have d2 := h2 (hall ⟨2, .data⟩ (by simp) rfl)
      have d7 := h7 (hall ⟨7, .data⟩ (by simp) rfl)
      refine wpOp_step rfl (fun K hK => ?_)
      have HKK := Lib.hid hK; clear hK
      simp only [putAll, Act.put, List.setIfInBounds_toArray, List.set_cons_zero, List.set_cons_succ]
      go_simp
      exact HKK.out _ _ ⟨_, by simp only [putAll, Act.put, List.setIfInBounds_toArray, List.set_cons_zero, List.set_cons_succ, d2, d7, E2.out] <;> rfl, h0, h1, h2, h3, h4, h5, h6, h7, fun _ => rfl, h9, h10, h11, h12, h13, h14, h15, h16, h17, h18, h19, h20, h21, h22, h23, h24, hB, hF, hG, hE24_11, hE11_1, hE11_10, fun _ => rfl, fun _ => hall ⟨7, .data⟩ (by simp) rfl, hE7_4, hE7_6, hE24_23, hE23_13, hE23_22, hE22_20, hE20_19, hE19_16, hE19_18, hW1, hW4, hW6, hW10, hW13, hW16, hW18, hW22⟩
    · obtain rfl := Option.some.inj hi
      clear hi hil
      refine wpOp_step rfl (fun K hK => ?_)
      have HKK := Lib.hid hK; clear hK
      simp only [putAll, Act.put, List.setIfInBounds_toArray, List.set_cons_zero, List.set_cons_succ]
      go_simp
      exact HKK.out _ _ ⟨_, by simp only [putAll, Act.put, List.setIfInBounds_toArray, List.set_cons_zero, List.set_cons_succ] <;> rfl, h0, h1, h2, h3, h4, h5, h6, h7, h8, fun _ => rfl, h10, h11, h12, h13, h14, h15, h16, h17, h18, h19, h20, h21, h22, h23, h24, hB, hF, hG, hE24_11, hE11_1, hE11_10, hE10_8, hE8_7, hE7_4, hE7_6, hE24_23, hE23_13, hE23_22, hE22_20, hE20_19, hE19_16, hE19_18, hW1, hW4, hW6, hW10, hW13, hW16, hW18, hW22⟩
    · obtain rfl := Option.some.inj hi
      clear hi hil
      have hap : b' 25 = false := by
        cases hz : b' 25 with
        | false => rfl
        | true => exact absurd (hW10 hz) (by rw [hun]; decide)
      have d8 := h8 (hall ⟨8, .data⟩ (by simp) rfl)
      have d9 := h9 (hall ⟨9, .data⟩ (by simp) rfl)
      refine wpOp_step rfl (fun K hK => ?_)
      have HKK := Lib.hid hK; clear hK
      simp only [putAll, Act.put, List.setIfInBounds_toArray, List.set_cons_zero, List.set_cons_succ]
      go_simp
      refine (HQ1.out _).mono ?_
      rintro e w2 ⟨rfl, hb2⟩
      exact HKK.out _ _ ⟨_, by simp only [putAll, Act.put, List.setIfInBounds_toArray, List.set_cons_zero, List.set_cons_succ, d8, d9] <;> rfl, h0, h1, h2, h3, h4, h5, h6, h7, h8, h9, fun _ => rfl, h11, h12, h13, h14, h15, h16, h17, h18, h19, h20, h21, h22, h23, h24, fun ha => Lib.hid ⟨(hB ha).out.1.trans (hb2.mono (hB ha).out.2), Nat.le_trans (hB ha).out.2 hb2.size⟩, fun ha => Lib.hid (⟨(hF ha).out.1.grow hb2, (hF ha).out.2.1.grow hb2, (hF ha).out.2.2.grow hb2⟩), fun h => absurd (show b' 25 = true from h) (by rw [hap]; decide), hE24_11, hE11_1, fun _ => rfl, fun _ => hall ⟨8, .data⟩ (by simp) rfl, hE8_7, hE7_4, hE7_6, hE24_23, hE23_13, hE23_22, hE22_20, hE20_19, hE19_16, hE19_18, hW1, hW4, hW6, fun _ => rfl, hW13, hW16, hW18, hW22⟩
    · obtain rfl := Option.some.inj hi
      clear hi hil
      have d1 := h1 (hall ⟨1, .data⟩ (by simp) rfl)
      have d10 := h10 (hall ⟨10, .data⟩ (by simp) rfl)
      refine wpOp_step rfl (fun K hK => ?_)
      have HKK := Lib.hid hK; clear hK
      simp only [putAll, Act.put, List.setIfInBounds_toArray, List.set_cons_zero, List.set_cons_succ]
      go_simp
      exact HKK.out _ _ ⟨_, by simp only [putAll, Act.put, List.setIfInBounds_toArray, List.set_cons_zero, List.set_cons_succ, d1, d10, E3.out] <;> rfl, h0, h1, h2, h3, h4, h5, h6, h7, h8, h9, h10, fun _ => rfl, h12, h13, h14, h15, h16, h17, h18, h19, h20, h21, h22, h23, h24, hB, hF, hG, fun _ => rfl, fun _ => hall ⟨1, .data⟩ (by simp) rfl, fun _ => hall ⟨10, .data⟩ (by simp) rfl, hE10_8, hE8_7, hE7_4, hE7_6, hE24_23, hE23_13, hE23_22, hE22_20, hE20_19, hE19_16, hE19_18, hW1, hW4, hW6, hW10, hW13, hW16, hW18, hW22⟩
    · obtain rfl := Option.some.inj hi
      clear hi hil
      refine wpOp_step rfl (fun K hK => ?_)
      have HKK := Lib.hid hK; clear hK
      simp only [putAll, Act.put, List.setIfInBounds_toArray, List.set_cons_zero, List.set_cons_succ]
      go_simp
      exact HKK.out _ _ ⟨_, by simp only [putAll, Act.put, List.setIfInBounds_toArray, List.set_cons_zero, List.set_cons_succ] <;> rfl, h0, h1, h2, h3, h4, h5, h6, h7, h8, h9, h10, h11, fun _ => rfl, h13, h14, h15, h16, h17, h18, h19, h20, h21, h22, h23, h24, hB, hF, hG, hE24_11, hE11_1, hE11_10, hE10_8, hE8_7, hE7_4, hE7_6, hE24_23, hE23_13, hE23_22, hE22_20, hE20_19, hE19_16, hE19_18, hW1, hW4, hW6, hW10, hW13, hW16, hW18, hW22⟩
    · obtain rfl := Option.some.inj hi
      clear hi hil
      have hap : b' 25 = false := by
        cases hz : b' 25 with
        | false => rfl
        | true => exact absurd (hW13 hz) (by rw [hun]; decide)
      have d12 := h12 (hall ⟨12, .data⟩ (by simp) rfl)
      have c1 := (hF hap).out.1.p1
      refine wpOp_step rfl (fun K hK => ?_)
      have HKK := Lib.hid hK; clear hK
      simp only [putAll, Act.put, List.setIfInBounds_toArray, List.set_cons_zero, List.set_cons_succ]
      go_simp
      exact HKK.out _ _ ⟨_, by simp only [putAll, Act.put, List.setIfInBounds_toArray, List.set_cons_zero, List.set_cons_succ, d12] <;> rfl, h0, h1, h2, h3, h4, h5, h6, h7, h8, h9, h10, h11, h12, fun _ => rfl, h14, h15, h16, h17, h18, h19, h20, h21, h22, h23, h24, hB, hF, hG, hE24_11, hE11_1, hE11_10, hE10_8, hE8_7, hE7_4, hE7_6, hE24_23, fun _ => rfl, hE23_22, hE22_20, hE20_19, hE19_16, hE19_18, hW1, hW4, hW6, hW10, fun _ => rfl, hW16, hW18, hW22⟩
    · obtain rfl := Option.some.inj hi
      clear hi hil
      refine wpOp_step rfl (fun K hK => ?_)
      have HKK := Lib.hid hK; clear hK
      simp only [putAll, Act.put, List.setIfInBounds_toArray, List.set_cons_zero, List.set_cons_succ]
      go_simp
      exact HKK.out _ _ ⟨_, by simp only [putAll, Act.put, List.setIfInBounds_toArray, List.set_cons_zero, List.set_cons_succ] <;> rfl, h0, h1, h2, h3, h4, h5, h6, h7, h8, h9, h10, h11, h12, h13, fun _ => rfl, h15, h16, h17, h18, h19, h20, h21, h22, h23, h24, hB, hF, hG, hE24_11, hE11_1, hE11_10, hE10_8, hE8_7, hE7_4, hE7_6, hE24_23, hE23_13, hE23_22, hE22_20, hE20_19, hE19_16, hE19_18, hW1, hW4, hW6, hW10, hW13, hW16, hW18, hW22⟩
    · obtain rfl := Option.some.inj hi
      clear hi hil
      refine wpOp_step rfl (fun K hK => ?_)
      have HKK := Lib.hid hK; clear hK
      simp only [putAll, Act.put, List.setIfInBounds_toArray, List.set_cons_zero, List.set_cons_succ]
      go_simp
      exact HKK.out _ _ ⟨_, by simp only [putAll, Act.put, List.setIfInBounds_toArray, List.set_cons_zero, List.set_cons_succ] <;> rfl, h0, h1, h2, h3, h4, h5, h6, h7, h8, h9, h10, h11, h12, h13, h14, fun _ => rfl, h16, h17, h18, h19, h20, h21, h22, h23, h24, hB, hF, hG, hE24_11, hE11_1, hE11_10, hE10_8, hE8_7, hE7_4, hE7_6, hE24_23, hE23_13, hE23_22, hE22_20, hE20_19, hE19_16, hE19_18, hW1, hW4, hW6, hW10, hW13, hW16, hW18, hW22⟩
    · obtain rfl := Option.some.inj hi
      clear hi hil
      have hap : b' 25 = false := by
        cases hz : b' 25 with
        | false => rfl
        | true => exact absurd (hW16 hz) (by rw [hun]; decide)
      have d15 := h15 (hall ⟨15, .data⟩ (by simp) rfl)
      have c1 := (hF hap).out.2.1.p1
      refine wpOp_step rfl (fun K hK => ?_)
      have HKK := Lib.hid hK; clear hK
      simp only [putAll, Act.put, List.setIfInBounds_toArray, List.set_cons_zero, List.set_cons_succ]
      go_simp
      exact HKK.out _ _ ⟨_, by simp only [putAll, Act.put, List.setIfInBounds_toArray, List.set_cons_zero, List.set_cons_succ, d15] <;> rfl, h0, h1, h2, h3, h4, h5, h6, h7, h8, h9, h10, h11, h12, h13, h14, h15, fun _ => rfl, h17, h18, h19, h20, h21, h22, h23, h24, hB, hF, hG, hE24_11, hE11_1, hE11_10, hE10_8, hE8_7, hE7_4, hE7_6, hE24_23, hE23_13, hE23_22, hE22_20, hE20_19, fun _ => rfl, hE19_18, hW1, hW4, hW6, hW10, hW13, fun _ => rfl, hW18, hW22⟩
    · obtain rfl := Option.some.inj hi
      clear hi hil
      refine wpOp_step rfl (fun K hK => ?_)
      have HKK := Lib.hid hK; clear hK
      simp only [putAll, Act.put, List.setIfInBounds_toArray, List.set_cons_zero, List.set_cons_succ]
      go_simp
      exact HKK.out _ _ ⟨_, by simp only [putAll, Act.put, List.setIfInBounds_toArray, List.set_cons_zero, List.set_cons_succ] <;> rfl, h0, h1, h2, h3, h4, h5, h6, h7, h8, h9, h10, h11, h12, h13, h14, h15, h16, fun _ => rfl, h18, h19, h20, h21, h22, h23, h24, hB, hF, hG, hE24_11, hE11_1, hE11_10, hE10_8, hE8_7, hE7_4, hE7_6, hE24_23, hE23_13, hE23_22, hE22_20, hE20_19, hE19_16, hE19_18, hW1, hW4, hW6, hW10, hW13, hW16, hW18, hW22⟩
    · obtain rfl := Option.some.inj hi
      clear hi hil
      have hap : b' 25 = false := by
        cases hz : b' 25 with
        | false => rfl
        | true => exact absurd (hW18 hz) (by rw [hun]; decide)
      have d17 := h17 (hall ⟨17, .data⟩ (by simp) rfl)
      have c1 := (hF hap).out.1.p1
      refine wpOp_step rfl (fun K hK => ?_)
      have HKK := Lib.hid hK; clear hK
      simp only [putAll, Act.put, List.setIfInBounds_toArray, List.set_cons_zero, List.set_cons_succ]
      go_simp
      exact HKK.out _ _ ⟨_, by simp only [putAll, Act.put, List.setIfInBounds_toArray, List.set_cons_zero, List.set_cons_succ, d17] <;> rfl, h0, h1, h2, h3, h4, h5, h6, h7, h8, h9, h10, h11, h12, h13, h14, h15, h16, h17, fun _ => rfl, h19, h20, h21, h22, h23, h24, hB, hF, hG, hE24_11, hE11_1, hE11_10, hE10_8, hE8_7, hE7_4, hE7_6, hE24_23, hE23_13, hE23_22, hE22_20, hE20_19, hE19_16, fun _ => rfl, hW1, hW4, hW6, hW10, hW13, hW16, fun _ => rfl, hW22⟩
    · obtain rfl := Option.some.inj hi
      clear hi hil
      have d16 := h16 (hall ⟨16, .data⟩ (by simp) rfl)
      have d18 := h18 (hall ⟨18, .data⟩ (by simp) rfl)
      refine wpOp_step rfl (fun K hK => ?_)
      have HKK := Lib.hid hK; clear hK
      simp only [putAll, Act.put, List.setIfInBounds_toArray, List.set_cons_zero, List.set_cons_succ]
      go_simp
      exact HKK.out _ _ ⟨_, by simp only [putAll, Act.put, List.setIfInBounds_toArray, List.set_cons_zero, List.set_cons_succ, d16, d18, F1.out] <;> rfl, h0, h1, h2, h3, h4, h5, h6, h7, h8, h9, h10, h11, h12, h13, h14, h15, h16, h17, h18, fun _ => rfl, h20, h21, h22, h23, h24, hB, hF, hG, hE24_11, hE11_1, hE11_10, hE10_8, hE8_7, hE7_4, hE7_6, hE24_23, hE23_13, hE23_22, hE22_20, fun _ => rfl, fun _ => hall ⟨16, .data⟩ (by simp) rfl, fun _ => hall ⟨18, .data⟩ (by simp) rfl, hW1, hW4, hW6, hW10, hW13, hW16, hW18, hW22⟩
    · obtain rfl := Option.some.inj hi
      clear hi hil
      have d14 := h14 (hall ⟨14, .data⟩ (by simp) rfl)
      have d19 := h19 (hall ⟨19, .data⟩ (by simp) rfl)
      refine wpOp_step rfl (fun K hK => ?_)
      have HKK := Lib.hid hK; clear hK
      simp only [putAll, Act.put, List.setIfInBounds_toArray, List.set_cons_zero, List.set_cons_succ]
      go_simp
      exact HKK.out _ _ ⟨_, by simp only [putAll, Act.put, List.setIfInBounds_toArray, List.set_cons_zero, List.set_cons_succ, d14, d19, F2.out] <;> rfl, h0, h1, h2, h3, h4, h5, h6, h7, h8, h9, h10, h11, h12, h13, h14, h15, h16, h17, h18, h19, fun _ => rfl, h21, h22, h23, h24, hB, hF, hG, hE24_11, hE11_1, hE11_10, hE10_8, hE8_7, hE7_4, hE7_6, hE24_23, hE23_13, hE23_22, fun _ => rfl, fun _ => hall ⟨19, .data⟩ (by simp) rfl, hE19_16, hE19_18, hW1, hW4, hW6, hW10, hW13, hW16, hW18, hW22⟩
    · obtain rfl := Option.some.inj hi
      clear hi hil
      refine wpOp_step rfl (fun K hK => ?_)
      have HKK := Lib.hid hK; clear hK
      simp only [putAll, Act.put, List.setIfInBounds_toArray, List.set_cons_zero, List.set_cons_succ]
      go_simp
      exact HKK.out _ _ ⟨_, by simp only [putAll, Act.put, List.setIfInBounds_toArray, List.set_cons_zero, List.set_cons_succ] <;> rfl, h0, h1, h2, h3, h4, h5, h6, h7, h8, h9, h10, h11, h12, h13, h14, h15, h16, h17, h18, h19, h20, fun _ => rfl, h22, h23, h24, hB, hF, hG, hE24_11, hE11_1, hE11_10, hE10_8, hE8_7, hE7_4, hE7_6, hE24_23, hE23_13, hE23_22, hE22_20, hE20_19, hE19_16, hE19_18, hW1, hW4, hW6, hW10, hW13, hW16, hW18, hW22⟩
    · obtain rfl := Option.some.inj hi
      clear hi hil
      have hap : b' 25 = false := by
        cases hz : b' 25 with
        | false => rfl
        | true => exact absurd (hW22 hz) (by rw [hun]; decide)
      have d20 := h20 (hall ⟨20, .data⟩ (by simp) rfl)
      have d21 := h21 (hall ⟨21, .data⟩ (by simp) rfl)
      refine wpOp_step rfl (fun K hK => ?_)
      have HKK := Lib.hid hK; clear hK
      simp only [putAll, Act.put, List.setIfInBounds_toArray, List.set_cons_zero, List.set_cons_succ]
      go_simp
      refine (HQ2.out _).mono ?_
      rintro e w2 ⟨rfl, hb2⟩
      exact HKK.out _ _ ⟨_, by simp only [putAll, Act.put, List.setIfInBounds_toArray, List.set_cons_zero, List.set_cons_succ, d20, d21] <;> rfl, h0, h1, h2, h3, h4, h5, h6, h7, h8, h9, h10, h11, h12, h13, h14, h15, h16, h17, h18, h19, h20, h21, fun _ => rfl, h23, h24, fun ha => Lib.hid ⟨(hB ha).out.1.trans (hb2.mono (hB ha).out.2), Nat.le_trans (hB ha).out.2 hb2.size⟩, fun ha => Lib.hid (⟨(hF ha).out.1.grow hb2, (hF ha).out.2.1.grow hb2, (hF ha).out.2.2.grow hb2⟩), fun h => absurd (show b' 25 = true from h) (by rw [hap]; decide), hE24_11, hE11_1, hE11_10, hE10_8, hE8_7, hE7_4, hE7_6, hE24_23, hE23_13, fun _ => rfl, fun _ => hall ⟨20, .data⟩ (by simp) rfl, hE20_19, hE19_16, hE19_18, hW1, hW4, hW6, hW10, hW13, hW16, hW18, fun _ => rfl⟩
    · obtain rfl := Option.some.inj hi
      clear hi hil
      have d13 := h13 (hall ⟨13, .data⟩ (by simp) rfl)
      have d22 := h22 (hall ⟨22, .data⟩ (by simp) rfl)
      refine wpOp_step rfl (fun K hK => ?_)
      have HKK := Lib.hid hK; clear hK
      simp only [putAll, Act.put, List.setIfInBounds_toArray, List.set_cons_zero, List.set_cons_succ]
      go_simp
      exact HKK.out _ _ ⟨_, by simp only [putAll, Act.put, List.setIfInBounds_toArray, List.set_cons_zero, List.set_cons_succ, d13, d22, F3.out] <;> rfl, h0, h1, h2, h3, h4, h5, h6, h7, h8, h9, h10, h11, h12, h13, h14, h15, h16, h17, h18, h19, h20, h21, h22, fun _ => rfl, h24, hB, hF, hG, hE24_11, hE11_1, hE11_10, hE10_8, hE8_7, hE7_4, hE7_6, fun _ => rfl, fun _ => hall ⟨13, .data⟩ (by simp) rfl, fun _ => hall ⟨22, .data⟩ (by simp) rfl, hE22_20, hE20_19, hE19_16, hE19_18, hW1, hW4, hW6, hW10, hW13, hW16, hW18, hW22⟩
    · obtain rfl := Option.some.inj hi
      clear hi hil
      have d11 := h11 (hall ⟨11, .data⟩ (by simp) rfl)
      have d23 := h23 (hall ⟨23, .data⟩ (by simp) rfl)
      refine wpOp_step rfl (fun K hK => ?_)
      have HKK := Lib.hid hK; clear hK
      simp only [putAll, Act.put, List.setIfInBounds_toArray, List.set_cons_zero, List.set_cons_succ]
      go_simp
      exact HKK.out _ _ ⟨_, by simp only [putAll, Act.put, List.setIfInBounds_toArray, List.set_cons_zero, List.set_cons_succ, d11, d23] <;> rfl, h0, h1, h2, h3, h4, h5, h6, h7, h8, h9, h10, h11, h12, h13, h14, h15, h16, h17, h18, h19, h20, h21, h22, h23, fun _ => rfl, hB, hF, hG, fun _ => hall ⟨11, .data⟩ (by simp) rfl, hE11_1, hE11_10, hE10_8, hE8_7, hE7_4, hE7_6, fun _ => hall ⟨23, .data⟩ (by simp) rfl, hE23_13, hE23_22, hE22_20, hE20_19, hE19_16, hE19_18, hW1, hW4, hW6, hW10, hW13, hW16, hW18, hW22⟩
    · obtain rfl := Option.some.inj hi
      clear hi hil
      have hap : b' 25 = false := hun
      have d24 := h24 (hall ⟨24, .data⟩ (by simp) rfl)
      have k4 := (hF hap).out.2.2
      have c0 := k4.p0
      have c1 := k4.p1
      have f0 := k4.free 0
      have f1 := k4.free 1
      have lg := k4.lt
      clear k4
      refine wpOp_step rfl (fun K hK => ?_)
      have HKK := Lib.hid hK; clear hK
      simp only [putAll, Act.put, List.setIfInBounds_toArray, List.set_cons_zero, List.set_cons_succ]
      go_simp
      exact HKK.out _ _ ⟨undef, by simp only [putAll, Act.put, List.setIfInBounds_toArray, List.set_cons_zero, List.set_cons_succ, d24] <;> rfl, h0, h1, h2, h3, h4, h5, h6, h7, h8, h9, h10, h11, h12, h13, h14, h15, h16, h17, h18, h19, h20, h21, h22, h23, h24, fun h => Bool.noConfusion h, fun h => Bool.noConfusion h, fun _ => Lib.hid (⟨below_two (hB hap).out.1 (by omega) _ _, (hF hap).out.2.2.setP _ _⟩), hE24_11, hE11_1, hE11_10, hE10_8, hE8_7, hE7_4, hE7_6, hE24_23, hE23_13, hE23_22, hE22_20, hE20_19, hE19_16, hE19_18, fun _ => hE11_1 (hE24_11 (hall ⟨24, .data⟩ (by simp) rfl)), fun _ => hE7_4 (hE8_7 (hE10_8 (hE11_10 (hE24_11 (hall ⟨24, .data⟩ (by simp) rfl))))), fun _ => hE7_6 (hE8_7 (hE10_8 (hE11_10 (hE24_11 (hall ⟨24, .data⟩ (by simp) rfl))))), fun _ => hE11_10 (hE24_11 (hall ⟨24, .data⟩ (by simp) rfl)), fun _ => hE23_13 (hE24_23 (hall ⟨24, .data⟩ (by simp) rfl)), fun _ => hE19_16 (hE20_19 (hE22_20 (hE23_22 (hE24_23 (hall ⟨24, .data⟩ (by simp) rfl))))), fun _ => hE19_18 (hE20_19 (hE22_20 (hE23_22 (hE24_23 (hall ⟨24, .data⟩ (by simp) rfl))))), fun _ => hE23_22 (hE24_23 (hall ⟨24, .data⟩ (by simp) rfl))⟩
    · omega
  · rintro b' vs w2 hall ⟨h0, h1, h2, h3, h4, h5, h6, h7, h8, h9, h10, h11, h12, h13, h14, h15, h16, h17, h18, h19, h20, h21, h22, h23, h24, hB, hF, hG, hE24_11, hE11_1, hE11_10, hE10_8, hE8_7, hE7_4, hE7_6, hE24_23, hE23_13, hE23_22, hE22_20, hE20_19, hE19_16, hE19_18, hW1, hW4, hW6, hW10, hW13, hW16, hW18, hW22⟩
    have d0 := h0 (hall 0 (by simp))
    have d1 := h1 (hall 1 (by simp))
    have d2 := h2 (hall 2 (by simp))
    have d3 := h3 (hall 3 (by simp))
    have d4 := h4 (hall 4 (by simp))
    have d5 := h5 (hall 5 (by simp))
    have d6 := h6 (hall 6 (by simp))
    have d7 := h7 (hall 7 (by simp))
    have d8 := h8 (hall 8 (by simp))
    have d9 := h9 (hall 9 (by simp))
    have d10 := h10 (hall 10 (by simp))
    have d11 := h11 (hall 11 (by simp))
    have d12 := h12 (hall 12 (by simp))
    have d13 := h13 (hall 13 (by simp))
    have d14 := h14 (hall 14 (by simp))
    have d15 := h15 (hall 15 (by simp))
    have d16 := h16 (hall 16 (by simp))
    have d17 := h17 (hall 17 (by simp))
    have d18 := h18 (hall 18 (by simp))
    have d19 := h19 (hall 19 (by simp))
    have d20 := h20 (hall 20 (by simp))
    have d21 := h21 (hall 21 (by simp))
    have d22 := h22 (hall 22 (by simp))
    have d23 := h23 (hall 23 (by simp))
    have d24 := h24 (hall 24 (by simp))
    have GG := hG (hall 25 (by simp))
    simp only [putAll, Act.put, List.setIfInBounds_toArray, List.set_cons_zero, List.set_cons_succ, d0, d1, d2, d3, d4, d5, d6, d7, d8, d9, d10, d11, d12, d13, d14, d15, d16, d17, d18, d19, d20, d21, d22, d23, d24]
    clear hall h0 d0 h1 d1 h2 d2 h3 d3 h4 d4 h5 d5 h6 d6 h7 d7 h8 d8 h9 d9 h10 d10 h11 d11 h12 d12 h13 d13 h14 d14 h15 d15 h16 d16 h17 d17 h18 d18 h19 d19 h20 d20 h21 d21 h22 d22 h23 d23 h24 d24 hB hF hG hE24_11 hE11_1 hE11_10 hE10_8 hE8_7 hE7_4 hE7_6 hE24_23 hE23_13 hE23_22 hE22_20 hE20_19 hE19_16 hE19_18 hW1 hW4 hW6 hW10 hW13 hW16 hW18 hW22
    go_wp2_with fail
    exact bodyPost_ret (results_two 8 (.inl rfl) rfl rfl GG.out.2) rfl ⟨rfl, GG.out.1⟩
theorem on_c (a b : Pt) (t n : Int) (ha : roomP a = true) (hb : roomP b = true) (hl : lenOk (subP b a)) (h0 : 0 ≤ t) (h1 : t ≤ n) (hn : 1 ≤ n) (hn2 : n ≤ 1073741824) (w : World) :
    Calls Try.prog 37 #[.agg #[.int .i64 a.1, .int .i64 a.2], .agg #[.int .i64 b.1, .int .i64 b.2], .int .i64 t, .int .i64 n] w fun e w' => e = .returned (.agg #[.int .i64 (onP a b t n).1, .int .i64 (onP a b t n).2]) ∧ Below w.heap.size w w' := by
  have ra := roomP_iff.1 ha
  have rb := roomP_iff.1 hb
  obtain ⟨l1, l2, l3, l4⟩ := hl
  have d1 : (subP b a).1 = b.1 - a.1 := rfl
  have d2 : (subP b a).2 = b.2 - a.2 := rfl
  rw [d1] at l1 l2
  rw [d2] at l3 l4
  have m1 := mul_abs t (b.1 - a.1) 1073741824 536870912 ⟨by omega, by omega⟩ ⟨l1, l2⟩
  have m2 := mul_abs t (b.2 - a.2) 1073741824 536870912 ⟨by omega, by omega⟩ ⟨l3, l4⟩
  have q1 := ediv_abs (2 * (t * (b.1 - a.1)) + n) (2 * n) (by omega) 2305843009213693952 (by omega) (by omega) (by omega)
  have q2 := ediv_abs (2 * (t * (b.2 - a.2)) + n) (2 * n) (by omega) 2305843009213693952 (by omega) (by omega) (by omega)
  refine on_walk a.1 a.2 b.1 b.2 t n (b.1 - a.1) (b.2 - a.2) (t * (b.1 - a.1)) (t * (b.2 - a.2)) _ _ _ _ w (Lib.hid ((wrap_is _).trans (wrapR _ (by omega) (by omega)))) (Lib.hid ((wrap_is _).trans (wrapR _ (by omega) (by omega)))) (Lib.hid ((wrap_is _).trans (wrapR _ ?_ ?_)))
    (Lib.hid ((wrap_is _).trans (wrapR _ (by omega) (by omega)))) (Lib.hid ((wrap_is _).trans (wrapR _ (by omega) (by omega)))) (Lib.hid ((wrap_is _).trans (wrapR _ ?_ ?_)))
    (Lib.hid fun w => quotient_c _ _ (by omega) (by omega) hn (by omega) w) (Lib.hid fun w => quotient_c _ _ (by omega) (by omega) hn (by omega) w)
  all_goals (unfold qI; omega)
end Go.Proofs.Ytclkkdhfdoidfaa
