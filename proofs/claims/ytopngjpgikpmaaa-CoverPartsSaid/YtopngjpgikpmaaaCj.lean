/- Layer 8: masks. -/
import Derived.Test.YtopngjpgikpmaaaCg
import Derived.Test.YtopngjpgikpmaaaCi
import Derived.Test.YtopngjpgikpmaaaCc
namespace Go.Proofs.Ytopngjpgikpmaaa
open Go.RowKit
/-- What Mask answers. -/
def maskO (P : List (List Pt)) (rule : Int) (w : Bx) : Int × List Nat := if ruleB rule && winB w && allR P then (0, maskI P rule w) else (30, [])
def MaskP (w : World) (u : Int × List Nat) (e : Ending) (w' : World) : Prop := ∃ v, e = .returned (.tuple #[v, .int .i64 u.1]) ∧ VRow w' v (bytesL u.2) ∧ Below w.heap.size w w'
theorem times_take (P : List (List Pt)) (k : Nat) (l : List Pt) (s : Pt) (h : P[k]? = some l) : timesI (P.take (k + 1)) s = timesI (P.take k) s + windsI l s := by
  unfold timesI
  rw [take_fold _ _ _ _ h]
theorem VRow.bytes {w : World} {b : Nat} {t : TypeId} {M : List Nat} (h : Blk w b t (bytesA M)) (n c : Nat) (hn : M.length = n) : VRow w (.slice (some ⟨b, 0, none⟩) n c) (bytesL M) := by
  refine .inr (.inr ⟨b, 0, c, by unfold bytesL; rw [List.length_map, hn], h.lt, fun i x hx => ?_⟩)
  unfold bytesL at hx
  rw [List.getElem?_map] at hx
  obtain ⟨m, hm, rfl⟩ := Option.map_eq_some_iff.1 hx
  rw [Nat.zero_add]
  exact h.byte hm
theorem pos_facts (oy r A ox m1 pos NM : Nat) (px0 x0 : Int) (hm1 : (oy + r / 4) * A = m1) (hpx : px0 = x0 + ox) (hx : -4194304 ≤ x0 ∧ x0 ≤ 4194304) (hox : ox < A) (hmul : m1 + A ≤ NM) (hNM : NM ≤ 65536) (hpos : m1 + ox = pos) :
    wrap64 (((oy : Int) + (r : Int) / 4) * (A : Int)) = (m1 : Int) ∧ wrap64 ((m1 : Int) + px0) = (m1 : Int) + px0 ∧ wrap64 ((m1 : Int) + px0 - x0) = (pos : Int) ∧ pos < NM := by
  have e : ((oy : Int) + (r : Int) / 4) * (A : Int) = (m1 : Int) := by rw [← hm1, Int.natCast_mul]; rfl
  clear hm1
  refine ⟨by rw [e]; exact wrapR _ (by omega) (by omega), wrapR _ (by omega) (by omega), ?_, by omega⟩
  rw [wrapR _ (by omega) (by omega)]
  omega
theorem rest_facts (pos NM ox A q m1 : Nat) (hpos : m1 + ox = pos) (hmul : m1 + A ≤ NM) (h : ox + q < A) : q < NM - pos ∧ pos + q < NM := by omega
/-- What the call has at hand, once its field is made. -/
structure MaskS (w W : World) (gp g h : Nat) (wb p : Bx) (fx fy : Int) (cols rows N : Nat) (L : List Int) : Prop where
  b : Below w.heap.size w W
  kw : Blk W w.heap.size 24 (four wb)
  kp : Blk W gp 24 (four p)
  k : FieldAt W g h fx fy cols rows N L
theorem MaskS.keep {w W W' : World} {gp g h : Nat} {wb p : Bx} {fx fy : Int} {cols rows N : Nat} {L : List Int} (m : MaskS w W gp g h wb p fx fy cols rows N L) {z : Nat} (hk : Keep (fun j => j ≠ z) W W') (h0 : w.heap.size < z) (h1 : gp ≠ z) (h2 : g ≠ z) (h3 : h ≠ z) : MaskS w W' gp g h wb p fx fy cols rows N L :=
  ⟨m.b.trans (hk.below (fun j hj => by omega) m.b.size), hk.blk m.kw (by omega), hk.blk m.kp h1, ⟨hk.blk m.k.f h2, hk.blk m.k.r h3, m.k.len, m.k.ne⟩⟩
set_option maxHeartbeats 2000000 in
set_option maxRecDepth 100000 in
theorem mask_e1 (s : Value) (rule x0 y0 x1 y1 : Int) (w : World)
    (HR : Hid (∀ w, Calls Try.prog 25 #[.int .i64 rule] w fun e w' => e = .returned (.bool false) ∧ w = w')) :
    Calls Try.prog 12 #[s, .int .i64 rule, .agg #[.int .i64 x0, .int .i64 y0, .int .i64 x1, .int .i64 y1]] w fun e w' => MaskP w (30, []) e w' := by
  go_enter Try.func12, Try.ntmps12
  go_wp2_with fail
  have B0 : Hid (Below w.heap.size w (w.alloc (.cells #[.int .i64 x0, .int .i64 y0, .int .i64 x1, .int .i64 y1] 24)) ∧ Blk (w.alloc (.cells #[.int .i64 x0, .int .i64 y0, .int .i64 x1, .int .i64 y1] 24)) w.heap.size 24 (four ⟨x0, y0, x1, y1⟩)) := ⟨(Below.refl _ _).alloc (Nat.le_refl _) _, Blk.new _ _ _⟩
  obtain ⟨w1, hw1⟩ : ∃ X, w.alloc (.cells #[.int .i64 x0, .int .i64 y0, .int .i64 x1, .int .i64 y1] 24) = X := ⟨_, rfl⟩
  rw [hw1] at B0 ⊢
  clear hw1
  refine (HR.out _).mono ?_
  rintro e w' ⟨rfl, rfl⟩
  have B1 := Lib.hid B0.out.1
  go_wp2_with fail
  go_ret2
  exact ⟨_, rfl, .inl ⟨rfl, rfl⟩, B1.out⟩
set_option maxHeartbeats 2000000 in
set_option maxRecDepth 100000 in
theorem mask_e2 (s : Value) (rule x0 y0 x1 y1 : Int) (w : World)
    (HR : Hid (∀ w, Calls Try.prog 25 #[.int .i64 rule] w fun e w' => e = .returned (.bool true) ∧ w = w'))
    (HW : Hid (∀ w, Calls Try.prog 26 #[.agg #[.int .i64 x0, .int .i64 y0, .int .i64 x1, .int .i64 y1]] w fun e w' => e = .returned (.bool false) ∧ Below w.heap.size w w')) :
    Calls Try.prog 12 #[s, .int .i64 rule, .agg #[.int .i64 x0, .int .i64 y0, .int .i64 x1, .int .i64 y1]] w fun e w' => MaskP w (30, []) e w' := by
  go_enter Try.func12, Try.ntmps12
  go_wp2_with fail
  have B0 : Hid (Below w.heap.size w (w.alloc (.cells #[.int .i64 x0, .int .i64 y0, .int .i64 x1, .int .i64 y1] 24)) ∧ Blk (w.alloc (.cells #[.int .i64 x0, .int .i64 y0, .int .i64 x1, .int .i64 y1] 24)) w.heap.size 24 (four ⟨x0, y0, x1, y1⟩)) := ⟨(Below.refl _ _).alloc (Nat.le_refl _) _, Blk.new _ _ _⟩
  obtain ⟨w1, hw1⟩ : ∃ X, w.alloc (.cells #[.int .i64 x0, .int .i64 y0, .int .i64 x1, .int .i64 y1] 24) = X := ⟨_, rfl⟩
  rw [hw1] at B0 ⊢
  clear hw1
  refine (HR.out _).mono ?_
  rintro e w' ⟨rfl, rfl⟩
  have B1 := Lib.hid B0.out.1
  have a0 := B0.out.2.b0
  have a1 := B0.out.2.b1
  have a2 := B0.out.2.b2
  have a3 := B0.out.2.b3
  go_wp2_with fail
  refine (HW.out _).mono ?_
  rintro e w2 ⟨rfl, hb⟩
  have K2 : Hid (Below w.heap.size w w2 ∧ Blk w2 w.heap.size 24 (four ⟨x0, y0, x1, y1⟩)) := ⟨B0.out.1.trans (hb.mono B0.out.1.size), B0.out.2.grow hb⟩
  clear hb B1 a0 a1 a2 a3
  have B1 := Lib.hid K2.out.1
  go_wp2_with fail
  go_ret2
  exact ⟨_, rfl, .inl ⟨rfl, rfl⟩, B1.out⟩
set_option maxHeartbeats 2000000 in
set_option maxRecDepth 100000 in
theorem mask_e3 (s : Value) (rule x0 y0 x1 y1 : Int) (w : World)
    (HR : Hid (∀ w, Calls Try.prog 25 #[.int .i64 rule] w fun e w' => e = .returned (.bool true) ∧ w = w'))
    (HW : Hid (∀ w, Calls Try.prog 26 #[.agg #[.int .i64 x0, .int .i64 y0, .int .i64 x1, .int .i64 y1]] w fun e w' => e = .returned (.bool true) ∧ Below w.heap.size w w'))
    (HA : Hid (∀ W, Below w.heap.size w W → Calls Try.prog 27 #[s] W fun e w' => e = .returned (.bool false) ∧ Below W.heap.size W w')) :
    Calls Try.prog 12 #[s, .int .i64 rule, .agg #[.int .i64 x0, .int .i64 y0, .int .i64 x1, .int .i64 y1]] w fun e w' => MaskP w (30, []) e w' := by
  go_enter Try.func12, Try.ntmps12
  go_wp2_with fail
  have B0 : Hid (Below w.heap.size w (w.alloc (.cells #[.int .i64 x0, .int .i64 y0, .int .i64 x1, .int .i64 y1] 24)) ∧ Blk (w.alloc (.cells #[.int .i64 x0, .int .i64 y0, .int .i64 x1, .int .i64 y1] 24)) w.heap.size 24 (four ⟨x0, y0, x1, y1⟩)) := ⟨(Below.refl _ _).alloc (Nat.le_refl _) _, Blk.new _ _ _⟩
  obtain ⟨w1, hw1⟩ : ∃ X, w.alloc (.cells #[.int .i64 x0, .int .i64 y0, .int .i64 x1, .int .i64 y1] 24) = X := ⟨_, rfl⟩
  rw [hw1] at B0 ⊢
  clear hw1
  refine (HR.out _).mono ?_
  rintro e w' ⟨rfl, rfl⟩
  have B1 := Lib.hid B0.out.1
  have a0 := B0.out.2.b0
  have a1 := B0.out.2.b1
  have a2 := B0.out.2.b2
  have a3 := B0.out.2.b3
  go_wp2_with fail
  refine (HW.out _).mono ?_
  rintro e w2 ⟨rfl, hb⟩
  have K2 : Hid (Below w.heap.size w w2 ∧ Blk w2 w.heap.size 24 (four ⟨x0, y0, x1, y1⟩)) := ⟨B0.out.1.trans (hb.mono B0.out.1.size), B0.out.2.grow hb⟩
  clear hb B1 a0 a1 a2 a3
  have B1 := Lib.hid K2.out.1
  go_wp2_with fail
  refine (HA.out _ K2.out.1).mono ?_
  rintro e w3 ⟨rfl, hb⟩
  have K3 : Hid (Below w.heap.size w w3 ∧ Blk w3 w.heap.size 24 (four ⟨x0, y0, x1, y1⟩)) := ⟨K2.out.1.trans (hb.mono K2.out.1.size), K2.out.2.grow hb⟩
  clear hb B1
  have B1 := Lib.hid K3.out.1
  go_wp2_with fail
  go_ret2
  exact ⟨_, rfl, .inl ⟨rfl, rfl⟩, B1.out⟩
set_option maxHeartbeats 8000000 in
set_option maxRecDepth 100000 in
theorem mask_walk (s : Value) (S : List (Value × List Pt)) (rule x0 y0 x1 y1 px0 py0 px1 py1 fx fy : Int) (b1 b2 : Bx) (A Dn NM ox oy cols rows N : Nat) (w : World) (row : PolyR w s S) (hS : S.length ≤ 100) (hSl : ∀ x ∈ S, x.2.length ≤ 100) (hSr : ∀ x ∈ S, x.2.all roomP = true)
    (HR : Hid (∀ w, Calls Try.prog 25 #[.int .i64 rule] w fun e w' => e = .returned (.bool true) ∧ w = w'))
    (HW : Hid (∀ w, Calls Try.prog 26 #[.agg #[.int .i64 x0, .int .i64 y0, .int .i64 x1, .int .i64 y1]] w fun e w' => e = .returned (.bool true) ∧ Below w.heap.size w w'))
    (HA : Hid (∀ W, Below w.heap.size w W → Calls Try.prog 27 #[s] W fun e w' => e = .returned (.bool true) ∧ Below W.heap.size W w'))
    (HBD : Hid (∀ W, Below w.heap.size w W → Calls Try.prog 29 #[s] W fun e w' => e = .returned (.agg (four b1)) ∧ Below W.heap.size W w'))
    (HAR : Hid (∀ W, Calls Try.prog 28 #[.agg (four b1)] W fun e w' => e = .returned (.agg (four b2)) ∧ Below W.heap.size W w'))
    (HME : Hid (∀ W, Calls Try.prog 30 #[.agg (four b2), .agg #[.int .i64 x0, .int .i64 y0, .int .i64 x1, .int .i64 y1]] W fun e w' => e = .returned (.agg #[.int .i64 px0, .int .i64 py0, .int .i64 px1, .int .i64 py1]) ∧ Below W.heap.size W w'))
    (hp0 : -4194304 ≤ px0 ∧ px0 ≤ 4194304) (hp1 : -4194304 ≤ py0 ∧ py0 ≤ 4194304) (hA : x1 - x0 = A) (hD : y1 - y0 = Dn) (hA2 : A ≤ 256) (hD2 : Dn ≤ 256) (hNM : A * Dn = NM) (hx0 : -4194304 ≤ x0 ∧ x0 ≤ 4194304) (hy0 : -4194304 ≤ y0 ∧ y0 ≤ 4194304)
    (hc : (px1 - px0) * 4 = cols) (hr : (py1 - py0) * 4 = rows) (hN : cols * rows = N) (hc2 : cols ≤ 1024) (hr2 : rows ≤ 1024) (hfx : px0 * 256 + 32 = fx) (hfy : py0 * 256 + 32 = fy)
    (hin : rows = 0 ∨ (0 < cols ∧ px0 = x0 + ox ∧ py0 = y0 + oy ∧ px1 ≤ x1 ∧ py1 ≤ y1)) (hz : rows = 0 → cols = 0) :
    Calls Try.prog 12 #[s, .int .i64 rule, .agg #[.int .i64 x0, .int .i64 y0, .int .i64 x1, .int .i64 y1]] w fun e w' => MaskP w (0, maskD (insI (S.map Prod.snd) rule ⟨px0, py0, px1, py1⟩) NM A ox oy rows cols rows cols) e w' := by
  obtain ⟨ao, sc, rfl⟩ := row.shape
  obtain ⟨n, hn⟩ : ∃ n, S.length = n := ⟨_, rfl⟩
  rw [hn] at row hS HA HBD ⊢
  have HROW := Lib.hid row; have HSN := Lib.hid hn; have HSS := Lib.hid hS; have HSL := Lib.hid hSl; have HSR := Lib.hid hSr
  have HP0 := Lib.hid hp0; have HP1 := Lib.hid hp1; have HAA := Lib.hid hA; have HDD := Lib.hid hD; have HA2 := Lib.hid hA2; have HD2 := Lib.hid hD2; have HNM := Lib.hid hNM; have HX0 := Lib.hid hx0; have HY0 := Lib.hid hy0
  have HC := Lib.hid hc; have HRR := Lib.hid hr; have HN := Lib.hid hN; have HC2 := Lib.hid hc2; have HR2 := Lib.hid hr2; have HFX := Lib.hid hfx; have HFY := Lib.hid hfy; have HIN := Lib.hid hin; have HZ := Lib.hid hz
  clear row hn hS hSl hSr hp0 hp1 hA hD hA2 hD2 hNM hx0 hy0 hc hr hN hc2 hr2 hfx hfy hin hz
  go_enter Try.func12, Try.ntmps12
  go_wp2_with fail
  have B0 : Hid (Below w.heap.size w (w.alloc (.cells #[.int .i64 x0, .int .i64 y0, .int .i64 x1, .int .i64 y1] 24)) ∧ Blk (w.alloc (.cells #[.int .i64 x0, .int .i64 y0, .int .i64 x1, .int .i64 y1] 24)) w.heap.size 24 (four ⟨x0, y0, x1, y1⟩)) := ⟨(Below.refl _ _).alloc (Nat.le_refl _) _, Blk.new _ _ _⟩
  obtain ⟨w1, hw1⟩ : ∃ X, w.alloc (.cells #[.int .i64 x0, .int .i64 y0, .int .i64 x1, .int .i64 y1] 24) = X := ⟨_, rfl⟩
  rw [hw1] at B0 ⊢
  clear hw1
  refine (HR.out _).mono ?_
  rintro e w' ⟨rfl, rfl⟩
  have B1 := Lib.hid B0.out.1
  have a0 := B0.out.2.b0
  have a1 := B0.out.2.b1
  have a2 := B0.out.2.b2
  have a3 := B0.out.2.b3
  go_wp2_with fail
  refine (HW.out _).mono ?_
  rintro e w2 ⟨rfl, hb⟩
  have K2 : Hid (Below w.heap.size w w2 ∧ Blk w2 w.heap.size 24 (four ⟨x0, y0, x1, y1⟩)) := ⟨B0.out.1.trans (hb.mono B0.out.1.size), B0.out.2.grow hb⟩
  clear hb B1 a0 a1 a2 a3
  have B1 := Lib.hid K2.out.1
  go_wp2_with fail
  refine (HA.out _ K2.out.1).mono ?_
  rintro e w3 ⟨rfl, hb⟩
  have K3 : Hid (Below w.heap.size w w3 ∧ Blk w3 w.heap.size 24 (four ⟨x0, y0, x1, y1⟩)) := ⟨K2.out.1.trans (hb.mono K2.out.1.size), K2.out.2.grow hb⟩
  clear hb B1
  have B1 := Lib.hid K3.out.1
  go_wp2_with fail
  refine wp_region_put2 (by kernel_rfl) (by kernel_rfl) (by kernel_rfl) (fun b' vs w' => (b' 0 = true → vs 0 = .slice ao n sc) ∧ (b' 1 = true → vs 1 = .agg (four b1)) ∧ (b' 2 = true → vs 2 = .agg (four b2)) ∧ (b' 3 = true → vs 3 = .agg #[.int .i64 x0, .int .i64 y0, .int .i64 x1, .int .i64 y1]) ∧ (b' 4 = true → vs 4 = .agg #[.int .i64 px0, .int .i64 py0, .int .i64 px1, .int .i64 py1]) ∧ Hid (LayG w3 [⟨5, 6, 24, four ⟨0, 0, 0, 0⟩, four ⟨px0, py0, px1, py1⟩⟩] b' vs w')) ?_ ?_ ?_
  · intro vs hvs
    exact ⟨fun h => Bool.noConfusion h, fun h => Bool.noConfusion h, fun h => Bool.noConfusion h, fun h => Bool.noConfusion h, fun h => Bool.noConfusion h, LayG.start vs⟩
  · rintro b' vs w' i op hi hun hall ⟨h0, h1, h2, h3, h4, hM⟩
    have hil : i < 7 := (List.getElem?_eq_some_iff.1 hi).1
    rcases i with _ | _ | _ | _ | _ | _ | _ | i
    · obtain rfl := Option.some.inj hi
      refine wpOp_step rfl (fun K hK => ?_)
      have HKK := Lib.hid hK; clear hK
      simp only [putAll, Act.put, List.setIfInBounds_toArray, List.set_cons_zero, List.set_cons_succ]
      go_simp
      exact HKK.out _ _ ⟨_, by simp only [putAll, Act.put, List.setIfInBounds_toArray, List.set_cons_zero, List.set_cons_succ] <;> rfl, fun _ => rfl, h1, h2, h3, h4, LayG.other hM.out 0 _ rfl⟩
    · obtain rfl := Option.some.inj hi
      have d0 := h0 (hall ⟨0, .data⟩ (by simp) rfl)
      refine wpOp_step rfl (fun K hK => ?_)
      have HKK := Lib.hid hK; clear hK
      simp only [putAll, Act.put, List.setIfInBounds_toArray, List.set_cons_zero, List.set_cons_succ, d0]
      go_simp
      refine (HBD.out w' (K3.out.1.trans ((LayG.below hM.out).mono K3.out.1.size))).mono ?_
      rintro e w2' ⟨rfl, hb2⟩
      exact HKK.out _ _ ⟨_, by simp only [putAll, Act.put, List.setIfInBounds_toArray, List.set_cons_zero, List.set_cons_succ, d0] <;> rfl, h0, fun _ => rfl, h2, h3, h4, LayG.other (LayG.grow hM.out hb2) 1 _ rfl⟩
    · obtain rfl := Option.some.inj hi
      have d1 := h1 (hall ⟨1, .data⟩ (by simp) rfl)
      refine wpOp_step rfl (fun K hK => ?_)
      have HKK := Lib.hid hK; clear hK
      simp only [putAll, Act.put, List.setIfInBounds_toArray, List.set_cons_zero, List.set_cons_succ, d1]
      go_simp
      refine (HAR.out w').mono ?_
      rintro e w2' ⟨rfl, hb2⟩
      exact HKK.out _ _ ⟨_, by simp only [putAll, Act.put, List.setIfInBounds_toArray, List.set_cons_zero, List.set_cons_succ, d1] <;> rfl, h0, h1, fun _ => rfl, h3, h4, LayG.other (LayG.grow hM.out hb2) 2 _ rfl⟩
    · obtain rfl := Option.some.inj hi
      have kk := K3.out.2.grow (LayG.below hM.out)
      have c0 := kk.b0
      have c1 := kk.b1
      have c2 := kk.b2
      have c3 := kk.b3
      clear kk
      refine wpOp_step rfl (fun K hK => ?_)
      have HKK := Lib.hid hK; clear hK
      simp only [putAll, Act.put, List.setIfInBounds_toArray, List.set_cons_zero, List.set_cons_succ]
      go_simp
      exact HKK.out _ _ ⟨_, by simp only [putAll, Act.put, List.setIfInBounds_toArray, List.set_cons_zero, List.set_cons_succ] <;> rfl, h0, h1, h2, fun _ => rfl, h4, LayG.other hM.out 3 _ rfl⟩
    · obtain rfl := Option.some.inj hi
      have d2 := h2 (hall ⟨2, .data⟩ (by simp) rfl)
      have d3 := h3 (hall ⟨3, .data⟩ (by simp) rfl)
      refine wpOp_step rfl (fun K hK => ?_)
      have HKK := Lib.hid hK; clear hK
      simp only [putAll, Act.put, List.setIfInBounds_toArray, List.set_cons_zero, List.set_cons_succ, d2, d3]
      go_simp
      refine (HME.out w').mono ?_
      rintro e w2' ⟨rfl, hb2⟩
      exact HKK.out _ _ ⟨_, by simp only [putAll, Act.put, List.setIfInBounds_toArray, List.set_cons_zero, List.set_cons_succ, d2, d3] <;> rfl, h0, h1, h2, h3, fun _ => rfl, LayG.other (LayG.grow hM.out hb2) 4 _ rfl⟩
    · obtain rfl := Option.some.inj hi
      refine wpOp_step rfl (fun K hK => ?_)
      have HKK := Lib.hid hK; clear hK
      simp only [putAll, Act.put, List.setIfInBounds_toArray, List.set_cons_zero, List.set_cons_succ]
      go_simp
      exact HKK.out _ _ ⟨_, by simp only [putAll, Act.put, List.setIfInBounds_toArray, List.set_cons_zero, List.set_cons_succ] <;> rfl, h0, h1, h2, h3, h4, LayG.made hM.out rfl ⟨5, 6, 24, four ⟨0, 0, 0, 0⟩, four ⟨px0, py0, px1, py1⟩⟩ (by simp) hun⟩
    · obtain rfl := Option.some.inj hi
      have d4 := h4 (hall ⟨4, .data⟩ (by simp) rfl)
      have dal := hall ⟨5, .data⟩ (by simp) rfl
      obtain ⟨g, eg, lg, kg⟩ := LayG.at hM.out ⟨5, 6, 24, four ⟨0, 0, 0, 0⟩, four ⟨px0, py0, px1, py1⟩⟩ (by simp) dal hun
      have kz : Blk w' g 24 (four ⟨0, 0, 0, 0⟩) := kg
      have c0 := kz.b0
      have c1 := kz.b1
      have c2 := kz.b2
      have c3 := kz.b3
      have f0 := kg.free 0
      have f1 := kg.free 1
      have f2 := kg.free 2
      have f3 := kg.free 3
      have lgw := kg.lt
      refine wpOp_step rfl (fun K hK => ?_)
      have HKK := Lib.hid hK; clear hK
      simp only [putAll, Act.put, List.setIfInBounds_toArray, List.set_cons_zero, List.set_cons_succ, d4, eg]
      go_simp
      exact HKK.out _ _ ⟨undef, by simp only [putAll, Act.put, List.setIfInBounds_toArray, List.set_cons_zero, List.set_cons_succ, d4, eg] <;> rfl, h0, h1, h2, h3, h4, LayG.stored hM.out rfl ⟨5, 6, 24, four ⟨0, 0, 0, 0⟩, four ⟨px0, py0, px1, py1⟩⟩ (by simp) undef dal eg (below_four (LayG.below hM.out) lg _ _ _ _) (kz.setB ⟨px0, py0, px1, py1⟩) (fun _ _ _ hne k => k.otherB hne _ _ _ _)⟩
    · exact absurd hil (by omega)
  · rintro b' vs w' hb ⟨h0, h1, h2, h3, h4, hM⟩
    obtain ⟨gp, e5, lgp, kgp⟩ := LayG.done hM.out ⟨5, 6, 24, four ⟨0, 0, 0, 0⟩, four ⟨px0, py0, px1, py1⟩⟩ (by simp) (hb 5 (by decide)) (hb 6 (by decide))
    have hbw := LayG.below hM.out
    have v0 := h0 (hb 0 (by decide))
    have v1 := h1 (hb 1 (by decide))
    have v2 := h2 (hb 2 (by decide))
    have v3 := h3 (hb 3 (by decide))
    have v4 := h4 (hb 4 (by decide))
    simp only [putAll, Act.put, List.setIfInBounds_toArray, List.set_cons_zero, List.set_cons_succ, e5, v0, v1, v2, v3, v4]
    have K4 : Hid (Below w.heap.size w w' ∧ Blk w' w.heap.size 24 (four ⟨x0, y0, x1, y1⟩) ∧ Blk w' gp 24 (four ⟨px0, py0, px1, py1⟩) ∧ w.heap.size < gp) := ⟨K3.out.1.trans (hbw.mono K3.out.1.size), K3.out.2.grow hbw, kgp, Nat.lt_of_lt_of_le K3.out.2.lt lgp⟩
    clear h0 h1 h2 h3 h4 hM hb e5 v0 v1 v2 v3 v4 lgp kgp hbw K3 K2 B0 B1
    obtain ⟨w4, rfl⟩ : ∃ X, X = w' := ⟨_, rfl⟩
    have q0 := K4.out.2.2.1.b0
    have q1 := K4.out.2.2.1.b1
    have q2 := K4.out.2.2.1.b2
    have q3 := K4.out.2.2.1.b3
    have HNF : Hid (Calls Try.prog 31 #[.agg #[.int .i64 px0, .int .i64 py0, .int .i64 px1, .int .i64 py1]] w4 fun e w' => ∃ g h, e = .returned (.pointer (some ⟨g, 0, none⟩)) ∧ w4.heap.size ≤ g ∧ w4.heap.size ≤ h ∧
          FieldAt w' g h (px0 * 256 + 32) (py0 * 256 + 32) cols rows N (List.replicate N 0) ∧ Below w4.heap.size w4 w') := newField_c ⟨px0, py0, px1, py1⟩ cols rows N w4 HP0.out HP1.out HC.out HRR.out HC2.out HR2.out HN.out (by rw [← HN.out]; exact Nat.le_trans (Nat.mul_le_mul HC2.out HR2.out) (by decide))
    go_wp2_with fail
    refine (HNF.out).mono ?_
    rintro e w5 ⟨g, h, rfl, hg, hh, hF, hb⟩
    rw [HFX.out, HFY.out] at hF
    have K5 : Hid (MaskS w w5 gp g h ⟨x0, y0, x1, y1⟩ ⟨px0, py0, px1, py1⟩ fx fy cols rows N (List.replicate N 0) ∧ w.heap.size < h ∧ gp ≠ h ∧ g ≠ h ∧ w.heap.size < g ∧ gp < w5.heap.size) := by
      have h1 := K4.out.2.2.1.lt
      have h2 := K4.out.2.1.lt
      exact ⟨⟨K4.out.1.trans (hb.mono K4.out.1.size), K4.out.2.1.grow hb, K4.out.2.2.1.grow hb, hF⟩, by omega, by omega, hF.ne, by omega, Nat.lt_of_lt_of_le h1 hb.size⟩
    clear hg hh hF hb q0 q1 q2 q3 HNF
    go_wp2_with fail
    go_loopw [38] (fun i wr => ∃ (k : Nat) (L' : List Int), k ≤ n ∧ i = .int .i64 k ∧ Hid (MaskS w wr gp g h ⟨x0, y0, x1, y1⟩ ⟨px0, py0, px1, py1⟩ fx fy cols rows N L' ∧ (∀ v ∈ L', -((100 * k : Nat) : Int) ≤ v ∧ v ≤ ((100 * k : Nat) : Int)) ∧
        (∀ r c, r < rows → c < cols → suf L' cols r c = timesI ((S.map Prod.snd).take k) (sampF fx fy r c)))) (fun i _ => n - (intOf i).toNat)
    case atStart =>
      refine ⟨0, _, by omega, rfl, K5.out.1, fun v hv => ?_, fun r c _ _ => ?_⟩
      · rw [List.eq_of_mem_replicate hv]; omega
      · rw [suf_zero]; rfl
    case round =>
      obtain ⟨k, L', hk, rfl, hw⟩ := hrel
      by_cases hlt : k < n
      · have hd : decide ((k : Int) < (n : Int)) = true := by simp; omega
        obtain ⟨⟨v, l⟩, hq⟩ : ∃ q, S[k]? = some q := ⟨_, List.getElem?_eq_getElem (by rw [HSN.out]; exact hlt)⟩
        have hm := List.mem_of_getElem? hq
        obtain ⟨b, o, rfl, hbs, c0⟩ := (HROW.out.on hw.out.1.b).at hq
        have hPk : (S.map Prod.snd)[k]? = some l := by rw [List.getElem?_map, hq]; rfl
        have HT : Hid (Calls Try.prog 32 #[.pointer (some ⟨g, 0, none⟩), v] wr fun e w' => e = .returned (.tuple #[]) ∧ ∃ L'' : List Int, FieldAt w' g h fx fy cols rows N L'' ∧ Keep (fun j => j ≠ h) wr w' ∧
            (∀ v ∈ L'', -((100 * k + l.length : Nat) : Int) ≤ v ∧ v ≤ ((100 * k + l.length : Nat) : Int)) ∧ (∀ r c, r < rows → c < cols → suf L'' cols r c = suf L' cols r c + windsI l (sampF fx fy r c))) :=
          take_c w g h fx fy cols rows N (100 * k) L' v l wr hw.out.1.b (HROW.out.2 _ hm) (by have := K5.out.2.1; omega) hw.out.1.k (by have := HSL.out _ hm; simp only at this; omega) (HSR.out _ hm) (by have := HFX.out; have := HP0.out; omega) (by have := HFY.out; have := HP1.out; omega) HN.out HC2.out HR2.out (by have := HSS.out; omega) hw.out.2.1
        have HLN : Hid (l.length ≤ 100) := HSL.out _ hm
        have HPK := Lib.hid hPk
        have hSS := HSS.out
        clear hq hm hbs hPk
        simp only at c0
        go_wp2_with fail
        refine (HT.out).mono ?_
        rintro e w6 ⟨rfl, L'', f1, f2, f3, f4⟩
        have F1 : Hid (MaskS w w6 gp g h ⟨x0, y0, x1, y1⟩ ⟨px0, py0, px1, py1⟩ fx fy cols rows N L'' ∧ (∀ v ∈ L'', -((100 * (k + 1) : Nat) : Int) ≤ v ∧ v ≤ ((100 * (k + 1) : Nat) : Int)) ∧
            (∀ r c, r < rows → c < cols → suf L'' cols r c = timesI ((S.map Prod.snd).take (k + 1)) (sampF fx fy r c))) := by
          have h1 := K5.out
          refine ⟨⟨hw.out.1.b.trans (f2.below (fun j hj => by have := h1.2.1; omega) hw.out.1.b.size), f2.blk hw.out.1.kw (by have := h1.2.1; omega), f2.blk hw.out.1.kp h1.2.2.1, f1⟩, fun v hv => ?_, fun r c h2 h3 => ?_⟩
          · have := f3 v hv
            have := HLN.out
            omega
          · rw [f4 r c h2 h3, hw.out.2.2 r c h2 h3, times_take _ _ _ _ HPK.out]
        clear f1 f2 f3 f4 HT c0
        go_wp2_with fail
        exact ⟨⟨k + 1, L'', by omega, by go_num, F1.out⟩, by simp [intOf]; omega⟩
      · have hd : decide ((k : Int) < (n : Int)) = false := by simp; omega
        have hT : (S.map Prod.snd).take k = S.map Prod.snd := List.take_of_length_le (by rw [List.length_map, HSN.out]; omega)
        have M1 : Hid (MaskS w wr gp g h ⟨x0, y0, x1, y1⟩ ⟨px0, py0, px1, py1⟩ fx fy cols rows N L' ∧ (∀ v ∈ L', -((10000 : Nat) : Int) ≤ v ∧ v ≤ ((10000 : Nat) : Int)) ∧ (∀ r c, r < rows → c < cols → suf L' cols r c = timesI (S.map Prod.snd) (sampF fx fy r c))) := by
          refine ⟨hw.out.1, fun v hv => ?_, ?_⟩
          · have := hw.out.2.1 v hv
            have := HSS.out
            omega
          · rw [← hT]; exact hw.out.2.2
        have a0 := hw.out.1.kw.b0
        have a1 := hw.out.1.kw.b1
        have a2 := hw.out.1.kw.b2
        have a3 := hw.out.1.kw.b3
        have a4 := hw.out.1.k.c3
        have hfl := hw.out.1.k.f.lt
        have hwl := hw.out.1.kw.lt
        have eA : wrap64 (x1 - x0) = (A : Int) := by rw [HAA.out]; have := HA2.out; exact wrapR _ (by omega) (by omega)
        have eD : wrap64 (y1 - y0) = (Dn : Int) := by rw [HDD.out]; have := HD2.out; exact wrapR _ (by omega) (by omega)
        have hNMb : NM ≤ 65536 := by rw [← HNM.out]; exact Nat.le_trans (Nat.mul_le_mul HA2.out HD2.out) (by decide)
        have eN : wrap64 ((A : Int) * (Dn : Int)) = (NM : Int) := by rw [← Int.natCast_mul, HNM.out]; exact wrapR _ (Int.le_trans (by decide) (Int.natCast_nonneg _)) (Int.le_trans (Int.ofNat_le.2 hNMb) (by decide))
        have HMK : ∀ W : World, (Instr.makeSlice 29 (.int .i64 (NM : Int)) (.int .i64 (NM : Int))).run Try.prog W = .ok (.slice (some ⟨W.heap.size, 0, none⟩) NM NM) (W.alloc (.cells (Array.replicate NM (Value.int .u8 0)) 5)) := fun W => make_bytes W NM (Nat.le_trans hNMb (by decide))
        have HNMB := Lib.hid hNMb
        clear hT hNMb
        go_wp2_with fail
        obtain ⟨hm, hhm⟩ : ∃ x, wr.heap.size = x := ⟨_, rfl⟩
        obtain ⟨w7, hw7⟩ : ∃ X, wr.alloc (.cells (Array.replicate NM (Value.int .u8 0)) 5) = X := ⟨_, rfl⟩
        have M2 : Hid (MaskS w w7 gp g h ⟨x0, y0, x1, y1⟩ ⟨px0, py0, px1, py1⟩ fx fy cols rows N L' ∧ Blk w7 hm 5 (bytesA (maskD (insI (S.map Prod.snd) rule ⟨px0, py0, px1, py1⟩) NM A ox oy rows cols 0 cols)) ∧ w.heap.size < hm ∧ hm ≠ h ∧ hm ≠ g ∧ hm ≠ gp) := by
          rw [← hw7, maskD_start, ← bytesA_zero]
          have h1 := hw.out.1.k.f.lt
          have h2 := hw.out.1.k.r.lt
          have h3 := hw.out.1.kp.lt
          have h4 := hw.out.1.kw.lt
          exact ⟨⟨hw.out.1.b.alloc hw.out.1.b.size _, hw.out.1.kw.alloc _, hw.out.1.kp.alloc _, hw.out.1.k.alloc _⟩, Blk.newAt _ _ _ hhm, by omega, by omega, by omega, by omega⟩
        have hM3 := M2.out.1.k.c3
        rw [hw7, hhm]
        clear hw7 hhm hfl hwl a0 a1 a2 a3 a4 eA eD eN HMK
        go_wp2_with fail
        go_loopw [63] (fun i wq => ∃ r : Nat, r ≤ rows ∧ i = .int .i64 r ∧ Hid (MaskS w wq gp g h ⟨x0, y0, x1, y1⟩ ⟨px0, py0, px1, py1⟩ fx fy cols rows N L' ∧ Blk wq hm 5 (bytesA (maskD (insI (S.map Prod.snd) rule ⟨px0, py0, px1, py1⟩) NM A ox oy rows cols r cols)))) (fun i _ => rows - (intOf i).toNat)
        case atStart => exact ⟨0, by omega, rfl, M2.out.1, M2.out.2.1⟩
        case round =>
          obtain ⟨r, hr, rfl, hq⟩ := hrel
          by_cases hlt2 : r < rows
          · have hd : decide ((r : Int) < (rows : Int)) = true := by simp; omega
            have hin : 0 < cols ∧ px0 = x0 + ox ∧ py0 = y0 + oy ∧ px1 ≤ x1 ∧ py1 ≤ y1 := by
              rcases HIN.out with h1 | h1
              · omega
              · exact h1
            obtain ⟨i1, i2, i3, i4, i5⟩ := hin
            have g1 := HAA.out; have g2 := HDD.out; have g3 := HC.out; have g4 := HRR.out; have g5 := HA2.out; have g6 := HD2.out; have g7 := HX0.out; have g8 := HY0.out; have g9 := HP0.out; have g10 := HP1.out
            have hoy : oy + r / 4 + 1 ≤ Dn := by omega
            have hox : ∀ k, k < cols → ox + k / 4 < A := fun k hk => by omega
            have hmul : (oy + r / 4) * A + A ≤ NM := by
              have h1 := Nat.mul_le_mul_right A hoy
              rw [Nat.succ_mul] at h1
              rw [← HNM.out, Nat.mul_comm A Dn]
              exact h1
            obtain ⟨m1, hm1⟩ : ∃ x, (oy + r / 4) * A = x := ⟨_, rfl⟩
            rw [hm1] at hmul
            have hox0 : ox < A := by have := hox 0 i1; omega
            obtain ⟨pos, hpos⟩ : ∃ x, m1 + ox = x := ⟨_, rfl⟩
            have hNMb := HNMB.out
            have e70 : wrap64 (py0 - y0) = (oy : Int) := by rw [i3, wrapR _ (by omega) (by omega)]; omega
            obtain ⟨e80, e83, e86, hposN⟩ := pos_facts oy r A ox m1 pos NM px0 x0 hm1 i2 g7 hox0 hmul hNMb hpos
            have hcut := fun W : World => cut_bytes hm NM pos hposN W
            have HLY : Hid (∀ rc rc1, r * cols = rc → (r + 1) * cols = rc1 → Calls Try.prog 33 #[.pointer (some ⟨g, 0, none⟩), .int .i64 (r : Int), .int .i64 rule, .slice (some ⟨hm, pos, none⟩) (NM - pos) (NM - pos)] wr fun e w' => e = .returned (.tuple #[]) ∧ Blk w' hm 5 (bytesA (maskD (insI (S.map Prod.snd) rule ⟨px0, py0, px1, py1⟩) NM A ox oy rows cols (r + 1) cols)) ∧ Keep (fun j => j ≠ hm) wr w') := fun rc rc1 h1 h2 =>
              lay_walk wr g h hm fx fy cols rows N 10000 rc rc1 L' r rule _ (insI (S.map Prod.snd) rule ⟨px0, py0, px1, py1⟩) NM A ox oy pos (NM - pos) (NM - pos) hq.out.1.k hq.out.2 rfl M2.out.2.2.2.1 M2.out.2.2.2.2.1 hlt2 HN.out i1 HC2.out HR2.out (by decide) M1.out.2.1 h1 h2
                (fun k hk => by
                  rw [M1.out.2.2 r k hlt2 hk]
                  unfold insI insideI sampF
                  rw [← HFX.out, ← HFY.out])
                (by rw [hm1]; exact hpos) hox (fun k hk => (rest_facts pos NM ox A (k / 4) m1 hpos hmul (hox k hk)).1) (fun k hk => (rest_facts pos NM ox A (k / 4) m1 hpos hmul (hox k hk)).2)
            have a0 := hq.out.1.kw.b0
            have a1 := hq.out.1.kw.b1
            have b0 := hq.out.1.kp.b0
            have b1' := hq.out.1.kp.b1
            have hr4 : r ≤ 1024 := by have := HR2.out; omega
            have hoy4 : oy ≤ 256 := by omega
            clear i1 i2 i3 i4 i5 g1 g2 g3 g4 g5 g6 g7 g8 g9 g10 hoy hox hmul hm1 hox0 hpos hNMb hposN
            go_wp2_with fail
            refine (HLY.out _ _ rfl rfl).mono ?_
            rintro e w8 ⟨rfl, f1, f2⟩
            have F2 : Hid (MaskS w w8 gp g h ⟨x0, y0, x1, y1⟩ ⟨px0, py0, px1, py1⟩ fx fy cols rows N L' ∧ Blk w8 hm 5 (bytesA (maskD (insI (S.map Prod.snd) rule ⟨px0, py0, px1, py1⟩) NM A ox oy rows cols (r + 1) cols))) := ⟨hq.out.1.keep f2 M2.out.2.2.1 (Ne.symm M2.out.2.2.2.2.2) (Ne.symm M2.out.2.2.2.2.1) (Ne.symm M2.out.2.2.2.1), f1⟩
            clear f1 f2 HLY a0 a1 b0 b1' e70 e80 e83 e86 hcut
            go_wp2_with fail
            exact ⟨⟨r + 1, by omega, by go_num, F2.out⟩, by simp [intOf]; omega⟩
          · have hd : decide ((r : Int) < (rows : Int)) = false := by simp; omega
            obtain rfl : r = rows := by omega
            go_wp2_with fail
            go_ret2
            exact ⟨_, rfl, VRow.bytes hq.out.2 NM NM (by unfold maskD; simp), hq.out.1.b⟩
/-- The numbers of a bound of points in room. -/
def nearB (b : Bx) : Prop := (-2147483648 ≤ b.x0 ∧ b.x0 ≤ 2147483649) ∧ (-2147483648 ≤ b.y0 ∧ b.y0 ≤ 2147483649) ∧ (-2147483648 ≤ b.x1 ∧ b.x1 ≤ 2147483649) ∧ (-2147483648 ≤ b.y1 ∧ b.y1 ≤ 2147483649)
theorem near_join {a b : Bx} (h : nearB a) (k : nearB b) : nearB (joinI a b) := by
  unfold joinI
  split
  · split
    · unfold nearB; simp only; omega
    · exact k
  · split
    · exact h
    · unfold nearB join0 at *; simp only; omega
theorem near_zero : nearB ⟨0, 0, 0, 0⟩ := by unfold nearB; simp only; omega
theorem near_fold (l : List Pt) : l.all roomP = true → ∀ b, nearB b → nearB (l.foldl bstep b) := by
  induction l with
  | nil => intro _ b h; exact h
  | cons p l ih =>
    intro hl b h
    simp only [List.all_cons, Bool.and_eq_true] at hl
    rw [List.foldl_cons]
    refine ih hl.2 _ (near_join h ?_)
    have h1 := hl.1
    simp only [roomP, Bool.and_eq_true, room_iff] at h1
    unfold nearB ptBox
    simp only
    omega
theorem near_boundP (P : List (List Pt)) : allR P = true → ∀ b, nearB b → nearB (P.foldl (fun b l => joinI b (boundI l)) b) := by
  induction P with
  | nil => intro _ b h; exact h
  | cons l P ih =>
    intro hl b h
    unfold allR at hl
    simp only [List.all_cons, Bool.and_eq_true] at hl
    rw [List.foldl_cons]
    exact ih hl.2 _ (near_join h (near_fold l hl.1 _ near_zero))
theorem mask_c (s : Value) (S : List (Value × List Pt)) (rule : Int) (wb : Bx) (w : World) (row : PolyR w s S) (hS : S.length ≤ 100) (hSl : ∀ x ∈ S, x.2.length ≤ 100) :
    Calls Try.prog 12 #[s, .int .i64 rule, .agg #[.int .i64 wb.x0, .int .i64 wb.y0, .int .i64 wb.x1, .int .i64 wb.y1]] w fun e w' => MaskP w (maskO (S.map Prod.snd) rule wb) e w' := by
  have HR := Lib.hid (isRule_c rule)
  have HW := Lib.hid (isWindow_c wb)
  have HA : Hid (∀ W, Below w.heap.size w W → Calls Try.prog 27 #[s] W fun e w' => e = .returned (.bool (allR (S.map Prod.snd))) ∧ Below W.heap.size W w') :=
    fun W hb => allIn_c s S W (by omega) (fun x hx => Nat.le_trans (hSl x hx) (by decide)) (row.on hb)
  unfold maskO
  cases h1 : ruleB rule
  · rw [h1] at HR
    exact mask_e1 s rule _ _ _ _ w HR
  cases h2 : winB wb
  · rw [h1] at HR; rw [h2] at HW
    exact mask_e2 s rule _ _ _ _ w HR HW
  cases h3 : allR (S.map Prod.snd)
  · rw [h1] at HR; rw [h2] at HW; rw [h3] at HA
    exact mask_e3 s rule _ _ _ _ w HR HW HA
  rw [h1] at HR; rw [h2] at HW; rw [h3] at HA
  rw [show (true && true && true) = true from rfl, if_pos rfl]
  have hSr : ∀ x ∈ S, x.2.all roomP = true := fun x hx => by
    unfold allR at h3
    exact List.all_eq_true.1 h3 _ (List.mem_map_of_mem hx)
  have hnb : nearB (boundP (S.map Prod.snd)) := near_boundP _ h3 _ near_zero
  rw [winB_iff] at h2
  have e1 : ((acrossI wb : Nat) : Int) = wb.x1 - wb.x0 := by unfold acrossI; omega
  have e2 : ((downI wb : Nat) : Int) = wb.y1 - wb.y0 := by unfold downI; omega
  have hbd : Hid (∀ W, Below w.heap.size w W → Calls Try.prog 29 #[s] W fun e w' => e = .returned (.agg (four (boundP (S.map Prod.snd)))) ∧ Below W.heap.size W w') :=
    fun W hb => boundP_c s S W (by omega) (fun x hx => Nat.le_trans (hSl x hx) (by decide)) hSr (row.on hb)
  have har := Lib.hid (around_c (boundP (S.map Prod.snd)) (by unfold nearB at hnb; unfold I64; omega) (by unfold nearB at hnb; unfold I64; omega))
  have hme := Lib.hid (meet_c (aroundI (boundP (S.map Prod.snd))) wb)
  have hpi := part_in (S.map Prod.snd) wb
  have hpe : meetI (aroundI (boundP (S.map Prod.snd))) wb = partI (S.map Prod.snd) wb := rfl
  rw [hpe] at hme
  have hfin := mask_final (S.map Prod.snd) rule wb (partI (S.map Prod.snd) wb) rfl
  generalize hp : partI (S.map Prod.snd) wb = p at hme hpi hfin
  have key : ∃ ox oy cols rows : Nat, (-4194304 ≤ p.x0 ∧ p.x0 ≤ 4194304) ∧ (-4194304 ≤ p.y0 ∧ p.y0 ≤ 4194304) ∧ (p.x1 - p.x0) * 4 = cols ∧ (p.y1 - p.y0) * 4 = rows ∧ cols ≤ 1024 ∧ rows ≤ 1024 ∧ (rows = 0 ∨ (0 < cols ∧ p.x0 = wb.x0 + ox ∧ p.y0 = wb.y0 + oy ∧ p.x1 ≤ wb.x1 ∧ p.y1 ≤ wb.y1)) ∧ (rows = 0 → cols = 0) ∧
      ((rows = 0 ∧ cols = 0 ∧ p = ⟨0, 0, 0, 0⟩) ∨ (p.x0 = wb.x0 + (ox : Int) ∧ p.y0 = wb.y0 + (oy : Int) ∧ (rows : Int) = 4 * (p.y1 - p.y0) ∧ (cols : Int) = 4 * (p.x1 - p.x0))) := by
    rcases hpi with rfl | ⟨q1, q2, q3, q4, q5, q6⟩
    · exact ⟨0, 0, 0, 0, by simp, by simp, by simp, by simp, by omega, by omega, .inl rfl, fun _ => rfl, .inl ⟨rfl, rfl, rfl⟩⟩
    · exact ⟨(p.x0 - wb.x0).toNat, (p.y0 - wb.y0).toNat, ((p.x1 - p.x0) * 4).toNat, ((p.y1 - p.y0) * 4).toNat, by omega, by omega, by omega, by omega, by omega, by omega, .inr (by omega), by omega, .inr (by omega)⟩
  obtain ⟨ox, oy, cols, rows, k1, k2, k3, k4, k5, k6, k7, k8, k9⟩ := key
  have hf := hfin ox oy rows cols k9
  rw [← hf]
  exact mask_walk s S rule wb.x0 wb.y0 wb.x1 wb.y1 p.x0 p.y0 p.x1 p.y1 _ _ _ _ (acrossI wb) (downI wb) _ ox oy cols rows _ w row hS hSl hSr HR HW HA hbd har hme k1 k2 e1.symm e2.symm (by omega) (by omega) rfl (by omega) (by omega) k3 k4 rfl k5 k6 rfl rfl k7 k8
end Go.Proofs.Ytopngjpgikpmaaa
