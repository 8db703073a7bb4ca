/- Layer 5: At. -/
import Derived.Test.YthlealndopppaaaNW
import Derived.Test.YthlealndopppaaaV
import Derived.Test.YthlealndopppaaaNm
namespace Go.Proofs.Ythlealndopppaaa
open Go.RowKit
/-- Weights times numbers, the first k of them. -/
def dotF (W : List Int) (f : Nat → Int) : Nat → Int
  | 0 => 0
  | k + 1 => dotF W f k + W.getD k 0 * f k
theorem prod_box {a x A X : Int} (ha : 0 ≤ a ∧ a ≤ A) (hx : -X ≤ x ∧ x ≤ X) (hX : 0 ≤ X) : -(A * X) ≤ a * x ∧ a * x ≤ A * X := by
  have h1 := Int.mul_le_mul_of_nonneg_left hx.1 ha.1
  have h2 := Int.mul_le_mul_of_nonneg_left hx.2 ha.1
  have h3 := Int.mul_le_mul_of_nonneg_right ha.2 hX
  have h4 : a * -X = -(a * X) := Int.mul_neg _ _
  omega
theorem dotF_bound {W : List Int} {f : Nat → Int} (hW : ∀ t, 0 ≤ W.getD t 0 ∧ W.getD t 0 ≤ 2097152) (hf : ∀ t, -2147483648 ≤ f t ∧ f t ≤ 2147483648) : ∀ k : Nat, -((k : Int) * 4503599627370496) ≤ dotF W f k ∧ dotF W f k ≤ (k : Int) * 4503599627370496
  | 0 => by simp [dotF]
  | k + 1 => by
    have h := dotF_bound hW hf k
    have hp := prod_box (hW k) (hf k) (by omega)
    unfold dotF
    push_cast
    omega
theorem Row.ptsA {W : World} {bb o N c : Nat} {L : List Pt} (h : Row W (.slice (some ⟨bb, o, none⟩) N c) L) (hL : L ≠ []) : PtsAt W bb o L := by
  rcases h with ⟨_, e⟩ | ⟨_, _, _, e⟩ | ⟨b, o', c', e, _, hp⟩
  · exact absurd e hL
  · exact absurd e hL
  · simp at e
    obtain ⟨⟨rfl, rfl⟩, _⟩ := e
    exact hp
set_option maxHeartbeats 4000000 in
set_option maxRecDepth 100000 in
theorem at_walk (b o N c D : Nat) (i : Int) (l : List Pt) (W : List Int) (w : World) (hN : N ≤ 4) (hN0 : 0 < N)
    (HL : Hid (l.length = N ∧ W.length = N ∧ (∀ t, 0 ≤ W.getD t 0 ∧ W.getD t 0 ≤ 2097152) ∧ ∀ p ∈ l, roomP p = true)) (HROW : Hid (Row w (.slice (some ⟨b, o, none⟩) N c) l))
    (HW : Hid (Calls Try.prog 31 #[.int .i64 (N : Int), .int .i64 i, .int .i64 (D : Int)] w fun e w' => ∃ gb, e = .returned (.slice (some ⟨gb, 0, none⟩) N N) ∧ Blk w' gb 3 (W.map (Value.int .i64)).toArray ∧ Below w.heap.size w w')) :
    Calls Try.prog 19 #[.slice (some ⟨b, o, none⟩) N c, .int .i64 i, .int .i64 (D : Int)] w fun e w' => e = .returned (.tuple #[.int .i64 (dotF W (fun t => (l.getD t (0, 0)).1) N), .int .i64 (dotF W (fun t => (l.getD t (0, 0)).2) N)]) ∧ Below w.heap.size w w' := by
  have hroom : ∀ t, roomP (l.getD t (0, 0)) = true := fun t => by
    rw [List.getD_eq_getElem?_getD]
    cases hq : l[t]? with
    | none => rfl
    | some a => exact HL.out.2.2.2 a (List.mem_of_getElem? hq)
  have HBX := Lib.hid (dotF_bound (W := W) (f := fun t => (l.getD t (0, 0)).1) HL.out.2.2.1 (fun t => by have := roomP_iff.1 (hroom t); exact this.1))
  have HBY := Lib.hid (dotF_bound (W := W) (f := fun t => (l.getD t (0, 0)).2) HL.out.2.2.1 (fun t => by have := roomP_iff.1 (hroom t); exact this.2))
  obtain ⟨fx, hfx⟩ : ∃ f : Nat → Int, (fun t => (l.getD t (0, 0)).1) = f := ⟨_, rfl⟩
  obtain ⟨fy, hfy⟩ : ∃ f : Nat → Int, (fun t => (l.getD t (0, 0)).2) = f := ⟨_, rfl⟩
  rw [hfx, hfy]
  rw [hfx] at HBX
  rw [hfy] at HBY
  have HFX := Lib.hid hfx; have HFY := Lib.hid hfy
  clear hroom hfx hfy
  go_enter Try.func19, Try.ntmps19
  go_wp2_with fail
  refine HW.out.mono ?_
  rintro e w1 ⟨gb, rfl, hbk, hb⟩
  have S1 : Hid (Blk w1 gb 3 (W.map (Value.int .i64)).toArray ∧ Row w1 (.slice (some ⟨b, o, none⟩) N c) l ∧ Below w.heap.size w w1) := ⟨hbk, HROW.out.on hb, hb⟩
  clear hbk hb
  go_wp2_with fail
  go_loopw [9, 10, 11] (fun xv yv kv wr => ∃ k : Nat, k ≤ N ∧ kv = .int .i64 k ∧ xv = .int .i64 (dotF W fx k) ∧ yv = .int .i64 (dotF W fy k) ∧ Hid (Below w1.heap.size w1 wr)) (fun _ _ kv _ => N - (intOf kv).toNat)
  case atStart => exact ⟨0, by omega, rfl, rfl, rfl, Below.refl _ _⟩
  case round =>
    obtain ⟨k, hk, rfl, rfl, rfl, hw⟩ := hrel
    by_cases hlt : k < N
    · have hd : decide ((k : Int) < (N : Int)) = true := decide_eq_true (by omega)
      obtain ⟨p, hp⟩ : ∃ p, l[k]? = some p := ⟨_, List.getElem?_eq_getElem (by rw [HL.out.1]; exact hlt)⟩
      obtain ⟨wv, hwv⟩ : ∃ v, W[k]? = some v := ⟨_, List.getElem?_eq_getElem (by rw [HL.out.2.1]; exact hlt)⟩
      have hwD : W.getD k 0 = wv := by rw [List.getD_eq_getElem?_getD, hwv]; rfl
      have hpD : l.getD k (0, 0) = p := by rw [List.getD_eq_getElem?_getD, hp]; rfl
      have hbw : 0 ≤ wv ∧ wv ≤ 2097152 := hwD ▸ HL.out.2.2.1 k
      have hbp := roomP_iff.1 (HL.out.2.2.2 p (List.mem_of_getElem? hp))
      obtain ⟨x, hx⟩ : ∃ z, dotF W fx k = z := ⟨_, rfl⟩
      obtain ⟨y, hy⟩ : ∃ z, dotF W fy k = z := ⟨_, rfl⟩
      obtain ⟨prx, hprx⟩ : ∃ z, wv * p.1 = z := ⟨_, rfl⟩
      obtain ⟨pry, hpry⟩ : ∃ z, wv * p.2 = z := ⟨_, rfl⟩
      obtain ⟨sx, hsx⟩ : ∃ z, x + prx = z := ⟨_, rfl⟩
      obtain ⟨sy, hsy⟩ : ∃ z, y + pry = z := ⟨_, rfl⟩
      have bx := HBX.out k
      have bY := HBY.out k
      rw [hx] at bx
      rw [hy] at bY
      have bp1 := prod_box hbw hbp.1 (by omega)
      have bp2 := prod_box hbw hbp.2 (by omega)
      rw [hprx] at bp1
      rw [hpry] at bp2
      have EP1 : Hid (IntKind.i64.wrap (wv * p.1) = prx) := by unfold Hid; rw [wrap_is, hprx, wrapR _ (by omega) (by omega)]
      have EP2 : Hid (IntKind.i64.wrap (wv * p.2) = pry) := by unfold Hid; rw [wrap_is, hpry, wrapR _ (by omega) (by omega)]
      have ES1 : Hid (IntKind.i64.wrap (x + prx) = sx) := by unfold Hid; rw [wrap_is, hsx, wrapR _ (by omega) (by omega)]
      have ES2 : Hid (IntKind.i64.wrap (y + pry) = sy) := by unfold Hid; rw [wrap_is, hsy, wrapR _ (by omega) (by omega)]
      have HSX : Hid (dotF W fx (k + 1) = sx) := by
        unfold Hid dotF
        rw [hx, hwD, ← HFX.out]
        simp only [hpD]
        rw [hprx, hsx]
      have HSY : Hid (dotF W fy (k + 1) = sy) := by
        unfold Hid dotF
        rw [hy, hwD, ← HFY.out]
        simp only [hpD]
        rw [hpry, hsy]
      have HV0 : Hid (∀ w', Below w1.heap.size w1 w' → w'.cell? ⟨gb, k, none⟩ = some (.int .i64 wv) ∧ w'.cell? ⟨b, o + k * 2, none⟩ = some (.int .i64 p.1) ∧ w'.cell? ⟨b, o + k * 2 + 1, none⟩ = some (.int .i64 p.2)) := fun w' hw' =>
        ⟨(S1.out.1.grow hw').int hwv, (S1.out.2.1.on hw').ptsA (by rw [← List.length_pos_iff, HL.out.1]; exact hN0) k p hp⟩
      rw [hx, hy]
      clear hp hwv hwD hpD hbw hbp hx hy hprx hpry hsx hsy bx bY bp1 bp2
      go_wp2_with fail
      have HV : Hid (∀ w', Out wr w' → w'.cell? ⟨gb, k, none⟩ = some (.int .i64 wv) ∧ w'.cell? ⟨b, o + k * 2, none⟩ = some (.int .i64 p.1) ∧ w'.cell? ⟨b, o + k * 2 + 1, none⟩ = some (.int .i64 p.2)) := fun w' hw' => HV0.out w' (below_next hw.out hw')
      refine wp_region_quiet (C := Out wr) (by kernel_rfl) (by kernel_rfl) ⟨rfl, rfl, rfl, Nat.le_refl _, fun _ _ => rfl⟩ ?_
      refine BigFrame.wpQuiet_want rfl (fun K hK => ?_)
      refine quiet_val (.int .i64 x) (fun w' hw' => by go_simp) (hK _ ?_)
      clear hK K
      simp only [Act.put, List.setIfInBounds_toArray, List.set_cons_zero, List.set_cons_succ]
      refine BigFrame.wpQuiet_want rfl (fun K hK => ?_)
      refine quiet_val (.slice (some ⟨gb, 0, none⟩) N N) (fun w' hw' => by go_simp) (hK _ ?_)
      clear hK K
      simp only [Act.put, List.setIfInBounds_toArray, List.set_cons_zero, List.set_cons_succ]
      refine BigFrame.wpQuiet_want rfl (fun K hK => ?_)
      refine quiet_val (.int .i64 (k : Int)) (fun w' hw' => by go_simp) (hK _ ?_)
      clear hK K
      simp only [Act.put, List.setIfInBounds_toArray, List.set_cons_zero, List.set_cons_succ]
      refine BigFrame.wpQuiet_want rfl (fun K hK => ?_)
      refine quiet_val (.pointer (some ⟨gb, k, none⟩)) (fun w' hw' => by go_simp) (hK _ ?_)
      clear hK K
      simp only [Act.put, List.setIfInBounds_toArray, List.set_cons_zero, List.set_cons_succ]
      refine BigFrame.wpQuiet_want rfl (fun K hK => ?_)
      refine quiet_val (.int .i64 wv) (fun w' hw' => by obtain ⟨q0, q1, q2⟩ := HV.out w' hw'; go_simp) (hK _ ?_)
      clear hK K
      simp only [Act.put, List.setIfInBounds_toArray, List.set_cons_zero, List.set_cons_succ]
      refine BigFrame.wpQuiet_want rfl (fun K hK => ?_)
      refine quiet_val (.slice (some ⟨b, o, none⟩) N c) (fun w' hw' => by go_simp) (hK _ ?_)
      clear hK K
      simp only [Act.put, List.setIfInBounds_toArray, List.set_cons_zero, List.set_cons_succ]
      refine BigFrame.wpQuiet_want rfl (fun K hK => ?_)
      refine quiet_val (.int .i64 (k : Int)) (fun w' hw' => by go_simp) (hK _ ?_)
      clear hK K
      simp only [Act.put, List.setIfInBounds_toArray, List.set_cons_zero, List.set_cons_succ]
      refine BigFrame.wpQuiet_want rfl (fun K hK => ?_)
      refine quiet_val (.pointer (some ⟨b, o + k * 2, none⟩)) (fun w' hw' => by go_simp) (hK _ ?_)
      clear hK K
      simp only [Act.put, List.setIfInBounds_toArray, List.set_cons_zero, List.set_cons_succ]
      refine BigFrame.wpQuiet_want rfl (fun K hK => ?_)
      refine quiet_val (.pointer (some ⟨b, o + k * 2, none⟩)) (fun w' hw' => by go_simp) (hK _ ?_)
      clear hK K
      simp only [Act.put, List.setIfInBounds_toArray, List.set_cons_zero, List.set_cons_succ]
      refine BigFrame.wpQuiet_want rfl (fun K hK => ?_)
      refine quiet_val (.int .i64 p.1) (fun w' hw' => by obtain ⟨q0, q1, q2⟩ := HV.out w' hw'; go_simp) (hK _ ?_)
      clear hK K
      simp only [Act.put, List.setIfInBounds_toArray, List.set_cons_zero, List.set_cons_succ]
      refine BigFrame.wpQuiet_want rfl (fun K hK => ?_)
      refine quiet_val (.int .i64 prx) (fun w' hw' => by have e := EP1.out; go_simp) (hK _ ?_)
      clear hK K
      simp only [Act.put, List.setIfInBounds_toArray, List.set_cons_zero, List.set_cons_succ]
      refine BigFrame.wpQuiet_want rfl (fun K hK => ?_)
      refine quiet_val (.int .i64 sx) (fun w' hw' => by have e := ES1.out; go_simp) (hK _ ?_)
      clear hK K
      simp only [Act.put, List.setIfInBounds_toArray, List.set_cons_zero, List.set_cons_succ]
      refine BigFrame.wpQuiet_want rfl (fun K hK => ?_)
      refine quiet_val (.int .i64 sx) (fun w' hw' => by go_simp) (hK _ ?_)
      clear hK K
      simp only [Act.put, List.setIfInBounds_toArray, List.set_cons_zero, List.set_cons_succ]
      refine wpQuiet_nil ?_
      intro w2 hb
      have B2 : Hid (Below w1.heap.size w1 w2) := below_next hw.out hb
      clear hb HV
      go_wp2_with fail
      have HV : Hid (∀ w', Out w2 w' → w'.cell? ⟨gb, k, none⟩ = some (.int .i64 wv) ∧ w'.cell? ⟨b, o + k * 2, none⟩ = some (.int .i64 p.1) ∧ w'.cell? ⟨b, o + k * 2 + 1, none⟩ = some (.int .i64 p.2)) := fun w' hw' => HV0.out w' (below_next B2.out hw')
      refine wp_region_quiet (C := Out w2) (by kernel_rfl) (by kernel_rfl) ⟨rfl, rfl, rfl, Nat.le_refl _, fun _ _ => rfl⟩ ?_
      refine BigFrame.wpQuiet_want rfl (fun K hK => ?_)
      refine quiet_val (.int .i64 y) (fun w' hw' => by go_simp) (hK _ ?_)
      clear hK K
      simp only [Act.put, List.setIfInBounds_toArray, List.set_cons_zero, List.set_cons_succ]
      refine BigFrame.wpQuiet_want rfl (fun K hK => ?_)
      refine quiet_val (.slice (some ⟨gb, 0, none⟩) N N) (fun w' hw' => by go_simp) (hK _ ?_)
      clear hK K
      simp only [Act.put, List.setIfInBounds_toArray, List.set_cons_zero, List.set_cons_succ]
      refine BigFrame.wpQuiet_want rfl (fun K hK => ?_)
      refine quiet_val (.int .i64 (k : Int)) (fun w' hw' => by go_simp) (hK _ ?_)
      clear hK K
      simp only [Act.put, List.setIfInBounds_toArray, List.set_cons_zero, List.set_cons_succ]
      refine BigFrame.wpQuiet_want rfl (fun K hK => ?_)
      refine quiet_val (.pointer (some ⟨gb, k, none⟩)) (fun w' hw' => by go_simp) (hK _ ?_)
      clear hK K
      simp only [Act.put, List.setIfInBounds_toArray, List.set_cons_zero, List.set_cons_succ]
      refine BigFrame.wpQuiet_want rfl (fun K hK => ?_)
      refine quiet_val (.int .i64 wv) (fun w' hw' => by obtain ⟨q0, q1, q2⟩ := HV.out w' hw'; go_simp) (hK _ ?_)
      clear hK K
      simp only [Act.put, List.setIfInBounds_toArray, List.set_cons_zero, List.set_cons_succ]
      refine BigFrame.wpQuiet_want rfl (fun K hK => ?_)
      refine quiet_val (.slice (some ⟨b, o, none⟩) N c) (fun w' hw' => by go_simp) (hK _ ?_)
      clear hK K
      simp only [Act.put, List.setIfInBounds_toArray, List.set_cons_zero, List.set_cons_succ]
      refine BigFrame.wpQuiet_want rfl (fun K hK => ?_)
      refine quiet_val (.int .i64 (k : Int)) (fun w' hw' => by go_simp) (hK _ ?_)
      clear hK K
      simp only [Act.put, List.setIfInBounds_toArray, List.set_cons_zero, List.set_cons_succ]
      refine BigFrame.wpQuiet_want rfl (fun K hK => ?_)
      refine quiet_val (.pointer (some ⟨b, o + k * 2, none⟩)) (fun w' hw' => by go_simp) (hK _ ?_)
      clear hK K
      simp only [Act.put, List.setIfInBounds_toArray, List.set_cons_zero, List.set_cons_succ]
      refine BigFrame.wpQuiet_want rfl (fun K hK => ?_)
      refine quiet_val (.pointer (some ⟨b, o + k * 2 + 1, none⟩)) (fun w' hw' => by go_simp) (hK _ ?_)
      clear hK K
      simp only [Act.put, List.setIfInBounds_toArray, List.set_cons_zero, List.set_cons_succ]
      refine BigFrame.wpQuiet_want rfl (fun K hK => ?_)
      refine quiet_val (.int .i64 p.2) (fun w' hw' => by obtain ⟨q0, q1, q2⟩ := HV.out w' hw'; go_simp) (hK _ ?_)
      clear hK K
      simp only [Act.put, List.setIfInBounds_toArray, List.set_cons_zero, List.set_cons_succ]
      refine BigFrame.wpQuiet_want rfl (fun K hK => ?_)
      refine quiet_val (.int .i64 pry) (fun w' hw' => by have e := EP2.out; go_simp) (hK _ ?_)
      clear hK K
      simp only [Act.put, List.setIfInBounds_toArray, List.set_cons_zero, List.set_cons_succ]
      refine BigFrame.wpQuiet_want rfl (fun K hK => ?_)
      refine quiet_val (.int .i64 sy) (fun w' hw' => by have e := ES2.out; go_simp) (hK _ ?_)
      clear hK K
      simp only [Act.put, List.setIfInBounds_toArray, List.set_cons_zero, List.set_cons_succ]
      refine BigFrame.wpQuiet_want rfl (fun K hK => ?_)
      refine quiet_val (.int .i64 sy) (fun w' hw' => by go_simp) (hK _ ?_)
      clear hK K
      simp only [Act.put, List.setIfInBounds_toArray, List.set_cons_zero, List.set_cons_succ]
      refine wpQuiet_nil ?_
      intro w3 hb
      have B3 : Hid (Below w1.heap.size w1 w3) := below_next B2.out hb
      clear hb HV
      go_wp2_with fail
      exact ⟨⟨k + 1, by omega, by go_num, by rw [HSX.out], by rw [HSY.out], B3.out⟩, by simp [intOf]; omega⟩
    · have hd : decide ((k : Int) < (N : Int)) = false := decide_eq_false (by omega)
      have hkN : k = N := by omega
      subst hkN
      go_wp2_with fail
      go_ret2
      exact ⟨rfl, below_next S1.out.2.2 hw.out⟩
end Go.Proofs.Ythlealndopppaaa
