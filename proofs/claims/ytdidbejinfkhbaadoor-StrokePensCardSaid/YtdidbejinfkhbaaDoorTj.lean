/- Layer 7: points told twice; a line and the same line back. -/
import Derived.Test.YtdidbejinfkhbaaDoorTg
import Derived.Test.YtdidbejinfkhbaaDoorTi
namespace Go.Proofs.YtdidbejinfkhbaaDoor
open Go.RowKit
def twiceL : List Pt → List Pt
  | [] => []
  | p :: l => p :: p :: twiceL l
theorem twiceL_append : ∀ (l m : List Pt), twiceL (l ++ m) = twiceL l ++ twiceL m
  | [], _ => rfl
  | p :: l, m => by simp [twiceL, twiceL_append l m]
theorem twiceL_length : ∀ l : List Pt, (twiceL l).length = l.length * 2
  | [] => rfl
  | p :: l => by simp [twiceL, twiceL_length l]; omega
theorem twiceL_at : ∀ (l : List Pt) (i : Nat), (twiceL l)[i * 2]? = l[i]? ∧ (twiceL l)[i * 2 + 1]? = l[i]?
  | [], i => by simp [twiceL]
  | p :: l, 0 => by simp [twiceL]
  | p :: l, i + 1 => by
    have h := twiceL_at l i
    rw [show (i + 1) * 2 = i * 2 + 1 + 1 by omega]
    simpa [twiceL] using h
theorem twiceL_room : ∀ l : List Pt, (twiceL l).all roomP = l.all roomP
  | [] => rfl
  | p :: l => by simp [twiceL, twiceL_room l]
theorem compUp_twice (l : List Pt) : ∀ k, compUp (twiceL l) (k * 2) = compUp l k
  | 0 => rfl
  | k + 1 => by
    obtain ⟨a, b⟩ := twiceL_at l k
    have h1 : keepsB (twiceL l) (k * 2 + 1) = false := by
      unfold keepsB
      rw [b, Nat.add_sub_cancel, a]
      simp
    have h2 : keepsB (twiceL l) (k * 2) = keepsB l k := by
      unfold keepsB
      rw [a]
      cases k with
      | zero => rfl
      | succ j =>
        have := (twiceL_at l j).2
        rw [show (j + 1) * 2 - 1 = j * 2 + 1 by omega, this, Nat.add_sub_cancel]
        simp
    rw [show (k + 1) * 2 = k * 2 + 1 + 1 by omega, compUp, h1, compUp, h2, a, compUp, compUp_twice l k]
    simp
theorem strokeOut_twice (l : List Pt) (cl : Bool) (h cap : Int) : strokeOut (twiceL l) cl h cap = strokeOut l cl h cap := by
  unfold strokeOut apartI compI
  rw [twiceL_room, twiceL_length, compUp_twice]
theorem len_all (l : List Pt) (cl : Bool) (h cap : Int) : ∀ L ∈ (strokeOut l cl h cap).2, L.length ≤ 16 := by
  have room : ∀ L : List Pt, L.length ≤ 16 → (roomOut L).2.length ≤ 16 := fun L hL => by
    unfold roomOut; split
    · exact hL
    · simp
  refine strokeOut_all (fun L => L.length ≤ 16) l cl h cap (fun c _ => ?_) (fun a _ b _ => ?_) (fun a _ b _ _ => ?_) (fun a _ b _ _ => ?_) (fun c _ => ?_)
  · unfold discOut; split
    · exact room _ (by rw [disc_len]; decide)
    · simp
  · unfold barOut; split
    · unfold barIn; split
      · exact room _ (by simp [barI, slabI])
      · simp
    · simp
  · unfold headOut; split
    · exact room _ (by simp [headI, slabI])
    · simp
  · unfold tailOut; split
    · exact room _ (by simp [tailI, slabI])
    · simp
  · exact room _ (by simp [dotI, slabI])
/-- Two points that part by one at most. -/
def nearO (p q : Pt) : Prop := (p.1 - q.1 ≤ 1 ∧ q.1 - p.1 ≤ 1) ∧ p.2 - q.2 ≤ 1 ∧ q.2 - p.2 ≤ 1
set_option maxHeartbeats 1000000 in
set_option maxRecDepth 100000 in
theorem near_c (p q : Pt) (hp : roomP p = true) (hq : roomP q = true) (h : nearO p q) (w : World) :
    Calls Tryd.prog 24 #[.agg #[.int .i64 p.1, .int .i64 p.2], .agg #[.int .i64 q.1, .int .i64 q.2]] w fun e w' => e = .returned (.bool true) ∧ Below w.heap.size w w' := by
  obtain ⟨x, y⟩ := p
  obtain ⟨a, b⟩ := q
  have rp := roomP_iff.1 hp
  have rq := roomP_iff.1 hq
  obtain ⟨⟨h1, h2⟩, h3, h4⟩ := h
  simp only at rp rq h1 h2 h3 h4
  have g1 : wrap64 (x - a) ≤ 1 := by rw [wrapR _ (by omega) (by omega)]; omega
  have g2 : wrap64 (a - x) ≤ 1 := by rw [wrapR _ (by omega) (by omega)]; omega
  have g3 : wrap64 (y - b) ≤ 1 := by rw [wrapR _ (by omega) (by omega)]; omega
  have g4 : wrap64 (b - y) ≤ 1 := by rw [wrapR _ (by omega) (by omega)]; omega
  clear hp hq rp rq h1 h2 h3 h4
  go_enter Tryd.func24, Tryd.ntmps24
  go_wp2_with fail
  go_ret
  exact ⟨retB (by simp), by go_grown⟩
theorem lenI_back (d : Pt) : lenI (-d.1, -d.2) = lenI d := by
  have e : sqs (-d.1, -d.2) = sqs d := by unfold sqs; simp only [Int.neg_mul_neg]
  unfold lenI
  rw [e]
theorem qI_back (t L : Int) (hL : 0 < L) : 0 ≤ qI t L + qI (-t) L ∧ qI t L + qI (-t) L ≤ 1 := by
  unfold qI
  have h1 := Int.emod_add_mul_ediv (2 * t + L) (2 * L)
  have h2 := Int.emod_add_mul_ediv (2 * (-t) + L) (2 * L)
  have h3 := Int.emod_nonneg (2 * t + L) (show 2 * L ≠ 0 by omega)
  have h4 := Int.emod_lt_of_pos (2 * t + L) (show 0 < 2 * L by omega)
  have h5 := Int.emod_nonneg (2 * (-t) + L) (show 2 * L ≠ 0 by omega)
  have h6 := Int.emod_lt_of_pos (2 * (-t) + L) (show 0 < 2 * L by omega)
  generalize (2 * t + L) / (2 * L) = A at *
  generalize (2 * (-t) + L) / (2 * L) = B at *
  have e : 2 * L * A + 2 * L * B = 2 * L * (A + B) := by rw [Int.mul_add]
  rcases (by omega : A + B < 0 ∨ 1 < A + B ∨ (0 ≤ A + B ∧ A + B ≤ 1)) with h | h | h
  · have := Int.mul_le_mul_of_nonneg_left (show A + B ≤ -1 by omega) (show 0 ≤ 2 * L by omega)
    omega
  · have := Int.mul_le_mul_of_nonneg_left (show 2 ≤ A + B by omega) (show 0 ≤ 2 * L by omega)
    omega
  · exact h
/-- The side steps of a line and of the same line back. -/
theorem step_back {d : Pt} {h : Int} (hd : lenOk d) (h0 : d ≠ (0, 0)) : (0 ≤ (stepS d h).1 + (stepS (-d.1, -d.2) h).1 ∧ (stepS d h).1 + (stepS (-d.1, -d.2) h).1 ≤ 1) ∧ 0 ≤ (stepS d h).2 + (stepS (-d.1, -d.2) h).2 ∧ (stepS d h).2 + (stepS (-d.1, -d.2) h).2 ≤ 1 := by
  have hL := len_pos hd h0
  have e1 : (stepS d h).2 = qI (d.1 * h) (lenI d) := by
    show qI (d.1 * h) (lenI (-d.2, d.1)) = _
    rw [turned_len]
  have e2 : (stepS d h).1 = qI (-(d.2 * h)) (lenI d) := by
    show qI (-d.2 * h) (lenI (-d.2, d.1)) = _
    rw [turned_len, Int.neg_mul]
  have e3 : (stepS (-d.1, -d.2) h).2 = qI (-(d.1 * h)) (lenI d) := by
    show qI (-d.1 * h) (lenI (- -d.2, -d.1)) = _
    rw [show lenI (- -d.2, -d.1) = lenI (-d.1, -d.2) from turned_len (-d.1, -d.2), lenI_back, Int.neg_mul]
  have e4 : (stepS (-d.1, -d.2) h).1 = qI (d.2 * h) (lenI d) := by
    show qI (- -d.2 * h) (lenI (- -d.2, -d.1)) = _
    rw [show lenI (- -d.2, -d.1) = lenI (-d.1, -d.2) from turned_len (-d.1, -d.2), lenI_back, Int.neg_neg]
  rw [e1, e2, e3, e4]
  have a := qI_back (d.1 * h) (lenI d) (by omega)
  have b := qI_back (d.2 * h) (lenI d) (by omega)
  omega
/-- What is known of a bar that is told. -/
theorem bar_told {a b : Pt} {h : Int} (hz : (barOut a b h).1 = 0) : (barOut a b h).2 = barI a b h ∧ (barI a b h).all roomP = true ∧ lenOk (subP b a) ∧ a ≠ b := by
  unfold barOut at hz ⊢
  split at hz
  · rename_i hc
    rw [if_pos hc]
    simp only [Bool.and_eq_true, Bool.not_eq_true', decide_eq_false_iff_not] at hc
    unfold barIn at hz ⊢
    split at hz
    · rename_i hl
      rw [if_pos hl]
      unfold roomOut at hz ⊢
      split at hz
      · rename_i hr
        rw [if_pos hr]
        exact ⟨rfl, hr, lenB_iff.1 hl, hc.2⟩
      · cases hz
    · cases hz
  · cases hz
theorem bars_near {a b : Pt} {h : Int} (h1 : (barOut a b h).1 = 0) :
    nearO (subP a (stepS (subP b a) h)) (addP a (stepS (subP a b) h)) ∧ nearO (subP b (stepS (subP b a) h)) (addP b (stepS (subP a b) h)) ∧ nearO (addP b (stepS (subP b a) h)) (subP b (stepS (subP a b) h)) ∧ nearO (addP a (stepS (subP b a) h)) (subP a (stepS (subP a b) h)) := by
  obtain ⟨_, _, hl, hne⟩ := bar_told h1
  have k := step_back (h := h) hl (ne_sub hne)
  have e : subP a b = (-(subP b a).1, -(subP b a).2) := by simp only [subP]; apply Prod.ext <;> simp only <;> omega
  rw [e]
  generalize stepS (subP b a) h = n at *
  generalize stepS (-(subP b a).1, -(subP b a).2) h = m at *
  unfold nearO addP subP
  simp only
  omega
end Go.Proofs.YtdidbejinfkhbaaDoor
