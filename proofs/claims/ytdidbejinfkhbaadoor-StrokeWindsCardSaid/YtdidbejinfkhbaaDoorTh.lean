/- Layer 7: how often what a pen leaves goes round a point. -/
import Derived.Test.YtdidbejinfkhbaaDoorTg
import Derived.Test.YtdidbejinfkhbaaDoorGc
namespace Go.Proofs.YtdidbejinfkhbaaDoor
open Go.RowKit
theorem cmpI_pos {a b : Int} : 0 < cmpI a b ↔ b < a := by
  unfold cmpI; split
  · omega
  · split <;> omega
theorem cmpI_neg {a b : Int} : cmpI a b < 0 ↔ a < b := by
  unfold cmpI; split
  · omega
  · split <;> omega
theorem mul_nn {a b : Int} (ha : 0 ≤ a) (hb : 0 ≤ b) : 0 ≤ a * b := Int.mul_nonneg ha hb
theorem pos_of {a b : Int} (ha : 0 < a) (h : 0 < a * b) : 0 < b := by
  rcases Int.lt_trichotomy b 0 with hb | hb | hb
  · have := Int.mul_pos ha (show 0 < -b by omega); rw [Int.mul_neg] at this; omega
  · subst hb; simp at h
  · exact hb
theorem neg_of {a b : Int} (ha : 0 < a) (h : a * b < 0) : b < 0 := by
  rcases Int.lt_trichotomy b 0 with hb | hb | hb
  · exact hb
  · subst hb; simp at h
  · have := Int.mul_pos ha hb; omega
/-- Four edges, those that face one another the same, go round a point once at most. -/
theorem para_core (dy my y u v X : Int) (hX : 0 ≤ X) (E : my * u - dy * v = X * y) :
    0 ≤ (if my ≤ y ∧ y < 0 ∧ v < 0 then (1 : Int) else if 0 ≤ y ∧ y < my ∧ 0 < v then -1 else 0) + (if 0 ≤ y ∧ y < dy ∧ 0 < u then 1 else if dy ≤ y ∧ y < 0 ∧ u < 0 then -1 else 0) + (if dy ≤ y ∧ y < dy + my ∧ 0 < v + X then 1 else if dy + my ≤ y ∧ y < dy ∧ v + X < 0 then -1 else 0) + (if dy + my ≤ y ∧ y < my ∧ u < X then 1 else if my ≤ y ∧ y < dy + my ∧ X < u then -1 else 0) ∧
    (if my ≤ y ∧ y < 0 ∧ v < 0 then (1 : Int) else if 0 ≤ y ∧ y < my ∧ 0 < v then -1 else 0) + (if 0 ≤ y ∧ y < dy ∧ 0 < u then 1 else if dy ≤ y ∧ y < 0 ∧ u < 0 then -1 else 0) + (if dy ≤ y ∧ y < dy + my ∧ 0 < v + X then 1 else if dy + my ≤ y ∧ y < dy ∧ v + X < 0 then -1 else 0) + (if dy + my ≤ y ∧ y < my ∧ u < X then 1 else if my ≤ y ∧ y < dy + my ∧ X < u then -1 else 0) ≤ 1 := by
  have E2 : my * (u - X) - dy * (v + X) = X * (y - my - dy) := by grind
  rcases (by omega : dy < 0 ∨ 0 ≤ dy) with hd | hd
  · rcases (by omega : my < 0 ∨ 0 ≤ my) with hm | hm
    · have I7 : ¬ (y < 0 ∧ u < 0 ∧ ¬ v < 0) := fun ⟨h1, h2, h3⟩ => by
        have a := Int.mul_pos (show 0 < -my by omega) (show 0 < -u by omega)
        have b := mul_nn (show 0 ≤ -dy by omega) (show 0 ≤ v by omega)
        have c := mul_nn hX (show 0 ≤ -y by omega)
        rw [Int.neg_mul_neg] at a; rw [Int.neg_mul] at b; rw [Int.mul_neg] at c
        omega
      have I8 : ¬ (dy + my ≤ y ∧ v + X < 0 ∧ ¬ u < X) := fun ⟨h1, h2, h3⟩ => by
        have a := Int.mul_pos (show 0 < -dy by omega) (show 0 < -(v + X) by omega)
        have b := mul_nn (show 0 ≤ -my by omega) (show 0 ≤ u - X by omega)
        have c := mul_nn hX (show 0 ≤ y - my - dy by omega)
        rw [Int.neg_mul_neg] at a; rw [Int.neg_mul] at b
        omega
      clear E E2
      (repeat' split) <;> omega
    · have I5 : ¬ (0 < my ∧ dy ≤ y ∧ u < 0 ∧ ¬ 0 < v + X) := fun ⟨h0, h1, h2, h3⟩ => by
        have a := Int.mul_pos h0 (show 0 < -u by omega)
        have b := mul_nn (show 0 ≤ -dy by omega) (show 0 ≤ -(v + X) by omega)
        have c := mul_nn hX (show 0 ≤ y - dy by omega)
        rw [Int.mul_neg] at a; rw [Int.neg_mul_neg, Int.mul_add] at b; rw [Int.mul_sub] at c
        have e : dy * X = X * dy := Int.mul_comm _ _
        omega
      have I6 : ¬ (0 < my ∧ y < my ∧ 0 < v ∧ ¬ u < X) := fun ⟨h0, h1, h2, h3⟩ => by
        have a := Int.mul_pos (show 0 < -dy by omega) h2
        have b := mul_nn (show 0 ≤ my by omega) (show 0 ≤ u - X by omega)
        have c := mul_nn hX (show 0 ≤ my - y by omega)
        rw [Int.neg_mul] at a; rw [Int.mul_sub] at b c
        have e : my * X = X * my := Int.mul_comm _ _
        omega
      clear E E2
      (repeat' split) <;> omega
  · rcases (by omega : my < 0 ∨ 0 ≤ my) with hm | hm
    · have I3 : ¬ (my ≤ y ∧ X < u ∧ ¬ v < 0) := fun ⟨h1, h2, h3⟩ => by
        have a := Int.mul_pos (show 0 < -my by omega) (show 0 < u - X by omega)
        have b := mul_nn hd (show 0 ≤ v by omega)
        have c := mul_nn hX (show 0 ≤ y - my by omega)
        rw [Int.neg_mul, Int.mul_sub] at a; rw [Int.mul_sub] at c
        have e : my * X = X * my := Int.mul_comm _ _
        omega
      have I4 : ¬ (0 < dy ∧ y < dy ∧ v + X < 0 ∧ ¬ 0 < u) := fun ⟨h0, h1, h2, h3⟩ => by
        have a := Int.mul_pos h0 (show 0 < -(v + X) by omega)
        have b := mul_nn (show 0 ≤ -my by omega) (show 0 ≤ -u by omega)
        have c := mul_nn hX (show 0 ≤ dy - y by omega)
        rw [Int.mul_neg, Int.mul_add] at a; rw [Int.neg_mul_neg] at b; rw [Int.mul_sub] at c
        have e : dy * X = X * dy := Int.mul_comm _ _
        omega
      clear E E2
      (repeat' split) <;> omega
    · have I1 : ¬ (0 < dy ∧ 0 < my ∧ 0 ≤ y ∧ 0 < v ∧ ¬ 0 < u) := fun ⟨h0, h1, h2, h3, h4⟩ => by
        have a := Int.mul_pos h0 h3
        have b := mul_nn (show 0 ≤ my by omega) (show 0 ≤ -u by omega)
        have c := mul_nn hX h2
        rw [Int.mul_neg] at b
        omega
      have I2 : ¬ (0 < my ∧ y < dy + my ∧ X < u ∧ ¬ 0 < v + X) := fun ⟨h0, h1, h2, h3⟩ => by
        have a := Int.mul_pos h0 (show 0 < u - X by omega)
        have b := mul_nn hd (show 0 ≤ -(v + X) by omega)
        have c := mul_nn hX (show 0 ≤ -(y - my - dy) by omega)
        rw [Int.mul_neg] at b c
        omega
      clear E E2
      (repeat' split) <;> omega
theorem winds4 (a b c d s : Pt) : windsI [a, b, c, d] s = cntP d a s + cntP a b s + cntP b c s + cntP c d s := by
  simp [windsI, wstep]
theorem para_winds (a b n s : Pt) (hX : 0 ≤ (b.1 - a.1) * n.2 - (b.2 - a.2) * n.1) : 0 ≤ windsI (slabI a b n) s ∧ windsI (slabI a b n) s ≤ 1 := by
  obtain ⟨ax, ay⟩ := a
  obtain ⟨bx, bY⟩ := b
  obtain ⟨nx, ny⟩ := n
  obtain ⟨sx, sy⟩ := s
  unfold slabI
  rw [winds4]
  unfold cntP cnt sideI subP addP
  simp only [cmpI_pos, cmpI_neg] at hX ⊢
  obtain ⟨X, hXd⟩ : ∃ X, X = (bx - ax) * (2 * ny) - (bY - ay) * (2 * nx) := ⟨_, rfl⟩
  obtain ⟨u, hu⟩ : ∃ u, u = (bx - ax) * (sy - (ay - ny)) - (bY - ay) * (sx - (ax - nx)) := ⟨_, rfl⟩
  obtain ⟨v, hv⟩ : ∃ v, v = 2 * nx * (sy - (ay - ny)) - 2 * ny * (sx - (ax - nx)) := ⟨_, rfl⟩
  have hX0 : 0 ≤ X := by
    have : X = 2 * ((bx - ax) * ny - (bY - ay) * nx) := by rw [hXd]; grind
    omega
  have key := para_core (bY - ay) (2 * ny) (sy - (ay - ny)) u v X hX0 (by rw [hXd, hu, hv]; grind)
  -- the edges
  have e1 : (ax - nx - (ax + nx)) * (sy - (ay + ny)) - (ay - ny - (ay + ny)) * (sx - (ax + nx)) = -v := by rw [hv]; grind
  have e2 : (bx - nx - (ax - nx)) * (sy - (ay - ny)) - (bY - ny - (ay - ny)) * (sx - (ax - nx)) = u := by rw [hu]; grind
  have e3 : (bx + nx - (bx - nx)) * (sy - (bY - ny)) - (bY + ny - (bY - ny)) * (sx - (bx - nx)) = v + X := by rw [hv, hXd]; grind
  have e4 : (ax + nx - (bx + nx)) * (sy - (bY + ny)) - (ay + ny - (bY + ny)) * (sx - (bx + nx)) = X - u := by rw [hu, hXd]; grind
  generalize (ax - nx - (ax + nx)) * (sy - (ay + ny)) = A1 at *
  generalize (ay - ny - (ay + ny)) * (sx - (ax + nx)) = B1 at *
  generalize (bx - nx - (ax - nx)) * (sy - (ay - ny)) = A2 at *
  generalize (bY - ny - (ay - ny)) * (sx - (ax - nx)) = B2 at *
  generalize (bx + nx - (bx - nx)) * (sy - (bY - ny)) = A3 at *
  generalize (bY + ny - (bY - ny)) * (sx - (bx - nx)) = B3 at *
  generalize (ax + nx - (bx + nx)) * (sy - (bY + ny)) = A4 at *
  generalize (ay + ny - (bY + ny)) * (sx - (bx + nx)) = B4 at *
  clear hu hv hXd hX hX0
  have c1 : (if ay + ny ≤ sy ∧ sy < ay - ny ∧ B1 < A1 then (1 : Int) else if ay - ny ≤ sy ∧ sy < ay + ny ∧ A1 < B1 then -1 else 0) = (if 2 * ny ≤ sy - (ay - ny) ∧ sy - (ay - ny) < 0 ∧ v < 0 then (1 : Int) else if 0 ≤ sy - (ay - ny) ∧ sy - (ay - ny) < 2 * ny ∧ 0 < v then -1 else 0) := by
    clear key e2 e3 e4; (repeat' split) <;> omega
  have c2 : (if ay - ny ≤ sy ∧ sy < bY - ny ∧ B2 < A2 then (1 : Int) else if bY - ny ≤ sy ∧ sy < ay - ny ∧ A2 < B2 then -1 else 0) = (if 0 ≤ sy - (ay - ny) ∧ sy - (ay - ny) < bY - ay ∧ 0 < u then (1 : Int) else if bY - ay ≤ sy - (ay - ny) ∧ sy - (ay - ny) < 0 ∧ u < 0 then -1 else 0) := by
    clear key e1 e3 e4; (repeat' split) <;> omega
  have c3 : (if bY - ny ≤ sy ∧ sy < bY + ny ∧ B3 < A3 then (1 : Int) else if bY + ny ≤ sy ∧ sy < bY - ny ∧ A3 < B3 then -1 else 0) = (if bY - ay ≤ sy - (ay - ny) ∧ sy - (ay - ny) < bY - ay + 2 * ny ∧ 0 < v + X then (1 : Int) else if bY - ay + 2 * ny ≤ sy - (ay - ny) ∧ sy - (ay - ny) < bY - ay ∧ v + X < 0 then -1 else 0) := by
    clear key e1 e2 e4; (repeat' split) <;> omega
  have c4 : (if bY + ny ≤ sy ∧ sy < ay + ny ∧ B4 < A4 then (1 : Int) else if ay + ny ≤ sy ∧ sy < bY + ny ∧ A4 < B4 then -1 else 0) = (if bY - ay + 2 * ny ≤ sy - (ay - ny) ∧ sy - (ay - ny) < 2 * ny ∧ u < X then (1 : Int) else if 2 * ny ≤ sy - (ay - ny) ∧ sy - (ay - ny) < bY - ay + 2 * ny ∧ X < u then -1 else 0) := by
    clear key e1 e2 e3; (repeat' split) <;> omega
  rw [c1, c2, c3, c4]
  exact key
/-- The sum along a way. -/
def chainS (s : Pt) : Pt → List Pt → Int
  | _, [] => 0
  | p, q :: l => cntP p q s + chainS s q l
theorem up_edge {p q s : Pt} {c : Int} (hy : p.2 ≤ q.2) (hp : c ≤ p.1) (hq : c ≤ q.1) :
    (cntP p q s = 0 ∨ cntP p q s = 1) ∧ (cntP p q s = 1 → p.2 ≤ s.2 ∧ s.2 < q.2) ∧ (s.1 < c → p.2 ≤ s.2 → s.2 < q.2 → cntP p q s = 1) := by
  unfold cntP cnt sideI
  simp only [cmpI_pos, cmpI_neg]
  have key : s.1 < c → p.2 ≤ s.2 → s.2 < q.2 → (q.2 - p.2) * (s.1 - p.1) < (q.1 - p.1) * (s.2 - p.2) := fun h1 h2 h3 => by
    have e : (q.1 - p.1) * (s.2 - p.2) - (q.2 - p.2) * (s.1 - p.1) = (q.1 - s.1) * (s.2 - p.2) + (p.1 - s.1) * (q.2 - s.2) := by grind
    have a := mul_nn (show 0 ≤ q.1 - s.1 by omega) (show 0 ≤ s.2 - p.2 by omega)
    have b := Int.mul_pos (show 0 < p.1 - s.1 by omega) (show 0 < q.2 - s.2 by omega)
    omega
  generalize (q.2 - p.2) * (s.1 - p.1) = A at *
  generalize (q.1 - p.1) * (s.2 - p.2) = B at *
  refine ⟨?_, ?_, ?_⟩
  · split
    · right; rfl
    · split <;> omega
  · split
    · intro _; omega
    · split <;> omega
  · intro h1 h2 h3
    rw [if_pos ⟨h2, h3, key h1 h2 h3⟩]
theorem down_edge {p q s : Pt} {c : Int} (hy : q.2 ≤ p.2) (hp : p.1 ≤ c) (hq : q.1 ≤ c) :
    (cntP p q s = 0 ∨ cntP p q s = -1) ∧ (cntP p q s = -1 → (q.2 ≤ s.2 ∧ s.2 < p.2) ∧ s.1 < c) := by
  unfold cntP cnt sideI
  simp only [cmpI_pos, cmpI_neg]
  have key : c ≤ s.1 → q.2 ≤ s.2 → s.2 < p.2 → ¬ (q.1 - p.1) * (s.2 - p.2) < (q.2 - p.2) * (s.1 - p.1) := fun h1 h2 h3 => by
    have e : (q.1 - p.1) * (s.2 - p.2) - (q.2 - p.2) * (s.1 - p.1) = (s.1 - p.1) * (s.2 - q.2) + (s.1 - q.1) * (p.2 - s.2) := by grind
    have a := mul_nn (show 0 ≤ s.1 - p.1 by omega) (show 0 ≤ s.2 - q.2 by omega)
    have b := mul_nn (show 0 ≤ s.1 - q.1 by omega) (show 0 ≤ p.2 - s.2 by omega)
    omega
  generalize (q.2 - p.2) * (s.1 - p.1) = A at *
  generalize (q.1 - p.1) * (s.2 - p.2) = B at *
  refine ⟨?_, ?_⟩
  · split
    · omega
    · split
      · right; rfl
      · left; rfl
  · split
    · omega
    · split
      · rename_i h
        intro _
        refine ⟨⟨h.1, h.2.1⟩, ?_⟩
        rcases (by omega : s.1 < c ∨ c ≤ s.1) with hc | hc
        · exact hc
        · exact absurd h.2.2 (key hc h.1 h.2.1)
      · intro h; omega
/-- A way that goes up, on one side of c. -/
def upB (c : Int) : Pt → List Pt → Prop
  | p, [] => c ≤ p.1
  | p, q :: l => c ≤ p.1 ∧ p.2 ≤ q.2 ∧ upB c q l
def downB (c : Int) : Pt → List Pt → Prop
  | p, [] => p.1 ≤ c
  | p, q :: l => p.1 ≤ c ∧ q.2 ≤ p.2 ∧ downB c q l
def lastP : Pt → List Pt → Pt
  | p, [] => p
  | _, q :: l => lastP q l
theorem up_first {c : Int} {p : Pt} {l : List Pt} (h : upB c p l) : c ≤ p.1 := by
  cases l with
  | nil => exact h
  | cons q l => exact h.1
theorem down_first {c : Int} {p : Pt} {l : List Pt} (h : downB c p l) : p.1 ≤ c := by
  cases l with
  | nil => exact h
  | cons q l => exact h.1
theorem up_last {c : Int} : ∀ (l : List Pt) (p : Pt), upB c p l → p.2 ≤ (lastP p l).2
  | [], _, _ => Int.le_refl _
  | q :: l, _, h => Int.le_trans h.2.1 (up_last l q h.2.2)
theorem down_last {c : Int} : ∀ (l : List Pt) (p : Pt), downB c p l → (lastP p l).2 ≤ p.2
  | [], _, _ => Int.le_refl _
  | q :: l, _, h => Int.le_trans (down_last l q h.2.2) h.2.1
theorem up_chain {c : Int} (s : Pt) : ∀ (l : List Pt) (p : Pt), upB c p l →
    (chainS s p l = 0 ∨ chainS s p l = 1) ∧ (chainS s p l = 1 → p.2 ≤ s.2 ∧ s.2 < (lastP p l).2) ∧ (s.1 < c → p.2 ≤ s.2 → s.2 < (lastP p l).2 → chainS s p l = 1)
  | [], _, _ => by
    refine ⟨.inl rfl, fun h => by simp [chainS] at h, fun _ h1 h2 => ?_⟩
    simp only [lastP] at h2; omega
  | q :: l, p, h => by
    obtain ⟨a1, a2, a3⟩ := up_edge (s := s) h.2.1 h.1 (up_first h.2.2)
    obtain ⟨b1, b2, b3⟩ := up_chain s l q h.2.2
    have hl := up_last l q h.2.2
    have hy := h.2.1
    simp only [chainS, lastP]
    generalize chainS s q l = S at *
    generalize cntP p q s = T at *
    generalize (lastP q l).2 = Y at *
    refine ⟨?_, ?_, ?_⟩
    · rcases a1 with rfl | rfl <;> rcases b1 with rfl | rfl
      · left; rfl
      · right; rfl
      · right; rfl
      · have := a2 rfl; have := b2 rfl; omega
    · intro hs
      rcases a1 with rfl | rfl
      · have := b2 (by omega); omega
      · have := a2 rfl; omega
    · intro h1 h2 h3
      rcases (by omega : s.2 < q.2 ∨ q.2 ≤ s.2) with hq | hq
      · have e := a3 h1 h2 hq
        rcases b1 with rfl | rfl
        · omega
        · have := b2 rfl; omega
      · have e := b3 h1 hq h3
        rcases a1 with rfl | rfl
        · omega
        · have := a2 rfl; omega
theorem down_chain {c : Int} (s : Pt) : ∀ (l : List Pt) (p : Pt), downB c p l →
    (chainS s p l = 0 ∨ chainS s p l = -1) ∧ (chainS s p l = -1 → ((lastP p l).2 ≤ s.2 ∧ s.2 < p.2) ∧ s.1 < c)
  | [], _, _ => ⟨.inl rfl, fun h => by simp [chainS] at h⟩
  | q :: l, p, h => by
    obtain ⟨a1, a2⟩ := down_edge (s := s) h.2.1 h.1 (down_first h.2.2)
    obtain ⟨b1, b2⟩ := down_chain s l q h.2.2
    have hl := down_last l q h.2.2
    have hy := h.2.1
    simp only [chainS, lastP]
    generalize chainS s q l = S at *
    generalize cntP p q s = T at *
    generalize (lastP q l).2 = Y at *
    refine ⟨?_, ?_⟩
    · rcases a1 with rfl | rfl <;> rcases b1 with rfl | rfl
      · left; rfl
      · right; rfl
      · right; rfl
      · have := a2 rfl; have := b2 rfl; omega
    · intro hs
      rcases a1 with rfl | rfl
      · have := b2 (by omega); omega
      · have := a2 rfl; omega
theorem winds16 (p0 p1 p2 p3 p4 p5 p6 p7 p8 p9 p10 p11 p12 p13 p14 p15 s : Pt) :
    windsI [p0, p1, p2, p3, p4, p5, p6, p7, p8, p9, p10, p11, p12, p13, p14, p15] s = chainS s p12 [p13, p14, p15, p0, p1, p2, p3, p4] + chainS s p4 [p5, p6, p7, p8, p9, p10, p11, p12] := by
  simp only [windsI, List.getLast?_cons_cons, List.getLast?_singleton, List.foldl_cons, List.foldl_nil, wstep, chainS]
  omega
theorem disc_list (c : Pt) (h : Int) : discI c h = [discP c h 0, discP c h 1, discP c h 2, discP c h 3, discP c h 4, discP c h 5, discP c h 6, discP c h 7, discP c h 8, discP c h 9, discP c h 10, discP c h 11, discP c h 12, discP c h 13, discP c h 14, discP c h 15] := rfl
theorem disc_winds (c : Pt) (h : Int) (hh : 1 ≤ h) (s : Pt) : 0 ≤ windsI (discI c h) s ∧ windsI (discI c h) s ≤ 1 := by
  rw [disc_list, winds16]
  have at_ : ∀ k, discP c h k = (c.1 + qI (cosI k * h) 65536, c.2 + qI (cosI (k + 12) * h) 65536) := fun k => rfl
  have q : ∀ C : Int, qI (C * h) 65536 = (2 * (C * h) + 65536) / 131072 := fun C => rfl
  have U : upB c.1 (discP c h 12) [discP c h 13, discP c h 14, discP c h 15, discP c h 0, discP c h 1, discP c h 2, discP c h 3, discP c h 4] := by
    simp only [upB, at_, cosI, cosL, q, Nat.reduceAdd, Nat.reduceMod, List.getD_cons_zero, List.getD_cons_succ]
    omega
  have D : downB c.1 (discP c h 4) [discP c h 5, discP c h 6, discP c h 7, discP c h 8, discP c h 9, discP c h 10, discP c h 11, discP c h 12] := by
    simp only [downB, at_, cosI, cosL, q, Nat.reduceAdd, Nat.reduceMod, List.getD_cons_zero, List.getD_cons_succ]
    omega
  obtain ⟨u1, u2, u3⟩ := up_chain s _ _ U
  obtain ⟨d1, d2⟩ := down_chain s _ _ D
  simp only [lastP] at u2 u3 d2
  rcases d1 with e | e
  · rw [e]
    rcases u1 with e1 | e1 <;> rw [e1] <;> omega
  · have k := d2 e
    have e1 := u3 k.2 k.1.1 k.1.2
    rw [e, e1]; omega
/-- The side step turns to the left. -/
theorem step_cross {d : Pt} {h : Int} (hd : lenOk d) (h0 : d ≠ (0, 0)) (hh : 1 ≤ h) : 0 ≤ d.1 * (stepS d h).2 - d.2 * (stepS d h).1 := by
  have hL := len_pos hd h0
  have sgn : ∀ x : Int, 0 ≤ x * qI (x * h) (lenI d) := fun x => by
    unfold qI
    generalize lenI d = L at *
    rcases (by omega : 0 ≤ x ∨ x < 0) with hx | hx
    · refine mul_nn hx (Int.ediv_nonneg ?_ (by omega))
      have := mul_nn hx (show 0 ≤ h by omega)
      omega
    · have hq : (2 * (x * h) + L) / (2 * L) ≤ 0 := by
        have h1 : x * h < 0 := by
          have := Int.mul_pos (show 0 < -x by omega) (show 0 < h by omega)
          rw [Int.neg_mul] at this; omega
        have h2 : (2 * (x * h) + L) / (2 * L) < 1 := Int.ediv_lt_of_lt_mul (by omega) (by omega)
        omega
      have := mul_nn (show 0 ≤ -x by omega) (show 0 ≤ -((2 * (x * h) + L) / (2 * L)) by omega)
      rw [Int.neg_mul_neg] at this
      exact this
  have e1 : (stepS d h).2 = qI (d.1 * h) (lenI d) := by
    show qI (d.1 * h) (lenI (-d.2, d.1)) = _
    rw [turned_len]
  have e2 : (stepS d h).1 = qI (-d.2 * h) (lenI d) := by
    show qI (-d.2 * h) (lenI (-d.2, d.1)) = _
    rw [turned_len]
  have a := sgn d.1
  have b := sgn (-d.2)
  rw [e1, e2]
  rw [Int.neg_mul] at b
  omega
theorem qI_nn {t L : Int} (hL : 0 < L) (ht : 0 ≤ t) : 0 ≤ qI t L := Int.ediv_nonneg (by omega) (by omega)
theorem qI_np {t L : Int} (hL : 0 < L) (ht : t ≤ 0) : qI t L ≤ 0 := by
  have : qI t L < 1 := Int.ediv_lt_of_lt_mul (by omega) (by omega)
  omega
theorem ahead_cross {d : Pt} {h : Int} (hd : lenOk d) (h0 : d ≠ (0, 0)) (_hh : 1 ≤ h) : 0 ≤ (stepA d h).1 * (stepS d h).2 - (stepA d h).2 * (stepS d h).1 := by
  have hL := len_pos hd h0
  have e1 : (stepS d h).2 = qI (d.1 * h) (lenI d) := by
    show qI (d.1 * h) (lenI (-d.2, d.1)) = _
    rw [turned_len]
  have e2 : (stepS d h).1 = qI (-(d.2 * h)) (lenI d) := by
    show qI (-d.2 * h) (lenI (-d.2, d.1)) = _
    rw [turned_len, Int.neg_mul]
  have e3 : (stepA d h).1 = qI (d.1 * h) (lenI d) := rfl
  have e4 : (stepA d h).2 = qI (d.2 * h) (lenI d) := rfl
  rw [e1, e2, e3, e4]
  have a : 0 ≤ qI (d.1 * h) (lenI d) * qI (d.1 * h) (lenI d) := by
    generalize qI (d.1 * h) (lenI d) = x
    rcases (by omega : 0 ≤ x ∨ x < 0) with hx | hx
    · exact mul_nn hx hx
    · have := mul_nn (show 0 ≤ -x by omega) (show 0 ≤ -x by omega)
      rw [Int.neg_mul_neg] at this; exact this
  have b : qI (d.2 * h) (lenI d) * qI (-(d.2 * h)) (lenI d) ≤ 0 := by
    generalize d.2 * h = t
    rcases (by omega : 0 ≤ t ∨ t < 0) with ht | ht
    · have := mul_nn (qI_nn (show 0 < lenI d by omega) ht) (show 0 ≤ -(qI (-t) (lenI d)) by have := qI_np (show 0 < lenI d by omega) (show -t ≤ 0 by omega); omega)
      rw [Int.mul_neg] at this; omega
    · have := mul_nn (show 0 ≤ -(qI t (lenI d)) by have := qI_np (show 0 < lenI d by omega) (show t ≤ 0 by omega); omega) (qI_nn (show 0 < lenI d by omega) (show 0 ≤ -t by omega))
      rw [Int.neg_mul] at this; omega
  omega
/-- A polygon that goes round each point once at most. -/
def windQ (L : List Pt) : Prop := L.length ≤ 16 ∧ L.all roomP = true ∧ ∀ s, 0 ≤ windsI L s ∧ windsI L s ≤ 1
theorem windQ_nil : windQ [] := ⟨by simp, rfl, fun s => by simp [windsI]⟩
theorem windQ_room {L : List Pt} (hl : L.length ≤ 16) (hw : ∀ s, 0 ≤ windsI L s ∧ windsI L s ≤ 1) : windQ (roomOut L).2 := by
  unfold roomOut
  split
  · rename_i h; exact ⟨hl, h, hw⟩
  · exact windQ_nil
theorem wind_all (l : List Pt) (cl : Bool) (h cap : Int) (hh : 1 ≤ h) : ∀ L ∈ (strokeOut l cl h cap).2, windQ L := by
  refine strokeOut_all windQ l cl h cap (fun c _ => ?_) (fun a _ b _ => ?_) (fun a _ b _ hab => ?_) (fun a _ b _ hab => ?_) (fun c _ => ?_)
  · unfold discOut
    split
    · exact windQ_room (by rw [disc_len]; decide) (disc_winds c h hh)
    · exact windQ_nil
  · unfold barOut
    split
    · rename_i hc
      simp only [Bool.and_eq_true, Bool.not_eq_true', decide_eq_false_iff_not] at hc
      unfold barIn
      split
      · rename_i hl
        exact windQ_room (by simp [barI, slabI]) (fun s => para_winds _ _ _ _ (step_cross (lenB_iff.1 hl) (ne_sub hc.2) hh))
      · exact windQ_nil
    · exact windQ_nil
  · unfold headOut
    split
    · rename_i hl
      refine windQ_room (by simp [headI, slabI]) (fun s => para_winds _ _ _ _ ?_)
      have := ahead_cross (lenB_iff.1 hl) (ne_sub hab) hh
      have e1 : a.1 - (subP a (stepA (subP b a) h)).1 = (stepA (subP b a) h).1 := by simp only [subP]; omega
      have e2 : a.2 - (subP a (stepA (subP b a) h)).2 = (stepA (subP b a) h).2 := by simp only [subP]; omega
      rw [e1, e2]; exact this
    · exact windQ_nil
  · unfold tailOut
    split
    · rename_i hl
      refine windQ_room (by simp [tailI, slabI]) (fun s => para_winds _ _ _ _ ?_)
      have := ahead_cross (lenB_iff.1 hl) (ne_sub hab) hh
      have e1 : (addP b (stepA (subP b a) h)).1 - b.1 = (stepA (subP b a) h).1 := by simp only [addP]; omega
      have e2 : (addP b (stepA (subP b a) h)).2 - b.2 = (stepA (subP b a) h).2 := by simp only [addP]; omega
      rw [e1, e2]; exact this
    · exact windQ_nil
  · refine windQ_room (by simp [dotI, slabI]) (fun s => para_winds _ _ _ _ ?_)
    simp only [addP, subP]
    have := mul_nn (show 0 ≤ c.1 + h - (c.1 - h) by omega) (show 0 ≤ h by omega)
    simp only [Int.mul_zero, Int.sub_zero]
    exact this
end Go.Proofs.YtdidbejinfkhbaaDoor
