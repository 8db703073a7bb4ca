/- Layer 5: what lies in the bound. -/
import Derived.Test.YthlealndopppaaaBox
import Derived.Test.YthlealndopppaaaQ
namespace Go.Proofs.Ythlealndopppaaa
open Go.RowKit
theorem bound_append (l : List Pt) (p : Pt) : boundI (l ++ [p]) = joinI (boundI l) (ptBox p) := by
  unfold boundI; rw [List.foldl_append]; rfl
/-- It has each of them, and each side has one. -/
structure Tight (B : Bx) (l : List Pt) : Prop where
  has : ∀ p ∈ l, B.x0 ≤ p.1 ∧ p.1 < B.x1 ∧ B.y0 ≤ p.2 ∧ p.2 < B.y1
  s0 : ∃ p ∈ l, p.1 = B.x0
  s1 : ∃ p ∈ l, p.2 = B.y0
  s2 : ∃ p ∈ l, p.1 = B.x1 - 1
  s3 : ∃ p ∈ l, p.2 = B.y1 - 1
theorem tight_one (p : Pt) : Tight (ptBox p) [p] := by
  refine ⟨fun q hq => ?_, ⟨p, by simp, rfl⟩, ⟨p, by simp, rfl⟩, ⟨p, by simp, by simp [ptBox]⟩, ⟨p, by simp, by simp [ptBox]⟩⟩
  obtain rfl : q = p := by simpa using hq
  simp only [ptBox]; omega
theorem tight_full {B : Bx} {l : List Pt} (h : Tight B l) : emptyI B = false := by
  obtain ⟨p, hp, _⟩ := h.s0
  have := h.has p hp
  simp [emptyI]; omega
theorem pt_full (p : Pt) : emptyI (ptBox p) = false := by simp [emptyI, ptBox]; omega
theorem tight_next {B : Bx} {l : List Pt} (h : Tight B l) (p : Pt) : Tight (joinI B (ptBox p)) (l ++ [p]) := by
  have e : joinI B (ptBox p) = join0 B (ptBox p) := by unfold joinI; rw [tight_full h, pt_full]; simp
  rw [e]
  have pick : ∀ (f : Pt → Int) (a b : Int), (∃ q ∈ l, f q = a) → f p = b → ∀ m, (m = a ∨ m = b) → ∃ q ∈ l ++ [p], f q = m := by
    intro f a b ⟨q, hq, hqa⟩ hb m hm
    rcases hm with rfl | rfl
    · exact ⟨q, by simp [hq], hqa⟩
    · exact ⟨p, by simp, hb⟩
  refine ⟨fun q hq => ?_, pick (·.1) B.x0 p.1 h.s0 rfl _ ?_, pick (·.2) B.y0 p.2 h.s1 rfl _ ?_, pick (·.1) (B.x1 - 1) p.1 h.s2 rfl _ ?_, pick (·.2) (B.y1 - 1) p.2 h.s3 rfl _ ?_⟩
  · rw [List.mem_append] at hq
    simp only [join0, ptBox]
    rcases hq with hq | hq
    · have := h.has q hq; omega
    · obtain rfl : q = p := by simpa using hq
      omega
  all_goals (simp only [join0, ptBox]; omega)
theorem tight_bound (l : List Pt) (hl : l ≠ []) : Tight (boundI l) l := by
  obtain ⟨r, hr⟩ : ∃ r, r = l.reverse := ⟨_, rfl⟩
  have key : ∀ r : List Pt, r ≠ [] → Tight (boundI r.reverse) r.reverse := by
    intro r
    induction r with
    | nil => intro h; exact absurd rfl h
    | cons p r ih =>
      intro _
      rw [List.reverse_cons, bound_append]
      by_cases h : r = []
      · subst h
        have e : joinI (boundI ([] : List Pt).reverse) (ptBox p) = ptBox p := by
          unfold joinI
          rw [show emptyI (boundI ([] : List Pt).reverse) = true from rfl, pt_full]; simp
        rw [e]
        exact tight_one p
      · exact tight_next (ih h) p
  have := key l.reverse (by simpa using hl)
  rwa [List.reverse_reverse] at this
theorem tight_hasI {B : Bx} {l : List Pt} (h : Tight B l) {p : Pt} (hp : p ∈ l) : hasI B p.1 p.2 = true := by
  have := h.has p hp
  simp [hasI]; omega
theorem midI_has {B : Bx} {p q : Pt} (hp : hasI B p.1 p.2 = true) (hq : hasI B q.1 q.2 = true) : hasI B (midI p q).1 (midI p q).2 = true := by
  simp only [hasI, Bool.and_eq_true, decide_eq_true_eq] at *
  unfold midI
  simp only
  omega
def inB (B : Bx) (l : List Pt) : Prop := ∀ p ∈ l, hasI B p.1 p.2 = true
theorem inB_firstI {B : Bx} {l : List Pt} (h : curveB l = true) (hb : inB B l) : inB B (firstI l) := by
  rcases curve_cases h with ⟨p, q, r, rfl, _⟩ | ⟨p, q, r, s, rfl, _⟩
  · have hp := hb p (by simp); have hq := hb q (by simp); have hr := hb r (by simp)
    have h1 := midI_has hp hq; have h2 := midI_has hq hr; have h3 := midI_has h1 h2
    intro a ha
    simp only [firstI, List.mem_cons, List.not_mem_nil, or_false] at ha
    rcases ha with rfl | rfl | rfl <;> assumption
  · have hp := hb p (by simp); have hq := hb q (by simp); have hr := hb r (by simp); have hs := hb s (by simp)
    have h1 := midI_has hp hq; have h2 := midI_has hq hr; have h3 := midI_has hr hs
    have h4 := midI_has h1 h2; have h5 := midI_has h2 h3; have h6 := midI_has h4 h5
    intro a ha
    simp only [firstI, List.mem_cons, List.not_mem_nil, or_false] at ha
    rcases ha with rfl | rfl | rfl | rfl <;> assumption
theorem inB_secondI {B : Bx} {l : List Pt} (h : curveB l = true) (hb : inB B l) : inB B (secondI l) := by
  rcases curve_cases h with ⟨p, q, r, rfl, _⟩ | ⟨p, q, r, s, rfl, _⟩
  · have hp := hb p (by simp); have hq := hb q (by simp); have hr := hb r (by simp)
    have h1 := midI_has hp hq; have h2 := midI_has hq hr; have h3 := midI_has h1 h2
    intro a ha
    simp only [secondI, List.mem_cons, List.not_mem_nil, or_false] at ha
    rcases ha with rfl | rfl | rfl <;> assumption
  · have hp := hb p (by simp); have hq := hb q (by simp); have hr := hb r (by simp); have hs := hb s (by simp)
    have h1 := midI_has hp hq; have h2 := midI_has hq hr; have h3 := midI_has hr hs
    have h4 := midI_has h1 h2; have h5 := midI_has h2 h3; have h6 := midI_has h4 h5
    intro a ha
    simp only [secondI, List.mem_cons, List.not_mem_nil, or_false] at ha
    rcases ha with rfl | rfl | rfl | rfl <;> assumption
theorem inB_flatI {B : Bx} : ∀ (d : Nat) {l : List Pt}, curveB l = true → inB B l → inB B (flatI d l)
  | 0, l, h, hb => by
    obtain ⟨p, h1, h2⟩ := curve_last h
    intro a ha
    rw [flatI, h2] at ha
    obtain rfl : a = p := by simpa using ha
    exact hb a (List.mem_of_getLast? h1)
  | d + 1, l, h, hb => by
    intro a ha
    rw [flatI, List.mem_append] at ha
    rcases ha with ha | ha
    · exact inB_flatI d (firstI_curve h).1 (inB_firstI h hb) a ha
    · exact inB_flatI d (secondI_curve h).1 (inB_secondI h hb) a ha
set_option maxHeartbeats 400000 in
set_option maxRecDepth 100000 in
theorem curveBound_walk (v : Value) (b : Bx) (w : World) (HB : Hid (∀ w', Below w.heap.size w w' → Calls Try.prog 21 #[v] w' fun e w'' => e = .returned (.agg (four b)) ∧ Below w'.heap.size w' w'')) :
    Calls Try.prog 20 #[v] w fun e w' => e = .returned (.agg (four b)) ∧ Below w.heap.size w w' := by
  have S0 : Hid (Blk (w.alloc (.cells (four ⟨0, 0, 0, 0⟩) 45)) w.heap.size 45 (four ⟨0, 0, 0, 0⟩) ∧ Below w.heap.size w (w.alloc (.cells (four ⟨0, 0, 0, 0⟩) 45))) := ⟨Blk.new _ _ _, (Below.refl _ _).alloc (Nat.le_refl _) _⟩
  obtain ⟨n, hn⟩ : ∃ n, w.heap.size = n := ⟨_, rfl⟩
  rw [hn] at S0 HB ⊢
  have HN := Lib.hid hn
  go_enter Try.func20, Try.ntmps20
  go_wp2_with fail
  refine (HB.out _ S0.out.2).mono ?_
  rintro e w1 ⟨rfl, hb⟩
  have S1 : Hid (Blk w1 n 45 (four ⟨0, 0, 0, 0⟩) ∧ Below n w w1) := ⟨S0.out.1.grow hb, S0.out.2.trans (hb.mono (by have := HN.out; simp; omega))⟩
  have k := S1.out.1
  have z0 := k.b0
  have z1 := k.b1
  have z2 := k.b2
  have z3 := k.b3
  have f0 := k.free 0
  have f1 := k.free 1
  have f2 := k.free 2
  have f3 := k.free 3
  have l0 := k.lt
  simp only at z0 z1 z2 z3
  clear hb k
  go_wp2_with fail
  exact bodyPost_ret (v := .agg (four b)) (results_box 2 rfl rfl (S1.out.1.setB b)) rfl ⟨rfl, below_four (g := n) S1.out.2 (Nat.le_refl _) _ _ _ _⟩
theorem curveBound_c (v : Value) (l : List Pt) (w : World) (row : Row w v l) (hl : l.length ≤ 1000) (hr : l.all roomP = true) : Calls Try.prog 20 #[v] w fun e w' => e = .returned (.agg (four (boundI l))) ∧ Below w.heap.size w w' :=
  curveBound_walk v (boundI l) w (Lib.hid fun w' hb => bound_c v l w' hl (row.on hb) hr)
end Go.Proofs.Ythlealndopppaaa
