/- Bounds: what the law asks of them. -/
import Derived.Test.YtbllbncmeihaaaaHf
namespace Go.Proofs.Ytbllbncmeihaaaa
open Go.RowKit
theorem bound_append (l : List Pt) (p : Pt) : boundI (l ++ [p]) = joinI (boundI l) (ptBox p) := by
  unfold boundI; rw [List.foldl_append]; rfl
/-- It has each of them, and each side has one. -/
structure Tight (B : Bx) (l : List Pt) : Prop where
  has : ∀ p ∈ l, B.x0 ≤ p.1 ∧ p.1 < B.x1 ∧ B.y0 ≤ p.2 ∧ p.2 < B.y1
  s0 : ∃ p ∈ l, p.1 = B.x0
  s1 : ∃ p ∈ l, p.2 = B.y0
  s2 : ∃ p ∈ l, p.1 = B.x1 - 1
  s3 : ∃ p ∈ l, p.2 = B.y1 - 1
theorem tight_one (p : Pt) : Tight (ptBox p) [p] := by
  refine ⟨fun q hq => ?_, ⟨p, by simp, rfl⟩, ⟨p, by simp, rfl⟩, ⟨p, by simp, by simp [ptBox]⟩, ⟨p, by simp, by simp [ptBox]⟩⟩
  obtain rfl : q = p := by simpa using hq
  simp only [ptBox]; omega
theorem tight_full {B : Bx} {l : List Pt} (h : Tight B l) : emptyI B = false := by
  obtain ⟨p, hp, _⟩ := h.s0
  have := h.has p hp
  simp [emptyI]; omega
theorem pt_full (p : Pt) : emptyI (ptBox p) = false := by simp [emptyI, ptBox]; omega
theorem tight_next {B : Bx} {l : List Pt} (h : Tight B l) (p : Pt) : Tight (joinI B (ptBox p)) (l ++ [p]) := by
  have e : joinI B (ptBox p) = join0 B (ptBox p) := by unfold joinI; rw [tight_full h, pt_full]; simp
  rw [e]
  have pick : ∀ (f : Pt → Int) (a b : Int), (∃ q ∈ l, f q = a) → f p = b → ∀ m, (m = a ∨ m = b) → ∃ q ∈ l ++ [p], f q = m := by
    intro f a b ⟨q, hq, hqa⟩ hb m hm
    rcases hm with rfl | rfl
    · exact ⟨q, by simp [hq], hqa⟩
    · exact ⟨p, by simp, hb⟩
  refine ⟨fun q hq => ?_, pick (·.1) B.x0 p.1 h.s0 rfl _ ?_, pick (·.2) B.y0 p.2 h.s1 rfl _ ?_, pick (·.1) (B.x1 - 1) p.1 h.s2 rfl _ ?_, pick (·.2) (B.y1 - 1) p.2 h.s3 rfl _ ?_⟩
  · rw [List.mem_append] at hq
    simp only [join0, ptBox]
    rcases hq with hq | hq
    · have := h.has q hq; omega
    · obtain rfl : q = p := by simpa using hq
      omega
  all_goals (simp only [join0, ptBox]; omega)
theorem tight_bound (l : List Pt) (hl : l ≠ []) : Tight (boundI l) l := by
  obtain ⟨r, hr⟩ : ∃ r, r = l.reverse := ⟨_, rfl⟩
  have key : ∀ r : List Pt, r ≠ [] → Tight (boundI r.reverse) r.reverse := by
    intro r
    induction r with
    | nil => intro h; exact absurd rfl h
    | cons p r ih =>
      intro _
      rw [List.reverse_cons, bound_append]
      by_cases h : r = []
      · subst h
        have e : joinI (boundI ([] : List Pt).reverse) (ptBox p) = ptBox p := by
          unfold joinI
          rw [show emptyI (boundI ([] : List Pt).reverse) = true from rfl, pt_full]; simp
        rw [e]
        exact tight_one p
      · exact tight_next (ih h) p
  have := key l.reverse (by simpa using hl)
  rwa [List.reverse_reverse] at this
theorem tight_hasI {B : Bx} {l : List Pt} (h : Tight B l) {p : Pt} (hp : p ∈ l) : hasI B p.1 p.2 = true := by
  have := h.has p hp
  simp [hasI]; omega
/-- Whether one of them lies on a side. -/
def anyS (f : Pt → Int) (a : Int) (l : List Pt) : Bool := l.any fun p => f p == a
theorem anyS_next (f : Pt → Int) (a : Int) (l : List Pt) (k : Nat) (p : Pt) (h : l[k]? = some p) : anyS f a (l.take (k + 1)) = (anyS f a (l.take k) || (f p == a)) := by
  unfold anyS; rw [List.take_add_one, h, List.any_append]; simp
theorem anyS_all {f : Pt → Int} {a : Int} {l : List Pt} (h : ∃ p ∈ l, f p = a) : anyS f a l = true := by
  obtain ⟨p, hp, e⟩ := h
  unfold anyS; rw [List.any_eq_true]; exact ⟨p, hp, by simpa using e⟩
end Go.Proofs.Ytbllbncmeihaaaa
