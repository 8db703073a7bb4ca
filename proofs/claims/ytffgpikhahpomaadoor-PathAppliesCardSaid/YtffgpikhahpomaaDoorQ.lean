/- Layer 5: curves as lists: halves, and lines. -/
import Derived.Test.YtffgpikhahpomaaDoorC
import Derived.Test.YtffgpikhahpomaaDoorD
namespace Go.Proofs.YtffgpikhahpomaaDoor
open Go.RowKit
/-- The middles of each two points that follow one another. -/
def midsI : List Pt → List Pt
  | p :: q :: l => midI p q :: midsI (q :: l)
  | _ => []
theorem midsI_length : ∀ l : List Pt, (midsI l).length = l.length - 1
  | [] => rfl
  | [_] => rfl
  | p :: q :: l => by simp [midsI, midsI_length (q :: l)]
def firstI : List Pt → List Pt
  | [p, q, r] => [p, midI p q, midI (midI p q) (midI q r)]
  | [p, q, r, s] => [p, midI p q, midI (midI p q) (midI q r), midI (midI (midI p q) (midI q r)) (midI (midI q r) (midI r s))]
  | _ => []
def secondI : List Pt → List Pt
  | [p, q, r] => [midI (midI p q) (midI q r), midI q r, r]
  | [p, q, r, s] => [midI (midI (midI p q) (midI q r)) (midI (midI q r) (midI r s)), midI (midI q r) (midI r s), midI r s, s]
  | _ => []
/-- The ends of the lines. -/
def flatI : Nat → List Pt → List Pt
  | 0, l => [l.getLastD (0, 0)]
  | d + 1, l => flatI d (firstI l) ++ flatI d (secondI l)
theorem curve_cases {l : List Pt} (h : curveB l = true) : (∃ p q r, l = [p, q, r] ∧ roomP p = true ∧ roomP q = true ∧ roomP r = true) ∨ ∃ p q r s, l = [p, q, r, s] ∧ roomP p = true ∧ roomP q = true ∧ roomP r = true ∧ roomP s = true := by
  unfold curveB at h
  simp only [Bool.and_eq_true, Bool.or_eq_true, decide_eq_true_eq] at h
  obtain ⟨h1, h2⟩ := h
  match l, h1, h2 with
  | [p, q, r], _, h2 => left; exact ⟨p, q, r, rfl, by simpa using h2⟩
  | [p, q, r, s], _, h2 => right; exact ⟨p, q, r, s, rfl, by simpa using h2⟩
  | [], h1, _ => simp at h1
  | [_], h1, _ => simp at h1
  | [_, _], h1, _ => simp at h1
  | _ :: _ :: _ :: _ :: _ :: l, h1, _ => simp at h1
theorem firstI_curve {l : List Pt} (h : curveB l = true) : curveB (firstI l) = true ∧ (firstI l).length = l.length := by
  rcases curve_cases h with ⟨p, q, r, rfl, hp, hq, hr⟩ | ⟨p, q, r, s, rfl, hp, hq, hr, hs⟩
  · refine ⟨?_, rfl⟩
    simp [curveB, firstI, hp, hq, hr, midI_room]
  · refine ⟨?_, rfl⟩
    have k := midI_room (midI_room (midI_room hp hq) (midI_room hq hr)) (midI_room (midI_room hq hr) (midI_room hr hs))
    simp [curveB, firstI, hp, hq, hr, k, midI_room]
theorem secondI_curve {l : List Pt} (h : curveB l = true) : curveB (secondI l) = true ∧ (secondI l).length = l.length := by
  rcases curve_cases h with ⟨p, q, r, rfl, hp, hq, hr⟩ | ⟨p, q, r, s, rfl, hp, hq, hr, hs⟩
  · refine ⟨?_, rfl⟩
    simp [curveB, secondI, hp, hq, hr, midI_room]
  · refine ⟨?_, rfl⟩
    have k := midI_room (midI_room (midI_room hp hq) (midI_room hq hr)) (midI_room (midI_room hq hr) (midI_room hr hs))
    simp [curveB, secondI, hq, hr, hs, k, midI_room]
theorem flatI_length : ∀ (d : Nat) (l : List Pt), (flatI d l).length = 2 ^ d
  | 0, _ => rfl
  | d + 1, l => by simp [flatI, flatI_length d, Nat.pow_succ]; omega
theorem pow_small {d : Nat} (h : d ≤ 6) : 2 ^ d ≤ 64 := by
  have : d = 0 ∨ d = 1 ∨ d = 2 ∨ d = 3 ∨ d = 4 ∨ d = 5 ∨ d = 6 := by omega
  rcases this with rfl | rfl | rfl | rfl | rfl | rfl | rfl <;> decide
theorem curve_last {l : List Pt} (h : curveB l = true) : ∃ p, l.getLast? = some p ∧ l.getLastD (0, 0) = p := by
  rcases curve_cases h with ⟨p, q, r, rfl, _⟩ | ⟨p, q, r, s, rfl, _⟩ <;> exact ⟨_, rfl, rfl⟩
theorem flatI_ne (d : Nat) (l : List Pt) : flatI d l ≠ [] := fun h => by
  have := flatI_length d l
  rw [h] at this
  have hp : 0 < 2 ^ d := Nat.pos_of_ne_zero (by simp)
  simp at this
  omega
theorem flatI_last : ∀ (d : Nat) {l : List Pt}, curveB l = true → (flatI d l).getLast? = l.getLast?
  | 0, l, h => by
    obtain ⟨p, h1, h2⟩ := curve_last h
    rw [h1, flatI, h2]; rfl
  | d + 1, l, h => by
    obtain ⟨hc, _⟩ := secondI_curve h
    rw [flatI, List.getLast?_append, flatI_last d hc]
    rcases curve_cases h with ⟨p, q, r, rfl, _⟩ | ⟨p, q, r, s, rfl, _⟩ <;> rfl
end Go.Proofs.YtffgpikhahpomaaDoor

