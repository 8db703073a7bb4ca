/- Layer 6: the halves of a segment, and that a path split is a path still. -/
import Derived.Test.YtffgpikhahpomaaDoorSk
import Derived.Test.YtffgpikhahpomaaDoorQ
namespace Go.Proofs.YtffgpikhahpomaaDoor
open Go.RowKit
def halfA (f : Pt) (s : Sg) : Sg := if s.k = 2 then ⟨2, midI f s.p, s.q, s.r⟩ else if s.k = 3 then ⟨3, midI f s.p, midI (midI f s.p) (midI s.p s.q), s.r⟩ else ⟨s.k, midI f s.p, midI (midI f s.p) (midI s.p s.q), midI (midI (midI f s.p) (midI s.p s.q)) (midI (midI s.p s.q) (midI s.q s.r))⟩
def halfB (s : Sg) : Sg := if s.k = 2 then s else if s.k = 3 then ⟨3, midI s.p s.q, s.q, s.r⟩ else ⟨s.k, midI (midI s.p s.q) (midI s.q s.r), midI s.q s.r, s.r⟩
def splitL (l : List Sg) (i : Nat) (f : Pt) (s : Sg) : List Sg := l.take i ++ [halfA f s, halfB s] ++ l.drop (i + 1)
theorem halfA_k (f : Pt) (s : Sg) : (halfA f s).k = s.k := by unfold halfA; split; · simp_all
                                                              split <;> simp_all
theorem halfB_k (s : Sg) : (halfB s).k = s.k := by unfold halfB; split; · rfl
                                                   split <;> simp_all
theorem loops_iff (n : Nat) (l : List Pt) : loopsI n l = 0 ↔ (∀ p ∈ l.drop n, p = (0, 0)) ∧ ∀ p ∈ l.take n, roomP p = true := by
  unfold loopsI
  constructor
  · intro h
    split at h
    · cases h
    · rename_i h1
      split at h
      · cases h
      · rename_i h2
        have h3 := List.any_eq_false.1 (Bool.eq_false_iff.2 h1)
        have h4 := List.any_eq_false.1 (Bool.eq_false_iff.2 h2)
        exact ⟨fun p hp => by simpa using h3 p hp, fun p hp => by simpa using h4 p hp⟩
  · rintro ⟨h1, h2⟩
    rw [if_neg, if_neg]
    · rw [Bool.not_eq_true]; exact List.any_eq_false.2 fun p hp => by simpa using h2 p hp
    · rw [Bool.not_eq_true]; exact List.any_eq_false.2 fun p hp => by simpa using h1 p hp
theorem half_loops {f : Pt} {s : Sg} (hf : roomP f = true) (hk : s.k = 2 ∨ s.k = 3 ∨ s.k = 4) (h : loopsI (needI s.k) s.pts = 0) : loopsI (needI (halfA f s).k) (halfA f s).pts = 0 ∧ loopsI (needI (halfB s).k) (halfB s).pts = 0 := by
  obtain ⟨k, p, q, r⟩ := s
  rw [halfA_k, halfB_k]
  simp only at hk h ⊢
  rcases hk with rfl | rfl | rfl
  · rw [loops_iff] at h
    simp [needI, Sg.pts] at h
    obtain ⟨⟨hq, hr⟩, hp⟩ := h
    refine ⟨(loops_iff _ _).2 ?_, (loops_iff _ _).2 ?_⟩ <;> simp [needI, Sg.pts, halfA, halfB, hq, hr, hp, midI_room hf hp]
  · rw [loops_iff] at h
    simp [needI, Sg.pts] at h
    obtain ⟨hr, hp, hq⟩ := h
    have m1 := midI_room hf hp
    have m2 := midI_room hp hq
    have m3 := midI_room m1 m2
    refine ⟨(loops_iff _ _).2 ?_, (loops_iff _ _).2 ?_⟩ <;> simp [needI, Sg.pts, halfA, halfB, hr, hq, m1, m2, m3]
  · rw [loops_iff] at h
    simp [needI, Sg.pts] at h
    obtain ⟨hp, hq, hr⟩ := h
    have m1 := midI_room hf hp
    have m2 := midI_room hp hq
    have m3 := midI_room hq hr
    have m4 := midI_room m1 m2
    have m5 := midI_room m2 m3
    have m6 := midI_room m4 m5
    refine ⟨(loops_iff _ _).2 ?_, (loops_iff _ _).2 ?_⟩ <;> simp [needI, Sg.pts, halfA, halfB, hr, m1, m3, m4, m5, m6]
theorem faultI_ahead {x y s : Sg} (h : x.k = y.k) : faultI x s = faultI y s := by unfold faultI; rw [h]
theorem goI_ahead {x y : Sg} (h : x.k = y.k) (l : List Sg) : goI x l = goI y l := by
  cases l with
  | nil => rfl
  | cons s t => simp only [goI, faultI_ahead h]
theorem faultI_loops {x s : Sg} (h : faultI x s = 0) : loopsI (needI s.k) s.pts = 0 ∧ ((!isKindB s.k || (decide (s.k ≠ 1) && decide (x.k = 5))) = true → False) := by
  unfold faultI at h
  split at h
  · cases h
  · rename_i h1; exact ⟨h, h1⟩
theorem goI_halves : ∀ (l : List Sg) (x : Sg) (i : Nat) (s a b : Sg), l[i]? = some s → goI x l = 0 → a.k = s.k → b.k = s.k → s.k ≠ 5 → loopsI (needI a.k) a.pts = 0 → loopsI (needI b.k) b.pts = 0 → goI x (l.take i ++ [a, b] ++ l.drop (i + 1)) = 0
  | [], _, _, _, _, _, h, _, _, _, _, _, _ => by simp at h
  | c :: l, x, 0, s, a, b, h, hg, ha, hb, h5, la, lb => by
    obtain rfl : c = s := by simpa using h
    simp only [goI] at hg
    have h0 : faultI x c = 0 := by
      split at hg
      · assumption
      · exact absurd hg (by assumption)
    rw [if_pos h0] at hg
    obtain ⟨_, hn⟩ := faultI_loops h0
    have fa : faultI x a = 0 := by unfold faultI; rw [ha, if_neg hn, ← ha]; exact la
    have fb : faultI a b = 0 := by
      unfold faultI
      rw [hb, ha, if_neg ?_, ← hb]
      · exact lb
      · intro h'
        refine hn ?_
        simp only [Bool.or_eq_true] at h' ⊢
        rcases h' with h' | h'
        · exact .inl h'
        · simp [h5] at h'
    show goI x (a :: b :: l) = 0
    simp only [goI]
    rw [if_pos fa, if_pos fb, goI_ahead hb]
    exact hg
  | c :: l, x, i + 1, s, a, b, h, hg, ha, hb, h5, la, lb => by
    simp only [goI] at hg
    have h0 : faultI x c = 0 := by
      split at hg
      · assumption
      · exact absurd hg (by assumption)
    rw [if_pos h0] at hg
    have ih := goI_halves l c i s a b (by simpa using h) hg ha hb h5 la lb
    simp only [List.take_succ_cons, List.drop_succ_cons, List.cons_append, goI]
    rw [if_pos h0]
    exact ih
theorem check_split {l : List Sg} {i : Nat} {f : Pt} {s : Sg} (h : checkI l = 0) (hs : l[i]? = some s) (hk : s.k = 2 ∨ s.k = 3 ∨ s.k = 4) (hf : roomP f = true) (hl : l.length ≤ 4095) : checkI (splitL l i f s) = 0 := by
  have hi := (List.getElem?_eq_some_iff.1 hs).1
  have hlen : (splitL l i f s).length = l.length + 1 := by unfold splitL; simp; omega
  unfold checkI at h ⊢
  rw [if_neg (by omega)] at h ⊢
  have hloop := (faultI_loops (goI_zero l shut0 h i s hs)).1
  obtain ⟨la, lb⟩ := half_loops hf hk hloop
  exact goI_halves l shut0 i s _ _ hs h (halfA_k f s) (halfB_k s) (by rcases hk with e | e | e <;> rw [e] <;> decide) la lb
/-- The halves of a curve, one time less divided, are the curve. -/
theorem flat_halves (d : Nat) (f : Pt) (s : Sg) (hk : s.k = 3 ∨ s.k = 4) : subsI (d + 1) [⟨1, f, (0, 0), (0, 0)⟩, s] = subsI d [⟨1, f, (0, 0), (0, 0)⟩, halfA f s, halfB s] := by
  obtain ⟨k, p, q, r⟩ := s
  simp only at hk
  rcases hk with rfl | rfl
  · simp [subsI, foldI, stepI, lastI, addI, endI, needPts, needI, Sg.pts, halfA, halfB, flatI, firstI, secondI]
  · simp [subsI, foldI, stepI, lastI, addI, endI, needPts, needI, Sg.pts, halfA, halfB, flatI, firstI, secondI]
/-- What Flat makes of a curve alone is one subpath. -/
theorem flat_alone (d : Nat) (f : Pt) (s : Sg) (hk : s.k = 3 ∨ s.k = 4) : subsI d [⟨1, f, (0, 0), (0, 0)⟩, s] = [(f :: flatI d (f :: needPts s), false)] := by
  obtain ⟨k, p, q, r⟩ := s
  simp only at hk
  rcases hk with rfl | rfl
  · simp [subsI, foldI, stepI, lastI, addI, endI, needI, Sg.pts]
  · simp [subsI, foldI, stepI, lastI, addI, endI, needI, Sg.pts]
end Go.Proofs.YtffgpikhahpomaaDoor
