/- Layer 6: what a right path is; what add makes of the last subpath. -/
import Derived.Test.YtffgpikhahpomaaDoorSj
import Derived.Test.YtffgpikhahpomaaDoorU
namespace Go.Proofs.YtffgpikhahpomaaDoor
open Go.RowKit
def ahd (x : Sg) (l : List Sg) : Nat → Sg
  | 0 => x
  | k + 1 => (l[k]?).getD shut0
theorem ahd_shut (l : List Sg) (k : Nat) : ahd shut0 l k = aheadL l k := by cases k <;> rfl
theorem goI_zero : ∀ (l : List Sg) (x : Sg), goI x l = 0 → ∀ k s, l[k]? = some s → faultI (ahd x l k) s = 0
  | [], _, _, _, _, h => by cases h
  | s :: t, x, hg, k, y, hk => by
    simp only [goI] at hg
    split at hg
    · rename_i h0
      cases k with
      | zero => simp at hk; subst hk; exact h0
      | succ j =>
        have h := goI_zero t s hg j y (by simpa using hk)
        cases j with
        | zero => exact h
        | succ i => exact h
    · rename_i h0
      exact absurd hg h0
/-- Nothing is wrong with any segment. -/
def Good (l : List Sg) : Prop := ∀ k s, l[k]? = some s → faultI (aheadL l k) s = 0
theorem good_of {l : List Sg} (h : goI shut0 l = 0) : Good l := fun k s hk => by
  rw [← ahd_shut]; exact goI_zero l shut0 h k s hk
theorem check_good {l : List Sg} (h : checkI l = 0) : Good l ∧ l.length ≤ 4096 := by
  unfold checkI at h
  split at h
  · cases h
  · exact ⟨good_of h, by omega⟩
structure Fine (x s : Sg) : Prop where
  kind : isKindB s.k = true
  ahead : s.k ≠ 1 → x.k ≠ 5
  room : ∀ p ∈ needPts s, roomP p = true
theorem fine_of {x s : Sg} (h : faultI x s = 0) : Fine x s := by
  unfold faultI at h
  split at h
  · cases h
  · rename_i h1
    simp only [Bool.not_eq_true, Bool.or_eq_false_iff, Bool.not_eq_eq_eq_not, Bool.not_false, Bool.and_eq_false_imp, decide_eq_true_eq, decide_eq_false_iff_not] at h1
    unfold loopsI at h
    split at h
    · cases h
    · split at h
      · cases h
      · rename_i h2
        refine ⟨h1.1, h1.2, fun p hp => ?_⟩
        have h3 := (List.any_eq_false.1 (Bool.eq_false_iff.2 h2)) p hp
        simpa using h3
theorem need_pos {k : Int} (h : isKindB k = true) (h5 : k ≠ 5) : 1 ≤ needI k := by
  rcases isKind_cases h with rfl | rfl | rfl | rfl | rfl
  · decide
  · decide
  · decide
  · decide
  · exact absurd rfl h5
theorem endI_mem {s : Sg} (h : 1 ≤ needI s.k) : endI s ∈ needPts s := by
  have h3 := needI_le s.k
  unfold endI needPts
  rcases (by omega : needI s.k = 1 ∨ needI s.k = 2 ∨ needI s.k = 3) with e | e | e <;> rw [e] <;> simp [Sg.pts]
theorem curve_ok {x s : Sg} (hk : s.k = 3 ∨ s.k = 4) (hs : ∀ p ∈ needPts s, roomP p = true) (hx : roomP (endI x) = true) : curveB (endI x :: needPts s) = true := by
  have hall : (endI x :: needPts s).all roomP = true := by
    rw [List.all_cons, hx, Bool.true_and, List.all_eq_true]
    exact hs
  unfold curveB
  rw [hall]
  rcases hk with e | e
  · have : needI s.k = 2 := by rw [e]; rfl
    simp [needPts, this, Sg.pts]
  · have : needI s.k = 3 := by rw [e]; rfl
    simp [needPts, this, Sg.pts]
/-- What a segment adds to the last subpath. -/
def addI (d : Nat) (x s : Sg) (e : List Pt × Bool) : List Pt × Bool :=
  if s.k = 5 then (e.1, true) else if s.k = 3 ∨ s.k = 4 then (e.1 ++ flatI d (endI x :: needPts s), e.2) else (e.1 ++ [endI s], e.2)
def lastI (f : List Pt × Bool → List Pt × Bool) : List (List Pt × Bool) → List (List Pt × Bool)
  | [] => []
  | [e] => [f e]
  | e :: e' :: S => e :: lastI f (e' :: S)
def stepI (d : Nat) (x s : Sg) (S : List (List Pt × Bool)) : List (List Pt × Bool) := lastI (addI d x s) (if s.k = 1 then S ++ [([], false)] else S)
def foldI (d : Nat) : Sg → List Sg → List (List Pt × Bool) → List (List Pt × Bool)
  | _, [], S => S
  | x, s :: t, S => foldI d s t (stepI d x s S)
/-- The subpaths of a path. -/
def subsI (d : Nat) (l : List Sg) : List (List Pt × Bool) := foldI d shut0 l []
theorem lastI_set (f : List Pt × Bool → List Pt × Bool) : ∀ (S : List (List Pt × Bool)) (m : Nat) (e : List Pt × Bool), S.length = m + 1 → S[m]? = some e → lastI f S = S.set m (f e)
  | [], _, _, h, _ => by cases h
  | [a], m, e, h, he => by
    obtain rfl : m = 0 := by simpa using h
    obtain rfl : a = e := by simpa using he
    rfl
  | a :: b :: S, m, e, h, he => by
    cases m with
    | zero => simp at h
    | succ m =>
      simp only [lastI]
      rw [lastI_set f (b :: S) m e (by simpa using h) (by simpa using he)]
      rfl
theorem flatI_len (d : Nat) (l : List Pt) : (flatI d l).length = 2 ^ d := flatI_length d l
theorem pow_le64 {d : Nat} (h : d ≤ 6) : 2 ^ d ≤ 64 := Nat.le_trans (Nat.pow_le_pow_right (by decide) h) (by decide)
theorem addI_len {d : Nat} (hd : d ≤ 6) (x s : Sg) (e : List Pt × Bool) : (addI d x s e).1.length ≤ e.1.length + 64 := by
  unfold addI
  have h := pow_le64 hd
  split
  · dsimp only; omega
  · split
    · rw [List.length_append, flatI_len]; omega
    · rw [List.length_append]; simp
theorem add_all (x s : Sg) (d : Nat) (hd : d ≤ 6) (C : World) (base g cap m : Nat) (S : List Sb) (y : Sb) (hS : SubsAt C base 39 44 (.slice (some ⟨g, 0, none⟩) S.length cap) S) (hy : S[m]? = some y)
    (hf : Fine x s) (hx : s.k ≠ 1 → s.k ≠ 2 → s.k ≠ 5 → 1 ≤ needI x.k ∧ roomP (endI x) = true) (hr : Rd C) (hbase : base ≤ C.heap.size) (hlen : y.L.length ≤ 90000) :
    Calls Tryd.prog 38 #[.pointer (some ⟨g, m * 2, none⟩), .agg x.cells, .agg s.cells, .int .i64 (d : Int)] C fun e w' => e = .returned (.int .i64 0) ∧
      ∃ y', SubsAt w' base 39 44 (.slice (some ⟨g, 0, none⟩) S.length cap) (S.set m y') ∧ y'.plain = addI d x s y.plain ∧ Keep (fun j => j ≠ g ∧ y.v.ownBlock ≠ some j) C w' := by
  have hm : m < S.length := (List.getElem?_eq_some_iff.1 hy).1
  have ho := hS.own m y hy
  have hgl : g < C.heap.size := (hS.row.lt g rfl).2
  have hcell := hS.row.cells (g := g) rfl
  obtain ⟨e0, e1⟩ := cellsB_at S m y hy
  have c0 : C.cell? ⟨g, m * 2, none⟩ = some y.v := by have h := hcell _ _ e0; rwa [Addr.add_lit, Nat.zero_add] at h
  have c1 : C.cell? ⟨g, m * 2 + 1, none⟩ = some (.bool y.c) := by have h := hcell _ _ e1; rwa [Addr.add_lit, Nat.zero_add] at h
  have fz : ∀ i, C.frozen? ⟨g, i, none⟩ = false := fun i => by
    obtain ⟨_, ⟨e, _⟩ | ⟨g', cap', cur, e, _, hg, _⟩⟩ := hS.row
    · cases e
    · cases e; exact Joins.unfrozen_of_block hg i
  have hne : y.v.ownBlock ≠ some g := by
    rcases apart_types ho hS.row (by decide) with h | h
    · rw [h]; simp
    · simpa [Value.ownBlock] using h
  have out : ∀ (v' : Value) (L' : List Pt) (W1 : World), Grew C base 44 y.v L' v' W1 → SubsAt (W1.setCell ⟨g, m * 2, none⟩ v') base 39 44 (.slice (some ⟨g, 0, none⟩) S.length cap) (S.set m ⟨v', L', y.c⟩) ∧ Keep (fun j => j ≠ g ∧ y.v.ownBlock ≠ some j) C (W1.setCell ⟨g, m * 2, none⟩ v') := fun v' L' W1 hg => by
    obtain ⟨⟨Wm, h1, h2, h3⟩, h4⟩ := hg
    refine ⟨by have h := hS.longer (by decide) hy h1 h2 h3 h4; rwa [List.length_set] at h, ?_⟩
    refine (Keep.trans (Keep.of_below h1) ⟨h2.os, h2.tape, h2.output, h2.size, fun k hk hl => h2.block k hl (fun e => hk.2 e.symm)⟩).trans (Keep.setCell _ _ _ (by simp))
  rcases isKind_cases hf.kind with h | h | h | h | h
  · have he : addI d x s y.plain = (y.L ++ [endI s], y.c) := by simp [addI, h, Sb.plain]
    refine (add_line x s (endI s).1 (endI s).2 d g (m * 2) base y.v y.L C (by rw [h]; rfl) (by rw [h]; rfl) (by rw [h]; rfl) hr hlen hbase c0 (fz _) hgl hne ho (own_shape' ho) (Lib.hid fun w' hr' => end_c2 s w' hr' (by rw [h]; decide))).mono ?_
    rintro e w' ⟨rfl, u, W1, rfl, hg⟩
    obtain ⟨k1, k2⟩ := out _ _ _ hg
    exact ⟨rfl, _, k1, by rw [he]; rfl, k2⟩
  · have he : addI d x s y.plain = (y.L ++ [endI s], y.c) := by simp [addI, h, Sb.plain]
    refine (add_line x s (endI s).1 (endI s).2 d g (m * 2) base y.v y.L C (by rw [h]; rfl) (by rw [h]; rfl) (by rw [h]; rfl) hr hlen hbase c0 (fz _) hgl hne ho (own_shape' ho) (Lib.hid fun w' hr' => end_c2 s w' hr' (by rw [h]; decide))).mono ?_
    rintro e w' ⟨rfl, u, W1, rfl, hg⟩
    obtain ⟨k1, k2⟩ := out _ _ _ hg
    exact ⟨rfl, _, k1, by rw [he]; rfl, k2⟩
  · have he : addI d x s y.plain = (y.L ++ flatI d (endI x :: needPts s), y.c) := by simp [addI, h, Sb.plain]
    obtain ⟨x1, x2⟩ := hx (by omega) (by omega) (by omega)
    obtain ⟨va, vn, vc, hv⟩ := own_shape' ho
    rw [hv] at c0 hne ho out
    have hc := curve_ok (x := x) (s := s) (.inl h) hf.room x2
    refine (add_quad x s (endI x).1 (endI x).2 d g (m * 2) base va vn vc y.L (flatI d (endI x :: needPts s)) C (by rw [h]; rfl) (by rw [h]; rfl) hr hlen (by rw [flatI_len]; have := pow_le64 hd; omega) hbase c0 (fz _) hgl hne ho (Lib.hid fun w' hr' => end_c2 x w' hr' x1) (Lib.hid fun v w' hrow => flat_c v _ d w' hrow hc hd)).mono ?_
    rintro e w' ⟨rfl, u, W1, rfl, hg⟩
    obtain ⟨k1, k2⟩ := out _ _ _ hg
    exact ⟨rfl, _, k1, by rw [he]; rfl, hv ▸ k2⟩
  · have he : addI d x s y.plain = (y.L ++ flatI d (endI x :: needPts s), y.c) := by simp [addI, h, Sb.plain]
    obtain ⟨x1, x2⟩ := hx (by omega) (by omega) (by omega)
    obtain ⟨va, vn, vc, hv⟩ := own_shape' ho
    rw [hv] at c0 hne ho out
    have hc := curve_ok (x := x) (s := s) (.inr h) hf.room x2
    refine (add_cubic x s (endI x).1 (endI x).2 d g (m * 2) base va vn vc y.L (flatI d (endI x :: needPts s)) C (by rw [h]; rfl) (by rw [h]; rfl) (by rw [h]; rfl) hr hlen (by rw [flatI_len]; have := pow_le64 hd; omega) hbase c0 (fz _) hgl hne ho (Lib.hid fun w' hr' => end_c2 x w' hr' x1) (Lib.hid fun v w' hrow => flat_c v _ d w' hrow hc hd)).mono ?_
    rintro e w' ⟨rfl, u, W1, rfl, hg⟩
    obtain ⟨k1, k2⟩ := out _ _ _ hg
    exact ⟨rfl, _, k1, by rw [he]; rfl, hv ▸ k2⟩
  · have he : addI d x s y.plain = (y.L, true) := by simp [addI, h, Sb.plain]
    obtain ⟨k, p, q, r⟩ := s
    obtain rfl : k = 5 := h
    refine (add_close x p q r d g (m * 2) y.c C c1 (fz _) hgl).mono ?_
    rintro e w' ⟨rfl, hb⟩
    refine ⟨rfl, ⟨y.v, y.L, true⟩, by have h := hS.shut (by decide) hy hb; rwa [List.length_set] at h, by rw [he]; rfl, ?_⟩
    have hs : (C.setCell ⟨g, m * 2 + 1, none⟩ (.bool true)).heap.size = C.heap.size := by simp [World.setCell]
    refine (Keep.setCell C ⟨g, m * 2 + 1, none⟩ (.bool true) (by simp)).trans (Keep.of_below (by rw [hs]; exact hb))
end Go.Proofs.YtffgpikhahpomaaDoor
