/- Windings of polygons that are turned round, begun elsewhere, parted: what the law asks. -/
import Derived.Test.YtbllbncmeihaaaaHf
namespace Go.Proofs.Ytbllbncmeihaaaa
theorem cntP_swap (p q s : Pt) : cntP q p s = -cntP p q s := by
  unfold cntP cnt
  rw [side_swap p.1 p.2 q.1 q.2]
  generalize sideI p.1 p.2 q.1 q.2 s.1 s.2 = d
  (repeat' split) <;> omega
theorem cntP_same (p s : Pt) : cntP p p s = 0 := by
  have := cntP_swap p p s; omega
/-- The sum over the edges of an open row. -/
def edges (s : Pt) : List Pt → Int
  | [] => 0
  | [_] => 0
  | a :: b :: r => cntP a b s + edges s (b :: r)
theorem edges_cons (s a : Pt) : ∀ r : List Pt, edges s (a :: r) = chain s a r
  | [] => rfl
  | b :: r => by simp only [edges, chain]; rw [edges_cons s b r]
theorem edges_join (s b : Pt) (m : List Pt) : ∀ l : List Pt, edges s (l ++ b :: m) = edges s (l ++ [b]) + edges s (b :: m)
  | [] => by simp [edges]
  | [a] => by simp [edges]
  | a :: c :: r => by
    have := edges_join s b m (c :: r)
    simp only [List.cons_append, edges] at this ⊢
    omega
theorem edges_reverse (s : Pt) : ∀ l : List Pt, edges s l.reverse = -edges s l
  | [] => rfl
  | [_] => by simp [edges]
  | a :: b :: r => by
    have ih := edges_reverse s (b :: r)
    rw [List.reverse_cons, List.reverse_cons, List.append_assoc, List.singleton_append, edges_join, ← List.reverse_cons, ih]
    simp only [edges]
    rw [cntP_swap a b]; omega
/-- Closed. -/
theorem winds_edges (a : Pt) (r : List Pt) (s : Pt) : windsI (a :: r) s = edges s (a :: r ++ [a]) := by
  unfold windsI
  rw [show (a :: r).getLast? = some (r.getLastD a) by rw [List.getLast?_cons, List.getLastD_eq_getLast?]]
  simp only
  rw [fold_chain, List.cons_append, edges_cons, chain_append]
  simp only [chain]; omega
theorem winds_turn (x y : List Pt) (s : Pt) : windsI (x ++ y) s = windsI (y ++ x) s := by
  cases x with
  | nil => simp
  | cons a x =>
    cases y with
    | nil => simp
    | cons b y =>
      rw [List.cons_append, List.cons_append, winds_edges, winds_edges]
      have h1 := edges_join s b (y ++ [a]) (a :: x)
      have h2 := edges_join s a (x ++ [b]) (b :: y)
      simp only [List.cons_append, List.append_assoc] at h1 h2 ⊢
      rw [h1, h2]; omega
theorem winds_back (l : List Pt) (s : Pt) : windsI l.reverse s = -windsI l s := by
  cases l with
  | nil => rfl
  | cons a r =>
    rw [List.reverse_cons, winds_turn, List.singleton_append, winds_edges, winds_edges]
    have h := edges_reverse s (a :: r ++ [a])
    rw [List.reverse_append, List.reverse_cons] at h
    simpa using h
theorem winds_twice (l : List Pt) (z s : Pt) (h : l.getLast? = some z) : windsI (l ++ [z]) s = windsI l s := by
  obtain ⟨l', rfl⟩ : ∃ l', l = l' ++ [z] := List.getLast?_eq_some_iff.1 h
  rw [winds_turn (l' ++ [z]) [z], winds_turn l' [z]]
  simp only [List.singleton_append]
  rw [show z :: (l' ++ [z]) = (z :: l') ++ [z] from rfl, winds_turn (z :: l') [z]]
  simp only [List.singleton_append]
  rw [winds_edges, winds_edges]
  simp only [List.cons_append, edges]
  rw [cntP_same]; omega
theorem winds_part (a x : Pt) (p q : List Pt) (s : Pt) : windsI (a :: (p ++ [x])) s + windsI (a :: x :: q) s = windsI (a :: (p ++ x :: q)) s := by
  rw [winds_edges, winds_edges, winds_edges]
  have h1 := edges_join s x (q ++ [a]) (a :: p)
  have h2 := edges_join s x [a] (a :: p)
  simp only [List.cons_append, List.append_assoc, List.nil_append] at h1 h2 ⊢
  rw [h1, h2]
  simp only [edges]
  rw [cntP_swap a x]; omega
end Go.Proofs.Ytbllbncmeihaaaa
