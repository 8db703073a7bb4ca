/- The document's Winds and the program's tell the same; awake. -/
import Derived.Test.YticoklfgmflidaaDoorGk
namespace Go.Proofs.YticoklfgmflidaaDoor
open Go.RowKit
def chain (s : Pt) : Pt → List Pt → Int
  | _, [] => 0
  | p, q :: r => cntP p q s + chain s q r
theorem fold_chain (s : Pt) : ∀ (l : List Pt) (p : Pt) (t : Int), (l.foldl (wstep s) (p, t)).2 = t + chain s p l
  | [], _, _ => by simp [chain]
  | q :: r, p, t => by
    rw [List.foldl_cons]
    show (r.foldl (wstep s) (q, t + cntP p q s)).2 = _
    rw [fold_chain s r q]
    simp only [chain]; omega
theorem chain_append (s : Pt) : ∀ (l m : List Pt) (p : Pt), chain s p (l ++ m) = chain s p l + chain s (l.getLastD p) m
  | [], m, p => by simp [chain]
  | q :: r, m, p => by
    rw [List.cons_append]
    simp only [chain]
    rw [chain_append s r m q, show (q :: r).getLastD p = r.getLastD q by cases r <;> simp [List.getLastD]]
    omega
theorem rsum_chain (s a : Pt) (r : List Pt) : ∀ k : Nat, k ≤ r.length → rsum (a :: r) s k = chain s a (r.take k)
  | 0, _ => by simp [rsum, chain]
  | k + 1, h => by
    have hk : k < r.length := by omega
    unfold rsum
    rw [rsum_chain s a r k (by omega), List.take_add_one, chain_append, List.getElem?_eq_getElem hk]
    congr 1
    have e1 : nxt (a :: r) k = r[k] := by
      unfold nxt
      rw [if_pos (by simp; omega), List.getD_eq_getElem?_getD, List.getElem?_cons_succ, List.getElem?_eq_getElem hk]; rfl
    have e2 : (a :: r).getD k (0, 0) = (r.take k).getLastD a := by
      cases k with
      | zero => simp
      | succ j =>
        rw [List.getD_eq_getElem?_getD, List.getElem?_cons_succ, List.getLastD_eq_getLast?, List.getLast?_eq_getElem?, List.length_take, List.getElem?_take]
        rw [if_pos (by omega), show min (j + 1) r.length - 1 = j by omega, List.getElem?_eq_getElem (by omega)]; rfl
    rw [e1, e2]
    simp [chain]
theorem winds_eq (l : List Pt) (s : Pt) : windsI l s = rsum l s l.length := by
  cases l with
  | nil => rfl
  | cons a r =>
    unfold windsI
    rw [show (a :: r).getLast? = some (r.getLastD a) by rw [List.getLast?_cons, List.getLastD_eq_getLast?]]
    simp only
    rw [fold_chain]
    simp only [List.length_cons, chain]
    unfold rsum
    rw [rsum_chain s a r r.length (Nat.le_refl _), List.take_length]
    have e1 : nxt (a :: r) r.length = a := by unfold nxt; rw [if_neg (by simp)]; rfl
    have e2 : (a :: r).getD r.length (0, 0) = r.getLastD a := by
      cases r with
      | nil => rfl
      | cons b q => rw [List.getD_eq_getElem?_getD, List.length_cons, List.getElem?_cons_succ, List.getLastD_eq_getLast?, List.getLast?_eq_getElem?, List.length_cons, Nat.add_sub_cancel, List.getElem?_eq_getElem (by simp)]; rfl
    rw [e1, e2]; omega
end Go.Proofs.YticoklfgmflidaaDoor

