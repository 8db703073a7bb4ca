/- limnerref03.Winds. -/
import Derived.Test.YticoklfgmflidaaDoorGj
namespace Go.Proofs.YticoklfgmflidaaDoor
open Go.RowKit
def nxt (l : List Pt) (k : Nat) : Pt := if k + 1 < l.length then l.getD (k + 1) (0, 0) else l.getD 0 (0, 0)
def rsum (l : List Pt) (s : Pt) : Nat → Int
  | 0 => 0
  | k + 1 => rsum l s k + cntP (l.getD k (0, 0)) (nxt l k) s
theorem rsum_bound (l : List Pt) (s : Pt) : ∀ k : Nat, -(k : Int) ≤ rsum l s k ∧ rsum l s k ≤ k
  | 0 => by simp [rsum]
  | k + 1 => by
    have h := rsum_bound l s k
    have hb := cntP_bound (l.getD k (0, 0)) (nxt l k) s
    unfold rsum
    omega
end Go.Proofs.YticoklfgmflidaaDoor

