/- geom.Side. -/
import Derived.Test.YticoklfgmflidaaDoorGb
namespace Go.Proofs.YticoklfgmflidaaDoor
open Go.RowKit

/-- The side that the document means: the sign of the exact number. -/
def sideI (ax ay bx bY cx cy : Int) : Int := cmpI ((bx - ax) * (cy - ay)) ((bY - ay) * (cx - ax))
theorem I64_of {n : Int} (h1 : -9223372036854775808 ≤ n) (h2 : n ≤ 9223372036854775807) : I64 n := ⟨h1, h2⟩
theorem prod_small {a b : Int} (h1 : -4294967296 ≤ a) (h2 : a ≤ 4294967296) (h3 : -4294967296 ≤ b) (h4 : b ≤ 4294967296) : -18446744073709551616 ≤ a * b ∧ a * b ≤ 18446744073709551616 := by
  obtain ⟨A, hA, hA2⟩ : ∃ A : Nat, (a = A ∨ a = -(A : Int)) ∧ A ≤ 4294967296 := ⟨a.natAbs, by omega, by omega⟩
  obtain ⟨B, hB, hB2⟩ : ∃ B : Nat, (b = B ∨ b = -(B : Int)) ∧ B ≤ 4294967296 := ⟨b.natAbs, by omega, by omega⟩
  have h := Nat.mul_le_mul hA2 hB2
  have e : ((A * B : Nat) : Int) = (A : Int) * B := by simp
  generalize A * B = C at *
  rcases hA with rfl | rfl <;> rcases hB with rfl | rfl <;> simp only [Int.neg_mul, Int.mul_neg, Int.neg_neg, ← e] <;> omega
theorem mul_toInt (a b : Int) (h1 : -4294967296 ≤ a) (h2 : a ≤ 4294967296) (h3 : -4294967296 ≤ b) (h4 : b ≤ 4294967296) : (ofI a * ofI b).toInt = a * b := by
  have h := prod_small h1 h2 h3 h4
  have ha : I64 a := ⟨by omega, by omega⟩
  have hb : I64 b := ⟨by omega, by omega⟩
  rw [BitVec.toInt_mul, ofI_toInt a ha, ofI_toInt b hb]
  apply Int.bmod_eq_of_le
  · show -(((340282366920938463463374607431768211456 : Nat) : Int) / 2) ≤ _
    omega
  · show _ < (((340282366920938463463374607431768211456 : Nat) : Int) + 1) / 2
    omega
theorem run_intAt (o : Oper) (a : Act) (x : Operand) (ad : Addr) (n : Int) (w : World) (ho : o.op = .load 3 x) (hx : a.eval x = .pointer (some ad)) (hc : w.cell? ad = some (.int .i64 n)) :
    (execOp a.eval o).run Tryd.prog w = .ok (.value (.int .i64 n)) w := by
  unfold execOp
  simp only [ho, hx]
  go_simp
/-- Three structs' cells lie at hand. -/
theorem three_pts (w : World) (ax ay bx bY cx cy : Int) (W : World) (hW : ((w.alloc (.cells #[.int .i64 ax, .int .i64 ay] 25)).alloc (.cells #[.int .i64 bx, .int .i64 bY] 25)).alloc (.cells #[.int .i64 cx, .int .i64 cy] 25) = W) :
    PtAt W w.heap.size ax ay ∧ PtAt W (w.heap.size + 1) bx bY ∧ PtAt W (w.heap.size + 2) cx cy ∧ Below w.heap.size w W ∧ W.heap.size = w.heap.size + 3 := by
  subst hW
  have s2 : ((w.alloc (.cells #[.int .i64 ax, .int .i64 ay] 25)).alloc (.cells #[.int .i64 bx, .int .i64 bY] 25)).heap.size = w.heap.size + 2 := by simp
  refine ⟨?_, ?_, ?_, (((Below.refl _ _).alloc (Nat.le_refl _) _).alloc (by simp) _).alloc (by omega) _, by simp⟩
  · unfold PtAt; rw [heap_alloc_old _ _ (by omega)]; exact heap_alloc2_old _ _ _
  · unfold PtAt; rw [heap_alloc_old _ _ (by omega)]; exact heap_alloc2_new _ _ _
  · unfold PtAt; rw [← s2]; exact heap_alloc_new _ _
theorem cells_out {W w' : World} {g : Nat} {x y : Int} (h : PtAt W g x y) (hg : g < W.heap.size) (hw : Out W w') : w'.cell? ⟨g, 0, none⟩ = some (.int .i64 x) ∧ w'.cell? ⟨g, 1, none⟩ = some (.int .i64 y) :=
  ⟨(h.on hw hg).c0, (h.on hw hg).c1⟩
end Go.Proofs.YticoklfgmflidaaDoor

