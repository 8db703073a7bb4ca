/- The statements' own 'in' over a row of points. -/
import Derived.Test.YticoklfgmflidaaDoorGa
namespace Go.Proofs.YticoklfgmflidaaDoor
open Go.RowKit
/-- A point at hand in memory. -/
def PtAt (w : World) (g : Nat) (x y : Int) : Prop := w.heap[g]? = some (.cells #[.int .i64 x, .int .i64 y] 25 (0, 0))
theorem PtAt.c0 {w : World} {g : Nat} {x y : Int} (h : PtAt w g x y) : w.cell? ⟨g, 0, none⟩ = some (.int .i64 x) := Joins.cell_of_block h 0
theorem PtAt.c1 {w : World} {g : Nat} {x y : Int} (h : PtAt w g x y) : w.cell? ⟨g, 1, none⟩ = some (.int .i64 y) := Joins.cell_of_block h 1
theorem PtAt.free {w : World} {g : Nat} {x y : Int} (h : PtAt w g x y) (i : Nat) : w.frozen? ⟨g, i, none⟩ = false := Joins.unfrozen_of_block h i
theorem PtAt.on {w w' : World} {g : Nat} {x y : Int} {B : Nat} (h : PtAt w g x y) (hb : Below B w w') (hg : g < B) : PtAt w' g x y := by
  unfold PtAt; rw [hb.block g hg]; exact h

end Go.Proofs.YticoklfgmflidaaDoor

