/- Sides: turned, and of points on a line. -/
import Derived.Test.YtbllbncmeihaaaaHc
namespace Go.Proofs.Ytbllbncmeihaaaa
theorem cmpI_sub (x y : Int) : cmpI x y = if x - y < 0 then -1 else if 0 < x - y then 1 else 0 := by
  unfold cmpI; (repeat' split) <;> omega
theorem side_swap (ax ay bx bY cx cy : Int) : sideI bx bY ax ay cx cy = -sideI ax ay bx bY cx cy := by
  unfold sideI
  rw [cmpI_sub, cmpI_sub]
  have h : (ax - bx) * (cy - bY) - (ay - bY) * (cx - bx) = -((bx - ax) * (cy - ay) - (bY - ay) * (cx - ax)) := by grind
  rw [h]
  generalize (bx - ax) * (cy - ay) - (bY - ay) * (cx - ax) = d
  (repeat' split) <;> omega
theorem side_rot (ax ay bx bY cx cy : Int) : sideI bx bY cx cy ax ay = sideI ax ay bx bY cx cy := by
  unfold sideI
  rw [cmpI_sub, cmpI_sub]
  have h : (cx - bx) * (ay - bY) - (cy - bY) * (ax - bx) = (bx - ax) * (cy - ay) - (bY - ay) * (cx - ax) := by grind
  rw [h]
theorem side_aba (ax ay bx bY : Int) : sideI ax ay bx bY ax ay = 0 := by simp [sideI, cmpI]
theorem side_aac (ax ay cx cy : Int) : sideI ax ay ax ay cx cy = 0 := by simp [sideI, cmpI]
theorem side_bound (ax ay bx bY cx cy : Int) : -1 ≤ sideI ax ay bx bY cx cy ∧ sideI ax ay bx bY cx cy ≤ 1 := by
  unfold sideI cmpI; (repeat' split) <;> omega
#print axioms side_swap
end Go.Proofs.Ytbllbncmeihaaaa
