/- Layer 6: the law's is; cells of an edit. -/
import Derived.Test.YtffgpikhahpomaaDoorSu
import Derived.Test.YtffgpikhahpomaaDoorFm
namespace Go.Proofs.YtffgpikhahpomaaDoor
open Go.RowKit
theorem OwnS.empty {w : World} {b : Nat} {t : TypeId} {v : Value} (h : OwnS w b t v []) : ∃ a c, v = .slice a 0 c := by
  obtain ⟨a, c, h, _⟩ := h.cap
  exact ⟨a, c, h⟩
set_option maxHeartbeats 1000000 in
set_option maxRecDepth 100000 in
theorem is_c (q v : Value) (M : List Sg) (w : World) (hl : M.length ≤ 5000) (hq : RowS w q (outI M).2) (hv : RowS w v M) : Calls Tryd.prog 22 #[q, .int .i64 (outI M).1, v] w fun e w' => e = .returned (.bool true) ∧ Below w.heap.size w w' := by
  have HC := Lib.hid (rcheck_c v M w hv)
  unfold outI at hq ⊢
  obtain ⟨z, hz⟩ : ∃ z, checkI M = z := ⟨_, rfl⟩
  simp only [hz] at hq HC ⊢
  by_cases h0 : z = 0
  · subst h0
    simp only [if_true] at hq
    have HS : Hid (∀ W, Below w.heap.size w W → Calls Tryd.prog 21 #[q, v] W fun e w' => e = .returned (.bool true) ∧ Below W.heap.size W w') := fun W h => same_c q v M W hl (hq.on h) (hv.on h)
    clear hq hv hz
    go_enter Tryd.func22, Tryd.ntmps22
    go_wp2_with fail
    refine HC.out.mono ?_
    rintro e w1 ⟨rfl, hb⟩
    have HB := Lib.hid hb; clear hb
    go_wp2_with fail
    refine (HS.out _ HB.out).mono ?_
    rintro e w2 ⟨rfl, hb⟩
    have HB2 := Lib.hid (below_next HB.out hb); clear hb
    go_wp2_with fail
    go_ret
    exact ⟨rfl, HB2.out⟩
  · simp only [h0, if_false] at hq
    obtain ⟨ao, c, rfl⟩ := hq.shape
    have hz1 : (z != 0) = true := by simpa using h0
    have hz2 : (z == z) = true := by simp
    clear hq hv hz h0
    simp only [List.length_nil]
    go_enter Tryd.func22, Tryd.ntmps22
    go_wp2_with fail
    refine HC.out.mono ?_
    rintro e w1 ⟨rfl, hb⟩
    have HB := Lib.hid hb; clear hb
    go_wp2_with fail
    go_ret
    exact ⟨rfl, HB.out⟩
section
variable {w : World} {g : Nat} {t : TypeId} {v : Value} {i k x y : Int} {s : Sg}
theorem Blk.e0 (h : Blk w g t (editCells v i k s x y)) : w.cell? ⟨g, 0, none⟩ = some v := h.cell 0
theorem Blk.e1 (h : Blk w g t (editCells v i k s x y)) : w.cell? ⟨g, 1, none⟩ = some (.int .i64 i) := h.cell 1
theorem Blk.e2 (h : Blk w g t (editCells v i k s x y)) : w.cell? ⟨g, 2, none⟩ = some (.int .i64 k) := h.cell 2
theorem Blk.e3 (h : Blk w g t (editCells v i k s x y)) : w.cell? ⟨g, 3, none⟩ = some (.int .i64 s.k) := h.cell 3
theorem Blk.e4 (h : Blk w g t (editCells v i k s x y)) : w.cell? ⟨g, 4, none⟩ = some (.int .i64 s.p.1) := h.cell 4
theorem Blk.e5 (h : Blk w g t (editCells v i k s x y)) : w.cell? ⟨g, 5, none⟩ = some (.int .i64 s.p.2) := h.cell 5
theorem Blk.e6 (h : Blk w g t (editCells v i k s x y)) : w.cell? ⟨g, 6, none⟩ = some (.int .i64 s.q.1) := h.cell 6
theorem Blk.e7 (h : Blk w g t (editCells v i k s x y)) : w.cell? ⟨g, 7, none⟩ = some (.int .i64 s.q.2) := h.cell 7
theorem Blk.e8 (h : Blk w g t (editCells v i k s x y)) : w.cell? ⟨g, 8, none⟩ = some (.int .i64 s.r.1) := h.cell 8
theorem Blk.e9 (h : Blk w g t (editCells v i k s x y)) : w.cell? ⟨g, 9, none⟩ = some (.int .i64 s.r.2) := h.cell 9
theorem Blk.e10 (h : Blk w g t (editCells v i k s x y)) : w.cell? ⟨g, 10, none⟩ = some (.int .i64 x) := h.cell 10
theorem Blk.e11 (h : Blk w g t (editCells v i k s x y)) : w.cell? ⟨g, 11, none⟩ = some (.int .i64 y) := h.cell 11
end
end Go.Proofs.YtffgpikhahpomaaDoor
