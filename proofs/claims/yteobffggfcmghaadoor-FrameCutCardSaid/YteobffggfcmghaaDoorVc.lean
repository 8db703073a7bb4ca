/- Layer 13: package frame: the record that bytes begin with. -/
import Derived.Test.YteobffggfcmghaaDoorVb
namespace Go.Proofs.YteobffggfcmghaaDoor
open Go.RowKit
theorem results_first {fn : Func} {tmps : Array Value} {W : World} {g : Nat} {s : Value} {q k n : Int} (hres : fn.results = #[.cell 2 29, .tmp 3]) (hg : tmps[2]? = some (.pointer (some ⟨g, 0, none⟩))) (h3 : tmps[3]? = some (.int .i64 n)) (hb : Blk W g 29 #[.int .i64 q, .int .i64 k, s]) (hs : ∃ a l c, s = .slice a l c) :
    (results fn tmps).run Tryd.prog W = .ok (.tuple #[recA q k s, .int .i64 n]) W := by
  obtain ⟨a, l, c, rfl⟩ := hs
  have c0 : W.cell? ⟨g, 0, none⟩ = some (.int .i64 q) := hb.cell 0
  have c1 : W.cell? ⟨g, 1, none⟩ = some (.int .i64 k) := hb.cell 1
  have c2 : W.cell? ⟨g, 2, none⟩ = some (.slice a l c) := hb.cell 2
  simp [results, hres, hg, h3, go_sem, c0, c1, c2]
/-- A record is stored: the block behind it. -/
theorem Blk.rec3 {w : World} {g : Nat} {a b c : Value} (h : Blk w g 29 #[a, b, c]) (x y z : Value) : Blk (((w.setCell ⟨g, 0, none⟩ x).setCell ⟨g, 1, none⟩ y).setCell ⟨g, 2, none⟩ z) g 29 #[x, y, z] := ((h.set 0 x).set 1 y).set 2 z
theorem below_rec3 {B : Nat} {w w' : World} {g : Nat} (h : Below B w w') (hg : B ≤ g) (x y z : Value) : Below B w (((w'.setCell ⟨g, 0, none⟩ x).setCell ⟨g, 1, none⟩ y).setCell ⟨g, 2, none⟩ z) := ((h.setCell hg _).setCell hg _).setCell hg _
abbrev nilS : Value := .slice none 0 0
abbrev FirstQ (w : World) (q k n : Int) (E : List Int) : Ending → World → Prop := fun e w' => ∃ d, e = .returned (.tuple #[recA q k d, .int .i64 n]) ∧ Below w.heap.size w w' ∧ RowB w' d E
set_option maxHeartbeats 4000000 in
set_option maxRecDepth 100000 in
theorem first_short (ao : Option Addr) (n ac : Nat) (w : World) (hl : n < 17) : Calls Tryd.prog 29 #[.slice ao n ac] w (FirstQ w 0 0 0 []) := by
  have d1 : decide ((n : Int) < 17) = true := by simp; omega
  have d1' : decide (n < 17) = true := by simp; omega
  obtain ⟨w0, hw0⟩ : ∃ x, x = w.alloc (.cells #[.int .i64 0, .int .i64 0, .slice none 0 0] 29) := ⟨_, rfl⟩
  have H0 : Hid (Blk w0 w.heap.size 29 #[.int .i64 0, .int .i64 0, .slice none 0 0] ∧ Below w.heap.size w w0) := by
    subst hw0
    exact ⟨Blk.new _ _ _, (Below.refl _ _).alloc (Nat.le_refl _) _⟩
  have c0 : w0.cell? ⟨w.heap.size, 0, none⟩ = some (.int .i64 0) := H0.out.1.cell 0
  have c1 : w0.cell? ⟨w.heap.size, 1, none⟩ = some (.int .i64 0) := H0.out.1.cell 1
  have c2 : w0.cell? ⟨w.heap.size, 2, none⟩ = some (.slice none 0 0) := H0.out.1.cell 2
  have f0 := H0.out.1.free 0
  have f1 := H0.out.1.free 1
  have f2 := H0.out.1.free 2
  have hlt := H0.out.1.lt
  clear hl
  go_enter Tryd.func29, Tryd.ntmps29
  go_upto_region 1 with fail
  rw [← hw0]
  clear hw0
  go_wp2_with fail
  exact bodyPost_ret (results_first rfl rfl rfl (H0.out.1.rec3 _ _ _) ⟨_, _, _, rfl⟩) rfl ⟨_, rfl, below_rec3 H0.out.2 (Nat.le_refl _) _ _ _, .inl ⟨rfl, rfl⟩⟩
end Go.Proofs.YteobffggfcmghaaDoor
