/- Layer 5: rows of a curve in memory. -/
import Derived.Test.YtffgpikhahpomaaDoorC
namespace Go.Proofs.YtffgpikhahpomaaDoor
open Go.RowKit
/-- The cells of a row: four points and a number. -/
abbrev nine (p q r s : Pt) (n : Int) : Array Value := #[.int .i64 p.1, .int .i64 p.2, .int .i64 q.1, .int .i64 q.2, .int .i64 r.1, .int .i64 r.2, .int .i64 s.1, .int .i64 s.2, .int .i64 n]
structure Ro where
  p : Pt
  q : Pt
  r : Pt
  s : Pt
  n : Int
abbrev zP : Pt := (0, 0)
def Ro.cells (x : Ro) : Array Value := nine x.p x.q x.r x.s x.n
theorem results_row {fn : Func} {tmps : Array Value} {w : World} {g : Nat} {x : Ro} (t : Nat) (hres : fn.results = #[.cell t 112]) (ht : tmps[t]? = some (.pointer (some ⟨g, 0, none⟩))) (h : Blk w g 112 x.cells) :
    (results fn tmps).run Tryd.prog w = .ok (.agg x.cells) w := by
  have h0 : w.cell? ⟨g, 0, none⟩ = some (.int .i64 x.p.1) := h.cell 0
  have h1 : w.cell? ⟨g, 1, none⟩ = some (.int .i64 x.p.2) := h.cell 1
  have h2 : w.cell? ⟨g, 2, none⟩ = some (.int .i64 x.q.1) := h.cell 2
  have h3 : w.cell? ⟨g, 3, none⟩ = some (.int .i64 x.q.2) := h.cell 3
  have h4 : w.cell? ⟨g, 4, none⟩ = some (.int .i64 x.r.1) := h.cell 4
  have h5 : w.cell? ⟨g, 5, none⟩ = some (.int .i64 x.r.2) := h.cell 5
  have h6 : w.cell? ⟨g, 6, none⟩ = some (.int .i64 x.s.1) := h.cell 6
  have h7 : w.cell? ⟨g, 7, none⟩ = some (.int .i64 x.s.2) := h.cell 7
  have h8 : w.cell? ⟨g, 8, none⟩ = some (.int .i64 x.n) := h.cell 8
  simp [results, hres, ht, go_sem, h0, h1, h2, h3, h4, h5, h6, h7, h8, Ro.cells]
theorem Blk.put {w : World} {g : Nat} {t : TypeId} {cs : Array Value} (h : Blk w g t cs) (i : Nat) (v : Value) (cs' : Array Value) (e : cs.setIfInBounds i v = cs') : Blk (w.setCell ⟨g, i, none⟩ v) g t cs' := e ▸ h.set i v
/-- Nine cells stored. -/
def World.set9 (w : World) (g : Nat) (a b c d e f i j k : Value) : World := ((((((((w.setCell ⟨g, 0, none⟩ a).setCell ⟨g, 1, none⟩ b).setCell ⟨g, 2, none⟩ c).setCell ⟨g, 3, none⟩ d).setCell ⟨g, 4, none⟩ e).setCell ⟨g, 5, none⟩ f).setCell ⟨g, 6, none⟩ i).setCell ⟨g, 7, none⟩ j).setCell ⟨g, 8, none⟩ k
theorem Blk.set9 {w : World} {g : Nat} {t : TypeId} {x : Ro} (h : Blk w g t x.cells) (y : Ro) :
    Blk (((((((((w.setCell ⟨g, 0, none⟩ (.int .i64 y.p.1)).setCell ⟨g, 1, none⟩ (.int .i64 y.p.2)).setCell ⟨g, 2, none⟩ (.int .i64 y.q.1)).setCell ⟨g, 3, none⟩ (.int .i64 y.q.2)).setCell ⟨g, 4, none⟩ (.int .i64 y.r.1)).setCell ⟨g, 5, none⟩ (.int .i64 y.r.2)).setCell ⟨g, 6, none⟩ (.int .i64 y.s.1)).setCell ⟨g, 7, none⟩ (.int .i64 y.s.2)).setCell ⟨g, 8, none⟩ (.int .i64 y.n)) g t y.cells := by
  obtain ⟨p, q, r, s, n⟩ := x
  obtain ⟨p', q', r', s', n'⟩ := y
  exact (((((((((h.put 0 _ (nine (p'.1, p.2) q r s n) rfl).put 1 _ (nine p' q r s n) rfl).put 2 _ (nine p' (q'.1, q.2) r s n) rfl).put 3 _ (nine p' q' r s n) rfl).put 4 _ (nine p' q' (r'.1, r.2) s n) rfl).put 5 _ (nine p' q' r' s n) rfl).put 6 _ (nine p' q' r' (s'.1, s.2) n) rfl).put 7 _ (nine p' q' r' s' n) rfl).put 8 _ (nine p' q' r' s' n') rfl)
theorem Blk.other9 {w : World} {g g' : Nat} {t : TypeId} {cs : Array Value} (h : Blk w g t cs) (hne : g ≠ g') (a b c d e f i j k : Value) :
    Blk (((((((((w.setCell ⟨g', 0, none⟩ a).setCell ⟨g', 1, none⟩ b).setCell ⟨g', 2, none⟩ c).setCell ⟨g', 3, none⟩ d).setCell ⟨g', 4, none⟩ e).setCell ⟨g', 5, none⟩ f).setCell ⟨g', 6, none⟩ i).setCell ⟨g', 7, none⟩ j).setCell ⟨g', 8, none⟩ k) g t cs :=
  ((((((((h.other _ _ hne).other _ _ hne).other _ _ hne).other _ _ hne).other _ _ hne).other _ _ hne).other _ _ hne).other _ _ hne).other _ _ hne
theorem below_nine {w w' : World} {B g : Nat} (h : Below B w w') (hg : B ≤ g) (a b c d e f i j k : Value) :
    Below B w (((((((((w'.setCell ⟨g, 0, none⟩ a).setCell ⟨g, 1, none⟩ b).setCell ⟨g, 2, none⟩ c).setCell ⟨g, 3, none⟩ d).setCell ⟨g, 4, none⟩ e).setCell ⟨g, 5, none⟩ f).setCell ⟨g, 6, none⟩ i).setCell ⟨g, 7, none⟩ j).setCell ⟨g, 8, none⟩ k) :=
  ((((((((h.setCell hg _).setCell hg _).setCell hg _).setCell hg _).setCell hg _).setCell hg _).setCell hg _).setCell hg _).setCell hg _
section
variable {w : World} {g : Nat} {t : TypeId} {x : Ro}
theorem Blk.r0 (h : Blk w g t x.cells) : w.cell? ⟨g, 0, none⟩ = some (.int .i64 x.p.1) := h.cell 0
theorem Blk.r1 (h : Blk w g t x.cells) : w.cell? ⟨g, 1, none⟩ = some (.int .i64 x.p.2) := h.cell 1
theorem Blk.r2 (h : Blk w g t x.cells) : w.cell? ⟨g, 2, none⟩ = some (.int .i64 x.q.1) := h.cell 2
theorem Blk.r3 (h : Blk w g t x.cells) : w.cell? ⟨g, 3, none⟩ = some (.int .i64 x.q.2) := h.cell 3
theorem Blk.r4 (h : Blk w g t x.cells) : w.cell? ⟨g, 4, none⟩ = some (.int .i64 x.r.1) := h.cell 4
theorem Blk.r5 (h : Blk w g t x.cells) : w.cell? ⟨g, 5, none⟩ = some (.int .i64 x.r.2) := h.cell 5
theorem Blk.r6 (h : Blk w g t x.cells) : w.cell? ⟨g, 6, none⟩ = some (.int .i64 x.s.1) := h.cell 6
theorem Blk.r7 (h : Blk w g t x.cells) : w.cell? ⟨g, 7, none⟩ = some (.int .i64 x.s.2) := h.cell 7
theorem Blk.r8 (h : Blk w g t x.cells) : w.cell? ⟨g, 8, none⟩ = some (.int .i64 x.n) := h.cell 8
end
end Go.Proofs.YtffgpikhahpomaaDoor

