/- geom.Winds. -/
import Derived.Test.YticoklfgmflidaaDoorGf
namespace Go.Proofs.YticoklfgmflidaaDoor
open Go.RowKit
abbrev Pt := Int × Int
/-- What an edge counts, of points. -/
def cntP (p q s : Pt) : Int := cnt p.1 p.2 q.1 q.2 s.1 s.2
def wstep (s : Pt) (st : Pt × Int) (q : Pt) : Pt × Int := (q, st.2 + cntP st.1 q s)
theorem cntP_bound (p q s : Pt) : -1 ≤ cntP p q s ∧ cntP p q s ≤ 1 := by
  unfold cntP cnt; (repeat' split) <;> omega
theorem wfold_bound (s : Pt) (l : List Pt) : ∀ st : Pt × Int, st.2 - l.length ≤ (l.foldl (wstep s) st).2 ∧ (l.foldl (wstep s) st).2 ≤ st.2 + l.length := by
  induction l with
  | nil => intro st; simp
  | cons q l ih =>
    intro st
    have h := ih (wstep s st q)
    have hb := cntP_bound st.1 q s
    simp only [List.foldl_cons, List.length_cons]
    unfold wstep at h ⊢
    simp only at h
    omega
theorem wfold_room (s : Pt) (l : List Pt) (hl : l.all roomP = true) : ∀ st : Pt × Int, roomP st.1 = true → roomP (l.foldl (wstep s) st).1 = true := by
  induction l with
  | nil => intro st h; exact h
  | cons q l ih =>
    intro st h
    simp only [List.all_cons, Bool.and_eq_true] at hl
    exact ih hl.2 _ hl.1
/-- How often a polygon goes round a point. -/
def windsI (l : List Pt) (s : Pt) : Int := match l.getLast? with
  | none => 0
  | some p => (l.foldl (wstep s) (p, 0)).2
theorem take_fold {α β : Type} (f : β → α → β) (l : List α) (k : Nat) (q : α) (h : l[k]? = some q) (st : β) : (l.take (k + 1)).foldl f st = f ((l.take k).foldl f st) q := by
  rw [List.take_add_one, h]; simp
theorem PtAt.stored {w : World} {g : Nat} {x y : Int} (h : PtAt w g x y) (a b : Int) : PtAt ((w.setCell ⟨g, 0, none⟩ (.int .i64 a)).setCell ⟨g, 1, none⟩ (.int .i64 b)) g a b := by
  unfold PtAt at *
  exact Joins.block_setCell (Joins.block_setCell h (.int .i64 a)) (.int .i64 b)
theorem PtAt.other {w : World} {g : Nat} {x y : Int} (h : PtAt w g x y) (a : Addr) (v : Value) (hne : g ≠ a.block) : PtAt (w.setCell a v) g x y := by
  unfold PtAt; rw [Below.heap_setCell _ _ _ _ hne]; exact h
theorem PtAt.lt {w : World} {g : Nat} {x y : Int} (h : PtAt w g x y) : g < w.heap.size := by
  unfold PtAt at h
  exact (Array.getElem?_eq_some_iff.1 h).1
theorem PtAt.alloc {w : World} {g : Nat} {x y : Int} (h : PtAt w g x y) (o : Obj) : PtAt (w.alloc o) g x y := by
  have := h.lt
  unfold PtAt; rw [heap_alloc_old _ _ this]; exact h
theorem PtAt.new (w : World) (x y : Int) : PtAt (w.alloc (.cells #[.int .i64 x, .int .i64 y] 25)) w.heap.size x y := heap_alloc_new _ _
/-- What the loop keeps. -/
structure WRel (w wr : World) (g : Nat) (s p : Pt) : Prop where
  ps : PtAt wr w.heap.size s.1 s.2
  pg : PtAt wr g p.1 p.2
  hg : w.heap.size < g
  hb : Below w.heap.size w wr
end Go.Proofs.YticoklfgmflidaaDoor

