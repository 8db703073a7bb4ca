/- Layer 11: pixels of two kinds, a box's pixels one row behind the other; the pixels of an image that are stored into. -/
import Derived.Test.YtoppmlfibllhlaaRb
import Derived.Test.YtoppmlfibllhlaaRc
import Derived.Test.YtoppmlfibllhlaaL
namespace Go.Proofs.Ytoppmlfibllhlaa
open Go.RowKit
def mixL (g h : Nat → Col) (q : Nat → Bool) (n : Nat) : List Col := (List.range n).map fun k => if q k then g k else h k
theorem mixL_len (g h : Nat → Col) (q : Nat → Bool) (n : Nat) : (mixL g h q n).length = n := by simp [mixL]
theorem mixL_congr {g h : Nat → Col} {q q' : Nat → Bool} {n : Nat} (e : ∀ k, k < n → q k = q' k) : mixL g h q n = mixL g h q' n :=
  List.map_congr_left fun k hk => by rw [e k (List.mem_range.1 hk)]
theorem mixL_all {g h f : Nat → Col} {q : Nat → Bool} {n : Nat} (e : ∀ k, k < n → (if q k then g k else h k) = f k) : mixL g h q n = (List.range n).map f :=
  List.map_congr_left fun k hk => e k (List.mem_range.1 hk)
theorem range_cAt (l : List Col) : (List.range l.length).map (cAt l) = l := by
  apply List.ext_getElem?
  intro i
  by_cases h : i < l.length
  · rw [List.getElem?_map, List.getElem?_range h, Option.map_some]; exact (cAt_some h).symm
  · rw [List.getElem?_eq_none (by simpa using h), List.getElem?_eq_none (by omega)]
theorem mixL_none {g : Nat → Col} {l : List Col} {q : Nat → Bool} (e : ∀ k, k < l.length → q k = false) : mixL g (cAt l) q l.length = l := by
  rw [mixL_all (f := cAt l) (fun k hk => by rw [e k hk]; rfl), range_cAt]
theorem mixL_at {g h : Nat → Col} {q : Nat → Bool} {n k : Nat} (hk : k < n) : (mixL g h q n)[k]? = some (if q k then g k else h k) := by
  unfold mixL; rw [List.getElem?_map, List.getElem?_range hk]; rfl
theorem mixL_set {g h : Nat → Col} {q q' : Nat → Bool} {n k0 : Nat} (_hk : k0 < n) (e : ∀ k, k < n → q' k = (q k || decide (k = k0))) : (mixL g h q n).set k0 (g k0) = mixL g h q' n := by
  apply List.ext_getElem?
  intro i
  by_cases hi : i < n
  · rw [mixL_at hi, List.getElem?_set, e i hi]
    by_cases hik : k0 = i
    · subst hik; simp [mixL_len, hi]
    · have h2 : ¬ i = k0 := fun e => hik e.symm
      rw [if_neg hik, mixL_at hi]; simp [h2]
  · rw [List.getElem?_eq_none (by rw [List.length_set, mixL_len]; omega), List.getElem?_eq_none (by rw [mixL_len]; omega)]
/-- The pixels of a box that are done: those of rows ahead of y, and i of row y. -/
def doneQ (W : Int) (m : Bx) (y i : Int) (k : Nat) : Bool := decide (m.x0 ≤ (k : Int) % W ∧ (k : Int) % W < m.x1 ∧ m.y0 ≤ (k : Int) / W ∧ (k : Int) / W < m.y1 ∧ ((k : Int) / W < y ∨ ((k : Int) / W = y ∧ (k : Int) % W < m.x0 + i)))
def inM (W : Int) (m : Bx) (k : Nat) : Bool := decide (m.x0 ≤ (k : Int) % W ∧ (k : Int) % W < m.x1 ∧ m.y0 ≤ (k : Int) / W ∧ (k : Int) / W < m.y1)
theorem doneQ_first (W : Int) (m : Bx) (k : Nat) : doneQ W m m.y0 0 k = false := by
  unfold doneQ; rw [decide_eq_false_iff_not]
  generalize (k : Int) % W = a; generalize (k : Int) / W = b
  omega
theorem doneQ_last (W : Int) (m : Bx) (k : Nat) : doneQ W m m.y1 0 k = inM W m k := by
  unfold doneQ inM; rw [decide_eq_decide]
  generalize (k : Int) % W = a; generalize (k : Int) / W = b
  omega
theorem doneQ_next (W : Int) (m : Bx) (y i : Int) (hi : m.x0 + i = m.x1) (k : Nat) : doneQ W m y i k = doneQ W m (y + 1) 0 k := by
  unfold doneQ; rw [decide_eq_decide]
  generalize (k : Int) % W = a; generalize (k : Int) / W = b
  omega
theorem row_col {W y x : Int} {k : Nat} (hW : 0 < W) (h0 : 0 ≤ x) (h1 : x < W) : (k : Int) = y * W + x ↔ (k : Int) / W = y ∧ (k : Int) % W = x := by
  constructor
  · intro h
    rw [h, Int.add_comm]
    exact ⟨by rw [Int.add_mul_ediv_right _ _ (by omega), Int.ediv_eq_zero_of_lt h0 h1, Int.zero_add], by rw [Int.add_mul_emod_self_right, Int.emod_eq_of_lt h0 h1]⟩
  · rintro ⟨rfl, rfl⟩
    have := Int.mul_ediv_add_emod (k : Int) W
    rw [Int.mul_comm] at this; exact this.symm
theorem doneQ_set {W : Int} {m : Bx} {y i : Int} {k0 : Nat} (hW : 0 < W) (h0 : 0 ≤ m.x0) (hi : 0 ≤ i) (h1 : m.x0 + i < m.x1) (h2 : m.x1 ≤ W) (hy : m.y0 ≤ y ∧ y < m.y1) (hk : (k0 : Int) = y * W + (m.x0 + i)) (k : Nat) : doneQ W m y (i + 1) k = (doneQ W m y i k || decide (k = k0)) := by
  have e : k = k0 ↔ (k : Int) / W = y ∧ (k : Int) % W = m.x0 + i := by
    rw [← row_col hW (by omega) (by omega), ← hk]; omega
  unfold doneQ
  rw [← Bool.decide_or, decide_eq_decide, e]
  generalize (k : Int) % W = a; generalize (k : Int) / W = b
  omega
/-- What a box and an image's box have. -/
structure MeetIn (W H x0 y0 x1 y1 : Int) (m : Bx) : Prop where
  xs : 0 ≤ m.x0 ∧ m.x0 ≤ m.x1 ∧ m.x1 ≤ W
  ys : 0 ≤ m.y0 ∧ m.y0 ≤ m.y1 ∧ m.y1 ≤ H
  both : m.y0 < m.y1 → m.x0 < m.x1
  is : ∀ X Y, 0 ≤ X → X < W → 0 ≤ Y → Y < H → ((m.x0 ≤ X ∧ X < m.x1 ∧ m.y0 ≤ Y ∧ Y < m.y1) ↔ (x0 ≤ X ∧ X < x1 ∧ y0 ≤ Y ∧ Y < y1))
  full : m.x0 < m.x1 → x0 ≤ m.x0 ∧ m.x1 ≤ x1 ∧ y0 ≤ m.y0 ∧ m.y1 ≤ y1
theorem meet_in {W H x0 y0 x1 y1 : Int} (hW : 1 ≤ W) (hH : 1 ≤ H) : MeetIn W H x0 y0 x1 y1 (meetI ⟨x0, y0, x1, y1⟩ ⟨0, 0, W, H⟩) := by
  unfold meetI
  cases h : emptyI (meet0 ⟨x0, y0, x1, y1⟩ ⟨0, 0, W, H⟩)
  · unfold emptyI meet0 at h
    simp only [Bool.or_eq_false_iff, decide_eq_false_iff_not] at h
    rw [if_neg (by decide)]
    unfold meet0
    exact ⟨by simp only; omega, by simp only; omega, by simp only; omega, fun X Y _ _ _ _ => by simp only; omega, by simp only; omega⟩
  · unfold emptyI meet0 at h
    simp only [Bool.or_eq_true, decide_eq_true_eq] at h
    rw [if_pos rfl]
    exact ⟨by simp only; omega, by simp only; omega, by simp only; omega, fun X Y _ _ _ _ => by simp only; omega, by simp only; omega⟩
/-- An image's pixels while they are stored into. -/
def PixSt (w6 wr : World) (base gq n cap : Nat) (l : List Col) : Prop := Keep (fun k => k ≠ gq) w6 wr ∧ OwnK .u8 wr base 28 (.slice (some ⟨gq, 0, none⟩) n cap) l
theorem PixSt.start {w6 : World} {base gq n cap : Nat} {l : List Col} (h : OwnK .u8 w6 base 28 (.slice (some ⟨gq, 0, none⟩) n cap) l) : PixSt w6 w6 base gq n cap l := ⟨Keep.refl _ _, h⟩
theorem PixSt.step {w6 wr w' : World} {base gq n cap : Nat} {l : List Col} (h : PixSt w6 wr base gq n cap l) (hb : Below wr.heap.size wr w') : PixSt w6 w' base gq n cap l :=
  ⟨h.1.trans (Keep.of_below hb), h.2.grow hb⟩
theorem PixSt.store {w6 wr : World} {base gq n cap k : Nat} {l : List Col} (h : PixSt w6 wr base gq n cap l) (hn : l.length = n) (hk : k < n) (c : Col) {o : Nat} (ho : o = k * 4) :
    PixSt w6 ((((wr.setCell ⟨gq, o, none⟩ (.int .u8 (c 0))).setCell ⟨gq, o + 1, none⟩ (.int .u8 (c 1))).setCell ⟨gq, o + 2, none⟩ (.int .u8 (c 2))).setCell ⟨gq, o + 3, none⟩ (.int .u8 (c 3))) base gq n cap (l.set k c) := by
  subst ho
  exact ⟨h.1.trans (Keep.set4 _ _ _ _ _ _ _ _ _ _ (fun e => e rfl)), h.2.store hn hk c⟩
theorem PixSt.blk {w6 wr : World} {base gq n cap g : Nat} {l : List Col} {t : TypeId} {cs : Array Value} (h : PixSt w6 wr base gq n cap l) (hk : Blk w6 g t cs) (hne : g ≠ gq) : Blk wr g t cs := h.1.blk hk hne
theorem PixSt.bel {w w6 wr : World} {gq n cap : Nat} {l : List Col} (h : PixSt w6 wr w.heap.size gq n cap l) (hb : Below w.heap.size w w6) : Below w.heap.size w wr :=
  hb.trans (h.1.below (fun k hk => by have := h.2.lt.1; omega) hb.size)
theorem PixSt.cong {w6 wr : World} {base gq n cap : Nat} {l l' : List Col} (h : PixSt w6 wr base gq n cap l) (e : l = l') : PixSt w6 wr base gq n cap l' := e ▸ h
theorem PixSt.col {w6 wr : World} {base gq n cap k : Nat} {l : List Col} (h : PixSt w6 wr base gq n cap l) {p : Col} (hk : l[k]? = some p) {o : Nat} (ho : o = k * 4) : ColAt .u8 wr gq o p ∧ (∀ i, wr.frozen? ⟨gq, i, none⟩ = false) ∧ gq < wr.heap.size := by
  subst ho
  have hc := h.2.cols k p hk
  rw [Nat.zero_add] at hc
  exact ⟨hc, h.2.frozen, h.2.lt.2.1⟩
def imB (W H : Int) (s : Value) : Array Value := #[.int .i64 W, .int .i64 H, s]
theorem results_imG {fn : Func} {tmps : Array Value} {w : World} {g a b : Nat} {W H : Int} {s v : Value} (hres : fn.results = #[.cell a 24, .tmp b]) (ha : tmps[a]? = some (.pointer (some ⟨g, 0, none⟩))) (hb : tmps[b]? = some v) (hg : Blk w g 24 #[.int .i64 W, .int .i64 H, s]) :
    (results fn tmps).run Try.prog w = .ok (.tuple #[.agg #[.int .i64 W, .int .i64 H, s], v]) w := by
  have h0 : w.cell? ⟨g, 0, none⟩ = some (.int .i64 W) := hg.cell 0
  have h1 : w.cell? ⟨g, 1, none⟩ = some (.int .i64 H) := hg.cell 1
  have h2 : w.cell? ⟨g, 2, none⟩ = some s := hg.cell 2
  simp [results, hres, ha, hb, go_sem, h0, h1, h2]
theorem Blk.set3 {w : World} {g : Nat} {t : TypeId} {x y z : Value} (h : Blk w g t #[x, y, z]) (a b c : Value) : Blk (((w.setCell ⟨g, 0, none⟩ a).setCell ⟨g, 1, none⟩ b).setCell ⟨g, 2, none⟩ c) g t #[a, b, c] := ((h.set 0 a).set 1 b).set 2 c
theorem Blk.other3 {w : World} {g g' : Nat} {t : TypeId} {cs : Array Value} (h : Blk w g t cs) (hne : g ≠ g') (a b c : Value) : Blk (((w.setCell ⟨g', 0, none⟩ a).setCell ⟨g', 1, none⟩ b).setCell ⟨g', 2, none⟩ c) g t cs := ((h.other _ _ hne).other _ _ hne).other _ _ hne
theorem below_three {w w' : World} {B g : Nat} (h : Below B w w') (hg : B ≤ g) (a b c : Value) : Below B w (((w'.setCell ⟨g, 0, none⟩ a).setCell ⟨g, 1, none⟩ b).setCell ⟨g, 2, none⟩ c) := ((h.setCell hg _).setCell hg _).setCell hg _
theorem Blk.im3r {w : World} {g : Nat} {t : TypeId} {x y z : Value} (h : Blk w g t #[x, y, z]) : w.cell? ⟨g, 0, none⟩ = some x ∧ w.cell? ⟨g, 1, none⟩ = some y ∧ w.cell? ⟨g, 2, none⟩ = some z := ⟨h.cell 0, h.cell 1, h.cell 2⟩
theorem Keep.set3 {S : Nat → Prop} (w : World) (g : Nat) (x y z : Value) (h : ¬ S g) : Keep S w (((w.setCell ⟨g, 0, none⟩ x).setCell ⟨g, 1, none⟩ y).setCell ⟨g, 2, none⟩ z) :=
  ((Keep.setCell w ⟨g, 0, none⟩ x h).trans (Keep.setCell _ ⟨g, 1, none⟩ y h)).trans (Keep.setCell _ ⟨g, 2, none⟩ z h)
end Go.Proofs.Ytoppmlfibllhlaa
