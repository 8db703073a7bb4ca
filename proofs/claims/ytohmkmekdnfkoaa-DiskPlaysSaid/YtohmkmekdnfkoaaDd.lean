/- Layer 12: both disks, side by side. -/
import Derived.Test.YtohmkmekdnfkoaaDc
namespace Go.Proofs.Ytohmkmekdnfkoaa
open Go.RowKit
/-- The package's disk and the document's, apart from one another, all of both made since N. -/
structure Two (N : Nat) (T1 T2 : Nat → Prop) (w : World) (g1 g2 : Nat) (d1 d2 : DM) : Prop where
  a : At12 T1 w g1 d1
  b : RAt T2 w g2 d2
  apart : ∀ k, T1 k → ¬ T2 k
  far1 : ∀ k, T1 k → N ≤ k
  far2 : ∀ k, T2 k → N ≤ k
  sz : N ≤ w.heap.size
theorem Two.keep {N : Nat} {T1 T2 : Nat → Prop} {w w' : World} {g1 g2 : Nat} {d1 d2 : DM} (h : Two N T1 T2 w g1 g2 d1 d2) {S : Nat → Prop} (hk : Keep S w w') (h1 : ∀ k, T1 k → S k) (h2 : ∀ k, T2 k → S k) : Two N T1 T2 w' g1 g2 d1 d2 :=
  ⟨at_keep h.a (hk.mono h1), h.b.keep hk h2, h.apart, h.far1, h.far2, Nat.le_trans h.sz hk.size⟩
theorem Two.grow {N : Nat} {T1 T2 : Nat → Prop} {w w' : World} {g1 g2 : Nat} {d1 d2 : DM} (h : Two N T1 T2 w g1 g2 d1 d2) (hb : Below w.heap.size w w') : Two N T1 T2 w' g1 g2 d1 d2 :=
  h.keep (Keep.of_below (S := fun _ => True) hb) (fun _ _ => trivial) (fun _ _ => trivial)
theorem Two.stepA {N : Nat} {T1 T2 T1' : Nat → Prop} {w w' : World} {g1 g2 : Nat} {d1 d2 d1' : DM} (h : Two N T1 T2 w g1 g2 d1 d2) (ha : At12 T1' w' g1 d1') (ht : To T1 w T1' w') : Two N T1' T2 w' g1 g2 d1' d2 ∧ Below N w w' := by
  refine ⟨⟨ha, h.b.keep ht.keep fun k h2 h1 => h.apart k h1 h2, fun k h1 h2 => ?_, fun k h1 => ?_, h.far2, Nat.le_trans h.sz ht.keep.size⟩, ht.keep.below (fun k hk hT => ?_) h.sz⟩
  · rcases ht.new k h1 with q | q
    · exact h.apart k q h2
    · have := h.b.lt k h2; omega
  · rcases ht.new k h1 with q | q
    · exact h.far1 k q
    · exact Nat.le_trans h.sz q
  · have := h.far1 k hT; omega
theorem Two.stepB {N : Nat} {T1 T2 T2' : Nat → Prop} {w w' : World} {g1 g2 : Nat} {d1 d2 d2' : DM} (h : Two N T1 T2 w g1 g2 d1 d2) (hb : RAt T2' w' g2 d2') (ht : To T2 w T2' w') : Two N T1 T2' w' g1 g2 d1 d2' ∧ Below N w w' := by
  refine ⟨⟨at_keep h.a (ht.keep.mono fun k h1 h2 => h.apart k h1 h2), hb, fun k h1 h2 => ?_, h.far1, fun k h2 => ?_, Nat.le_trans h.sz ht.keep.size⟩, ht.keep.below (fun k hk hT => ?_) h.sz⟩
  · rcases ht.new k h2 with q | q
    · exact h.apart k h1 q
    · have := at_lt h.a h1; omega
  · rcases ht.new k h2 with q | q
    · exact h.far2 k q
    · exact Nat.le_trans h.sz q
  · have := h.far2 k hT; omega
/-- .. with a block of the call's own: the script's call. -/
structure StS (N : Nat) (T1 T2 : Nat → Prop) (w : World) (g1 g2 : Nat) (d1 d2 : DM) (G : Nat) (p : OpM) : Prop where
  two : Two N T1 T2 w g1 g2 d1 d2
  blk : Blk w G 34 (cellsO p)
  o1 : ¬ T1 G
  o2 : ¬ T2 G
theorem StS.start {N : Nat} {T1 T2 : Nat → Prop} {w : World} {g1 g2 : Nat} {d1 d2 : DM} (h : Two N T1 T2 w g1 g2 d1 d2) (p : OpM) : StS N T1 T2 (w.alloc (.cells (cellsO p) 34)) g1 g2 d1 d2 w.heap.size p :=
  ⟨h.grow ((Below.refl _ _).alloc (Nat.le_refl _) _), Blk.new _ _ _, fun hT => absurd (at_lt h.a hT) (by omega), fun hT => absurd (h.b.lt _ hT) (by omega)⟩
theorem StS.keep {N : Nat} {T1 T2 : Nat → Prop} {w w' : World} {g1 g2 G : Nat} {d1 d2 : DM} {p : OpM} (h : StS N T1 T2 w g1 g2 d1 d2 G p) {S : Nat → Prop} (hk : Keep S w w') (h1 : ∀ k, T1 k → S k) (h2 : ∀ k, T2 k → S k) (h3 : S G) : StS N T1 T2 w' g1 g2 d1 d2 G p :=
  ⟨h.two.keep hk h1 h2, hk.blk h.blk h3, h.o1, h.o2⟩
theorem StS.grow {N : Nat} {T1 T2 : Nat → Prop} {w w' : World} {g1 g2 G : Nat} {d1 d2 : DM} {p : OpM} (h : StS N T1 T2 w g1 g2 d1 d2 G p) (hb : Below w.heap.size w w') : StS N T1 T2 w' g1 g2 d1 d2 G p :=
  ⟨h.two.grow hb, h.blk.grow hb, h.o1, h.o2⟩
theorem StS.stepA {N : Nat} {T1 T2 T1' : Nat → Prop} {w w' : World} {g1 g2 G : Nat} {d1 d2 d1' : DM} {p : OpM} (h : StS N T1 T2 w g1 g2 d1 d2 G p) (ha : At12 T1' w' g1 d1') (ht : To T1 w T1' w') : StS N T1' T2 w' g1 g2 d1' d2 G p :=
  ⟨(h.two.stepA ha ht).1, ht.keep.blk h.blk h.o1, fun hT => (ht.new _ hT).elim h.o1 fun q => absurd h.blk.lt (by omega), h.o2⟩
theorem StS.stepB {N : Nat} {T1 T2 T2' : Nat → Prop} {w w' : World} {g1 g2 G : Nat} {d1 d2 d2' : DM} {p : OpM} (h : StS N T1 T2 w g1 g2 d1 d2 G p) (hb : RAt T2' w' g2 d2') (ht : To T2 w T2' w') : StS N T1 T2' w' g1 g2 d1 d2' G p :=
  ⟨(h.two.stepB hb ht).1, ht.keep.blk h.blk h.o2, h.o1, fun hT => (ht.new _ hT).elim h.o2 fun q => absurd h.blk.lt (by omega)⟩
theorem Blk.o7 {w : World} {G : Nat} {p : OpM} (h : Blk w G 34 (cellsO p)) : w.cell? ⟨G, 0, none⟩ = some (.int .i64 p.kind) ∧ w.cell? ⟨G, 1, none⟩ = some (.int .i64 p.n) ∧ w.cell? ⟨G, 2, none⟩ = some (.int .u8 p.fill) ∧ w.cell? ⟨G, 3, none⟩ = some (.int .i64 p.short) ∧ w.cell? ⟨G, 4, none⟩ = some p.kv ∧ w.cell? ⟨G, 5, none⟩ = some (.int .i64 p.torn) ∧ w.cell? ⟨G, 6, none⟩ = some (.int .i64 p.cut) :=
  ⟨h.cell 0, h.cell 1, h.cell 2, h.cell 3, h.cell 4, h.cell 5, h.cell 6⟩
/-- The document's cells that the law reads. -/
theorem RAt.r7 {T : Nat → Prop} {w : World} {g : Nat} {d : DM} (h : RAt T w g d) : ∃ wo wc L, w.cell? ⟨g, 1, none⟩ = some (.int .i64 d.size) ∧ w.cell? ⟨g, 2, none⟩ = some (.slice wo L.length wc) ∧ w.cell? ⟨g, 4, none⟩ = some (.int .i64 d.done) ∧ w.cell? ⟨g, 6, none⟩ = some (.bool d.down) ∧ mapW L = d.wait ∧ RowW w (.slice wo L.length wc) L := by
  obtain ⟨L, sv, wv, h1, h2, h3⟩ := h
  obtain ⟨d0, d1, d2, d3, d4, d5, d6⟩ := RefAt.blk h1 |>.d7
  obtain ⟨wo, wc, hw⟩ := (RefAt.wait h1).row.shape
  have hr := (RefAt.wait h1).row
  simp only at hw hr
  subst hw
  exact ⟨wo, wc, L, d1, d2, d4, d6, h2, hr⟩
/-- A call of the script on the model. -/
def fillN (z short : Int) : Nat := (if short > 0 then z - min short z else z).toNat
def stepD (d : DM) (p : OpM) : DM :=
  if p.kind = 1 then (writeD d p.n (List.replicate (fillN d.size p.short) p.fill)).1 else if p.kind = 2 then (readD d p.n).1 else if p.kind = 3 then (syncD d).1 else if p.kind = 4 then armD d p.n else if p.kind = 5 then crashD d p.keep p.torn p.cut else d
theorem RAt.read {T : Nat → Prop} {w : World} {g : Nat} {d : DM} (h : RAt T w g d) (i : Int) : RAt T w g (readD d i).1 := by
  obtain ⟨L, sv, wv, h1, h2, h3⟩ := h
  unfold readD
  by_cases hd : d.down = true
  · rw [if_pos hd]; exact ⟨L, sv, wv, h1, h2, h3⟩
  · rw [if_neg hd]
    by_cases hi : hasD d i = false
    · rw [if_pos hi]; exact ⟨L, sv, wv, h1, h2, h3⟩
    · rw [if_neg hi]; exact ⟨L, sv, wv, h1, h2, h3⟩
/-- What a step tells: both disks answer alike, and go on alike. -/
def StepQ (N : Nat) (w : World) (g1 g2 : Nat) (d : DM) (e : Ending) (w' : World) : Prop := e = .returned (.bool true) ∧ (∃ T1 T2, Two N T1 T2 w' g1 g2 d d) ∧ Below N w w'
theorem OwnB.put {w : World} {g n c k : Nat} {E : List Int} (h : OwnB w 0 (.slice (some ⟨g, 0, none⟩) n c) E) (hn : E.length = n) (hk : k < n) (y : Int) : OwnB (w.setCell ⟨g, k, none⟩ (.int .u8 y)) 0 (.slice (some ⟨g, 0, none⟩) n c) (E.set k y) := by
  unfold OwnB at *
  rw [List.length_set, ← bytV_set, hn]
  rw [hn] at h
  exact owns_set h (by omega) _
theorem OwnB.get {w : World} {g n c k : Nat} {E : List Int} (h : OwnB w 0 (.slice (some ⟨g, 0, none⟩) n c) E) (hn : E.length = n) (hk : k < n) : ∃ y, w.cell? ⟨g, k, none⟩ = some (.int .u8 y) ∧ w.frozen? ⟨g, k, none⟩ = false ∧ g < w.heap.size := by
  have key := World.ownsRow.cells h (g := g) rfl k (.int .u8 (E.getD k 0)) (by rw [List.getElem?_map, List.getElem?_eq_getElem (by omega), List.getD_eq_getElem?_getD, List.getElem?_eq_getElem (by omega)]; rfl)
  rw [show (⟨g, 0, none⟩ : Addr).add k = ⟨g, 0 + k, none⟩ from Addr.add_lit .., Nat.zero_add] at key
  refine ⟨_, key, ?_, (World.ownsRow.lt h g rfl).2⟩
  obtain ⟨_, ⟨e, _⟩ | ⟨g', cap', cur, e, hb, hg, _⟩⟩ := h
  · cases e
  · cases e; exact Joins.unfrozen_of_block hg _
end Go.Proofs.Ytohmkmekdnfkoaa
