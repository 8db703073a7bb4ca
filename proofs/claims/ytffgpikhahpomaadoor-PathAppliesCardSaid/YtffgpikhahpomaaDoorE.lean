/- What holds in a region that draws its order: rows that calls yield, blocks that were there and are stored into. -/
import Derived.Test.YtffgpikhahpomaaDoorB
namespace Go.Proofs.YtffgpikhahpomaaDoor
open Go.RowKit
theorem Own.base {w : World} {m n : Nat} {t : TypeId} {v : Value} {l : List Pt} (h : Own w m t v l) (hmn : n ≤ m) : Own w n t v l := by
  obtain ⟨a, c⟩ := h
  refine ⟨a, ?_⟩
  rcases c with h | ⟨g, cap, cur, e, hg, rest⟩
  · exact .inl h
  · exact .inr ⟨g, cap, cur, e, Nat.le_trans hmn hg, rest⟩
/-- A row that an operation yields. -/
structure Made where
  op : Nat
  t : TypeId
  pts : List Pt
/-- A block that one operation stores into. -/
structure Stor where
  g : Nat
  t : TypeId
  z : Array Value
  st : Nat
  cs : Array Value
def RegM (n : Nat) (w0 : World) (A : List Made) (S : List Stor) (l : BlkL) (b : Nat → Bool) (vs : Nat → Value) (w : World) : Prop :=
  (Below n w0 w ∧ n ≤ w.heap.size) ∧ (∀ x ∈ A, b x.op = true → Own w n x.t (vs x.op) x.pts) ∧ (∀ s ∈ S, Blk w s.g s.t (if b s.st = true then s.cs else s.z)) ∧ Lays w l
section
variable {n : Nat} {w0 w w' : World} {A : List Made} {S : List Stor} {l : BlkL} {b : Nat → Bool} {vs : Nat → Value}
theorem RegM.start (h : (Below n w0 w ∧ n ≤ w.heap.size) ∧ (∀ s ∈ S, Blk w s.g s.t s.z) ∧ Lays w l) (vs : Nat → Value) : RegM n w0 A S l (fun _ => false) vs w.drew :=
  ⟨⟨below_drewN h.1.1 1, h.1.2⟩, fun _ _ h => Bool.noConfusion h, h.2.1, h.2.2.grow ⟨rfl, rfl, rfl, Nat.le_refl _, fun _ _ => rfl⟩⟩
theorem RegM.below (h : RegM n w0 A S l b vs w) : Below n w0 w := h.1.1
theorem RegM.lays (h : RegM n w0 A S l b vs w) : Lays w l := h.2.2.2
theorem RegM.grow (h : RegM n w0 A S l b vs w) (hb : Below w.heap.size w w') : RegM n w0 A S l b vs w' :=
  ⟨⟨h.1.1.trans (hb.mono h.1.2), Nat.le_trans h.1.2 hb.size⟩, fun x hx hbx => (h.2.1 x hx hbx).grow hb, fun s hs => (h.2.2.1 s hs).grow hb, h.2.2.2.grow hb⟩
theorem RegM.other (h : RegM n w0 A S l b vs w) (i : Nat) (v : Value) (hi : ((A.all fun x => decide (x.op ≠ i)) && S.all fun s => decide (s.st ≠ i)) = true) : RegM n w0 A S l (upd b i true) (upd vs i v) w := by
  rw [Bool.and_eq_true] at hi
  have hA : ∀ x ∈ A, x.op ≠ i := fun x hx => by simpa using List.all_eq_true.1 hi.1 x hx
  have hS : ∀ x ∈ S, x.st ≠ i := fun x hx => by simpa using List.all_eq_true.1 hi.2 x hx
  refine ⟨h.1, fun x hx hbx => ?_, fun s hs => ?_, h.2.2.2⟩
  · rw [upd_other _ _ _ _ (hA x hx)] at hbx ⊢
    exact h.2.1 x hx hbx
  · rw [upd_other _ _ _ _ (hS s hs)]
    exact h.2.2.1 s hs
/-- A call has yielded a row. -/
theorem RegM.made (h : RegM n w0 A S l b vs w) (x : Made) (v : Value) (ho : Own w n x.t v x.pts) (hA : ∀ y ∈ A, y.op = x.op → y.t = x.t ∧ y.pts = x.pts) (hS : (S.all fun s => decide (s.st ≠ x.op)) = true) : RegM n w0 A S l (upd b x.op true) (upd vs x.op v) w := by
  have hS : ∀ s ∈ S, s.st ≠ x.op := fun s hs => by simpa using List.all_eq_true.1 hS s hs
  refine ⟨h.1, fun y hy hby => ?_, fun s hs => ?_, h.2.2.2⟩
  · by_cases e : y.op = x.op
    · have := hA y hy e
      rw [e, upd_same, this.1, this.2]
      exact ho
    · rw [upd_other _ _ _ _ e] at hby ⊢
      exact h.2.1 y hy hby
  · rw [upd_other _ _ _ _ (hS s hs)]
    exact h.2.2.1 s hs
theorem RegM.at (h : RegM n w0 A S l b vs w) (s : Stor) (hs : s ∈ S) (hun : b s.st = false) : Blk w s.g s.t s.z := by
  have := h.2.2.1 s hs
  rw [hun] at this
  exact this
theorem RegM.done (h : RegM n w0 A S l b vs w) (s : Stor) (hs : s ∈ S) (hd : b s.st = true) : Blk w s.g s.t s.cs := by
  have := h.2.2.1 s hs
  rw [hd] at this
  exact this
theorem RegM.row (h : RegM n w0 A S l b vs w) (x : Made) (hx : x ∈ A) (hd : b x.op = true) : Own w n x.t (vs x.op) x.pts := h.2.1 x hx hd
/-- The one store of a region in which no call yields a row. -/
theorem RegM.stored {s : Stor} (h : RegM n w0 [] [s] l b vs w) (u : Value) (hb : Below n w0 w') (hsz : w'.heap.size = w.heap.size) (hc : Blk w' s.g s.t s.cs) (hl : Lays w' l) : RegM n w0 [] [s] l (upd b s.st true) (upd vs s.st u) w' := by
  refine ⟨⟨hb, by have := h.1.2; omega⟩, fun _ hx => (by cases hx), fun x hx => ?_, hl⟩
  obtain rfl : x = s := by simpa using hx
  rw [upd_same, if_pos rfl]
  exact hc
end
end Go.Proofs.YtffgpikhahpomaaDoor

