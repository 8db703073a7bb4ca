/- Blocks at hand in memory, as a list. -/
import Derived.Test.YticoklfgmflidaaDoorAj
namespace Go.Proofs.YticoklfgmflidaaDoor
open Go.RowKit

abbrev BlkL := List (Nat × TypeId × Array Value)
def Lays (W : World) : BlkL → Prop
  | [] => True
  | x :: l => Blk W x.1 x.2.1 x.2.2 ∧ Lays W l
theorem Lays.grow {W W' : World} : ∀ {l : BlkL}, Lays W l → Below W.heap.size W W' → Lays W' l
  | [], _, _ => trivial
  | _ :: _, h, b => ⟨h.1.grow b, Lays.grow h.2 b⟩
theorem Lays.alloc {W : World} {o : Obj} : ∀ {l : BlkL}, Lays W l → Lays (W.alloc o) l
  | [], _ => trivial
  | _ :: _, h => ⟨h.1.alloc o, Lays.alloc h.2⟩
theorem Lays.lt {W : World} {x : Nat × TypeId × Array Value} : ∀ {l : BlkL}, Lays W l → x ∈ l → x.1 < W.heap.size
  | [], _, h => by cases h
  | y :: l, h, hx => by
    rcases List.mem_cons.1 hx with rfl | hx
    · exact h.1.lt
    · exact Lays.lt h.2 hx
theorem Lays.other {W : World} (a : Addr) (v : Value) : ∀ {l : BlkL}, Lays W l → (∀ x ∈ l, x.1 ≠ a.block) → Lays (W.setCell a v) l
  | [], _, _ => trivial
  | y :: l, h, hx => ⟨h.1.other a v (hx y (by simp)), Lays.other a v h.2 fun x hm => hx x (by simp [hm])⟩
structure Mem (w W : World) (l : BlkL) : Prop where
  below : Below w.heap.size w W
  lays : Lays W l
theorem Mem.refl (w : World) : Mem w w [] := ⟨Below.refl _ _, trivial⟩
theorem Mem.next {w W W' : World} {l : BlkL} (h : Mem w W l) (b : Below W.heap.size W W') : Mem w W' l := ⟨below_next h.below b, h.lays.grow b⟩
theorem Mem.add {w W : World} {l : BlkL} (h : Mem w W l) (t : TypeId) (cs : Array Value) : Mem w (W.alloc (.cells cs t)) ((W.heap.size, t, cs) :: l) :=
  ⟨h.below.alloc h.below.size _, Blk.newAt _ _ _ rfl, h.lays.alloc⟩
theorem Mem.addAt {w W : World} {l : BlkL} (h : Mem w W l) (t : TypeId) (cs : Array Value) (g : Nat) (hg : W.heap.size = g) : Mem w (W.alloc (.cells cs t)) ((g, t, cs) :: l) := by
  subst hg; exact h.add t cs
theorem Mem.drew {w W : World} {l : BlkL} (h : Mem w W l) : Mem w W.drew l := ⟨below_drewN h.below 1, h.lays.grow ⟨rfl, rfl, rfl, Nat.le_refl _, fun _ _ => rfl⟩⟩
theorem Mem.drewN {w W : World} {l : BlkL} (h : Mem w W l) (k : Nat) : Mem w (W.drewN k) l := ⟨below_drewN h.below k, h.lays.grow ⟨rfl, rfl, rfl, Nat.le_refl _, fun _ _ => rfl⟩⟩
end Go.Proofs.YticoklfgmflidaaDoor
