/- Rows of points that the call itself makes; blocks at hand as a list. -/
import Derived.Test.YtffgpikhahpomaaDoorA
namespace Go.Proofs.YtffgpikhahpomaaDoor
open Go.RowKit
theorem wrapR (n : Int) (h0 : -9223372036854775808 ≤ n) (h1 : n ≤ 9223372036854775807) : wrap64 n = n := by unfold wrap64; omega
theorem wrap_is (n : Int) : IntKind.i64.wrap n = wrap64 n := by rw [IntKind.wrap_i64]; unfold wrap64; omega
theorem retB {a b : Bool} (h : a = b) : Ending.returned (.bool a) = .returned (.bool b) := by rw [h]
theorem retI {k : IntKind} {a b : Int} (h : a = b) : Ending.returned (.int k a) = .returned (.int k b) := by rw [h]
theorem retV {a b : Value} (h : a = b) : Ending.returned a = .returned b := by rw [h]
theorem below_drewN {B : Nat} {a w : World} (h : Below B a w) (n : Nat) : Below B a (w.drewN n) := h.trans ⟨rfl, rfl, rfl, Nat.le_refl _, fun _ _ => rfl⟩
/-- The cells of a row of points. -/
def flatL : List Pt → List Value
  | [] => []
  | p :: l => .int .i64 p.1 :: .int .i64 p.2 :: flatL l
def flat (l : List Pt) : Array Value := (flatL l).toArray
theorem flatL_at : ∀ (l : List Pt) (i : Nat) (p : Pt), l[i]? = some p → (flatL l)[i * 2]? = some (.int .i64 p.1) ∧ (flatL l)[i * 2 + 1]? = some (.int .i64 p.2)
  | [], _, _, h => by cases h
  | q :: l, 0, p, h => by
    obtain rfl : q = p := by simpa using h
    exact ⟨rfl, rfl⟩
  | q :: l, i + 1, p, h => by
    have h := flatL_at l i p (by simpa using h)
    rw [show (i + 1) * 2 = i * 2 + 1 + 1 by omega]
    exact h
theorem PtsAt.ofBlk {w : World} {g : Nat} {t : TypeId} {l : List Pt} (h : Blk w g t (flat l)) : PtsAt w g 0 l := fun i p hp => by
  have e := flatL_at l i p hp
  rw [Nat.zero_add, h.cell, h.cell]
  simpa [flat] using e
theorem Row.new (w : World) (l : List Pt) (t : TypeId) (cs : Array Value) (n : Nat) (hcs : cs = flat l) (hn : n = l.length) : Row (w.alloc (.cells cs t)) (.slice (some ⟨w.heap.size, 0, none⟩) n n) l := by
  subst hcs hn
  exact .inr (.inr ⟨_, _, _, rfl, by simp, PtsAt.ofBlk (Blk.new w t (flat l))⟩)
theorem flatL_append : ∀ (l m : List Pt), flatL (l ++ m) = flatL l ++ flatL m
  | [], _ => rfl
  | p :: l, m => by simp [flatL, flatL_append l m]
theorem flatL_length : ∀ l : List Pt, (flatL l).length = l.length * 2
  | [] => rfl
  | p :: l => by simp [flatL, flatL_length l]; omega
theorem flatL_one : ∀ (l : List Pt) (u : Value), u ∈ flatL l → u.oneCell' = true
  | [], _, h => by cases h
  | p :: l, u, h => by
    simp only [flatL, List.mem_cons] at h
    rcases h with rfl | rfl | h
    · rfl
    · rfl
    · exact flatL_one l u h
/-- A row of points that the call owns. -/
def Own (w : World) (base : Nat) (t : TypeId) (v : Value) (l : List Pt) : Prop := w.ownsRow base t 2 v l.length (flatL l)
theorem Own.nil (w : World) (base : Nat) (t : TypeId) : Own w base t (.slice none 0 0) [] := World.ownsRow_nil _ _ _ _
theorem Own.row {w : World} {base : Nat} {t : TypeId} {v : Value} {l : List Pt} (h : Own w base t v l) : Row w v l := by
  obtain ⟨_, ⟨rfl, hn⟩ | ⟨g, cap, cur, rfl, _, hg, hc, _, hs, ht⟩⟩ := h
  · exact .inl ⟨rfl, List.eq_nil_of_length_eq_zero hn⟩
  · refine .inr (.inr ⟨g, 0, cap, rfl, (Array.getElem?_eq_some_iff.1 hg).1, fun i p hp => ?_⟩)
    have e := flatL_at l i p hp
    have hi : i < l.length := (List.getElem?_eq_some_iff.1 hp).1
    have key : ∀ j, j < l.length * 2 → w.cell? ⟨g, j, none⟩ = (flatL l)[j]? := fun j hj => by
      rw [Joins.cell_of_block hg j, ← ht, List.getElem?_take, if_pos hj]; simp
    rw [Nat.zero_add, key _ (by omega), key _ (by omega)]
    exact e
theorem Own.grow {w w' : World} {base : Nat} {t : TypeId} {v : Value} {l : List Pt} (h : Own w base t v l) (hb : Below w.heap.size w w') : Own w' base t v l := by
  unfold Own World.ownsRow at *
  obtain ⟨h1, h2 | ⟨g, cap, cur, e1, e2, hg, e3⟩⟩ := h
  · exact ⟨h1, .inl h2⟩
  · exact ⟨h1, .inr ⟨g, cap, cur, e1, e2, by rw [hb.block g (Array.getElem?_eq_some_iff.1 hg).1]; exact hg, e3⟩⟩
/-- What an append leaves of older memory. -/
theorem own_below {w W w' : World} {B base : Nat} {e : TypeId} {size : Nat} {v : Value} {n : Nat} {xs : List Value} (h : W.ownsRow base e size v n xs) (g : W.grownBy w' v.ownBlock) (hb : Below B w W) (hB : B ≤ base) (hs : B ≤ W.heap.size) : Below B w w' :=
  ⟨g.os.trans hb.os, g.tape.trans hb.tape, g.output.trans hb.output, Nat.le_trans hb.size g.size, fun k hk => by
    rw [g.block k (by omega) (fun e => by have := h.lt k e.symm; omega)]; exact hb.block k hk⟩
theorem own_blk {W w' : World} {base : Nat} {e : TypeId} {size : Nat} {v : Value} {n : Nat} {xs : List Value} (h : W.ownsRow base e size v n xs) (g : W.grownBy w' v.ownBlock) {k : Nat} {t : TypeId} {cs : Array Value} (hk : Blk W k t cs) (hlt : k < base) : Blk w' k t cs := by
  unfold Blk
  rw [g.block k hk.lt (fun e => by have := h.lt k e.symm; omega)]; exact hk
/-- Another row of the call's own, in a block of its own. -/
theorem own_other {W w' : World} {v : Value} (g : W.grownBy w' v.ownBlock) {base' : Nat} {t : TypeId} {u : Value} {l : List Pt} (hk : Own W base' t u l) (hne : u.ownBlock = none ∨ u.ownBlock ≠ v.ownBlock) : Own w' base' t u l :=
  World.ownsRow.kept hk g hne
theorem Row.shape {w : World} {v : Value} {l : List Pt} (h : Row w v l) : ∃ ao c, v = .slice ao l.length c := by
  rcases h with ⟨rfl, rfl⟩ | ⟨a, c, rfl, rfl⟩ | ⟨b, o, c, rfl, _, _⟩ <;> exact ⟨_, _, rfl⟩
theorem Row.addr {w : World} {ao : Option Addr} {n c : Nat} {l : List Pt} (h : Row w (.slice ao n c) l) {k : Nat} (hk : k < l.length) : ∃ b o, ao = some ⟨b, o, none⟩ ∧ b < w.heap.size ∧ PtsAt w b o l := by
  rcases h with ⟨_, rfl⟩ | ⟨a, c, _, rfl⟩ | ⟨b, o, c, e, h1, h2⟩
  · simp at hk
  · simp at hk
  · simp at e
    exact ⟨b, o, e.1, h1, h2⟩
theorem infoR : (Tryd.prog.info? 45).map (fun i => (i.zero, i.size, i.bytes)) = some (some (.agg (two (0, 0))), 2, 16) := by kernel_rfl
theorem infoP : (Tryd.prog.info? 44).map (fun i => (i.zero, i.size, i.bytes)) = some (some (.agg (two (0, 0))), 2, 16) := by kernel_rfl
abbrev BlkL := List (Nat × TypeId × Array Value)
def Lays (W : World) : BlkL → Prop
  | [] => True
  | x :: l => Blk W x.1 x.2.1 x.2.2 ∧ Lays W l
theorem Lays.grow {W W' : World} : ∀ {l : BlkL}, Lays W l → Below W.heap.size W W' → Lays W' l
  | [], _, _ => trivial
  | _ :: _, h, b => ⟨h.1.grow b, Lays.grow h.2 b⟩
theorem Lays.alloc {W : World} {o : Obj} : ∀ {l : BlkL}, Lays W l → Lays (W.alloc o) l
  | [], _ => trivial
  | _ :: _, h => ⟨h.1.alloc o, Lays.alloc h.2⟩
theorem Lays.lt {W : World} {x : Nat × TypeId × Array Value} : ∀ {l : BlkL}, Lays W l → x ∈ l → x.1 < W.heap.size
  | [], _, h => by cases h
  | y :: l, h, hx => by
    rcases List.mem_cons.1 hx with rfl | hx
    · exact h.1.lt
    · exact Lays.lt h.2 hx
theorem Lays.other {W : World} (a : Addr) (v : Value) : ∀ {l : BlkL}, Lays W l → (∀ x ∈ l, x.1 ≠ a.block) → Lays (W.setCell a v) l
  | [], _, _ => trivial
  | y :: l, h, hx => ⟨h.1.other a v (hx y (by simp)), Lays.other a v h.2 fun x hm => hx x (by simp [hm])⟩
structure Mem (w W : World) (l : BlkL) : Prop where
  below : Below w.heap.size w W
  lays : Lays W l
theorem Mem.refl (w : World) : Mem w w [] := ⟨Below.refl _ _, trivial⟩
theorem Mem.next {w W W' : World} {l : BlkL} (h : Mem w W l) (b : Below W.heap.size W W') : Mem w W' l := ⟨below_next h.below b, h.lays.grow b⟩
theorem Mem.add {w W : World} {l : BlkL} (h : Mem w W l) (t : TypeId) (cs : Array Value) : Mem w (W.alloc (.cells cs t)) ((W.heap.size, t, cs) :: l) :=
  ⟨h.below.alloc h.below.size _, Blk.newAt _ _ _ rfl, h.lays.alloc⟩
theorem Mem.addAt {w W : World} {l : BlkL} (h : Mem w W l) (t : TypeId) (cs : Array Value) (g : Nat) (hg : W.heap.size = g) : Mem w (W.alloc (.cells cs t)) ((g, t, cs) :: l) := by
  subst hg; exact h.add t cs
theorem Mem.drew {w W : World} {l : BlkL} (h : Mem w W l) : Mem w W.drew l := ⟨below_drewN h.below 1, h.lays.grow ⟨rfl, rfl, rfl, Nat.le_refl _, fun _ _ => rfl⟩⟩
theorem Mem.drewN {w W : World} {l : BlkL} (h : Mem w W l) (k : Nat) : Mem w (W.drewN k) l := ⟨below_drewN h.below k, h.lays.grow ⟨rfl, rfl, rfl, Nat.le_refl _, fun _ _ => rfl⟩⟩
end Go.Proofs.YtffgpikhahpomaaDoor

