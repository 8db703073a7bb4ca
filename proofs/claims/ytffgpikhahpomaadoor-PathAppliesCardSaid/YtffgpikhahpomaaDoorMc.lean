/- Layer 6: Apply of a path. -/
import Derived.Test.YtffgpikhahpomaaDoorMb
import Derived.Test.YtffgpikhahpomaaDoorSp
import Derived.Test.YtffgpikhahpomaaDoorSk
import Derived.Sort.CutIn
namespace Go.Proofs.YtffgpikhahpomaaDoor
open Go.RowKit Go.Shelf
attribute [local go_sem] Oper.semAt_some
def applyI (m : Mx) (l : List Sg) : Int × List Sg := if checkI l ≠ 0 then (checkI l, []) else if (rightI m && l.all (madeOk m)) = true then (0, l.map (madeS m)) else (10, [])
def ToldS (w : World) (X : Int × List Sg) (e : Ending) (w' : World) : Prop := ∃ u, e = .returned (.tuple #[u, .int .i64 X.1]) ∧ OwnS w' w.heap.size 48 u X.2 ∧ Below w.heap.size w w'
theorem results_apply {fn : Func} {tmps : Array Value} {W : World} {g k : Nat} {v u : Value} (a b : Nat) (hres : fn.results = #[.cell a 22, .cell b 24]) (ha : tmps[a]? = some (.pointer (some ⟨g, 0, none⟩))) (hb : tmps[b]? = some (.pointer (some ⟨k, 0, none⟩))) (hg : Blk W g 22 #[v]) (hk : Blk W k 24 #[u]) :
    (results fn tmps).run Tryd.prog W = .ok (.tuple #[v, u]) W := by
  have h0 := hg.cell 0
  have h1 := hk.cell 0
  simp only [List.getElem?_toArray, List.getElem?_cons_zero] at h0 h1
  simp [results, hres, ha, hb, go_sem, h0, h1]
/-- An owned row, whose own block is what it was. -/
theorem owns_block {w w' : World} {base size n g cap : Nat} {t : TypeId} {xs : List Value} (h : w.ownsRow base t size (.slice (some ⟨g, 0, none⟩) n cap) n xs) (hb : w'.heap[g]? = w.heap[g]?) : w'.ownsRow base t size (.slice (some ⟨g, 0, none⟩) n cap) n xs := by
  obtain ⟨h1, ⟨e, _⟩ | ⟨g', cap', cur, e, hb', hg, hc, hm, hs, ht⟩⟩ := h
  · cases e
  · cases e
    exact ⟨h1, .inr ⟨g, cap, cur, rfl, hb', hb.trans hg, hc, hm, hs, ht⟩⟩
/-- What lies in memory between two rounds. -/
structure ApM (w : World) (m : Mx) (A : World) : Prop where
  below : Below w.heap.size w A
  km : Blk A w.heap.size 67 (six m)
  r1 : Blk A (w.heap.size + 1) 22 #[.slice none 0 0]
  r2 : Blk A (w.heap.size + 1 + 1) 24 #[.int .i64 0]
theorem ApM.next {w A B : World} {m : Mx} (h : ApM w m A) (hb : Below A.heap.size A B) : ApM w m B := ⟨below_next h.below hb, h.km.grow hb, h.r1.grow hb, h.r2.grow hb⟩
theorem ApM.keep {w A B : World} {m : Mx} {S : Nat → Prop} (h : ApM w m A) (hk : Keep S A B) (hS : ∀ j, j < w.heap.size + 3 → S j) : ApM w m B :=
  ⟨h.below.trans (hk.below (fun j hj => hS j (by omega)) h.below.size), hk.blk h.km (hS _ (by omega)), hk.blk h.r1 (hS _ (by omega)), hk.blk h.r2 (hS _ (by omega))⟩
structure ApI (w : World) (m : Mx) (r7 g0 n : Nat) (l : List Sg) (k : Nat) (A : World) : Prop where
  mem : ApM w m A
  var : Blk A r7 22 #[.slice (some ⟨g0, 0, none⟩) k n]
  row : A.ownsRow (w.heap.size + 3) 48 7 (.slice (some ⟨g0, 0, none⟩) k n) k (flatS ((l.take k).map (madeS m)))
  ok : (l.take k).all (madeOk m) = true
theorem ApI.keep {w A B : World} {m : Mx} {r7 g0 n k : Nat} {l : List Sg} {S : Nat → Prop} (h : ApI w m r7 g0 n l k A) (hk : Keep S A B) (hS : ∀ j, j ≤ r7 → S j) (h7 : w.heap.size + 3 ≤ r7) (hg : g0 < r7) : ApI w m r7 g0 n l k B :=
  ⟨h.mem.keep hk (fun j hj => hS j (by omega)), hk.blk h.var (hS _ (Nat.le_refl _)), owns_block h.row (hk.block _ (hS _ (by omega)) (h.row.lt g0 rfl).2), h.ok⟩
/-- What a round begins with, where the segment lies in a box. -/
theorem round_one {s : Sg} {A B : World} {o : Obj} {N : Nat} (hN : N + 3 ≤ A.heap.size) (hB : B = ((A.alloc (.cells s.cells 48)).alloc (.cells s.cells 48)).putObj (N + 1) o) :
    Keep (fun j => j ≠ N + 1) A B ∧ Blk B (A.heap.size + 1) 48 s.cells ∧ B.heap.size = A.heap.size + 2 := by
  rw [hB]
  refine ⟨((Keep.alloc _ _ _).trans (Keep.alloc _ _ _)).trans (Keep.putObj _ _ _ (by simp)), ?_, by simp⟩
  exact (Blk.newAt _ _ _ (by simp)).putOther _ (by omega)
set_option maxHeartbeats 2000000 in
set_option maxRecDepth 100000 in
theorem papply_bad (ao : Option Addr) (n c : Nat) (m : Mx) (z : Int) (w : World) (hz : (z != 0) = true)
    (HC : Hid (∀ W, Below w.heap.size w W → Calls Tryd.prog 10 #[.slice ao n c] W fun e w' => e = .returned (.int .i64 z) ∧ Below W.heap.size W w')) :
    Calls Tryd.prog 27 #[.slice ao n c, .agg (six m)] w (ToldS w (z, [])) := by
  obtain ⟨w0, hw0⟩ : ∃ w0, ((w.alloc (.cells (six m) 67)).alloc (.cells #[.slice none 0 0] 22)).alloc (.cells #[.int .i64 0] 24) = w0 := ⟨_, rfl⟩
  have W0 : Hid (ApM w m w0) := by
    rw [← hw0]
    exact ⟨(((Below.refl _ _).alloc (Nat.le_refl _) _).alloc (by simp) _).alloc (by simp; omega) _, ((Blk.new _ _ _).alloc _).alloc _, (Blk.newAt _ _ _ (by simp)).alloc _, Blk.newAt _ _ _ (by simp)⟩
  have HW0 := Lib.hid hw0
  clear hw0
  go_enter Tryd.func27, Tryd.ntmps27
  go_wp2_with fail
  rw [show ((w.alloc (.cells (six m) 67)).alloc (.cells #[.slice none 0 0] 22)).alloc (.cells #[.int .i64 0] 24) = w0 from HW0.out]
  refine (HC.out _ W0.out.below).mono ?_
  rintro e w1 ⟨rfl, hb⟩
  have W1 := Lib.hid (W0.out.next hb)
  clear hb
  have k1 := W1.out.r1
  have k2 := W1.out.r2
  have c1 : w1.cell? ⟨w.heap.size + 1, 0, none⟩ = some (.slice none 0 0) := k1.cell 0
  have c2 : w1.cell? ⟨w.heap.size + 1 + 1, 0, none⟩ = some (.int .i64 0) := k2.cell 0
  have f1 := k1.free 0
  have f2 := k2.free 0
  have l1 := k1.lt
  have l2 := k2.lt
  go_wp2_with fail
  clear c1 c2 f1 f2 l1 l2
  refine bodyPost_ret (results_apply 4 5 rfl rfl rfl ((k1.put 0 _ #[.slice none 0 0] rfl).other _ _ (by dsimp only; omega)) ((k2.other _ _ (by dsimp only; omega)).put 0 _ #[.int .i64 z] rfl)) rfl ?_
  exact ⟨_, rfl, OwnS.nil _ _ _, (W1.out.below.setCell (by dsimp only; omega) _).setCell (by dsimp only; omega) _⟩
set_option maxHeartbeats 2000000 in
set_option maxRecDepth 100000 in
theorem papply_wrong (ao : Option Addr) (n c : Nat) (m : Mx) (w : World)
    (HC : Hid (∀ W, Below w.heap.size w W → Calls Tryd.prog 10 #[.slice ao n c] W fun e w' => e = .returned (.int .i64 0) ∧ Below W.heap.size W w'))
    (HRT : Hid (∀ W, Calls Tryd.prog 28 #[.agg #[.int .i64 m.a, .int .i64 m.b, .int .i64 m.c, .int .i64 m.d, .int .i64 m.e, .int .i64 m.f]] W fun e w' => e = .returned (.bool false) ∧ Below W.heap.size W w')) :
    Calls Tryd.prog 27 #[.slice ao n c, .agg (six m)] w (ToldS w (10, [])) := by
  obtain ⟨w0, hw0⟩ : ∃ w0, ((w.alloc (.cells (six m) 67)).alloc (.cells #[.slice none 0 0] 22)).alloc (.cells #[.int .i64 0] 24) = w0 := ⟨_, rfl⟩
  have W0 : Hid (ApM w m w0) := by
    rw [← hw0]
    exact ⟨(((Below.refl _ _).alloc (Nat.le_refl _) _).alloc (by simp) _).alloc (by simp; omega) _, ((Blk.new _ _ _).alloc _).alloc _, (Blk.newAt _ _ _ (by simp)).alloc _, Blk.newAt _ _ _ (by simp)⟩
  have HW0 := Lib.hid hw0
  clear hw0
  go_enter Tryd.func27, Tryd.ntmps27
  go_wp2_with fail
  rw [show ((w.alloc (.cells (six m) 67)).alloc (.cells #[.slice none 0 0] 22)).alloc (.cells #[.int .i64 0] 24) = w0 from HW0.out]
  refine (HC.out _ W0.out.below).mono ?_
  rintro e w1 ⟨rfl, hb⟩
  have W1 := Lib.hid (W0.out.next hb)
  clear hb
  have km := W1.out.km
  have m0 := km.m0
  have m1 := km.m1
  have m2 := km.m2
  have m3 := km.m3
  have m4 := km.m4
  have m5 := km.m5
  clear km
  go_wp2_with fail
  refine (HRT.out _).mono ?_
  rintro e w2 ⟨rfl, hb⟩
  have W2 := Lib.hid (W1.out.next hb)
  clear hb m0 m1 m2 m3 m4 m5
  have k1 := W2.out.r1
  have k2 := W2.out.r2
  have c1 : w2.cell? ⟨w.heap.size + 1, 0, none⟩ = some (.slice none 0 0) := k1.cell 0
  have c2 : w2.cell? ⟨w.heap.size + 1 + 1, 0, none⟩ = some (.int .i64 0) := k2.cell 0
  have f1 := k1.free 0
  have f2 := k2.free 0
  have l1 := k1.lt
  have l2 := k2.lt
  go_wp2_with fail
  clear c1 c2 f1 f2 l1 l2
  refine bodyPost_ret (results_apply 4 5 rfl rfl rfl ((k1.put 0 _ #[.slice none 0 0] rfl).other _ _ (by dsimp only; omega)) ((k2.other _ _ (by dsimp only; omega)).put 0 _ #[.int .i64 10] rfl)) rfl ?_
  exact ⟨_, rfl, OwnS.nil _ _ _, (W2.out.below.setCell (by dsimp only; omega) _).setCell (by dsimp only; omega) _⟩
end Go.Proofs.YtffgpikhahpomaaDoor
