/- Layer 8: a range over a slice from its end: what the iterator does, and one rule for such a loop. -/
import Derived.Test.YtopngjpgikpmaaaCe
import Derived.RangeFuncNested
import Derived.RangeFuncBound
import Derived.RangeFuncCalls
import Derived.RangeFuncLeaves
import Derived.Shelf.Abstract
import Derived.Shelf.RegionOpen
import Derived.OwnWalkIn
import Derived.TacticsInMore
import Derived.LoopNIn
import Derived.LoopIn
namespace Go.Proofs.Ytopngjpgikpmaaa
open Go.RowKit Go.Shelf
attribute [local go_sem] Oper.semAt_some
theorem Keep.putObj (S : Nat → Prop) (w : World) (l : Nat) (o : Obj) (h : ¬ S l) : Keep S w (w.putObj l o) := ⟨rfl, rfl, rfl, by simp, fun k hk _ => World.putObj_heap_other (fun e => h (e ▸ hk))⟩
theorem Keep.cell {S : Nat → Prop} {w w' : World} (h : Keep S w w') {g o : Nat} (hs : S g) (hl : g < w.heap.size) : w'.cell? ⟨g, o, none⟩ = w.cell? ⟨g, o, none⟩ := by
  unfold World.cell?; simp only; rw [h.block g hs hl]
theorem Blk.putOther {w : World} {g : Nat} {t : TypeId} {cs : Array Value} (h : Blk w g t cs) {l : Nat} (o : Obj) (hne : g ≠ l) : Blk (w.putObj l o) g t cs := by
  unfold Blk; rw [World.putObj_heap_other hne]; exact h
theorem postM_ret {fn : Func} {R : Ending → World → Prop} {tmps : Array Value} {D : Nat} {W : World} (v : Value) (hD : W.heap[D]? = some (.deferred (some [])))
    (hres : (results fn tmps).run Try.prog (W.putObj D (.deferred none)) = .ok v (W.putObj D (.deferred none))) (h : R (.returned v) (W.putObj D (.deferred none))) :
    bodyPostM Fence.wide 9 Try.prog fn R .ret { tmps := tmps, defers := [{ target := .collected D, args := #[] }] } W :=
  ⟨by simp, .inl ⟨_, _, rfl, run_takeDeferred hD, ⟨_, hres, h⟩⟩⟩
theorem backward_c (ao : Option Addr) (n c : Nat) (w : World) : Calls Try.prog 51 #[.slice ao n c] w fun e w' => ∃ g, e = .returned (.func (.func 59) #[] #[.pointer (some ⟨g, 0, none⟩)]) ∧ w.heap.size ≤ g ∧ Blk w' g 64 #[.slice ao n c] ∧ Below w.heap.size w w' := by
  go_enter Try.func51, Try.ntmps51
  go_wp2
  go_ret
  exact ⟨_, rfl, Nat.le_refl _, Blk.new _ _ _, (Below.refl _ _).alloc (Nat.le_refl _) _⟩
/-- The numbers of a row at hand. -/
def IntsAt (w : World) (h o : Nat) (xs : List Int) : Prop := ∀ i x, xs[i]? = some x → w.cell? ⟨h, o + i, none⟩ = some (.int .i64 x)
theorem IntsAt.keep {S : Nat → Prop} {w w' : World} {h o : Nat} {xs : List Int} (k : IntsAt w h o xs) (hk : Keep S w w') (hs : S h) (hl : h < w.heap.size) : IntsAt w' h o xs := fun i x hx => by rw [hk.cell hs hl]; exact k i x hx
set_option maxHeartbeats 4000000 in
set_option maxRecDepth 100000 in
/-- The iterator. -/
theorem back1_c (L bx h o n c : Nat) (xs : List Int) (hl : xs.length = n) (hl2 : n ≤ 100000) (J : Nat → World → Prop) (W : World) (hbl : bx < W.heap.size) (hh : h < W.heap.size)
    (hbx : W.cell? ⟨bx, 0, none⟩ = some (.slice (some ⟨h, o, none⟩) n c)) (hrow : IntsAt W h o xs)
    (hY : ∀ k x A, xs[k]? = some x → J (k + 1) A → Keep (fun j => j = bx ∨ j = h) W A → YieldAt Fence.wide 7 Try.prog L #[.int .i64 (k : Int), .int .i64 x] A fun e B =>
      e = .returned (.bool true) ∧ J k B ∧ Keep (fun j => j = bx ∨ j = h) A B)
    (h0 : J n W) :
    CallsIn Fence.wide 8 Try.prog 59 #[.func (.yield L) #[] #[], .pointer (some ⟨bx, 0, none⟩)] W fun e B => (∃ v, e = .returned v) ∧ J 0 B := by
  have HY := Lib.hid hY
  have HROW := Lib.hid hrow
  have HL := Lib.hid hl
  have H0 := Lib.hid h0
  have HBL := Lib.hid (And.intro hbl hh)
  have HBX := Lib.hid hbx
  clear h0 hY hrow hl hbl hh
  refine callsIn_of_wp Try.func59 rfl trivial ?_ rfl
  simp only [Try.ntmps59, List.size_toArray, List.length_cons, List.length_nil, Nat.reduceAdd, Nat.reduceSub, Array.replicate_succ, Array.replicate_zero, List.push_toArray, List.append_toArray, List.nil_append, List.cons_append]
  gi_wp2
  clear hbx
  gi_loopw [3] (fun i wr => ∃ k : Nat, k ≤ n ∧ i = .int .i64 ((k : Int) - 1) ∧ Hid (J k wr ∧ Keep (fun j => j = bx ∨ j = h) W wr)) (fun i _ => (intOf i + 1).toNat)
  case atStart =>
    exact ⟨n, by omega, rfl, H0.out, Keep.refl _ _⟩
  case round =>
    obtain ⟨k, hk, rfl, hw⟩ := hrel
    cases k with
    | zero =>
      gi_wp2
      go_end0
      exact ⟨⟨_, rfl⟩, hw.out.1⟩
    | succ k =>
      have hb1 : wr.cell? ⟨bx, 0, none⟩ = some (.slice (some ⟨h, o, none⟩) n c) := by rw [hw.out.2.cell (.inl rfl) HBL.out.1]; exact HBX.out
      obtain ⟨x, hx⟩ : ∃ x, xs[k]? = some x := ⟨_, List.getElem?_eq_getElem (by rw [HL.out]; omega)⟩
      have hc : wr.cell? ⟨h, o + k, none⟩ = some (.int .i64 x) := HROW.out.keep hw.out.2 (.inr rfl) HBL.out.2 k x hx
      have e1 : (((k + 1 : Nat) : Int) - 1) = (k : Int) := by omega
      rw [e1]
      have hd : decide ((k : Int) ≥ 0) = true := by simp
      obtain ⟨fn, tmps, assign, body, hy, hR⟩ := HY.out k x wr hx hw.out.1 hw.out.2
      have HR := Lib.hid hR
      clear hR hx
      gi_wp2
      refine HR.out.mono ?_
      rintro e B ⟨rfl, hj, hkp⟩
      have F1 : Hid (J k B ∧ Keep (fun j => j = bx ∨ j = h) W B) := ⟨hj, hw.out.2.trans hkp⟩
      clear hj hkp hy hc hb1 hd e1
      gi_wp2
      exact ⟨⟨k, by omega, by go_num, F1.out⟩, by simp [intOf] <;> omega⟩
/-- A loop over a row from its end. -/
theorem wp_back {xs : List Int} {h o n c : Nat} {g : Operand} {ps : Array Tmp} {assign body : Code} {Q : Exit → Act → World → Prop} {a : Act} {w : World} {bx : Nat}
    (hg : a.eval g = .func (.func 59) #[] #[.pointer (some ⟨bx, 0, none⟩)]) (hps : ps.size = 2) (hbl : bx < w.heap.size) (hh : h < w.heap.size)
    (hbx : w.cell? ⟨bx, 0, none⟩ = some (.slice (some ⟨h, o, none⟩) n c)) (row : IntsAt w h o xs) (hn : xs.length = n) (hl2 : n ≤ 100000)
    (I : Nat → World → Prop) (hI : ∀ k A B, I k A → Keep (fun j => ¬ (w.heap.size ≤ j ∧ j < w.heap.size + 2)) A B → I k B)
    (h0 : I n w) (act : Nat → Int → Array Value)
    (hassign : ∀ L k x A (K : Act → World → Prop), K { tmps := act k x, defers := [] } A → assign.wpIn (Fence.wide.inRound L) 7 Try.prog (Exit.then K (fun _ _ _ => False)) { tmps := (ps.zip #[.int .i64 (k : Int), .int .i64 x]).foldl (fun t (p, v) => t.setIfInBounds p v) a.tmps, defers := [] } A)
    (hbody : ∀ L k x B, xs[k]? = some x → I (k + 1) B → w.heap.size + 2 ≤ B.heap.size → body.wpIn (Fence.wide.inRound L) 7 Try.prog (fun e _ B' => e = .normal ∧ I k B' ∧ Keep (fun j => j = bx ∨ j = h ∨ j = w.heap.size ∨ j = w.heap.size + 1) B B') { tmps := act k x, defers := [] } B)
    (hdone : ∀ W, I 0 W → W.heap[w.heap.size]? = some (.deferred (some [])) → Q .normal { a with defers := { target := .collected w.heap.size, args := #[] } :: a.defers } W) :
    (Code.rangeFunc g ps assign body).wp Try.prog Q a w := by
  refine (wpIn_wide (n := 9)).1 (wpIn_rangeFunc fun fn _ => ?_)
  obtain ⟨rc, hrc⟩ : ∃ rc : LoopState → Option Code → Loop, rc = fun st pe => { state := st, pending := pe, fn, tmps := a.tmps, params := ps, assign, body, defers := w.heap.size } := ⟨_, rfl⟩
  obtain ⟨W1, hW1⟩ : ∃ W1, (w.alloc (.deferred (some []))).alloc (.loop (rc .ready none)) = W1 := ⟨_, rfl⟩
  have hz1 : W1.heap.size = w.heap.size + 2 := by rw [← hW1]; simp
  have k1 : Keep (fun _ => True) w W1 := by rw [← hW1]; exact (Keep.alloc _ _ _).trans (Keep.alloc _ _ _)
  have hl1 : W1.heap[w.heap.size + 1]? = some (.loop (rc .ready none)) := by
    rw [← hW1]; have := World.alloc_heap_new (w.alloc (.deferred (some []))) (.loop (rc .ready none)); rwa [World.size_alloc] at this
  have hd1 : W1.heap[w.heap.size]? = some (.deferred (some [])) := by
    rw [← hW1]; exact (Below.heap_alloc _ _ _ (by simp)).trans (World.alloc_heap_new w _)
  refine ⟨w.heap.size + 1, [{ target := .collected w.heap.size, args := #[] }], W1, { target := .fn (.func 59) #[.pointer (some ⟨bx, 0, none⟩)], args := #[.func (.yield (w.heap.size + 1)) #[] #[]] }, W1, 59,
    #[.func (.yield (w.heap.size + 1)) #[] #[], .pointer (some ⟨bx, 0, none⟩)], W1, ?_, ?_, fun _ _ => trivial, ?_, fun h => (by cases h), ?_⟩
  · rw [← hW1, hrc]; exact run_enterLoop_outer _ _ _ _ _
  · simp only [resolve, hg]
    simp [go_sem]
  · simp [invoke, go_sem]
  · refine (back1_c (w.heap.size + 1) bx h o n c xs hn hl2
      (fun k A => I k A ∧ A.heap[w.heap.size + 1]? = some (.loop (rc .ready none)) ∧ A.heap[w.heap.size]? = some (.deferred (some [])) ∧ w.heap.size + 2 ≤ A.heap.size)
      W1 (by omega) (by omega) ?_ (row.keep k1 trivial hh) ?_ ⟨hI _ _ _ h0 (k1.mono fun _ _ => trivial), hl1, hd1, by omega⟩).mono ?_
    · rw [k1.cell trivial hbl]; exact hbx
    · rintro k x A hk ⟨hi, hl, hd, hsz⟩ hkp
      have hy := run_yield (P := Try.prog) (args := #[.int .i64 (k : Int), .int .i64 x]) hl (by rw [hrc]; simp [hps])
      rw [hrc] at hy
      refine ⟨fn, _, assign, body, hy, roundIn_of_wpIn trivial (hassign _ _ x _ _ ?_)⟩
      clear hy
      have hlz := (Array.getElem?_eq_some_iff.1 hl).1
      refine ⟨_, run_beginRound hl (by rw [hrc]), ?_⟩
      have hl2' := World.putObj_heap_same (o := .loop { rc .ready none with state := .busy }) hlz
      have hd2 : (A.putObj (w.heap.size + 1) (.loop { rc .ready none with state := .busy })).heap[w.heap.size]? = some (.deferred (some [])) := (World.putObj_heap_other (by omega)).trans hd
      have kB : Keep (fun j => j ≠ w.heap.size + 1) A (A.putObj (w.heap.size + 1) (.loop { rc .ready none with state := .busy })) := Keep.putObj _ _ _ _ (by simp)
      refine wpIn_mono (hbody (w.heap.size + 1) k x _ hk (hI _ _ _ hi (kB.mono fun j hj => by omega)) (by simpa using hsz)) ?_
      rintro e a3 B ⟨rfl, hi3, hk3⟩
      have hl3 := (hk3.block (w.heap.size + 1) (.inr (.inr (.inr rfl))) (Array.getElem?_eq_some_iff.1 hl2').1).trans hl2'
      have hd3 := (hk3.block w.heap.size (.inr (.inr (.inl rfl))) (Array.getElem?_eq_some_iff.1 hd2).1).trans hd2
      have hr := run_endRound (P := Try.prog) none hl3
      refine ⟨_, _, hr, rfl, ⟨hI _ _ _ hi3 (Keep.putObj _ _ _ _ (by omega)), ?_, (World.putObj_heap_other (by omega)).trans hd3, ?_⟩, ?_⟩
      · rw [World.putObj_heap_same (Array.getElem?_eq_some_iff.1 hl3).1, hrc]
        rfl
      · have := hk3.size
        simp at this ⊢
        omega
      · refine ((Keep.putObj _ _ _ _ (by omega)).trans (hk3.mono fun j hj => by omega)).trans (Keep.putObj _ _ _ _ (by omega))
    · rintro e W2 ⟨⟨v, rfl⟩, hi, hl, hd, _⟩
      exact ⟨none, _, by have := run_endLoop (P := Try.prog) hl (by rw [hrc]; simp); rw [hrc] at this; exact this, hdone _ (hI _ _ _ hi (Keep.putObj _ _ _ _ (by omega))) ((World.putObj_heap_other (by omega)).trans hd)⟩
end Go.Proofs.Ytopngjpgikpmaaa
