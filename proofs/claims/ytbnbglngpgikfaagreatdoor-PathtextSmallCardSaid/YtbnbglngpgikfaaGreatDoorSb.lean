/- A range over the segments of a path: what the iterator does, and one rule for such a loop. -/
import Derived.Test.YtbnbglngpgikfaaGreatDoorSa
import Derived.RangeFuncNested
import Derived.RangeFuncBound
import Derived.RangeFuncCalls
import Derived.RangeFuncLeaves
import Derived.Shelf.Abstract
import Derived.Shelf.RegionOpen
import Derived.OwnWalkIn
import Derived.TacticsInMore
import Derived.LoopNIn
import Derived.LoopIn
namespace Go.Proofs.YtbnbglngpgikfaaGreatDoor
open Go.RowKit Go.Shelf
attribute [local go_sem] Oper.semAt_some
section
variable {S T : Nat → Prop} {w w' u : World}
theorem Keep.putObj (w : World) (l : Nat) (o : Obj) (h : ¬ S l) : Keep S w (w.putObj l o) := ⟨rfl, rfl, rfl, by simp, fun k hk _ => World.putObj_heap_other (fun e => h (e ▸ hk))⟩
theorem Keep.cell (h : Keep S w w') {g o : Nat} (hs : S g) (hl : g < w.heap.size) : w'.cell? ⟨g, o, none⟩ = w.cell? ⟨g, o, none⟩ := by
  unfold World.cell?; simp only; rw [h.block g hs hl]
end
/-- What may stand at the beginning is what may stand behind a close. -/
abbrev shut0 : Sg := ⟨5, (0, 0), (0, 0), (0, 0)⟩
/-- The segment ahead of the k-th one. -/
def aheadL (l : List Sg) : Nat → Sg
  | 0 => shut0
  | k + 1 => (l[k]?).getD shut0
theorem aheadL_succ {l : List Sg} {k : Nat} {s : Sg} (h : l[k]? = some s) : aheadL l (k + 1) = s := by simp [aheadL, h]
theorem Blk.putOther {w : World} {g : Nat} {t : TypeId} {cs : Array Value} (h : Blk w g t cs) {l : Nat} (o : Obj) (hne : g ≠ l) : Blk (w.putObj l o) g t cs := by
  unfold Blk; rw [World.putObj_heap_other hne]; exact h
theorem Blk.setS {w : World} {g : Nat} {t : TypeId} {s : Sg} (h : Blk w g t s.cells) (u : Sg) :
    Blk (((((((w.setCell ⟨g, 0, none⟩ (.int .i64 u.k)).setCell ⟨g, 1, none⟩ (.int .i64 u.p.1)).setCell ⟨g, 2, none⟩ (.int .i64 u.p.2)).setCell ⟨g, 3, none⟩ (.int .i64 u.q.1)).setCell ⟨g, 4, none⟩ (.int .i64 u.q.2)).setCell ⟨g, 5, none⟩ (.int .i64 u.r.1)).setCell ⟨g, 6, none⟩ (.int .i64 u.r.2)) g t u.cells := by
  obtain ⟨k, p, q, r⟩ := s
  obtain ⟨k', p', q', r'⟩ := u
  exact (((((((h.put 0 _ (seven k' p q r) rfl).put 1 _ (seven k' (p'.1, p.2) q r) rfl).put 2 _ (seven k' p' q r) rfl).put 3 _ (seven k' p' (q'.1, q.2) r) rfl).put 4 _ (seven k' p' q' r) rfl).put 5 _ (seven k' p' q' (r'.1, r.2)) rfl).put 6 _ (seven k' p' q' r') rfl)
/-- Seven cells stored. -/
theorem keep_seven {S : Nat → Prop} (w : World) (g : Nat) (hg : ¬ S g) (a b c d e f i : Value) :
    Keep S w (((((((w.setCell ⟨g, 0, none⟩ a).setCell ⟨g, 1, none⟩ b).setCell ⟨g, 2, none⟩ c).setCell ⟨g, 3, none⟩ d).setCell ⟨g, 4, none⟩ e).setCell ⟨g, 5, none⟩ f).setCell ⟨g, 6, none⟩ i) :=
  ((((((Keep.setCell _ _ _ hg).trans (Keep.setCell _ _ _ hg)).trans (Keep.setCell _ _ _ hg)).trans (Keep.setCell _ _ _ hg)).trans (Keep.setCell _ _ _ hg)).trans (Keep.setCell _ _ _ hg)).trans (Keep.setCell _ _ _ hg)
theorem segments_c (ao : Option Addr) (n c : Nat) (w : World) : Calls Tryz.prog 33 #[.slice ao n c] w fun e w' => e = .returned (.func (.func 51) #[] #[.pointer (some ⟨w.heap.size, 0, none⟩)]) ∧ w.alloc (.cells #[.slice ao n c] 22) = w' := by
  go_enter Tryz.func33, Tryz.ntmps33
  go_wp2
  go_ret
  exact ⟨rfl, rfl⟩
set_option maxHeartbeats 4000000 in
set_option maxRecDepth 100000 in
/-- The iterator. KS: what a round must leave. -/
theorem seg1_c (L bx n0 : Nat) (l : List Sg) (ao : Option Addr) (n c : Nat) (hl : l.length = n) (hl2 : n ≤ 9000000000000000000) (J : Nat → World → Prop) (Jx : World → Prop) (W : World) (hn0 : n0 ≤ W.heap.size) (hbl : bx < W.heap.size)
    (hbx : W.cell? ⟨bx, 0, none⟩ = some (.slice ao n c)) (hrow : ∀ k, k < n → ∃ b o, ao = some ⟨b, o, none⟩ ∧ b < n0 ∧ SegsAt W b o l)
    (hJ : ∀ k A B, J k A → Keep (fun j => j ≠ W.heap.size) A B → J k B)
    (hY : ∀ k s A, l[k]? = some s → J k A → W.heap.size < A.heap.size → YieldAt Fence.wide 7 Tryz.prog L #[.agg (aheadL l k).cells, .agg s.cells] (A.alloc (.cells s.cells 53)) fun e B =>
      (e = .returned (.bool true) ∧ J (k + 1) B ∧ Keep (fun j => j < n0 ∨ j = bx ∨ j = W.heap.size ∨ j = A.heap.size) (A.alloc (.cells s.cells 53)) B) ∨ (e = .returned (.bool false) ∧ Jx B))
    (h0 : J 0 W) :
    CallsIn Fence.wide 8 Tryz.prog 51 #[.func (.yield L) #[] #[], .pointer (some ⟨bx, 0, none⟩)] W fun e B => (∃ v, e = .returned v) ∧ (J n B ∨ Jx B) := by
  have H0 : Hid (J 0 (W.alloc (.cells shut0.cells 53))) := hJ _ _ _ h0 (Keep.alloc _ _ _)
  have HJ := Lib.hid hJ
  have HY := Lib.hid hY
  have HROW := Lib.hid hrow
  have HL := Lib.hid hl
  have S0 : Hid (Keep (fun j => j ≠ W.heap.size) W (W.alloc (.cells shut0.cells 53)) ∧ Blk (W.alloc (.cells shut0.cells 53)) W.heap.size 53 shut0.cells) := ⟨Keep.alloc _ _ _, Blk.newAt _ _ _ rfl⟩
  have HB := Lib.hid (show n0 ≤ W.heap.size ∧ bx < W.heap.size from ⟨by omega, by omega⟩)
  clear h0 hJ hY hrow hl hn0
  refine callsIn_of_wp Tryz.func51 rfl trivial ?_ rfl
  simp only [Tryz.ntmps51, List.size_toArray, List.length_cons, List.length_nil, Nat.reduceAdd, Nat.reduceSub, Array.replicate_succ, Array.replicate_zero, List.push_toArray, List.append_toArray, List.nil_append, List.cons_append]
  gi_wp2
  gi_loopw [9] (fun i wr => ∃ k : Nat, k ≤ n ∧ i = .int .i64 k ∧ Hid (J k wr ∧ Keep (fun j => j < n0 ∨ j = bx) W wr ∧ W.heap.size < wr.heap.size ∧ Blk wr W.heap.size 53 (aheadL l k).cells)) (fun i _ => n - (intOf i).toNat)
  case atStart =>
    exact ⟨0, by omega, rfl, H0.out, Keep.alloc _ _ _, by simp, S0.out.2⟩
  case round =>
    obtain ⟨k, hk, rfl, hw⟩ := hrel
    by_cases hlt : k < n
    · have hd : decide ((k : Int) < (n : Int)) = true := by simp; omega
      obtain ⟨b, o, rfl, hb, hs⟩ := HROW.out k hlt
      obtain ⟨s, hq⟩ : ∃ s, l[k]? = some s := ⟨_, List.getElem?_eq_getElem (by rw [HL.out]; exact hlt)⟩
      have hs' : SegsAt wr b o l := fun i x hx j v hv => by
        rw [hw.out.2.1.cell (.inl hb) (by have := HB.out; omega)]; exact hs i x hx j v hv
      have c0 := hs'.c0 hq
      have c1 := hs'.c1 hq
      have c2 := hs'.c2 hq
      have c3 := hs'.c3 hq
      have c4 := hs'.c4 hq
      have c5 := hs'.c5 hq
      have c6 := hs'.c6 hq
      obtain ⟨x, hx⟩ : ∃ x, aheadL l k = x := ⟨_, rfl⟩
      have hka : Blk wr W.heap.size 53 x.cells := hx ▸ hw.out.2.2.2
      have a0 := hka.s0
      have a1 := hka.s1
      have a2 := hka.s2
      have a3 := hka.s3
      have a4 := hka.s4
      have a5 := hka.s5
      have a6 := hka.s6
      have hml := hw.out.2.2.1
      obtain ⟨fn, tmps, assign, body, hy, hR⟩ := HY.out k s wr hq hw.out.1 hml
      rw [hx] at hy
      have HX := Lib.hid hx
      have HQ := Lib.hid hq
      have HR := Lib.hid hR
      clear hx hq hs hs' hka hb hR
      simp only [Sg.cells, seven] at hy
      gi_wp2
      refine HR.out.mono ?_
      rintro e B (⟨rfl, hj, hkp⟩ | ⟨rfl, hjx⟩)
      · have KB := Lib.hid hkp
        have HJ1 := Lib.hid hj
        have bs : Blk B wr.heap.size 53 s.cells := hkp.blk (Blk.new _ _ _) (.inr (.inr (.inr rfl)))
        have ba : Blk B W.heap.size 53 x.cells := hkp.blk ((HX.out ▸ hw.out.2.2.2 : Blk wr W.heap.size 53 x.cells).alloc _) (.inr (.inr (.inl rfl)))
        have HBA := Lib.hid ba
        have b0 := bs.s0
        have b1 := bs.s1
        have b2 := bs.s2
        have b3 := bs.s3
        have b4 := bs.s4
        have b5 := bs.s5
        have b6 := bs.s6
        have f0 := ba.free 0
        have f1 := ba.free 1
        have f2 := ba.free 2
        have f3 := ba.free 3
        have f4 := ba.free 4
        have f5 := ba.free 5
        have f6 := ba.free 6
        have g0 := ba.s0
        have g1 := ba.s1
        have g2 := ba.s2
        have g3 := ba.s3
        have g4 := ba.s4
        have g5 := ba.s5
        have g6 := ba.s6
        have lB := ba.lt
        clear hj hkp bs ba hy a0 a1 a2 a3 a4 a5 a6 c0 c1 c2 c3 c4 c5 c6
        gi_wp2
        have hks : ∀ S : Nat → Prop, ¬ S W.heap.size → Keep S B (((((((B.setCell ⟨W.heap.size, 0, none⟩ (.int .i64 s.k)).setCell ⟨W.heap.size, 1, none⟩ (.int .i64 s.p.1)).setCell ⟨W.heap.size, 2, none⟩ (.int .i64 s.p.2)).setCell ⟨W.heap.size, 3, none⟩ (.int .i64 s.q.1)).setCell ⟨W.heap.size, 4, none⟩ (.int .i64 s.q.2)).setCell ⟨W.heap.size, 5, none⟩ (.int .i64 s.r.1)).setCell ⟨W.heap.size, 6, none⟩ (.int .i64 s.r.2)) := fun S hS => keep_seven B _ hS _ _ _ _ _ _ _
        have hn1 : ¬ (W.heap.size < n0 ∨ W.heap.size = bx) := by have := HB.out; omega
        refine ⟨⟨k + 1, by omega, by go_num, HJ.out _ _ _ HJ1.out (hks _ (by simp)), ((hw.out.2.1.trans (Keep.alloc _ _ _)).trans (KB.out.mono fun j hj => ?_)).trans (hks _ hn1), Nat.lt_of_lt_of_le lB (hks (fun _ => False) id).size, ?_⟩, by simp [intOf]; omega⟩
        · rcases hj with h | h
          · exact .inl h
          · exact .inr (.inl h)
        · rw [aheadL_succ HQ.out]; exact HBA.out.setS s
      · gi_wp2
        refine bodyPost_ret (results_none rfl _ _ _) rfl ?_
        exact ⟨⟨_, rfl⟩, .inr hjx⟩
    · have hd : decide ((k : Int) < (n : Int)) = false := by simp; omega
      obtain rfl : k = n := by omega
      gi_wp2
      go_end0
      exact ⟨⟨_, rfl⟩, .inl hw.out.1⟩
/-- What a round must leave: what lay ahead of the call, the iterator's own blocks, its box of the segment. -/
def RoundS (n0 bx N S : Nat) : Nat → Prop := fun j => j < n0 ∨ j = bx ∨ (N ≤ j ∧ j < N + 3) ∨ j = S
/-- How the body of a round may be left. -/
def segPost (n0 bx N S k : Nat) (I : Nat → World → Prop) (Ix : World → Prop) (W : World) : Exit → Act → World → Prop
  | .normal, _, W' => Keep (RoundS n0 bx N S) W W' ∧ I (k + 1) W'
  | .ret, _, W' => Keep (RoundS n0 bx N S) W W' ∧ Ix W'
  | _, _, _ => False
/-- A loop over the segments of a path. -/
theorem wp_segs {l : List Sg} {ao : Option Addr} {n c : Nat} {g : Operand} {ps : Array Tmp} {assign body : Code} {Q : Exit → Act → World → Prop} {a : Act} {w w0 : World} {bx : Nat}
    (hg : a.eval g = .func (.func 51) #[] #[.pointer (some ⟨bx, 0, none⟩)]) (hps : ps.size = 2) (hb0 : Below w0.heap.size w0 w) (hbl : bx < w.heap.size)
    (hbx : w.cell? ⟨bx, 0, none⟩ = some (.slice ao n c)) (row : RowS w0 (.slice ao n c) l) (hl2 : n ≤ 9000000000000000000)
    (I : Nat → World → Prop) (hI : ∀ k A B, I k A → Keep (fun j => ¬ (w.heap.size ≤ j ∧ j < w.heap.size + 3)) A B → I k B)
    (Ix : World → Prop) (hIx : ∀ A B, Ix A → Keep (fun j => ¬ (w.heap.size ≤ j ∧ j < w.heap.size + 3)) A B → Ix B)
    (h0 : I 0 w) (act : Sg → Sg → Nat → Array Value) (mk : Sg → Sg → World → World) (hmk : ∀ x s A, Keep (fun _ => True) A (mk x s A))
    (hassign : ∀ L x s A (K : Act → World → Prop), K { tmps := act x s A.heap.size, defers := [] } (mk x s A) → assign.wpIn (Fence.wide.inRound L) 7 Tryz.prog (Exit.then K (fun _ _ _ => False)) { tmps := (ps.zip #[.agg x.cells, .agg s.cells]).foldl (fun t (p, v) => t.setIfInBounds p v) a.tmps, defers := [] } A)
    (hbody : ∀ L k s A o B, l[k]? = some s → I k A → w.heap.size + 3 ≤ A.heap.size → B = (mk (aheadL l k) s (A.alloc (.cells s.cells 53))).putObj (w.heap.size + 1) o → body.wpIn (Fence.wide.inRound L) 7 Tryz.prog (segPost w0.heap.size bx w.heap.size A.heap.size k I Ix B) { tmps := act (aheadL l k) s (A.heap.size + 1), defers := [] } B)
    (hdone : ∀ W, I n W → W.heap[w.heap.size]? = some (.deferred (some [])) → Q .normal { a with defers := { target := .collected w.heap.size, args := #[] } :: a.defers } W)
    (hstop : ∀ W, Ix W → W.heap[w.heap.size]? = some (.deferred (some [])) → Q .ret { a with defers := { target := .collected w.heap.size, args := #[] } :: a.defers } W) :
    (Code.rangeFunc g ps assign body).wp Tryz.prog Q a w := by
  have hn : l.length = n := by
    rcases row with ⟨e, h⟩ | ⟨x, y, e, h⟩ | ⟨b, o, c', e, _, _⟩
    · cases e; rw [h]; rfl
    · cases e; rw [h]; rfl
    · cases e; rfl
  have hsz := hb0.size
  refine (wpIn_wide (n := 9)).1 (wpIn_rangeFunc fun fn _ => ?_)
  obtain ⟨rc, hrc⟩ : ∃ rc : LoopState → Option Code → Loop, rc = fun st pe => { state := st, pending := pe, fn, tmps := a.tmps, params := ps, assign, body, defers := w.heap.size } := ⟨_, rfl⟩
  obtain ⟨W1, hW1⟩ : ∃ W1, (w.alloc (.deferred (some []))).alloc (.loop (rc .ready none)) = W1 := ⟨_, rfl⟩
  have hz1 : W1.heap.size = w.heap.size + 2 := by rw [← hW1]; simp
  have k1 : Keep (fun _ => True) w W1 := by rw [← hW1]; exact (Keep.alloc _ _ _).trans (Keep.alloc _ _ _)
  have hl1 : W1.heap[w.heap.size + 1]? = some (.loop (rc .ready none)) := by
    rw [← hW1]; have := World.alloc_heap_new (w.alloc (.deferred (some []))) (.loop (rc .ready none)); rwa [World.size_alloc] at this
  have hd1 : W1.heap[w.heap.size]? = some (.deferred (some [])) := by
    rw [← hW1]; exact (Below.heap_alloc _ _ _ (by simp)).trans (World.alloc_heap_new w _)
  refine ⟨w.heap.size + 1, [{ target := .collected w.heap.size, args := #[] }], W1, { target := .fn (.func 51) #[.pointer (some ⟨bx, 0, none⟩)], args := #[.func (.yield (w.heap.size + 1)) #[] #[]] }, W1, 51,
    #[.func (.yield (w.heap.size + 1)) #[] #[], .pointer (some ⟨bx, 0, none⟩)], W1, ?_, ?_, fun _ _ => trivial, ?_, fun h => (by cases h), ?_⟩
  · rw [← hW1, hrc]; exact run_enterLoop_outer _ _ _ _ _
  · simp only [resolve, hg]
    simp [go_sem]
  · simp [invoke, go_sem]
  · refine (seg1_c (w.heap.size + 1) bx w0.heap.size l ao n c hn hl2
      (fun k A => I k A ∧ A.heap[w.heap.size + 1]? = some (.loop (rc .ready none)) ∧ A.heap[w.heap.size]? = some (.deferred (some [])))
      (fun A => Ix A ∧ A.heap[w.heap.size + 1]? = some (.loop (rc .done (some .ret))) ∧ A.heap[w.heap.size]? = some (.deferred (some [])))
      W1 (by omega) (by omega) ?_ ?_ ?_ ?_ ⟨hI _ _ _ h0 (k1.mono fun _ _ => trivial), hl1, hd1⟩).mono ?_
    · rw [k1.cell trivial hbl]; exact hbx
    · intro k hk
      obtain ⟨b, o, e, hb, hs⟩ := row.addr (k := k) (by omega)
      refine ⟨b, o, e, hb, (hs.on (hb0) hb).on (k1.below (B := w.heap.size) (fun _ _ => trivial) (Nat.le_refl _)) (by omega)⟩
    · rintro k A B ⟨hi, hl, hd⟩ hkp
      rw [hz1] at hkp
      exact ⟨hI _ _ _ hi (hkp.mono fun j hj => by omega), (hkp.block _ (by omega) (Array.getElem?_eq_some_iff.1 hl).1).trans hl, (hkp.block _ (by omega) (Array.getElem?_eq_some_iff.1 hd).1).trans hd⟩
    · rintro k s A hk ⟨hi, hl, hd⟩ hlt
      rw [hz1] at hlt ⊢
      have kA : Keep (fun _ => True) A (A.alloc (.cells s.cells 53)) := Keep.alloc _ _ _
      have hla := (kA.block _ trivial (Array.getElem?_eq_some_iff.1 hl).1).trans hl
      have hda := (kA.block _ trivial (Array.getElem?_eq_some_iff.1 hd).1).trans hd
      have hy := run_yield (P := Tryz.prog) (args := #[.agg (aheadL l k).cells, .agg s.cells]) hla (by rw [hrc]; simp [hps])
      rw [hrc] at hy
      refine ⟨fn, _, assign, body, hy, roundIn_of_wpIn trivial (hassign _ _ s _ _ ?_)⟩
      clear hy
      have kM := hmk (aheadL l k) s (A.alloc (.cells s.cells 53))
      have hlm := (kM.block _ trivial (Array.getElem?_eq_some_iff.1 hla).1).trans hla
      have hdm := (kM.block _ trivial (Array.getElem?_eq_some_iff.1 hda).1).trans hda
      have hlz := (Array.getElem?_eq_some_iff.1 hlm).1
      refine ⟨_, run_beginRound hlm (by rw [hrc]), ?_⟩
      rw [World.size_alloc]
      have hl2' := World.putObj_heap_same (o := .loop { rc .ready none with state := .busy }) hlz
      have hd2 : ((mk (aheadL l k) s (A.alloc (.cells s.cells 53))).putObj (w.heap.size + 1) (.loop { rc .ready none with state := .busy })).heap[w.heap.size]? = some (.deferred (some [])) := (World.putObj_heap_other (by omega)).trans hdm
      have out : ∀ (B : World) (o : Obj), Keep (RoundS w0.heap.size bx w.heap.size A.heap.size) ((mk (aheadL l k) s (A.alloc (.cells s.cells 53))).putObj (w.heap.size + 1) (.loop { rc .ready none with state := .busy })) B → Keep (fun j => j < w0.heap.size ∨ j = bx ∨ j = w.heap.size + 2 ∨ j = A.heap.size) (A.alloc (.cells s.cells 53)) (B.putObj (w.heap.size + 1) o) := fun B o h => by
        refine (((kM.mono fun _ _ => trivial).trans (Keep.putObj _ _ _ (by omega))).trans (h.mono fun j hj => ?_)).trans (Keep.putObj _ _ _ (by omega))
        unfold RoundS
        omega
      refine wpIn_mono (hbody (w.heap.size + 1) k s A _ _ hk hi (by omega) rfl) ?_
      rintro e a3 B hp
      cases e with
      | normal =>
        obtain ⟨hk3, hi3⟩ := hp
        have hl3 := (hk3.block (w.heap.size + 1) (by unfold RoundS; omega) (Array.getElem?_eq_some_iff.1 hl2').1).trans hl2'
        have hd3 := (hk3.block w.heap.size (by unfold RoundS; omega) (Array.getElem?_eq_some_iff.1 hd2).1).trans hd2
        have hr := run_endRound (P := Tryz.prog) none hl3
        refine ⟨_, _, hr, .inl ⟨rfl, ⟨hI _ _ _ hi3 (Keep.putObj _ _ _ (by omega)), ?_, (World.putObj_heap_other (by omega)).trans hd3⟩, out _ _ hk3⟩⟩
        rw [World.putObj_heap_same (Array.getElem?_eq_some_iff.1 hl3).1, hrc]
        rfl
      | ret =>
        obtain ⟨hk3, hi3⟩ := hp
        have hl3 := (hk3.block (w.heap.size + 1) (by unfold RoundS; omega) (Array.getElem?_eq_some_iff.1 hl2').1).trans hl2'
        have hd3 := (hk3.block w.heap.size (by unfold RoundS; omega) (Array.getElem?_eq_some_iff.1 hd2).1).trans hd2
        have hr := run_endRound (P := Tryz.prog) (some .ret) hl3
        refine ⟨_, _, hr, .inr ⟨rfl, hIx _ _ hi3 (Keep.putObj _ _ _ (by omega)), ?_, (World.putObj_heap_other (by omega)).trans hd3⟩⟩
        rw [World.putObj_heap_same (Array.getElem?_eq_some_iff.1 hl3).1, hrc]
        rfl
      | exit id => exact hp.elim
      | goto t => exact hp.elim
      | panic ch => exact hp.elim
      | outgrown => exact hp.elim
    · rintro e W2 ⟨⟨v, rfl⟩, (⟨hi, hl, hd⟩ | ⟨hi, hl, hd⟩)⟩
      · exact ⟨none, _, by have := run_endLoop (P := Tryz.prog) hl (by rw [hrc]; simp); rw [hrc] at this; exact this, hdone _ (hI _ _ _ hi (Keep.putObj _ _ _ (by omega))) ((World.putObj_heap_other (by omega)).trans hd)⟩
      · exact ⟨some .ret, _, by have := run_endLoop (P := Tryz.prog) hl (by rw [hrc]; simp); rw [hrc] at this; exact this, wpIn_ret (hstop _ (hIx _ _ hi (Keep.putObj _ _ _ (by omega))) ((World.putObj_heap_other (by omega)).trans hd))⟩
end Go.Proofs.YtbnbglngpgikfaaGreatDoor

