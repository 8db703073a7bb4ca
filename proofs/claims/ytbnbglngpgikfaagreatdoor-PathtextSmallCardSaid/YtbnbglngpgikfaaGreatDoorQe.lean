/- Layer 15: package pathtext: a range over words. -/
import Derived.Test.YtbnbglngpgikfaaGreatDoorQd
namespace Go.Proofs.YtbnbglngpgikfaaGreatDoor
open Go.RowKit Go.Shelf
attribute [local go_sem] Oper.semAt_some
theorem postM_ret15 {fn : Func} {R : Ending → World → Prop} {tmps : Array Value} {D : Nat} {W : World} (v : Value) (hD : W.heap[D]? = some (.deferred (some [])))
    (hres : (results fn tmps).run Tryz.prog (W.putObj D (.deferred none)) = .ok v (W.putObj D (.deferred none))) (h : R (.returned v) (W.putObj D (.deferred none))) :
    bodyPostM Fence.wide 9 Tryz.prog fn R .ret { tmps := tmps, defers := [{ target := .collected D, args := #[] }] } W :=
  ⟨by simp, .inl ⟨_, _, rfl, run_takeDeferred hD, ⟨_, hres, h⟩⟩⟩
/-- A loop over words. -/
theorem wp_words {fnum : FuncId} {pv : Value} {ws : List Wd} {g : Operand} {ps : Array Tmp} {assign body : Code} {Q : Exit → Act → World → Prop} {a : Act} {w : World} (KS : Nat → Prop)
    (hg : a.eval g = .func (.func fnum) #[] #[pv]) (hps : ps.size = 1) (hKS : ∀ j, KS j → j < w.heap.size) (hcf : ∀ (args : Array Value) (W : World), (callFunc fnum args).run Tryz.prog W = .ok (.enter fnum args) W)
    (hit : ∀ W, Keep (fun _ => True) w W → YieldsS fnum pv KS ws W)
    (I : Nat → World → Prop) (hI : ∀ k A B, I k A → Keep (fun j => ¬ (w.heap.size ≤ j ∧ j < w.heap.size + 4)) A B → I k B)
    (Ix : World → Prop) (hIx : ∀ A B, Ix A → Keep (fun j => ¬ (w.heap.size ≤ j ∧ j < w.heap.size + 4)) A B → Ix B)
    (h0 : I 0 w) (act : Wd → Array Value)
    (hassign : ∀ L x A (K : Act → World → Prop), K { tmps := act x, defers := [] } A → assign.wpIn (Fence.wide.inRound L) 7 Tryz.prog (Exit.then K (fun _ _ _ => False)) { tmps := (ps.zip (wdArgs x)).foldl (fun t (p, v) => t.setIfInBounds p v) a.tmps, defers := [] } A)
    (hbody : ∀ L i x A o B, ws[i]? = some x → I i A → w.heap.size + 4 ≤ A.heap.size → B = A.putObj (w.heap.size + 1) o → body.wpIn (Fence.wide.inRound L) 7 Tryz.prog (wdPost KS w.heap.size (i + 1) I Ix B) { tmps := act x, defers := [] } B)
    (hdone : ∀ W, I ws.length W → W.heap[w.heap.size]? = some (.deferred (some [])) → Q .normal { a with defers := { target := .collected w.heap.size, args := #[] } :: a.defers } W)
    (hstop : ∀ W, Ix W → W.heap[w.heap.size]? = some (.deferred (some [])) → Q .ret { a with defers := { target := .collected w.heap.size, args := #[] } :: a.defers } W) :
    (Code.rangeFunc g ps assign body).wp Tryz.prog Q a w := by
  refine (wpIn_wide (n := 9)).1 (wpIn_rangeFunc fun fn _ => ?_)
  obtain ⟨rc, hrc⟩ : ∃ rc : LoopState → Option Code → Loop, rc = fun st pe => { state := st, pending := pe, fn, tmps := a.tmps, params := ps, assign, body, defers := w.heap.size } := ⟨_, rfl⟩
  obtain ⟨W1, hW1⟩ : ∃ W1, (w.alloc (.deferred (some []))).alloc (.loop (rc .ready none)) = W1 := ⟨_, rfl⟩
  have hz1 : W1.heap.size = w.heap.size + 2 := by rw [← hW1]; simp
  have k1 : Keep (fun _ => True) w W1 := by rw [← hW1]; exact (Keep.alloc _ _ _).trans (Keep.alloc _ _ _)
  have hl1 : W1.heap[w.heap.size + 1]? = some (.loop (rc .ready none)) := by
    rw [← hW1]; have := World.alloc_heap_new (w.alloc (.deferred (some []))) (.loop (rc .ready none)); rwa [World.size_alloc] at this
  have hd1 : W1.heap[w.heap.size]? = some (.deferred (some [])) := by
    rw [← hW1]; exact (Below.heap_alloc _ _ _ (by simp)).trans (World.alloc_heap_new w _)
  refine ⟨w.heap.size + 1, [{ target := .collected w.heap.size, args := #[] }], W1, { target := .fn (.func fnum) #[pv], args := #[.func (.yield (w.heap.size + 1)) #[] #[]] }, W1, fnum,
    #[.func (.yield (w.heap.size + 1)) #[] #[], pv], W1, ?_, ?_, fun _ _ => trivial, ?_, fun h => (by cases h), ?_⟩
  · rw [← hW1, hrc]; exact run_enterLoop_outer _ _ _ _ _
  · simp only [resolve, hg]
    simp [go_sem]
  · simp [invoke, go_sem, hcf]
  · refine (hit W1 k1 (w.heap.size + 1)
      (fun k A => I k A ∧ A.heap[w.heap.size + 1]? = some (.loop (rc .ready none)) ∧ A.heap[w.heap.size]? = some (.deferred (some [])))
      (fun A => Ix A ∧ A.heap[w.heap.size + 1]? = some (.loop (rc .done (some .ret))) ∧ A.heap[w.heap.size]? = some (.deferred (some [])))
      ?_ ?_ ⟨hI _ _ _ h0 (k1.mono fun _ _ => trivial), hl1, hd1⟩).mono ?_
    · rintro k A B ⟨hi, hl, hd⟩ hkp
      rw [hz1] at hkp
      exact ⟨hI _ _ _ hi (hkp.mono fun j hj => by omega), (hkp.block _ (by omega) (Array.getElem?_eq_some_iff.1 hl).1).trans hl, (hkp.block _ (by omega) (Array.getElem?_eq_some_iff.1 hd).1).trans hd⟩
    · rintro i x A hk ⟨hi, hl, hd⟩ hlt
      rw [hz1] at hlt ⊢
      have hy := run_yield (P := Tryz.prog) (args := wdArgs x) hl (by rw [hrc]; simp [hps, wdArgs])
      rw [hrc] at hy
      refine ⟨fn, _, assign, body, hy, roundIn_of_wpIn trivial (hassign _ x _ _ ?_)⟩
      clear hy
      have hlz := (Array.getElem?_eq_some_iff.1 hl).1
      refine ⟨_, run_beginRound hl (by rw [hrc]), ?_⟩
      have hl2' := World.putObj_heap_same (o := .loop { rc .ready none with state := .busy }) hlz
      have hd2 : (A.putObj (w.heap.size + 1) (.loop { rc .ready none with state := .busy })).heap[w.heap.size]? = some (.deferred (some [])) := (World.putObj_heap_other (by omega)).trans hd
      have out : ∀ (B : World) (o : Obj), Keep (RoundL KS w.heap.size) (A.putObj (w.heap.size + 1) (.loop { rc .ready none with state := .busy })) B → Keep (fun j => KS j ∨ (w.heap.size + 2 ≤ j ∧ j < w.heap.size + 2 + 2)) A (B.putObj (w.heap.size + 1) o) := fun B o h => by
        refine ((Keep.putObj _ _ _ (fun e => ?_)).trans (h.mono fun j hj => ?_)).trans (Keep.putObj _ _ _ (fun e => ?_))
        · rcases e with e | e
          · have := hKS _ e; omega
          · omega
        · rcases hj with hj | hj
          · exact .inl hj
          · exact .inr (by omega)
        · rcases e with e | e
          · have := hKS _ e; omega
          · omega
      refine wpIn_mono (hbody (w.heap.size + 1) i x A _ _ hk hi (by omega) rfl) ?_
      rintro e a3 B hp
      cases e with
      | normal =>
        obtain ⟨hk3, hi3⟩ := hp
        have hl3 := (hk3.block (w.heap.size + 1) (.inr (by omega)) (Array.getElem?_eq_some_iff.1 hl2').1).trans hl2'
        have hd3 := (hk3.block w.heap.size (.inr (by omega)) (Array.getElem?_eq_some_iff.1 hd2).1).trans hd2
        have hr := run_endRound (P := Tryz.prog) none hl3
        refine ⟨_, _, hr, true, rfl, .inl ⟨rfl, hI _ _ _ hi3 (Keep.putObj _ _ _ (by omega)), ?_, (World.putObj_heap_other (by omega)).trans hd3⟩, out _ _ hk3⟩
        rw [World.putObj_heap_same (Array.getElem?_eq_some_iff.1 hl3).1, hrc]
        rfl
      | ret =>
        obtain ⟨hk3, hi3⟩ := hp
        have hl3 := (hk3.block (w.heap.size + 1) (.inr (by omega)) (Array.getElem?_eq_some_iff.1 hl2').1).trans hl2'
        have hd3 := (hk3.block w.heap.size (.inr (by omega)) (Array.getElem?_eq_some_iff.1 hd2).1).trans hd2
        have hr := run_endRound (P := Tryz.prog) (some .ret) hl3
        refine ⟨_, _, hr, false, rfl, .inr ⟨rfl, hIx _ _ hi3 (Keep.putObj _ _ _ (by omega)), ?_, (World.putObj_heap_other (by omega)).trans hd3⟩, out _ _ hk3⟩
        rw [World.putObj_heap_same (Array.getElem?_eq_some_iff.1 hl3).1, hrc]
        rfl
      | exit id => exact hp.elim
      | goto t => exact hp.elim
      | panic ch => exact hp.elim
      | outgrown => exact hp.elim
    · rintro e W2 ⟨⟨v, rfl⟩, (⟨hi, hl, hd⟩ | ⟨hi, hl, hd⟩)⟩
      · exact ⟨none, _, by have := run_endLoop (P := Tryz.prog) hl (by rw [hrc]; simp); rw [hrc] at this; exact this, hdone _ (hI _ _ _ hi (Keep.putObj _ _ _ (by omega))) ((World.putObj_heap_other (by omega)).trans hd)⟩
      · exact ⟨some .ret, _, by have := run_endLoop (P := Tryz.prog) hl (by rw [hrc]; simp); rw [hrc] at this; exact this, wpIn_ret (hstop _ (hIx _ _ hi (Keep.putObj _ _ _ (by omega))) ((World.putObj_heap_other (by omega)).trans hd))⟩
end Go.Proofs.YtbnbglngpgikfaaGreatDoor
