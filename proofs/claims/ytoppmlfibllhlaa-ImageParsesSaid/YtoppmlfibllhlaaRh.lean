/- Layer 11: a range over pairs of a number and a colour, whichever function yields them. -/
import Derived.Test.YtoppmlfibllhlaaRd
import Derived.RangeFuncNested
import Derived.RangeFuncBound
import Derived.RangeFuncCalls
import Derived.RangeFuncLeaves
import Derived.Shelf.Abstract
import Derived.Shelf.RegionOpen
import Derived.OwnWalkIn
import Derived.TacticsInMore
import Derived.LoopNIn
import Derived.LoopIn
import Derived.OrdersIn
namespace Go.Proofs.Ytoppmlfibllhlaa
open Go.RowKit Go.Shelf
attribute [local go_sem] Oper.semAt_some
theorem wpAnyIn_inv {F : Fence} {n : Nat} {P : Program} {md : Region.Mode} {ops : Array Oper} {Q : Exit → Act → World → Prop} (Inv : Array Bool → Act → World → Prop)
    (hstep : ∀ listed a w i, Inv listed a w → i ∈ Region.ready md ops listed → wpOpIn F n P ops Q i (Inv (listed.setIfInBounds i true)) a w)
    (hend : ∀ listed a w, Inv listed a w → Region.ready md ops listed = [] → Q .normal a w) :
    ∀ (fuel : Nat) (listed : Array Bool) (a : Act) (w : World), ((List.range ops.size).filter fun i => !listed.getD i true).length ≤ fuel → Inv listed a w → wpAnyIn F n P md ops Q fuel listed a w
  | 0, listed, a, w, hf, h => by
    have hr : Region.ready md ops listed = [] := by
      apply List.eq_nil_iff_forall_not_mem.2
      intro i hi
      unfold Region.ready at hi
      have h1 := List.mem_filter.1 hi
      have h2 : i ∈ (List.range ops.size).filter fun i => !listed.getD i true := List.mem_filter.2 ⟨h1.1, (Bool.and_eq_true _ _ ▸ h1.2).1⟩
      have h3 := List.length_pos_of_mem h2
      omega
    exact ⟨hr, hend listed a w h hr⟩
  | fuel + 1, listed, a, w, hf, h => by
    refine ⟨hend listed a w h, fun i hi => wpOpIn_mono (fun a' w' h' => wpAnyIn_inv Inv hstep hend fuel _ a' w' ?_ h') (hstep listed a w i h hi)⟩
    unfold Region.ready at hi
    have h1 := List.mem_filter.1 hi
    have h2 : (!listed.getD i true) = true := (Bool.and_eq_true _ _ ▸ h1.2).1
    have hlt : i < listed.size := by
      rcases Nat.lt_or_ge i listed.size with h' | h'
      · exact h'
      · simp [Array.getElem?_eq_none h'] at h2
    have := count_lt (l := List.range ops.size) (p := fun i => !listed.getD i true) (q := fun j => !(listed.setIfInBounds i true).getD j true) (fun j hj => by
      by_cases e : i = j
      · subst e; simp [hlt] at hj
      · simp only [Array.getD_eq_getD_getElem?, Array.getElem?_setIfInBounds_ne e] at hj ⊢; exact hj) h1.1 h2 (by simp [hlt])
    omega

/-- The beginning. -/
theorem wpIn_region_inv {F : Fence} {n : Nat} {P : Program} {ops : Array Oper} {Q : Exit → Act → World → Prop} {id : Nat} {a : Act} {w : World} (hm : P.follows .mixedOrders = true) (Inv : Array Bool → Act → World → Prop)
    (h0 : Inv (Array.replicate ops.size false) a w.drew)
    (hstep : ∀ listed a w i, Inv listed a w → i ∈ Region.ready .any ops listed → wpOpIn F n P ops Q i (Inv (listed.setIfInBounds i true)) a w)
    (hend : ∀ listed a w, Inv listed a w → Region.ready .any ops listed = [] → Q .normal a w) : (Code.region id ops true).wpIn F n P Q a w := by
  refine wpIn_region_any hm (wpAnyIn_inv Inv hstep hend _ _ _ _ ?_ h0)
  exact Nat.le_trans (List.length_filter_le _ _) (by simp)

/-- The rule, where what a slot held ahead is wanted. -/
theorem wpIn_region_put2 {F : Fence} {n : Nat} {P : Program} {l : List Oper} {Q : Exit → Act → World → Prop} {id : Nat} {a : Act} {w : World} (hm : P.follows .mixedOrders = true) (hs : slotsOk a.tmps.size l = true) (hd : depsOk 0 l = true) (Inv : (Nat → Bool) → (Nat → Value) → World → Prop)
    (h0 : ∀ vs, (∀ i o d, l[i]? = some o → o.dst = some d → vs i = a.tmps.getD d undef) → Inv (fun _ => false) vs w.drew)
    (hstep : ∀ b vs w i o, l[i]? = some o → b i = false → (∀ e ∈ o.after, Region.binds .any e = true → b e.on = true) → Inv b vs w →
      wpOpIn F n P l.toArray Q i (fun a' w' => ∃ v, a' = (putAll l 0 vs a).put o.dst v ∧ Inv (upd b i true) (upd vs i v) w') (putAll l 0 vs a) w)
    (hend : ∀ b vs w, (∀ i, i < l.length → b i = true) → Inv b vs w → Q .normal (putAll l 0 vs a) w) : (Code.region id l.toArray true).wpIn F n P Q a w := by
  refine wpIn_region_inv hm (fun listed a' w' => listed.size = l.length ∧ ∃ vs b, a' = putAll l 0 vs a ∧ (∀ i, i < l.length → b i = listed.getD i false) ∧ (∀ i, l.length ≤ i → b i = false) ∧ Inv b vs w') ?_ ?_ ?_
  · refine ⟨by simp, _, fun _ => false, (putAll_base _ l 0 a rfl hs).symm, fun i hi => by simp [hi], fun _ _ => rfl, h0 _ fun i o d ho hd => by simp [ho, hd]⟩
  · rintro listed a' w' i ⟨hsz, vs, b, rfl, hb, hb', hi⟩ hr
    obtain ⟨hun, o, ho, hall⟩ := mem_ready.1 hr
    have ho' : l[i]? = some o := by simpa using ho
    have hlt : i < l.length := (List.getElem?_eq_some_iff.1 ho').1
    have hun' : listed.getD i false = false := by
      have : i < listed.size := by omega
      simp [this] at hun ⊢; exact hun
    refine wpOpIn_mono ?_ (hstep b vs w' i o ho' (by rw [hb i hlt]; exact hun') (fun e he hbd => ?_) hi)
    · rintro a'' w'' ⟨v, rfl, hi'⟩
      refine ⟨by simp [hsz], upd vs i v, upd b i true, ?_, ?_, ?_, hi'⟩
      · have := putAll_upd _ l 0 i o vs a v hs ho'
        rw [Nat.zero_add] at this
        exact this.symm
      · intro j hj
        by_cases e : j = i
        · subst e; rw [upd_same]; simp [hsz, hj]
        · rw [upd_other _ _ _ _ e, hb j hj]; simp only [Array.getD_eq_getD_getElem?, Array.getElem?_setIfInBounds_ne (Ne.symm e)]
      · intro j hj
        rw [upd_other _ _ _ _ (by omega)]; exact hb' j hj
    · have h := hall e he hbd
      have hel : e.on < l.length := by
        rcases Nat.lt_or_ge e.on listed.size with h' | h'
        · omega
        · simp [Array.getElem?_eq_none h'] at h
      rw [hb _ hel]; exact h
  · rintro listed a' w' ⟨hsz, vs, b, rfl, hb, hb', hi⟩ hr
    refine hend b vs w' ?_ hi
    intro i
    induction i using Nat.strongRecOn with
    | ind i ih =>
      intro hlt
      cases hbi : b i with
      | true => rfl
      | false =>
        obtain ⟨o, ho⟩ : ∃ o, l[i]? = some o := ⟨_, List.getElem?_eq_getElem hlt⟩
        have hin : i ∈ Region.ready .any l.toArray listed := by
          refine mem_ready.2 ⟨?_, o, by simpa using ho, fun e he hbd => ?_⟩
          · have : i < listed.size := by omega
            have h2 : listed.getD i false = false := by rw [← hb i hlt]; exact hbi
            simp [this] at h2 ⊢; exact h2
          · have h1 := depsOk_at l 0 i o hd ho e he hbd
            rw [← hb e.on (by omega)]
            exact ih e.on (by omega) (by omega)
        rw [hr] at hin
        cases hin
theorem Keep.putObj (S : Nat → Prop) (w : World) (l : Nat) (o : Obj) (h : ¬ S l) : Keep S w (w.putObj l o) := ⟨rfl, rfl, rfl, by simp, fun k hk _ => World.putObj_heap_other (fun e => h (e ▸ hk))⟩
theorem Keep.cell {S : Nat → Prop} {w w' : World} (h : Keep S w w') {g o : Nat} (hs : S g) (hl : g < w.heap.size) : w'.cell? ⟨g, o, none⟩ = w.cell? ⟨g, o, none⟩ := by
  unfold World.cell?; simp only; rw [h.block g hs hl]
theorem Blk.putOther {w : World} {g : Nat} {t : TypeId} {cs : Array Value} (h : Blk w g t cs) {l : Nat} (o : Obj) (hne : g ≠ l) : Blk (w.putObj l o) g t cs := by
  unfold Blk; rw [World.putObj_heap_other hne]; exact h
theorem postM_ret {fn : Func} {R : Ending → World → Prop} {tmps : Array Value} {D : Nat} {W : World} (v : Value) (hD : W.heap[D]? = some (.deferred (some [])))
    (hres : (results fn tmps).run Try.prog (W.putObj D (.deferred none)) = .ok v (W.putObj D (.deferred none))) (h : R (.returned v) (W.putObj D (.deferred none))) :
    bodyPostM Fence.wide 9 Try.prog fn R .ret { tmps := tmps, defers := [{ target := .collected D, args := #[] }] } W :=
  ⟨by simp, .inl ⟨_, _, rfl, run_takeDeferred hD, ⟨_, hres, h⟩⟩⟩
/-- What a round must leave as it lies. -/
def RoundL (KS : Nat → Prop) (N : Nat) : Nat → Prop := fun j => KS j ∨ j = N ∨ j = N + 1
def pairPost (KS : Nat → Prop) (N k : Nat) (I : Nat → World → Prop) (Ix : World → Prop) (W : World) : Exit → Act → World → Prop
  | .normal, _, W' => Keep (RoundL KS N) W W' ∧ I k W'
  | .ret, _, W' => Keep (RoundL KS N) W W' ∧ Ix W'
  | _, _, _ => False
def pairArgs (x : Int × Col) : Array Value := #[.int .i64 x.1, .agg #[.int .u8 (x.2 0), .int .u8 (x.2 1), .int .u8 (x.2 2), .int .u8 (x.2 3)]]
/-- What the function that yields must do: from each place i that is 'ok' it yields 'it i', and goes on at 'nx i'. -/
def YieldsAll (fnum : FuncId) (pv : Value) (KS : Nat → Prop) (ok : Nat → Prop) (it : Nat → Int × Col) (nx : Nat → Nat) (W : World) : Prop :=
  ∀ (L : Nat) (J : Nat → World → Prop) (Jx : World → Prop),
    (∀ k A B, J k A → Keep (fun _ => True) A B → J k B) →
    (∀ i A, ok i → J i A → W.heap.size ≤ A.heap.size → YieldAt Fence.wide 7 Try.prog L (pairArgs (it i)) A fun e B =>
      (e = .returned (.bool true) ∧ J (nx i) B ∧ Keep KS A B) ∨ (e = .returned (.bool false) ∧ Jx B ∧ Keep KS A B)) →
    J 0 W → CallsIn Fence.wide 8 Try.prog fnum #[.func (.yield L) #[] #[], pv] W fun e B => (∃ v, e = .returned v) ∧ ((∃ i, ¬ ok i ∧ J i B) ∨ Jx B)
/-- A loop over pairs. -/
theorem wp_pairs {fnum : FuncId} {pv : Value} {ok : Nat → Prop} {it : Nat → Int × Col} {nx : Nat → Nat} {g : Operand} {ps : Array Tmp} {assign body : Code} {Q : Exit → Act → World → Prop} {a : Act} {w : World} (KS : Nat → Prop)
    (hg : a.eval g = .func (.func fnum) #[] #[pv]) (hps : ps.size = 2) (hKS : ∀ j, KS j → j < w.heap.size) (hcf : ∀ (args : Array Value) (W : World), (callFunc fnum args).run Try.prog W = .ok (.enter fnum args) W)
    (hit : ∀ W, Keep (fun _ => True) w W → YieldsAll fnum pv KS ok it nx W)
    (I : Nat → World → Prop) (hI : ∀ k A B, I k A → Keep (fun j => ¬ (w.heap.size ≤ j ∧ j < w.heap.size + 2)) A B → I k B)
    (Ix : World → Prop) (hIx : ∀ A B, Ix A → Keep (fun j => ¬ (w.heap.size ≤ j ∧ j < w.heap.size + 2)) A B → Ix B)
    (h0 : I 0 w) (act : Int × Col → Nat → Array Value) (mk : Int × Col → World → World) (hmk : ∀ x A, Keep (fun _ => True) A (mk x A))
    (hassign : ∀ L x A (K : Act → World → Prop), K { tmps := act x A.heap.size, defers := [] } (mk x A) → assign.wpIn (Fence.wide.inRound L) 7 Try.prog (Exit.then K (fun _ _ _ => False)) { tmps := (ps.zip (pairArgs x)).foldl (fun t (p, v) => t.setIfInBounds p v) a.tmps, defers := [] } A)
    (hbody : ∀ L i A o B, ok i → I i A → w.heap.size + 2 ≤ A.heap.size → B = (mk (it i) A).putObj (w.heap.size + 1) o → body.wpIn (Fence.wide.inRound L) 7 Try.prog (pairPost KS w.heap.size (nx i) I Ix B) { tmps := act (it i) A.heap.size, defers := [] } B)
    (hdone : ∀ i W, ¬ ok i → I i W → W.heap[w.heap.size]? = some (.deferred (some [])) → Q .normal { a with defers := { target := .collected w.heap.size, args := #[] } :: a.defers } W)
    (hstop : ∀ W, Ix W → W.heap[w.heap.size]? = some (.deferred (some [])) → Q .ret { a with defers := { target := .collected w.heap.size, args := #[] } :: a.defers } W) :
    (Code.rangeFunc g ps assign body).wp Try.prog Q a w := by
  refine (wpIn_wide (n := 9)).1 (wpIn_rangeFunc fun fn _ => ?_)
  obtain ⟨rc, hrc⟩ : ∃ rc : LoopState → Option Code → Loop, rc = fun st pe => { state := st, pending := pe, fn, tmps := a.tmps, params := ps, assign, body, defers := w.heap.size } := ⟨_, rfl⟩
  obtain ⟨W1, hW1⟩ : ∃ W1, (w.alloc (.deferred (some []))).alloc (.loop (rc .ready none)) = W1 := ⟨_, rfl⟩
  have hz1 : W1.heap.size = w.heap.size + 2 := by rw [← hW1]; simp
  have k1 : Keep (fun _ => True) w W1 := by rw [← hW1]; exact (Keep.alloc _ _ _).trans (Keep.alloc _ _ _)
  have hl1 : W1.heap[w.heap.size + 1]? = some (.loop (rc .ready none)) := by
    rw [← hW1]; have := World.alloc_heap_new (w.alloc (.deferred (some []))) (.loop (rc .ready none)); rwa [World.size_alloc] at this
  have hd1 : W1.heap[w.heap.size]? = some (.deferred (some [])) := by
    rw [← hW1]; exact (Below.heap_alloc _ _ _ (by simp)).trans (World.alloc_heap_new w _)
  refine ⟨w.heap.size + 1, [{ target := .collected w.heap.size, args := #[] }], W1, { target := .fn (.func fnum) #[pv], args := #[.func (.yield (w.heap.size + 1)) #[] #[]] }, W1, fnum,
    #[.func (.yield (w.heap.size + 1)) #[] #[], pv], W1, ?_, ?_, fun _ _ => trivial, ?_, fun h => (by cases h), ?_⟩
  · rw [← hW1, hrc]; exact run_enterLoop_outer _ _ _ _ _
  · simp only [resolve, hg]
    simp [go_sem]
  · simp [invoke, go_sem, hcf]
  · refine (hit W1 k1 (w.heap.size + 1)
      (fun k A => I k A ∧ A.heap[w.heap.size + 1]? = some (.loop (rc .ready none)) ∧ A.heap[w.heap.size]? = some (.deferred (some [])))
      (fun A => Ix A ∧ A.heap[w.heap.size + 1]? = some (.loop (rc .done (some .ret))) ∧ A.heap[w.heap.size]? = some (.deferred (some [])))
      ?_ ?_ ⟨hI _ _ _ h0 (k1.mono fun _ _ => trivial), hl1, hd1⟩).mono ?_
    · rintro k A B ⟨hi, hl, hd⟩ hkp
      exact ⟨hI _ _ _ hi (hkp.mono fun j hj => trivial), (hkp.block _ trivial (Array.getElem?_eq_some_iff.1 hl).1).trans hl, (hkp.block _ trivial (Array.getElem?_eq_some_iff.1 hd).1).trans hd⟩
    · rintro i A hk ⟨hi, hl, hd⟩ hlt
      rw [hz1] at hlt
      have hy := run_yield (P := Try.prog) (args := pairArgs (it i)) hl (by rw [hrc]; simp [hps, pairArgs])
      rw [hrc] at hy
      refine ⟨fn, _, assign, body, hy, roundIn_of_wpIn trivial (hassign _ (it i) _ _ ?_)⟩
      clear hy
      have kM := hmk (it i) A
      have hlm := (kM.block _ trivial (Array.getElem?_eq_some_iff.1 hl).1).trans hl
      have hdm := (kM.block _ trivial (Array.getElem?_eq_some_iff.1 hd).1).trans hd
      have hlz := (Array.getElem?_eq_some_iff.1 hlm).1
      refine ⟨_, run_beginRound hlm (by rw [hrc]), ?_⟩
      have hl2' := World.putObj_heap_same (o := .loop { rc .ready none with state := .busy }) hlz
      have hd2 : ((mk (it i) A).putObj (w.heap.size + 1) (.loop { rc .ready none with state := .busy })).heap[w.heap.size]? = some (.deferred (some [])) := (World.putObj_heap_other (by omega)).trans hdm
      have out : ∀ (B : World) (o : Obj), Keep (RoundL KS w.heap.size) ((mk (it i) A).putObj (w.heap.size + 1) (.loop { rc .ready none with state := .busy })) B → Keep KS A (B.putObj (w.heap.size + 1) o) := fun B o h => by
        refine (((kM.mono fun _ _ => trivial).trans (Keep.putObj _ _ _ _ (fun e => absurd (hKS _ e) (by omega)))).trans (h.mono fun j hj => .inl hj)).trans (Keep.putObj _ _ _ _ (fun e => absurd (hKS _ e) (by omega)))
      refine wpIn_mono (hbody (w.heap.size + 1) i A _ _ hk hi hlt rfl) ?_
      rintro e a3 B hp
      cases e with
      | normal =>
        obtain ⟨hk3, hi3⟩ := hp
        have hl3 := (hk3.block (w.heap.size + 1) (.inr (.inr rfl)) (Array.getElem?_eq_some_iff.1 hl2').1).trans hl2'
        have hd3 := (hk3.block w.heap.size (.inr (.inl rfl)) (Array.getElem?_eq_some_iff.1 hd2).1).trans hd2
        have hr := run_endRound (P := Try.prog) none hl3
        refine ⟨_, _, hr, .inl ⟨rfl, ⟨hI _ _ _ hi3 (Keep.putObj _ _ _ _ (by omega)), ?_, (World.putObj_heap_other (by omega)).trans hd3⟩, out _ _ hk3⟩⟩
        rw [World.putObj_heap_same (Array.getElem?_eq_some_iff.1 hl3).1, hrc]
        rfl
      | ret =>
        obtain ⟨hk3, hi3⟩ := hp
        have hl3 := (hk3.block (w.heap.size + 1) (.inr (.inr rfl)) (Array.getElem?_eq_some_iff.1 hl2').1).trans hl2'
        have hd3 := (hk3.block w.heap.size (.inr (.inl rfl)) (Array.getElem?_eq_some_iff.1 hd2).1).trans hd2
        have hr := run_endRound (P := Try.prog) (some .ret) hl3
        refine ⟨_, _, hr, .inr ⟨rfl, ⟨hIx _ _ hi3 (Keep.putObj _ _ _ _ (by omega)), ?_, (World.putObj_heap_other (by omega)).trans hd3⟩, out _ _ hk3⟩⟩
        rw [World.putObj_heap_same (Array.getElem?_eq_some_iff.1 hl3).1, hrc]
        rfl
      | exit id => exact hp.elim
      | goto t => exact hp.elim
      | panic ch => exact hp.elim
      | outgrown => exact hp.elim
    · rintro e W2 ⟨⟨v, rfl⟩, (⟨i, hni, hi, hl, hd⟩ | ⟨hi, hl, hd⟩)⟩
      · exact ⟨none, _, by have := run_endLoop (P := Try.prog) hl (by rw [hrc]; simp); rw [hrc] at this; exact this, hdone i _ hni (hI _ _ _ hi (Keep.putObj _ _ _ _ (by omega))) ((World.putObj_heap_other (by omega)).trans hd)⟩
      · exact ⟨some .ret, _, by have := run_endLoop (P := Try.prog) hl (by rw [hrc]; simp); rw [hrc] at this; exact this, wpIn_ret (hstop _ (hIx _ _ hi (Keep.putObj _ _ _ _ (by omega))) ((World.putObj_heap_other (by omega)).trans hd))⟩
end Go.Proofs.Ytoppmlfibllhlaa
