/- Layer 12: package disk: the writes that wait, from the last one on. -/
import Derived.Test.YtdcjchakgfpgaaaCh
import Derived.RangeFuncNested
import Derived.RangeFuncBound
import Derived.RangeFuncCalls
import Derived.RangeFuncLeaves
import Derived.Shelf.Abstract
import Derived.Shelf.RegionOpen
import Derived.OwnWalkIn
import Derived.TacticsInMore
import Derived.LoopNIn
import Derived.LoopIn
namespace Go.Proofs.Ytdcjchakgfpgaaa
open Go.RowKit
open Go.Shelf
attribute [local go_sem] Oper.semAt_some
theorem Keep.putObj (S : Nat → Prop) (w : World) (l : Nat) (o : Obj) (h : ¬ S l) : Keep S w (w.putObj l o) := ⟨rfl, rfl, rfl, by simp, fun k hk _ => World.putObj_heap_other (fun e => h (e ▸ hk))⟩
theorem Keep.cell {S : Nat → Prop} {w w' : World} (h : Keep S w w') {g o : Nat} (hs : S g) (hl : g < w.heap.size) : w'.cell? ⟨g, o, none⟩ = w.cell? ⟨g, o, none⟩ := by
  unfold World.cell?; simp only; rw [h.block g hs hl]
theorem Blk.putOther {w : World} {g : Nat} {t : TypeId} {cs : Array Value} (h : Blk w g t cs) {l : Nat} (o : Obj) (hne : g ≠ l) : Blk (w.putObj l o) g t cs := by
  unfold Blk; rw [World.putObj_heap_other hne]; exact h
theorem postM_ret {fn : Func} {R : Ending → World → Prop} {tmps : Array Value} {D : Nat} {W : World} (v : Value) (hD : W.heap[D]? = some (.deferred (some [])))
    (hres : (results fn tmps).run Try.prog (W.putObj D (.deferred none)) = .ok v (W.putObj D (.deferred none))) (h : R (.returned v) (W.putObj D (.deferred none))) :
    bodyPostM Fence.wide 9 Try.prog fn R .ret { tmps := tmps, defers := [{ target := .collected D, args := #[] }] } W :=
  ⟨by simp, .inl ⟨_, _, rfl, run_takeDeferred hD, ⟨_, hres, h⟩⟩⟩
/-- What a round must leave as it lies. -/
def RoundL (KS : Nat → Prop) (N : Nat) : Nat → Prop := fun j => KS j ∨ j = N ∨ j = N + 1
def wrPost (KS : Nat → Prop) (N k : Nat) (I : Nat → World → Prop) (Ix : World → Prop) (W : World) : Exit → Act → World → Prop
  | .normal, _, W' => Keep (RoundL KS N) W W' ∧ I k W'
  | .ret, _, W' => Keep (RoundL KS N) W W' ∧ Ix W'
  | _, _, _ => False
abbrev WrI := Int × Option Addr × Nat × Nat
def wrArgs (x : WrI) : Array Value := #[.agg #[.int .i64 x.1, .slice x.2.1 x.2.2.1 x.2.2.2]]
/-- What the function that yields must do: from each place i that is 'ok' it yields 'it i', and goes on at 'nx i'. -/
def YieldsW (fnum : FuncId) (pv : Value) (KS : Nat → Prop) (ok : Nat → Prop) (it : Nat → WrI) (nx : Nat → Nat) (W : World) : Prop :=
  ∀ (L : Nat) (J : Nat → World → Prop) (Jx : World → Prop),
    (∀ k A B, J k A → Keep (fun _ => True) A B → J k B) →
    (∀ i A, ok i → J i A → W.heap.size ≤ A.heap.size → YieldAt Fence.wide 7 Try.prog L (wrArgs (it i)) A fun e B =>
      (e = .returned (.bool true) ∧ J (nx i) B ∧ Keep KS A B) ∨ (e = .returned (.bool false) ∧ Jx B ∧ Keep KS A B)) →
    J 0 W → CallsIn Fence.wide 8 Try.prog fnum #[.func (.yield L) #[] #[], pv] W fun e B => (∃ v, e = .returned v) ∧ ((∃ i, ¬ ok i ∧ J i B) ∨ Jx B)
/-- A loop over writes. -/
theorem wp_writes {fnum : FuncId} {pv : Value} {ok : Nat → Prop} {it : Nat → WrI} {nx : Nat → Nat} {g : Operand} {ps : Array Tmp} {assign body : Code} {Q : Exit → Act → World → Prop} {a : Act} {w : World} (KS : Nat → Prop)
    (hg : a.eval g = .func (.func fnum) #[] #[pv]) (hps : ps.size = 1) (hKS : ∀ j, KS j → j < w.heap.size) (hcf : ∀ (args : Array Value) (W : World), (callFunc fnum args).run Try.prog W = .ok (.enter fnum args) W)
    (hit : ∀ W, Keep (fun _ => True) w W → YieldsW fnum pv KS ok it nx W)
    (I : Nat → World → Prop) (hI : ∀ k A B, I k A → Keep (fun j => ¬ (w.heap.size ≤ j ∧ j < w.heap.size + 2)) A B → I k B)
    (Ix : World → Prop) (hIx : ∀ A B, Ix A → Keep (fun j => ¬ (w.heap.size ≤ j ∧ j < w.heap.size + 2)) A B → Ix B)
    (h0 : I 0 w) (act : WrI → Nat → Array Value) (mk : WrI → World → World) (hmk : ∀ x A, Keep (fun _ => True) A (mk x A))
    (hassign : ∀ L x A (K : Act → World → Prop), K { tmps := act x A.heap.size, defers := [] } (mk x A) → assign.wpIn (Fence.wide.inRound L) 7 Try.prog (Exit.then K (fun _ _ _ => False)) { tmps := (ps.zip (wrArgs x)).foldl (fun t (p, v) => t.setIfInBounds p v) a.tmps, defers := [] } A)
    (hbody : ∀ L i A o B, ok i → I i A → w.heap.size + 2 ≤ A.heap.size → B = (mk (it i) A).putObj (w.heap.size + 1) o → body.wpIn (Fence.wide.inRound L) 7 Try.prog (wrPost KS w.heap.size (nx i) I Ix B) { tmps := act (it i) A.heap.size, defers := [] } B)
    (hdone : ∀ i W, ¬ ok i → I i W → W.heap[w.heap.size]? = some (.deferred (some [])) → Q .normal { a with defers := { target := .collected w.heap.size, args := #[] } :: a.defers } W)
    (hstop : ∀ W, Ix W → W.heap[w.heap.size]? = some (.deferred (some [])) → Q .ret { a with defers := { target := .collected w.heap.size, args := #[] } :: a.defers } W) :
    (Code.rangeFunc g ps assign body).wp Try.prog Q a w := by
  refine (wpIn_wide (n := 9)).1 (wpIn_rangeFunc fun fn _ => ?_)
  obtain ⟨rc, hrc⟩ : ∃ rc : LoopState → Option Code → Loop, rc = fun st pe => { state := st, pending := pe, fn, tmps := a.tmps, params := ps, assign, body, defers := w.heap.size } := ⟨_, rfl⟩
  obtain ⟨W1, hW1⟩ : ∃ W1, (w.alloc (.deferred (some []))).alloc (.loop (rc .ready none)) = W1 := ⟨_, rfl⟩
  have hz1 : W1.heap.size = w.heap.size + 2 := by rw [← hW1]; simp
  have k1 : Keep (fun _ => True) w W1 := by rw [← hW1]; exact (Keep.alloc _ _ _).trans (Keep.alloc _ _ _)
  have hl1 : W1.heap[w.heap.size + 1]? = some (.loop (rc .ready none)) := by
    rw [← hW1]; have := World.alloc_heap_new (w.alloc (.deferred (some []))) (.loop (rc .ready none)); rwa [World.size_alloc] at this
  have hd1 : W1.heap[w.heap.size]? = some (.deferred (some [])) := by
    rw [← hW1]; exact (Below.heap_alloc _ _ _ (by simp)).trans (World.alloc_heap_new w _)
  refine ⟨w.heap.size + 1, [{ target := .collected w.heap.size, args := #[] }], W1, { target := .fn (.func fnum) #[pv], args := #[.func (.yield (w.heap.size + 1)) #[] #[]] }, W1, fnum,
    #[.func (.yield (w.heap.size + 1)) #[] #[], pv], W1, ?_, ?_, fun _ _ => trivial, ?_, fun h => (by cases h), ?_⟩
  · rw [← hW1, hrc]; exact run_enterLoop_outer _ _ _ _ _
  · simp only [resolve, hg]
    simp [go_sem]
  · simp [invoke, go_sem, hcf]
  · refine (hit W1 k1 (w.heap.size + 1)
      (fun k A => I k A ∧ A.heap[w.heap.size + 1]? = some (.loop (rc .ready none)) ∧ A.heap[w.heap.size]? = some (.deferred (some [])))
      (fun A => Ix A ∧ A.heap[w.heap.size + 1]? = some (.loop (rc .done (some .ret))) ∧ A.heap[w.heap.size]? = some (.deferred (some [])))
      ?_ ?_ ⟨hI _ _ _ h0 (k1.mono fun _ _ => trivial), hl1, hd1⟩).mono ?_
    · rintro k A B ⟨hi, hl, hd⟩ hkp
      exact ⟨hI _ _ _ hi (hkp.mono fun j hj => trivial), (hkp.block _ trivial (Array.getElem?_eq_some_iff.1 hl).1).trans hl, (hkp.block _ trivial (Array.getElem?_eq_some_iff.1 hd).1).trans hd⟩
    · rintro i A hk ⟨hi, hl, hd⟩ hlt
      rw [hz1] at hlt
      have hy := run_yield (P := Try.prog) (args := wrArgs (it i)) hl (by rw [hrc]; simp [hps, wrArgs])
      rw [hrc] at hy
      refine ⟨fn, _, assign, body, hy, roundIn_of_wpIn trivial (hassign _ (it i) _ _ ?_)⟩
      clear hy
      have kM := hmk (it i) A
      have hlm := (kM.block _ trivial (Array.getElem?_eq_some_iff.1 hl).1).trans hl
      have hdm := (kM.block _ trivial (Array.getElem?_eq_some_iff.1 hd).1).trans hd
      have hlz := (Array.getElem?_eq_some_iff.1 hlm).1
      refine ⟨_, run_beginRound hlm (by rw [hrc]), ?_⟩
      have hl2' := World.putObj_heap_same (o := .loop { rc .ready none with state := .busy }) hlz
      have hd2 : ((mk (it i) A).putObj (w.heap.size + 1) (.loop { rc .ready none with state := .busy })).heap[w.heap.size]? = some (.deferred (some [])) := (World.putObj_heap_other (by omega)).trans hdm
      have out : ∀ (B : World) (o : Obj), Keep (RoundL KS w.heap.size) ((mk (it i) A).putObj (w.heap.size + 1) (.loop { rc .ready none with state := .busy })) B → Keep KS A (B.putObj (w.heap.size + 1) o) := fun B o h => by
        refine (((kM.mono fun _ _ => trivial).trans (Keep.putObj _ _ _ _ (fun e => absurd (hKS _ e) (by omega)))).trans (h.mono fun j hj => .inl hj)).trans (Keep.putObj _ _ _ _ (fun e => absurd (hKS _ e) (by omega)))
      refine wpIn_mono (hbody (w.heap.size + 1) i A _ _ hk hi hlt rfl) ?_
      rintro e a3 B hp
      cases e with
      | normal =>
        obtain ⟨hk3, hi3⟩ := hp
        have hl3 := (hk3.block (w.heap.size + 1) (.inr (.inr rfl)) (Array.getElem?_eq_some_iff.1 hl2').1).trans hl2'
        have hd3 := (hk3.block w.heap.size (.inr (.inl rfl)) (Array.getElem?_eq_some_iff.1 hd2).1).trans hd2
        have hr := run_endRound (P := Try.prog) none hl3
        refine ⟨_, _, hr, .inl ⟨rfl, ⟨hI _ _ _ hi3 (Keep.putObj _ _ _ _ (by omega)), ?_, (World.putObj_heap_other (by omega)).trans hd3⟩, out _ _ hk3⟩⟩
        rw [World.putObj_heap_same (Array.getElem?_eq_some_iff.1 hl3).1, hrc]
        rfl
      | ret =>
        obtain ⟨hk3, hi3⟩ := hp
        have hl3 := (hk3.block (w.heap.size + 1) (.inr (.inr rfl)) (Array.getElem?_eq_some_iff.1 hl2').1).trans hl2'
        have hd3 := (hk3.block w.heap.size (.inr (.inl rfl)) (Array.getElem?_eq_some_iff.1 hd2).1).trans hd2
        have hr := run_endRound (P := Try.prog) (some .ret) hl3
        refine ⟨_, _, hr, .inr ⟨rfl, ⟨hIx _ _ hi3 (Keep.putObj _ _ _ _ (by omega)), ?_, (World.putObj_heap_other (by omega)).trans hd3⟩, out _ _ hk3⟩⟩
        rw [World.putObj_heap_same (Array.getElem?_eq_some_iff.1 hl3).1, hrc]
        rfl
      | exit id => exact hp.elim
      | goto t => exact hp.elim
      | panic ch => exact hp.elim
      | outgrown => exact hp.elim
    · rintro e W2 ⟨⟨v, rfl⟩, (⟨i, hni, hi, hl, hd⟩ | ⟨hi, hl, hd⟩)⟩
      · exact ⟨none, _, by have := run_endLoop (P := Try.prog) hl (by rw [hrc]; simp); rw [hrc] at this; exact this, hdone i _ hni (hI _ _ _ hi (Keep.putObj _ _ _ _ (by omega))) ((World.putObj_heap_other (by omega)).trans hd)⟩
      · exact ⟨some .ret, _, by have := run_endLoop (P := Try.prog) hl (by rw [hrc]; simp); rw [hrc] at this; exact this, wpIn_ret (hstop _ (hIx _ _ hi (Keep.putObj _ _ _ _ (by omega))) ((World.putObj_heap_other (by omega)).trans hd))⟩
theorem results_read {fn : Func} {tmps : Array Value} {W : World} {gb ge : Nat} {v : Value} {n : Int} (hres : fn.results = #[.cell 4 24, .cell 5 41]) (hb : tmps[4]? = some (.pointer (some ⟨gb, 0, none⟩))) (he : tmps[5]? = some (.pointer (some ⟨ge, 0, none⟩))) (cb : W.cell? ⟨gb, 0, none⟩ = some v) (ce : W.cell? ⟨ge, 0, none⟩ = some (.int .i64 n)) (hv : ∃ a l c, v = .slice a l c) :
    (results fn tmps).run Try.prog W = .ok (.tuple #[v, .int .i64 n]) W := by
  obtain ⟨a, l, c, rfl⟩ := hv
  simp [results, hres, hb, he, go_sem, cb, ce]
theorem last_c (g : Nat) (w : World) : Calls Try.prog 51 #[ptrD g] w fun e w' => e = .returned (.func (.func 52) #[] #[.pointer (some ⟨w.heap.size, 0, none⟩)]) ∧ w.alloc (.cells #[ptrD g] 38) = w' := by
  go_enter Try.func51, Try.ntmps51
  go_wp2
  go_ret
  exact ⟨rfl, rfl⟩
def slOf : Value → Option Addr × Nat × Nat
  | .slice a n c => (a, n, c)
  | _ => (none, 0, 0)
/-- The write that comes up as number p, from the last one on. -/
def itW (L : List Wr) (p : Nat) : WrI := match L[L.length - 1 - p]? with
  | some y => (y.1, slOf y.2.1)
  | none => (0, none, 0, 0)
theorem itW_at {L : List Wr} {p q : Nat} {y : Wr} {a : Option Addr} {n c : Nat} (hq : L.length - 1 - p = q) (hy : L[q]? = some y) (hv : y.2.1 = .slice a n c) : itW L p = (y.1, a, n, c) := by
  unfold itW
  rw [hq, hy]
  show (y.1, slOf y.2.1) = _
  rw [hv]; rfl
set_option maxHeartbeats 4000000 in
set_option maxRecDepth 100000 in
theorem last1_c (T : Nat → Prop) (bx g : Nat) (KS : Nat → Prop) (x : Kd) (W : World) (hx : KAt T W g x) (hbl : bx < W.heap.size) (hbs : KS bx) (hT : ∀ k, T k → KS k) (hbx : W.cell? ⟨bx, 0, none⟩ = some (ptrD g)) (hl2 : x.L.length ≤ 1001) :
    YieldsW 52 (.pointer (some ⟨bx, 0, none⟩)) KS (fun p => p < x.L.length) (itW x.L) (fun p => p + 1) W := by
  intro L J Jx hJ hY h0
  obtain ⟨n, hn⟩ : ∃ n, x.L.length = n := ⟨_, rfl⟩
  have HN := Lib.hid hn
  obtain ⟨wo, wc, hwv⟩ := hx.wait.row.shape
  have HW : Hid (x.wv = .slice wo n wc) := by rw [hwv, hn]; exact rfl
  have HS : Hid (∀ A, Keep KS W A → KAt T A g x ∧ A.cell? ⟨bx, 0, none⟩ = some (ptrD g)) := fun A hA => ⟨hx.keep (hA.mono hT), (hA.cell hbs hbl).trans hbx⟩
  have HJ := Lib.hid hJ
  have HY := Lib.hid hY
  have H0 := Lib.hid h0
  have HL2 : Hid (n ≤ 1001) := Lib.hid (by omega)
  rw [hn]
  obtain ⟨d0, d1, d2, d3, d4, d5, d6⟩ := hx.blk.k7
  rw [HW.out] at d2
  have eN : wrap64 ((n : Int) - 1) = (n : Int) - 1 := by have := HL2.out; exact wrapR _ (by omega) (by omega)
  clear hx h0 hY hJ hbl hbs hT hl2 hwv hn
  refine callsIn_of_wp Try.func52 rfl trivial ?_ rfl
  simp only [Try.ntmps52, List.size_toArray, List.length_cons, List.length_nil, Nat.reduceAdd, Nat.reduceSub, Array.replicate_succ, Array.replicate_zero, List.push_toArray, List.append_toArray, List.nil_append, List.cons_append]
  gi_wp2
  clear hbx d0 d1 d2 d3 d4 d5 d6 eN
  gi_loopw [3] (fun i wr => ∃ p : Nat, p ≤ n ∧ i = .int .i64 ((n : Int) - 1 - p) ∧ Hid (J p wr ∧ Keep KS W wr)) (fun i _ => (intOf i + 1).toNat)
  case atStart =>
    exact ⟨0, by omega, by simp, H0.out, Keep.refl _ _⟩
  case round =>
    obtain ⟨p, hp, rfl, hw⟩ := hrel
    by_cases hlt : p < n
    · obtain ⟨q, hq⟩ : ∃ q, n - 1 - p = q := ⟨_, rfl⟩
      have e1 : ((n : Int) - 1 - (p : Int)) = (q : Int) := by omega
      rw [e1]
      have hd : decide ((q : Int) ≥ 0) = true := by simp
      obtain ⟨hk, hb1⟩ := HS.out wr hw.out.2
      obtain ⟨y, hy⟩ : ∃ y, x.L[q]? = some y := ⟨_, List.getElem?_eq_getElem (by rw [HN.out]; omega)⟩
      have hrow := hk.wait.row
      rw [HW.out] at hrow
      obtain ⟨wb, wof, rfl, hwb, hwc⟩ := RowW.addr hrow (by rw [HN.out]; omega)
      obtain ⟨c0, c1⟩ := hwc q y hy
      obtain ⟨bo, bc, hbv⟩ := ((hk.byts y (List.mem_of_getElem? hy)).1.row).shape
      have hit : itW x.L p = (y.1, bo, y.2.2.length, bc) := itW_at (by rw [HN.out]; exact hq) hy hbv
      rw [hbv] at c1
      obtain ⟨fn, tmps, assign, body, hyd, hR⟩ := HY.out p wr (by rw [HN.out]; exact hlt) hw.out.1 hw.out.2.size
      rw [hit] at hyd
      simp only [wrArgs] at hyd
      generalize y.2.2.length = bn at *
      generalize y.1 = yi at *
      have HR := Lib.hid hR
      obtain ⟨d0, d1, d2, d3, d4, d5, d6⟩ := hk.blk.k7
      rw [HW.out] at d2
      have hqn : (q : Int) < (n : Int) := by omega
      have hq0 : (0 : Int) ≤ (q : Int) := by omega
      have eQ : wrap64 ((q : Int) - 1) = (q : Int) - 1 := by have := HL2.out; exact wrapR _ (by omega) (by omega)
      have HPQ : Hid (n - 1 - p = q ∧ p < n) := ⟨hq, hlt⟩
      clear hR hk hrow hwb hwc hy hbv hit hlt hq e1 hp
      gi_wp2
      refine HR.out.mono ?_
      rintro e B (⟨rfl, hj, hkp⟩ | ⟨rfl, hjx, hkp⟩)
      · have F1 : Hid (J (p + 1) B ∧ Keep KS W B) := ⟨hj, hw.out.2.trans hkp⟩
        clear hj hkp hyd c0 c1 hb1 hd
        gi_wp2
        exact ⟨⟨p + 1, by have := HPQ.out; omega, by have := HPQ.out; congr 1; omega, F1.out⟩, by have := HPQ.out; simp [intOf]; omega⟩
      · have HX := Lib.hid hjx
        clear hjx hkp hyd c0 c1 hb1 hd
        gi_wp2
        refine bodyPost_ret (results_none rfl _ _ _) rfl ?_
        exact ⟨⟨_, rfl⟩, .inr HX.out⟩
    · have hpn : p = n := by omega
      subst hpn
      have hd : decide (((p : Int) - 1 - (p : Int)) ≥ 0) = false := by simp; omega
      gi_wp2
      go_end0
      exact ⟨⟨_, rfl⟩, .inl ⟨p, by omega, hw.out.1⟩⟩
end Go.Proofs.Ytdcjchakgfpgaaa
