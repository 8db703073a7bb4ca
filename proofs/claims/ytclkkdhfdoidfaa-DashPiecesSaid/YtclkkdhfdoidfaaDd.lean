/- Layer 9: a range over the lines of a way: what the iterator does, and one rule for such a loop. -/
import Derived.Test.YtclkkdhfdoidfaaDc
import Derived.Test.YtclkkdhfdoidfaaDb
import Derived.RangeFuncNested
import Derived.RangeFuncBound
import Derived.RangeFuncCalls
import Derived.RangeFuncLeaves
import Derived.Shelf.Abstract
import Derived.Shelf.RegionOpen
import Derived.OwnWalkIn
import Derived.TacticsInMore
import Derived.LoopNIn
import Derived.LoopIn
import Derived.OrdersIn
namespace Go.Proofs.Ytclkkdhfdoidfaa
open Go.RowKit Go.Shelf
attribute [local go_sem] Oper.semAt_some
theorem wpAnyIn_inv {F : Fence} {n : Nat} {P : Program} {md : Region.Mode} {ops : Array Oper} {Q : Exit → Act → World → Prop} (Inv : Array Bool → Act → World → Prop)
    (hstep : ∀ listed a w i, Inv listed a w → i ∈ Region.ready md ops listed → wpOpIn F n P ops Q i (Inv (listed.setIfInBounds i true)) a w)
    (hend : ∀ listed a w, Inv listed a w → Region.ready md ops listed = [] → Q .normal a w) :
    ∀ (fuel : Nat) (listed : Array Bool) (a : Act) (w : World), ((List.range ops.size).filter fun i => !listed.getD i true).length ≤ fuel → Inv listed a w → wpAnyIn F n P md ops Q fuel listed a w
  | 0, listed, a, w, hf, h => by
    have hr : Region.ready md ops listed = [] := by
      apply List.eq_nil_iff_forall_not_mem.2
      intro i hi
      unfold Region.ready at hi
      have h1 := List.mem_filter.1 hi
      have h2 : i ∈ (List.range ops.size).filter fun i => !listed.getD i true := List.mem_filter.2 ⟨h1.1, (Bool.and_eq_true _ _ ▸ h1.2).1⟩
      have h3 := List.length_pos_of_mem h2
      omega
    exact ⟨hr, hend listed a w h hr⟩
  | fuel + 1, listed, a, w, hf, h => by
    refine ⟨hend listed a w h, fun i hi => wpOpIn_mono (fun a' w' h' => wpAnyIn_inv Inv hstep hend fuel _ a' w' ?_ h') (hstep listed a w i h hi)⟩
    unfold Region.ready at hi
    have h1 := List.mem_filter.1 hi
    have h2 : (!listed.getD i true) = true := (Bool.and_eq_true _ _ ▸ h1.2).1
    have hlt : i < listed.size := by
      rcases Nat.lt_or_ge i listed.size with h' | h'
      · exact h'
      · simp [Array.getElem?_eq_none h'] at h2
    have := count_lt (l := List.range ops.size) (p := fun i => !listed.getD i true) (q := fun j => !(listed.setIfInBounds i true).getD j true) (fun j hj => by
      by_cases e : i = j
      · subst e; simp [hlt] at hj
      · simp only [Array.getD_eq_getD_getElem?, Array.getElem?_setIfInBounds_ne e] at hj ⊢; exact hj) h1.1 h2 (by simp [hlt])
    omega

/-- The beginning. -/
theorem wpIn_region_inv {F : Fence} {n : Nat} {P : Program} {ops : Array Oper} {Q : Exit → Act → World → Prop} {id : Nat} {a : Act} {w : World} (hm : P.follows .mixedOrders = true) (Inv : Array Bool → Act → World → Prop)
    (h0 : Inv (Array.replicate ops.size false) a w.drew)
    (hstep : ∀ listed a w i, Inv listed a w → i ∈ Region.ready .any ops listed → wpOpIn F n P ops Q i (Inv (listed.setIfInBounds i true)) a w)
    (hend : ∀ listed a w, Inv listed a w → Region.ready .any ops listed = [] → Q .normal a w) : (Code.region id ops true).wpIn F n P Q a w := by
  refine wpIn_region_any hm (wpAnyIn_inv Inv hstep hend _ _ _ _ ?_ h0)
  exact Nat.le_trans (List.length_filter_le _ _) (by simp)

/-- The rule, where what a slot held ahead is wanted. -/
theorem wpIn_region_put2 {F : Fence} {n : Nat} {P : Program} {l : List Oper} {Q : Exit → Act → World → Prop} {id : Nat} {a : Act} {w : World} (hm : P.follows .mixedOrders = true) (hs : slotsOk a.tmps.size l = true) (hd : depsOk 0 l = true) (Inv : (Nat → Bool) → (Nat → Value) → World → Prop)
    (h0 : ∀ vs, (∀ i o d, l[i]? = some o → o.dst = some d → vs i = a.tmps.getD d undef) → Inv (fun _ => false) vs w.drew)
    (hstep : ∀ b vs w i o, l[i]? = some o → b i = false → (∀ e ∈ o.after, Region.binds .any e = true → b e.on = true) → Inv b vs w →
      wpOpIn F n P l.toArray Q i (fun a' w' => ∃ v, a' = (putAll l 0 vs a).put o.dst v ∧ Inv (upd b i true) (upd vs i v) w') (putAll l 0 vs a) w)
    (hend : ∀ b vs w, (∀ i, i < l.length → b i = true) → Inv b vs w → Q .normal (putAll l 0 vs a) w) : (Code.region id l.toArray true).wpIn F n P Q a w := by
  refine wpIn_region_inv hm (fun listed a' w' => listed.size = l.length ∧ ∃ vs b, a' = putAll l 0 vs a ∧ (∀ i, i < l.length → b i = listed.getD i false) ∧ (∀ i, l.length ≤ i → b i = false) ∧ Inv b vs w') ?_ ?_ ?_
  · refine ⟨by simp, _, fun _ => false, (putAll_base _ l 0 a rfl hs).symm, fun i hi => by simp [hi], fun _ _ => rfl, h0 _ fun i o d ho hd => by simp [ho, hd]⟩
  · rintro listed a' w' i ⟨hsz, vs, b, rfl, hb, hb', hi⟩ hr
    obtain ⟨hun, o, ho, hall⟩ := mem_ready.1 hr
    have ho' : l[i]? = some o := by simpa using ho
    have hlt : i < l.length := (List.getElem?_eq_some_iff.1 ho').1
    have hun' : listed.getD i false = false := by
      have : i < listed.size := by omega
      simp [this] at hun ⊢; exact hun
    refine wpOpIn_mono ?_ (hstep b vs w' i o ho' (by rw [hb i hlt]; exact hun') (fun e he hbd => ?_) hi)
    · rintro a'' w'' ⟨v, rfl, hi'⟩
      refine ⟨by simp [hsz], upd vs i v, upd b i true, ?_, ?_, ?_, hi'⟩
      · have := putAll_upd _ l 0 i o vs a v hs ho'
        rw [Nat.zero_add] at this
        exact this.symm
      · intro j hj
        by_cases e : j = i
        · subst e; rw [upd_same]; simp [hsz, hj]
        · rw [upd_other _ _ _ _ e, hb j hj]; simp only [Array.getD_eq_getD_getElem?, Array.getElem?_setIfInBounds_ne (Ne.symm e)]
      · intro j hj
        rw [upd_other _ _ _ _ (by omega)]; exact hb' j hj
    · have h := hall e he hbd
      have hel : e.on < l.length := by
        rcases Nat.lt_or_ge e.on listed.size with h' | h'
        · omega
        · simp [Array.getElem?_eq_none h'] at h
      rw [hb _ hel]; exact h
  · rintro listed a' w' ⟨hsz, vs, b, rfl, hb, hb', hi⟩ hr
    refine hend b vs w' ?_ hi
    intro i
    induction i using Nat.strongRecOn with
    | ind i ih =>
      intro hlt
      cases hbi : b i with
      | true => rfl
      | false =>
        obtain ⟨o, ho⟩ : ∃ o, l[i]? = some o := ⟨_, List.getElem?_eq_getElem hlt⟩
        have hin : i ∈ Region.ready .any l.toArray listed := by
          refine mem_ready.2 ⟨?_, o, by simpa using ho, fun e he hbd => ?_⟩
          · have : i < listed.size := by omega
            have h2 : listed.getD i false = false := by rw [← hb i hlt]; exact hbi
            simp [this] at h2 ⊢; exact h2
          · have h1 := depsOk_at l 0 i o hd ho e he hbd
            rw [← hb e.on (by omega)]
            exact ih e.on (by omega) (by omega)
        rw [hr] at hin
        cases hin
theorem Keep.putObj (S : Nat → Prop) (w : World) (l : Nat) (o : Obj) (h : ¬ S l) : Keep S w (w.putObj l o) := ⟨rfl, rfl, rfl, by simp, fun k hk _ => World.putObj_heap_other (fun e => h (e ▸ hk))⟩
theorem Keep.cell {S : Nat → Prop} {w w' : World} (h : Keep S w w') {g o : Nat} (hs : S g) (hl : g < w.heap.size) : w'.cell? ⟨g, o, none⟩ = w.cell? ⟨g, o, none⟩ := by
  unfold World.cell?; simp only; rw [h.block g hs hl]
theorem Blk.putOther {w : World} {g : Nat} {t : TypeId} {cs : Array Value} (h : Blk w g t cs) {l : Nat} (o : Obj) (hne : g ≠ l) : Blk (w.putObj l o) g t cs := by
  unfold Blk; rw [World.putObj_heap_other hne]; exact h
theorem postM_ret {fn : Func} {R : Ending → World → Prop} {tmps : Array Value} {D : Nat} {W : World} (v : Value) (hD : W.heap[D]? = some (.deferred (some [])))
    (hres : (results fn tmps).run Try.prog (W.putObj D (.deferred none)) = .ok v (W.putObj D (.deferred none))) (h : R (.returned v) (W.putObj D (.deferred none))) :
    bodyPostM Fence.wide 9 Try.prog fn R .ret { tmps := tmps, defers := [{ target := .collected D, args := #[] }] } W :=
  ⟨by simp, .inl ⟨_, _, rfl, run_takeDeferred hD, ⟨_, hres, h⟩⟩⟩
theorem lines_c (ao : Option Addr) (n c : Nat) (w : World) : Calls Try.prog 45 #[.slice ao n c] w fun e w' => e = .returned (.func (.func 55) #[] #[.pointer (some ⟨w.heap.size, 0, none⟩)]) ∧ w.alloc (.cells #[.slice ao n c] 44) = w' := by
  go_enter Try.func45, Try.ntmps45
  go_wp2
  go_ret
  exact ⟨rfl, rfl⟩
theorem PtsAt.keep {S : Nat → Prop} {w w' : World} {b o : Nat} {l : List Pt} (h : PtsAt w b o l) (hk : Keep S w w') (hs : S b) (hl : b < w.heap.size) : PtsAt w' b o l := fun i p hp => by
  rw [hk.cell hs hl, hk.cell hs hl]; exact h i p hp
set_option maxHeartbeats 4000000 in
set_option maxRecDepth 100000 in
/-- The iterator. KS: what each round leaves as it lies: the box, and the row's block. -/
theorem lines1_c (L bx : Nat) (KS : Nat → Prop) (l : List Pt) (ao : Option Addr) (n c : Nat) (hl : l.length = n) (hl2 : n ≤ 100000) (J : Nat → World → Prop) (Jx : World → Prop) (W : World) (hbl : bx < W.heap.size) (hbs : KS bx)
    (hbx : W.cell? ⟨bx, 0, none⟩ = some (.slice ao n c)) (hrow : ∀ k, k < n → ∃ b o, ao = some ⟨b, o, none⟩ ∧ KS b ∧ b < W.heap.size ∧ PtsAt W b o l)
    (hJ : ∀ k A B, J k A → Keep (fun _ => True) A B → J k B)
    (hY : ∀ k p q A, 1 ≤ k → l[k - 1]? = some p → l[k]? = some q → J k A → W.heap.size ≤ A.heap.size → YieldAt Fence.wide 7 Try.prog L #[.agg #[.int .i64 p.1, .int .i64 p.2], .agg #[.int .i64 q.1, .int .i64 q.2]] A fun e B =>
      (e = .returned (.bool true) ∧ J (k + 1) B ∧ Keep KS A B) ∨ (e = .returned (.bool false) ∧ Jx B ∧ Keep KS A B))
    (h0 : J 1 W) :
    CallsIn Fence.wide 8 Try.prog 55 #[.func (.yield L) #[] #[], .pointer (some ⟨bx, 0, none⟩)] W fun e B => (∃ v, e = .returned v) ∧ (J (max n 1) B ∨ Jx B) := by
  have HJ := Lib.hid hJ
  have HY := Lib.hid hY
  have HROW := Lib.hid hrow
  have HL := Lib.hid hl
  have H0 := Lib.hid h0
  have HB := Lib.hid (And.intro hbl hbs)
  have HBX := Lib.hid hbx
  clear h0 hY hrow hl hJ hbs hbl
  refine callsIn_of_wp Try.func55 rfl trivial ?_ rfl
  simp only [Try.ntmps55, List.size_toArray, List.length_cons, List.length_nil, Nat.reduceAdd, Nat.reduceSub, Array.replicate_succ, Array.replicate_zero, List.push_toArray, List.append_toArray, List.nil_append, List.cons_append]
  gi_wp2
  clear hbx
  gi_loopw [3] (fun i wr => ∃ k : Nat, 1 ≤ k ∧ k ≤ max n 1 ∧ i = .int .i64 k ∧ Hid (J k wr ∧ Keep KS W wr)) (fun i _ => n - (intOf i).toNat)
  case atStart =>
    exact ⟨1, Nat.le_refl _, by omega, rfl, H0.out, Keep.refl _ _⟩
  case round =>
    obtain ⟨k, hk1, hk, rfl, hw⟩ := hrel
    have hb1 : wr.cell? ⟨bx, 0, none⟩ = some (.slice ao n c) := by rw [hw.out.2.cell HB.out.2 HB.out.1]; exact HBX.out
    by_cases hlt : k < n
    · have hd : decide ((k : Int) < (n : Int)) = true := by simp; omega
      obtain ⟨kp, hkp⟩ : ∃ kp, k - 1 = kp := ⟨_, rfl⟩
      have hw1 : wrap64 ((k : Int) - 1) = (kp : Int) := by rw [wrapR _ (by omega) (by omega)]; omega
      have hkl : kp < n := by omega
      have E13 : IntKind.i64.wrap ((k : Int) - 1) = (kp : Int) := (wrap_is _).trans hw1
      obtain ⟨b, o, rfl, hbs, hbl, hs⟩ := HROW.out k hlt
      obtain ⟨q, hq⟩ : ∃ q, l[k]? = some q := ⟨_, List.getElem?_eq_getElem (by rw [HL.out]; exact hlt)⟩
      obtain ⟨p, hp⟩ : ∃ p, l[kp]? = some p := ⟨_, List.getElem?_eq_getElem (by rw [HL.out]; exact hkl)⟩
      have HS : Hid (∀ A, Keep KS wr A → A.cell? ⟨bx, 0, none⟩ = some (.slice (some ⟨b, o, none⟩) n c) ∧ PtsAt A b o l) := fun A hA => ⟨by rw [hA.cell HB.out.2 (Nat.lt_of_lt_of_le HB.out.1 hw.out.2.size)]; exact hb1, (hs.keep hw.out.2 hbs hbl).keep hA hbs (Nat.lt_of_lt_of_le hbl hw.out.2.size)⟩
      have HYK : Hid (YieldAt Fence.wide 7 Try.prog L #[.agg #[.int .i64 p.1, .int .i64 p.2], .agg #[.int .i64 q.1, .int .i64 q.2]] wr.drew fun e B => (e = .returned (.bool true) ∧ J (k + 1) B ∧ Keep KS wr.drew B) ∨ (e = .returned (.bool false) ∧ Jx B ∧ Keep KS wr.drew B)) :=
        HY.out k p q wr.drew hk1 (by rw [hkp]; exact hp) hq (HJ.out _ _ _ hw.out.1 (Keep.drew _ _)) hw.out.2.size
      have HP := Lib.hid hp
      have HQ := Lib.hid hq
      clear hp hq hs hkp hbs hbl
      obtain ⟨px, py⟩ := p
      obtain ⟨qx, qy⟩ := q
      gi_wp2
      refine wpIn_region_put2 (by kernel_rfl) (by kernel_rfl) (by kernel_rfl) (fun b' vs w' => (b' 0 = true → vs 0 = .func (.yield L) #[] #[]) ∧ (b' 1 = true → vs 1 = .slice (some ⟨b, o, none⟩) n c) ∧ (b' 2 = true → vs 2 = .int .i64 (k : Int)) ∧ (b' 3 = true → vs 3 = .int .i64 (kp : Int)) ∧ (b' 4 = true → vs 4 = .pointer (some ⟨b, o + kp * 2, none⟩)) ∧ (b' 5 = true → vs 5 = .agg #[.int .i64 px, .int .i64 py]) ∧ (b' 6 = true → vs 6 = .slice (some ⟨b, o, none⟩) n c) ∧ (b' 7 = true → vs 7 = .int .i64 (k : Int)) ∧ (b' 8 = true → vs 8 = .pointer (some ⟨b, o + k * 2, none⟩)) ∧ (b' 9 = true → vs 9 = .agg #[.int .i64 qx, .int .i64 qy]) ∧ (b' 10 = false → w' = wr.drew) ∧ (b' 10 = true → Hid ((vs 10 = .bool true ∧ J (k + 1) w') ∨ (vs 10 = .bool false ∧ Jx w'))) ∧ (b' 11 = true → b' 10 = true ∧ ∃ x, vs 10 = .bool x ∧ vs 11 = .bool (!x)) ∧ Hid (Keep KS wr w')) ?_ ?_ ?_
      · intro vs hvs
        exact ⟨fun h => Bool.noConfusion h, fun h => Bool.noConfusion h, fun h => Bool.noConfusion h, fun h => Bool.noConfusion h, fun h => Bool.noConfusion h, fun h => Bool.noConfusion h, fun h => Bool.noConfusion h, fun h => Bool.noConfusion h, fun h => Bool.noConfusion h, fun h => Bool.noConfusion h, fun _ => rfl, fun h => Bool.noConfusion h, fun h => Bool.noConfusion h, Lib.hid (Keep.drew _ _)⟩
      · rintro b' vs w' i op hi hun hall ⟨h0, h1, h2, h3, h4, h5, h6, h7, h8, h9, hE, hG, hN, hK⟩
        have hil : i < 12 := (List.getElem?_eq_some_iff.1 hi).1
        rcases i with _ | _ | _ | _ | _ | _ | _ | _ | _ | _ | _ | _ | i
        · obtain rfl := Option.some.inj hi
          refine wpOpIn_step rfl (fun K hK => ?_)
          have HKK := Lib.hid hK; clear hK
          simp only [putAll, Act.put, List.setIfInBounds_toArray, List.set_cons_zero, List.set_cons_succ]
          go_simp
          exact HKK.out _ _ ⟨_, by simp only [putAll, Act.put, List.setIfInBounds_toArray, List.set_cons_zero, List.set_cons_succ] <;> rfl, fun _ => rfl, h1, h2, h3, h4, h5, h6, h7, h8, h9, hE, hG, hN, hK⟩
        · obtain rfl := Option.some.inj hi
          have cc := (HS.out w' hK.out).1
          refine wpOpIn_step rfl (fun K hK => ?_)
          have HKK := Lib.hid hK; clear hK
          simp only [putAll, Act.put, List.setIfInBounds_toArray, List.set_cons_zero, List.set_cons_succ]
          go_simp
          exact HKK.out _ _ ⟨_, by simp only [putAll, Act.put, List.setIfInBounds_toArray, List.set_cons_zero, List.set_cons_succ] <;> rfl, h0, fun _ => rfl, h2, h3, h4, h5, h6, h7, h8, h9, hE, hG, hN, hK⟩
        · obtain rfl := Option.some.inj hi
          refine wpOpIn_step rfl (fun K hK => ?_)
          have HKK := Lib.hid hK; clear hK
          simp only [putAll, Act.put, List.setIfInBounds_toArray, List.set_cons_zero, List.set_cons_succ]
          go_simp
          exact HKK.out _ _ ⟨_, by simp only [putAll, Act.put, List.setIfInBounds_toArray, List.set_cons_zero, List.set_cons_succ] <;> rfl, h0, h1, fun _ => rfl, h3, h4, h5, h6, h7, h8, h9, hE, hG, hN, hK⟩
        · obtain rfl := Option.some.inj hi
          have d2 := h2 (hall ⟨2, .data⟩ (by simp) rfl)
          refine wpOpIn_step rfl (fun K hK => ?_)
          have HKK := Lib.hid hK; clear hK
          simp only [putAll, Act.put, List.setIfInBounds_toArray, List.set_cons_zero, List.set_cons_succ, d2]
          go_simp
          exact HKK.out _ _ ⟨_, by simp only [putAll, Act.put, List.setIfInBounds_toArray, List.set_cons_zero, List.set_cons_succ, d2] <;> rfl, h0, h1, h2, fun _ => rfl, h4, h5, h6, h7, h8, h9, hE, hG, hN, hK⟩
        · obtain rfl := Option.some.inj hi
          have d1 := h1 (hall ⟨1, .data⟩ (by simp) rfl)
          have d3 := h3 (hall ⟨3, .data⟩ (by simp) rfl)
          refine wpOpIn_step rfl (fun K hK => ?_)
          have HKK := Lib.hid hK; clear hK
          simp only [putAll, Act.put, List.setIfInBounds_toArray, List.set_cons_zero, List.set_cons_succ, d1, d3]
          go_simp
          exact HKK.out _ _ ⟨_, by simp only [putAll, Act.put, List.setIfInBounds_toArray, List.set_cons_zero, List.set_cons_succ, d1, d3] <;> rfl, h0, h1, h2, h3, fun _ => rfl, h5, h6, h7, h8, h9, hE, hG, hN, hK⟩
        · obtain rfl := Option.some.inj hi
          have d4 := h4 (hall ⟨4, .data⟩ (by simp) rfl)
          have hpa := (HS.out w' hK.out).2 _ _ HP.out
          obtain ⟨p0, p1⟩ := hpa
          refine wpOpIn_step rfl (fun K hK => ?_)
          have HKK := Lib.hid hK; clear hK
          simp only [putAll, Act.put, List.setIfInBounds_toArray, List.set_cons_zero, List.set_cons_succ, d4]
          go_simp
          exact HKK.out _ _ ⟨_, by simp only [putAll, Act.put, List.setIfInBounds_toArray, List.set_cons_zero, List.set_cons_succ, d4] <;> rfl, h0, h1, h2, h3, h4, fun _ => rfl, h6, h7, h8, h9, hE, hG, hN, hK⟩
        · obtain rfl := Option.some.inj hi
          have cc := (HS.out w' hK.out).1
          refine wpOpIn_step rfl (fun K hK => ?_)
          have HKK := Lib.hid hK; clear hK
          simp only [putAll, Act.put, List.setIfInBounds_toArray, List.set_cons_zero, List.set_cons_succ]
          go_simp
          exact HKK.out _ _ ⟨_, by simp only [putAll, Act.put, List.setIfInBounds_toArray, List.set_cons_zero, List.set_cons_succ] <;> rfl, h0, h1, h2, h3, h4, h5, fun _ => rfl, h7, h8, h9, hE, hG, hN, hK⟩
        · obtain rfl := Option.some.inj hi
          refine wpOpIn_step rfl (fun K hK => ?_)
          have HKK := Lib.hid hK; clear hK
          simp only [putAll, Act.put, List.setIfInBounds_toArray, List.set_cons_zero, List.set_cons_succ]
          go_simp
          exact HKK.out _ _ ⟨_, by simp only [putAll, Act.put, List.setIfInBounds_toArray, List.set_cons_zero, List.set_cons_succ] <;> rfl, h0, h1, h2, h3, h4, h5, h6, fun _ => rfl, h8, h9, hE, hG, hN, hK⟩
        · obtain rfl := Option.some.inj hi
          have d6 := h6 (hall ⟨6, .data⟩ (by simp) rfl)
          have d7 := h7 (hall ⟨7, .data⟩ (by simp) rfl)
          refine wpOpIn_step rfl (fun K hK => ?_)
          have HKK := Lib.hid hK; clear hK
          simp only [putAll, Act.put, List.setIfInBounds_toArray, List.set_cons_zero, List.set_cons_succ, d6, d7]
          go_simp
          exact HKK.out _ _ ⟨_, by simp only [putAll, Act.put, List.setIfInBounds_toArray, List.set_cons_zero, List.set_cons_succ, d6, d7] <;> rfl, h0, h1, h2, h3, h4, h5, h6, h7, fun _ => rfl, h9, hE, hG, hN, hK⟩
        · obtain rfl := Option.some.inj hi
          have d8 := h8 (hall ⟨8, .data⟩ (by simp) rfl)
          have hpa := (HS.out w' hK.out).2 _ _ HQ.out
          obtain ⟨q0, q1⟩ := hpa
          refine wpOpIn_step rfl (fun K hK => ?_)
          have HKK := Lib.hid hK; clear hK
          simp only [putAll, Act.put, List.setIfInBounds_toArray, List.set_cons_zero, List.set_cons_succ, d8]
          go_simp
          exact HKK.out _ _ ⟨_, by simp only [putAll, Act.put, List.setIfInBounds_toArray, List.set_cons_zero, List.set_cons_succ, d8] <;> rfl, h0, h1, h2, h3, h4, h5, h6, h7, h8, fun _ => rfl, hE, hG, hN, hK⟩
        · obtain rfl := Option.some.inj hi
          have d0 := h0 (hall ⟨0, .data⟩ (by simp) rfl)
          have d5 := h5 (hall ⟨5, .data⟩ (by simp) rfl)
          have d9 := h9 (hall ⟨9, .data⟩ (by simp) rfl)
          have hwr := hE hun
          subst hwr
          obtain ⟨fn, tmps, assign, body, hy, hR⟩ := HYK.out
          have HR := Lib.hid hR
          clear hR
          refine wpOpIn_step rfl (fun K hK2 => ?_)
          have HKK := Lib.hid hK2; clear hK2
          simp only [putAll, Act.put, List.setIfInBounds_toArray, List.set_cons_zero, List.set_cons_succ, d0, d5, d9]
          go_simp
          refine HR.out.mono ?_
          rintro e B (⟨rfl, hj, hkp⟩ | ⟨rfl, hjx, hkp⟩)
          · exact HKK.out _ _ ⟨_, by simp only [putAll, Act.put, List.setIfInBounds_toArray, List.set_cons_zero, List.set_cons_succ, d0, d5, d9] <;> rfl, h0, h1, h2, h3, h4, h5, h6, h7, h8, h9, fun h => Bool.noConfusion h, fun _ => Lib.hid (.inl ⟨rfl, hj⟩), fun h => absurd (hN h).1 (by rw [hun]; decide), Lib.hid (hK.out.trans hkp)⟩
          · exact HKK.out _ _ ⟨_, by simp only [putAll, Act.put, List.setIfInBounds_toArray, List.set_cons_zero, List.set_cons_succ, d0, d5, d9] <;> rfl, h0, h1, h2, h3, h4, h5, h6, h7, h8, h9, fun h => Bool.noConfusion h, fun _ => Lib.hid (.inr ⟨rfl, hjx⟩), fun h => absurd (hN h).1 (by rw [hun]; decide), Lib.hid (hK.out.trans hkp)⟩
        · obtain rfl := Option.some.inj hi
          have g10 := hall ⟨10, .data⟩ (by simp) rfl
          obtain ⟨x, hx⟩ : ∃ x, vs 10 = .bool x := by
            rcases (hG g10).out with ⟨e, _⟩ | ⟨e, _⟩
            · exact ⟨_, e⟩
            · exact ⟨_, e⟩
          refine wpOpIn_step rfl (fun K hK2 => ?_)
          have HKK := Lib.hid hK2; clear hK2
          simp only [putAll, Act.put, List.setIfInBounds_toArray, List.set_cons_zero, List.set_cons_succ, hx]
          go_simp
          exact HKK.out _ _ ⟨_, by simp only [putAll, Act.put, List.setIfInBounds_toArray, List.set_cons_zero, List.set_cons_succ, hx] <;> rfl, h0, h1, h2, h3, h4, h5, h6, h7, h8, h9, hE, hG, fun _ => ⟨g10, x, hx, rfl⟩, hK⟩
        · exact absurd hil (by omega)
      · rintro b' vs w' hb ⟨h0, h1, h2, h3, h4, h5, h6, h7, h8, h9, hE, hG, hN, hK⟩
        have d0 := h0 (hb 0 (by decide))
        have d1 := h1 (hb 1 (by decide))
        have d2 := h2 (hb 2 (by decide))
        have d3 := h3 (hb 3 (by decide))
        have d4 := h4 (hb 4 (by decide))
        have d5 := h5 (hb 5 (by decide))
        have d6 := h6 (hb 6 (by decide))
        have d7 := h7 (hb 7 (by decide))
        have d8 := h8 (hb 8 (by decide))
        have d9 := h9 (hb 9 (by decide))
        obtain ⟨_, x, e10, e11⟩ := hN (hb 11 (by decide))
        have G := hG (hb 10 (by decide))
        have HKP : Hid (Keep KS W w') := hw.out.2.trans hK.out
        simp only [putAll, Act.put, List.setIfInBounds_toArray, List.set_cons_zero, List.set_cons_succ, Nat.zero_add, Nat.reduceAdd, d0, d1, d2, d3, d4, d5, d6, d7, d8, d9, e10, e11]
        clear hb h0 h1 h2 h3 h4 h5 h6 h7 h8 h9 hE hG hN hK d0 d1 d2 d3 d4 d5 d6 d7 d8 d9 hb1 e11
        rcases G.out with ⟨e, hj⟩ | ⟨e, hj⟩
        · cases e.symm.trans e10
          have HJ1 := Lib.hid hj
          clear hj e e10 G
          gi_wp2
          exact ⟨⟨k + 1, by omega, by omega, by go_num, HJ1.out, HKP.out⟩, by simp [intOf]; omega⟩
        · cases e.symm.trans e10
          have HJ1 := Lib.hid hj
          clear hj e e10 G
          gi_wp2
          refine bodyPost_ret (results_none rfl _ _ _) rfl ?_
          exact ⟨⟨_, rfl⟩, .inr HJ1.out⟩
    · have hd : decide ((k : Int) < (n : Int)) = false := by simp; omega
      obtain rfl : k = max n 1 := by omega
      gi_wp2
      go_end0
      exact ⟨⟨_, rfl⟩, .inl hw.out.1⟩
/-- What a round must leave as it lies. -/
def RoundL (KS : Nat → Prop) (N : Nat) : Nat → Prop := fun j => KS j ∨ j = N ∨ j = N + 1
def linePost (KS : Nat → Prop) (N k : Nat) (I : Nat → World → Prop) (Ix : World → Prop) (W : World) : Exit → Act → World → Prop
  | .normal, _, W' => Keep (RoundL KS N) W W' ∧ I (k + 1) W'
  | .ret, _, W' => Keep (RoundL KS N) W W' ∧ Ix W'
  | _, _, _ => False
/-- A loop over the lines of a way. -/
theorem wp_lines {l : List Pt} {ao : Option Addr} {n c : Nat} {g : Operand} {ps : Array Tmp} {assign body : Code} {Q : Exit → Act → World → Prop} {a : Act} {w : World} {bx : Nat} (KS : Nat → Prop)
    (hg : a.eval g = .func (.func 55) #[] #[.pointer (some ⟨bx, 0, none⟩)]) (hps : ps.size = 2) (hbl : bx < w.heap.size) (hbs : KS bx)
    (hbx : w.cell? ⟨bx, 0, none⟩ = some (.slice ao n c)) (row : ∀ k, k < n → ∃ b o, ao = some ⟨b, o, none⟩ ∧ KS b ∧ b < w.heap.size ∧ PtsAt w b o l) (hl : l.length = n) (hl2 : n ≤ 100000) (hKS : ∀ j, KS j → j < w.heap.size)
    (I : Nat → World → Prop) (hI : ∀ k A B, I k A → Keep (fun j => ¬ (w.heap.size ≤ j ∧ j < w.heap.size + 2)) A B → I k B)
    (Ix : World → Prop) (hIx : ∀ A B, Ix A → Keep (fun j => ¬ (w.heap.size ≤ j ∧ j < w.heap.size + 2)) A B → Ix B)
    (h0 : I 1 w) (act : Pt → Pt → Nat → Array Value) (mk : Pt → Pt → World → World) (hmk : ∀ p q A, Keep (fun _ => True) A (mk p q A))
    (hassign : ∀ L p q A (K : Act → World → Prop), K { tmps := act p q A.heap.size, defers := [] } (mk p q A) → assign.wpIn (Fence.wide.inRound L) 7 Try.prog (Exit.then K (fun _ _ _ => False)) { tmps := (ps.zip #[.agg #[.int .i64 p.1, .int .i64 p.2], .agg #[.int .i64 q.1, .int .i64 q.2]]).foldl (fun t (p, v) => t.setIfInBounds p v) a.tmps, defers := [] } A)
    (hbody : ∀ L k p q A o B, 1 ≤ k → l[k - 1]? = some p → l[k]? = some q → I k A → w.heap.size + 2 ≤ A.heap.size → B = (mk p q A).putObj (w.heap.size + 1) o → body.wpIn (Fence.wide.inRound L) 7 Try.prog (linePost KS w.heap.size k I Ix B) { tmps := act p q A.heap.size, defers := [] } B)
    (hdone : ∀ W, I (max n 1) W → W.heap[w.heap.size]? = some (.deferred (some [])) → Q .normal { a with defers := { target := .collected w.heap.size, args := #[] } :: a.defers } W)
    (hstop : ∀ W, Ix W → W.heap[w.heap.size]? = some (.deferred (some [])) → Q .ret { a with defers := { target := .collected w.heap.size, args := #[] } :: a.defers } W) :
    (Code.rangeFunc g ps assign body).wp Try.prog Q a w := by
  refine (wpIn_wide (n := 9)).1 (wpIn_rangeFunc fun fn _ => ?_)
  obtain ⟨rc, hrc⟩ : ∃ rc : LoopState → Option Code → Loop, rc = fun st pe => { state := st, pending := pe, fn, tmps := a.tmps, params := ps, assign, body, defers := w.heap.size } := ⟨_, rfl⟩
  obtain ⟨W1, hW1⟩ : ∃ W1, (w.alloc (.deferred (some []))).alloc (.loop (rc .ready none)) = W1 := ⟨_, rfl⟩
  have hz1 : W1.heap.size = w.heap.size + 2 := by rw [← hW1]; simp
  have k1 : Keep (fun _ => True) w W1 := by rw [← hW1]; exact (Keep.alloc _ _ _).trans (Keep.alloc _ _ _)
  have hl1 : W1.heap[w.heap.size + 1]? = some (.loop (rc .ready none)) := by
    rw [← hW1]; have := World.alloc_heap_new (w.alloc (.deferred (some []))) (.loop (rc .ready none)); rwa [World.size_alloc] at this
  have hd1 : W1.heap[w.heap.size]? = some (.deferred (some [])) := by
    rw [← hW1]; exact (Below.heap_alloc _ _ _ (by simp)).trans (World.alloc_heap_new w _)
  refine ⟨w.heap.size + 1, [{ target := .collected w.heap.size, args := #[] }], W1, { target := .fn (.func 55) #[.pointer (some ⟨bx, 0, none⟩)], args := #[.func (.yield (w.heap.size + 1)) #[] #[]] }, W1, 55,
    #[.func (.yield (w.heap.size + 1)) #[] #[], .pointer (some ⟨bx, 0, none⟩)], W1, ?_, ?_, fun _ _ => trivial, ?_, fun h => (by cases h), ?_⟩
  · rw [← hW1, hrc]; exact run_enterLoop_outer _ _ _ _ _
  · simp only [resolve, hg]
    simp [go_sem]
  · simp [invoke, go_sem]
  · refine (lines1_c (w.heap.size + 1) bx KS l ao n c hl hl2
      (fun k A => I k A ∧ A.heap[w.heap.size + 1]? = some (.loop (rc .ready none)) ∧ A.heap[w.heap.size]? = some (.deferred (some [])))
      (fun A => Ix A ∧ A.heap[w.heap.size + 1]? = some (.loop (rc .done (some .ret))) ∧ A.heap[w.heap.size]? = some (.deferred (some [])))
      W1 (by omega) hbs ?_ ?_ ?_ ?_ ⟨hI _ _ _ h0 (k1.mono fun _ _ => trivial), hl1, hd1⟩).mono ?_
    · rw [k1.cell trivial hbl]; exact hbx
    · intro k hk
      obtain ⟨b, o, e, hb, hlt, hs⟩ := row k hk
      exact ⟨b, o, e, hb, by omega, hs.keep k1 trivial hlt⟩
    · rintro k A B ⟨hi, hl, hd⟩ hkp
      exact ⟨hI _ _ _ hi (hkp.mono fun j hj => trivial), (hkp.block _ trivial (Array.getElem?_eq_some_iff.1 hl).1).trans hl, (hkp.block _ trivial (Array.getElem?_eq_some_iff.1 hd).1).trans hd⟩
    · rintro k p q A hk hp hq ⟨hi, hl, hd⟩ hlt
      rw [hz1] at hlt
      have hy := run_yield (P := Try.prog) (args := #[.agg #[.int .i64 p.1, .int .i64 p.2], .agg #[.int .i64 q.1, .int .i64 q.2]]) hl (by rw [hrc]; simp [hps])
      rw [hrc] at hy
      refine ⟨fn, _, assign, body, hy, roundIn_of_wpIn trivial (hassign _ p q _ _ ?_)⟩
      clear hy
      have kM := hmk p q A
      have hlm := (kM.block _ trivial (Array.getElem?_eq_some_iff.1 hl).1).trans hl
      have hdm := (kM.block _ trivial (Array.getElem?_eq_some_iff.1 hd).1).trans hd
      have hlz := (Array.getElem?_eq_some_iff.1 hlm).1
      refine ⟨_, run_beginRound hlm (by rw [hrc]), ?_⟩
      have hl2' := World.putObj_heap_same (o := .loop { rc .ready none with state := .busy }) hlz
      have hd2 : ((mk p q A).putObj (w.heap.size + 1) (.loop { rc .ready none with state := .busy })).heap[w.heap.size]? = some (.deferred (some [])) := (World.putObj_heap_other (by omega)).trans hdm
      have out : ∀ (B : World) (o : Obj), Keep (RoundL KS w.heap.size) ((mk p q A).putObj (w.heap.size + 1) (.loop { rc .ready none with state := .busy })) B → Keep KS A (B.putObj (w.heap.size + 1) o) := fun B o h => by
        refine (((kM.mono fun _ _ => trivial).trans (Keep.putObj _ _ _ _ (fun e => absurd (hKS _ e) (by omega)))).trans (h.mono fun j hj => .inl hj)).trans (Keep.putObj _ _ _ _ (fun e => absurd (hKS _ e) (by omega)))
      refine wpIn_mono (hbody (w.heap.size + 1) k p q A _ _ hk hp hq hi hlt rfl) ?_
      rintro e a3 B hp
      cases e with
      | normal =>
        obtain ⟨hk3, hi3⟩ := hp
        have hl3 := (hk3.block (w.heap.size + 1) (.inr (.inr rfl)) (Array.getElem?_eq_some_iff.1 hl2').1).trans hl2'
        have hd3 := (hk3.block w.heap.size (.inr (.inl rfl)) (Array.getElem?_eq_some_iff.1 hd2).1).trans hd2
        have hr := run_endRound (P := Try.prog) none hl3
        refine ⟨_, _, hr, .inl ⟨rfl, ⟨hI _ _ _ hi3 (Keep.putObj _ _ _ _ (by omega)), ?_, (World.putObj_heap_other (by omega)).trans hd3⟩, out _ _ hk3⟩⟩
        rw [World.putObj_heap_same (Array.getElem?_eq_some_iff.1 hl3).1, hrc]
        rfl
      | ret =>
        obtain ⟨hk3, hi3⟩ := hp
        have hl3 := (hk3.block (w.heap.size + 1) (.inr (.inr rfl)) (Array.getElem?_eq_some_iff.1 hl2').1).trans hl2'
        have hd3 := (hk3.block w.heap.size (.inr (.inl rfl)) (Array.getElem?_eq_some_iff.1 hd2).1).trans hd2
        have hr := run_endRound (P := Try.prog) (some .ret) hl3
        refine ⟨_, _, hr, .inr ⟨rfl, ⟨hIx _ _ hi3 (Keep.putObj _ _ _ _ (by omega)), ?_, (World.putObj_heap_other (by omega)).trans hd3⟩, out _ _ hk3⟩⟩
        rw [World.putObj_heap_same (Array.getElem?_eq_some_iff.1 hl3).1, hrc]
        rfl
      | exit id => exact hp.elim
      | goto t => exact hp.elim
      | panic ch => exact hp.elim
      | outgrown => exact hp.elim
    · rintro e W2 ⟨⟨v, rfl⟩, (⟨hi, hl, hd⟩ | ⟨hi, hl, hd⟩)⟩
      · exact ⟨none, _, by have := run_endLoop (P := Try.prog) hl (by rw [hrc]; simp); rw [hrc] at this; exact this, hdone _ (hI _ _ _ hi (Keep.putObj _ _ _ _ (by omega))) ((World.putObj_heap_other (by omega)).trans hd)⟩
      · exact ⟨some .ret, _, by have := run_endLoop (P := Try.prog) hl (by rw [hrc]; simp); rw [hrc] at this; exact this, wpIn_ret (hstop _ (hIx _ _ hi (Keep.putObj _ _ _ _ (by omega))) ((World.putObj_heap_other (by omega)).trans hd))⟩
end Go.Proofs.Ytclkkdhfdoidfaa
