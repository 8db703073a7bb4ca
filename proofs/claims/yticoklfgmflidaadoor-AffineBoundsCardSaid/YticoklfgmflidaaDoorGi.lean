/- A region that draws its order, by an invariant over the set of operations that have come up and what they have yielded: each operation is run once; the frame is never written out by hand. -/
import Derived.Test.YticoklfgmflidaaDoorGh
import Derived.OrdersHeld
namespace Go.Proofs.YticoklfgmflidaaDoor
open Go.RowKit

theorem count_lt {l : List Nat} {p q : Nat → Bool} (hpq : ∀ j, q j = true → p j = true) {i : Nat} (hi : i ∈ l) (hp : p i = true) (hq : q i = false) : (l.filter q).length < (l.filter p).length := by
  have hle : ∀ l : List Nat, (l.filter q).length ≤ (l.filter p).length := by
    intro l
    induction l with
    | nil => simp
    | cons x l ih =>
      cases hx : q x
      · rw [List.filter_cons_of_neg (by simp [hx])]
        cases hy : p x
        · rw [List.filter_cons_of_neg (by simp [hy])]; exact ih
        · rw [List.filter_cons_of_pos hy]; simp; omega
      · rw [List.filter_cons_of_pos hx, List.filter_cons_of_pos (hpq x hx)]; simp; omega
  induction l with
  | nil => cases hi
  | cons x l ih =>
    rcases List.mem_cons.1 hi with rfl | hm
    · rw [List.filter_cons_of_neg (by simp [hq]), List.filter_cons_of_pos hp]
      have := hle l
      simp; omega
    · have := ih hm
      cases hx : q x
      · rw [List.filter_cons_of_neg (by simp [hx])]
        cases hy : p x
        · rw [List.filter_cons_of_neg (by simp [hy])]; exact this
        · rw [List.filter_cons_of_pos hy]; simp; omega
      · rw [List.filter_cons_of_pos hx, List.filter_cons_of_pos (hpq x hx)]; simp; omega

theorem wpAny_inv {P : Program} {md : Region.Mode} {ops : Array Oper} {Q : Exit → Act → World → Prop} (Inv : Array Bool → Act → World → Prop)
    (hstep : ∀ listed a w i, Inv listed a w → i ∈ Region.ready md ops listed → wpOp P ops Q i (Inv (listed.setIfInBounds i true)) a w)
    (hend : ∀ listed a w, Inv listed a w → Region.ready md ops listed = [] → Q .normal a w) :
    ∀ (fuel : Nat) (listed : Array Bool) (a : Act) (w : World), ((List.range ops.size).filter fun i => !listed.getD i true).length ≤ fuel → Inv listed a w → wpAny P md ops Q fuel listed a w
  | 0, listed, a, w, hf, h => by
    have hr : Region.ready md ops listed = [] := by
      apply List.eq_nil_iff_forall_not_mem.2
      intro i hi
      unfold Region.ready at hi
      have h1 := List.mem_filter.1 hi
      have h2 : i ∈ (List.range ops.size).filter fun i => !listed.getD i true := List.mem_filter.2 ⟨h1.1, (Bool.and_eq_true _ _ ▸ h1.2).1⟩
      have h3 := List.length_pos_of_mem h2
      omega
    exact ⟨hr, hend listed a w h hr⟩
  | fuel + 1, listed, a, w, hf, h => by
    refine ⟨hend listed a w h, fun i hi => wpOp_mono (fun a' w' h' => wpAny_inv Inv hstep hend fuel _ a' w' ?_ h') (hstep listed a w i h hi)⟩
    unfold Region.ready at hi
    have h1 := List.mem_filter.1 hi
    have h2 : (!listed.getD i true) = true := (Bool.and_eq_true _ _ ▸ h1.2).1
    have hlt : i < listed.size := by
      rcases Nat.lt_or_ge i listed.size with h' | h'
      · exact h'
      · simp [Array.getElem?_eq_none h'] at h2
    have := count_lt (l := List.range ops.size) (p := fun i => !listed.getD i true) (q := fun j => !(listed.setIfInBounds i true).getD j true) (fun j hj => by
      by_cases e : i = j
      · subst e; simp [hlt] at hj
      · simp only [Array.getD_eq_getD_getElem?, Array.getElem?_setIfInBounds_ne e] at hj ⊢; exact hj) h1.1 h2 (by simp [hlt])
    omega

/-- The beginning. -/
theorem wp_region_inv {P : Program} {ops : Array Oper} {Q : Exit → Act → World → Prop} {id : Nat} {a : Act} {w : World} (hm : P.follows .mixedOrders = true) (Inv : Array Bool → Act → World → Prop)
    (h0 : Inv (Array.replicate ops.size false) a w.drew)
    (hstep : ∀ listed a w i, Inv listed a w → i ∈ Region.ready .any ops listed → wpOp P ops Q i (Inv (listed.setIfInBounds i true)) a w)
    (hend : ∀ listed a w, Inv listed a w → Region.ready .any ops listed = [] → Q .normal a w) : (Code.region id ops true).wp P Q a w := by
  refine wp_region_any hm (wpAny_inv Inv hstep hend _ _ _ _ ?_ h0)
  exact Nat.le_trans (List.length_filter_le _ _) (by simp)

/-- What the operations have yielded, put into the frame. -/
def putAll : List Oper → Nat → (Nat → Value) → Act → Act
  | [], _, _, a => a
  | o :: l, k, vs, a => putAll l (k + 1) vs (a.put o.dst (vs k))
def upd {α : Type} (f : Nat → α) (i : Nat) (v : α) : Nat → α := fun j => if j = i then v else f j
theorem upd_same {α : Type} (f : Nat → α) (i : Nat) (v : α) : upd f i v i = v := by simp [upd]
theorem upd_other {α : Type} (f : Nat → α) (i j : Nat) (v : α) (h : j ≠ i) : upd f i v j = f j := by simp [upd, h]
/-- Each operation has a slot of its own, in the frame. -/
def slotsOk (n : Nat) : List Oper → Bool
  | [] => true
  | o :: l => (match o.dst with | none => true | some d => decide (d < n) && l.all fun p => decide (p.dst ≠ some d)) && slotsOk n l
theorem putAll_congr : ∀ (l : List Oper) (k : Nat) (vs us : Nat → Value) (a : Act), (∀ j, k ≤ j → vs j = us j) → putAll l k vs a = putAll l k us a
  | [], _, _, _, _, _ => rfl
  | o :: l, k, vs, us, a, h => by
    unfold putAll
    rw [h k (Nat.le_refl _)]
    exact putAll_congr l (k + 1) vs us _ (fun j hj => h j (by omega))
theorem put_swap (a : Act) (d : Tmp) (e : Option Tmp) (v u : Value) (h : e ≠ some d) : (a.put e u).put (some d) v = (a.put (some d) v).put e u := by
  cases e with
  | none => rfl
  | some e =>
    unfold Act.put
    simp only
    rw [Array.setIfInBounds_comm]
    intro h'; exact h (by rw [h'])
theorem putAll_put (d : Tmp) (v : Value) : ∀ (l : List Oper) (k : Nat) (vs : Nat → Value) (a : Act), (l.all fun p => decide (p.dst ≠ some d)) = true → (putAll l k vs a).put (some d) v = putAll l k vs (a.put (some d) v)
  | [], _, _, _, _ => rfl
  | o :: l, k, vs, a, h => by
    simp only [List.all_cons, Bool.and_eq_true, decide_eq_true_eq] at h
    unfold putAll
    rw [putAll_put d v l (k + 1) vs _ (by simpa using h.2), put_swap a d o.dst v (vs k) h.1]
theorem put_put (a : Act) (d : Option Tmp) (v u : Value) : (a.put d u).put d v = a.put d v := by
  cases d with
  | none => rfl
  | some d => unfold Act.put; simp only; congr 1; rw [Array.setIfInBounds_setIfInBounds]
theorem putAll_upd (n : Nat) : ∀ (l : List Oper) (k j : Nat) (o : Oper) (vs : Nat → Value) (a : Act) (v : Value), slotsOk n l = true → l[j]? = some o → putAll l k (upd vs (k + j) v) a = (putAll l k vs a).put o.dst v
  | [], _, _, _, _, _, _, _, h => by cases h
  | p :: l, k, 0, o, vs, a, v, hs, h => by
    obtain rfl : p = o := by simpa using h
    unfold putAll
    show putAll l (k + 1) (upd vs k v) (a.put p.dst (upd vs k v k)) = _
    rw [upd_same, putAll_congr l (k + 1) (upd vs k v) vs _ (fun j hj => upd_other _ _ _ _ (by omega))]
    cases hd : p.dst with
    | none => rfl
    | some d =>
      unfold slotsOk at hs
      rw [hd] at hs
      simp only [Bool.and_eq_true] at hs
      rw [putAll_put d v l (k + 1) vs _ hs.1.2, put_put]
  | p :: l, k, j + 1, o, vs, a, v, hs, h => by
    unfold putAll
    unfold slotsOk at hs
    rw [Bool.and_eq_true] at hs
    have e : k + (j + 1) = k + 1 + j := by omega
    rw [e, upd_other _ _ _ _ (by omega), putAll_upd n l (k + 1) j o vs _ v hs.2 (by simpa using h)]
theorem put_size (a : Act) (d : Option Tmp) (v : Value) : (a.put d v).tmps.size = a.tmps.size := by
  cases d <;> simp [Act.put]
theorem putAll_base (n : Nat) : ∀ (l : List Oper) (k : Nat) (a : Act), a.tmps.size = n → slotsOk n l = true → putAll l k (fun i => match (l[i - k]?).bind (·.dst) with | none => undef | some d => a.tmps.getD d undef) a = a
  | [], _, _, _, _ => rfl
  | p :: l, k, a, hn, hs => by
    unfold putAll
    unfold slotsOk at hs
    rw [Bool.and_eq_true] at hs
    have e : a.put p.dst (match (((p :: l)[k - k]?).bind (·.dst)) with | none => undef | some d => a.tmps.getD d undef) = a := by
      simp only [Nat.sub_self, List.getElem?_cons_zero, Option.bind_some]
      cases hd : p.dst with
      | none => rfl
      | some d =>
        rw [hd] at hs
        simp only [Bool.and_eq_true, decide_eq_true_eq] at hs
        have hlt : d < a.tmps.size := by rw [hn]; exact hs.1.1
        unfold Act.put
        simp only
        have : a.tmps.setIfInBounds d (a.tmps.getD d undef) = a.tmps := by
          apply Array.ext_getElem?
          intro i
          rw [Array.getElem?_setIfInBounds]
          split
          · rename_i h; subst h; simp [hlt]
          · rfl
        rw [this]
    rw [e, putAll_congr l (k + 1) _ (fun i => match (l[i - (k + 1)]?).bind (·.dst) with | none => undef | some d => a.tmps.getD d undef) a ?_]
    · exact putAll_base n l (k + 1) a hn hs.2
    · intro j hj
      obtain ⟨i, rfl⟩ : ∃ i, j = k + 1 + i := ⟨j - (k + 1), by omega⟩
      rw [show k + 1 + i - k = i + 1 by omega, show k + 1 + i - (k + 1) = i by omega, List.getElem?_cons_succ]
/-- Each operation waits for earlier ones alone. -/
def depsOk : Nat → List Oper → Bool
  | _, [] => true
  | k, o :: l => (o.after.all fun e => !Region.binds .any e || decide (e.on < k)) && depsOk (k + 1) l
theorem depsOk_at : ∀ (l : List Oper) (k i : Nat) (o : Oper), depsOk k l = true → l[i]? = some o → ∀ e ∈ o.after, Region.binds .any e = true → e.on < k + i
  | [], _, _, _, _, h => by cases h
  | p :: l, k, 0, o, hd, h => by
    obtain rfl : p = o := by simpa using h
    unfold depsOk at hd
    rw [Bool.and_eq_true] at hd
    intro e he hb
    have := Array.all_eq_true_iff_forall_mem.1 hd.1 e he
    simpa [hb] using this
  | p :: l, k, i + 1, o, hd, h => by
    unfold depsOk at hd
    rw [Bool.and_eq_true] at hd
    intro e he hb
    have := depsOk_at l (k + 1) i o hd.2 (by simpa using h) e he hb
    omega
/-- The rule. -/
theorem wp_region_put {P : Program} {l : List Oper} {Q : Exit → Act → World → Prop} {id : Nat} {a : Act} {w : World} (hm : P.follows .mixedOrders = true) (hs : slotsOk a.tmps.size l = true) (hd : depsOk 0 l = true) (Inv : (Nat → Bool) → (Nat → Value) → World → Prop)
    (h0 : ∀ vs, Inv (fun _ => false) vs w.drew)
    (hstep : ∀ b vs w i o, l[i]? = some o → b i = false → (∀ e ∈ o.after, Region.binds .any e = true → b e.on = true) → Inv b vs w →
      wpOp P l.toArray Q i (fun a' w' => ∃ v, a' = (putAll l 0 vs a).put o.dst v ∧ Inv (upd b i true) (upd vs i v) w') (putAll l 0 vs a) w)
    (hend : ∀ b vs w, (∀ i, i < l.length → b i = true) → Inv b vs w → Q .normal (putAll l 0 vs a) w) : (Code.region id l.toArray true).wp P Q a w := by
  refine wp_region_inv hm (fun listed a' w' => listed.size = l.length ∧ ∃ vs b, a' = putAll l 0 vs a ∧ (∀ i, i < l.length → b i = listed.getD i false) ∧ (∀ i, l.length ≤ i → b i = false) ∧ Inv b vs w') ?_ ?_ ?_
  · refine ⟨by simp, _, fun _ => false, (putAll_base _ l 0 a rfl hs).symm, fun i hi => by simp [hi], fun _ _ => rfl, h0 _⟩
  · rintro listed a' w' i ⟨hsz, vs, b, rfl, hb, hb', hi⟩ hr
    obtain ⟨hun, o, ho, hall⟩ := mem_ready.1 hr
    have ho' : l[i]? = some o := by simpa using ho
    have hlt : i < l.length := (List.getElem?_eq_some_iff.1 ho').1
    have hun' : listed.getD i false = false := by
      have : i < listed.size := by omega
      simp [this] at hun ⊢; exact hun
    refine wpOp_mono ?_ (hstep b vs w' i o ho' (by rw [hb i hlt]; exact hun') (fun e he hbd => ?_) hi)
    · rintro a'' w'' ⟨v, rfl, hi'⟩
      refine ⟨by simp [hsz], upd vs i v, upd b i true, ?_, ?_, ?_, hi'⟩
      · have := putAll_upd _ l 0 i o vs a v hs ho'
        rw [Nat.zero_add] at this
        exact this.symm
      · intro j hj
        by_cases e : j = i
        · subst e; rw [upd_same]; simp [hsz, hj]
        · rw [upd_other _ _ _ _ e, hb j hj]; simp only [Array.getD_eq_getD_getElem?, Array.getElem?_setIfInBounds_ne (Ne.symm e)]
      · intro j hj
        rw [upd_other _ _ _ _ (by omega)]; exact hb' j hj
    · have h := hall e he hbd
      have hel : e.on < l.length := by
        rcases Nat.lt_or_ge e.on listed.size with h' | h'
        · omega
        · simp [Array.getElem?_eq_none h'] at h
      rw [hb _ hel]; exact h
  · rintro listed a' w' ⟨hsz, vs, b, rfl, hb, hb', hi⟩ hr
    refine hend b vs w' ?_ hi
    intro i
    induction i using Nat.strongRecOn with
    | ind i ih =>
      intro hlt
      cases hbi : b i with
      | true => rfl
      | false =>
        obtain ⟨o, ho⟩ : ∃ o, l[i]? = some o := ⟨_, List.getElem?_eq_getElem hlt⟩
        have hin : i ∈ Region.ready .any l.toArray listed := by
          refine mem_ready.2 ⟨?_, o, by simpa using ho, fun e he hbd => ?_⟩
          · have : i < listed.size := by omega
            have h2 : listed.getD i false = false := by rw [← hb i hlt]; exact hbi
            simp [this] at h2 ⊢; exact h2
          · have h1 := depsOk_at l 0 i o hd ho e he hbd
            rw [← hb e.on (by omega)]
            exact ih e.on (by omega) (by omega)
        rw [hr] at hin
        cases hin
#print axioms wp_region_put
end Go.Proofs.YticoklfgmflidaaDoor

