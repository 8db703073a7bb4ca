/- Layer 13: a rule for long drawn regions: values out of a table. -/
import Derived.Test.YteobffggfcmghaaDoorSi
namespace Go.Proofs.YteobffggfcmghaaDoor
open Go.RowKit
/-- The values that operations have come up with are those of a table (one is free). -/
def TabI (V : Nat → Value) (f : Nat) (b : Nat → Bool) (vs : Nat → Value) : Prop := ∀ i, i ≠ f → b i = true → vs i = V i
theorem TabI.start (V : Nat → Value) (f : Nat) (vs : Nat → Value) : TabI V f (fun _ => false) vs := fun _ _ h => Bool.noConfusion h
theorem TabI.put {V : Nat → Value} {f : Nat} {b : Nat → Bool} {vs : Nat → Value} (h : TabI V f b vs) {k : Nat} {v : Value} (hv : k = f ∨ v = V k) : TabI V f (upd b k true) (upd vs k v) := fun i hi hb => by
  by_cases e : i = k
  · subst e
    rcases hv with hv | hv
    · exact absurd hv hi
    · rw [upd_same]; exact hv
  · rw [upd_other _ _ _ _ e] at hb
    rw [upd_other _ _ _ _ e]
    exact h i hi hb
theorem put_else (a : Act) (d : Option Tmp) (v : Value) (t : Tmp) (h : d ≠ some t) : (a.put d v).tmps[t]? = a.tmps[t]? := by
  cases d with
  | none => rfl
  | some d =>
    have hd : d ≠ t := fun e => h (by rw [e])
    show (a.tmps.setIfInBounds d v)[t]? = _
    rw [Array.getElem?_setIfInBounds_ne hd]
theorem putAll_else (t : Tmp) : ∀ (l : List Oper) (k : Nat) (vs : Nat → Value) (a : Act), (l.all fun p => decide (p.dst ≠ some t)) = true → (putAll l k vs a).tmps[t]? = a.tmps[t]?
  | [], _, _, _, _ => rfl
  | o :: l, k, vs, a, h => by
    simp only [List.all_cons, Bool.and_eq_true, decide_eq_true_eq] at h
    unfold putAll
    rw [putAll_else t l (k + 1) vs _ (by simpa using h.2), put_else _ _ _ _ h.1]
theorem putAll_defers : ∀ (l : List Oper) (k : Nat) (vs : Nat → Value) (a : Act), (putAll l k vs a).defers = a.defers
  | [], _, _, _ => rfl
  | o :: l, k, vs, a => by
    unfold putAll
    rw [putAll_defers l (k + 1) vs _]
    cases o.dst <;> rfl
/-- What is known of the state while a drawn region runs: each operation's slot, the others' as they were. -/
structure StA (l : List Oper) (a : Act) (vs : Nat → Value) (A : Act) : Prop where
  at' : ∀ j oj t, l[j]? = some oj → oj.dst = some t → A.tmps[t]? = some (vs j)
  old : ∀ t, (l.all fun p => decide (p.dst ≠ some t)) = true → A.tmps[t]? = a.tmps[t]?
  defers : A.defers = a.defers
theorem wp_region_tab {P : Program} {l : List Oper} {Q : Exit → Act → World → Prop} {id : Nat} {a : Act} {w : World} (hm : P.follows .mixedOrders = true) (hs : slotsOk a.tmps.size l = true) (hd : depsOk 0 l = true) (Inv : (Nat → Bool) → (Nat → Value) → World → Prop)
    (h0 : ∀ vs, Inv (fun _ => false) vs w.drew)
    (hstep : ∀ b vs w i o A, l[i]? = some o → b i = false → (∀ e ∈ o.after, Region.binds .any e = true → b e.on = true) → Inv b vs w → StA l a vs A →
      StepOk P l Q o vs A w (fun a' w' => ∃ v, a' = A.put o.dst v ∧ Inv (upd b i true) (upd vs i v) w'))
    (hend : ∀ b vs w A, (∀ i, i < l.length → b i = true) → Inv b vs w → StA l a vs A → Q .normal A w) : (Code.region id l.toArray true).wp P Q a w := by
  have st : ∀ vs, StA l a vs (putAll l 0 vs a) := fun vs => ⟨fun j oj t h1 h2 => putAll_at hs h1 h2, fun t h => putAll_else t l 0 vs a h, putAll_defers l 0 vs a⟩
  exact wp_region_put3 hm hs hd Inv h0 (fun b vs w i o ho hb he hi => hstep b vs w i o _ ho hb he hi (st vs)) (fun b vs w hall hi => hend b vs w _ hall hi (st vs))
end Go.Proofs.YteobffggfcmghaaDoor
