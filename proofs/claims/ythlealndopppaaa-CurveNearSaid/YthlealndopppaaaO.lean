/- The rule for drawn regions, with guarded operations: whether an operation is wanted is told by what its guard has yielded. -/
import Derived.Test.YthlealndopppaaaE
namespace Go.Proofs.Ythlealndopppaaa
open Go.RowKit
theorem wanted_at {ops : Array Oper} {tmps : Array Value} {o : Oper} {j t : Nat} {b : Bool} (hg : o.guard = some (j, b)) (hd : (ops[j]?).bind (·.dst) = some t) (ht : tmps[t]? = some (.bool b)) : Region.wanted o (yielded ops tmps) = true := by
  unfold Region.wanted yielded
  rw [hg]
  simp [hd, ht]
theorem unwanted_at {ops : Array Oper} {tmps : Array Value} {o : Oper} {j t : Nat} {b c : Bool} (hg : o.guard = some (j, b)) (hd : (ops[j]?).bind (·.dst) = some t) (ht : tmps[t]? = some (.bool c)) (hbc : c ≠ b) : ¬ Region.wanted o (yielded ops tmps) = true := by
  unfold Region.wanted yielded
  rw [hg]
  simp [hd, ht, hbc]
theorem putAll_size : ∀ (l : List Oper) (k : Nat) (vs : Nat → Value) (a : Act), (putAll l k vs a).tmps.size = a.tmps.size
  | [], _, _, _ => rfl
  | o :: l, k, vs, a => by unfold putAll; rw [putAll_size l, put_size]
theorem slotsOk_lt {n : Nat} : ∀ {l : List Oper} {j : Nat} {o : Oper} {t : Tmp}, slotsOk n l = true → l[j]? = some o → o.dst = some t → t < n
  | [], _, _, _, _, h, _ => by cases h
  | p :: l, 0, o, t, hs, h, hd => by
    obtain rfl : p = o := by simpa using h
    unfold slotsOk at hs
    rw [hd] at hs
    simp only [Bool.and_eq_true, decide_eq_true_eq] at hs
    exact hs.1.1
  | p :: l, j + 1, o, t, hs, h, hd => by
    unfold slotsOk at hs
    rw [Bool.and_eq_true] at hs
    exact slotsOk_lt hs.2 (by simpa using h) hd
/-- What an operation has yielded stands in its slot. -/
theorem putAll_at {l : List Oper} {vs : Nat → Value} {a : Act} (hs : slotsOk a.tmps.size l = true) {j : Nat} {o : Oper} {t : Tmp} (h : l[j]? = some o) (hd : o.dst = some t) : (putAll l 0 vs a).tmps[t]? = some (vs j) := by
  have e := putAll_upd _ l 0 j o vs a (vs j) hs h
  have hu : upd vs (0 + j) (vs j) = vs := by
    funext i
    unfold upd
    split
    · rename_i hi; rw [hi, Nat.zero_add]
    · rfl
  rw [hu, hd] at e
  rw [e]
  have hlt : t < (putAll l 0 vs a).tmps.size := by rw [putAll_size]; exact slotsOk_lt hs h hd
  simp [Act.put, hlt]
/-- One operation of a region, its guard told. -/
inductive StepOk (P : Program) (l : List Oper) (Q : Exit → Act → World → Prop) (o : Oper) (vs : Nat → Value) (a : Act) (w : World) (K : Act → World → Prop) : Prop
  | plain (hg : o.guard = none) (h : ∀ K', (∀ a w, K a w → K' a w) → o.wp P a w K' Q)
  | on (j : Nat) (c : Bool) (hg : o.guard = some (j, c)) (hd : ((l[j]?).bind (·.dst)).isSome = true) (hv : vs j = .bool c) (h : ∀ K', (∀ a w, K a w → K' a w) → o.wp P a w K' Q)
  | off (j : Nat) (c : Bool) (hg : o.guard = some (j, c)) (hd : ((l[j]?).bind (·.dst)).isSome = true) (hv : vs j = .bool (!c)) (h : K (a.put o.dst undef) w)
theorem StepOk.step {P : Program} {l : List Oper} {Q : Exit → Act → World → Prop} {o : Oper} {vs : Nat → Value} {a : Act} {w : World} {K : Act → World → Prop} {i : Nat} (hs : slotsOk a.tmps.size l = true) (ho : l[i]? = some o) (h : StepOk P l Q o vs (putAll l 0 vs a) w K) : wpOp P l.toArray Q i K (putAll l 0 vs a) w := by
  have ho' : l.toArray[i]? = some o := by simpa using ho
  refine wpOp_step ho' (fun K' hK => ?_)
  cases h with
  | plain hg h =>
    rw [if_pos (by unfold Region.wanted; rw [hg])]
    exact h K' hK
  | on j c hg hd hv h =>
    obtain ⟨t, ht⟩ := Option.isSome_iff_exists.1 hd
    obtain ⟨oj, hoj, hdj⟩ := Option.bind_eq_some_iff.1 ht
    rw [if_pos (wanted_at (t := t) hg (by simpa using ht) (by rw [putAll_at hs hoj hdj, hv]))]
    exact h K' hK
  | off j c hg hd hv h =>
    obtain ⟨t, ht⟩ := Option.isSome_iff_exists.1 hd
    obtain ⟨oj, hoj, hdj⟩ := Option.bind_eq_some_iff.1 ht
    rw [if_neg (unwanted_at (t := t) hg (by simpa using ht) (by rw [putAll_at hs hoj hdj, hv]) (by cases c <;> simp))]
    exact hK _ _ h
/-- The rule. -/
theorem wp_region_put3 {P : Program} {l : List Oper} {Q : Exit → Act → World → Prop} {id : Nat} {a : Act} {w : World} (hm : P.follows .mixedOrders = true) (hs : slotsOk a.tmps.size l = true) (hd : depsOk 0 l = true) (Inv : (Nat → Bool) → (Nat → Value) → World → Prop)
    (h0 : ∀ vs, Inv (fun _ => false) vs w.drew)
    (hstep : ∀ b vs w i o, l[i]? = some o → b i = false → (∀ e ∈ o.after, Region.binds .any e = true → b e.on = true) → Inv b vs w →
      StepOk P l Q o vs (putAll l 0 vs a) w (fun a' w' => ∃ v, a' = (putAll l 0 vs a).put o.dst v ∧ Inv (upd b i true) (upd vs i v) w'))
    (hend : ∀ b vs w, (∀ i, i < l.length → b i = true) → Inv b vs w → Q .normal (putAll l 0 vs a) w) : (Code.region id l.toArray true).wp P Q a w :=
  wp_region_put hm hs hd Inv h0 (fun b vs w i o ho hb he hi => (hstep b vs w i o ho hb he hi).step hs ho) hend
end Go.Proofs.Ythlealndopppaaa
