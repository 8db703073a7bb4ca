/- A drawn region that ends in an append. -/
import Derived.Test.YtffgpikhahpomaaDoorV
namespace Go.Proofs.YtffgpikhahpomaaDoor
open Go.RowKit
theorem wp_append_pts {w : World} {o : Oper} {a : Act} {K : Act → World → Prop} {Q : Exit → Act → World → Prop} (s x : Operand) (t T : TypeId)
    (ho : o.op = .call { callee := .builtin .append, args := #[s, x], argTypes := #[t, t] }) (ht : Tryd.prog.underlying t = some (.slice T)) (hT : (Tryd.prog.info? T).map (fun i => (i.zero, i.size, i.bytes)) = some (some (.agg (two (0, 0))), 2, 16))
    (base : Nat) (v : Value) (X : List Pt) (hs : a.eval s = v) (hown : Own w base T v X) (u : Value) (Y : List Pt) (hx : a.eval x = u) (row : Row w u Y) (hl : X.length + Y.length ≤ 100000) (hbase : base ≤ w.heap.size)
    (h : ∀ v' w', Own w' base T v' (X ++ Y) → w.grownBy w' v.ownBlock → Moved w v v' → K (a.put o.dst v') w') : o.wp Tryd.prog a w K Q := by
  obtain ⟨v', w', hr, h1, h2, h3⟩ := run_append_pts w t o.type T ht hT base v X hown u Y row hl hbase
  unfold Oper.wp execOp
  simp only [ho, resolve, invoke, builtin, Sem.run_bind, Sem.run_pure, Result.andThen_ok, List.map_toArray, List.map_cons, List.map_nil, hs, hx, hr]
  exact h v' w' h1 h2 h3
/-- The rule, where what a slot held ahead is wanted. -/
theorem wp_region_put2 {P : Program} {l : List Oper} {Q : Exit → Act → World → Prop} {id : Nat} {a : Act} {w : World} (hm : P.follows .mixedOrders = true) (hs : slotsOk a.tmps.size l = true) (hd : depsOk 0 l = true) (Inv : (Nat → Bool) → (Nat → Value) → World → Prop)
    (h0 : ∀ vs, (∀ i o d, l[i]? = some o → o.dst = some d → vs i = a.tmps.getD d undef) → Inv (fun _ => false) vs w.drew)
    (hstep : ∀ b vs w i o, l[i]? = some o → b i = false → (∀ e ∈ o.after, Region.binds .any e = true → b e.on = true) → Inv b vs w →
      wpOp P l.toArray Q i (fun a' w' => ∃ v, a' = (putAll l 0 vs a).put o.dst v ∧ Inv (upd b i true) (upd vs i v) w') (putAll l 0 vs a) w)
    (hend : ∀ b vs w, (∀ i, i < l.length → b i = true) → Inv b vs w → Q .normal (putAll l 0 vs a) w) : (Code.region id l.toArray true).wp P Q a w := by
  refine wp_region_inv hm (fun listed a' w' => listed.size = l.length ∧ ∃ vs b, a' = putAll l 0 vs a ∧ (∀ i, i < l.length → b i = listed.getD i false) ∧ (∀ i, l.length ≤ i → b i = false) ∧ Inv b vs w') ?_ ?_ ?_
  · refine ⟨by simp, _, fun _ => false, (putAll_base _ l 0 a rfl hs).symm, fun i hi => by simp [hi], fun _ _ => rfl, h0 _ fun i o d ho hd => by simp [ho, hd]⟩
  · rintro listed a' w' i ⟨hsz, vs, b, rfl, hb, hb', hi⟩ hr
    obtain ⟨hun, o, ho, hall⟩ := mem_ready.1 hr
    have ho' : l[i]? = some o := by simpa using ho
    have hlt : i < l.length := (List.getElem?_eq_some_iff.1 ho').1
    have hun' : listed.getD i false = false := by
      have : i < listed.size := by omega
      simp [this] at hun ⊢; exact hun
    refine wpOp_mono ?_ (hstep b vs w' i o ho' (by rw [hb i hlt]; exact hun') (fun e he hbd => ?_) hi)
    · rintro a'' w'' ⟨v, rfl, hi'⟩
      refine ⟨by simp [hsz], upd vs i v, upd b i true, ?_, ?_, ?_, hi'⟩
      · have := putAll_upd _ l 0 i o vs a v hs ho'
        rw [Nat.zero_add] at this
        exact this.symm
      · intro j hj
        by_cases e : j = i
        · subst e; rw [upd_same]; simp [hsz, hj]
        · rw [upd_other _ _ _ _ e, hb j hj]; simp only [Array.getD_eq_getD_getElem?, Array.getElem?_setIfInBounds_ne (Ne.symm e)]
      · intro j hj
        rw [upd_other _ _ _ _ (by omega)]; exact hb' j hj
    · have h := hall e he hbd
      have hel : e.on < l.length := by
        rcases Nat.lt_or_ge e.on listed.size with h' | h'
        · omega
        · simp [Array.getElem?_eq_none h'] at h
      rw [hb _ hel]; exact h
  · rintro listed a' w' ⟨hsz, vs, b, rfl, hb, hb', hi⟩ hr
    refine hend b vs w' ?_ hi
    intro i
    induction i using Nat.strongRecOn with
    | ind i ih =>
      intro hlt
      cases hbi : b i with
      | true => rfl
      | false =>
        obtain ⟨o, ho⟩ : ∃ o, l[i]? = some o := ⟨_, List.getElem?_eq_getElem hlt⟩
        have hin : i ∈ Region.ready .any l.toArray listed := by
          refine mem_ready.2 ⟨?_, o, by simpa using ho, fun e he hbd => ?_⟩
          · have : i < listed.size := by omega
            have h2 : listed.getD i false = false := by rw [← hb i hlt]; exact hbi
            simp [this] at h2 ⊢; exact h2
          · have h1 := depsOk_at l 0 i o hd ho e he hbd
            rw [← hb e.on (by omega)]
            exact ih e.on (by omega) (by omega)
        rw [hr] at hin
        cases hin
/-- What holds in a region in which calls yield rows and one append comes last. -/
def RegA (n : Nat) (w0 : World) (A : List Made) (F : World → Prop) (ap : Nat) (G : Value → World → Prop) (b : Nat → Bool) (vs : Nat → Value) (w : World) : Prop :=
  (Below n w0 w ∧ n ≤ w.heap.size) ∧ (b ap = false → (∀ x ∈ A, b x.op = true → Own w n x.t (vs x.op) x.pts) ∧ F w) ∧ (b ap = true → G (vs ap) w ∧ ∀ x ∈ A, b x.op = true)
section
variable {n : Nat} {w0 w w' : World} {A : List Made} {F : World → Prop} {ap : Nat} {G : Value → World → Prop} {b : Nat → Bool} {vs : Nat → Value}
theorem RegA.start (hF : ∀ w w', F w → Below w.heap.size w w' → F w') (h : (Below n w0 w ∧ n ≤ w.heap.size) ∧ F w) (vs : Nat → Value) : RegA n w0 A F ap G (fun _ => false) vs w.drew :=
  ⟨⟨below_drewN h.1.1 1, h.1.2⟩, fun _ => ⟨fun _ _ h => Bool.noConfusion h, hF _ _ h.2 ⟨rfl, rfl, rfl, Nat.le_refl _, fun _ _ => rfl⟩⟩, fun h => Bool.noConfusion h⟩
theorem RegA.other (h : RegA n w0 A F ap G b vs w) (i : Nat) (v : Value) (hi : ((A.all fun x => decide (x.op ≠ i)) && decide (ap ≠ i)) = true) : RegA n w0 A F ap G (upd b i true) (upd vs i v) w := by
  rw [Bool.and_eq_true] at hi
  have hA : ∀ x ∈ A, x.op ≠ i := fun x hx => by simpa using List.all_eq_true.1 hi.1 x hx
  have hp : ap ≠ i := by simpa using hi.2
  refine ⟨h.1, ?_, ?_⟩
  · rw [upd_other _ _ _ _ hp]
    intro hb
    refine ⟨fun x hx hbx => ?_, (h.2.1 hb).2⟩
    rw [upd_other _ _ _ _ (hA x hx)] at hbx ⊢
    exact (h.2.1 hb).1 x hx hbx
  · rw [upd_other _ _ _ _ hp, upd_other _ _ _ _ hp]
    intro hb
    refine ⟨(h.2.2 hb).1, fun x hx => ?_⟩
    rw [upd_other _ _ _ _ (hA x hx)]
    exact (h.2.2 hb).2 x hx
theorem RegA.grow (hF : ∀ w w', F w → Below w.heap.size w w' → F w') (hG : ∀ v w w', G v w → Below w.heap.size w w' → G v w') (h : RegA n w0 A F ap G b vs w) (hb : Below w.heap.size w w') : RegA n w0 A F ap G b vs w' :=
  ⟨⟨h.1.1.trans (hb.mono h.1.2), Nat.le_trans h.1.2 hb.size⟩, fun hp => ⟨fun x hx hbx => ((h.2.1 hp).1 x hx hbx).grow hb, hF _ _ (h.2.1 hp).2 hb⟩, fun hp => ⟨hG _ _ _ (h.2.2 hp).1 hb, (h.2.2 hp).2⟩⟩
theorem RegA.made (h : RegA n w0 A F ap G b vs w) (x : Made) (v : Value) (ho : True → Own w n x.t v x.pts) (hA : ∀ y ∈ A, y.op = x.op → y.t = x.t ∧ y.pts = x.pts) (hp : decide (ap ≠ x.op) = true) (hx : x ∈ A) (hun : b x.op = false) : RegA n w0 A F ap G (upd b x.op true) (upd vs x.op v) w := by
  have hp : ap ≠ x.op := by simpa using hp
  refine ⟨h.1, ?_, ?_⟩
  · rw [upd_other _ _ _ _ hp]
    intro hb
    refine ⟨fun y hy hby => ?_, (h.2.1 hb).2⟩
    by_cases e : y.op = x.op
    · have := hA y hy e
      rw [e, upd_same, this.1, this.2]
      exact ho trivial
    · rw [upd_other _ _ _ _ e] at hby ⊢
      exact (h.2.1 hb).1 y hy hby
  · rw [upd_other _ _ _ _ hp]
    intro hb
    rw [(h.2.2 hb).2 x hx] at hun
    cases hun
theorem RegA.row (h : RegA n w0 A F ap G b vs w) (x : Made) (hx : x ∈ A) (hap : b ap = false) (hd : b x.op = true) : Own w n x.t (vs x.op) x.pts := (h.2.1 hap).1 x hx hd
theorem RegA.facts (h : RegA n w0 A F ap G b vs w) (hap : b ap = false) : F w := (h.2.1 hap).2
theorem RegA.appended (h : RegA n w0 A F ap G b vs w) (hun : b ap = false) (v : Value) (hb : Below n w0 w' ∧ n ≤ w'.heap.size) (hg : G v w') (hall : ∀ x ∈ A, b x.op = true) : RegA n w0 A F ap G (upd b ap true) (upd vs ap v) w' := by
  have _ := h
  refine ⟨hb, ?_, ?_⟩
  · rw [upd_same]; intro h; cases h
  · rw [upd_same]
    intro _
    refine ⟨by rw [upd_same]; exact hg, fun x hx => ?_⟩
    have hne : x.op ≠ ap := fun e => by have := hall x hx; rw [e, hun] at this; cases this
    rw [upd_other _ _ _ _ hne]
    exact hall x hx
theorem RegA.done (h : RegA n w0 A F ap G b vs w) (hd : b ap = true) : G (vs ap) w := (h.2.2 hd).1
end
end Go.Proofs.YtffgpikhahpomaaDoor

