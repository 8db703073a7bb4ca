/- Variables laid in a drawn region, each of its own type. -/
import Derived.Test.YtoppmlfibllhlaaV
namespace Go.Proofs.Ytoppmlfibllhlaa
open Go.RowKit

/-- A variable of such a region: the operation that makes it, the one that stores into it, what is stored. -/
structure LaidT where
  al : Nat
  st : Nat
  t : TypeId
  z : Array Value
  cs : Array Value
/-- What holds, whichever operations have come up. -/
def LayG (w1 : World) (A : List LaidT) (b : Nat → Bool) (vs : Nat → Value) (w : World) : Prop :=
  Below w1.heap.size w1 w ∧ (∀ x ∈ A, b x.al = true → ∃ g, vs x.al = .pointer (some ⟨g, 0, none⟩) ∧ w1.heap.size ≤ g ∧ Blk w g x.t (if b x.st = true then x.cs else x.z)) ∧
    (∀ x ∈ A, ∀ y ∈ A, x.al ≠ y.al → b x.al = true → b y.al = true → vs x.al ≠ vs y.al) ∧ (∀ x ∈ A, b x.st = true → b x.al = true)
section
variable {w1 w w' : World} {A : List LaidT} {b : Nat → Bool} {vs : Nat → Value}
theorem LayG.start (vs : Nat → Value) : LayG w1 A (fun _ => false) vs w1.drew :=
  ⟨⟨rfl, rfl, rfl, Nat.le_refl _, fun _ _ => rfl⟩, fun _ _ h => (Bool.noConfusion h), fun _ _ _ _ _ h => (Bool.noConfusion h), fun _ _ h => (Bool.noConfusion h)⟩
theorem LayG.below (h : LayG w1 A b vs w) : Below w1.heap.size w1 w := h.1
theorem LayG.grow (h : LayG w1 A b vs w) (hb : Below w.heap.size w w') : LayG w1 A b vs w' :=
  ⟨below_next h.1 hb, fun x hx hbx => by
    obtain ⟨g, e, l, k⟩ := h.2.1 x hx hbx
    exact ⟨g, e, l, k.grow hb⟩, h.2.2.1, h.2.2.2⟩
/-- An operation that is none of these. -/
theorem LayG.other (h : LayG w1 A b vs w) (i : Nat) (v : Value) (hi : (A.all fun x => decide (x.al ≠ i) && decide (x.st ≠ i)) = true) : LayG w1 A (upd b i true) (upd vs i v) w := by
  have hm : ∀ x ∈ A, x.al ≠ i ∧ x.st ≠ i := fun x hx => by
    have := List.all_eq_true.1 hi x hx
    simpa using this
  refine ⟨h.1, fun x hx hbx => ?_, fun x hx y hy hxy hbx hby => ?_, fun x hx hbx => ?_⟩
  · rw [upd_other _ _ _ _ (hm x hx).1] at hbx
    rw [upd_other _ _ _ _ (hm x hx).1, upd_other _ _ _ _ (hm x hx).2]
    exact h.2.1 x hx hbx
  · rw [upd_other _ _ _ _ (hm x hx).1] at hbx ⊢
    rw [upd_other _ _ _ _ (hm y hy).1] at hby ⊢
    exact h.2.2.1 x hx y hy hxy hbx hby
  · rw [upd_other _ _ _ _ (hm x hx).2] at hbx
    rw [upd_other _ _ _ _ (hm x hx).1]
    exact h.2.2.2 x hx hbx
/-- The numbers are all different. -/
def numsOkT : List LaidT → Bool
  | [] => true
  | x :: l => decide (x.al ≠ x.st) && (l.all fun y => decide (x.al ≠ y.al) && decide (x.al ≠ y.st) && decide (x.st ≠ y.al) && decide (x.st ≠ y.st)) && numsOkT l
theorem numsT_at : ∀ {A : List LaidT}, numsOkT A = true → ∀ x ∈ A, ∀ y ∈ A, x = y ∨ (x.al ≠ y.al ∧ x.al ≠ y.st ∧ x.st ≠ y.al ∧ x.st ≠ y.st)
  | [], _, _, h, _, _ => by cases h
  | a :: l, h, x, hx, y, hy => by
    unfold numsOkT at h
    simp only [Bool.and_eq_true, decide_eq_true_eq, List.all_eq_true] at h
    rcases List.mem_cons.1 hx with hxa | hxl
    · subst hxa
      rcases List.mem_cons.1 hy with hya | hyl
      · exact .inl hya.symm
      · have := h.1.2 y hyl
        exact .inr ⟨this.1.1.1, this.1.1.2, this.1.2, this.2⟩
    · rcases List.mem_cons.1 hy with hya | hyl
      · subst hya
        have := h.1.2 x hxl
        exact .inr ⟨Ne.symm this.1.1.1, Ne.symm this.1.2, Ne.symm this.1.1.2, Ne.symm this.2⟩
      · exact numsT_at h.2 x hxl y hyl
theorem numsT_self : ∀ {A : List LaidT}, numsOkT A = true → ∀ x ∈ A, x.al ≠ x.st
  | [], _, _, h => by cases h
  | a :: l, h, x, hx => by
    unfold numsOkT at h
    simp only [Bool.and_eq_true, decide_eq_true_eq] at h
    rcases List.mem_cons.1 hx with rfl | hx
    · exact h.1.1
    · exact numsT_self h.2 x hx
/-- The variable is made. -/
theorem LayG.made (h : LayG w1 A b vs w) (hA : numsOkT A = true) (x : LaidT) (hx : x ∈ A) (hun : b x.al = false) :
    LayG w1 A (upd b x.al true) (upd vs x.al (.pointer (some ⟨w.heap.size, 0, none⟩))) (w.alloc (.cells x.z x.t)) := by
  have hself := numsT_self hA
  have hno : b x.st = false := by
    cases hb : b x.st
    · rfl
    · rw [h.2.2.2 x hx hb] at hun; cases hun
  refine ⟨h.1.alloc h.1.size _, fun y hy hby => ?_, fun y hy u hu hyu hby hbu => ?_, fun y hy hby => ?_⟩
  · rcases numsT_at hA x hx y hy with rfl | ⟨d1, d2, d3, d4⟩
    · rw [upd_same, upd_other _ _ _ _ (Ne.symm (hself x hx)), hno]
      exact ⟨_, rfl, h.1.size, Blk.new _ _ _⟩
    · rw [upd_other _ _ _ _ (Ne.symm d1)] at hby ⊢
      rw [upd_other _ _ _ _ (Ne.symm d2)]
      obtain ⟨g, e, l, k⟩ := h.2.1 y hy hby
      exact ⟨g, e, l, k.alloc _⟩
  · have key : ∀ y ∈ A, y.al ≠ x.al → b y.al = true → vs y.al ≠ .pointer (some ⟨w.heap.size, 0, none⟩) := fun y hy _ hby e => by
      obtain ⟨g, e', _, k⟩ := h.2.1 y hy hby
      rw [e'] at e
      have := k.lt
      simp at e
      try omega
    by_cases e1 : y.al = x.al
    · have e2 : u.al ≠ x.al := fun e => hyu (e1.trans e.symm)
      rw [e1, upd_same, upd_other _ _ _ _ e2]
      rw [upd_other _ _ _ _ e2] at hbu
      exact (key u hu e2 hbu).symm
    · rw [upd_other _ _ _ _ e1] at hby ⊢
      by_cases e2 : u.al = x.al
      · rw [e2, upd_same]; exact key y hy e1 hby
      · rw [upd_other _ _ _ _ e2] at hbu ⊢
        exact h.2.2.1 y hy u hu hyu hby hbu
  · rcases numsT_at hA x hx y hy with rfl | ⟨d1, d2, d3, d4⟩
    · exact upd_same _ _ _
    · rw [upd_other _ _ _ _ (Ne.symm d2)] at hby
      rw [upd_other _ _ _ _ (Ne.symm d1)]
      exact h.2.2.2 y hy hby
/-- It is stored into. -/
theorem LayG.stored (h : LayG w1 A b vs w) (hA : numsOkT A = true) (x : LaidT) (hx : x ∈ A) (v : Value) {g : Nat} (hal : b x.al = true) (hg : vs x.al = .pointer (some ⟨g, 0, none⟩)) (hB : Below w1.heap.size w1 w')
    (hblk : Blk w' g x.t x.cs) (hoth : ∀ g' t' cs, g' ≠ g → Blk w g' t' cs → Blk w' g' t' cs) : LayG w1 A (upd b x.st true) (upd vs x.st v) w' := by
  have hself := numsT_self hA
  refine ⟨hB, fun y hy hby => ?_, fun y hy u hu hyu hby hbu => ?_, fun y hy hby => ?_⟩
  · rcases numsT_at hA x hx y hy with rfl | ⟨d1, d2, d3, d4⟩
    · rw [upd_other _ _ _ _ (hself x hx), upd_same, hg]
      obtain ⟨g2, e, l, _⟩ := h.2.1 x hx hal
      rw [hg] at e
      simp at e
      subst e
      exact ⟨g, rfl, l, hblk⟩
    · rw [upd_other _ _ _ _ (Ne.symm d3)] at hby ⊢
      rw [upd_other _ _ _ _ (Ne.symm d4)]
      obtain ⟨g2, e, l, k⟩ := h.2.1 y hy hby
      refine ⟨g2, e, l, hoth g2 _ _ (fun e' => ?_) k⟩
      refine h.2.2.1 x hx y hy d1 hal hby ?_
      rw [hg, e, e']
  · have d : ∀ y ∈ A, y.al ≠ x.st := fun y hy => by
      rcases numsT_at hA x hx y hy with rfl | ⟨_, _, d3, _⟩
      · exact hself x hx
      · exact Ne.symm d3
    rw [upd_other _ _ _ _ (d y hy)] at hby ⊢
    rw [upd_other _ _ _ _ (d u hu)] at hbu ⊢
    exact h.2.2.1 y hy u hu hyu hby hbu
  · rcases numsT_at hA x hx y hy with rfl | ⟨d1, d2, d3, d4⟩
    · rw [upd_other _ _ _ _ (hself x hx)]; exact hal
    · rw [upd_other _ _ _ _ (Ne.symm d4)] at hby
      rw [upd_other _ _ _ _ (Ne.symm d3)]
      exact h.2.2.2 y hy hby
/-- At hand, ahead of the store. -/
theorem LayG.at (h : LayG w1 A b vs w) (x : LaidT) (hx : x ∈ A) (hal : b x.al = true) (hun : b x.st = false) : ∃ g, vs x.al = .pointer (some ⟨g, 0, none⟩) ∧ w1.heap.size ≤ g ∧ Blk w g x.t x.z := by
  obtain ⟨g, e, l, k⟩ := h.2.1 x hx hal
  rw [hun] at k
  exact ⟨g, e, l, k⟩
/-- At the end. -/
theorem LayG.done (h : LayG w1 A b vs w) (x : LaidT) (hx : x ∈ A) (hal : b x.al = true) (hst : b x.st = true) : ∃ g, vs x.al = .pointer (some ⟨g, 0, none⟩) ∧ w1.heap.size ≤ g ∧ Blk w g x.t x.cs := by
  obtain ⟨g, e, l, k⟩ := h.2.1 x hx hal
  rw [hst] at k
  exact ⟨g, e, l, k⟩
theorem LayG.ne (h : LayG w1 A b vs w) (x y : LaidT) (hx : x ∈ A) (hy : y ∈ A) (hxy : x.al ≠ y.al) (hbx : b x.al = true) (hby : b y.al = true) {g k : Nat} (ex : vs x.al = .pointer (some ⟨g, 0, none⟩)) (ey : vs y.al = .pointer (some ⟨k, 0, none⟩)) : g ≠ k := fun e => by
  subst e
  exact h.2.2.1 x hx y hy hxy hbx hby (ex.trans ey.symm)
end
end Go.Proofs.Ytoppmlfibllhlaa

