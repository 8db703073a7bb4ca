/- A region that makes a row by appends, one on another, whatever its order. -/
import Derived.Test.YtbllbncmeihaaaaHt
import Derived.Test.YtbllbncmeihaaaaHd
namespace Go.Proofs.Ytbllbncmeihaaaa
open Go.RowKit
/-- What holds: the last row made so far is the call's own. -/
def ChM (W : World) (t : TypeId) (A : List Made) (b : Nat → Bool) (vs : Nat → Value) (w : World) : Prop :=
  Below W.heap.size W w ∧ (∀ x ∈ A, b x.op = true → (∀ y ∈ A, x.op < y.op → b y.op = false) → Own w W.heap.size t (vs x.op) x.pts) ∧ ∀ x ∈ A, ∀ y ∈ A, x.op < y.op → b y.op = true → b x.op = true
section
variable {W w w' : World} {t : TypeId} {A : List Made} {b : Nat → Bool} {vs : Nat → Value}
theorem ChM.start (vs : Nat → Value) : ChM W t A (fun _ => false) vs W.drew := ⟨⟨rfl, rfl, rfl, Nat.le_refl _, fun _ _ => rfl⟩, fun _ _ h => (Bool.noConfusion h), fun _ _ _ _ _ h => (Bool.noConfusion h)⟩
theorem ChM.below (h : ChM W t A b vs w) : Below W.heap.size W w := h.1
theorem ChM.other (h : ChM W t A b vs w) (i : Nat) (v : Value) (hi : (A.all fun x => decide (x.op ≠ i)) = true) : ChM W t A (upd b i true) (upd vs i v) w := by
  have hm : ∀ x ∈ A, x.op ≠ i := fun x hx => by simpa using List.all_eq_true.1 hi x hx
  refine ⟨h.1, fun x hx hbx hl => ?_, fun x hx y hy hxy hby => ?_⟩
  · rw [upd_other _ _ _ _ (hm x hx)] at hbx ⊢
    exact h.2.1 x hx hbx fun y hy hxy => by have := hl y hy hxy; rwa [upd_other _ _ _ _ (hm y hy)] at this
  · rw [upd_other _ _ _ _ (hm y hy)] at hby
    rw [upd_other _ _ _ _ (hm x hx)]
    exact h.2.2 x hx y hy hxy hby
/-- One more: it is made (first), or made of the one before. -/
theorem ChM.made (h : ChM W t A b vs w) (x : Made) (hx : x ∈ A) (v : Value) (hB : Below W.heap.size W w') (ho : Own w' W.heap.size t v x.pts)
    (hun : b x.op = false) (hbefore : ∀ y ∈ A, y.op < x.op → b y.op = true) (hinj : ∀ y ∈ A, y.op = x.op → y = x) : ChM W t A (upd b x.op true) (upd vs x.op v) w' := by
  have hafter : ∀ y ∈ A, x.op < y.op → b y.op = false := fun y hy hxy => by
    cases hb : b y.op
    · rfl
    · rw [h.2.2 x hx y hy hxy hb] at hun; cases hun
  refine ⟨hB, fun y hy hby hl => ?_, fun y hy z hz hyz hbz => ?_⟩
  · by_cases e : y.op = x.op
    · rw [hinj y hy e, upd_same]; exact ho
    · rw [upd_other _ _ _ _ e] at hby
      exfalso
      rcases Nat.lt_or_gt_of_ne e with hlt | hgt
      · have := hl x hx hlt
        rw [upd_same] at this; cases this
      · rw [hafter y hy hgt] at hby; cases hby
  · by_cases e : y.op = x.op
    · rw [e, upd_same]
    · rw [upd_other _ _ _ _ e]
      by_cases e2 : z.op = x.op
      · exact hbefore y hy (by omega)
      · rw [upd_other _ _ _ _ e2] at hbz
        exact h.2.2 y hy z hz hyz hbz
theorem ChM.at (h : ChM W t A b vs w) (x : Made) (hx : x ∈ A) (hb : b x.op = true) (hl : ∀ y ∈ A, x.op < y.op → b y.op = false) : Own w W.heap.size t (vs x.op) x.pts := h.2.1 x hx hb hl
end
theorem cells_of {w : World} {b : Nat} : ∀ {l : List Pt} {o : Nat}, PtsAt w b o l → ∀ j u, (flatL l)[j]? = some u → w.cell? ⟨b, o + j, none⟩ = some u
  | [], _, _, _, _, h => by simp [flatL] at h
  | p :: l, o, hp, 0, u, h => by
    have := (hp 0 p rfl).1
    simp [flatL] at h
    subst h
    simpa using this
  | p :: l, o, hp, 1, u, h => by
    have := (hp 0 p rfl).2
    simp [flatL] at h
    subst h
    simpa using this
  | p :: l, o, hp, j + 2, u, h => by
    have hp' : PtsAt w b (o + 2) l := fun i q hq => by
      have := hp (i + 1) q (by simpa using hq)
      rw [show o + 2 + i * 2 = o + (i + 1) * 2 by omega]
      exact this
    have := cells_of hp' j u (by simpa [flatL] using h)
    rw [show o + (j + 2) = o + 2 + j by omega]; exact this
theorem PtsAt.drop {w : World} {b o : Nat} {l : List Pt} (h : PtsAt w b o l) (k : Nat) : PtsAt w b (o + k * 2) (l.drop k) := fun i p hp => by
  rw [List.getElem?_drop] at hp
  have := h (k + i) p hp
  rw [show o + k * 2 + i * 2 = o + (k + i) * 2 by omega]; exact this
theorem PtsAt.take {w : World} {b o : Nat} {l : List Pt} (h : PtsAt w b o l) (k : Nat) : PtsAt w b o (l.take k) := fun i p hp => by
  rw [List.getElem?_take] at hp
  split at hp
  · exact h i p hp
  · cases hp
theorem news_of {w : World} {b o : Nat} {l : List Pt} (h : PtsAt w b o l) : ∀ j u, (flatL l)[j]? = some u → w.cell? ((⟨b, o, none⟩ : Addr).add j) = some u := fun j u hj => by
  have := cells_of h j u hj
  cases j <;> simpa [Addr.add] using this
/-- A row just made, of a literal. -/
theorem Own.made (w : World) {base : Nat} (hb : base ≤ w.heap.size) (t : TypeId) (l : List Pt) (cs : Array Value) (n : Nat) (hcs : cs = flat l) (hn : n = l.length) (hl : n ≤ maxLen) : Own (w.alloc (.cells cs t)) base t (.slice (some ⟨w.heap.size, 0, none⟩) n n) l := by
  subst hcs hn
  refine ⟨flatL_length l, .inr ⟨w.heap.size, l.length, flat l, rfl, hb, heap_alloc_new _ _, Nat.le_refl _, hl, by simp [flat, flatL_length], ?_⟩⟩
  simp [flat, List.take_of_length_le, flatL_length]
end Go.Proofs.Ytbllbncmeihaaaa
