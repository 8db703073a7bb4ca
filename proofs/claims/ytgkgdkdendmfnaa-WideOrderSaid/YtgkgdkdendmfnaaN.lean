/- A region that draws its order, by an invariant: what holds at every set of operations that have come up; each operation is run once. -/
import Derived.Test.YtgkgdkdendmfnaaO
import Derived.OrdersHeld
namespace Go.Proofs.Ytgkgdkdendmfnaa
open Go.RowKit

theorem count_lt {l : List Nat} {p q : Nat → Bool} (hpq : ∀ j, q j = true → p j = true) {i : Nat} (hi : i ∈ l) (hp : p i = true) (hq : q i = false) : (l.filter q).length < (l.filter p).length := by
  have hle : ∀ l : List Nat, (l.filter q).length ≤ (l.filter p).length := by
    intro l
    induction l with
    | nil => simp
    | cons x l ih =>
      cases hx : q x
      · rw [List.filter_cons_of_neg (by simp [hx])]
        cases hy : p x
        · rw [List.filter_cons_of_neg (by simp [hy])]; exact ih
        · rw [List.filter_cons_of_pos hy]; simp; omega
      · rw [List.filter_cons_of_pos hx, List.filter_cons_of_pos (hpq x hx)]; simp; omega
  induction l with
  | nil => cases hi
  | cons x l ih =>
    rcases List.mem_cons.1 hi with rfl | hm
    · rw [List.filter_cons_of_neg (by simp [hq]), List.filter_cons_of_pos hp]
      have := hle l
      simp; omega
    · have := ih hm
      cases hx : q x
      · rw [List.filter_cons_of_neg (by simp [hx])]
        cases hy : p x
        · rw [List.filter_cons_of_neg (by simp [hy])]; exact this
        · rw [List.filter_cons_of_pos hy]; simp; omega
      · rw [List.filter_cons_of_pos hx, List.filter_cons_of_pos (hpq x hx)]; simp; omega

theorem wpAny_inv {P : Program} {md : Region.Mode} {ops : Array Oper} {Q : Exit → Act → World → Prop} (Inv : Array Bool → Act → World → Prop)
    (hstep : ∀ listed a w i, Inv listed a w → i ∈ Region.ready md ops listed → wpOp P ops Q i (Inv (listed.setIfInBounds i true)) a w)
    (hend : ∀ listed a w, Inv listed a w → Region.ready md ops listed = [] → Q .normal a w) :
    ∀ (fuel : Nat) (listed : Array Bool) (a : Act) (w : World), ((List.range ops.size).filter fun i => !listed.getD i true).length ≤ fuel → Inv listed a w → wpAny P md ops Q fuel listed a w
  | 0, listed, a, w, hf, h => by
    have hr : Region.ready md ops listed = [] := by
      apply List.eq_nil_iff_forall_not_mem.2
      intro i hi
      unfold Region.ready at hi
      have h1 := List.mem_filter.1 hi
      have h2 : i ∈ (List.range ops.size).filter fun i => !listed.getD i true := List.mem_filter.2 ⟨h1.1, (Bool.and_eq_true _ _ ▸ h1.2).1⟩
      have h3 := List.length_pos_of_mem h2
      omega
    exact ⟨hr, hend listed a w h hr⟩
  | fuel + 1, listed, a, w, hf, h => by
    refine ⟨hend listed a w h, fun i hi => wpOp_mono (fun a' w' h' => wpAny_inv Inv hstep hend fuel _ a' w' ?_ h') (hstep listed a w i h hi)⟩
    unfold Region.ready at hi
    have h1 := List.mem_filter.1 hi
    have h2 : (!listed.getD i true) = true := (Bool.and_eq_true _ _ ▸ h1.2).1
    have hlt : i < listed.size := by
      rcases Nat.lt_or_ge i listed.size with h' | h'
      · exact h'
      · simp [Array.getElem?_eq_none h'] at h2
    have := count_lt (l := List.range ops.size) (p := fun i => !listed.getD i true) (q := fun j => !(listed.setIfInBounds i true).getD j true) (fun j hj => by
      by_cases e : i = j
      · subst e; simp [hlt] at hj
      · simp only [Array.getD_eq_getD_getElem?, Array.getElem?_setIfInBounds_ne e] at hj ⊢; exact hj) h1.1 h2 (by simp [hlt])
    omega

/-- The beginning. -/
theorem wp_region_inv {P : Program} {ops : Array Oper} {Q : Exit → Act → World → Prop} {id : Nat} {a : Act} {w : World} (hm : P.follows .mixedOrders = true) (Inv : Array Bool → Act → World → Prop)
    (h0 : Inv (Array.replicate ops.size false) a w.drew)
    (hstep : ∀ listed a w i, Inv listed a w → i ∈ Region.ready .any ops listed → wpOp P ops Q i (Inv (listed.setIfInBounds i true)) a w)
    (hend : ∀ listed a w, Inv listed a w → Region.ready .any ops listed = [] → Q .normal a w) : (Code.region id ops true).wp P Q a w := by
  refine wp_region_any hm (wpAny_inv Inv hstep hend _ _ _ _ ?_ h0)
  exact Nat.le_trans (List.length_filter_le _ _) (by simp)
#print axioms wp_region_inv
end Go.Proofs.Ytgkgdkdendmfnaa
