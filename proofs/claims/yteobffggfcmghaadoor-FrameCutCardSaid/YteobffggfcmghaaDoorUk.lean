/- Layer 13: the law FrameNumbers: numbers and texts in memory; what was put. -/
import Derived.Test.YteobffggfcmghaaDoorUh
import Derived.Test.YteobffggfcmghaaDoorUi
namespace Go.Proofs.YteobffggfcmghaaDoor
open Go.RowKit
/-- A slice of values of one cell each. -/
def VRow (w : World) (s : Value) (xs : List Value) : Prop :=
  (s = .slice none 0 0 ∧ xs = []) ∨ (∃ a c, s = .slice (some a) 0 c ∧ xs = []) ∨ ∃ b o c, s = .slice (some ⟨b, o, none⟩) xs.length c ∧ b < w.heap.size ∧ ∀ i x, xs[i]? = some x → w.cell? ⟨b, o + i, none⟩ = some x
theorem VRow.on {w w' : World} {s : Value} {xs : List Value} (h : VRow w s xs) (hb : Below w.heap.size w w') : VRow w' s xs := by
  rcases h with h | h | ⟨b, o, c, h1, h2, h3⟩
  · exact .inl h
  · exact .inr (.inl h)
  · exact .inr (.inr ⟨b, o, c, h1, Nat.lt_of_lt_of_le h2 hb.size, fun i x hx => by rw [cell_below hb h2]; exact h3 i x hx⟩)
theorem VRow.shape {w : World} {v : Value} {xs : List Value} (h : VRow w v xs) : ∃ ao c, v = .slice ao xs.length c := by
  rcases h with ⟨rfl, rfl⟩ | ⟨a, c, rfl, rfl⟩ | ⟨b, o, c, rfl, _, _⟩ <;> exact ⟨_, _, rfl⟩
theorem VRow.addr {w : World} {ao : Option Addr} {n c : Nat} {xs : List Value} (h : VRow w (.slice ao n c) xs) {k : Nat} {x : Value} (hk : xs[k]? = some x) : ∃ b o, ao = some ⟨b, o, none⟩ ∧ b < w.heap.size ∧ w.cell? ⟨b, o + k, none⟩ = some x := by
  rcases h with ⟨_, rfl⟩ | ⟨_, _, _, rfl⟩ | ⟨b, o, c', e, h1, h2⟩
  · cases hk
  · cases hk
  · cases e; exact ⟨b, o, rfl, h1, h2 k x hk⟩
/-- Texts: the slice's value; each text's value and its bytes. -/
def TxtR (w : World) (s : Value) (S : List (Value × List Int)) : Prop := VRow w s (S.map Prod.fst) ∧ ∀ x ∈ S, RowB w x.1 x.2 ∧ OkB x.2 ∧ CapS x.1
theorem TxtR.on {w w' : World} {s : Value} {S : List (Value × List Int)} (h : TxtR w s S) (hb : Below w.heap.size w w') : TxtR w' s S := ⟨h.1.on hb, fun x hx => ⟨(h.2 x hx).1.on hb, (h.2 x hx).2⟩⟩
theorem TxtR.shape {w : World} {v : Value} {S : List (Value × List Int)} (h : TxtR w v S) : ∃ ao c, v = .slice ao S.length c := by
  obtain ⟨ao, c, e⟩ := h.1.shape
  rw [List.length_map] at e
  exact ⟨ao, c, e⟩
theorem TxtR.at {w : World} {ao : Option Addr} {n c : Nat} {S : List (Value × List Int)} (h : TxtR w (.slice ao n c) S) {k : Nat} {x : Value × List Int} (hk : S[k]? = some x) : ∃ b o, ao = some ⟨b, o, none⟩ ∧ b < w.heap.size ∧ w.cell? ⟨b, o + k, none⟩ = some x.1 :=
  h.1.addr (by rw [List.getElem?_map, hk]; rfl)
theorem RowB.lt {w : World} {v : Value} {E : List Int} (h : RowB w v E) (h0 : E.length ≠ 0) : ∀ k, v.ownBlock = some k → k < w.heap.size := by
  intro k e
  rcases h with ⟨_, rfl⟩ | ⟨_, _, _, rfl⟩ | ⟨b, o, c, rfl, hb, _⟩
  · exact absurd rfl h0
  · exact absurd rfl h0
  · cases e; exact hb
theorem owns_set {w : World} {base size n g cap i : Nat} {t : TypeId} {xs : List Value} (h : w.ownsRow base t size (.slice (some ⟨g, 0, none⟩) n cap) n xs) (hi : i < n * size) (u : Value) : (w.setCell ⟨g, i, none⟩ u).ownsRow base t size (.slice (some ⟨g, 0, none⟩) n cap) n (xs.set i u) := by
  obtain ⟨h1, h2 | ⟨g', cap', cur, e, hb, hg, hc, hm, hs, ht⟩⟩ := h
  · cases h2.1
  · cases e
    have hb2 := Joins.block_setCell (i := i) hg u
    refine ⟨by rw [List.length_set]; exact h1, .inr ⟨g, cap, _, rfl, hb, hb2, hc, hm, by simpa using hs, ?_⟩⟩
    rw [← ht]
    apply List.ext_getElem?
    intro j
    simp only [List.getElem?_take, List.getElem?_set, Array.getElem?_toList, Array.getElem?_setIfInBounds, List.length_take, Array.length_toList]
    have hcap : n * size ≤ cap * size := Nat.mul_le_mul_right _ hc
    by_cases hj : j < n * size
    · by_cases e : i = j
      · subst e
        have hcur : i < cur.size := by omega
        have h2 : i < min (n * size) cur.size := Nat.lt_min.2 ⟨hj, hcur⟩
        simp [hj, hcur]
        exact h2
      · simp [hj, e]
    · simp [hj]
      intro e; omega
theorem OwnB.store {w : World} {base g n cap k : Nat} {E : List Int} (h : OwnB w base (.slice (some ⟨g, 0, none⟩) n cap) E) (hk : k < n) (x : Int) : OwnB (w.setCell ⟨g, k, none⟩ (.int .u8 x)) base (.slice (some ⟨g, 0, none⟩) n cap) (E.set k x) := by
  have hn : E.length = n := by
    obtain ⟨a, c, e⟩ := h.shape
    cases e
    rfl
  unfold OwnB at *
  have e : bytV (E.set k x) = (bytV E).set k (.int .u8 x) := by unfold bytV; rw [List.map_set]
  rw [List.length_set, e, hn]
  rw [hn] at h
  exact owns_set h (by omega) _
theorem OwnB.frozen {w : World} {base g n c : Nat} {E : List Int} (h : OwnB w base (.slice (some ⟨g, 0, none⟩) n c) E) (i : Nat) : w.frozen? ⟨g, i, none⟩ = false := by
  obtain ⟨_, ⟨e, _⟩ | ⟨g', cap', cur, e, _, hg, _⟩⟩ := h
  · cases e
  · cases e; exact Joins.unfrozen_of_block hg i
/-- The bytes of numbers; of texts. -/
def numsB (L : List Int) : List Int := L.flatMap intI
def textB (E : List Int) : List Int := intI (E.length : Int) ++ E
def textsB (S : List (Value × List Int)) : List Int := S.flatMap fun x => textB x.2
theorem numsB_snoc (L : List Int) (x : Int) : numsB (L ++ [x]) = numsB L ++ intI x := by simp [numsB, List.flatMap_append]
theorem textsB_snoc (S : List (Value × List Int)) (x : Value × List Int) : textsB (S ++ [x]) = textsB S ++ textB x.2 := by simp [textsB, List.flatMap_append]
theorem take_snoc {α : Type} {l : List α} {k : Nat} {x : α} (h : l[k]? = some x) : l.take (k + 1) = l.take k ++ [x] := by
  rw [List.take_add_one, h]; rfl
theorem drop_cons {α : Type} {l : List α} {k : Nat} {x : α} (h : l[k]? = some x) : l.drop k = x :: l.drop (k + 1) := by
  obtain ⟨hl, rfl⟩ := List.getElem?_eq_some_iff.1 h
  exact List.drop_eq_getElem_cons hl
theorem numsB_len : ∀ (L : List Int), (numsB L).length ≤ 10 * L.length
  | [] => by simp [numsB]
  | x :: L => by
    have := numsB_len L
    have h := (intI_len x).2
    have e : numsB (x :: L) = intI x ++ numsB L := rfl
    rw [e, List.length_append, List.length_cons]
    omega
theorem textsB_len : ∀ (S : List (Value × List Int)), (∀ x ∈ S, x.2.length ≤ 300) → (textsB S).length ≤ 310 * S.length
  | [], _ => by simp [textsB]
  | x :: S, h => by
    have h1 := textsB_len S fun y hy => h y (List.mem_cons_of_mem _ hy)
    have h2 := (intI_len (x.2.length : Int)).2
    have h3 := h x (List.mem_cons_self ..)
    have e : textsB (x :: S) = (intI (x.2.length : Int) ++ x.2) ++ textsB S := rfl
    rw [e, List.length_append, List.length_append, List.length_cons]
    omega
theorem numsB_ok {L : List Int} (h : ∀ x ∈ L, rngN x) : OkB (numsB L) := fun y hy => by
  obtain ⟨x, hx, hy⟩ := List.mem_flatMap.1 hy
  exact intI_ok (h x hx) y hy
theorem textsB_ok {S : List (Value × List Int)} (h : ∀ x ∈ S, OkB x.2 ∧ x.2.length ≤ 300) : OkB (textsB S) := fun y hy => by
  obtain ⟨x, hx, hy⟩ := List.mem_flatMap.1 hy
  rcases List.mem_append.1 hy with hy | hy
  · exact intI_ok ⟨by omega, by have := (h x hx).2; omega⟩ y hy
  · exact (h x hx).1 y hy
/-- What was put so far, and what is wanted, apart from one another. -/
structure PutSt (w wr : World) (T : Nat → Prop) (g : Nat) (v : Value) (X Y : List Int) : Prop where
  out : OutAt T wr g X
  far : Far w wr T
  want : OwnB wr w.heap.size v Y
  off : ∀ k, v.ownBlock = some k → ¬ T k
theorem PutSt.put {w wr w2 : World} {T T' : Nat → Prop} {g : Nat} {v : Value} {X Y X' : List Int} (h : PutSt w wr T g v X Y) (ho : OutAt T' w2 g X') (ht : To T wr T' w2) : PutSt w w2 T' g v X' Y :=
  ⟨ho, h.far.step ht, owns_keep h.want ht.keep fun k e => h.off k e, fun k e hT => (ht.new k hT).elim (h.off k e) fun q => by have := (h.want.lt k e).2; omega⟩
theorem PutSt.grow {w wr w2 : World} {T : Nat → Prop} {g : Nat} {v : Value} {X Y : List Int} (h : PutSt w wr T g v X Y) (hb : Below wr.heap.size wr w2) : PutSt w w2 T g v X Y :=
  ⟨by obtain ⟨u, q⟩ := h.out; exact ⟨u, q.keep (Keep.of_below hb)⟩, h.far.grow hb, h.want.grow hb, h.off⟩
theorem PutSt.app {w wr w2 : World} {T : Nat → Prop} {g : Nat} {v v' : Value} {X Y Y' : List Int} (h : PutSt w wr T g v X Y) (ho : OwnB w2 w.heap.size v' Y') (hg : wr.grownBy w2 v.ownBlock) (hm : Moved wr v v') : PutSt w w2 T g v' X Y' := by
  obtain ⟨u, q⟩ := h.out
  have hT : ∀ k, T k → k < wr.heap.size := q.lt
  have hK := Keep.of_grown hg
  refine ⟨⟨u, q.keep (hK.mono fun k hk e => h.off k e hk)⟩, ⟨h.far.far, own_below h.want hg h.far.below (Nat.le_refl _) h.far.below.size⟩, ho, fun k e hk => ?_⟩
  rcases hm with e2 | ⟨k', e2, hk'⟩
  · exact h.off k (by rw [← e2]; exact e) hk
  · rw [e] at e2
    cases e2
    have := hT k hk
    omega
theorem PutSt.start (w : World) : PutSt w (w.alloc (.cells #[.slice none 0 0] 48)) (fun k => k = w.heap.size) w.heap.size (.slice none 0 0) [] [] :=
  ⟨outAt_new w, ⟨fun k e => by subst e; exact Nat.le_refl _, (Below.refl _ _).alloc (Nat.le_refl _) _⟩, World.ownsRow_nil _ _ _ _, fun k e => by cases e⟩
end Go.Proofs.YteobffggfcmghaaDoor
