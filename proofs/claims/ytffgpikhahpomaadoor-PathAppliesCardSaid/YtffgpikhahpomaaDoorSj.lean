/- Drawn regions within a round; lists of subpaths in memory. -/
import Derived.Test.YtffgpikhahpomaaDoorSi
import Derived.OrdersIn
namespace Go.Proofs.YtffgpikhahpomaaDoor
open Go.RowKit
theorem wpAnyIn_inv {F : Fence} {n : Nat} {P : Program} {md : Region.Mode} {ops : Array Oper} {Q : Exit → Act → World → Prop} (Inv : Array Bool → Act → World → Prop)
    (hstep : ∀ listed a w i, Inv listed a w → i ∈ Region.ready md ops listed → wpOpIn F n P ops Q i (Inv (listed.setIfInBounds i true)) a w)
    (hend : ∀ listed a w, Inv listed a w → Region.ready md ops listed = [] → Q .normal a w) :
    ∀ (fuel : Nat) (listed : Array Bool) (a : Act) (w : World), ((List.range ops.size).filter fun i => !listed.getD i true).length ≤ fuel → Inv listed a w → wpAnyIn F n P md ops Q fuel listed a w
  | 0, listed, a, w, hf, h => by
    have hr : Region.ready md ops listed = [] := by
      apply List.eq_nil_iff_forall_not_mem.2
      intro i hi
      unfold Region.ready at hi
      have h1 := List.mem_filter.1 hi
      have h2 : i ∈ (List.range ops.size).filter fun i => !listed.getD i true := List.mem_filter.2 ⟨h1.1, (Bool.and_eq_true _ _ ▸ h1.2).1⟩
      have h3 := List.length_pos_of_mem h2
      omega
    exact ⟨hr, hend listed a w h hr⟩
  | fuel + 1, listed, a, w, hf, h => by
    refine ⟨hend listed a w h, fun i hi => wpOpIn_mono (fun a' w' h' => wpAnyIn_inv Inv hstep hend fuel _ a' w' ?_ h') (hstep listed a w i h hi)⟩
    unfold Region.ready at hi
    have h1 := List.mem_filter.1 hi
    have h2 : (!listed.getD i true) = true := (Bool.and_eq_true _ _ ▸ h1.2).1
    have hlt : i < listed.size := by
      rcases Nat.lt_or_ge i listed.size with h' | h'
      · exact h'
      · simp [Array.getElem?_eq_none h'] at h2
    have := count_lt (l := List.range ops.size) (p := fun i => !listed.getD i true) (q := fun j => !(listed.setIfInBounds i true).getD j true) (fun j hj => by
      by_cases e : i = j
      · subst e; simp [hlt] at hj
      · simp only [Array.getD_eq_getD_getElem?, Array.getElem?_setIfInBounds_ne e] at hj ⊢; exact hj) h1.1 h2 (by simp [hlt])
    omega

/-- The beginning. -/
theorem wpIn_region_inv {F : Fence} {n : Nat} {P : Program} {ops : Array Oper} {Q : Exit → Act → World → Prop} {id : Nat} {a : Act} {w : World} (hm : P.follows .mixedOrders = true) (Inv : Array Bool → Act → World → Prop)
    (h0 : Inv (Array.replicate ops.size false) a w.drew)
    (hstep : ∀ listed a w i, Inv listed a w → i ∈ Region.ready .any ops listed → wpOpIn F n P ops Q i (Inv (listed.setIfInBounds i true)) a w)
    (hend : ∀ listed a w, Inv listed a w → Region.ready .any ops listed = [] → Q .normal a w) : (Code.region id ops true).wpIn F n P Q a w := by
  refine wpIn_region_any hm (wpAnyIn_inv Inv hstep hend _ _ _ _ ?_ h0)
  exact Nat.le_trans (List.length_filter_le _ _) (by simp)

/-- The rule, where what a slot held ahead is wanted. -/
theorem wpIn_region_put2 {F : Fence} {n : Nat} {P : Program} {l : List Oper} {Q : Exit → Act → World → Prop} {id : Nat} {a : Act} {w : World} (hm : P.follows .mixedOrders = true) (hs : slotsOk a.tmps.size l = true) (hd : depsOk 0 l = true) (Inv : (Nat → Bool) → (Nat → Value) → World → Prop)
    (h0 : ∀ vs, (∀ i o d, l[i]? = some o → o.dst = some d → vs i = a.tmps.getD d undef) → Inv (fun _ => false) vs w.drew)
    (hstep : ∀ b vs w i o, l[i]? = some o → b i = false → (∀ e ∈ o.after, Region.binds .any e = true → b e.on = true) → Inv b vs w →
      wpOpIn F n P l.toArray Q i (fun a' w' => ∃ v, a' = (putAll l 0 vs a).put o.dst v ∧ Inv (upd b i true) (upd vs i v) w') (putAll l 0 vs a) w)
    (hend : ∀ b vs w, (∀ i, i < l.length → b i = true) → Inv b vs w → Q .normal (putAll l 0 vs a) w) : (Code.region id l.toArray true).wpIn F n P Q a w := by
  refine wpIn_region_inv hm (fun listed a' w' => listed.size = l.length ∧ ∃ vs b, a' = putAll l 0 vs a ∧ (∀ i, i < l.length → b i = listed.getD i false) ∧ (∀ i, l.length ≤ i → b i = false) ∧ Inv b vs w') ?_ ?_ ?_
  · refine ⟨by simp, _, fun _ => false, (putAll_base _ l 0 a rfl hs).symm, fun i hi => by simp [hi], fun _ _ => rfl, h0 _ fun i o d ho hd => by simp [ho, hd]⟩
  · rintro listed a' w' i ⟨hsz, vs, b, rfl, hb, hb', hi⟩ hr
    obtain ⟨hun, o, ho, hall⟩ := mem_ready.1 hr
    have ho' : l[i]? = some o := by simpa using ho
    have hlt : i < l.length := (List.getElem?_eq_some_iff.1 ho').1
    have hun' : listed.getD i false = false := by
      have : i < listed.size := by omega
      simp [this] at hun ⊢; exact hun
    refine wpOpIn_mono ?_ (hstep b vs w' i o ho' (by rw [hb i hlt]; exact hun') (fun e he hbd => ?_) hi)
    · rintro a'' w'' ⟨v, rfl, hi'⟩
      refine ⟨by simp [hsz], upd vs i v, upd b i true, ?_, ?_, ?_, hi'⟩
      · have := putAll_upd _ l 0 i o vs a v hs ho'
        rw [Nat.zero_add] at this
        exact this.symm
      · intro j hj
        by_cases e : j = i
        · subst e; rw [upd_same]; simp [hsz, hj]
        · rw [upd_other _ _ _ _ e, hb j hj]; simp only [Array.getD_eq_getD_getElem?, Array.getElem?_setIfInBounds_ne (Ne.symm e)]
      · intro j hj
        rw [upd_other _ _ _ _ (by omega)]; exact hb' j hj
    · have h := hall e he hbd
      have hel : e.on < l.length := by
        rcases Nat.lt_or_ge e.on listed.size with h' | h'
        · omega
        · simp [Array.getElem?_eq_none h'] at h
      rw [hb _ hel]; exact h
  · rintro listed a' w' ⟨hsz, vs, b, rfl, hb, hb', hi⟩ hr
    refine hend b vs w' ?_ hi
    intro i
    induction i using Nat.strongRecOn with
    | ind i ih =>
      intro hlt
      cases hbi : b i with
      | true => rfl
      | false =>
        obtain ⟨o, ho⟩ : ∃ o, l[i]? = some o := ⟨_, List.getElem?_eq_getElem hlt⟩
        have hin : i ∈ Region.ready .any l.toArray listed := by
          refine mem_ready.2 ⟨?_, o, by simpa using ho, fun e he hbd => ?_⟩
          · have : i < listed.size := by omega
            have h2 : listed.getD i false = false := by rw [← hb i hlt]; exact hbi
            simp [this] at h2 ⊢; exact h2
          · have h1 := depsOk_at l 0 i o hd ho e he hbd
            rw [← hb e.on (by omega)]
            exact ih e.on (by omega) (by omega)
        rw [hr] at hin
        cases hin
/-- A subpath in memory: the slice of its points, these, and whether it is closed. -/
structure Sb where
  v : Value
  L : List Pt
  c : Bool
def cellsB : List Sb → List Value
  | [] => []
  | x :: l => x.v :: .bool x.c :: cellsB l
theorem cellsB_length : ∀ l : List Sb, (cellsB l).length = l.length * 2
  | [] => rfl
  | x :: l => by simp [cellsB, cellsB_length l]; omega
theorem cellsB_append : ∀ l m : List Sb, cellsB (l ++ m) = cellsB l ++ cellsB m
  | [], _ => rfl
  | x :: l, m => by simp [cellsB, cellsB_append l m]
theorem cellsB_at : ∀ (l : List Sb) (i : Nat) (x : Sb), l[i]? = some x → (cellsB l)[i * 2]? = some x.v ∧ (cellsB l)[i * 2 + 1]? = some (.bool x.c)
  | [], _, _, h => by cases h
  | y :: l, 0, x, h => by
    obtain rfl : y = x := by simpa using h
    exact ⟨rfl, rfl⟩
  | y :: l, i + 1, x, h => by
    have h := cellsB_at l i x (by simpa using h)
    rw [show (i + 1) * 2 = i * 2 + 1 + 1 by omega]
    exact h
theorem cellsB_set : ∀ (l : List Sb) (i : Nat) (x y : Sb), l[i]? = some x → y.c = x.c → (cellsB l).set (i * 2) y.v = cellsB (l.set i y)
  | [], _, _, _, h, _ => by cases h
  | z :: l, 0, x, y, h, e => by
    obtain rfl : z = x := by simpa using h
    simp [cellsB, e]
  | z :: l, i + 1, x, y, h, e => by
    have h := cellsB_set l i x y (by simpa using h) e
    rw [show (i + 1) * 2 = i * 2 + 1 + 1 by omega]
    simp [cellsB, h]
theorem cellsB_shut : ∀ (l : List Sb) (i : Nat) (x y : Sb), l[i]? = some x → y.v = x.v → (cellsB l).set (i * 2 + 1) (.bool y.c) = cellsB (l.set i y)
  | [], _, _, _, h, _ => by cases h
  | z :: l, 0, x, y, h, e => by
    obtain rfl : z = x := by simpa using h
    simp [cellsB, e]
  | z :: l, i + 1, x, y, h, e => by
    have h := cellsB_shut l i x y (by simpa using h) e
    rw [show (i + 1) * 2 + 1 = i * 2 + 1 + 1 + 1 by omega]
    simp [cellsB, h]
/-- A cell of an owned row is stored into. -/
theorem owns_set {w : World} {base size n g cap i : Nat} {t : TypeId} {xs : List Value} (h : w.ownsRow base t size (.slice (some ⟨g, 0, none⟩) n cap) n xs) (hi : i < n * size) (u : Value) : (w.setCell ⟨g, i, none⟩ u).ownsRow base t size (.slice (some ⟨g, 0, none⟩) n cap) n (xs.set i u) := by
  obtain ⟨h1, h2 | ⟨g', cap', cur, e, hb, hg, hc, hm, hs, ht⟩⟩ := h
  · cases h2.1
  · cases e
    have hb2 := Joins.block_setCell (i := i) hg u
    refine ⟨by rw [List.length_set]; exact h1, .inr ⟨g, cap, _, rfl, hb, hb2, hc, hm, by simpa using hs, ?_⟩⟩
    rw [← ht]
    apply List.ext_getElem?
    intro j
    simp only [List.getElem?_take, List.getElem?_set, Array.getElem?_toList, Array.getElem?_setIfInBounds, List.length_take, Array.length_toList]
    have hcap : n * size ≤ cap * size := Nat.mul_le_mul_right _ hc
    by_cases hj : j < n * size
    · by_cases e : i = j
      · subst e
        have hcur : i < cur.size := by omega
        have h2 : i < min (n * size) cur.size := Nat.lt_min.2 ⟨hj, hcur⟩
        simp [hj, hcur]
        exact h2
      · simp [hj, e]
    · simp [hj]
      intro e; omega
/-- Rows of different types lie apart. -/
theorem apart_types {w : World} {b b' s s' n n' : Nat} {t t' : TypeId} {u v : Value} {xs ys : List Value} (h : w.ownsRow b t s u n xs) (k : w.ownsRow b' t' s' v n' ys) (hne : t ≠ t') : Apart u v := by
  obtain ⟨_, ⟨rfl, _⟩ | ⟨g, cap, cur, rfl, _, hg, _⟩⟩ := h
  · exact .inl rfl
  · obtain ⟨_, ⟨rfl, _⟩ | ⟨g', cap', cur', rfl, _, hg', _⟩⟩ := k
    · right; simp [Value.ownBlock]
    · right
      intro e
      simp [Value.ownBlock] at e
      subst e
      rw [hg] at hg'
      simp at hg'
      exact hne hg'.2
/-- Subpaths in memory. -/
structure SubsAt (w : World) (base : Nat) (tS tP : TypeId) (u : Value) (S : List Sb) : Prop where
  row : w.ownsRow base tS 2 u S.length (cellsB S)
  own : ∀ (i : Nat) (x : Sb), S[i]? = some x → Own w base tP x.v x.L
  apart : ∀ (i j : Nat) (x y : Sb), S[i]? = some x → S[j]? = some y → i ≠ j → Apart x.v y.v
def Sb.plain (x : Sb) : List Pt × Bool := (x.L, x.c)
theorem SubsAt.nil (w : World) (base : Nat) (tS tP : TypeId) : SubsAt w base tS tP (.slice none 0 0) [] := ⟨World.ownsRow_nil _ _ _ _, fun i x h => (by cases h), fun i j x y h => (by cases h)⟩
theorem owns_keep {w w' : World} {base size n : Nat} {t : TypeId} {v : Value} {xs : List Value} (h : w.ownsRow base t size v n xs) (hk : ∀ k, base ≤ k → k < w.heap.size → w'.heap[k]? = w.heap[k]?) : w'.ownsRow base t size v n xs := by
  obtain ⟨h1, h2 | ⟨g, cap, cur, e1, e2, hg, e3⟩⟩ := h
  · exact ⟨h1, .inl h2⟩
  · exact ⟨h1, .inr ⟨g, cap, cur, e1, e2, by rw [hk g e2 (Array.getElem?_eq_some_iff.1 hg).1]; exact hg, e3⟩⟩
theorem SubsAt.keep {w w' : World} {base : Nat} {tS tP : TypeId} {u : Value} {S : List Sb} (h : SubsAt w base tS tP u S) (hk : ∀ k, base ≤ k → k < w.heap.size → w'.heap[k]? = w.heap[k]?) : SubsAt w' base tS tP u S :=
  ⟨owns_keep h.row hk, fun i x hx => owns_keep (h.own i x hx) hk, h.apart⟩
theorem SubsAt.grow {w w' : World} {base : Nat} {tS tP : TypeId} {u : Value} {S : List Sb} (h : SubsAt w base tS tP u S) (hb : Below w.heap.size w w') : SubsAt w' base tS tP u S := h.keep fun k _ hl => hb.block k hl
/-- One more, without points. -/
theorem SubsAt.more {w w' : World} {base : Nat} {tS tP : TypeId} {u u' : Value} {S : List Sb} (h : SubsAt w base tS tP u S) (hne : tP ≠ tS) (hg : w.grownBy w' u.ownBlock) (ho : w'.ownsRow base tS 2 u' (S.length + 1) (cellsB S ++ [.slice none 0 0, .bool false])) :
    SubsAt w' base tS tP u' (S ++ [⟨.slice none 0 0, [], false⟩]) := by
  refine ⟨?_, fun i x hx => ?_, fun i j x y hx hy hij => ?_⟩
  · rw [List.length_append, cellsB_append]; exact ho
  · rcases Nat.lt_or_ge i S.length with hi | hi
    · rw [List.getElem?_append_left hi] at hx
      exact World.ownsRow.kept (h.own i x hx) hg (apart_types (h.own i x hx) h.row hne)
    · rw [List.getElem?_append_right hi] at hx
      obtain rfl : (⟨.slice none 0 0, [], false⟩ : Sb) = x := by
        cases hq : i - S.length with
        | zero => rw [hq] at hx; simpa using hx
        | succ q => rw [hq] at hx; simp at hx
      exact Own.nil _ _ _
  · rcases Nat.lt_or_ge i S.length with hi | hi
    · rw [List.getElem?_append_left hi] at hx
      rcases Nat.lt_or_ge j S.length with hj | hj
      · rw [List.getElem?_append_left hj] at hy
        exact h.apart i j x y hx hy hij
      · rw [List.getElem?_append_right hj] at hy
        obtain rfl : (⟨.slice none 0 0, [], false⟩ : Sb) = y := by
          cases hq : j - S.length with
          | zero => rw [hq] at hy; simpa using hy
          | succ q => rw [hq] at hy; simp at hy
        exact (Apart.nil _).symm
    · rw [List.getElem?_append_right hi] at hx
      obtain rfl : (⟨.slice none 0 0, [], false⟩ : Sb) = x := by
        cases hq : i - S.length with
        | zero => rw [hq] at hx; simpa using hx
        | succ q => rw [hq] at hx; simp at hx
      exact Apart.nil _
/-- A subpath has more points. -/
theorem SubsAt.longer {w Wm W1 : World} {base g cap m : Nat} {tS tP : TypeId} {S : List Sb} {x : Sb} {v' : Value} {L' : List Pt} (h : SubsAt w base tS tP (.slice (some ⟨g, 0, none⟩) S.length cap) S) (hne : tP ≠ tS) (hx : S[m]? = some x)
    (hb : Below w.heap.size w Wm) (hg : Wm.grownBy W1 x.v.ownBlock) (hm : Moved Wm x.v v') (ho : Own W1 base tP v' L') :
    SubsAt (W1.setCell ⟨g, m * 2, none⟩ v') base tS tP (.slice (some ⟨g, 0, none⟩) (S.set m ⟨v', L', x.c⟩).length cap) (S.set m ⟨v', L', x.c⟩) := by
  have hlt : m < S.length := (List.getElem?_eq_some_iff.1 hx).1
  have h1 := h.grow hb
  have hrow : W1.ownsRow base tS 2 (.slice (some ⟨g, 0, none⟩) S.length cap) S.length (cellsB S) := World.ownsRow.kept h1.row hg (apart_types (h1.row) (h1.own m x hx) (Ne.symm hne))
  have hgP : ∀ (u : Value) (L : List Pt), Own W1 base tP u L → Own (W1.setCell ⟨g, m * 2, none⟩ v') base tP u L := fun u L k => World.ownsRow.kept k (grownBy_set _ _ _) (apart_types k hrow hne)
  refine ⟨?_, fun i y hy => ?_, fun i j y z hy hz hij => ?_⟩
  · rw [List.length_set, ← cellsB_set S m x ⟨v', L', x.c⟩ hx rfl]
    exact owns_set hrow (by omega) _
  · by_cases e : i = m
    · subst e
      rw [List.getElem?_set_self hlt] at hy
      cases hy
      exact hgP _ _ ho
    · rw [List.getElem?_set_ne (Ne.symm e)] at hy
      exact hgP _ _ (World.ownsRow.kept (h1.own i y hy) hg (h1.apart i m y x hy hx e))
  · have lt : ∀ (i : Nat) (y : Sb), S[i]? = some y → ∀ k, y.v.ownBlock = some k → k < Wm.heap.size := fun i y hy k hk => (Own.lt (h1.own i y hy) k hk).2
    by_cases e : i = m
    · subst e
      rw [List.getElem?_set_self hlt] at hy
      cases hy
      rw [List.getElem?_set_ne hij] at hz
      exact (Apart.moved (h1.apart j i z x hz hx (Ne.symm hij)) (lt j z hz) hm).symm
    · rw [List.getElem?_set_ne (Ne.symm e)] at hy
      by_cases e2 : j = m
      · subst e2
        rw [List.getElem?_set_self hlt] at hz
        cases hz
        exact Apart.moved (h1.apart i j y x hy hx e) (lt i y hy) hm
      · rw [List.getElem?_set_ne (Ne.symm e2)] at hz
        exact h1.apart i j y z hy hz hij
/-- A subpath is closed. -/
theorem SubsAt.shut {w w' : World} {base g cap m : Nat} {tS tP : TypeId} {S : List Sb} {x : Sb} (h : SubsAt w base tS tP (.slice (some ⟨g, 0, none⟩) S.length cap) S) (hne : tP ≠ tS) (hx : S[m]? = some x)
    (hb : Below w.heap.size (w.setCell ⟨g, m * 2 + 1, none⟩ (.bool true)) w') : SubsAt w' base tS tP (.slice (some ⟨g, 0, none⟩) (S.set m ⟨x.v, x.L, true⟩).length cap) (S.set m ⟨x.v, x.L, true⟩) := by
  have hlt : m < S.length := (List.getElem?_eq_some_iff.1 hx).1
  have hs : (w.setCell ⟨g, m * 2 + 1, none⟩ (.bool true)).heap.size = w.heap.size := by simp [World.setCell]
  refine SubsAt.grow (w := w.setCell ⟨g, m * 2 + 1, none⟩ (.bool true)) ⟨?_, fun i y hy => ?_, fun i j y z hy hz hij => ?_⟩ (by rw [hs]; exact hb)
  · rw [List.length_set, ← cellsB_shut S m x ⟨x.v, x.L, true⟩ hx rfl]
    exact owns_set h.row (by omega) _
  · by_cases e : i = m
    · subst e
      rw [List.getElem?_set_self hlt] at hy
      cases hy
      exact World.ownsRow.kept (h.own i x hx) (grownBy_set _ _ _) (apart_types (h.own i x hx) h.row hne)
    · rw [List.getElem?_set_ne (Ne.symm e)] at hy
      exact World.ownsRow.kept (h.own i y hy) (grownBy_set _ _ _) (apart_types (h.own i y hy) h.row hne)
  · have key : ∀ (k : Nat) (u : Sb), (S.set m ⟨x.v, x.L, true⟩)[k]? = some u → ∃ u', S[k]? = some u' ∧ u'.v = u.v := fun k u hk => by
      by_cases e : k = m
      · subst e
        rw [List.getElem?_set_self hlt] at hk
        cases hk
        exact ⟨x, hx, rfl⟩
      · rw [List.getElem?_set_ne (Ne.symm e)] at hk
        exact ⟨u, hk, rfl⟩
    obtain ⟨y', hy', ey⟩ := key i y hy
    obtain ⟨z', hz', ez⟩ := key j z hz
    rw [← ey, ← ez]
    exact h.apart i j y' z' hy' hz' hij
end Go.Proofs.YtffgpikhahpomaaDoor
