/- Layer 7: what the statements ask of all that a pen leaves. -/
import Derived.Test.YtdidbejinfkhbaaDoorTe
import Derived.Test.YtdidbejinfkhbaaDoorTf
namespace Go.Proofs.YtdidbejinfkhbaaDoor
open Go.RowKit
theorem has_c (b : Bx) (x y : Int) (w : World) : Calls Tryd.prog 22 #[.agg #[.int .i64 b.x0, .int .i64 b.y0, .int .i64 b.x1, .int .i64 b.y1], .agg #[.int .i64 x, .int .i64 y]] w fun e w' => e = .returned (.bool (hasI b x y)) ∧ Below w.heap.size w w' := by
  obtain ⟨x0, y0, x1, y1⟩ := b
  unfold hasI
  have H : ∀ r : Bool, r = (decide (x0 ≤ x) && decide (x < x1) && decide (y0 ≤ y) && decide (y < y1)) → Calls Tryd.prog 22 #[.agg #[.int .i64 x0, .int .i64 y0, .int .i64 x1, .int .i64 y1], .agg #[.int .i64 x, .int .i64 y]] w fun e w' => e = .returned (.bool r) ∧ Below w.heap.size w w' := by
    intro r hr
    have HR := Lib.hid hr
    clear hr
    by_cases h1 : x0 ≤ x
    · by_cases h2 : x < x1
      · by_cases h3 : y0 ≤ y
        · go_enter Tryd.func22, Tryd.ntmps22
          go_wp2_with fail
          go_ret
          exact ⟨by rw [HR.out]; simp [h1, h2, h3], by go_grown⟩
        · go_enter Tryd.func22, Tryd.ntmps22
          go_wp2_with fail
          go_ret
          exact ⟨by rw [HR.out]; simp; omega, by go_grown⟩
      · go_enter Tryd.func22, Tryd.ntmps22
        go_wp2_with fail
        go_ret
        exact ⟨by rw [HR.out]; simp; omega, by go_grown⟩
    · go_enter Tryd.func22, Tryd.ntmps22
      go_wp2_with fail
      go_ret
      exact ⟨by rw [HR.out]; simp; omega, by go_grown⟩
  exact H _ rfl
/-- A box in memory. -/
theorem bound_append (l : List Pt) (p : Pt) : boundI (l ++ [p]) = joinI (boundI l) (ptBox p) := by
  unfold boundI; rw [List.foldl_append]; rfl
/-- It has each of them, and each side has one. -/
structure Tight (B : Bx) (l : List Pt) : Prop where
  has : ∀ p ∈ l, B.x0 ≤ p.1 ∧ p.1 < B.x1 ∧ B.y0 ≤ p.2 ∧ p.2 < B.y1
  s0 : ∃ p ∈ l, p.1 = B.x0
  s1 : ∃ p ∈ l, p.2 = B.y0
  s2 : ∃ p ∈ l, p.1 = B.x1 - 1
  s3 : ∃ p ∈ l, p.2 = B.y1 - 1
theorem tight_one (p : Pt) : Tight (ptBox p) [p] := by
  refine ⟨fun q hq => ?_, ⟨p, by simp, rfl⟩, ⟨p, by simp, rfl⟩, ⟨p, by simp, by simp [ptBox]⟩, ⟨p, by simp, by simp [ptBox]⟩⟩
  obtain rfl : q = p := by simpa using hq
  simp only [ptBox]; omega
theorem tight_full {B : Bx} {l : List Pt} (h : Tight B l) : emptyI B = false := by
  obtain ⟨p, hp, _⟩ := h.s0
  have := h.has p hp
  simp [emptyI]; omega
theorem pt_full (p : Pt) : emptyI (ptBox p) = false := by simp [emptyI, ptBox]; omega
theorem tight_next {B : Bx} {l : List Pt} (h : Tight B l) (p : Pt) : Tight (joinI B (ptBox p)) (l ++ [p]) := by
  have e : joinI B (ptBox p) = join0 B (ptBox p) := by unfold joinI; rw [tight_full h, pt_full]; simp
  rw [e]
  have pick : ∀ (f : Pt → Int) (a b : Int), (∃ q ∈ l, f q = a) → f p = b → ∀ m, (m = a ∨ m = b) → ∃ q ∈ l ++ [p], f q = m := by
    intro f a b ⟨q, hq, hqa⟩ hb m hm
    rcases hm with rfl | rfl
    · exact ⟨q, by simp [hq], hqa⟩
    · exact ⟨p, by simp, hb⟩
  refine ⟨fun q hq => ?_, pick (·.1) B.x0 p.1 h.s0 rfl _ ?_, pick (·.2) B.y0 p.2 h.s1 rfl _ ?_, pick (·.1) (B.x1 - 1) p.1 h.s2 rfl _ ?_, pick (·.2) (B.y1 - 1) p.2 h.s3 rfl _ ?_⟩
  · rw [List.mem_append] at hq
    simp only [join0, ptBox]
    rcases hq with hq | hq
    · have := h.has q hq; omega
    · obtain rfl : q = p := by simpa using hq
      omega
  all_goals (simp only [join0, ptBox]; omega)
theorem tight_bound (l : List Pt) (hl : l ≠ []) : Tight (boundI l) l := by
  obtain ⟨r, hr⟩ : ∃ r, r = l.reverse := ⟨_, rfl⟩
  have key : ∀ r : List Pt, r ≠ [] → Tight (boundI r.reverse) r.reverse := by
    intro r
    induction r with
    | nil => intro h; exact absurd rfl h
    | cons p r ih =>
      intro _
      rw [List.reverse_cons, bound_append]
      by_cases h : r = []
      · subst h
        have e : joinI (boundI ([] : List Pt).reverse) (ptBox p) = ptBox p := by
          unfold joinI
          rw [show emptyI (boundI ([] : List Pt).reverse) = true from rfl, pt_full]; simp
        rw [e]
        exact tight_one p
      · exact tight_next (ih h) p
  have := key l.reverse (by simpa using hl)
  rwa [List.reverse_reverse] at this
theorem tight_hasI {B : Bx} {l : List Pt} (h : Tight B l) {p : Pt} (hp : p ∈ l) : hasI B p.1 p.2 = true := by
  have := h.has p hp
  simp [hasI]; omega
theorem strokeT_all (Q : List Pt → Prop) (c : List Pt) (cl : Bool) (h cap : Int) (hadj : ∀ i p q, c[i]? = some p → c[i + 1]? = some q → p ≠ q)
    (hd : ∀ p ∈ c, Q (discOut p h).2) (hb : ∀ p ∈ c, ∀ q ∈ c, Q (barOut p q h).2) (hh : ∀ p ∈ c, ∀ q ∈ c, p ≠ q → Q (headOut p q h).2) (ht : ∀ p ∈ c, ∀ q ∈ c, p ≠ q → Q (tailOut p q h).2) (ho : ∀ p ∈ c, Q (roomOut (dotI p h)).2) :
    ∀ L ∈ (strokeT c cl h cap).2, Q L := by
  have add : ∀ (st : Tr) (o : Int × List Pt), (∀ L ∈ st.2, Q L) → Q o.2 → ∀ L ∈ (addT st o).2, Q L := fun st o h1 h2 L hL => by
    unfold addT at hL
    split at hL
    · rcases List.mem_append.1 hL with h | h
      · exact h1 L h
      · obtain rfl := List.mem_singleton.1 h; exact h2
    · exact h1 L hL
  have at_ : ∀ (l : List Pt) k, k < l.length → l.getD k (0, 0) ∈ l := fun l k hk => by
    rw [List.getD_eq_getElem?_getD, List.getElem?_eq_getElem hk]; exact List.getElem_mem hk
  have none_ : ∀ L ∈ ((0, []) : Tr).2, Q L := fun L hL => (by cases hL)
  have discs : ∀ (l : List Pt), (∀ p ∈ l, p ∈ c) → ∀ k, k ≤ l.length → ∀ st : Tr, (∀ L ∈ st.2, Q L) → ∀ L ∈ (discsT l h k st).2, Q L := fun l hl k => by
    induction k with
    | zero => intro _ st hst; exact hst
    | succ k ih => intro hk st hst; exact add _ _ (ih (by omega) st hst) (hd _ (hl _ (at_ l k (by omega))))
  have bars : ∀ (l : List Pt), (∀ p ∈ l, p ∈ c) → ∀ k, k < l.length → ∀ st : Tr, (∀ L ∈ st.2, Q L) → ∀ L ∈ (barsT l h k st).2, Q L := fun l hl k => by
    induction k with
    | zero => intro _ st hst; exact hst
    | succ k ih => intro hk st hst; exact add _ _ (ih (by omega) st hst) (hb _ (hl _ (at_ l k (by omega))) _ (hl _ (at_ l (k + 1) hk)))
  have mid : ∀ p ∈ midL c, p ∈ c := fun p hp => List.mem_of_mem_drop (List.mem_of_mem_take hp)
  have midlen : (midL c).length = c.length - 2 := by unfold midL; rw [List.length_take, List.length_drop]; omega
  unfold strokeT
  split
  · exact none_
  split
  · rename_i _ h1
    unfold dotT
    split
    · exact add _ _ none_ (hd _ (at_ c 0 (by omega)))
    · split
      · exact add _ _ none_ (ho _ (at_ c 0 (by omega)))
      · exact none_
  split
  · rename_i h0 h1 _
    refine discs c (fun p hp => hp) _ (Nat.le_refl _) _ (bars _ (fun p hp => ?_) _ (by rw [List.length_append]; simp) _ none_)
    rcases List.mem_append.1 hp with h | h
    · exact h
    · obtain rfl := List.mem_singleton.1 h; exact at_ c 0 (by omega)
  · rename_i h0 h1 _
    have base := discs (midL c) mid (c.length - 2) (by omega) _ (bars c (fun p hp => hp) (c.length - 1) (by omega) _ none_)
    have ne : ∀ k, k + 1 < c.length → c.getD k (0, 0) ≠ c.getD (k + 1) (0, 0) := fun k hk => by
      rw [List.getD_eq_getElem?_getD, List.getD_eq_getElem?_getD, List.getElem?_eq_getElem hk, List.getElem?_eq_getElem (by omega)]
      exact hadj k _ _ (List.getElem?_eq_getElem (by omega)) (List.getElem?_eq_getElem hk)
    unfold capsT
    split
    · exact add _ _ (add _ _ base (hd _ (at_ c 0 (by omega)))) (hd _ (at_ c _ (by omega)))
    · split
      · have e : c.length - 1 = c.length - 2 + 1 := by omega
        refine add _ _ (add _ _ base (hh _ (at_ c 0 (by omega)) _ (at_ c 1 (by omega)) (ne 0 (by omega)))) (ht _ (at_ c _ (by omega)) _ (at_ c _ (by omega)) ?_)
        rw [e]; exact ne _ (by omega)
      · exact base
/-- A property of all that a pen leaves. -/
theorem strokeOut_all (Q : List Pt → Prop) (l : List Pt) (cl : Bool) (h cap : Int)
    (hd : ∀ p ∈ l, Q (discOut p h).2) (hb : ∀ p ∈ l, ∀ q ∈ l, Q (barOut p q h).2) (hh : ∀ p ∈ l, ∀ q ∈ l, p ≠ q → Q (headOut p q h).2) (ht : ∀ p ∈ l, ∀ q ∈ l, p ≠ q → Q (tailOut p q h).2) (ho : ∀ p ∈ l, Q (roomOut (dotI p h)).2) :
    ∀ L ∈ (strokeOut l cl h cap).2, Q L := by
  intro L hL
  unfold strokeOut at hL
  split at hL
  · unfold toldT at hL
    split at hL
    · exact strokeT_all Q (apartI l cl) cl h cap (fun i p q => apartI_adj l cl i p q) (fun p hp => hd p (apartI_mem hp)) (fun p hp q hq => hb p (apartI_mem hp) q (apartI_mem hq)) (fun p hp q hq => hh p (apartI_mem hp) q (apartI_mem hq)) (fun p hp q hq => ht p (apartI_mem hp) q (apartI_mem hq)) (fun p hp => ho p (apartI_mem hp)) L hL
    · cases hL
  · cases hL
theorem roomOut_sub {l : List Pt} {p : Pt} (h : p ∈ (roomOut l).2) : p ∈ l := by
  unfold roomOut at h
  split at h
  · exact h
  · cases h
/-- Within twice the half width of a point. -/
def nearP (h : Int) (c p : Pt) : Prop := (c.1 - 2 * h ≤ p.1 ∧ p.1 ≤ c.1 + 2 * h) ∧ c.2 - 2 * h ≤ p.2 ∧ p.2 ≤ c.2 + 2 * h
theorem near_slab {a b n : Pt} {h : Int} {p c d : Pt} (hp : p ∈ slabI a b n) (hn : (-h ≤ n.1 ∧ n.1 ≤ h) ∧ -h ≤ n.2 ∧ n.2 ≤ h) (ha : (c.1 - h ≤ a.1 ∧ a.1 ≤ c.1 + h) ∧ c.2 - h ≤ a.2 ∧ a.2 ≤ c.2 + h) (hb : (d.1 - h ≤ b.1 ∧ b.1 ≤ d.1 + h) ∧ d.2 - h ≤ b.2 ∧ b.2 ≤ d.2 + h) : nearP h c p ∨ nearP h d p := by
  unfold slabI at hp
  simp only [List.mem_cons, List.not_mem_nil, or_false] at hp
  unfold nearP
  rcases hp with rfl | rfl | rfl | rfl
  · left; simp only [subP]; omega
  · right; simp only [subP]; omega
  · right; simp only [addP]; omega
  · left; simp only [addP]; omega
theorem near_disc {p c : Pt} {h : Int} (hp : p ∈ (discOut c h).2) : nearP h c p := by
  unfold discOut at hp
  split at hp
  · rename_i hc
    rw [Bool.and_eq_true] at hc
    have hh := penB_iff.1 hc.1
    have hm := roomOut_sub hp
    unfold discI at hm
    obtain ⟨k, _, rfl⟩ := List.mem_map.1 hm
    have := disc_bound hh k
    unfold nearP discP addP
    simp only
    omega
  · cases hp
theorem near_bar {p a b : Pt} {h : Int} (hp : p ∈ (barOut a b h).2) : nearP h a p ∨ nearP h b p := by
  unfold barOut at hp
  split at hp
  · rename_i hc
    simp only [Bool.and_eq_true, Bool.not_eq_true', decide_eq_false_iff_not] at hc
    have hh := penB_iff.1 hc.1.1.1
    unfold barIn at hp
    split at hp
    · rename_i hl
      have hb := stepS_le (lenB_iff.1 hl) (ne_sub hc.2) (k := h) (by omega)
      exact near_slab (roomOut_sub hp) hb (by omega) (by omega)
    · cases hp
  · cases hp
theorem near_head {p a b : Pt} {h : Int} (hh : 1 ≤ h) (hab : a ≠ b) (hp : p ∈ (headOut a b h).2) : nearP h a p ∨ nearP h b p := by
  unfold headOut at hp
  split at hp
  · rename_i hl
    have hb := stepS_le (lenB_iff.1 hl) (ne_sub hab) (k := h) (by omega)
    have hs := stepA_le (lenB_iff.1 hl) (ne_sub hab) (k := h) (by omega)
    have k := near_slab (c := a) (d := a) (roomOut_sub hp) hb (by simp only [subP] at hs ⊢; omega) (by omega)
    exact .inl (k.elim id id)
  · cases hp
theorem near_tail {p a b : Pt} {h : Int} (hh : 1 ≤ h) (hab : a ≠ b) (hp : p ∈ (tailOut a b h).2) : nearP h a p ∨ nearP h b p := by
  unfold tailOut at hp
  split at hp
  · rename_i hl
    have hb := stepS_le (lenB_iff.1 hl) (ne_sub hab) (k := h) (by omega)
    have hs := stepA_le (lenB_iff.1 hl) (ne_sub hab) (k := h) (by omega)
    have k := near_slab (c := b) (d := b) (roomOut_sub hp) hb (by omega) (by simp only [addP] at hs ⊢; omega)
    exact .inr (k.elim id id)
  · cases hp
theorem near_dot {p c : Pt} {h : Int} (hh : 1 ≤ h) (hp : p ∈ (roomOut (dotI c h)).2) : nearP h c p := by
  have k := near_slab (c := c) (d := c) (h := h) (roomOut_sub hp) (by simp only; omega) (by simp only [subP]; omega) (by simp only [addP]; omega)
  exact k.elim id id
theorem near_has {l : List Pt} {c p : Pt} {h : Int} (hh : 1 ≤ h ∧ h ≤ 32768) (hr : l.all roomP = true) (hc : c ∈ l) (hn : nearP h c p) : hasI (reachI (boundI l) h) p.1 p.2 = true := by
  have hne : l ≠ [] := fun e => by rw [e] at hc; cases hc
  have T := tight_bound l hne
  have hcB := T.has c hc
  obtain ⟨p0, m0, e0⟩ := T.s0
  obtain ⟨p1, m1, e1⟩ := T.s1
  obtain ⟨p2, m2, e2⟩ := T.s2
  obtain ⟨p3, m3, e3⟩ := T.s3
  have r : ∀ q ∈ l, roomP q = true := fun q hq => List.all_eq_true.1 hr q hq
  have r0 := roomP_iff.1 (r p0 m0)
  have r1 := roomP_iff.1 (r p1 m1)
  have r2 := roomP_iff.1 (r p2 m2)
  have r3 := roomP_iff.1 (r p3 m3)
  have nid : ∀ x : Int, -9223372036854775808 ≤ x → x ≤ 9223372036854775807 → nearI x = x := fun x a b => by unfold nearI; rw [if_pos (fits_iff.2 ⟨a, b⟩)]
  unfold reachI
  rw [tight_full T, if_neg (by decide), nid _ (by omega) (by omega), nid _ (by omega) (by omega), nid _ (by omega) (by omega), nid _ (by omega) (by omega)]
  unfold nearP at hn
  simp only [hasI, Bool.and_eq_true, decide_eq_true_eq]
  omega
/-- All that a pen leaves lies in the reach. -/
theorem reach_all {l : List Pt} {cl : Bool} {h cap : Int} (hh : 1 ≤ h ∧ h ≤ 32768) (hr : l.all roomP = true) : ∀ L ∈ (strokeOut l cl h cap).2, ∀ p ∈ L, hasI (reachI (boundI l) h) p.1 p.2 = true := by
  have two_ : ∀ a ∈ l, ∀ b ∈ l, ∀ p, (nearP h a p ∨ nearP h b p) → hasI (reachI (boundI l) h) p.1 p.2 = true := fun a ha b hb p hp => hp.elim (near_has hh hr ha) (near_has hh hr hb)
  exact strokeOut_all (fun L => ∀ p ∈ L, hasI (reachI (boundI l) h) p.1 p.2 = true) l cl h cap (fun c hc p hp => near_has hh hr hc (near_disc hp)) (fun a ha b hb p hp => two_ a ha b hb p (near_bar hp)) (fun a ha b hb hab p hp => two_ a ha b hb p (near_head hh.1 hab hp)) (fun a ha b hb hab p hp => two_ a ha b hb p (near_tail hh.1 hab hp)) (fun c hc p hp => near_has hh hr hc (near_dot hh.1 hp))
end Go.Proofs.YtdidbejinfkhbaaDoor
