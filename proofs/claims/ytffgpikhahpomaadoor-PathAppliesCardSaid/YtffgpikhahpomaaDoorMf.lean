/- Layer 6: the law PathApplies: what is refused; what lies in memory. -/
import Derived.Test.YtffgpikhahpomaaDoorMe
import Derived.Test.YtffgpikhahpomaaDoorSu
import Derived.Test.YtffgpikhahpomaaDoorSm
import Derived.Test.YtffgpikhahpomaaDoorSe
namespace Go.Proofs.YtffgpikhahpomaaDoor
open Go.RowKit
/-- What Apply tells of a point, also where it refuses. -/
def resP (m : Mx) (p : Pt) : Pt := if apOk m p.1 p.2 = true then mkP m p else (0, 0)
def madeX (m : Mx) (s : Sg) : Sg := mixQ s (resP m s.p) (resP m s.q) (resP m s.r) (needI s.k)
theorem madeX_ok {m : Mx} {s : Sg} (h : madeOk m s = true) : madeX m s = madeS m s := by
  unfold madeX madeS
  unfold madeOk needPts at h
  have h3 := needI_le s.k
  rcases (by omega : needI s.k = 0 ∨ needI s.k = 1 ∨ needI s.k = 2 ∨ needI s.k = 3) with e | e | e | e <;> rw [e] at h ⊢ <;> simp [Sg.pts] at h <;> simp [mixQ, resP, h]
theorem mixQ_put {m : Mx} {s : Sg} {j : Nat} {p : Pt} (hj : j < 3) (hp : s.pts[j]? = some p) : mixQ s (resP m s.p) (resP m s.q) (resP m s.r) (j + 1) = (mixQ s (resP m s.p) (resP m s.q) (resP m s.r) j).put j (resP m p) := by
  rcases (by omega : j = 0 ∨ j = 1 ∨ j = 2) with rfl | rfl | rfl <;> simp [Sg.pts] at hp <;> subst hp <;> simp [mixQ, Sg.put]
theorem flatS_put : ∀ (l : List Sg) (I : Nat) (s : Sg) (p : Pt), l[I]? = some s → ∀ J, J < 3 → ((flatS l).set (I * 7 + (1 + 2 * J)) (.int .i64 p.1)).set (I * 7 + (2 + 2 * J)) (.int .i64 p.2) = flatS (l.take I ++ [s.put J p] ++ l.drop (I + 1))
  | [], I, s, p, h, _, _ => by simp at h
  | a :: l, 0, s, p, h, J, hJ => by
    obtain rfl : a = s := by simpa using h
    rcases (by omega : J = 0 ∨ J = 1 ∨ J = 2) with rfl | rfl | rfl <;> simp [flatS, Sg.put]
  | a :: l, I + 1, s, p, h, J, hJ => by
    have ih := flatS_put l I s p (by simpa using h) J hJ
    have e : ∀ k, (I + 1) * 7 + k = (I * 7 + k) + 1 + 1 + 1 + 1 + 1 + 1 + 1 := fun k => by omega
    rw [e, e]
    simp only [flatS, List.take_succ_cons, List.drop_succ_cons, List.cons_append, List.set_cons_succ, ih]
/-- What lies in memory between two rounds. -/
structure LwS (w : World) (gM : Nat) (m : Mx) (ya : Option Addr) (n yc : Nat) (A : World) (v : Value) (PL : List Pt) (Y : List Sg) : Prop where
  below : Below w.heap.size w A
  km : Blk A gM 67 (six m)
  lt : gM < w.heap.size
  all : Own A w.heap.size 44 v PL
  y : OwnS A w.heap.size 60 (.slice ya n yc) Y
  len : Y.length = n
section
variable {w A B : World} {gM : Nat} {m : Mx} {ya : Option Addr} {n yc : Nat} {v v' : Value} {PL QL : List Pt} {Y : List Sg}
theorem LwS.grow (h : LwS w gM m ya n yc A v PL Y) (hb : Below A.heap.size A B) : LwS w gM m ya n yc B v PL Y :=
  ⟨below_next h.below hb, h.km.grow hb, h.lt, h.all.grow hb, h.y.grow hb, h.len⟩
theorem LwS.append (h : LwS w gM m ya n yc A v PL Y) (ho : Own B w.heap.size 44 v' QL) (hg : A.grownBy B v.ownBlock) : LwS w gM m ya n yc B v' QL Y :=
  ⟨own_below h.all hg h.below (Nat.le_refl _) h.below.size, own_blk h.all hg h.km h.lt, h.lt, ho, World.ownsRow.kept h.y hg (apart_types h.y h.all (by decide)), h.len⟩
theorem LwS.yb (h : LwS w gM m ya n yc A v PL Y) (h0 : 0 < n) : ∃ b, ya = some ⟨b, 0, none⟩ ∧ w.heap.size ≤ b ∧ b < A.heap.size ∧ (∀ j, A.frozen? ⟨b, j, none⟩ = false) ∧ SegsAt A b 0 Y := by
  have hr := h.y.row
  have hc : ∀ b, ya = some ⟨b, 0, none⟩ → SegsAt A b 0 Y := fun b e => by
    subst e
    obtain ⟨b', o', e', _, hs⟩ := hr.addr (k := 0) (by rw [h.len]; exact h0)
    cases e'
    exact hs
  obtain ⟨_, ⟨e, hz⟩ | ⟨g, cap, cur, e, hb, hg, _⟩⟩ := h.y
  · have := h.len; omega
  · cases e
    exact ⟨g, rfl, hb, (Array.getElem?_eq_some_iff.1 hg).1, fun j => Joins.unfrozen_of_block hg j, hc g rfl⟩
theorem LwS.store {b I J : Nat} {s : Sg} (h : LwS w gM m (some ⟨b, 0, none⟩) n yc A v PL Y) (hs : Y[I]? = some s) (hJ : J < 3) (p : Pt) : LwS w gM m (some ⟨b, 0, none⟩) n yc ((A.setCell ⟨b, I * 7 + 1 + J * 2, none⟩ (.int .i64 p.1)).setCell ⟨b, I * 7 + 1 + J * 2 + 1, none⟩ (.int .i64 p.2)) v PL (Y.take I ++ [s.put J p] ++ Y.drop (I + 1)) := by
  have hI := (List.getElem?_eq_some_iff.1 hs).1
  have hl : (Y.take I ++ [s.put J p] ++ Y.drop (I + 1)).length = n := by have := h.len; simp; omega
  have hb := (World.ownsRow.lt h.y b rfl).1
  have hne : ∀ k, v.ownBlock = some k → k ≠ b := fun k hk e => by
    subst e
    rcases apart_types h.y h.all (by decide) with e | e
    · cases e
    · exact e hk.symm
  have hlt := h.lt
  have e1 : I * 7 + 1 + J * 2 = I * 7 + (1 + 2 * J) := by omega
  have e2 : I * 7 + 1 + J * 2 + 1 = I * 7 + (2 + 2 * J) := by omega
  rw [e1, show I * 7 + (1 + 2 * J) + 1 = I * 7 + (2 + 2 * J) by omega]
  refine ⟨(h.below.setCell (by dsimp only; omega) _).setCell (by dsimp only; omega) _, (h.km.other _ _ (by dsimp only; omega)).other _ _ (by dsimp only; omega), hlt, ?_, ?_, hl⟩
  · have hg : ∀ (W : World) (a : Addr) (u : Value), a.block = b → Own W w.heap.size 44 v PL → Own (W.setCell a u) w.heap.size 44 v PL := fun W a u ha ho => by
      obtain ⟨h1, ⟨e, hz⟩ | ⟨g, cap, cur, e, hb', hg, hc, hm, hs', ht⟩⟩ := ho
      · exact ⟨h1, .inl ⟨e, hz⟩⟩
      · refine ⟨h1, .inr ⟨g, cap, cur, e, hb', ?_, hc, hm, hs', ht⟩⟩
        rw [Below.heap_setCell _ _ _ _ (by rw [ha]; exact hne g (by rw [e]; rfl))]
        exact hg
    exact hg _ _ _ rfl (hg _ _ _ rfl h.all)
  · have hy : A.ownsRow w.heap.size 60 7 (.slice (some ⟨b, 0, none⟩) n yc) n (flatS Y) := by have := h.y; unfold OwnS at this; rwa [h.len] at this
    have h1 := owns_set hy (i := I * 7 + (1 + 2 * J)) (by have := h.len; omega) (.int .i64 p.1)
    have h2 := owns_set h1 (i := I * 7 + (2 + 2 * J)) (by have := h.len; omega) (.int .i64 p.2)
    rw [flatS_put Y I s p hs J hJ] at h2
    unfold OwnS
    rw [hl]
    exact h2
end
end Go.Proofs.YtffgpikhahpomaaDoor
