/- Layer 15: package pathtext: the words of a text, one by one. -/
import Derived.Test.YtbnbglngpgikfaaGreatDoorQb
namespace Go.Proofs.YtbnbglngpgikfaaGreatDoor
open Go.RowKit Go.Shelf
attribute [local go_sem] Oper.semAt_some
/-- What a round must leave as it lies: what KS says, the loop's own two blocks, the iterator's two. -/
def RoundL (KS : Nat → Prop) (N : Nat) : Nat → Prop := fun j => KS j ∨ (N ≤ j ∧ j < N + 4)
def wdPost (KS : Nat → Prop) (N k : Nat) (I : Nat → World → Prop) (Ix : World → Prop) (W : World) : Exit → Act → World → Prop
  | .normal, _, W' => Keep (RoundL KS N) W W' ∧ I k W'
  | .ret, _, W' => Keep (RoundL KS N) W W' ∧ Ix W'
  | _, _, _ => False
/-- What the function that yields must do. KS: what each round leaves as it lies; the function has two blocks of its own. -/
def YieldsS (fnum : FuncId) (pv : Value) (KS : Nat → Prop) (ws : List Wd) (W : World) : Prop :=
  ∀ (L : Nat) (J : Nat → World → Prop) (Jx : World → Prop),
    (∀ k A B, J k A → Keep (fun j => ¬ (W.heap.size ≤ j ∧ j < W.heap.size + 2)) A B → J k B) →
    (∀ i v A, ws[i]? = some v → J i A → W.heap.size + 2 ≤ A.heap.size → YieldAt Fence.wide 7 Tryz.prog L (wdArgs v) A fun e B =>
      ∃ t, e = .returned (.bool t) ∧ ((t = true ∧ J (i + 1) B) ∨ (t = false ∧ Jx B)) ∧ Keep (fun j => KS j ∨ (W.heap.size ≤ j ∧ j < W.heap.size + 2)) A B) →
    J 0 W → CallsIn Fence.wide 8 Tryz.prog fnum #[.func (.yield L) #[] #[], pv] W fun e B => (∃ v, e = .returned v) ∧ (J ws.length B ∨ Jx B)
theorem cut_succ {l : Wd} {a b : Nat} {c : UInt8} (hab : a ≤ b) (hc : l[b]? = some c) : cutW l a (b + 1) = cutW l a b ++ [c] := by
  unfold cutW
  rw [show b + 1 - a = (b - a) + 1 by omega, List.take_add_one, List.getElem?_drop, show a + (b - a) = b by omega, hc]
  rfl
theorem cut_same (l : Wd) (a : Nat) : cutW l a a = [] := by unfold cutW; simp
theorem cut_ne {l : Wd} {a b : Nat} (hab : a < b) (hb : b ≤ l.length) : cutW l a b ≠ [] := fun h => by
  have := congrArg List.length h
  unfold cutW at this
  simp at this
  omega
theorem drop_cons {l : Wd} {b : Nat} {c : UInt8} (hc : l[b]? = some c) : l.drop b = c :: l.drop (b + 1) := by
  obtain ⟨hlt, e⟩ := List.getElem?_eq_some_iff.1 hc
  rw [← e]; exact List.drop_eq_getElem_cons hlt
theorem drop_one {ws r : List Wd} {p : Nat} {v : Wd} (h : ws.drop p = v :: r) : ws[p]? = some v ∧ ws.drop (p + 1) = r := by
  have h0 : (ws.drop p)[0]? = some v := by rw [h]; rfl
  rw [List.getElem?_drop, Nat.add_zero] at h0
  refine ⟨h0, ?_⟩
  rw [← List.drop_drop, h]
  rfl
/-- In the iterator, behind p words; the next one has begun at a. -/
structure ItS (KS : Nat → Prop) (J : Nat → World → Prop) (L : Nat) (W : World) (p a : Nat) (A : World) : Prop where
  j : J p A
  keep : Keep KS W A
  sz : W.heap.size + 2 ≤ A.heap.size
  y : Blk A W.heap.size 37 #[.func (.yield L) #[] #[]]
  g : Blk A (W.heap.size + 1) 3 #[.int .i64 (a : Int)]
theorem ItS.s {KS : Nat → Prop} {J : Nat → World → Prop} {L bx : Nat} {l : Wd} {W : World} {p a : Nat} {A : World} (h : ItS KS J L W p a A) (hbs : KS bx) (hbl : bx < W.heap.size) (hbx : W.cell? ⟨bx, 0, none⟩ = some (.string ⟨l.toArray⟩)) : A.cell? ⟨bx, 0, none⟩ = some (.string ⟨l.toArray⟩) := (h.keep.cell hbs hbl).trans hbx
/-- 'end', where nothing has begun. -/
theorem ItS.no {KS : Nat → Prop} {J : Nat → World → Prop} {L bx : Nat} {l : Wd} {W : World} {p a nx : Nat} {A : World} (h : ItS KS J L W p a A) (hJ : ∀ k A B, J k A → Keep (fun j => ¬ (W.heap.size ≤ j ∧ j < W.heap.size + 2)) A B → J k B) (hKS : ∀ j, KS j → j < W.heap.size) (hbs : KS bx) (hbx : W.cell? ⟨bx, 0, none⟩ = some (.string ⟨l.toArray⟩)) (hal : a ≤ l.length) :
    Calls Tryz.prog 45 (endArgs a nx bx (W.heap.size + 1) W.heap.size) A fun e B => e = .returned (.bool true) ∧ ItS KS J L W p nx B := by
  refine (end_no l a nx bx (W.heap.size + 1) W.heap.size A hal (h.s hbs (hKS _ hbs) hbx) (h.g.cell 0) (h.g.free 0)).mono ?_
  rintro e B ⟨rfl, rfl⟩
  have k1 : ∀ S : Nat → Prop, ¬ S (W.heap.size + 1) → Keep S A (A.setCell ⟨W.heap.size + 1, 0, none⟩ (.int .i64 (nx : Int))) := fun S hS => Keep.setCell _ _ _ hS
  exact ⟨rfl, hJ _ _ _ h.j (k1 _ (by omega)), h.keep.trans (k1 _ (fun e => by have := hKS _ e; omega)), by have := h.sz; simp [World.setCell]; omega, h.y.other _ _ (by simp), by simpa using h.g.set 0 (.int .i64 (nx : Int))⟩
/-- 'end', where a word ends. -/
theorem ItS.yes {KS : Nat → Prop} {J : Nat → World → Prop} {Jx : World → Prop} {L bx : Nat} {l : Wd} {ws : List Wd} {W : World} {p a b nx : Nat} {A : World} (h : ItS KS J L W p a A) (hJ : ∀ k A B, J k A → Keep (fun j => ¬ (W.heap.size ≤ j ∧ j < W.heap.size + 2)) A B → J k B) (hKS : ∀ j, KS j → j < W.heap.size) (hbs : KS bx) (hbx : W.cell? ⟨bx, 0, none⟩ = some (.string ⟨l.toArray⟩))
    (hY : ∀ i v A, ws[i]? = some v → J i A → W.heap.size + 2 ≤ A.heap.size → YieldAt Fence.wide 7 Tryz.prog L (wdArgs v) A fun e B =>
      ∃ t, e = .returned (.bool t) ∧ ((t = true ∧ J (i + 1) B) ∨ (t = false ∧ Jx B)) ∧ Keep (fun j => KS j ∨ (W.heap.size ≤ j ∧ j < W.heap.size + 2)) A B)
    (hlt : a < b) (hbl : b ≤ l.length) (r : List Wd) (hws : ws.drop p = cutW l a b :: r) :
    CallsIn Fence.wide 8 Tryz.prog 45 (endArgs b nx bx (W.heap.size + 1) W.heap.size) A fun e B => ∃ t, e = .returned (.bool t) ∧ ((t = true ∧ ItS KS J L W (p + 1) nx B) ∨ (t = false ∧ Jx B)) := by
  obtain ⟨w0, w1⟩ := drop_one hws
  have k1 : ∀ S : Nat → Prop, ¬ S (W.heap.size + 1) → Keep S A (A.setCell ⟨W.heap.size + 1, 0, none⟩ (.int .i64 (nx : Int))) := fun S hS => Keep.setCell _ _ _ hS
  have by' : Blk (A.setCell ⟨W.heap.size + 1, 0, none⟩ (.int .i64 (nx : Int))) W.heap.size 37 #[.func (.yield L) #[] #[]] := h.y.other _ _ (by simp)
  have bg' : Blk (A.setCell ⟨W.heap.size + 1, 0, none⟩ (.int .i64 (nx : Int))) (W.heap.size + 1) 3 #[.int .i64 (nx : Int)] := by simpa using h.g.set 0 (.int .i64 (nx : Int))
  have hz : W.heap.size + 2 ≤ (A.setCell ⟨W.heap.size + 1, 0, none⟩ (.int .i64 (nx : Int))).heap.size := by have := h.sz; simp [World.setCell]; omega
  refine end_yes L l a b nx bx (W.heap.size + 1) W.heap.size (cutW l a b) rfl (cut_ne hlt hbl) A (by omega) hbl (h.s hbs (hKS _ hbs) hbx) (h.g.cell 0) (h.g.free 0) (by'.cell 0) _ ?_
  obtain ⟨fn, tmps, assign, body, hyd, hR⟩ := hY p (cutW l a b) _ w0 (hJ _ _ _ h.j (k1 _ (by omega))) hz
  refine ⟨fn, tmps, assign, body, hyd, hR.mono ?_⟩
  rintro e B ⟨t, rfl, ht, hk⟩
  refine ⟨t, rfl, ?_⟩
  rcases ht with ⟨rfl, hj⟩ | ⟨rfl, hx⟩
  · exact .inl ⟨rfl, hj, (h.keep.trans (k1 _ (fun e => by have := hKS _ e; omega))).trans (hk.mono fun j hj => .inl hj), Nat.le_trans hz hk.size, hk.blk by' (.inr (by omega)), hk.blk bg' (.inr (by omega))⟩
  · exact .inr ⟨rfl, hx⟩
end Go.Proofs.YtbnbglngpgikfaaGreatDoor
