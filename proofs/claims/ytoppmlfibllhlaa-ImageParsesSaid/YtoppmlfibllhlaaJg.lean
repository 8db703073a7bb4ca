/- Layer 11: two images told and laid in one region; an image that lies far. -/
import Derived.Test.YtoppmlfibllhlaaJf
import Derived.BigQuiet
namespace Go.Proofs.Ytoppmlfibllhlaa
open Go.RowKit
/-- Two images that are told and laid in one drawn region, as far as its operations have come up. -/
structure TwoR (w1 : World) (W H oW oH : Int) (l ol : List Col) (b2 b5 b6 b7 b8 b9 : Bool) (v2 v5 v6 v7 : Value) (A : World) : Prop where
  below : Below w1.heap.size w1 A
  y2 : b2 = true → ∃ u, v2 = .agg #[.int .i64 W, .int .i64 H, u] ∧ OwnK .i64 A w1.heap.size 43 u l
  y5 : b5 = true → ∃ u, v5 = .agg #[.int .i64 oW, .int .i64 oH, u] ∧ OwnK .i64 A w1.heap.size 43 u ol
  z6 : b6 = true → ∃ g, v6 = .pointer (some ⟨g, 0, none⟩) ∧ w1.heap.size ≤ g ∧ Blk A g 33 (if b8 = true then v2.cells else #[.int .i64 0, .int .i64 0, .slice none 0 0])
  z7 : b7 = true → ∃ g, v7 = .pointer (some ⟨g, 0, none⟩) ∧ w1.heap.size ≤ g ∧ Blk A g 33 (if b9 = true then v5.cells else #[.int .i64 0, .int .i64 0, .slice none 0 0])
  ne : b6 = true → b7 = true → v6 ≠ v7
  e8 : b8 = true → b6 = true ∧ b2 = true
  e9 : b9 = true → b7 = true ∧ b5 = true
theorem TwoR.swap {w1 : World} {W H oW oH : Int} {l ol : List Col} {b2 b5 b6 b7 b8 b9 : Bool} {v2 v5 v6 v7 : Value} {A : World} (h : TwoR w1 W H oW oH l ol b2 b5 b6 b7 b8 b9 v2 v5 v6 v7 A) : TwoR w1 oW oH W H ol l b5 b2 b7 b6 b9 b8 v5 v2 v7 v6 A :=
  ⟨h.below, h.y5, h.y2, h.z7, h.z6, fun h7 h6 e => h.ne h6 h7 e.symm, h.e9, h.e8⟩
theorem TwoR.start (w1 : World) (W H oW oH : Int) (l ol : List Col) (v2 v5 v6 v7 : Value) : TwoR w1 W H oW oH l ol false false false false false false v2 v5 v6 v7 w1.drew :=
  ⟨below_drewN (Below.refl _ _) 1, nofun, nofun, nofun, nofun, nofun, nofun, nofun⟩
theorem TwoR.grow {w1 : World} {W H oW oH : Int} {l ol : List Col} {b2 b5 b6 b7 b8 b9 : Bool} {v2 v5 v6 v7 : Value} {A B : World} (h : TwoR w1 W H oW oH l ol b2 b5 b6 b7 b8 b9 v2 v5 v6 v7 A) (hb : Below A.heap.size A B) : TwoR w1 W H oW oH l ol b2 b5 b6 b7 b8 b9 v2 v5 v6 v7 B :=
  ⟨h.below.trans (hb.mono h.below.size), fun k => let ⟨u, e, ho⟩ := h.y2 k; ⟨u, e, ho.grow hb⟩, fun k => let ⟨u, e, ho⟩ := h.y5 k; ⟨u, e, ho.grow hb⟩, fun k => let ⟨g, e, hg, hk⟩ := h.z6 k; ⟨g, e, hg, hk.grow hb⟩, fun k => let ⟨g, e, hg, hk⟩ := h.z7 k; ⟨g, e, hg, hk.grow hb⟩, h.ne, h.e8, h.e9⟩
theorem TwoR.call2 {w1 : World} {W H oW oH : Int} {l ol : List Col} {b5 b6 b7 b8 b9 : Bool} {v2 v5 v6 v7 u : Value} {A B : World} (h : TwoR w1 W H oW oH l ol false b5 b6 b7 b8 b9 v2 v5 v6 v7 A) (hb : Below A.heap.size A B) (ho : OwnK .i64 B A.heap.size 43 u l) : TwoR w1 W H oW oH l ol true b5 b6 b7 b8 b9 (.agg #[.int .i64 W, .int .i64 H, u]) v5 v6 v7 B := by
  have h8 : b8 = false := by
    cases hz : b8 with
    | false => rfl
    | true => have := (h.e8 hz).2; cases this
  subst h8
  have g := h.grow hb
  exact ⟨g.below, fun _ => ⟨u, rfl, ho.base h.below.size⟩, g.y5, g.z6, g.z7, g.ne, nofun, g.e9⟩
theorem TwoR.call5 {w1 : World} {W H oW oH : Int} {l ol : List Col} {b2 b6 b7 b8 b9 : Bool} {v2 v5 v6 v7 u : Value} {A B : World} (h : TwoR w1 W H oW oH l ol b2 false b6 b7 b8 b9 v2 v5 v6 v7 A) (hb : Below A.heap.size A B) (ho : OwnK .i64 B A.heap.size 43 u ol) : TwoR w1 W H oW oH l ol b2 true b6 b7 b8 b9 v2 (.agg #[.int .i64 oW, .int .i64 oH, u]) v6 v7 B := (h.swap.call2 hb ho).swap
theorem TwoR.alloc6 {w1 : World} {W H oW oH : Int} {l ol : List Col} {b2 b5 b7 b8 b9 : Bool} {v2 v5 v6 v7 : Value} {A : World} (h : TwoR w1 W H oW oH l ol b2 b5 false b7 b8 b9 v2 v5 v6 v7 A) : TwoR w1 W H oW oH l ol b2 b5 true b7 b8 b9 v2 v5 (.pointer (some ⟨A.heap.size, 0, none⟩)) v7 (A.alloc (.cells #[.int .i64 0, .int .i64 0, .slice none 0 0] 33)) := by
  have h8 : b8 = false := by
    cases hz : b8 with
    | false => rfl
    | true => have := (h.e8 hz).1; cases this
  subst h8
  have g := h.grow ((Below.refl _ _).alloc (Nat.le_refl _) (.cells #[.int .i64 0, .int .i64 0, .slice none 0 0] 33))
  refine ⟨g.below, g.y2, g.y5, fun _ => ⟨_, rfl, h.below.size, Blk.new _ _ _⟩, g.z7, fun _ h7 e => ?_, nofun, g.e9⟩
  obtain ⟨q, e2, _, hq⟩ := h.z7 h7
  have := hq.lt
  rw [e2] at e
  simp at e <;> omega
theorem TwoR.alloc7 {w1 : World} {W H oW oH : Int} {l ol : List Col} {b2 b5 b6 b8 b9 : Bool} {v2 v5 v6 v7 : Value} {A : World} (h : TwoR w1 W H oW oH l ol b2 b5 b6 false b8 b9 v2 v5 v6 v7 A) : TwoR w1 W H oW oH l ol b2 b5 b6 true b8 b9 v2 v5 v6 (.pointer (some ⟨A.heap.size, 0, none⟩)) (A.alloc (.cells #[.int .i64 0, .int .i64 0, .slice none 0 0] 33)) := h.swap.alloc6.swap
theorem TwoR.store8 {w1 : World} {W H oW oH : Int} {l ol : List Col} {b2 b5 b6 b7 b9 : Bool} {v2 v5 v6 v7 : Value} {A : World} (h : TwoR w1 W H oW oH l ol b2 b5 b6 b7 false b9 v2 v5 v6 v7 A) (h2 : b2 = true) (h6 : b6 = true) {g : Nat} (hg : v6 = .pointer (some ⟨g, 0, none⟩)) {u : Value} (hv : v2 = .agg #[.int .i64 W, .int .i64 H, u]) :
    TwoR w1 W H oW oH l ol b2 b5 b6 b7 true b9 v2 v5 v6 v7 (((A.setCell ⟨g, 0, none⟩ (.int .i64 W)).setCell ⟨g, 1, none⟩ (.int .i64 H)).setCell ⟨g, 2, none⟩ u) := by
  obtain ⟨g', e, hg1, hk⟩ := h.z6 h6
  rw [hg] at e
  simp at e
  subst e
  have hk0 : Blk A g 33 #[.int .i64 0, .int .i64 0, .slice none 0 0] := hk
  have hkeep : Keep (fun j => j ≠ g) A (((A.setCell ⟨g, 0, none⟩ (.int .i64 W)).setCell ⟨g, 1, none⟩ (.int .i64 H)).setCell ⟨g, 2, none⟩ u) := ((Keep.setCell _ _ _ (by simp)).trans (Keep.setCell _ _ _ (by simp))).trans (Keep.setCell _ _ _ (by simp))
  refine ⟨((h.below.setCell hg1 _).setCell hg1 _).setCell hg1 _, fun k => ?_, fun k => ?_, fun _ => ⟨g, hg, hg1, ?_⟩, fun k => ?_, h.ne, fun _ => ⟨h6, h2⟩, h.e9⟩
  · obtain ⟨u', e, ho⟩ := h.y2 k
    exact ⟨u', e, ho.keep hkeep fun j ej e2 => owns_off ho hk0 (by decide) (e2 ▸ ej)⟩
  · obtain ⟨u', e, ho⟩ := h.y5 k
    exact ⟨u', e, ho.keep hkeep fun j ej e2 => owns_off ho hk0 (by decide) (e2 ▸ ej)⟩
  · rw [hv]
    exact ((hk0.set 0 _).set 1 _).set 2 _
  · obtain ⟨q, e, hq, hk2⟩ := h.z7 k
    have hne : q ≠ g := fun e3 => h.ne h6 k (by rw [hg, e, e3])
    exact ⟨q, e, hq, ((hk2.other _ _ hne).other _ _ hne).other _ _ hne⟩
theorem TwoR.store9 {w1 : World} {W H oW oH : Int} {l ol : List Col} {b2 b5 b6 b7 b8 : Bool} {v2 v5 v6 v7 : Value} {A : World} (h : TwoR w1 W H oW oH l ol b2 b5 b6 b7 b8 false v2 v5 v6 v7 A) (h5 : b5 = true) (h7 : b7 = true) {g : Nat} (hg : v7 = .pointer (some ⟨g, 0, none⟩)) {u : Value} (hv : v5 = .agg #[.int .i64 oW, .int .i64 oH, u]) :
    TwoR w1 W H oW oH l ol b2 b5 b6 b7 b8 true v2 v5 v6 v7 (((A.setCell ⟨g, 0, none⟩ (.int .i64 oW)).setCell ⟨g, 1, none⟩ (.int .i64 oH)).setCell ⟨g, 2, none⟩ u) := (h.swap.store8 h5 h7 hg hv).swap
theorem layL_far {W oW oH x y b m : Int} {l ol : List Col} (hW : 1 ≤ W ∧ W ≤ 256) (hH : ∀ k, k < l.length → (k : Int) / W ≤ 300) (ho : oW ≤ 256 ∧ oH ≤ 256) (h : x < -1000 ∨ x > 1000 ∨ y < -1000 ∨ y > 1000) : layL W oW oH x y b m l ol l.length = l := by
  refine List.ext_getElem (layL_len _ _ _ _ _ _ _ _ _ _) fun k h1 h2 => ?_
  have hk : k < l.length := by rwa [layL_len] at h1
  obtain ⟨_, _, r3, r4, r5, _⟩ := rem_quo (k := k) hW.1
  have hy := hH k hk
  have hin : layIn W oW oH x y k = false := by
    unfold layIn
    generalize (k : Int) % W = X at *
    generalize (k : Int) / W = Y at *
    rw [Bool.eq_false_iff]
    simp
    omega
  simp only [layL, List.getElem_map, List.getElem_range]
  unfold layPx
  rw [hin]
  have h3 := cAt_some hk
  rw [List.getElem?_eq_getElem hk] at h3
  simpa using h3.symm
end Go.Proofs.Ytoppmlfibllhlaa

