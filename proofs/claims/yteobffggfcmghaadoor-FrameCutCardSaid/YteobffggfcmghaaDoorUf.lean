/- Layer 13: package frame: rows of bytes resliced; what an In keeps in memory. -/
import Derived.Test.YteobffggfcmghaaDoorUe
namespace Go.Proofs.YteobffggfcmghaaDoor
open Go.RowKit
/-- Where a reslice begins. -/
def cutA (ao : Option Addr) (l m : Nat) : Option Addr := if m = l then ao else ao.map (·.add l)
theorem cutA_block (ao : Option Addr) (l m k c n c' : Nat) : (Value.slice (cutA ao l m) k c).ownBlock = (Value.slice ao n c').ownBlock := by
  unfold cutA
  cases ao with
  | none => split <;> rfl
  | some a =>
    split
    · rfl
    · show some (a.add l).block = some a.block
      unfold Addr.add
      split <;> rfl
theorem RowB.cutU {w : World} {ao : Option Addr} {n c : Nat} {L : List Int} (h : RowB w (.slice ao n c) L) (hn : L.length = n) {l k m : Nat} (hk : l + k ≤ n) (hm : l + k ≤ m) (hmc : m ≤ c) : RowB w (.slice (cutA ao l m) k (m - l)) (cutL L l k) := by
  by_cases h0 : k = 0
  · subst h0
    have e : cutL L l 0 = [] := by unfold cutL; rw [List.take_zero]
    rw [e]
    cases ao with
    | none =>
      rcases h with ⟨e1, rfl⟩ | ⟨a, c', e1, _⟩ | ⟨b, o, c', e1, _⟩
      · cases e1
        have hm0 : m = 0 := by omega
        subst hm0
        have hl0 : l = 0 := by omega
        subst hl0
        exact .inl ⟨rfl, rfl⟩
      · cases e1
      · cases e1
    | some a =>
      unfold Proofs.YteobffggfcmghaaDoor.cutA
      split
      · exact .inr (.inl ⟨_, _, rfl, rfl⟩)
      · exact .inr (.inl ⟨_, _, rfl, rfl⟩)
  · obtain ⟨b, o, rfl, hb, hc⟩ := h.addr (by omega)
    have e : Proofs.YteobffggfcmghaaDoor.cutA (some ⟨b, o, none⟩) l m = some ⟨b, o + l, none⟩ := by
      unfold Proofs.YteobffggfcmghaaDoor.cutA
      rw [if_neg (by omega), Option.map_some, Addr.add_lit]
    rw [e]
    refine .inr (.inr ⟨b, o + l, m - l, by rw [cutL_len (by omega)], hb, fun i x hx => ?_⟩)
    have hi : i < k := by have := (List.getElem?_eq_some_iff.1 hx).1; rw [cutL_len (by omega)] at this; exact this
    rw [cutL_at hi] at hx
    rw [Nat.add_assoc]; exact hc _ _ hx
theorem run_cut (w : World) (ao : Option Addr) (n c l hh m k : Nat) (lo hi mx : Option Value)
    (hlo : lo = some (.int .i64 (l : Int)) ∨ lo = none ∧ l = 0) (hmx : mx = some (.int .i64 (m : Int)) ∧ m ≤ c ∧ hi = some (.int .i64 (hh : Int)) ∨ mx = none ∧ m = c ∧ (hi = some (.int .i64 (hh : Int)) ∨ hi = none ∧ hh = n))
    (h1 : l ≤ hh) (h2 : hh ≤ m) (hk : hh - l = k) : (Instr.sliceAt 22 (.slice ao n c) lo hi mx).run Tryd.prog w = .ok (.slice (cutA ao l m) k (m - l)) w := by
  obtain ⟨i, hi', hz0, hz1, hz2⟩ := info_parts infoB
  have i1 : (l : Int) ≤ (hh : Int) := by omega
  have i2 : (hh : Int) ≤ (m : Int) := by omega
  unfold cutA
  rcases hlo with rfl | ⟨rfl, rfl⟩
  · rcases hmx with ⟨rfl, hmc, rfl⟩ | ⟨rfl, rfl, rfl | ⟨rfl, rfl⟩⟩ <;> simp_all [Instr.sliceAt, Instr.sliceBounds, Instr.sliceBound, Instr.slice, asIntOf, underlying, sizeOf, typeInfo, Tryd.underlying22]
  · rcases hmx with ⟨rfl, hmc, rfl⟩ | ⟨rfl, rfl, rfl | ⟨rfl, rfl⟩⟩ <;> simp_all [Instr.sliceAt, Instr.sliceBounds, Instr.sliceBound, Instr.slice, asIntOf, underlying, sizeOf, typeInfo, Tryd.underlying22] <;> (intro q; omega)
theorem wpList_cut {w : World} {ops : Array Oper} {rest : List Oper} {o : Oper} {a : Act} {Q : Exit → Act → World → Prop} (hgd : o.guard = none) (x : Operand) (lo hi mx : Option Operand)
    (ho : o.op = .slice 22 x lo hi mx) (ao : Option Addr) (n c l hh m k : Nat) (hx : a.eval x = .slice ao n c)
    (hlo : lo.map a.eval = some (.int .i64 (l : Int)) ∨ lo.map a.eval = none ∧ l = 0) (hmx : mx.map a.eval = some (.int .i64 (m : Int)) ∧ m ≤ c ∧ hi.map a.eval = some (.int .i64 (hh : Int)) ∨ mx.map a.eval = none ∧ m = c ∧ (hi.map a.eval = some (.int .i64 (hh : Int)) ∨ hi.map a.eval = none ∧ hh = n))
    (h1 : l ≤ hh) (h2 : hh ≤ m) (hk : hh - l = k) (h : ∀ ao', cutA ao l m = ao' → wpList Tryd.prog ops Q rest (a.put o.dst (.slice ao' k (m - l))) w) : wpList Tryd.prog ops Q (o :: rest) a w := by
  refine wpList_plain hgd fun K hK => ?_
  have key := hK _ _ (h _ rfl)
  have hr := run_cut w ao n c l hh m k _ _ _ hlo hmx h1 h2 hk
  unfold Oper.wp
  simp [execOp, ho, hx, hr, Result.andThen]
  exact key
end Go.Proofs.YteobffggfcmghaaDoor
