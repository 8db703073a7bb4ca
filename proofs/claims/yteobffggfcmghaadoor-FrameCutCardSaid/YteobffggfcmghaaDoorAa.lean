/- Layer 12: rows of bytes, their texts; the document's lay. -/
import Derived.Test.YteobffggfcmghaaDoorTa
import Derived.BigQuiet
import Derived.Laws.IdiomStrings
import Derived.Laws.BytesString
namespace Go.Proofs.YteobffggfcmghaaDoor
open Go.RowKit
theorem infoB : (Tryd.prog.info? 5).map (fun i => (i.zero, i.size, i.bytes)) = some (some (.int .u8 0), 1, 1) := by kernel_rfl
abbrev bytV (E : List Int) : List Value := E.map (Value.int .u8)
/-- A row of bytes that the call owns. -/
def OwnB (w : World) (base : Nat) (v : Value) (E : List Int) : Prop := w.ownsRow base 5 1 v E.length (bytV E)
theorem OwnB.grow {w w' : World} {base : Nat} {v : Value} {E : List Int} (h : OwnB w base v E) (hb : Below w.heap.size w w') : OwnB w' base v E := owns_keep h (Keep.of_below (S := fun _ => True) hb) (fun _ _ => trivial)
theorem run_append_byts (w : World) (t ty : TypeId) (ht : Tryd.prog.underlying t = some (.slice 5)) (base : Nat) (v : Value) (E : List Int) (hown : OwnB w base v E) (ad : Addr) (k c : Nat) (Y : List Int) (hk : Y.length = k) (hx : ∀ j u, (bytV Y)[j]? = some u → w.cell? (ad.add j) = some u) (hl : E.length + k ≤ 100000) (hbase : base ≤ w.heap.size) :
    ∃ v' w', (Builtin.append_ #[t, t] ty #[v, .slice (some ad) k c]).run Tryd.prog w = .ok v' w' ∧ OwnB w' base v' (E ++ Y) ∧ w.grownBy w' v.ownBlock ∧ Moved w v v' := by
  obtain ⟨i, hi, hz0, hz1, hz2⟩ := info_parts infoB
  obtain ⟨m, hm⟩ : ∃ m, E.length = m := ⟨_, rfl⟩
  unfold OwnB at hown ⊢
  rw [hm] at hown hl
  have hn : (bytV Y).length = k * 1 := by rw [List.length_map]; omega
  have h1 : ∀ u ∈ bytV Y, u.oneCell' = true := fun u hu => by obtain ⟨x, _, rfl⟩ := List.mem_map.1 hu; rfl
  have key : ∀ b, w.ownsRow b 5 1 v m (bytV E) → b ≤ w.heap.size → _ := fun b ho hb => run_append_own (P := Tryd.prog) w b t ty 5 i (.int .u8 0) 1 1 ht hi hz0 hz1 hz2 rfl (by decide) v m (bytV E) ho ad k c (bytV Y) hn hx h1 (by unfold maxLen; omega) (by omega) hb
  obtain ⟨v', w', hr, ho, hg, _⟩ := key base hown hbase
  have hfin : w'.ownsRow base 5 1 v' (E ++ Y).length (bytV (E ++ Y)) := by
    rw [List.length_append, hm, hk, show bytV (E ++ Y) = bytV E ++ bytV Y from List.map_append]
    exact ho
  refine ⟨v', w', hr, hfin, hg, ?_⟩
  have hlen := hown.1
  rcases hown.2 with ⟨rfl, h0⟩ | ⟨g, cap, cur, rfl, hb, hgg, hc, hmm, hs, htk⟩
  · subst h0
    have hxs : bytV E = [] := List.eq_nil_of_length_eq_zero (by omega)
    obtain ⟨v2, w2, hr2, ho2, _, _⟩ := key w.heap.size (by rw [hxs]; exact World.ownsRow_nil _ _ _ _) (Nat.le_refl _)
    obtain ⟨rfl, rfl⟩ := ok_inj hr hr2
    cases hv : v'.ownBlock with
    | none => exact .inl hv
    | some q => exact .inr ⟨q, hv, (ho2.lt q hv).1⟩
  · by_cases hroom : m + k ≤ cap
    · obtain ⟨w2, hr2, _⟩ := run_append_fits (P := Tryd.prog) w base t ty 5 i 1 ht hi hz1 g m cap (bytV E) hown ad k c (bytV Y) hn hx h1 hroom
      obtain ⟨rfl, _⟩ := ok_inj hr hr2
      exact .inl rfl
    · have hr2 := run_append_grow (P := Tryd.prog) w t ty 5 i _ ht hi hz0 ⟨g, 0, none⟩ m cap (bytV E) (by rw [hlen, hz1]) (fun j u hj => by have := hown.cells (g := g) rfl j u hj; exact this) ad k c (bytV Y) (by rw [hn, hz1]) hx (by omega) (by omega) (by rw [hz2]; exact growslice_fits (by omega) (by omega))
      obtain ⟨rfl, _⟩ := ok_inj hr hr2
      exact .inr ⟨_, rfl, Nat.le_refl _⟩
theorem wp_append_byts {w : World} {o : Oper} {a : Act} {K : Act → World → Prop} {Q : Exit → Act → World → Prop} (s x : Operand) (t : TypeId)
    (ho : o.op = .call { callee := .builtin .append, args := #[s, x], argTypes := #[t, t] }) (ht : Tryd.prog.underlying t = some (.slice 5))
    (base : Nat) (v : Value) (E : List Int) (hs : a.eval s = v) (hown : OwnB w base v E) (ad : Addr) (k c : Nat) (Y : List Int) (hxe : a.eval x = .slice (some ad) k c) (hk : Y.length = k) (hx : ∀ j u, (bytV Y)[j]? = some u → w.cell? (ad.add j) = some u) (hl : E.length + k ≤ 100000) (hbase : base ≤ w.heap.size)
    (h : ∀ v' w', OwnB w' base v' (E ++ Y) → w.grownBy w' v.ownBlock → Moved w v v' → K (a.put o.dst v') w') : o.wp Tryd.prog a w K Q := by
  obtain ⟨v', w', hr, h2, h3, h4⟩ := run_append_byts w t o.type ht base v E hown ad k c Y hk hx hl hbase
  unfold Oper.wp
  simp [execOp, ho, resolve, invoke, builtin, hs, hxe, hr, Result.andThen]
  exact h v' w' h2 h3 h4
theorem wpList_append_byts {w : World} {ops : Array Oper} {rest : List Oper} {o : Oper} {a : Act} {Q : Exit → Act → World → Prop} (hgd : o.guard = none) (s x : Operand) (t : TypeId)
    (ho : o.op = .call { callee := .builtin .append, args := #[s, x], argTypes := #[t, t] }) (ht : Tryd.prog.underlying t = some (.slice 5))
    (base : Nat) (v : Value) (E : List Int) (hs : a.eval s = v) (hown : OwnB w base v E) (ad : Addr) (k c : Nat) (Y : List Int) (hxe : a.eval x = .slice (some ad) k c) (hk : Y.length = k) (hx : ∀ j u, (bytV Y)[j]? = some u → w.cell? (ad.add j) = some u) (hl : E.length + k ≤ 100000) (hbase : base ≤ w.heap.size)
    (h : ∀ v' w', OwnB w' base v' (E ++ Y) → w.grownBy w' v.ownBlock → Moved w v v' → wpList Tryd.prog ops Q rest (a.put o.dst v') w') : wpList Tryd.prog ops Q (o :: rest) a w := by
  refine wpList_plain hgd fun K hK => ?_
  obtain ⟨v', w', hr, h2, h3, h4⟩ := run_append_byts w t o.type ht base v E hown ad k c Y hk hx hl hbase
  unfold Oper.wp
  simp [execOp, ho, resolve, invoke, builtin, hs, hxe, hr, Result.andThen]
  exact hK _ _ (h v' w' h2 h3 h4)
theorem OwnB.shape {w : World} {base : Nat} {v : Value} {E : List Int} (h : OwnB w base v E) : ∃ a c, v = .slice a E.length c := by
  obtain ⟨_, ⟨rfl, h0⟩ | ⟨g, cap, cur, rfl, _⟩⟩ := h
  · exact ⟨none, 0, by rw [h0]⟩
  · exact ⟨_, _, rfl⟩
theorem OwnB.made (w : World) {base : Nat} (hb : base ≤ w.heap.size) (E : List Int) (n : Nat) (cs : Array Value) (hcs : cs = (bytV E).toArray) (hn : E.length = n) (hl : n ≤ 1000) : OwnB (w.alloc (.cells cs 5)) base (.slice (some ⟨w.heap.size, 0, none⟩) n n) E := by
  subst hcs hn
  refine ⟨by simp, .inr ⟨w.heap.size, E.length, _, rfl, hb, Blk.new _ _ _, Nat.le_refl _, by unfold maxLen; omega, by simp, by rw [List.take_of_length_le (by simp)]⟩⟩
/-- A slice of bytes: nil; empty, with any address; a row. -/
def RowB (w : World) (s : Value) (E : List Int) : Prop :=
  (s = .slice none 0 0 ∧ E = []) ∨ (∃ a c, s = .slice (some a) 0 c ∧ E = []) ∨ ∃ b o c, s = .slice (some ⟨b, o, none⟩) E.length c ∧ b < w.heap.size ∧ ∀ i x, E[i]? = some x → w.cell? ⟨b, o + i, none⟩ = some (.int .u8 x)
theorem RowB.on {w w' : World} {s : Value} {E : List Int} (h : RowB w s E) (hb : Below w.heap.size w w') : RowB w' s E := by
  rcases h with h | h | ⟨b, o, c, h1, h2, h3⟩
  · exact .inl h
  · exact .inr (.inl h)
  · exact .inr (.inr ⟨b, o, c, h1, Nat.lt_of_lt_of_le h2 hb.size, fun i x hx => by rw [cell_below hb h2]; exact h3 i x hx⟩)
theorem RowB.shape {w : World} {v : Value} {E : List Int} (h : RowB w v E) : ∃ ao c, v = .slice ao E.length c := by
  rcases h with ⟨rfl, rfl⟩ | ⟨a, c, rfl, rfl⟩ | ⟨b, o, c, rfl, _, _⟩ <;> exact ⟨_, _, rfl⟩
theorem OwnB.row {w : World} {base : Nat} {v : Value} {E : List Int} (h : OwnB w base v E) : RowB w v E := by
  have hr := h
  obtain ⟨_, ⟨rfl, hn⟩ | ⟨g, cap, cur, rfl, _, hg, hc, _, hs, ht⟩⟩ := h
  · exact .inl ⟨rfl, List.eq_nil_of_length_eq_zero hn⟩
  · refine .inr (.inr ⟨g, 0, cap, rfl, (Array.getElem?_eq_some_iff.1 hg).1, fun i x hx => ?_⟩)
    have key := World.ownsRow.cells hr (g := g) rfl i (.int .u8 x) (by unfold bytV; rw [List.getElem?_map, hx]; rfl)
    rw [show (⟨g, 0, none⟩ : Addr).add i = ⟨g, 0 + i, none⟩ from Addr.add_lit ..] at key
    exact key
/-- The text of some bytes. -/
def strI (E : List Int) : ByteArray := ⟨(E.map fun x => UInt8.ofNat x.toNat).toArray⟩
def OkB (E : List Int) : Prop := ∀ x ∈ E, 0 ≤ x ∧ x ≤ 255
theorem conv_b {w : World} {v : Value} {E : List Int} (h : RowB w v E) (hE : OkB E) : (convert 22 9 v).run Tryd.prog w = .ok (.string (strI E)) w := by
  have zero : ∀ (p : Option Addr) (c : Nat), (convert 22 9 (.slice p 0 c)).run Tryd.prog w = .ok (.string (strI [])) w := fun p c => by
    rw [run_convert_bytes_string w _ _ 5 p 0 c Tryd.underlying22 Tryd.underlying5 Tryd.underlying9]
    cases p <;> simp [Conv.bytesToString, loadCells] <;> rfl
  rcases h with ⟨rfl, rfl⟩ | ⟨a, c, rfl, rfl⟩ | ⟨b, o, c, rfl, hb, hc⟩
  · exact zero _ _
  · exact zero _ _
  · have key := run_convert_bytes_back (P := Tryd.prog) w 22 9 5 ⟨b, o, none⟩ c (E.map fun x => UInt8.ofNat x.toNat) Tryd.underlying22 Tryd.underlying5 Tryd.underlying9 (fun j hj => ?_)
    · rw [List.length_map] at key
      exact key
    · rw [List.length_map] at hj
      rw [show (⟨b, o, none⟩ : Addr).add j = ⟨b, o + j, none⟩ from Addr.add_lit .., hc j E[j] (List.getElem?_eq_getElem hj), List.getElem_map]
      obtain ⟨h0, h1⟩ := hE E[j] (List.getElem_mem hj)
      have e : ((UInt8.ofNat E[j].toNat).toNat : Int) = E[j] := by rw [UInt8.toNat_ofNat']; omega
      rw [e]
theorem news_byt (w : World) (Y : List Int) (t : TypeId) (cs : Array Value) (hcs : cs = (bytV Y).toArray) : ∀ j u, (bytV Y)[j]? = some u → (w.alloc (.cells cs t)).cell? ((⟨w.heap.size, 0, none⟩ : Addr).add j) = some u := fun j u hj => by
  subst hcs
  rw [Addr.add_lit, Nat.zero_add]
  exact ((Blk.new _ _ _).cell j).trans (by simpa using hj)
theorem RowB.addr {w : World} {ao : Option Addr} {n c : Nat} {E : List Int} (h : RowB w (.slice ao n c) E) (h0 : 0 < E.length) : ∃ b o, ao = some ⟨b, o, none⟩ ∧ b < w.heap.size ∧ ∀ i x, E[i]? = some x → w.cell? ⟨b, o + i, none⟩ = some (.int .u8 x) := by
  rcases h with ⟨_, rfl⟩ | ⟨_, _, _, rfl⟩ | ⟨b, o, c', e, h1, h2⟩
  · simp at h0
  · simp at h0
  · cases e; exact ⟨b, o, rfl, h1, h2⟩
def bAt (E : List Int) (k : Nat) : Int := E.getD k 0
theorem bAt_some {E : List Int} {k : Nat} (h : k < E.length) : E[k]? = some (bAt E k) := by
  unfold bAt
  rw [List.getD_eq_getElem?_getD, List.getElem?_eq_getElem h]; rfl
/-- Bytes over others, place by place. -/
def layV (A B : List Int) (at0 : Int) (k : Nat) : Int := if at0 ≤ (k : Int) ∧ (k : Int) < at0 + B.length then bAt B ((k : Int) - at0).toNat else bAt A k
def layTo (A B : List Int) (at0 : Int) (n : Nat) : List Int := (List.range n).map (layV A B at0)
def layB (A B : List Int) (at0 : Int) : List Int := layTo A B at0 A.length
theorem layTo_succ (A B : List Int) (at0 : Int) (k : Nat) : layTo A B at0 (k + 1) = layTo A B at0 k ++ [layV A B at0 k] := by
  unfold layTo; rw [List.range_succ, List.map_append]; rfl
theorem layTo_len (A B : List Int) (at0 : Int) (k : Nat) : (layTo A B at0 k).length = k := by simp [layTo]
theorem layB_len (A B : List Int) (at0 : Int) : (layB A B at0).length = A.length := layTo_len ..
/-- The round's append: one byte. -/
theorem lay_step {w wr w2 : World} {v v' : Value} {E : List Int} {x : Int} (hb : Below w.heap.size w wr) (ho : OwnB wr w.heap.size v E) (h2 : OwnB w2 w.heap.size v' (E ++ [x])) (hg : (wr.alloc (.cells #[.int .u8 x] 5)).grownBy w2 v.ownBlock) : Below w.heap.size w w2 ∧ OwnB w2 w.heap.size v' (E ++ [x]) :=
  ⟨own_below (ho.grow ((Below.refl _ _).alloc (Nat.le_refl _) _)) hg (hb.alloc hb.size _) (Nat.le_refl _) (by have := hb.size; simp; omega), h2⟩
end Go.Proofs.YteobffggfcmghaaDoor

