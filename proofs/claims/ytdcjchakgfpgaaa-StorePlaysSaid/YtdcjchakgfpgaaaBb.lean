/- Layer 12: a disk's model; what package disk is to answer. -/
import Derived.Test.YtdcjchakgfpgaaaTa
import Derived.BigQuiet
import Derived.Laws.IdiomStrings
import Derived.Laws.BytesString
import Derived.Deep.RegionWith
namespace Go.Proofs.Ytdcjchakgfpgaaa
open Go.RowKit
theorem infoB : (Try.prog.info? 5).map (fun i => (i.zero, i.size, i.bytes)) = some (some (.int .u8 0), 1, 1) := by kernel_rfl
abbrev bytV (E : List Int) : List Value := E.map (Value.int .u8)
/-- A row of bytes that the call owns. -/
def OwnB (w : World) (base : Nat) (v : Value) (E : List Int) : Prop := w.ownsRow base 5 1 v E.length (bytV E)
theorem OwnB.grow {w w' : World} {base : Nat} {v : Value} {E : List Int} (h : OwnB w base v E) (hb : Below w.heap.size w w') : OwnB w' base v E := owns_keep h (Keep.of_below (S := fun _ => True) hb) (fun _ _ => trivial)
theorem run_append_byts (w : World) (t ty : TypeId) (ht : Try.prog.underlying t = some (.slice 5)) (base : Nat) (v : Value) (E : List Int) (hown : OwnB w base v E) (ad : Addr) (k c : Nat) (Y : List Int) (hk : Y.length = k) (hx : ∀ j u, (bytV Y)[j]? = some u → w.cell? (ad.add j) = some u) (hl : E.length + k ≤ 100000) (hbase : base ≤ w.heap.size) :
    ∃ v' w', (Builtin.append_ #[t, t] ty #[v, .slice (some ad) k c]).run Try.prog w = .ok v' w' ∧ OwnB w' base v' (E ++ Y) ∧ w.grownBy w' v.ownBlock ∧ Moved w v v' := by
  obtain ⟨i, hi, hz0, hz1, hz2⟩ := info_parts infoB
  obtain ⟨m, hm⟩ : ∃ m, E.length = m := ⟨_, rfl⟩
  unfold OwnB at hown ⊢
  rw [hm] at hown hl
  have hn : (bytV Y).length = k * 1 := by rw [List.length_map]; omega
  have h1 : ∀ u ∈ bytV Y, u.oneCell' = true := fun u hu => by obtain ⟨x, _, rfl⟩ := List.mem_map.1 hu; rfl
  have key : ∀ b, w.ownsRow b 5 1 v m (bytV E) → b ≤ w.heap.size → _ := fun b ho hb => run_append_own (P := Try.prog) w b t ty 5 i (.int .u8 0) 1 1 ht hi hz0 hz1 hz2 rfl (by decide) v m (bytV E) ho ad k c (bytV Y) hn hx h1 (by unfold maxLen; omega) (by omega) hb
  obtain ⟨v', w', hr, ho, hg, _⟩ := key base hown hbase
  have hfin : w'.ownsRow base 5 1 v' (E ++ Y).length (bytV (E ++ Y)) := by
    rw [List.length_append, hm, hk, show bytV (E ++ Y) = bytV E ++ bytV Y from List.map_append]
    exact ho
  refine ⟨v', w', hr, hfin, hg, ?_⟩
  have hlen := hown.1
  rcases hown.2 with ⟨rfl, h0⟩ | ⟨g, cap, cur, rfl, hb, hgg, hc, hmm, hs, htk⟩
  · subst h0
    have hxs : bytV E = [] := List.eq_nil_of_length_eq_zero (by omega)
    obtain ⟨v2, w2, hr2, ho2, _, _⟩ := key w.heap.size (by rw [hxs]; exact World.ownsRow_nil _ _ _ _) (Nat.le_refl _)
    obtain ⟨rfl, rfl⟩ := ok_inj hr hr2
    cases hv : v'.ownBlock with
    | none => exact .inl hv
    | some q => exact .inr ⟨q, hv, (ho2.lt q hv).1⟩
  · by_cases hroom : m + k ≤ cap
    · obtain ⟨w2, hr2, _⟩ := run_append_fits (P := Try.prog) w base t ty 5 i 1 ht hi hz1 g m cap (bytV E) hown ad k c (bytV Y) hn hx h1 hroom
      obtain ⟨rfl, _⟩ := ok_inj hr hr2
      exact .inl rfl
    · have hr2 := run_append_grow (P := Try.prog) w t ty 5 i _ ht hi hz0 ⟨g, 0, none⟩ m cap (bytV E) (by rw [hlen, hz1]) (fun j u hj => by have := hown.cells (g := g) rfl j u hj; exact this) ad k c (bytV Y) (by rw [hn, hz1]) hx (by omega) (by omega) (by rw [hz2]; exact growslice_fits (by omega) (by omega))
      obtain ⟨rfl, _⟩ := ok_inj hr hr2
      exact .inr ⟨_, rfl, Nat.le_refl _⟩
theorem wp_append_byts {w : World} {o : Oper} {a : Act} {K : Act → World → Prop} {Q : Exit → Act → World → Prop} (s x : Operand) (t : TypeId)
    (ho : o.op = .call { callee := .builtin .append, args := #[s, x], argTypes := #[t, t] }) (ht : Try.prog.underlying t = some (.slice 5))
    (base : Nat) (v : Value) (E : List Int) (hs : a.eval s = v) (hown : OwnB w base v E) (ad : Addr) (k c : Nat) (Y : List Int) (hxe : a.eval x = .slice (some ad) k c) (hk : Y.length = k) (hx : ∀ j u, (bytV Y)[j]? = some u → w.cell? (ad.add j) = some u) (hl : E.length + k ≤ 100000) (hbase : base ≤ w.heap.size)
    (h : ∀ v' w', OwnB w' base v' (E ++ Y) → w.grownBy w' v.ownBlock → Moved w v v' → K (a.put o.dst v') w') : o.wp Try.prog a w K Q := by
  obtain ⟨v', w', hr, h2, h3, h4⟩ := run_append_byts w t o.type ht base v E hown ad k c Y hk hx hl hbase
  unfold Oper.wp
  simp [execOp, ho, resolve, invoke, builtin, hs, hxe, hr, Result.andThen]
  exact h v' w' h2 h3 h4
theorem wpList_append_byts {w : World} {ops : Array Oper} {rest : List Oper} {o : Oper} {a : Act} {Q : Exit → Act → World → Prop} (hgd : o.guard = none) (s x : Operand) (t : TypeId)
    (ho : o.op = .call { callee := .builtin .append, args := #[s, x], argTypes := #[t, t] }) (ht : Try.prog.underlying t = some (.slice 5))
    (base : Nat) (v : Value) (E : List Int) (hs : a.eval s = v) (hown : OwnB w base v E) (ad : Addr) (k c : Nat) (Y : List Int) (hxe : a.eval x = .slice (some ad) k c) (hk : Y.length = k) (hx : ∀ j u, (bytV Y)[j]? = some u → w.cell? (ad.add j) = some u) (hl : E.length + k ≤ 100000) (hbase : base ≤ w.heap.size)
    (h : ∀ v' w', OwnB w' base v' (E ++ Y) → w.grownBy w' v.ownBlock → Moved w v v' → wpList Try.prog ops Q rest (a.put o.dst v') w') : wpList Try.prog ops Q (o :: rest) a w := by
  refine wpList_plain hgd fun K hK => ?_
  obtain ⟨v', w', hr, h2, h3, h4⟩ := run_append_byts w t o.type ht base v E hown ad k c Y hk hx hl hbase
  unfold Oper.wp
  simp [execOp, ho, resolve, invoke, builtin, hs, hxe, hr, Result.andThen]
  exact hK _ _ (h v' w' h2 h3 h4)
theorem OwnB.shape {w : World} {base : Nat} {v : Value} {E : List Int} (h : OwnB w base v E) : ∃ a c, v = .slice a E.length c := by
  obtain ⟨_, ⟨rfl, h0⟩ | ⟨g, cap, cur, rfl, _⟩⟩ := h
  · exact ⟨none, 0, by rw [h0]⟩
  · exact ⟨_, _, rfl⟩
theorem OwnB.made (w : World) {base : Nat} (hb : base ≤ w.heap.size) (E : List Int) (n : Nat) (cs : Array Value) (hcs : cs = (bytV E).toArray) (hn : E.length = n) (hl : n ≤ 1000) : OwnB (w.alloc (.cells cs 5)) base (.slice (some ⟨w.heap.size, 0, none⟩) n n) E := by
  subst hcs hn
  refine ⟨by simp, .inr ⟨w.heap.size, E.length, _, rfl, hb, Blk.new _ _ _, Nat.le_refl _, by unfold maxLen; omega, by simp, by rw [List.take_of_length_le (by simp)]⟩⟩
/-- A slice of bytes: nil; empty, with any address; a row. -/
def RowB (w : World) (s : Value) (E : List Int) : Prop :=
  (s = .slice none 0 0 ∧ E = []) ∨ (∃ a c, s = .slice (some a) 0 c ∧ E = []) ∨ ∃ b o c, s = .slice (some ⟨b, o, none⟩) E.length c ∧ b < w.heap.size ∧ ∀ i x, E[i]? = some x → w.cell? ⟨b, o + i, none⟩ = some (.int .u8 x)
theorem RowB.on {w w' : World} {s : Value} {E : List Int} (h : RowB w s E) (hb : Below w.heap.size w w') : RowB w' s E := by
  rcases h with h | h | ⟨b, o, c, h1, h2, h3⟩
  · exact .inl h
  · exact .inr (.inl h)
  · exact .inr (.inr ⟨b, o, c, h1, Nat.lt_of_lt_of_le h2 hb.size, fun i x hx => by rw [cell_below hb h2]; exact h3 i x hx⟩)
theorem RowB.shape {w : World} {v : Value} {E : List Int} (h : RowB w v E) : ∃ ao c, v = .slice ao E.length c := by
  rcases h with ⟨rfl, rfl⟩ | ⟨a, c, rfl, rfl⟩ | ⟨b, o, c, rfl, _, _⟩ <;> exact ⟨_, _, rfl⟩
theorem OwnB.row {w : World} {base : Nat} {v : Value} {E : List Int} (h : OwnB w base v E) : RowB w v E := by
  have hr := h
  obtain ⟨_, ⟨rfl, hn⟩ | ⟨g, cap, cur, rfl, _, hg, hc, _, hs, ht⟩⟩ := h
  · exact .inl ⟨rfl, List.eq_nil_of_length_eq_zero hn⟩
  · refine .inr (.inr ⟨g, 0, cap, rfl, (Array.getElem?_eq_some_iff.1 hg).1, fun i x hx => ?_⟩)
    have key := World.ownsRow.cells hr (g := g) rfl i (.int .u8 x) (by unfold bytV; rw [List.getElem?_map, hx]; rfl)
    rw [show (⟨g, 0, none⟩ : Addr).add i = ⟨g, 0 + i, none⟩ from Addr.add_lit ..] at key
    exact key
/-- The text of some bytes. -/
def strI (E : List Int) : ByteArray := ⟨(E.map fun x => UInt8.ofNat x.toNat).toArray⟩
def OkB (E : List Int) : Prop := ∀ x ∈ E, 0 ≤ x ∧ x ≤ 255
theorem conv_b {w : World} {v : Value} {E : List Int} (h : RowB w v E) (hE : OkB E) : (convert 24 9 v).run Try.prog w = .ok (.string (strI E)) w := by
  have zero : ∀ (p : Option Addr) (c : Nat), (convert 24 9 (.slice p 0 c)).run Try.prog w = .ok (.string (strI [])) w := fun p c => by
    rw [run_convert_bytes_string w _ _ 5 p 0 c Try.underlying24 Try.underlying5 Try.underlying9]
    cases p <;> simp [Conv.bytesToString, loadCells] <;> rfl
  rcases h with ⟨rfl, rfl⟩ | ⟨a, c, rfl, rfl⟩ | ⟨b, o, c, rfl, hb, hc⟩
  · exact zero _ _
  · exact zero _ _
  · have key := run_convert_bytes_back (P := Try.prog) w 24 9 5 ⟨b, o, none⟩ c (E.map fun x => UInt8.ofNat x.toNat) Try.underlying24 Try.underlying5 Try.underlying9 (fun j hj => ?_)
    · rw [List.length_map] at key
      exact key
    · rw [List.length_map] at hj
      rw [show (⟨b, o, none⟩ : Addr).add j = ⟨b, o + j, none⟩ from Addr.add_lit .., hc j E[j] (List.getElem?_eq_getElem hj), List.getElem_map]
      obtain ⟨h0, h1⟩ := hE E[j] (List.getElem_mem hj)
      have e : ((UInt8.ofNat E[j].toNat).toNat : Int) = E[j] := by rw [UInt8.toNat_ofNat']; omega
      rw [e]
theorem news_byt (w : World) (Y : List Int) (t : TypeId) (cs : Array Value) (hcs : cs = (bytV Y).toArray) : ∀ j u, (bytV Y)[j]? = some u → (w.alloc (.cells cs t)).cell? ((⟨w.heap.size, 0, none⟩ : Addr).add j) = some u := fun j u hj => by
  subst hcs
  rw [Addr.add_lit, Nat.zero_add]
  exact ((Blk.new _ _ _).cell j).trans (by simpa using hj)
theorem RowB.addr {w : World} {ao : Option Addr} {n c : Nat} {E : List Int} (h : RowB w (.slice ao n c) E) (h0 : 0 < E.length) : ∃ b o, ao = some ⟨b, o, none⟩ ∧ b < w.heap.size ∧ ∀ i x, E[i]? = some x → w.cell? ⟨b, o + i, none⟩ = some (.int .u8 x) := by
  rcases h with ⟨_, rfl⟩ | ⟨_, _, _, rfl⟩ | ⟨b, o, c', e, h1, h2⟩
  · simp at h0
  · simp at h0
  · cases e; exact ⟨b, o, rfl, h1, h2⟩
def bAt (E : List Int) (k : Nat) : Int := E.getD k 0
theorem bAt_some {E : List Int} {k : Nat} (h : k < E.length) : E[k]? = some (bAt E k) := by
  unfold bAt
  rw [List.getD_eq_getElem?_getD, List.getElem?_eq_getElem h]; rfl
/-- Bytes over others, place by place. -/
def layV (A B : List Int) (at0 : Int) (k : Nat) : Int := if at0 ≤ (k : Int) ∧ (k : Int) < at0 + B.length then bAt B ((k : Int) - at0).toNat else bAt A k
def layTo (A B : List Int) (at0 : Int) (n : Nat) : List Int := (List.range n).map (layV A B at0)
def layB (A B : List Int) (at0 : Int) : List Int := layTo A B at0 A.length
theorem layTo_succ (A B : List Int) (at0 : Int) (k : Nat) : layTo A B at0 (k + 1) = layTo A B at0 k ++ [layV A B at0 k] := by
  unfold layTo; rw [List.range_succ, List.map_append]; rfl
theorem layTo_len (A B : List Int) (at0 : Int) (k : Nat) : (layTo A B at0 k).length = k := by simp [layTo]
theorem layB_len (A B : List Int) (at0 : Int) : (layB A B at0).length = A.length := layTo_len ..
/-- The round's append: one byte. -/
theorem lay_step {w wr w2 : World} {v v' : Value} {E : List Int} {x : Int} (hb : Below w.heap.size w wr) (ho : OwnB wr w.heap.size v E) (h2 : OwnB w2 w.heap.size v' (E ++ [x])) (hg : (wr.alloc (.cells #[.int .u8 x] 5)).grownBy w2 v.ownBlock) : Below w.heap.size w w2 ∧ OwnB w2 w.heap.size v' (E ++ [x]) :=
  ⟨own_below (ho.grow ((Below.refl _ _).alloc (Nat.le_refl _) _)) hg (hb.alloc hb.size _) (Nat.le_refl _) (by have := hb.size; simp; omega), h2⟩
end Go.Proofs.Ytdcjchakgfpgaaa
namespace Go.Proofs.Ytdcjchakgfpgaaa
open Go.RowKit
/-- The document's disk, behind its pointer: its seven cells. -/
def cellsD (sv : Value) (size : Int) (wv : Value) (left done : Int) (armed down : Bool) : Array Value := #[sv, .int .i64 size, wv, .int .i64 left, .int .i64 done, .bool armed, .bool down]
/-- Has the disk such a sector? -/
def hasI (sn : Nat) (size i : Int) : Bool := decide (i ≥ 0) && decide (i < (sn : Int) / size)
/-- What a command makes of the disk's last four cells, and its error. -/
def cmdOut (left done : Int) (armed down : Bool) : (Int × Int × Bool × Bool) × Int :=
  if armed = true ∧ left = 0 then ((left, done, armed, true), 40) else if armed = true then ((left - 1, done + 1, armed, down), 0) else ((left, done + 1, armed, down), 0)
end Go.Proofs.Ytdcjchakgfpgaaa
namespace Go.Proofs.Ytdcjchakgfpgaaa
open Go.RowKit
/-- The writes that wait: each one's sector, its slice, its bytes. -/
abbrev Wr := Int × Value × List Int
def RowW (w : World) (s : Value) (L : List Wr) : Prop :=
  (s = .slice none 0 0 ∧ L = []) ∨ (∃ a c, s = .slice (some a) 0 c ∧ L = []) ∨ ∃ b o c, s = .slice (some ⟨b, o, none⟩) L.length c ∧ b < w.heap.size ∧ ∀ i p, L[i]? = some p → w.cell? ⟨b, o + i * 2, none⟩ = some (.int .i64 p.1) ∧ w.cell? ⟨b, o + i * 2 + 1, none⟩ = some p.2.1
def WaitR (w : World) (s : Value) (L : List Wr) : Prop := RowW w s L ∧ ∀ x ∈ L, RowB w x.2.1 x.2.2
theorem RowW.on {w w' : World} {s : Value} {L : List Wr} (h : RowW w s L) (hb : Below w.heap.size w w') : RowW w' s L := by
  rcases h with h | h | ⟨b, o, c, h1, h2, h3⟩
  · exact .inl h
  · exact .inr (.inl h)
  · refine .inr (.inr ⟨b, o, c, h1, Nat.lt_of_lt_of_le h2 hb.size, fun i p hp => ?_⟩)
    rw [cell_below hb h2, cell_below hb h2]; exact h3 i p hp
theorem WaitR.on {w w' : World} {s : Value} {L : List Wr} (h : WaitR w s L) (hb : Below w.heap.size w w') : WaitR w' s L := ⟨h.1.on hb, fun x hx => (h.2 x hx).on hb⟩
theorem RowW.shape {w : World} {v : Value} {L : List Wr} (h : RowW w v L) : ∃ ao c, v = .slice ao L.length c := by
  rcases h with ⟨rfl, rfl⟩ | ⟨a, c, rfl, rfl⟩ | ⟨b, o, c, rfl, _, _⟩ <;> exact ⟨_, _, rfl⟩
theorem RowW.addr {w : World} {ao : Option Addr} {n c : Nat} {L : List Wr} (h : RowW w (.slice ao n c) L) (h0 : 0 < L.length) : ∃ b o, ao = some ⟨b, o, none⟩ ∧ b < w.heap.size ∧ ∀ i p, L[i]? = some p → w.cell? ⟨b, o + i * 2, none⟩ = some (.int .i64 p.1) ∧ w.cell? ⟨b, o + i * 2 + 1, none⟩ = some p.2.1 := by
  rcases h with ⟨_, rfl⟩ | ⟨_, _, _, rfl⟩ | ⟨b, o, c', e, h1, h2⟩
  · simp at h0
  · simp at h0
  · cases e; exact ⟨b, o, rfl, h1, h2⟩
/-- What is read: the writes that wait, one behind the other, over what is safe. -/
def nowTo (safe : List Int) (size : Int) (L : List Wr) (k : Nat) : List Int := (L.take k).foldl (fun a x => layB a x.2.2 (x.1 * size)) (layB safe [] 0)
def nowB (safe : List Int) (size : Int) (L : List Wr) : List Int := nowTo safe size L L.length
theorem nowTo_succ {safe : List Int} {size : Int} {L : List Wr} {k : Nat} {x : Wr} (h : L[k]? = some x) : nowTo safe size L (k + 1) = layB (nowTo safe size L k) x.2.2 (x.1 * size) := by
  unfold nowTo
  rw [List.take_add_one, h, List.foldl_append]; rfl
theorem nowTo_len (safe : List Int) (size : Int) (L : List Wr) (k : Nat) : (nowTo safe size L k).length = safe.length := by
  unfold nowTo
  generalize L.take k = M
  have : ∀ (M : List Wr) (a : List Int), (M.foldl (fun a x => layB a x.2.2 (x.1 * size)) a).length = a.length := by
    intro M
    induction M with
    | nil => intro a; rfl
    | cons y M ih => intro a; rw [List.foldl_cons, ih, layB_len]
  rw [this, layB_len]
theorem mul_in {a b A B : Int} (h0 : 0 ≤ a) (h1 : a ≤ A) (k0 : 1 ≤ b) (k1 : b ≤ B) : 0 ≤ a * b ∧ a * b ≤ a * B ∧ a * B ≤ A * B ∧ a * b ≤ A * B := by
  have h2 := Int.mul_nonneg h0 (show 0 ≤ b by omega)
  have h3 := Int.mul_le_mul_of_nonneg_left k1 h0
  have h4 := Int.mul_le_mul_of_nonneg_right h1 (show 0 ≤ B by omega)
  exact ⟨h2, h3, h4, by omega⟩
def OkW (L : List Wr) : Prop := L.length ≤ 1000 ∧ ∀ x ∈ L, 0 ≤ x.1 ∧ x.1 ≤ 4096 ∧ x.2.2.length ≤ 1000
end Go.Proofs.Ytdcjchakgfpgaaa
namespace Go.Proofs.Ytdcjchakgfpgaaa
open Go.RowKit
def flatW : List Wr → List Value
  | [] => []
  | x :: l => .int .i64 x.1 :: x.2.1 :: flatW l
theorem flatW_len : ∀ l : List Wr, (flatW l).length = l.length * 2
  | [] => rfl
  | x :: l => by unfold flatW; simp [flatW_len l]; omega
theorem flatW_append : ∀ l m : List Wr, flatW (l ++ m) = flatW l ++ flatW m
  | [], _ => rfl
  | x :: l, m => by simp only [List.cons_append, flatW, flatW_append l m]
theorem flatW_at : ∀ (l : List Wr) (i : Nat) (x : Wr), l[i]? = some x → (flatW l)[i * 2]? = some (.int .i64 x.1) ∧ (flatW l)[i * 2 + 1]? = some x.2.1
  | [], _, _, h => by simp at h
  | d :: l, 0, x, h => by
    obtain rfl : d = x := by simpa using h
    exact ⟨rfl, rfl⟩
  | d :: l, i + 1, x, h => by
    have hh := flatW_at l i x (by simpa using h)
    unfold flatW
    rw [show (i + 1) * 2 = i * 2 + 2 by omega]
    exact hh
/-- Sync's answer: the error, what is safe, what waits. -/
def syncE (left : Int) (armed down : Bool) : Int := if down = true then 40 else (cmdOut left 0 armed down).2
end Go.Proofs.Ytdcjchakgfpgaaa
namespace Go.Proofs.Ytdcjchakgfpgaaa
open Go.RowKit
end Go.Proofs.Ytdcjchakgfpgaaa
namespace Go.Proofs.Ytdcjchakgfpgaaa
open Go.RowKit
end Go.Proofs.Ytdcjchakgfpgaaa
namespace Go.Proofs.Ytdcjchakgfpgaaa
open Go.RowKit
theorem run_append_w (w : World) (t ty T : TypeId) (ht : Try.prog.underlying t = some (.slice T)) (hT : (Try.prog.info? T).map (fun i => (i.zero, i.size, i.bytes)) = some (some (.agg #[.int .i64 0, .slice none 0 0]), 2, 32))
    (base : Nat) (v : Value) (m : Nat) (xs : List Value) (hown : w.ownsRow base T 2 v m xs) (ad : Addr) (k : Nat) (c : Nat) (news : List Value) (hk : news.length = k * 2) (hx : ∀ j u, news[j]? = some u → w.cell? (ad.add j) = some u) (h1 : ∀ u ∈ news, u.oneCell' = true) (hl : m + k ≤ 100000) (hbase : base ≤ w.heap.size) :
    ∃ v' w', (Builtin.append_ #[t, t] ty #[v, .slice (some ad) k c]).run Try.prog w = .ok v' w' ∧ w'.ownsRow base T 2 v' (m + k) (xs ++ news) ∧ w.grownBy w' v.ownBlock ∧ Moved w v v' := by
  obtain ⟨i, hi, hz0, hz1, hz2⟩ := info_parts hT
  have hn : news.length = k * 2 := hk
  have key : ∀ b, w.ownsRow b T 2 v m xs → b ≤ w.heap.size → _ := fun b ho hb => run_append_own (P := Try.prog) w b t ty T i (.agg #[.int .i64 0, .slice none 0 0]) 2 32 ht hi hz0 hz1 hz2 rfl (by decide) v m xs ho ad k c news hn hx h1 (by unfold maxLen; omega) (by omega) hb
  obtain ⟨v', w', hr, ho, hg, _⟩ := key base hown hbase
  refine ⟨v', w', hr, ho, hg, ?_⟩
  have hlen := hown.1
  rcases hown.2 with ⟨rfl, h0⟩ | ⟨g, cap, cur, rfl, hb, hgg, hc, hm, hs, htk⟩
  · subst h0
    have hxs : xs = [] := List.eq_nil_of_length_eq_zero (by omega)
    subst hxs
    obtain ⟨v2, w2, hr2, ho2, _, _⟩ := key w.heap.size (World.ownsRow_nil _ _ _ _) (Nat.le_refl _)
    obtain ⟨rfl, rfl⟩ := ok_inj hr hr2
    cases hv : v'.ownBlock with
    | none => exact .inl hv
    | some q => exact .inr ⟨q, hv, (ho2.lt q hv).1⟩
  · by_cases hroom : m + k ≤ cap
    · obtain ⟨w2, hr2, _⟩ := run_append_fits (P := Try.prog) w base t ty T i 2 ht hi hz1 g m cap xs hown ad k c news hn hx h1 hroom
      obtain ⟨rfl, _⟩ := ok_inj hr hr2
      exact .inl rfl
    · have hr2 := run_append_grow (P := Try.prog) w t ty T i _ ht hi hz0 ⟨g, 0, none⟩ m cap xs (by rw [hlen, hz1]) (fun j u hj => by have := hown.cells (g := g) rfl j u hj; exact this) ad k c news (by rw [hn, hz1]) hx (by omega) (by omega) (by rw [hz2]; exact growslice_fits (by omega) (by omega))
      obtain ⟨rfl, _⟩ := ok_inj hr hr2
      exact .inr ⟨_, rfl, Nat.le_refl _⟩
end Go.Proofs.Ytdcjchakgfpgaaa
namespace Go.Proofs.Ytdcjchakgfpgaaa
open Go.RowKit
def fillL (c : Int) (n k : Nat) : List Int := List.replicate k c ++ List.replicate (n - k) 0
theorem fillL_len (c : Int) {n k : Nat} (h : k ≤ n) : (fillL c n k).length = n := by unfold fillL; simp; omega
theorem fillL_set (c : Int) {n k : Nat} (h : k < n) : (fillL c n k).set k c = fillL c n (k + 1) := by
  unfold fillL
  rw [List.set_append_right _ _ (by simp), List.length_replicate, Nat.sub_self, show n - k = (n - (k + 1)) + 1 by omega, List.replicate_succ, List.set_cons_zero, List.replicate_succ', List.append_assoc]
  rfl
theorem bytV_set (E : List Int) (k : Nat) (c : Int) : (bytV E).set k (.int .u8 c) = bytV (E.set k c) := by unfold bytV; rw [List.map_set]
theorem fill_made (c : Int) (n : Nat) : madeCells (Value.int .u8 0).cells (n * 1) = (bytV (fillL c n 0)).toArray := by
  unfold madeCells fillL bytV
  rw [Nat.mul_one, List.replicate_zero, List.nil_append, Nat.sub_zero, List.map_replicate]
  apply Array.ext
  · simp
  · intro i h1 h2
    have hs : (Value.int .u8 0).cells = #[Value.int .u8 0] := rfl
    simp [hs, Nat.mod_one]
theorem OwnB.blk (w : World) {base g : Nat} {E : List Int} {n c : Nat} (hb : base ≤ g) (h : Blk w g 5 (bytV E).toArray) (hn : E.length = n) (hc : n = c) (hl : n ≤ 100000) : OwnB w base (.slice (some ⟨g, 0, none⟩) n c) E := by
  subst hn hc
  exact ⟨by simp, .inr ⟨g, E.length, _, rfl, hb, h, Nat.le_refl _, by unfold maxLen; omega, by simp, by rw [List.take_of_length_le (by simp)]⟩⟩
end Go.Proofs.Ytdcjchakgfpgaaa
namespace Go.Proofs.Ytdcjchakgfpgaaa
open Go.RowKit
/-- A disk: what is safe, the writes that wait, what was read of each sector. -/
structure DM where
  safe : List Int
  size : Int
  sectors : Int
  wait : List (Int × List Int)
  left : Int
  done : Int
  armed : Bool
  down : Bool
  reads : List Int
def nowM (size : Int) (s : List Int) (L : List (Int × List Int)) : List Int := L.foldl (fun a x => layB a x.2 (x.1 * size)) s
def nowD (d : DM) : List Int := nowM d.size d.safe d.wait
def hasD (d : DM) (i : Int) : Bool := decide (0 ≤ i) && decide (i < d.sectors)
def cmdD (d : DM) : DM × Int := ({ d with left := (cmdOut d.left d.done d.armed d.down).1.1, done := (cmdOut d.left d.done d.armed d.down).1.2.1, armed := (cmdOut d.left d.done d.armed d.down).1.2.2.1, down := (cmdOut d.left d.done d.armed d.down).1.2.2.2 }, (cmdOut d.left d.done d.armed d.down).2)
def writeD (d : DM) (i : Int) (b : List Int) : DM × Int :=
  if d.down = true then (d, 40) else if hasD d i = false then (d, 30) else if (b.length : Int) ≠ d.size then (d, 41) else cmdD { d with wait := d.wait ++ [(i, b)] }
def secD (d : DM) (i : Int) : List Int := ((nowD d).drop (i * d.size).toNat).take d.size.toNat
def readD (d : DM) (i : Int) : DM × Int × List Int :=
  if d.down = true then (d, 40, []) else if hasD d i = false then (d, 30, []) else ({ d with reads := d.reads.set i.toNat (d.reads.getD i.toNat 0 + 1) }, 0, secD d i)
def syncD (d : DM) : DM × Int :=
  if d.down = true then (d, 40) else if (cmdD d).2 = 0 then ({ (cmdD d).1 with safe := nowD d, wait := [] }, 0) else cmdD d
def armD (d : DM) (n : Int) : DM := { d with armed := decide (n ≥ 0), left := n }
/-- What a crash lays of a write. -/
def tornB (keep : List Bool) (torn cut : Int) (k : Nat) (b : List Int) : List Int := if (k : Int) = torn then b.take cut.toNat else if keep.getD k false = true then b else []
def crashM (keep : List Bool) (torn cut size : Int) : Nat → List (Int × List Int) → List Int → List Int
  | _, [], s => s
  | k, x :: l, s => crashM keep torn cut size (k + 1) l (layB s (tornB keep torn cut k x.2) (x.1 * size))
def crashD (d : DM) (keep : List Bool) (torn cut : Int) : DM :=
  { d with safe := crashM keep torn cut d.size 0 d.wait d.safe, wait := [], armed := false, down := false, reads := List.replicate d.reads.length 0 }
def readsD (d : DM) (i : Int) : Int := if hasD d i = true then d.reads.getD i.toNat 0 else 0
def newD (s z : Int) : DM := ⟨List.replicate (s * z).toNat 0, z, s, [], 0, 0, false, false, List.replicate s.toNat 0⟩
def diskOkI (s z : Int) : Prop := 1 ≤ s ∧ s ≤ 4096 ∧ 16 ≤ z ∧ z ≤ 512
/-- A disk that was made rightly, and not used more than m times. -/
structure OkD (d : DM) (m : Int) : Prop where
  made : diskOkI d.sectors d.size
  len : (d.safe.length : Int) = d.sectors * d.size
  few : d.safe.length ≤ 31000
  byts : OkB d.safe
  wait : ∀ x ∈ d.wait, 0 ≤ x.1 ∧ x.1 < d.sectors ∧ (x.2.length : Int) = d.size ∧ OkB x.2
  waits : (d.wait.length : Int) ≤ m
  left : d.armed = true → 0 ≤ d.left
  rng : -9223372036854775808 ≤ d.left ∧ d.left ≤ 9223372036854775807
  done : 0 ≤ d.done ∧ d.done ≤ m
  rlen : (d.reads.length : Int) = d.sectors
  reads : ∀ x ∈ d.reads, 0 ≤ x ∧ x ≤ m
/-- A slice of booleans. -/
def RowT (w : World) (s : Value) (E : List Bool) : Prop :=
  (s = .slice none 0 0 ∧ E = []) ∨ (∃ a c, s = .slice (some a) 0 c ∧ E = []) ∨ ∃ b o c, s = .slice (some ⟨b, o, none⟩) E.length c ∧ b < w.heap.size ∧ ∀ i x, E[i]? = some x → w.cell? ⟨b, o + i, none⟩ = some (.bool x)
theorem RowT.on {w w' : World} {s : Value} {E : List Bool} (h : RowT w s E) (hb : Below w.heap.size w w') : RowT w' s E := by
  rcases h with h | h | ⟨b, o, c, h1, h2, h3⟩
  · exact .inl h
  · exact .inr (.inl h)
  · exact .inr (.inr ⟨b, o, c, h1, Nat.lt_of_lt_of_le h2 hb.size, fun i x hx => by rw [cell_below hb h2]; exact h3 i x hx⟩)
def CapS (s : Value) : Prop := ∀ a n c, s = .slice a n c → n ≤ c
def rngI (z : Int) : Prop := -9223372036854775808 ≤ z ∧ z ≤ 9223372036854775807
theorem OwnB.cap {w : World} {base : Nat} {v : Value} {E : List Int} (h : OwnB w base v E) : CapS v := fun a n c e => by
  subst e
  obtain ⟨_, ⟨e, h0⟩ | ⟨g, cap, cur, e, _, _, hc, _⟩⟩ := h
  · cases e; exact Nat.le_refl _
  · cases e; exact hc
theorem OwnB.lt {w : World} {base : Nat} {v : Value} {E : List Int} (h : OwnB w base v E) : ∀ k, v.ownBlock = some k → base ≤ k ∧ k < w.heap.size := World.ownsRow.lt h
/-- A row of whole numbers that the call owns. -/
def OwnI (w : World) (base : Nat) (v : Value) (E : List Int) : Prop := w.ownsRow base 3 1 v E.length (E.map (Value.int .i64))
/-- A call changed a disk: nothing outside of its territory, and the territory grew by new memory alone. -/
structure To (T : Nat → Prop) (w : World) (T' : Nat → Prop) (w' : World) : Prop where
  keep : Keep (fun k => ¬ T k) w w'
  new : ∀ k, T' k → T k ∨ w.heap.size ≤ k
abbrev ptrD (g : Nat) : Value := .pointer (some ⟨g, 0, none⟩)
variable {At : (Nat → Prop) → World → Nat → DM → Prop}
/-- A disk on the way, seen from where the call began. -/
structure St (At : (Nat → Prop) → World → Nat → DM → Prop) (w0 w : World) (T : Nat → Prop) (g : Nat) (d : DM) : Prop where
  at' : At T w g d
  far : ∀ k, T k → w0.heap.size ≤ k
  below : Below w0.heap.size w0 w
theorem St.step {w0 w w' : World} {T T' : Nat → Prop} {g : Nat} {d d' : DM} (h : St At w0 w T g d) (ht : To T w T' w') (ha : At T' w' g d') : St At w0 w' T' g d' :=
  ⟨ha, fun k hk => (ht.new k hk).elim (h.far k) (Nat.le_trans h.below.size), h.below.trans (ht.keep.below (fun k hk hT => absurd (h.far k hT) (by omega)) h.below.size)⟩
end Go.Proofs.Ytdcjchakgfpgaaa
