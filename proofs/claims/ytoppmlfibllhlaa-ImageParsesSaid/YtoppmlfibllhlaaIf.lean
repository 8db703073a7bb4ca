/- Layer 11: rows of bytes, colours compared, runs. -/
import Derived.Test.YtoppmlfibllhlaaJl
import Derived.BigQuiet
namespace Go.Proofs.Ytoppmlfibllhlaa
open Go.RowKit
theorem infoB : (Try.prog.info? 5).map (fun i => (i.zero, i.size, i.bytes)) = some (some (.int .u8 0), 1, 1) := by kernel_rfl
abbrev bytV (E : List Int) : List Value := E.map (Value.int .u8)
/-- A row of bytes that the call owns. -/
def OwnB (w : World) (base : Nat) (v : Value) (E : List Int) : Prop := w.ownsRow base 5 1 v E.length (bytV E)
theorem OwnB.grow {w w' : World} {base : Nat} {v : Value} {E : List Int} (h : OwnB w base v E) (hb : Below w.heap.size w w') : OwnB w' base v E := owns_keep h (Keep.of_below (S := fun _ => True) hb) (fun _ _ => trivial)
theorem run_append_byts (w : World) (t ty : TypeId) (ht : Try.prog.underlying t = some (.slice 5)) (base : Nat) (v : Value) (E : List Int) (hown : OwnB w base v E) (ad : Addr) (k c : Nat) (Y : List Int) (hk : Y.length = k) (hx : ∀ j u, (bytV Y)[j]? = some u → w.cell? (ad.add j) = some u) (hl : E.length + k ≤ 100000) (hbase : base ≤ w.heap.size) :
    ∃ v' w', (Builtin.append_ #[t, t] ty #[v, .slice (some ad) k c]).run Try.prog w = .ok v' w' ∧ OwnB w' base v' (E ++ Y) ∧ w.grownBy w' v.ownBlock ∧ Moved w v v' := by
  obtain ⟨i, hi, hz0, hz1, hz2⟩ := info_parts infoB
  obtain ⟨m, hm⟩ : ∃ m, E.length = m := ⟨_, rfl⟩
  unfold OwnB at hown ⊢
  rw [hm] at hown hl
  have hn : (bytV Y).length = k * 1 := by rw [List.length_map]; omega
  have h1 : ∀ u ∈ bytV Y, u.oneCell' = true := fun u hu => by obtain ⟨x, _, rfl⟩ := List.mem_map.1 hu; rfl
  have key : ∀ b, w.ownsRow b 5 1 v m (bytV E) → b ≤ w.heap.size → _ := fun b ho hb => run_append_own (P := Try.prog) w b t ty 5 i (.int .u8 0) 1 1 ht hi hz0 hz1 hz2 rfl (by decide) v m (bytV E) ho ad k c (bytV Y) hn hx h1 (by unfold maxLen; omega) (by omega) hb
  obtain ⟨v', w', hr, ho, hg, _⟩ := key base hown hbase
  have hfin : w'.ownsRow base 5 1 v' (E ++ Y).length (bytV (E ++ Y)) := by
    rw [List.length_append, hm, hk, show bytV (E ++ Y) = bytV E ++ bytV Y from List.map_append]
    exact ho
  refine ⟨v', w', hr, hfin, hg, ?_⟩
  have hlen := hown.1
  rcases hown.2 with ⟨rfl, h0⟩ | ⟨g, cap, cur, rfl, hb, hgg, hc, hmm, hs, htk⟩
  · subst h0
    have hxs : bytV E = [] := List.eq_nil_of_length_eq_zero (by omega)
    obtain ⟨v2, w2, hr2, ho2, _, _⟩ := key w.heap.size (by rw [hxs]; exact World.ownsRow_nil _ _ _ _) (Nat.le_refl _)
    obtain ⟨rfl, rfl⟩ := ok_inj hr hr2
    cases hv : v'.ownBlock with
    | none => exact .inl hv
    | some q => exact .inr ⟨q, hv, (ho2.lt q hv).1⟩
  · by_cases hroom : m + k ≤ cap
    · obtain ⟨w2, hr2, _⟩ := run_append_fits (P := Try.prog) w base t ty 5 i 1 ht hi hz1 g m cap (bytV E) hown ad k c (bytV Y) hn hx h1 hroom
      obtain ⟨rfl, _⟩ := ok_inj hr hr2
      exact .inl rfl
    · have hr2 := run_append_grow (P := Try.prog) w t ty 5 i _ ht hi hz0 ⟨g, 0, none⟩ m cap (bytV E) (by rw [hlen, hz1]) (fun j u hj => by have := hown.cells (g := g) rfl j u hj; exact this) ad k c (bytV Y) (by rw [hn, hz1]) hx (by omega) (by omega) (by rw [hz2]; exact growslice_fits (by omega) (by omega))
      obtain ⟨rfl, _⟩ := ok_inj hr hr2
      exact .inr ⟨_, rfl, Nat.le_refl _⟩
theorem wp_append_byts {w : World} {o : Oper} {a : Act} {K : Act → World → Prop} {Q : Exit → Act → World → Prop} (s x : Operand) (t : TypeId)
    (ho : o.op = .call { callee := .builtin .append, args := #[s, x], argTypes := #[t, t] }) (ht : Try.prog.underlying t = some (.slice 5))
    (base : Nat) (v : Value) (E : List Int) (hs : a.eval s = v) (hown : OwnB w base v E) (ad : Addr) (k c : Nat) (Y : List Int) (hxe : a.eval x = .slice (some ad) k c) (hk : Y.length = k) (hx : ∀ j u, (bytV Y)[j]? = some u → w.cell? (ad.add j) = some u) (hl : E.length + k ≤ 100000) (hbase : base ≤ w.heap.size)
    (h : ∀ v' w', OwnB w' base v' (E ++ Y) → w.grownBy w' v.ownBlock → Moved w v v' → K (a.put o.dst v') w') : o.wp Try.prog a w K Q := by
  obtain ⟨v', w', hr, h2, h3, h4⟩ := run_append_byts w t o.type ht base v E hown ad k c Y hk hx hl hbase
  unfold Oper.wp
  simp [execOp, ho, resolve, invoke, builtin, hs, hxe, hr, Result.andThen]
  exact h v' w' h2 h3 h4
theorem wpList_append_byts {w : World} {ops : Array Oper} {rest : List Oper} {o : Oper} {a : Act} {Q : Exit → Act → World → Prop} (hgd : o.guard = none) (s x : Operand) (t : TypeId)
    (ho : o.op = .call { callee := .builtin .append, args := #[s, x], argTypes := #[t, t] }) (ht : Try.prog.underlying t = some (.slice 5))
    (base : Nat) (v : Value) (E : List Int) (hs : a.eval s = v) (hown : OwnB w base v E) (ad : Addr) (k c : Nat) (Y : List Int) (hxe : a.eval x = .slice (some ad) k c) (hk : Y.length = k) (hx : ∀ j u, (bytV Y)[j]? = some u → w.cell? (ad.add j) = some u) (hl : E.length + k ≤ 100000) (hbase : base ≤ w.heap.size)
    (h : ∀ v' w', OwnB w' base v' (E ++ Y) → w.grownBy w' v.ownBlock → Moved w v v' → wpList Try.prog ops Q rest (a.put o.dst v') w') : wpList Try.prog ops Q (o :: rest) a w := by
  refine wpList_plain hgd fun K hK => ?_
  obtain ⟨v', w', hr, h2, h3, h4⟩ := run_append_byts w t o.type ht base v E hown ad k c Y hk hx hl hbase
  unfold Oper.wp
  simp [execOp, ho, resolve, invoke, builtin, hs, hxe, hr, Result.andThen]
  exact hK _ _ (h v' w' h2 h3 h4)
theorem OwnB.shape {w : World} {base : Nat} {v : Value} {E : List Int} (h : OwnB w base v E) : ∃ a c, v = .slice a E.length c := by
  obtain ⟨_, ⟨rfl, h0⟩ | ⟨g, cap, cur, rfl, _⟩⟩ := h
  · exact ⟨none, 0, by rw [h0]⟩
  · exact ⟨_, _, rfl⟩
theorem OwnB.made (w : World) {base : Nat} (hb : base ≤ w.heap.size) (E : List Int) (n : Nat) (cs : Array Value) (hcs : cs = (bytV E).toArray) (hn : E.length = n) (hl : n ≤ 1000) : OwnB (w.alloc (.cells cs 5)) base (.slice (some ⟨w.heap.size, 0, none⟩) n n) E := by
  subst hcs hn
  refine ⟨by simp, .inr ⟨w.heap.size, E.length, _, rfl, hb, Blk.new _ _ _, Nat.le_refl _, by unfold maxLen; omega, by simp, by rw [List.take_of_length_le (by simp)]⟩⟩
/-- Two colours, compared. -/
def eqC (c d : Col) : Bool := (c 0 == d 0) && (c 1 == d 1) && (c 2 == d 2) && (c 3 == d 3)
theorem eqC_self (c : Col) : eqC c c = true := by simp [eqC]
theorem eqC_iff {c d : Col} : eqC c d = true ↔ ∀ i, i < 4 → c i = d i := by
  unfold eqC
  simp only [Bool.and_eq_true, beq_iff_eq]
  constructor
  · rintro ⟨⟨⟨h0, h1⟩, h2⟩, h3⟩ i hi
    match i, hi with
    | 0, _ => exact h0
    | 1, _ => exact h1
    | 2, _ => exact h2
    | 3, _ => exact h3
  · intro h
    exact ⟨⟨⟨h 0 (by decide), h 1 (by decide)⟩, h 2 (by decide)⟩, h 3 (by decide)⟩
theorem equal64 (c d : Col) (w : World) : (Op.equalIn 10000 43 (.agg #[.int .i64 (c 0), .int .i64 (c 1), .int .i64 (c 2), .int .i64 (c 3)]) (.agg #[.int .i64 (d 0), .int .i64 (d 1), .int .i64 (d 2), .int .i64 (d 3)])).run Try.prog w = .ok (eqC c d) w := by
  have hsz : ∀ w, (sizeOf 3).run Try.prog w = .ok 1 w := fun w => by kernel_rfl
  rw [Op.equalIn]
  simp only [Sem.run_bind, run_underlying Try.underlying43, Result.andThen_ok, hsz, Std.Legacy.Range.forIn_eq_forIn_range', Std.Legacy.Range.size, Nat.sub_zero, Nat.add_sub_cancel, Nat.div_one]
  rw [show List.range' 0 4 1 = [0, 1, 2, 3] from rfl]
  have px : ∀ (c : Col) (i : Nat), i < 4 → (part 3 #[Value.int .i64 (c 0), .int .i64 (c 1), .int .i64 (c 2), .int .i64 (c 3)] (i * 1)).run Try.prog w = .ok (.int .i64 (c i)) w := fun c i hi => by
    have he : (#[Value.int .i64 (c 0), .int .i64 (c 1), .int .i64 (c 2), .int .i64 (c 3)] : Array Value)[i]? = some (.int .i64 (c i)) := four_at (fun i => .int .i64 (c i)) hi
    simp [part, isAgg, run_underlying Try.underlying3, he]
  have pe : ∀ x y : Int, (Op.equalIn (9998 + 1) 3 (.int .i64 x) (.int .i64 y)).run Try.prog w = .ok (x == y) w := fun x y => run_equalIn_int w 9998 _ _ _ _ _ Try.underlying3
  unfold eqC
  simp only [List.forIn_cons, List.forIn_nil, Sem.run_bind, px c 0 (by decide), px d 0 (by decide), pe, Result.andThen_ok]
  cases h0 : (c 0 == d 0)
  · simp
  cases h1 : (c 1 == d 1)
  · simp [px c 1 (by decide), px d 1 (by decide), pe, h1]
  cases h2 : (c 2 == d 2)
  · simp [px c 1 (by decide), px d 1 (by decide), px c 2 (by decide), px d 2 (by decide), pe, h1, h2]
  cases h3 : (c 3 == d 3)
  · simp [px c 1 (by decide), px d 1 (by decide), px c 2 (by decide), px d 2 (by decide), px c 3 (by decide), px d 3 (by decide), pe, h1, h2, h3]
  · simp [px c 1 (by decide), px d 1 (by decide), px c 2 (by decide), px d 2 (by decide), px c 3 (by decide), px d 3 (by decide), pe, h1, h2, h3]
/-- How long the run is that begins at i. -/
def runTo (l : List Col) (i : Nat) : Nat → Nat → Nat
  | 0, n => n
  | f + 1, n => if n < 256 ∧ i + n < l.length ∧ eqC (cAt l (i + n)) (cAt l i) = true then runTo l i f (n + 1) else n
theorem runTo_in (l : List Col) (i : Nat) : ∀ f n, n ≤ 256 → i + n ≤ l.length → n ≤ runTo l i f n ∧ runTo l i f n ≤ 256 ∧ i + runTo l i f n ≤ l.length
  | 0, n, h1, h2 => ⟨Nat.le_refl _, h1, h2⟩
  | f + 1, n, h1, h2 => by
    unfold runTo
    split
    · rename_i h
      have := runTo_in l i f (n + 1) (by omega) (by omega)
      omega
    · exact ⟨Nat.le_refl _, h1, h2⟩
def runLen (l : List Col) (i : Nat) : Nat := runTo l i 257 0
theorem runLen_in {l : List Col} {i : Nat} (h : i < l.length) : 1 ≤ runLen l i ∧ runLen l i ≤ 256 ∧ i + runLen l i ≤ l.length := by
  have h1 := runTo_in l i 257 0 (by omega) (by omega)
  refine ⟨?_, h1.2⟩
  have h2 := runTo_in l i 256 1 (by omega) (by omega)
  have e : runLen l i = runTo l i 256 1 := by
    have e0 : runTo l i (256 + 1) 0 = if 0 < 256 ∧ i + 0 < l.length ∧ eqC (cAt l (i + 0)) (cAt l i) = true then runTo l i 256 (0 + 1) else 0 := rfl
    exact e0.trans (if_pos ⟨by omega, by omega, by rw [Nat.add_zero]; exact eqC_self _⟩)
  rw [e]; exact h2.1
def colB (c : Col) : List Int := [c 0, c 1, c 2, c 3]
/-- The runs from the pixel i on. -/
def runsB (l : List Col) : Nat → Nat → List Int
  | 0, _ => []
  | f + 1, i => if i < l.length then ((runLen l i : Int) - 1) :: colB (cAt l i) ++ runsB l f (i + runLen l i) else []
def bytesI (W H : Int) (l : List Col) : List Int := (W - 1) :: (H - 1) :: runsB l l.length 0
theorem runsB_step {l : List Col} {f i r : Nat} {x : Col} (h : i < l.length) (hr : runLen l i = r) (hx : cAt l i = x) : runsB l (f + 1) i = ((r : Int) - 1) :: colB x ++ runsB l f (i + r) := by
  subst hr hx
  exact if_pos h
theorem runsB_end {l : List Col} {f i : Nat} (h : ¬ i < l.length) : runsB l f i = [] := by
  cases f with
  | zero => rfl
  | succ f => unfold runsB; rw [if_neg h]
end Go.Proofs.Ytoppmlfibllhlaa

