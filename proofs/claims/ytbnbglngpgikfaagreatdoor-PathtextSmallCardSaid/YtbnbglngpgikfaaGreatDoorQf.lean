/- Layer 15: rows of strings, by append. -/
import Derived.Test.YtbnbglngpgikfaaGreatDoorQe
namespace Go.Proofs.YtbnbglngpgikfaaGreatDoor
open Go.RowKit Go.Shelf
attribute [local go_sem] Oper.semAt_some
theorem infoW : (Tryz.prog.info? 9).map (fun i => (i.zero, i.size, i.bytes)) = some (some (.string ⟨#[]⟩), 1, 16) := by kernel_rfl
abbrev strV (E : List Wd) : List Value := E.map fun x => .string ⟨x.toArray⟩
/-- A row of strings that the call owns. -/
def OwnW (w : World) (base : Nat) (v : Value) (E : List Wd) : Prop := w.ownsRow base 9 1 v E.length (strV E)
theorem OwnW.nil (w : World) (base : Nat) : OwnW w base (.slice none 0 0) [] := World.ownsRow_nil _ _ _ _
theorem OwnW.grow {w w' : World} {base : Nat} {v : Value} {E : List Wd} (h : OwnW w base v E) (hb : Below w.heap.size w w') : OwnW w' base v E := owns_keep h (Keep.of_below (S := fun _ => True) hb) (fun _ _ => trivial)
/-- A row of strings, read. -/
def RowW (w : World) (v : Value) (E : List Wd) : Prop :=
  (v = .slice none 0 0 ∧ E = []) ∨ ∃ g o c, v = .slice (some ⟨g, o, none⟩) E.length c ∧ g < w.heap.size ∧ E.length ≤ c ∧ ∀ (k : Nat) x, E[k]? = some x → w.cell? ⟨g, o + k, none⟩ = some (.string ⟨x.toArray⟩)
theorem RowW.on {w w' : World} {v : Value} {E : List Wd} (h : RowW w v E) (hb : Below w.heap.size w w') : RowW w' v E := by
  rcases h with h | ⟨g, o, c, e, h1, h2, h3⟩
  · exact .inl h
  · exact .inr ⟨g, o, c, e, Nat.lt_of_lt_of_le h1 hb.size, h2, fun k x hk => by rw [cell_below hb h1]; exact h3 k x hk⟩
theorem RowW.shape {w : World} {v : Value} {E : List Wd} (h : RowW w v E) : ∃ a c, v = .slice a E.length c := by
  rcases h with ⟨rfl, rfl⟩ | ⟨g, o, c, e, _⟩
  · exact ⟨_, _, rfl⟩
  · exact ⟨_, _, e⟩
theorem RowW.addr {w : World} {a : Option Addr} {n c : Nat} {E : List Wd} (h : RowW w (.slice a n c) E) {k : Nat} (hk : k < n) : ∃ g o, a = some ⟨g, o, none⟩ ∧ g < w.heap.size ∧ E.length = n ∧ ∀ (k : Nat) x, E[k]? = some x → w.cell? ⟨g, o + k, none⟩ = some (.string ⟨x.toArray⟩) := by
  rcases h with ⟨e, rfl⟩ | ⟨g, o, c', e, h1, h2, h3⟩
  · cases e; omega
  · cases e; exact ⟨g, o, rfl, h1, rfl, h3⟩
theorem RowW.len {w : World} {a : Option Addr} {n c : Nat} {E : List Wd} (h : RowW w (.slice a n c) E) : E.length = n := by
  rcases h with ⟨e, rfl⟩ | ⟨g, o, c', e, h1, h2, h3⟩ <;> cases e <;> rfl
theorem OwnW.row {w : World} {base : Nat} {v : Value} {E : List Wd} (h : OwnW w base v E) : RowW w v E := by
  have h2 := h
  obtain ⟨h1, ⟨e, h0⟩ | ⟨g, cap, cur, rfl, hb, hg, hc, hs, _⟩⟩ := h
  · exact .inl ⟨e, List.eq_nil_of_length_eq_zero h0⟩
  · refine .inr ⟨g, 0, cap, rfl, (Array.getElem?_eq_some_iff.1 hg).1, by omega, fun k x hk => ?_⟩
    have hc := World.ownsRow.cells h2 (g := g) rfl k (.string ⟨x.toArray⟩) (by rw [List.getElem?_map, hk]; rfl)
    rwa [Addr.add_lit] at hc
theorem OwnW.shape {w : World} {base : Nat} {v : Value} {E : List Wd} (h : OwnW w base v E) : ∃ a c, v = .slice a E.length c := h.row.shape
theorem run_append_strs (w : World) (t ty : TypeId) (ht : Tryz.prog.underlying t = some (.slice 9)) (base : Nat) (v : Value) (E : List Wd) (hown : OwnW w base v E) (ad : Addr) (k c : Nat) (Y : List Wd) (hk : Y.length = k) (hx : ∀ j u, (strV Y)[j]? = some u → w.cell? (ad.add j) = some u) (hl : E.length + k ≤ 1000000) (hbase : base ≤ w.heap.size) :
    ∃ v' w', (Builtin.append_ #[t, t] ty #[v, .slice (some ad) k c]).run Tryz.prog w = .ok v' w' ∧ OwnW w' base v' (E ++ Y) ∧ w.grownBy w' v.ownBlock ∧ Moved w v v' := by
  obtain ⟨i, hi, hz0, hz1, hz2⟩ := info_parts infoW
  obtain ⟨m, hm⟩ : ∃ m, E.length = m := ⟨_, rfl⟩
  unfold OwnW at hown ⊢
  rw [hm] at hown hl
  have hn : (strV Y).length = k * 1 := by rw [List.length_map]; omega
  have h1 : ∀ u ∈ strV Y, u.oneCell' = true := fun u hu => by obtain ⟨x, _, rfl⟩ := List.mem_map.1 hu; rfl
  have key : ∀ b, w.ownsRow b 9 1 v m (strV E) → b ≤ w.heap.size → _ := fun b ho hb => run_append_own (P := Tryz.prog) w b t ty 9 i (.string ⟨#[]⟩) 1 16 ht hi hz0 hz1 hz2 rfl (by decide) v m (strV E) ho ad k c (strV Y) hn hx h1 (by unfold maxLen; omega) (by omega) hb
  obtain ⟨v', w', hr, ho, hg, _⟩ := key base hown hbase
  have hfin : w'.ownsRow base 9 1 v' (E ++ Y).length (strV (E ++ Y)) := by
    rw [List.length_append, hm, hk, show strV (E ++ Y) = strV E ++ strV Y from List.map_append]
    exact ho
  refine ⟨v', w', hr, hfin, hg, ?_⟩
  have hlen := hown.1
  rcases hown.2 with ⟨rfl, h0⟩ | ⟨g, cap, cur, rfl, hb, hgg, hc, hmm, hs, htk⟩
  · subst h0
    have hxs : strV E = [] := List.eq_nil_of_length_eq_zero (by omega)
    obtain ⟨v2, w2, hr2, ho2, _, _⟩ := key w.heap.size (by rw [hxs]; exact World.ownsRow_nil _ _ _ _) (Nat.le_refl _)
    obtain ⟨rfl, rfl⟩ := ok_inj hr hr2
    cases hv : v'.ownBlock with
    | none => exact .inl hv
    | some q => exact .inr ⟨q, hv, (ho2.lt q hv).1⟩
  · by_cases hroom : m + k ≤ cap
    · obtain ⟨w2, hr2, _⟩ := run_append_fits (P := Tryz.prog) w base t ty 9 i 1 ht hi hz1 g m cap (strV E) hown ad k c (strV Y) hn hx h1 hroom
      obtain ⟨rfl, _⟩ := ok_inj hr hr2
      exact .inl rfl
    · have hr2 := run_append_grow (P := Tryz.prog) w t ty 9 i _ ht hi hz0 ⟨g, 0, none⟩ m cap (strV E) (by rw [hlen, hz1]) (fun j u hj => by have := hown.cells (g := g) rfl j u hj; exact this) ad k c (strV Y) (by rw [hn, hz1]) hx (by omega) (by omega) (by rw [hz2]; exact growslice_fits (by omega) (by omega))
      obtain ⟨rfl, _⟩ := ok_inj hr hr2
      exact .inr ⟨_, rfl, Nat.le_refl _⟩
theorem wpList_app_strs {w : World} {ops : Array Oper} {rest : List Oper} {o : Oper} {a : Act} {Q : Exit → Act → World → Prop} (hgd : o.guard = none) (s x : Operand) (t : TypeId)
    (ho : o.op = .call { callee := .builtin .append, args := #[s, x], argTypes := #[t, t] }) (ht : Tryz.prog.underlying t = some (.slice 9))
    (base : Nat) (v : Value) (E : List Wd) (hs : a.eval s = v) (hown : OwnW w base v E) (ad : Addr) (k c : Nat) (Y : List Wd) (hxe : a.eval x = .slice (some ad) k c) (hk : Y.length = k) (hx : ∀ j u, (strV Y)[j]? = some u → w.cell? (ad.add j) = some u) (hl : E.length + k ≤ 1000000) (hbase : base ≤ w.heap.size)
    (h : ∀ v' w', OwnW w' base v' (E ++ Y) → w.grownBy w' v.ownBlock → Moved w v v' → wpList Tryz.prog ops Q rest (a.put o.dst v') w') : wpList Tryz.prog ops Q (o :: rest) a w := by
  refine wpList_plain hgd fun K hK => ?_
  obtain ⟨v', w', hr, h2, h3, h4⟩ := run_append_strs w t o.type ht base v E hown ad k c Y hk hx hl hbase
  unfold Oper.wp
  simp [execOp, ho, resolve, invoke, builtin, hs, hxe, hr, Result.andThen]
  exact hK _ _ (h v' w' h2 h3 h4)
theorem wp_app_strs {o : Oper} {a : Act} {w : World} {K : Act → World → Prop} {Q : Exit → Act → World → Prop} (s x : Operand) (t : TypeId)
    (ho : o.op = .call { callee := .builtin .append, args := #[s, x], argTypes := #[t, t] }) (ht : Tryz.prog.underlying t = some (.slice 9))
    (base : Nat) (v : Value) (E : List Wd) (hs : a.eval s = v) (hown : OwnW w base v E) (ad : Addr) (k c : Nat) (Y : List Wd) (hxe : a.eval x = .slice (some ad) k c) (hk : Y.length = k) (hx : ∀ j u, (strV Y)[j]? = some u → w.cell? (ad.add j) = some u) (hl : E.length + k ≤ 1000000) (hbase : base ≤ w.heap.size)
    (h : ∀ v' w', OwnW w' base v' (E ++ Y) → w.grownBy w' v.ownBlock → Moved w v v' → K (a.put o.dst v') w') : o.wp Tryz.prog a w K Q := by
  obtain ⟨v', w', hr, h2, h3, h4⟩ := run_append_strs w t o.type ht base v E hown ad k c Y hk hx hl hbase
  unfold Oper.wp
  simp [execOp, ho, resolve, invoke, builtin, hs, hxe, hr, Result.andThen]
  exact h v' w' h2 h3 h4
theorem wpIn_app_strs {F : Fence} {nF : Nat} {o : Oper} {a : Act} {w : World} {K : Act → World → Prop} {Q : Exit → Act → World → Prop} (s x : Operand) (t : TypeId)
    (ho : o.op = .call { callee := .builtin .append, args := #[s, x], argTypes := #[t, t] }) (ht : Tryz.prog.underlying t = some (.slice 9))
    (base : Nat) (v : Value) (E : List Wd) (hs : a.eval s = v) (hown : OwnW w base v E) (ad : Addr) (k c : Nat) (Y : List Wd) (hxe : a.eval x = .slice (some ad) k c) (hk : Y.length = k) (hx : ∀ j u, (strV Y)[j]? = some u → w.cell? (ad.add j) = some u) (hl : E.length + k ≤ 1000000) (hbase : base ≤ w.heap.size)
    (h : ∀ v' w', OwnW w' base v' (E ++ Y) → w.grownBy w' v.ownBlock → Moved w v v' → K (a.put o.dst v') w') : o.wpIn F nF Tryz.prog a w K Q := by
  obtain ⟨v', w', hr, h2, h3, h4⟩ := run_append_strs w t o.type ht base v E hown ad k c Y hk hx hl hbase
  unfold Oper.wpIn
  refine ⟨by simp [Oper.about, ho, resolve, Target.leads, Sem.run_pure], ?_⟩
  rw [Oper.semAt_plain F _ _ (by rw [ho]; intro c hc'; cases hc')]
  simp [execOp, ho, resolve, invoke, builtin, hs, hxe, hr, Result.andThen]
  exact h v' w' h2 h3 h4
theorem wpListIn_app_strs {F : Fence} {nF : Nat} {w : World} {ops : Array Oper} {rest : List Oper} {o : Oper} {a : Act} {Q : Exit → Act → World → Prop} (hgd : o.guard = none) (s x : Operand) (t : TypeId)
    (ho : o.op = .call { callee := .builtin .append, args := #[s, x], argTypes := #[t, t] }) (ht : Tryz.prog.underlying t = some (.slice 9))
    (base : Nat) (v : Value) (E : List Wd) (hs : a.eval s = v) (hown : OwnW w base v E) (ad : Addr) (k c : Nat) (Y : List Wd) (hxe : a.eval x = .slice (some ad) k c) (hk : Y.length = k) (hx : ∀ j u, (strV Y)[j]? = some u → w.cell? (ad.add j) = some u) (hl : E.length + k ≤ 1000000) (hbase : base ≤ w.heap.size)
    (h : ∀ v' w', OwnW w' base v' (E ++ Y) → w.grownBy w' v.ownBlock → Moved w v v' → wpListIn F nF Tryz.prog ops Q rest (a.put o.dst v') w') : wpListIn F nF Tryz.prog ops Q (o :: rest) a w :=
  wpListIn_plain hgd fun _ hK => wpIn_app_strs s x t ho ht base v E hs hown ad k c Y hxe hk hx hl hbase fun v' w' h2 h3 h4 => hK _ _ (h v' w' h2 h3 h4)
theorem str_src {w : World} {g : Nat} {Y : List Wd} {t : TypeId} (h : Blk w g t (strV Y).toArray) : ∀ j u, (strV Y)[j]? = some u → w.cell? ((⟨g, 0, none⟩ : Addr).add j) = some u := fun j u hj => by
  rw [Addr.add_lit, Nat.zero_add, h.cell]
  simpa using hj
/-- The strings as they grow, in a variable of the call's own: from N on lie four blocks that are none of theirs. -/
structure WdS (base N gb : Nat) (v : Value) (E : List Wd) (A : World) : Prop where
  var : Blk A gb 42 #[v]
  row : OwnW A base v E
  off : ∀ k, v.ownBlock = some k → N + 4 ≤ k
theorem WdS.ne {base N gb : Nat} {A : World} {v : Value} {E : List Wd} (h : WdS base N gb v E A) (hn : gb < N) : v.ownBlock ≠ some gb := fun e => by have := h.off _ e; omega
theorem WdS.mv {base N gb : Nat} {T : Nat → Prop} {A B : World} {v : Value} {E : List Wd} (h : WdS base N gb v E A) (hk : Keep T A B) (h1 : T gb) (h2 : ∀ k, N + 4 ≤ k → T k) : WdS base N gb v E B :=
  ⟨hk.blk h.var h1, owns_keep h.row hk (fun k e => h2 k (h.off k e)), h.off⟩
theorem WdS.app {base N gb : Nat} {A B : World} {v v' : Value} {E E' : List Wd} (h : WdS base N gb v E A) (ho : OwnW B base v' E') (hg : A.grownBy B v.ownBlock) (hm : Moved A v v') (hN : N + 4 ≤ A.heap.size) (hgb : gb < N) : WdS base N gb v' E' (B.setCell ⟨gb, 0, none⟩ v') := by
  have hoff : ∀ k, v'.ownBlock = some k → N + 4 ≤ k := fun k e => by
    rcases hm with hm | ⟨q, e', hq⟩
    · rw [hm] at e; exact h.off k e
    · rw [e'] at e; cases e; omega
  have hvar : Blk B gb 42 #[v] := (Keep.of_grown hg).blk h.var (h.ne hgb)
  have hset : Blk (B.setCell ⟨gb, 0, none⟩ v') gb 42 #[v'] := by simpa using hvar.set 0 v'
  refine ⟨hset, owns_keep ho (Keep.setCell (S := fun j => j ≠ gb) _ _ _ (by simp)) fun k e => ?_, hoff⟩
  have := hoff k e; omega
end Go.Proofs.YtbnbglngpgikfaaGreatDoor
