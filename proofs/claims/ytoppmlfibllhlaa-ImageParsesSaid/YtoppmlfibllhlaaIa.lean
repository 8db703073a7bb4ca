/- Layer 11: rows of colours. -/
import Derived.Test.YtoppmlfibllhlaaTa
import Derived.Test.YtoppmlfibllhlaaPg
namespace Go.Proofs.Ytoppmlfibllhlaa
open Go.RowKit
theorem run_append_c64 (w : World) (t ty T : TypeId) (ht : Try.prog.underlying t = some (.slice T)) (hT : (Try.prog.info? T).map (fun i => (i.zero, i.size, i.bytes)) = some (some (.agg #[.int .i64 0, .int .i64 0, .int .i64 0, .int .i64 0]), 4, 32))
    (base : Nat) (v : Value) (m : Nat) (xs : List Value) (hown : w.ownsRow base T 4 v m xs) (ad : Addr) (k : Nat) (c : Nat) (news : List Value) (hk : news.length = k * 4) (hx : ∀ j u, news[j]? = some u → w.cell? (ad.add j) = some u) (h1 : ∀ u ∈ news, u.oneCell' = true) (hl : m + k ≤ 100000) (hbase : base ≤ w.heap.size) :
    ∃ v' w', (Builtin.append_ #[t, t] ty #[v, .slice (some ad) k c]).run Try.prog w = .ok v' w' ∧ w'.ownsRow base T 4 v' (m + k) (xs ++ news) ∧ w.grownBy w' v.ownBlock ∧ Moved w v v' := by
  obtain ⟨i, hi, hz0, hz1, hz2⟩ := info_parts hT
  have hn : news.length = k * 4 := hk
  have key : ∀ b, w.ownsRow b T 4 v m xs → b ≤ w.heap.size → _ := fun b ho hb => run_append_own (P := Try.prog) w b t ty T i (.agg #[.int .i64 0, .int .i64 0, .int .i64 0, .int .i64 0]) 4 32 ht hi hz0 hz1 hz2 rfl (by decide) v m xs ho ad k c news hn hx h1 (by unfold maxLen; omega) (by omega) hb
  obtain ⟨v', w', hr, ho, hg, _⟩ := key base hown hbase
  refine ⟨v', w', hr, ho, hg, ?_⟩
  have hlen := hown.1
  rcases hown.2 with ⟨rfl, h0⟩ | ⟨g, cap, cur, rfl, hb, hgg, hc, hm, hs, htk⟩
  · subst h0
    have hxs : xs = [] := List.eq_nil_of_length_eq_zero (by omega)
    subst hxs
    obtain ⟨v2, w2, hr2, ho2, _, _⟩ := key w.heap.size (World.ownsRow_nil _ _ _ _) (Nat.le_refl _)
    obtain ⟨rfl, rfl⟩ := ok_inj hr hr2
    cases hv : v'.ownBlock with
    | none => exact .inl hv
    | some q => exact .inr ⟨q, hv, (ho2.lt q hv).1⟩
  · by_cases hroom : m + k ≤ cap
    · obtain ⟨w2, hr2, _⟩ := run_append_fits (P := Try.prog) w base t ty T i 4 ht hi hz1 g m cap xs hown ad k c news hn hx h1 hroom
      obtain ⟨rfl, _⟩ := ok_inj hr hr2
      exact .inl rfl
    · have hr2 := run_append_grow (P := Try.prog) w t ty T i _ ht hi hz0 ⟨g, 0, none⟩ m cap xs (by rw [hlen, hz1]) (fun j u hj => by have := hown.cells (g := g) rfl j u hj; exact this) ad k c news (by rw [hn, hz1]) hx (by omega) (by omega) (by rw [hz2]; exact growslice_fits (by omega) (by omega))
      obtain ⟨rfl, _⟩ := ok_inj hr hr2
      exact .inr ⟨_, rfl, Nat.le_refl _⟩
theorem run_append_c8 (w : World) (t ty T : TypeId) (ht : Try.prog.underlying t = some (.slice T)) (hT : (Try.prog.info? T).map (fun i => (i.zero, i.size, i.bytes)) = some (some (.agg #[.int .u8 0, .int .u8 0, .int .u8 0, .int .u8 0]), 4, 4))
    (base : Nat) (v : Value) (m : Nat) (xs : List Value) (hown : w.ownsRow base T 4 v m xs) (ad : Addr) (k : Nat) (c : Nat) (news : List Value) (hk : news.length = k * 4) (hx : ∀ j u, news[j]? = some u → w.cell? (ad.add j) = some u) (h1 : ∀ u ∈ news, u.oneCell' = true) (hl : m + k ≤ 100000) (hbase : base ≤ w.heap.size) :
    ∃ v' w', (Builtin.append_ #[t, t] ty #[v, .slice (some ad) k c]).run Try.prog w = .ok v' w' ∧ w'.ownsRow base T 4 v' (m + k) (xs ++ news) ∧ w.grownBy w' v.ownBlock ∧ Moved w v v' := by
  obtain ⟨i, hi, hz0, hz1, hz2⟩ := info_parts hT
  have hn : news.length = k * 4 := hk
  have key : ∀ b, w.ownsRow b T 4 v m xs → b ≤ w.heap.size → _ := fun b ho hb => run_append_own (P := Try.prog) w b t ty T i (.agg #[.int .u8 0, .int .u8 0, .int .u8 0, .int .u8 0]) 4 4 ht hi hz0 hz1 hz2 rfl (by decide) v m xs ho ad k c news hn hx h1 (by unfold maxLen; omega) (by omega) hb
  obtain ⟨v', w', hr, ho, hg, _⟩ := key base hown hbase
  refine ⟨v', w', hr, ho, hg, ?_⟩
  have hlen := hown.1
  rcases hown.2 with ⟨rfl, h0⟩ | ⟨g, cap, cur, rfl, hb, hgg, hc, hm, hs, htk⟩
  · subst h0
    have hxs : xs = [] := List.eq_nil_of_length_eq_zero (by omega)
    subst hxs
    obtain ⟨v2, w2, hr2, ho2, _, _⟩ := key w.heap.size (World.ownsRow_nil _ _ _ _) (Nat.le_refl _)
    obtain ⟨rfl, rfl⟩ := ok_inj hr hr2
    cases hv : v'.ownBlock with
    | none => exact .inl hv
    | some q => exact .inr ⟨q, hv, (ho2.lt q hv).1⟩
  · by_cases hroom : m + k ≤ cap
    · obtain ⟨w2, hr2, _⟩ := run_append_fits (P := Try.prog) w base t ty T i 4 ht hi hz1 g m cap xs hown ad k c news hn hx h1 hroom
      obtain ⟨rfl, _⟩ := ok_inj hr hr2
      exact .inl rfl
    · have hr2 := run_append_grow (P := Try.prog) w t ty T i _ ht hi hz0 ⟨g, 0, none⟩ m cap xs (by rw [hlen, hz1]) (fun j u hj => by have := hown.cells (g := g) rfl j u hj; exact this) ad k c news (by rw [hn, hz1]) hx (by omega) (by omega) (by rw [hz2]; exact growslice_fits (by omega) (by omega))
      obtain ⟨rfl, _⟩ := ok_inj hr hr2
      exact .inr ⟨_, rfl, Nat.le_refl _⟩
def flatK (ik : IntKind) : List Col → List Value
  | [] => []
  | c :: l => .int ik (c 0) :: .int ik (c 1) :: .int ik (c 2) :: .int ik (c 3) :: flatK ik l
theorem flatK_len (ik : IntKind) : ∀ l : List Col, (flatK ik l).length = l.length * 4
  | [] => rfl
  | c :: l => by unfold flatK; simp [flatK_len ik l]; omega
theorem flatK_append (ik : IntKind) : ∀ l m : List Col, flatK ik (l ++ m) = flatK ik l ++ flatK ik m
  | [], _ => rfl
  | c :: l, m => by simp only [List.cons_append, flatK, flatK_append ik l m]
theorem flatK_at (ik : IntKind) : ∀ (l : List Col) (i : Nat) (c : Col), l[i]? = some c → (flatK ik l)[i * 4]? = some (.int ik (c 0)) ∧ (flatK ik l)[i * 4 + 1]? = some (.int ik (c 1)) ∧ (flatK ik l)[i * 4 + 2]? = some (.int ik (c 2)) ∧ (flatK ik l)[i * 4 + 3]? = some (.int ik (c 3))
  | [], _, _, h => by simp at h
  | d :: l, 0, c, h => by
    obtain rfl : d = c := by simpa using h
    exact ⟨rfl, rfl, rfl, rfl⟩
  | d :: l, i + 1, c, h => by
    have hh := flatK_at ik l i c (by simpa using h)
    unfold flatK
    rw [show (i + 1) * 4 = i * 4 + 4 by omega]
    exact hh
theorem flatK_one (ik : IntKind) : ∀ (l : List Col) (u : Value), u ∈ flatK ik l → u.oneCell' = true
  | [], _, h => by cases h
  | c :: l, u, h => by
    unfold flatK at h
    simp only [List.mem_cons] at h
    rcases h with rfl | rfl | rfl | rfl | h
    · rfl
    · rfl
    · rfl
    · rfl
    · exact flatK_one ik l u h
def ColAt (ik : IntKind) (w : World) (b o : Nat) (c : Col) : Prop := w.cell? ⟨b, o, none⟩ = some (.int ik (c 0)) ∧ w.cell? ⟨b, o + 1, none⟩ = some (.int ik (c 1)) ∧ w.cell? ⟨b, o + 2, none⟩ = some (.int ik (c 2)) ∧ w.cell? ⟨b, o + 3, none⟩ = some (.int ik (c 3))
/-- A slice of colours: nil; empty, with any address; a row. -/
def RowK (ik : IntKind) (w : World) (s : Value) (l : List Col) : Prop :=
  (s = .slice none 0 0 ∧ l = []) ∨ (∃ a c, s = .slice (some a) 0 c ∧ l = []) ∨ ∃ b o c, s = .slice (some ⟨b, o, none⟩) l.length c ∧ b < w.heap.size ∧ ∀ i p, l[i]? = some p → ColAt ik w b (o + i * 4) p
theorem ColAt.on {ik : IntKind} {w w' : World} {b o B : Nat} {c : Col} (h : ColAt ik w b o c) (hb : Below B w w') (hlt : b < B) : ColAt ik w' b o c := by
  obtain ⟨h0, h1, h2, h3⟩ := h
  exact ⟨(cell_below hb hlt).trans h0, (cell_below hb hlt).trans h1, (cell_below hb hlt).trans h2, (cell_below hb hlt).trans h3⟩
theorem RowK.on {ik : IntKind} {w w' : World} {s : Value} {l : List Col} (h : RowK ik w s l) (hb : Below w.heap.size w w') : RowK ik w' s l := by
  obtain h | h | ⟨b, o, c, rfl, hlt, hp⟩ := h
  · exact .inl h
  · exact .inr (.inl h)
  · exact .inr (.inr ⟨b, o, c, rfl, Nat.lt_of_lt_of_le hlt hb.size, fun i p hi => (hp i p hi).on hb hlt⟩)
theorem RowK.shape {ik : IntKind} {w : World} {v : Value} {l : List Col} (h : RowK ik w v l) : ∃ ao c, v = .slice ao l.length c := by
  obtain ⟨rfl, rfl⟩ | ⟨a, c, rfl, rfl⟩ | ⟨b, o, c, rfl, _⟩ := h
  · exact ⟨none, 0, rfl⟩
  · exact ⟨_, _, rfl⟩
  · exact ⟨_, _, rfl⟩
theorem RowK.addr {ik : IntKind} {w : World} {ao : Option Addr} {n c : Nat} {l : List Col} (h : RowK ik w (.slice ao n c) l) (h0 : 0 < l.length) : ∃ b o, ao = some ⟨b, o, none⟩ ∧ b < w.heap.size ∧ ∀ i p, l[i]? = some p → ColAt ik w b (o + i * 4) p := by
  obtain ⟨_, rfl⟩ | ⟨_, _, _, rfl⟩ | ⟨b, o, c', e, h1, h2⟩ := h
  · simp at h0
  · simp at h0
  · cases e; exact ⟨b, o, rfl, h1, h2⟩
/-- A row of colours of the call's own. -/
def OwnK (ik : IntKind) (w : World) (base : Nat) (t : TypeId) (v : Value) (l : List Col) : Prop := w.ownsRow base t 4 v l.length (flatK ik l)
theorem OwnK.nil (ik : IntKind) (w : World) (base : Nat) (t : TypeId) : OwnK ik w base t (.slice none 0 0) [] := World.ownsRow_nil _ _ _ _
theorem OwnK.row {ik : IntKind} {w : World} {base : Nat} {t : TypeId} {v : Value} {l : List Col} (h : OwnK ik w base t v l) : RowK ik w v l := by
  have hr := h
  obtain ⟨_, ⟨rfl, hn⟩ | ⟨g, cap, cur, rfl, _, hg, hc, _, hs, ht⟩⟩ := h
  · exact .inl ⟨rfl, List.eq_nil_of_length_eq_zero hn⟩
  · refine .inr (.inr ⟨g, 0, cap, rfl, (Array.getElem?_eq_some_iff.1 hg).1, fun i p hp => ?_⟩)
    obtain ⟨e0, e1, e2, e3⟩ := flatK_at ik l i p hp
    have key := fun j u hj => World.ownsRow.cells hr (g := g) rfl j u hj
    have k0 := key _ _ e0
    have k1 := key _ _ e1
    have k2 := key _ _ e2
    have k3 := key _ _ e3
    rw [Addr.add_lit] at k0 k1 k2 k3
    rw [← Nat.add_assoc] at k1 k2 k3
    exact ⟨k0, k1, k2, k3⟩
theorem OwnK.keep {ik : IntKind} {w w' : World} {S : Nat → Prop} {base : Nat} {t : TypeId} {v : Value} {l : List Col} (h : OwnK ik w base t v l) (hk : Keep S w w') (hS : ∀ k, v.ownBlock = some k → S k) : OwnK ik w' base t v l := owns_keep h hk hS
theorem OwnK.grow {ik : IntKind} {w w' : World} {base : Nat} {t : TypeId} {v : Value} {l : List Col} (h : OwnK ik w base t v l) (hb : Below w.heap.size w w') : OwnK ik w' base t v l := owns_keep h (Keep.of_below (S := fun _ => True) hb) (fun _ _ => trivial)
theorem OwnK.base {ik : IntKind} {w : World} {m n : Nat} {t : TypeId} {v : Value} {l : List Col} (h : OwnK ik w m t v l) (hmn : n ≤ m) : OwnK ik w n t v l := owns_base h hmn
theorem OwnK.shape {ik : IntKind} {w : World} {base : Nat} {t : TypeId} {v : Value} {l : List Col} (h : OwnK ik w base t v l) : ∃ a c, v = .slice a l.length c := h.row.shape
theorem infoC64 : (Try.prog.info? 43).map (fun i => (i.zero, i.size, i.bytes)) = some (some (.agg #[.int .i64 0, .int .i64 0, .int .i64 0, .int .i64 0]), 4, 32) := by kernel_rfl
theorem infoC8 : (Try.prog.info? 28).map (fun i => (i.zero, i.size, i.bytes)) = some (some (.agg #[.int .u8 0, .int .u8 0, .int .u8 0, .int .u8 0]), 4, 4) := by kernel_rfl
theorem one_news {ik : IntKind} {w : World} {q : Nat} {c : Col} (h : ColAt ik w q 0 c) : ∀ j u, (flatK ik [c])[j]? = some u → w.cell? ((⟨q, 0, none⟩ : Addr).add j) = some u := fun j u hu => by
  obtain ⟨h0, h1, h2, h3⟩ := h
  unfold flatK flatK at hu
  rw [Addr.add_lit, Nat.zero_add]
  match j, hu with
  | 0, hu => simp at hu; subst hu; exact h0
  | 1, hu => simp at hu; subst hu; exact h1
  | 2, hu => simp at hu; subst hu; exact h2
  | 3, hu => simp at hu; subst hu; exact h3
theorem wp_app_c64 {o : Oper} {a : Act} {w : World} {K : Act → World → Prop} {Q : Exit → Act → World → Prop} (s x : Operand) (t T : TypeId)
    (ho : o.op = .call { callee := .builtin .append, args := #[s, x], argTypes := #[t, t] }) (ht : Try.prog.underlying t = some (.slice T)) (hT : (Try.prog.info? T).map (fun i => (i.zero, i.size, i.bytes)) = some (some (.agg #[.int .i64 0, .int .i64 0, .int .i64 0, .int .i64 0]), 4, 32))
    (base : Nat) (v : Value) (X : List Col) (c : Col) (hs : a.eval s = v) (hown : OwnK .i64 w base T v X) (q : Nat) (hxe : a.eval x = .slice (some ⟨q, 0, none⟩) 1 1) (hx : ColAt .i64 w q 0 c) (hl : X.length + 1 ≤ 100000) (hbase : base ≤ w.heap.size)
    (h : ∀ v' w', OwnK .i64 w' base T v' (X ++ [c]) → w.grownBy w' v.ownBlock → Moved w v v' → K (a.put o.dst v') w') : o.wp Try.prog a w K Q := by
  obtain ⟨v', w', hr, h2, h3, h4⟩ := run_append_c64 w t o.type T ht hT base v X.length (flatK .i64 X) hown ⟨q, 0, none⟩ 1 1 (flatK .i64 [c]) rfl (one_news hx) (flatK_one _ _) hl hbase
  unfold Oper.wp
  simp [execOp, ho, resolve, invoke, builtin, hs, hxe, hr, Result.andThen]
  exact h v' w' (by unfold OwnK; rw [List.length_append, flatK_append]; exact h2) h3 h4
theorem wpList_app_c64 {w : World} {ops : Array Oper} {rest : List Oper} {o : Oper} {a : Act} {Q : Exit → Act → World → Prop} (hgd : o.guard = none) (s x : Operand) (t T : TypeId)
    (ho : o.op = .call { callee := .builtin .append, args := #[s, x], argTypes := #[t, t] }) (ht : Try.prog.underlying t = some (.slice T)) (hT : (Try.prog.info? T).map (fun i => (i.zero, i.size, i.bytes)) = some (some (.agg #[.int .i64 0, .int .i64 0, .int .i64 0, .int .i64 0]), 4, 32))
    (base : Nat) (v : Value) (X : List Col) (c : Col) (hs : a.eval s = v) (hown : OwnK .i64 w base T v X) (q : Nat) (hxe : a.eval x = .slice (some ⟨q, 0, none⟩) 1 1) (hx : ColAt .i64 w q 0 c) (hl : X.length + 1 ≤ 100000) (hbase : base ≤ w.heap.size)
    (h : ∀ v' w', OwnK .i64 w' base T v' (X ++ [c]) → w.grownBy w' v.ownBlock → Moved w v v' → wpList Try.prog ops Q rest (a.put o.dst v') w') : wpList Try.prog ops Q (o :: rest) a w := by
  refine wpList_plain hgd fun K hK => ?_
  obtain ⟨v', w', hr, h2, h3, h4⟩ := run_append_c64 w t o.type T ht hT base v X.length (flatK .i64 X) hown ⟨q, 0, none⟩ 1 1 (flatK .i64 [c]) rfl (one_news hx) (flatK_one _ _) hl hbase
  unfold Oper.wp
  simp [execOp, ho, resolve, invoke, builtin, hs, hxe, hr, Result.andThen]
  exact hK _ _ (h v' w' (by unfold OwnK; rw [List.length_append, flatK_append]; exact h2) h3 h4)
theorem wp_app_c8 {o : Oper} {a : Act} {w : World} {K : Act → World → Prop} {Q : Exit → Act → World → Prop} (s x : Operand) (t T : TypeId)
    (ho : o.op = .call { callee := .builtin .append, args := #[s, x], argTypes := #[t, t] }) (ht : Try.prog.underlying t = some (.slice T)) (hT : (Try.prog.info? T).map (fun i => (i.zero, i.size, i.bytes)) = some (some (.agg #[.int .u8 0, .int .u8 0, .int .u8 0, .int .u8 0]), 4, 4))
    (base : Nat) (v : Value) (X : List Col) (c : Col) (hs : a.eval s = v) (hown : OwnK .u8 w base T v X) (q : Nat) (hxe : a.eval x = .slice (some ⟨q, 0, none⟩) 1 1) (hx : ColAt .u8 w q 0 c) (hl : X.length + 1 ≤ 100000) (hbase : base ≤ w.heap.size)
    (h : ∀ v' w', OwnK .u8 w' base T v' (X ++ [c]) → w.grownBy w' v.ownBlock → Moved w v v' → K (a.put o.dst v') w') : o.wp Try.prog a w K Q := by
  obtain ⟨v', w', hr, h2, h3, h4⟩ := run_append_c8 w t o.type T ht hT base v X.length (flatK .u8 X) hown ⟨q, 0, none⟩ 1 1 (flatK .u8 [c]) rfl (one_news hx) (flatK_one _ _) hl hbase
  unfold Oper.wp
  simp [execOp, ho, resolve, invoke, builtin, hs, hxe, hr, Result.andThen]
  exact h v' w' (by unfold OwnK; rw [List.length_append, flatK_append]; exact h2) h3 h4
theorem wpList_app_c8 {w : World} {ops : Array Oper} {rest : List Oper} {o : Oper} {a : Act} {Q : Exit → Act → World → Prop} (hgd : o.guard = none) (s x : Operand) (t T : TypeId)
    (ho : o.op = .call { callee := .builtin .append, args := #[s, x], argTypes := #[t, t] }) (ht : Try.prog.underlying t = some (.slice T)) (hT : (Try.prog.info? T).map (fun i => (i.zero, i.size, i.bytes)) = some (some (.agg #[.int .u8 0, .int .u8 0, .int .u8 0, .int .u8 0]), 4, 4))
    (base : Nat) (v : Value) (X : List Col) (c : Col) (hs : a.eval s = v) (hown : OwnK .u8 w base T v X) (q : Nat) (hxe : a.eval x = .slice (some ⟨q, 0, none⟩) 1 1) (hx : ColAt .u8 w q 0 c) (hl : X.length + 1 ≤ 100000) (hbase : base ≤ w.heap.size)
    (h : ∀ v' w', OwnK .u8 w' base T v' (X ++ [c]) → w.grownBy w' v.ownBlock → Moved w v v' → wpList Try.prog ops Q rest (a.put o.dst v') w') : wpList Try.prog ops Q (o :: rest) a w := by
  refine wpList_plain hgd fun K hK => ?_
  obtain ⟨v', w', hr, h2, h3, h4⟩ := run_append_c8 w t o.type T ht hT base v X.length (flatK .u8 X) hown ⟨q, 0, none⟩ 1 1 (flatK .u8 [c]) rfl (one_news hx) (flatK_one _ _) hl hbase
  unfold Oper.wp
  simp [execOp, ho, resolve, invoke, builtin, hs, hxe, hr, Result.andThen]
  exact hK _ _ (h v' w' (by unfold OwnK; rw [List.length_append, flatK_append]; exact h2) h3 h4)
end Go.Proofs.Ytoppmlfibllhlaa

