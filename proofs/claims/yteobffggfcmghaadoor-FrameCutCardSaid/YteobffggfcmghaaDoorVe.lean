/- Layer 13: rows of records: appended to; what is in them. -/
import Derived.Test.YteobffggfcmghaaDoorVa
import Derived.Test.YteobffggfcmghaaDoorSg
namespace Go.Proofs.YteobffggfcmghaaDoor
open Go.RowKit
/-- A record: its number, its kind, its data's value, its data. -/
abbrev Rcd := Int × Int × Value × List Int
def flatR : List Rcd → List Value
  | [] => []
  | r :: X => .int .i64 r.1 :: .int .i64 r.2.1 :: r.2.2.1 :: flatR X
theorem flatR_append : ∀ (X Y : List Rcd), flatR (X ++ Y) = flatR X ++ flatR Y
  | [], _ => rfl
  | r :: X, Y => by rw [List.cons_append, flatR, flatR_append X Y]; rfl
theorem flatR_len : ∀ (X : List Rcd), (flatR X).length = X.length * 3
  | [] => rfl
  | r :: X => by rw [flatR, List.length_cons, List.length_cons, List.length_cons, flatR_len X, List.length_cons]; omega
theorem flatR_at : ∀ {X : List Rcd} {i : Nat} {r : Rcd}, X[i]? = some r → (flatR X)[i * 3]? = some (.int .i64 r.1) ∧ (flatR X)[i * 3 + 1]? = some (.int .i64 r.2.1) ∧ (flatR X)[i * 3 + 2]? = some r.2.2.1
  | [], _, _, h => by cases h
  | x :: X, 0, r, h => by cases h; exact ⟨rfl, rfl, rfl⟩
  | x :: X, i + 1, r, h => by
    have ih := flatR_at (X := X) (i := i) h
    rw [show (i + 1) * 3 = i * 3 + 1 + 1 + 1 by omega]
    exact ih
/-- A row of records of the call's own, each with data of its own. -/
def OwnR (w : World) (base : Nat) (t : TypeId) (v : Value) (X : List Rcd) : Prop := w.ownsRow base t 3 v X.length (flatR X) ∧ ∀ r ∈ X, OwnB w base r.2.2.1 r.2.2.2
theorem OwnR.nil (w : World) (base : Nat) (t : TypeId) : OwnR w base t (.slice none 0 0) [] := ⟨World.ownsRow_nil _ _ _ _, fun _ h => by cases h⟩
theorem OwnR.keep {S : Nat → Prop} {w w' : World} {base : Nat} {t : TypeId} {v : Value} {X : List Rcd} (h : OwnR w base t v X) (hk : Keep S w w') (hS : ∀ k, base ≤ k → S k) : OwnR w' base t v X :=
  ⟨owns_keep h.1 hk fun k e => hS k (World.ownsRow.lt h.1 k e).1, fun r hr => owns_keep (h.2 r hr) hk fun k e => hS k ((h.2 r hr).lt k e).1⟩
theorem OwnR.grow {w w' : World} {base : Nat} {t : TypeId} {v : Value} {X : List Rcd} (h : OwnR w base t v X) (hb : Below w.heap.size w w') : OwnR w' base t v X := h.keep (S := fun _ => True) (Keep.of_below hb) fun _ _ => trivial
theorem OwnR.shape {w : World} {base : Nat} {t : TypeId} {v : Value} {X : List Rcd} (h : OwnR w base t v X) : ∃ a c, v = .slice a X.length c := by
  obtain ⟨⟨_, ⟨rfl, h0⟩ | ⟨g, cap, cur, rfl, _⟩⟩, _⟩ := h
  · exact ⟨none, 0, by rw [h0]⟩
  · exact ⟨_, _, rfl⟩
theorem OwnR.at {w : World} {base : Nat} {t : TypeId} {a : Option Addr} {n c : Nat} {X : List Rcd} (h : OwnR w base t (.slice a n c) X) {i : Nat} {r : Rcd} (hr : X[i]? = some r) : ∃ g, a = some ⟨g, 0, none⟩ ∧ g < w.heap.size ∧ w.cell? ⟨g, i * 3, none⟩ = some (.int .i64 r.1) ∧ w.cell? ⟨g, i * 3 + 1, none⟩ = some (.int .i64 r.2.1) ∧ w.cell? ⟨g, i * 3 + 2, none⟩ = some r.2.2.1 := by
  have ho := h.1
  obtain ⟨⟨_, ⟨e, h0⟩ | ⟨g, cap, cur, e, _, hg, _⟩⟩, _⟩ := h
  · have := (List.getElem?_eq_some_iff.1 hr).1; omega
  · cases e
    obtain ⟨k0, k1, k2⟩ := flatR_at hr
    have f := fun j u (hj : (flatR X)[j]? = some u) => World.ownsRow.cells ho (g := g) rfl j u hj
    have e : ∀ j, (⟨g, 0, none⟩ : Addr).add j = ⟨g, j, none⟩ := fun j => by rw [Addr.add_lit, Nat.zero_add]
    refine ⟨g, rfl, (Array.getElem?_eq_some_iff.1 hg).1, ?_, ?_, ?_⟩
    · rw [← e]; exact f _ _ k0
    · rw [← e]; exact f _ _ k1
    · rw [← e]; exact f _ _ k2
theorem infoRec : (Tryd.prog.info? 29).map (fun i => (i.zero, i.size, i.bytes)) = some (some (.agg #[.int .i64 0, .int .i64 0, .slice none 0 0]), 3, 40) := by kernel_rfl
theorem infoRef : (Tryd.prog.info? 42).map (fun i => (i.zero, i.size, i.bytes)) = some (some (.agg #[.int .i64 0, .int .i64 0, .slice none 0 0]), 3, 40) := by kernel_rfl
theorem run_append_rec (w : World) (t ty T : TypeId) (ht : Tryd.prog.underlying t = some (.slice T)) (hT : (Tryd.prog.info? T).map (fun i => (i.zero, i.size, i.bytes)) = some (some (.agg #[.int .i64 0, .int .i64 0, .slice none 0 0]), 3, 40))
    (base : Nat) (v : Value) (m : Nat) (xs : List Value) (hown : w.ownsRow base T 3 v m xs) (ad : Addr) (k : Nat) (c : Nat) (news : List Value) (hk : news.length = k * 3) (hx : ∀ j u, news[j]? = some u → w.cell? (ad.add j) = some u) (h1 : ∀ u ∈ news, u.oneCell' = true) (hl : m + k ≤ 100000) (hbase : base ≤ w.heap.size) :
    ∃ v' w', (Builtin.append_ #[t, t] ty #[v, .slice (some ad) k c]).run Tryd.prog w = .ok v' w' ∧ w'.ownsRow base T 3 v' (m + k) (xs ++ news) ∧ w.grownBy w' v.ownBlock ∧ Moved w v v' := by
  obtain ⟨i, hi, hz0, hz1, hz2⟩ := info_parts hT
  have hn : news.length = k * 3 := hk
  have key : ∀ b, w.ownsRow b T 3 v m xs → b ≤ w.heap.size → _ := fun b ho hb => run_append_own (P := Tryd.prog) w b t ty T i (.agg #[.int .i64 0, .int .i64 0, .slice none 0 0]) 3 40 ht hi hz0 hz1 hz2 rfl (by decide) v m xs ho ad k c news hn hx h1 (by unfold maxLen; omega) (by omega) hb
  obtain ⟨v', w', hr, ho, hg, _⟩ := key base hown hbase
  refine ⟨v', w', hr, ho, hg, ?_⟩
  have hlen := hown.1
  rcases hown.2 with ⟨rfl, h0⟩ | ⟨g, cap, cur, rfl, hb, hgg, hc, hm, hs, htk⟩
  · subst h0
    have hxs : xs = [] := List.eq_nil_of_length_eq_zero (by omega)
    subst hxs
    obtain ⟨v2, w2, hr2, ho2, _, _⟩ := key w.heap.size (World.ownsRow_nil _ _ _ _) (Nat.le_refl _)
    obtain ⟨rfl, rfl⟩ := ok_inj hr hr2
    cases hv : v'.ownBlock with
    | none => exact .inl hv
    | some q => exact .inr ⟨q, hv, (ho2.lt q hv).1⟩
  · by_cases hroom : m + k ≤ cap
    · obtain ⟨w2, hr2, _⟩ := run_append_fits (P := Tryd.prog) w base t ty T i 3 ht hi hz1 g m cap xs hown ad k c news hn hx h1 hroom
      obtain ⟨rfl, _⟩ := ok_inj hr hr2
      exact .inl rfl
    · have hr2 := run_append_grow (P := Tryd.prog) w t ty T i _ ht hi hz0 ⟨g, 0, none⟩ m cap xs (by rw [hlen, hz1]) (fun j u hj => by have := hown.cells (g := g) rfl j u hj; exact this) ad k c news (by rw [hn, hz1]) hx (by omega) (by omega) (by rw [hz2]; exact growslice_fits (by omega) (by omega))
      obtain ⟨rfl, _⟩ := ok_inj hr hr2
      exact .inr ⟨_, rfl, Nat.le_refl _⟩
/-- What a row of records is, once one was appended. -/
theorem OwnR.app {w w' : World} {base : Nat} {t : TypeId} {v v' : Value} {X : List Rcd} {r : Rcd} (h : OwnR w base t v X) (hr : OwnB w base r.2.2.1 r.2.2.2) (ht : t ≠ 5) (ho : w'.ownsRow base t 3 v' (X.length + 1) (flatR X ++ flatR [r])) (hg : w.grownBy w' v.ownBlock) : OwnR w' base t v' (X ++ [r]) := by
  have hK := Keep.of_grown hg
  have off : ∀ {u : Value} {E : List Int}, OwnB w base u E → ∀ k, u.ownBlock = some k → v.ownBlock ≠ some k := fun hu k e e2 =>
    (apart_types hu h.1 (Ne.symm ht)).elim (fun q => by rw [e] at q; cases q) (fun q => q (by rw [e, e2]))
  refine ⟨by rw [List.length_append, flatR_append]; exact ho, fun x hx => ?_⟩
  rcases List.mem_append.1 hx with hx | hx
  · exact owns_keep (h.2 x hx) hK fun k e => off (h.2 x hx) k e
  · rw [List.mem_singleton] at hx
    subst hx
    exact owns_keep hr hK fun k e => off hr k e
theorem news_rec {w : World} {q : Nat} {r : Rcd} (hx : w.cell? ⟨q, 0, none⟩ = some (.int .i64 r.1) ∧ w.cell? ⟨q, 1, none⟩ = some (.int .i64 r.2.1) ∧ w.cell? ⟨q, 2, none⟩ = some r.2.2.1) : ∀ j u, (flatR [r])[j]? = some u → w.cell? ((⟨q, 0, none⟩ : Addr).add j) = some u := fun j u hj => by
  rw [Addr.add_lit, Nat.zero_add]
  match j, hj with
  | 0, hj => obtain rfl := Option.some.inj hj; exact hx.1
  | 1, hj => obtain rfl := Option.some.inj hj; exact hx.2.1
  | 2, hj => obtain rfl := Option.some.inj hj; exact hx.2.2
  | j + 3, hj => simp [flatR] at hj
theorem one_rec {r : Rcd} (h1 : r.2.2.1.oneCell' = true) : ∀ u ∈ flatR [r], u.oneCell' = true := fun u hu => by
  simp only [flatR, List.mem_cons, List.not_mem_nil, or_false] at hu
  rcases hu with rfl | rfl | rfl
  · rfl
  · rfl
  · exact h1
theorem wpList_append_rec {w : World} {ops : Array Oper} {rest : List Oper} {o : Oper} {a : Act} {Q : Exit → Act → World → Prop} (hgd : o.guard = none) (s x : Operand) (t T : TypeId)
    (ho : o.op = .call { callee := .builtin .append, args := #[s, x], argTypes := #[t, t] }) (ht : Tryd.prog.underlying t = some (.slice T)) (hT : (Tryd.prog.info? T).map (fun i => (i.zero, i.size, i.bytes)) = some (some (.agg #[.int .i64 0, .int .i64 0, .slice none 0 0]), 3, 40)) (hne : T ≠ 5)
    (base : Nat) (v : Value) (X : List Rcd) (r : Rcd) (hs : a.eval s = v) (hown : OwnR w base T v X) (q : Nat) (hxe : a.eval x = .slice (some ⟨q, 0, none⟩) 1 1) (hx : w.cell? ⟨q, 0, none⟩ = some (.int .i64 r.1) ∧ w.cell? ⟨q, 1, none⟩ = some (.int .i64 r.2.1) ∧ w.cell? ⟨q, 2, none⟩ = some r.2.2.1) (h1 : r.2.2.1.oneCell' = true) (hr : OwnB w base r.2.2.1 r.2.2.2) (hl : X.length + 1 ≤ 100000) (hbase : base ≤ w.heap.size)
    (h : ∀ v' w', OwnR w' base T v' (X ++ [r]) → w.grownBy w' v.ownBlock → wpList Tryd.prog ops Q rest (a.put o.dst v') w') : wpList Tryd.prog ops Q (o :: rest) a w := by
  refine wpList_plain hgd fun K hK => ?_
  obtain ⟨v', w', hr2, h2, h3, h4⟩ := run_append_rec w t o.type T ht hT base v X.length (flatR X) hown.1 ⟨q, 0, none⟩ 1 1 (flatR [r]) rfl (news_rec hx) (one_rec h1) hl hbase
  have key := hK _ _ (h v' w' (hown.app hr hne h2 h3) h3)
  unfold Oper.wp
  simp [execOp, ho, resolve, invoke, builtin, hs, hxe, hr2, Result.andThen]
  exact key
theorem wp_append_rec {o : Oper} {a : Act} {w : World} {K : Act → World → Prop} {Q : Exit → Act → World → Prop} (s x : Operand) (t T : TypeId)
    (ho : o.op = .call { callee := .builtin .append, args := #[s, x], argTypes := #[t, t] }) (ht : Tryd.prog.underlying t = some (.slice T)) (hT : (Tryd.prog.info? T).map (fun i => (i.zero, i.size, i.bytes)) = some (some (.agg #[.int .i64 0, .int .i64 0, .slice none 0 0]), 3, 40)) (hne : T ≠ 5)
    (base : Nat) (v : Value) (X : List Rcd) (r : Rcd) (hs : a.eval s = v) (hown : OwnR w base T v X) (q : Nat) (hxe : a.eval x = .slice (some ⟨q, 0, none⟩) 1 1) (hx : w.cell? ⟨q, 0, none⟩ = some (.int .i64 r.1) ∧ w.cell? ⟨q, 1, none⟩ = some (.int .i64 r.2.1) ∧ w.cell? ⟨q, 2, none⟩ = some r.2.2.1) (h1 : r.2.2.1.oneCell' = true) (hr : OwnB w base r.2.2.1 r.2.2.2) (hl : X.length + 1 ≤ 100000) (hbase : base ≤ w.heap.size)
    (h : ∀ v' w', OwnR w' base T v' (X ++ [r]) → w.grownBy w' v.ownBlock → K (a.put o.dst v') w') : o.wp Tryd.prog a w K Q := by
  obtain ⟨v', w', hr2, h2, h3, h4⟩ := run_append_rec w t o.type T ht hT base v X.length (flatR X) hown.1 ⟨q, 0, none⟩ 1 1 (flatR [r]) rfl (news_rec hx) (one_rec h1) hl hbase
  unfold Oper.wp
  simp [execOp, ho, resolve, invoke, builtin, hs, hxe, hr2, Result.andThen]
  exact h v' w' (hown.app hr hne h2 h3) h3
end Go.Proofs.YteobffggfcmghaaDoor
