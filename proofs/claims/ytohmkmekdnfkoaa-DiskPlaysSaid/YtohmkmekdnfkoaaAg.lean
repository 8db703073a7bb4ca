/- Layer 12: a write is appended to those that wait. -/
import Derived.Test.YtohmkmekdnfkoaaAf
namespace Go.Proofs.Ytohmkmekdnfkoaa
open Go.RowKit
theorem infoW : (Try.prog.info? 41).map (fun i => (i.zero, i.size, i.bytes)) = some (some (.agg #[.int .i64 0, .slice none 0 0]), 2, 32) := by kernel_rfl
theorem run_append_w (w : World) (t ty T : TypeId) (ht : Try.prog.underlying t = some (.slice T)) (hT : (Try.prog.info? T).map (fun i => (i.zero, i.size, i.bytes)) = some (some (.agg #[.int .i64 0, .slice none 0 0]), 2, 32))
    (base : Nat) (v : Value) (m : Nat) (xs : List Value) (hown : w.ownsRow base T 2 v m xs) (ad : Addr) (k : Nat) (c : Nat) (news : List Value) (hk : news.length = k * 2) (hx : ∀ j u, news[j]? = some u → w.cell? (ad.add j) = some u) (h1 : ∀ u ∈ news, u.oneCell' = true) (hl : m + k ≤ 100000) (hbase : base ≤ w.heap.size) :
    ∃ v' w', (Builtin.append_ #[t, t] ty #[v, .slice (some ad) k c]).run Try.prog w = .ok v' w' ∧ w'.ownsRow base T 2 v' (m + k) (xs ++ news) ∧ w.grownBy w' v.ownBlock ∧ Moved w v v' := by
  obtain ⟨i, hi, hz0, hz1, hz2⟩ := info_parts hT
  have hn : news.length = k * 2 := hk
  have key : ∀ b, w.ownsRow b T 2 v m xs → b ≤ w.heap.size → _ := fun b ho hb => run_append_own (P := Try.prog) w b t ty T i (.agg #[.int .i64 0, .slice none 0 0]) 2 32 ht hi hz0 hz1 hz2 rfl (by decide) v m xs ho ad k c news hn hx h1 (by unfold maxLen; omega) (by omega) hb
  obtain ⟨v', w', hr, ho, hg, _⟩ := key base hown hbase
  refine ⟨v', w', hr, ho, hg, ?_⟩
  have hlen := hown.1
  rcases hown.2 with ⟨rfl, h0⟩ | ⟨g, cap, cur, rfl, hb, hgg, hc, hm, hs, htk⟩
  · subst h0
    have hxs : xs = [] := List.eq_nil_of_length_eq_zero (by omega)
    subst hxs
    obtain ⟨v2, w2, hr2, ho2, _, _⟩ := key w.heap.size (World.ownsRow_nil _ _ _ _) (Nat.le_refl _)
    obtain ⟨rfl, rfl⟩ := ok_inj hr hr2
    cases hv : v'.ownBlock with
    | none => exact .inl hv
    | some q => exact .inr ⟨q, hv, (ho2.lt q hv).1⟩
  · by_cases hroom : m + k ≤ cap
    · obtain ⟨w2, hr2, _⟩ := run_append_fits (P := Try.prog) w base t ty T i 2 ht hi hz1 g m cap xs hown ad k c news hn hx h1 hroom
      obtain ⟨rfl, _⟩ := ok_inj hr hr2
      exact .inl rfl
    · have hr2 := run_append_grow (P := Try.prog) w t ty T i _ ht hi hz0 ⟨g, 0, none⟩ m cap xs (by rw [hlen, hz1]) (fun j u hj => by have := hown.cells (g := g) rfl j u hj; exact this) ad k c news (by rw [hn, hz1]) hx (by omega) (by omega) (by rw [hz2]; exact growslice_fits (by omega) (by omega))
      obtain ⟨rfl, _⟩ := ok_inj hr hr2
      exact .inr ⟨_, rfl, Nat.le_refl _⟩
theorem wp_append_w {o : Oper} {a : Act} {w : World} {K : Act → World → Prop} {Q : Exit → Act → World → Prop} (s x : Operand) (t : TypeId)
    (ho : o.op = .call { callee := .builtin .append, args := #[s, x], argTypes := #[t, t] }) (ht : Try.prog.underlying t = some (.slice 41))
    (v : Value) (X : List Wr) (c : Wr) (hs : a.eval s = v) (hown : OwnW w v X) (q : Nat) (hxe : a.eval x = .slice (some ⟨q, 0, none⟩) 1 1) (hx : w.cell? ⟨q, 0, none⟩ = some (.int .i64 c.1) ∧ w.cell? ⟨q, 1, none⟩ = some c.2.1) (h1 : c.2.1.oneCell' = true) (hl : X.length + 1 ≤ 100000)
    (h : ∀ v' w', OwnW w' v' (X ++ [c]) → w.grownBy w' v.ownBlock → Moved w v v' → K (a.put o.dst v') w') : o.wp Try.prog a w K Q := by
  obtain ⟨v', w', hr, h2, h3, h4⟩ := run_append_w w t o.type 41 ht infoW 0 v X.length (flatW X) hown ⟨q, 0, none⟩ 1 1 (flatW [c]) rfl (fun j u hj => by
    rw [Addr.add_lit, Nat.zero_add]
    match j, hj with
    | 0, hj => obtain rfl := Option.some.inj hj; exact hx.1
    | 1, hj => obtain rfl := Option.some.inj hj; exact hx.2
    | j + 2, hj => simp [flatW] at hj) (fun u hu => by
    simp only [flatW, List.mem_cons, List.not_mem_nil, or_false] at hu
    rcases hu with rfl | rfl
    · rfl
    · exact h1) hl (Nat.zero_le _)
  unfold Oper.wp
  simp [execOp, ho, resolve, invoke, builtin, hs, hxe, hr, Result.andThen]
  exact h v' w' (by unfold OwnW; rw [List.length_append, flatW_append]; exact h2) h3 h4
end Go.Proofs.Ytohmkmekdnfkoaa
