/- Layer 5: append, of points, whatever is appended; rows that lie apart. -/
import Derived.Test.YtffgpikhahpomaaDoorR
import Derived.Laws.AppendOwnNone
namespace Go.Proofs.YtffgpikhahpomaaDoor
open Go.RowKit
/-- The new row lies where the old one lay, or in new memory. -/
def Moved (w : World) (v v' : Value) : Prop := v'.ownBlock = v.ownBlock ∨ ∃ k, v'.ownBlock = some k ∧ w.heap.size ≤ k
theorem news_at {w : World} {b o : Nat} {l : List Pt} (h : PtsAt w b o l) : ∀ j u, (flatL l)[j]? = some u → w.cell? ((⟨b, o, none⟩ : Addr).add j) = some u := cells_src h
theorem ok_inj {α : Type} {a b : α} {w w' : World} {r : Result α} (h : r = .ok a w) (k : r = .ok b w') : a = b ∧ w = w' := by
  rw [h] at k; simpa using k
theorem run_append_pts (w : World) (t ty T : TypeId) (ht : Tryd.prog.underlying t = some (.slice T)) (hT : (Tryd.prog.info? T).map (fun i => (i.zero, i.size, i.bytes)) = some (some (.agg (two (0, 0))), 2, 16))
    (base : Nat) (v : Value) (X : List Pt) (hown : Own w base T v X) (u : Value) (Y : List Pt) (row : Row w u Y) (hl : X.length + Y.length ≤ 100000) (hbase : base ≤ w.heap.size) :
    ∃ v' w', (Builtin.append_ #[t, t] ty #[v, u]).run Tryd.prog w = .ok v' w' ∧ Own w' base T v' (X ++ Y) ∧ w.grownBy w' v.ownBlock ∧ Moved w v v' := by
  obtain ⟨i, hi, hz0, hz1, hz2⟩ := info_parts hT
  have some_case : ∀ (ad : Addr) (c : Nat), (∀ j u, (flatL Y)[j]? = some u → w.cell? (ad.add j) = some u) → u = .slice (some ad) Y.length c →
      ∃ v' w', (Builtin.append_ #[t, t] ty #[v, u]).run Tryd.prog w = .ok v' w' ∧ Own w' base T v' (X ++ Y) ∧ w.grownBy w' v.ownBlock ∧ Moved w v v' := by
    intro ad c hn hu
    subst hu
    have key : ∀ b, w.ownsRow b T 2 v X.length (flatL X) → b ≤ w.heap.size → _ := fun b ho hb => run_append_own (P := Tryd.prog) w b t ty T i (.agg (two (0, 0))) 2 16 ht hi hz0 hz1 hz2 rfl (by decide) v X.length (flatL X) ho ad Y.length c (flatL Y) (flatL_length Y) hn (flatL_one Y) (by unfold maxLen; omega) (by omega) hb
    obtain ⟨v', w', hr, ho, hg, _⟩ := key base hown hbase
    refine ⟨v', w', hr, by unfold Own; rw [List.length_append, flatL_append]; exact ho, hg, ?_⟩
    rcases hown.2 with ⟨rfl, h0⟩ | ⟨g, cap, cur, rfl, hb, hgg, hc, hm, hs, htk⟩
    · have hX : X = [] := List.eq_nil_of_length_eq_zero h0
      subst hX
      obtain ⟨v2, w2, hr2, ho2, _, _⟩ := key w.heap.size (World.ownsRow_nil _ _ _ _) (Nat.le_refl _)
      obtain ⟨rfl, rfl⟩ := ok_inj hr hr2
      cases hv : v'.ownBlock with
      | none => exact .inl hv
      | some k => exact .inr ⟨k, hv, (ho2.lt k hv).1⟩
    · by_cases hroom : X.length + Y.length ≤ cap
      · obtain ⟨w2, hr2, _⟩ := run_append_fits (P := Tryd.prog) w base t ty T i 2 ht hi hz1 g X.length cap (flatL X) hown ad Y.length c (flatL Y) (flatL_length Y) hn (flatL_one Y) hroom
        obtain ⟨rfl, _⟩ := ok_inj hr hr2
        exact .inl rfl
      · have hr2 := run_append_grow (P := Tryd.prog) w t ty T i _ ht hi hz0 ⟨g, 0, none⟩ X.length cap (flatL X) (by rw [flatL_length, hz1]) (fun j u hj => by have := hown.cells (g := g) rfl j u hj; exact this) ad Y.length c (flatL Y) (by rw [flatL_length, hz1]) hn (by omega) (by omega) (by rw [hz2]; exact growslice_fits (by omega) (by omega))
        obtain ⟨rfl, _⟩ := ok_inj hr hr2
        exact .inr ⟨_, rfl, Nat.le_refl _⟩
  rcases row with ⟨rfl, rfl⟩ | ⟨a, c, rfl, rfl⟩ | ⟨b, o, c, rfl, hb, hp⟩
  · refine ⟨v, w, run_append_owned_none (P := Tryd.prog) (w := w) base t ty T i 2 ht hi v X.length (flatL X) hown, by rw [List.append_nil]; exact hown, ⟨rfl, rfl, rfl, Nat.le_refl _, fun _ _ _ => rfl⟩, .inl rfl⟩
  · exact some_case a c (fun j u hj => by simp [flatL] at hj) rfl
  · exact some_case ⟨b, o, none⟩ c (news_at hp) rfl
theorem wpList_append_pts {w : World} {ops : Array Oper} {rest : List Oper} {o : Oper} {a : Act} {Q : Exit → Act → World → Prop} (hgd : o.guard = none) (s x : Operand) (t T : TypeId)
    (ho : o.op = .call { callee := .builtin .append, args := #[s, x], argTypes := #[t, t] }) (ht : Tryd.prog.underlying t = some (.slice T)) (hT : (Tryd.prog.info? T).map (fun i => (i.zero, i.size, i.bytes)) = some (some (.agg (two (0, 0))), 2, 16))
    (base : Nat) (v : Value) (X : List Pt) (hs : a.eval s = v) (hown : Own w base T v X) (u : Value) (Y : List Pt) (hx : a.eval x = u) (row : Row w u Y) (hl : X.length + Y.length ≤ 100000) (hbase : base ≤ w.heap.size)
    (h : ∀ v' w', Own w' base T v' (X ++ Y) → w.grownBy w' v.ownBlock → Moved w v v' → wpList Tryd.prog ops Q rest (a.put o.dst v') w') : wpList Tryd.prog ops Q (o :: rest) a w := by
  refine wpList_plain hgd fun K hK => ?_
  obtain ⟨v', w', hr, h1, h2, h3⟩ := run_append_pts w t o.type T ht hT base v X hown u Y row hl hbase
  unfold Oper.wp
  simp [execOp, ho, resolve, invoke, builtin, hs, hx, hr, Result.andThen]
  exact hK _ _ (h v' w' h1 h2 h3)
/-- Two slices that have no block in common. -/
def Apart (u v : Value) : Prop := u.ownBlock = none ∨ u.ownBlock ≠ v.ownBlock
theorem Apart.nil (v : Value) : Apart (.slice none 0 0) v := .inl rfl
theorem Apart.symm {u v : Value} (h : Apart u v) : Apart v u := by
  unfold Apart at *
  cases hv : v.ownBlock with
  | none => exact .inl rfl
  | some k =>
    rw [hv] at h
    rcases h with h | h
    · right; rw [h]; simp
    · right; exact fun e => h e.symm
/-- What was there ahead is apart from what moved into new memory. -/
theorem Apart.moved {w : World} {u v v' : Value} (h : Apart u v) (hu : ∀ k, u.ownBlock = some k → k < w.heap.size) (hm : Moved w v v') : Apart u v' := by
  rcases hm with e | ⟨k, e, hk⟩
  · unfold Apart at *; rw [e]; exact h
  · cases hq : u.ownBlock with
    | none => exact .inl hq
    | some j => right; rw [hq, e]; intro e2; simp at e2; have := hu j hq; omega
theorem Row.lt {w : World} {s : Value} {l : List Pt} (h : Row w s l) (hl : l ≠ []) : ∀ k, s.ownBlock = some k → k < w.heap.size := by
  intro k hk
  rcases h with ⟨rfl, _⟩ | ⟨a, c, rfl, e⟩ | ⟨b, o, c, rfl, hb, _⟩
  · simp [Value.ownBlock] at hk
  · exact absurd e hl
  · simp [Value.ownBlock] at hk; subst hk; exact hb
theorem Row.kept {w w' : World} {row : Option Nat} {s : Value} {l : List Pt} (h : Row w s l) (hg : w.grownBy w' row) (hne : s.ownBlock = none ∨ s.ownBlock ≠ row) : Row w' s l := by
  rcases h with h | h | ⟨b, o, c, rfl, hb, hp⟩
  · exact .inl h
  · exact .inr (.inl h)
  · refine .inr (.inr ⟨b, o, c, rfl, Nat.lt_of_lt_of_le hb hg.size, fun i p hi => ?_⟩)
    have e : w'.heap[b]? = w.heap[b]? := hg.block b hb (by rcases hne with h | h <;> simp [Value.ownBlock] at h; exact h)
    have := hp i p hi
    unfold World.cell? at this ⊢
    simp only at this ⊢
    rw [e]; exact this
theorem Own.kept {w w' : World} {v u : Value} (g : w.grownBy w' v.ownBlock) {base' : Nat} {t : TypeId} {l : List Pt} (hk : Own w base' t u l) (hne : Apart u v) : Own w' base' t u l := World.ownsRow.kept hk g hne
theorem Own.lt {w : World} {base : Nat} {t : TypeId} {v : Value} {l : List Pt} (h : Own w base t v l) : ∀ k, v.ownBlock = some k → base ≤ k ∧ k < w.heap.size := World.ownsRow.lt h
/-- A row just made, of a literal. -/
theorem Own.made (w : World) {base : Nat} (hb : base ≤ w.heap.size) (t : TypeId) (l : List Pt) (cs : Array Value) (n : Nat) (hcs : cs = flat l) (hn : n = l.length) (hl : n ≤ maxLen) : Own (w.alloc (.cells cs t)) base t (.slice (some ⟨w.heap.size, 0, none⟩) n n) l := by
  subst hcs hn
  exact own_full (Blk.new w t _) hb rfl hl
end Go.Proofs.YtffgpikhahpomaaDoor

