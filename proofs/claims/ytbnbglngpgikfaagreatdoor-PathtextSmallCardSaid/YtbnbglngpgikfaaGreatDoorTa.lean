/- Layer 7: rows of polygons in memory; what a trace holds; add; told. -/
import Derived.Test.YtbnbglngpgikfaaGreatDoorV
namespace Go.Proofs.YtbnbglngpgikfaaGreatDoor
open Go.RowKit
/-- The blocks of S are as they were. -/
structure Keep (S : Nat → Prop) (w w' : World) : Prop where
  os : w'.os = w.os
  tape : w'.tape = w.tape
  output : w'.output = w.output
  size : w.heap.size ≤ w'.heap.size
  block : ∀ k, S k → k < w.heap.size → w'.heap[k]? = w.heap[k]?
section
variable {S T : Nat → Prop} {w w' u : World}
theorem Keep.refl (S : Nat → Prop) (w : World) : Keep S w w := ⟨rfl, rfl, rfl, Nat.le_refl _, fun _ _ _ => rfl⟩
theorem Keep.trans (h : Keep S w w') (k : Keep S w' u) : Keep S w u :=
  ⟨k.os.trans h.os, k.tape.trans h.tape, k.output.trans h.output, Nat.le_trans h.size k.size, fun i hi hl => (k.block i hi (Nat.lt_of_lt_of_le hl h.size)).trans (h.block i hi hl)⟩
theorem Keep.mono (h : Keep S w w') (hs : ∀ k, T k → S k) : Keep T w w' := ⟨h.os, h.tape, h.output, h.size, fun k hk => h.block k (hs k hk)⟩
theorem Keep.alloc (S : Nat → Prop) (w : World) (o : Obj) : Keep S w (w.alloc o) := ⟨rfl, rfl, rfl, by simp, fun k _ hl => Below.heap_alloc _ _ _ hl⟩
theorem Keep.setCell (w : World) (a : Addr) (v : Value) (h : ¬ S a.block) : Keep S w (w.setCell a v) := ⟨rfl, rfl, rfl, by simp [World.setCell], fun k hk _ => Below.heap_setCell _ _ _ _ (fun e => h (e ▸ hk))⟩
theorem Keep.drew (S : Nat → Prop) (w : World) : Keep S w w.drew := ⟨rfl, rfl, rfl, Nat.le_refl _, fun _ _ _ => rfl⟩
theorem Keep.below {B : Nat} (h : Keep S w w') (hs : ∀ k, k < B → S k) (hB : B ≤ w.heap.size) : Below B w w' := ⟨h.os, h.tape, h.output, h.size, fun k hk => h.block k (hs k hk) (by omega)⟩
theorem Keep.of_below (h : Below w.heap.size w w') : Keep S w w' := ⟨h.os, h.tape, h.output, h.size, fun k _ hl => h.block k hl⟩
theorem Keep.of_grown {r : Option Nat} (h : w.grownBy w' r) : Keep (fun j => r ≠ some j) w w' := ⟨h.os, h.tape, h.output, h.size, fun k hk hl => h.block k hl (fun e => hk e.symm)⟩
theorem Keep.blk (h : Keep S w w') {g : Nat} {t : TypeId} {cs : Array Value} (hk : Blk w g t cs) (hs : S g) : Blk w' g t cs := by
  unfold Blk; rw [h.block g hs hk.lt]; exact hk
end
theorem grownBy_set (W : World) (a : Addr) (v : Value) : W.grownBy (W.setCell a v) (some a.block) := ⟨rfl, rfl, rfl, by simp [World.setCell], fun k _ hk => Below.heap_setCell _ _ _ k (fun e => hk (by rw [e]))⟩
theorem owns_base {w : World} {base base' size n : Nat} {t : TypeId} {v : Value} {xs : List Value} (h : w.ownsRow base t size v n xs) (hb : base' ≤ base) : w.ownsRow base' t size v n xs := by
  unfold World.ownsRow at *
  obtain ⟨h1, h2 | ⟨g, cap, cur, e1, e2, h3⟩⟩ := h
  · exact ⟨h1, .inl h2⟩
  · exact ⟨h1, .inr ⟨g, cap, cur, e1, Nat.le_trans hb e2, h3⟩⟩
theorem owns_keep {w w' : World} {S : Nat → Prop} {base size n : Nat} {t : TypeId} {v : Value} {xs : List Value} (h : w.ownsRow base t size v n xs) (hk : Keep S w w') (hS : ∀ k, v.ownBlock = some k → S k) : w'.ownsRow base t size v n xs := by
  obtain ⟨h1, h2 | ⟨g, cap, cur, e1, e2, hg, e3⟩⟩ := h
  · exact ⟨h1, .inl h2⟩
  · subst e1
    exact ⟨h1, .inr ⟨g, cap, cur, rfl, e2, by rw [hk.block g (hS g rfl) (Array.getElem?_eq_some_iff.1 hg).1]; exact hg, e3⟩⟩
theorem own_shape' {W : World} {base : Nat} {t : TypeId} {v : Value} {L : List Pt} (h : Own W base t v L) : ∃ a n c, v = .slice a n c := by
  obtain ⟨_, ⟨rfl, _⟩ | ⟨g, cap, cur, rfl, _⟩⟩ := h <;> exact ⟨_, _, _, rfl⟩
theorem apart_types {w : World} {b b' s s' n n' : Nat} {t t' : TypeId} {u v : Value} {xs ys : List Value} (h : w.ownsRow b t s u n xs) (k : w.ownsRow b' t' s' v n' ys) (hne : t ≠ t') : Apart u v := by
  obtain ⟨_, ⟨rfl, _⟩ | ⟨g, cap, cur, rfl, _, hg, _⟩⟩ := h
  · exact .inl rfl
  · obtain ⟨_, ⟨rfl, _⟩ | ⟨g', cap', cur', rfl, _, hg', _⟩⟩ := k
    · right; simp [Value.ownBlock]
    · right
      intro e
      simp [Value.ownBlock] at e
      subst e
      rw [hg] at hg'
      simp at hg'
      exact hne hg'.2
/-- A row lies in no block of another type. -/
theorem owns_off {w : World} {b s n g : Nat} {t t' : TypeId} {u : Value} {xs : List Value} {cs : Array Value} (h : w.ownsRow b t s u n xs) (k : Blk w g t' cs) (hne : t ≠ t') : u.ownBlock ≠ some g := by
  obtain ⟨_, ⟨rfl, _⟩ | ⟨g', cap, cur, rfl, _, hg, _⟩⟩ := h
  · simp [Value.ownBlock]
  · intro e
    simp [Value.ownBlock] at e
    subst e
    unfold Blk at k
    rw [hg] at k
    simp at k
    exact hne k.2
/-- Polygons in memory: the slice, and of each its slice and its points. -/
structure Polys (w : World) (base : Nat) (tR tP : TypeId) (u : Value) (S : List (Value × List Pt)) : Prop where
  row : w.ownsRow base tR 1 u S.length (S.map Prod.fst)
  own : ∀ x ∈ S, Own w base tP x.1 x.2
theorem Polys.nil (w : World) (base : Nat) (tR tP : TypeId) : Polys w base tR tP (.slice none 0 0) [] := ⟨World.ownsRow_nil _ _ _ _, fun _ h => (by cases h)⟩
theorem Polys.keep {w w' : World} {T : Nat → Prop} {base : Nat} {tR tP : TypeId} {u : Value} {S : List (Value × List Pt)} (h : Polys w base tR tP u S) (hk : Keep T w w') (hT : ∀ k, u.ownBlock = some k → T k) (hX : ∀ x ∈ S, ∀ k, x.1.ownBlock = some k → T k) : Polys w' base tR tP u S :=
  ⟨owns_keep h.row hk hT, fun x hx => owns_keep (h.own x hx) hk (hX x hx)⟩
theorem Polys.grow {w w' : World} {base : Nat} {tR tP : TypeId} {u : Value} {S : List (Value × List Pt)} (h : Polys w base tR tP u S) (hb : Below w.heap.size w w') : Polys w' base tR tP u S :=
  h.keep (T := fun _ => True) (Keep.of_below hb) (fun _ _ => trivial) (fun _ _ _ _ => trivial)
theorem Polys.base {w : World} {base base' : Nat} {tR tP : TypeId} {u : Value} {S : List (Value × List Pt)} (h : Polys w base tR tP u S) (hb : base' ≤ base) : Polys w base' tR tP u S :=
  ⟨owns_base h.row hb, fun x hx => owns_base (h.own x hx) hb⟩
theorem Polys.more {w w' : World} {base : Nat} {tR tP : TypeId} {u u' v : Value} {l : List Pt} {S : List (Value × List Pt)} (h : Polys w base tR tP u S) (hne : tP ≠ tR) (hg : w.grownBy w' u.ownBlock) (ho : Own w base tP v l)
    (hr : w'.ownsRow base tR 1 u' (S.length + 1) (S.map Prod.fst ++ [v])) : Polys w' base tR tP u' (S ++ [(v, l)]) := by
  refine ⟨by simpa using hr, fun x hx => ?_⟩
  have key : Own w base tP x.1 x.2 := by
    rcases List.mem_append.1 hx with hx | hx
    · exact h.own x hx
    · obtain rfl := List.mem_singleton.1 hx
      exact ho
  exact World.ownsRow.kept key hg (apart_types key h.row hne)
theorem polys_shape {w : World} {base : Nat} {tR tP : TypeId} {u : Value} {S : List (Value × List Pt)} (h : Polys w base tR tP u S) : ∃ a c, u = .slice a S.length c := by
  obtain ⟨_, ⟨rfl, h0⟩ | ⟨g, cap, cur, rfl, _⟩⟩ := h.row
  · exact ⟨none, 0, by rw [h0]⟩
  · exact ⟨_, _, rfl⟩
/-- What a trace holds: an error, and polygons. -/
abbrev Tr := Int × List (List Pt)
def addT (st : Tr) (o : Int × List Pt) : Tr := if st.1 = 0 then (o.1, st.2 ++ [o.2]) else st
/-- How a trace goes on: what is neither its own block nor that of its row stays. -/
structure TrTo (g : Nat) (u : Value) (C : World) (u' : Value) (C' : World) : Prop where
  keep : Keep (fun j => j ≠ g ∧ u.ownBlock ≠ some j) C C'
  moved : Moved C u u'
theorem TrTo.refl (g : Nat) (u : Value) (C : World) : TrTo g u C u C := ⟨Keep.refl _ _, .inl rfl⟩
theorem TrTo.trans {g : Nat} {u v x : Value} {A B C : World} (h : TrTo g u A v B) (k : TrTo g v B x C) : TrTo g u A x C := by
  refine ⟨⟨k.keep.os.trans h.keep.os, k.keep.tape.trans h.keep.tape, k.keep.output.trans h.keep.output, Nat.le_trans h.keep.size k.keep.size, fun j hj hl => ?_⟩, ?_⟩
  · rw [← h.keep.block j hj hl]
    refine k.keep.block j ⟨hj.1, ?_⟩ (Nat.lt_of_lt_of_le hl h.keep.size)
    rcases h.moved with e | ⟨q, e, hq⟩
    · rw [e]; exact hj.2
    · rw [e]; intro e2; simp at e2; omega
  · rcases k.moved with e | ⟨q, e, hq⟩
    · rcases h.moved with e2 | ⟨q2, e2, hq2⟩
      · exact .inl (e.trans e2)
      · exact .inr ⟨q2, e.trans e2, hq2⟩
    · exact .inr ⟨q, e, Nat.le_trans h.keep.size hq⟩
theorem TrTo.grow {g : Nat} {u v : Value} {A B C : World} (h : TrTo g u A v B) (k : Below B.heap.size B C) : TrTo g u A v C := ⟨h.keep.trans (Keep.of_below k), h.moved⟩
theorem TrTo.first {g : Nat} {u v : Value} {A B C : World} (h : Below A.heap.size A B) (k : TrTo g u B v C) : TrTo g u A v C := ⟨(Keep.of_below h).trans k.keep, by
  rcases k.moved with e | ⟨q, e, hq⟩
  · exact .inl e
  · exact .inr ⟨q, e, Nat.le_trans h.size hq⟩⟩
theorem infoV : (Tryz.prog.info? 54).map (fun i => (i.zero, i.size, i.bytes)) = some (some (.slice none 0 0), 1, 24) := by kernel_rfl
theorem run_append_poly (w : World) (t ty T : TypeId) (ht : Tryz.prog.underlying t = some (.slice T)) (hT : (Tryz.prog.info? T).map (fun i => (i.zero, i.size, i.bytes)) = some (some (.slice none 0 0), 1, 24))
    (base : Nat) (v : Value) (m : Nat) (xs : List Value) (hown : w.ownsRow base T 1 v m xs) (ad : Addr) (k : Nat) (c : Nat) (news : List Value) (hk : news.length = k) (hx : ∀ j u, news[j]? = some u → w.cell? (ad.add j) = some u) (h1 : ∀ u ∈ news, u.oneCell' = true) (hl : m + k ≤ 100000) (hbase : base ≤ w.heap.size) :
    ∃ v' w', (Builtin.append_ #[t, t] ty #[v, .slice (some ad) k c]).run Tryz.prog w = .ok v' w' ∧ w'.ownsRow base T 1 v' (m + k) (xs ++ news) ∧ w.grownBy w' v.ownBlock ∧ Moved w v v' := by
  obtain ⟨i, hi, hz0, hz1, hz2⟩ := info_parts hT
  have hn : news.length = k * 1 := by omega
  have key : ∀ b, w.ownsRow b T 1 v m xs → b ≤ w.heap.size → _ := fun b ho hb => run_append_own (P := Tryz.prog) w b t ty T i (.slice none 0 0) 1 24 ht hi hz0 hz1 hz2 rfl (by decide) v m xs ho ad k c news hn hx h1 (by unfold maxLen; omega) (by omega) hb
  obtain ⟨v', w', hr, ho, hg, _⟩ := key base hown hbase
  refine ⟨v', w', hr, ho, hg, ?_⟩
  have hlen := hown.1
  rcases hown.2 with ⟨rfl, h0⟩ | ⟨g, cap, cur, rfl, hb, hgg, hc, hm, hs, htk⟩
  · subst h0
    have hxs : xs = [] := List.eq_nil_of_length_eq_zero (by omega)
    subst hxs
    obtain ⟨v2, w2, hr2, ho2, _, _⟩ := key w.heap.size (World.ownsRow_nil _ _ _ _) (Nat.le_refl _)
    obtain ⟨rfl, rfl⟩ := ok_inj hr hr2
    cases hv : v'.ownBlock with
    | none => exact .inl hv
    | some q => exact .inr ⟨q, hv, (ho2.lt q hv).1⟩
  · by_cases hroom : m + k ≤ cap
    · obtain ⟨w2, hr2, _⟩ := run_append_fits (P := Tryz.prog) w base t ty T i 1 ht hi hz1 g m cap xs hown ad k c news hn hx h1 hroom
      obtain ⟨rfl, _⟩ := ok_inj hr hr2
      exact .inl rfl
    · have hr2 := run_append_grow (P := Tryz.prog) w t ty T i _ ht hi hz0 ⟨g, 0, none⟩ m cap xs (by rw [hlen, hz1]) (fun j u hj => by have := hown.cells (g := g) rfl j u hj; exact this) ad k c news (by rw [hn, hz1]) hx (by omega) (by omega) (by rw [hz2]; exact growslice_fits (by omega) (by omega))
      obtain ⟨rfl, _⟩ := ok_inj hr hr2
      exact .inr ⟨_, rfl, Nat.le_refl _⟩
theorem wpList_append_poly {w : World} {ops : Array Oper} {rest : List Oper} {o : Oper} {a : Act} {Q : Exit → Act → World → Prop} (hgd : o.guard = none) (s x : Operand) (t T : TypeId)
    (ho : o.op = .call { callee := .builtin .append, args := #[s, x], argTypes := #[t, t] }) (ht : Tryz.prog.underlying t = some (.slice T)) (hT : (Tryz.prog.info? T).map (fun i => (i.zero, i.size, i.bytes)) = some (some (.slice none 0 0), 1, 24))
    (base : Nat) (v : Value) (m : Nat) (xs : List Value) (hs : a.eval s = v) (hown : w.ownsRow base T 1 v m xs) (ad : Addr) (k c : Nat) (news : List Value) (hxe : a.eval x = .slice (some ad) k c) (hk : news.length = k) (hx : ∀ j u, news[j]? = some u → w.cell? (ad.add j) = some u) (h1 : ∀ u ∈ news, u.oneCell' = true) (hl : m + k ≤ 100000) (hbase : base ≤ w.heap.size)
    (h : ∀ v' w', w'.ownsRow base T 1 v' (m + k) (xs ++ news) → w.grownBy w' v.ownBlock → Moved w v v' → wpList Tryz.prog ops Q rest (a.put o.dst v') w') : wpList Tryz.prog ops Q (o :: rest) a w := by
  refine wpList_plain hgd fun K hK => ?_
  obtain ⟨v', w', hr, h2, h3, h4⟩ := run_append_poly w t o.type T ht hT base v m xs hown ad k c news hk hx h1 hl hbase
  unfold Oper.wp
  simp [execOp, ho, resolve, invoke, builtin, hs, hxe, hr, Result.andThen]
  exact hK _ _ (h v' w' h2 h3 h4)
/-- What a trace tells. -/
def toldT (st : Tr) : Int × List (List Pt) := if st.1 = 0 then (0, st.2) else (st.1, [])
/-- A call's answer: polygons and an error. -/
def ToldQ (n : Nat) (w : World) (o : Int × List (List Pt)) (e : Ending) (w' : World) : Prop := ∃ v S, e = .returned (.tuple #[v, .int .i64 o.1]) ∧ Polys w' n 54 50 v S ∧ S.map Prod.snd = o.2 ∧ Below w.heap.size w w'
theorem Row.pts {w : World} {b o n c k : Nat} {l : List Pt} {p : Pt} (h : Row w (.slice (some ⟨b, o, none⟩) n c) l) (hp : l[k]? = some p) : w.cell? ⟨b, o + k * 2, none⟩ = some (.int .i64 p.1) ∧ w.cell? ⟨b, o + k * 2 + 1, none⟩ = some (.int .i64 p.2) := by
  rcases h with ⟨e, _⟩ | ⟨a, c', e, rfl⟩ | ⟨b', o', c', e, hb, hpa⟩
  · cases e
  · cases hp
  · cases e; exact hpa k p hp
end Go.Proofs.YtbnbglngpgikfaaGreatDoor

