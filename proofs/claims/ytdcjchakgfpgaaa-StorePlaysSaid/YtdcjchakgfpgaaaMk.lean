/- Layer 14: package store: bytes appended to a row that is kept; a store and its disk as one; what Append and Compact do. -/
import Derived.Test.YtdcjchakgfpgaaaMj
namespace Go.Proofs.Ytdcjchakgfpgaaa
open Go.RowKit
open Go.Shelf
/-- One row appended to another one: the one before stands as it was, whether or not its room was used. -/
theorem run_append_keep (w : World) (ty : TypeId) (v : Value) (E : List Int) (hown : OwnB w 0 v E) (s : Value) (Y : List Int) (row : RowB w s Y) (hl : E.length + Y.length ≤ 100000) :
    ∃ v' w', (Builtin.append_ #[24, 24] ty #[v, s]).run Try.prog w = .ok v' w' ∧ OwnB w' 0 v' (E ++ Y) ∧ OwnB w' 0 v E ∧ Keep (fun k => v.ownBlock ≠ some k) w w' ∧ Moved w v v' := by
  obtain ⟨i, hi, hz0, hz1, hz2⟩ := info_parts infoB
  rcases row.news with ⟨rfl, rfl⟩ | ⟨ad, c, rfl, hx⟩
  · refine ⟨v, w, run_append_owned_none w 0 24 ty 5 i 1 Try.underlying24 hi v E.length (bytV E) hown, by rw [List.append_nil]; exact hown, hown, Keep.refl _ _, .inl rfl⟩
  · have hn : (bytV Y).length = Y.length * 1 := by rw [List.length_map]; omega
    have h1 : ∀ u ∈ bytV Y, u.oneCell' = true := fun u hu => by obtain ⟨x, _, rfl⟩ := List.mem_map.1 hu; rfl
    obtain ⟨v', w', hr, ho, hg, hmv⟩ := run_append_byts w 24 ty Try.underlying24 0 v E hown ad Y.length c Y rfl hx hl (Nat.zero_le _)
    refine ⟨v', w', hr, ho, ?_, Keep.of_grown hg, hmv⟩
    have ho2 := hown
    obtain ⟨hlen, ⟨rfl, h0⟩ | ⟨g, cap, cur, rfl, hb, hgg, hc, hmm, hs, htk⟩⟩ := hown
    · exact ⟨hlen, .inl ⟨rfl, h0⟩⟩
    · by_cases hroom : E.length + Y.length ≤ cap
      · obtain ⟨w2, hr2, hown2, _⟩ := run_append_fits (P := Try.prog) w 0 24 ty 5 i 1 Try.underlying24 hi hz1 g E.length cap (bytV E) ho2 ad Y.length c (bytV Y) hn hx h1 hroom
        obtain ⟨rfl, rfl⟩ := ok_inj hr hr2
        obtain ⟨_, ⟨e, _⟩ | ⟨g', cap', cur', e, _, hg', hc', hm', hs', ht'⟩⟩ := hown2
        · cases e
        · cases e
          refine ⟨hlen, .inr ⟨g, cap, cur', rfl, Nat.zero_le _, hg', hc, hmm, hs', ?_⟩⟩
          have e2 : (cur'.toList.take ((E.length + Y.length) * 1)).take (E.length * 1) = (bytV E ++ bytV Y).take (E.length * 1) := by rw [ht']
          rw [List.take_take, Nat.min_eq_left (by omega), List.take_append_of_le_length (by rw [hlen]; omega)] at e2
          have e3 : (bytV E).take (E.length * 1) = bytV E := List.take_of_length_le (by rw [hlen]; omega)
          rw [e3] at e2
          exact e2
      · have hr2 := run_append_grow (P := Try.prog) w 24 ty 5 i _ Try.underlying24 hi hz0 ⟨g, 0, none⟩ E.length cap (bytV E) (by rw [hlen, hz1]) (fun j u hj => by have := World.ownsRow.cells ho2 (g := g) rfl j u hj; exact this) ad Y.length c (bytV Y) (by rw [hn, hz1]) hx (by omega) (by omega) (by rw [hz2]; exact growslice_fits (by omega) (by omega))
        obtain ⟨_, rfl⟩ := ok_inj hr hr2
        exact ho2.grow (below_drewN ((Below.refl _ _).alloc (Nat.le_refl _) _) 1 |> fun h => by
          first
          | exact h
          | exact (below_drewN (Below.refl _ _) 1).alloc (Nat.le_refl _) _)
theorem wp_append_keep {w : World} {o : Oper} {a : Act} {K : Act → World → Prop} {Q : Exit → Act → World → Prop} (s x : Operand)
    (ho : o.op = .call { callee := .builtin .append, args := #[s, x], argTypes := #[24, 24] })
    (v : Value) (E : List Int) (hs : a.eval s = v) (hown : OwnB w 0 v E) (b : Value) (Y : List Int) (hxe : a.eval x = b) (row : RowB w b Y) (hl : E.length + Y.length ≤ 100000)
    (h : ∀ v' w', OwnB w' 0 v' (E ++ Y) → OwnB w' 0 v E → Keep (fun k => v.ownBlock ≠ some k) w w' → Moved w v v' → K (a.put o.dst v') w') : o.wp Try.prog a w K Q := by
  obtain ⟨v', w', hr, h2, h3, h4, h5⟩ := run_append_keep w o.type v E hown b Y row hl
  unfold Oper.wp
  simp [execOp, ho, resolve, invoke, builtin, hs, hxe, hr, Result.andThen]
  exact h v' w' h2 h3 h4 h5
theorem RowB.keepK {w w' : World} {S : Nat → Prop} {v : Value} {E : List Int} (h : RowB w v E) (hk : Keep S w w') (hS : E.length ≠ 0 → ∀ k, v.ownBlock = some k → S k) : RowB w' v E := by
  rcases h with h | h | ⟨b, o, c, rfl, h2, h3⟩
  · exact .inl h
  · exact .inr (.inl h)
  · refine .inr (.inr ⟨b, o, c, rfl, Nat.lt_of_lt_of_le h2 hk.size, fun i x hx => ?_⟩)
    have hne : E.length ≠ 0 := by have := (List.getElem?_eq_some_iff.1 hx).1; omega
    have hb := hk.block b (hS hne b rfl) h2
    rw [← h3 i x hx]
    simp only [World.cell?, hb]
/-- A store and its disk, as models. -/
structure SM where
  d : DM
  h : Hd
  D : List Int
  f : Bool
/-- In memory: the territory is the disk's, the struct, its bytes. -/
def SS (U : Nat → Prop) (w : World) (a g : Nat) (s : SM) : Prop := ∃ T sv, At12 T w g s.d ∧ SAt T w a g s.h sv s.D s.f ∧ ∀ k, U k ↔ T k ∨ k = a ∨ sv.ownBlock = some k
/-- How many sectors are needed from one on. -/
def needN (z len i0 : Nat) : Nat := (len + z - 1) / z - i0
theorem need_ok {z len i0 : Nat} (hz : 1 ≤ z) (h : i0 * z ≤ len) : (∀ k, k < needN z len i0 → (i0 + k) * z < len) ∧ len ≤ (i0 + needN z len i0) * z := by
  unfold needN
  obtain ⟨c, hc⟩ : ∃ c, (len + z - 1) / z = c := ⟨_, rfl⟩
  have h1 : c * z ≤ len + z - 1 := by rw [← hc]; exact Nat.div_mul_le_self _ _
  have h2 : len + z - 1 < c * z + z := by
    have := Nat.lt_div_mul_add (a := len + z - 1) (b := z) (by omega)
    rw [hc] at this
    exact this
  rw [hc]
  have hi : i0 ≤ c := by
    apply Classical.byContradiction
    intro hno
    have h3 : (c + 1) * z ≤ i0 * z := Nat.mul_le_mul_right z (by omega)
    rw [Nat.add_mul, Nat.one_mul] at h3
    omega
  refine ⟨fun k hk => ?_, ?_⟩
  · have h3 : (i0 + k + 1) * z ≤ c * z := Nat.mul_le_mul_right z (by omega)
    rw [Nat.add_mul (i0 + k) 1 z, Nat.one_mul] at h3
    omega
  · rw [show i0 + (c - i0) = c by omega]
    omega
/-- A save: what the store is then, and what is told. -/
def saveI (s : SM) (h : Hd) (D : List Int) (i0 : Nat) : SM × Int :=
  if s.f = true then (s, 40)
  else if (writeM s.d ⟨h.gen + 1, h.half, h.snap, h.log⟩ D i0 (needN s.d.size.toNat D.length i0)).2 = 0 then (⟨(writeM s.d ⟨h.gen + 1, h.half, h.snap, h.log⟩ D i0 (needN s.d.size.toNat D.length i0)).1, ⟨h.gen + 1, h.half, h.snap, h.log⟩, D, false⟩, 0)
  else (⟨(writeM s.d ⟨h.gen + 1, h.half, h.snap, h.log⟩ D i0 (needN s.d.size.toNat D.length i0)).1, s.h, s.D, true⟩, (writeM s.d ⟨h.gen + 1, h.half, h.snap, h.log⟩ D i0 (needN s.d.size.toNat D.length i0)).2)
def appI (s : SM) (b : List Int) : SM × Int :=
  if (b.length : Int) > capI s.d - (s.D.length : Int) then (s, 42) else saveI s ⟨s.h.gen, s.h.half, s.h.snap, s.h.log + (b.length : Int)⟩ (s.D ++ b) (s.D.length / s.d.size.toNat)
def compI (s : SM) (b : List Int) : SM × Int :=
  if (b.length : Int) > capI s.d then (s, 42) else saveI s ⟨s.h.gen, 1 - s.h.half, (b.length : Int), 0⟩ b 0
theorem moved_far {w : World} {v v' : Value} (h : Moved w v v') {k : Nat} (e : v'.ownBlock = some k) : v.ownBlock = some k ∨ w.heap.size ≤ k := by
  rcases h with h | ⟨q, h1, h2⟩
  · exact .inl (h ▸ e)
  · rw [h1] at e
    cases e
    exact .inr h2
/-- The save on a store in memory. -/
theorem save_ss {T : Nat → Prop} {w : World} {a g : Nat} {s : SM} {sv0 sv : Value} (h : Hd) (D : List Int) (i0 : Nat) {m : Int} (hd : At12 T w g s.d) (ok : OkD s.d m) (hm : m + needN s.d.size.toNat D.length i0 + 3 ≤ 1000) (st : SAt T w a g s.h sv0 s.D s.f) (own : OwnB w 0 sv D) (off : ∀ k, sv.ownBlock = some k → ¬ T k)
    (h4 : 4 ≤ s.d.sectors) (h32 : 32 ≤ s.d.size) (hD : OkB D) (hl : D.length ≤ 31000) (hg : 0 ≤ h.gen ∧ h.gen ≤ 1000000) (hh : 0 ≤ h.half ∧ h.half ≤ 1) (hs : 0 ≤ h.snap ∧ h.snap ≤ 2000000) (hlg : 0 ≤ h.log ∧ h.log ≤ 2000000) (hi0 : i0 * s.d.size.toNat ≤ D.length)
    (U : Nat → Prop) (hU : ∀ k, T k ∨ k = a ∨ sv0.ownBlock = some k → U k) (N : Nat) (hN : N ≤ w.heap.size) (hfar : ∀ k, sv.ownBlock = some k → U k ∨ N ≤ k) :
    Calls Try.prog 38 #[ptrD a, hdV h, sv, .int .i64 (i0 : Int)] w fun e w' => ∃ U', e = .returned (.int .i64 (saveI s h D i0).2) ∧ SS U' w' a g (saveI s h D i0).1 ∧ Keep (fun k => ¬ T k ∧ k ≠ a) w w' ∧ ∀ k, U' k → U k ∨ N ≤ k := by
  obtain ⟨d, h0, D0, f⟩ := s
  dsimp only at *
  unfold saveI
  dsimp only
  cases f with
  | true =>
    rw [if_pos rfl]
    refine (ssave_down h sv (i0 : Int) st).mono ?_
    rintro e w' ⟨rfl, hb⟩
    exact ⟨fun k => T k ∨ k = a ∨ sv0.ownBlock = some k, rfl, ⟨T, sv0, at_grow hd hb, st.grow hb, fun k => Iff.rfl⟩, Keep.of_below hb, fun k hk => .inl (hU k hk)⟩
  | false =>
    rw [if_neg (by decide)]
    obtain ⟨n1, n2⟩ := need_ok (z := d.size.toNat) (len := D.length) (i0 := i0) (by omega) hi0
    obtain ⟨n, hn⟩ : ∃ n, needN d.size.toNat D.length i0 = n := ⟨_, rfl⟩
    rw [hn] at n1 n2 hm ⊢
    obtain ⟨r, hr⟩ : ∃ r, writeM d ⟨h.gen + 1, h.half, h.snap, h.log⟩ D i0 n = r := ⟨_, rfl⟩
    refine (ssave_c T w a g d h0 sv0 D0 h sv D i0 n m hd ok hm st own off h4 h32 hD hl hg hh hs hlg hi0 n1 n2 r hr).mono ?_
    rw [hr]
    rintro e w' ⟨T', rfl, ha, ht, s1, s2⟩
    by_cases hre : r.2 = 0
    · rw [if_pos hre]
      refine ⟨fun k => T' k ∨ k = a ∨ sv.ownBlock = some k, by rw [hre], ⟨T', sv, ha, s1 hre, fun k => Iff.rfl⟩, ht.keep, fun k hk => ?_⟩
      rcases hk with hk | hk | hk
      · exact (ht.new k hk).imp (fun h => hU k (.inl h)) (fun h => Nat.le_trans hN h)
      · exact .inl (hU k (.inr (.inl hk)))
      · exact hfar k hk
    · rw [if_neg hre]
      refine ⟨fun k => T' k ∨ k = a ∨ sv0.ownBlock = some k, rfl, ⟨T', sv0, ha, s2 hre, fun k => Iff.rfl⟩, ht.keep, fun k hk => ?_⟩
      rcases hk with hk | hk | hk
      · exact (ht.new k hk).imp (fun h => hU k (.inl h)) (fun h => Nat.le_trans hN h)
      · exact .inl (hU k (.inr (.inl hk)))
      · exact .inl (hU k (.inr (.inr hk)))
end Go.Proofs.Ytdcjchakgfpgaaa
