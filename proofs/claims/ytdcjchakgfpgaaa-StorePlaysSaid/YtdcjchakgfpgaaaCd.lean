/- Layer 12: package disk: Image. -/
import Derived.Test.YtdcjchakgfpgaaaCb
namespace Go.Proofs.Ytdcjchakgfpgaaa
open Go.RowKit
theorem infoI12 : (Try.prog.info? 3).map (fun i => (i.zero, i.size, i.bytes)) = some (some (.int .i64 0), 1, 8) := by kernel_rfl
abbrev intV (E : List Int) : List Value := E.map (Value.int .i64)
theorem run_append_ints (w : World) (t ty : TypeId) (ht : Try.prog.underlying t = some (.slice 3)) (base : Nat) (v : Value) (E : List Int) (hown : OwnI w base v E) (ad : Addr) (k c : Nat) (Y : List Int) (hk : Y.length = k) (hx : ∀ j u, (intV Y)[j]? = some u → w.cell? (ad.add j) = some u) (hl : E.length + k ≤ 100000) (hbase : base ≤ w.heap.size) :
    ∃ v' w', (Builtin.append_ #[t, t] ty #[v, .slice (some ad) k c]).run Try.prog w = .ok v' w' ∧ OwnI w' base v' (E ++ Y) ∧ w.grownBy w' v.ownBlock ∧ Moved w v v' := by
  obtain ⟨i, hi, hz0, hz1, hz2⟩ := info_parts infoI12
  obtain ⟨m, hm⟩ : ∃ m, E.length = m := ⟨_, rfl⟩
  unfold OwnI at hown ⊢
  rw [hm] at hown hl
  have hn : (intV Y).length = k * 1 := by rw [List.length_map]; omega
  have h1 : ∀ u ∈ intV Y, u.oneCell' = true := fun u hu => by obtain ⟨x, _, rfl⟩ := List.mem_map.1 hu; rfl
  have key : ∀ b, w.ownsRow b 3 1 v m (intV E) → b ≤ w.heap.size → _ := fun b ho hb => run_append_own (P := Try.prog) w b t ty 3 i (.int .i64 0) 1 8 ht hi hz0 hz1 hz2 rfl (by decide) v m (intV E) ho ad k c (intV Y) hn hx h1 (by unfold maxLen; omega) (by omega) hb
  obtain ⟨v', w', hr, ho, hg, _⟩ := key base hown hbase
  have hfin : w'.ownsRow base 3 1 v' (E ++ Y).length (intV (E ++ Y)) := by
    rw [List.length_append, hm, hk, show intV (E ++ Y) = intV E ++ intV Y from List.map_append]
    exact ho
  refine ⟨v', w', hr, hfin, hg, ?_⟩
  have hlen := hown.1
  rcases hown.2 with ⟨rfl, h0⟩ | ⟨g, cap, cur, rfl, hb, hgg, hc, hmm, hs, htk⟩
  · subst h0
    have hxs : intV E = [] := List.eq_nil_of_length_eq_zero (by omega)
    obtain ⟨v2, w2, hr2, ho2, _, _⟩ := key w.heap.size (by rw [hxs]; exact World.ownsRow_nil _ _ _ _) (Nat.le_refl _)
    obtain ⟨rfl, rfl⟩ := ok_inj hr hr2
    cases hv : v'.ownBlock with
    | none => exact .inl hv
    | some q => exact .inr ⟨q, hv, (ho2.lt q hv).1⟩
  · by_cases hroom : m + k ≤ cap
    · obtain ⟨w2, hr2, _⟩ := run_append_fits (P := Try.prog) w base t ty 3 i 1 ht hi hz1 g m cap (intV E) hown ad k c (intV Y) hn hx h1 hroom
      obtain ⟨rfl, _⟩ := ok_inj hr hr2
      exact .inl rfl
    · have hr2 := run_append_grow (P := Try.prog) w t ty 3 i _ ht hi hz0 ⟨g, 0, none⟩ m cap (intV E) (by rw [hlen, hz1]) (fun j u hj => by have := hown.cells (g := g) rfl j u hj; exact this) ad k c (intV Y) (by rw [hn, hz1]) hx (by omega) (by omega) (by rw [hz2]; exact growslice_fits (by omega) (by omega))
      obtain ⟨rfl, _⟩ := ok_inj hr hr2
      exact .inr ⟨_, rfl, Nat.le_refl _⟩
theorem wpList_append_ints {w : World} {ops : Array Oper} {rest : List Oper} {o : Oper} {a : Act} {Q : Exit → Act → World → Prop} (hgd : o.guard = none) (s x : Operand) (t : TypeId)
    (ho : o.op = .call { callee := .builtin .append, args := #[s, x], argTypes := #[t, t] }) (ht : Try.prog.underlying t = some (.slice 3))
    (base : Nat) (v : Value) (E : List Int) (hs : a.eval s = v) (hown : OwnI w base v E) (ad : Addr) (k c : Nat) (Y : List Int) (hxe : a.eval x = .slice (some ad) k c) (hk : Y.length = k) (hx : ∀ j u, (intV Y)[j]? = some u → w.cell? (ad.add j) = some u) (hl : E.length + k ≤ 100000) (hbase : base ≤ w.heap.size)
    (h : ∀ v' w', OwnI w' base v' (E ++ Y) → w.grownBy w' v.ownBlock → Moved w v v' → wpList Try.prog ops Q rest (a.put o.dst v') w') : wpList Try.prog ops Q (o :: rest) a w := by
  refine wpList_plain hgd fun K hK => ?_
  obtain ⟨v', w', hr, h2, h3, h4⟩ := run_append_ints w t o.type ht base v E hown ad k c Y hk hx hl hbase
  unfold Oper.wp
  simp [execOp, ho, resolve, invoke, builtin, hs, hxe, hr, Result.andThen]
  exact hK _ _ (h v' w' h2 h3 h4)
theorem OwnI.form {w : World} {base : Nat} {v : Value} {E : List Int} (h : OwnI w base v E) (h0 : 0 < E.length) : ∃ g c, v = .slice (some ⟨g, 0, none⟩) E.length c ∧ E.length ≤ c ∧ g < w.heap.size := by
  obtain ⟨_, ⟨rfl, hn⟩ | ⟨g, cap, cur, rfl, _, hg, hc, _⟩⟩ := h
  · omega
  · exact ⟨g, cap, rfl, hc, (Array.getElem?_eq_some_iff.1 hg).1⟩
theorem OwnI.grow {w w' : World} {base : Nat} {v : Value} {E : List Int} (h : OwnI w base v E) (hb : Below w.heap.size w w') : OwnI w' base v E := owns_keep h (Keep.of_below (S := fun _ => True) hb) (fun _ _ => trivial)
/-- What a disk that was made rightly, and not used too often, has in memory. -/
structure OkL (x : Kd) (z : Nat) : Prop where
  size : x.size = (z : Int)
  z1 : 16 ≤ z
  z2 : z ≤ 512
  len : x.A.length ≤ 31000
  few : x.L.length ≤ 1000
  pos : 0 < x.A.length
  each : ∀ y ∈ x.L, ∃ i : Nat, y.1 = (i : Int) ∧ i * z + z ≤ x.A.length ∧ y.2.2.length = z
  rlen : 0 < x.R.length ∧ x.R.length * z = x.A.length
theorem Rel.okL {x : Kd} {d : DM} (r : Rel x d) (ok : OkD d 1000) : ∃ z, OkL x z := by
  obtain ⟨m1, m2, m3, m4⟩ := ok.made
  obtain ⟨z, hz⟩ : ∃ z : Nat, d.size = (z : Int) := ⟨d.size.toNat, by omega⟩
  obtain ⟨s, hs⟩ : ∃ s : Nat, d.sectors = (s : Int) := ⟨d.sectors.toNat, by omega⟩
  have hl := ok.len
  rw [hz, hs] at hl
  have hl2 : d.safe.length = s * z := by exact_mod_cast hl
  have hf := ok.few
  have hr := ok.rlen
  have hrl : x.R.length = s := by rw [r.reads]; omega
  have hp : 1 * 16 ≤ s * z := Nat.mul_le_mul (by omega) (by omega)
  refine ⟨z, by rw [r.size]; exact hz, by omega, by omega, by rw [r.all]; omega, ?_, by rw [r.all]; omega, fun y hy => ?_, by omega, by rw [hrl, r.all, hl2]⟩
  · have h1 := ok.waits
    rw [← r.wait] at h1
    unfold mapW at h1
    rw [List.length_map] at h1
    omega
  · have hm : (y.1, y.2.2) ∈ d.wait := by
      rw [← r.wait]
      exact List.mem_map.2 ⟨y, hy, rfl⟩
    obtain ⟨h1, h2, h3, _⟩ := ok.wait _ hm
    simp only at h1 h2 h3
    obtain ⟨i, hi⟩ : ∃ i : Nat, y.1 = (i : Int) := ⟨y.1.toNat, by omega⟩
    have h4 : (i + 1) * z ≤ s * z := Nat.mul_le_mul_right z (by omega)
    rw [Nat.add_mul, Nat.one_mul] at h4
    exact ⟨i, hi, by rw [r.all]; omega, by omega⟩
/-- What is read when the first k writes have been laid. -/
def nowK (size : Int) (A : List Int) (L : List Wr) (k : Nat) : List Int := nowM size A (mapW (L.take k))
theorem nowK_zero (size : Int) (A : List Int) (L : List Wr) : nowK size A L 0 = A := rfl
theorem nowK_len (size : Int) (A : List Int) (L : List Wr) (k : Nat) : (nowK size A L k).length = A.length := nowM_len ..
theorem nowK_succ {size : Int} {A : List Int} {L : List Wr} {k : Nat} {y : Wr} (h : L[k]? = some y) : nowK size A L (k + 1) = layB (nowK size A L k) y.2.2 (y.1 * size) := by
  unfold nowK mapW nowM
  rw [List.take_add_one, h, List.map_append, List.foldl_append]; rfl
theorem nowK_all {x : Kd} {d : DM} (r : Rel x d) : nowK x.size x.A x.L x.L.length = nowD d := by
  unfold nowK nowD
  rw [List.take_length, r.wait, r.size, r.all]
/-- The bytes change in their own block. -/
theorem KAt.lay {T : Nat → Prop} {w w' : World} {g : Nat} {x : Kd} (h : KAt T w g x) {A : List Int} (ho : OwnB w' 0 x.sv A) (hk : Keep (fun k => x.sv.ownBlock ≠ some k) w w') : KAt T w' g { x with A := A } :=
  ⟨h.tg, fun k hT => Nat.lt_of_lt_of_le (h.lt k hT) hk.size, hk.blk h.blk (owns_off h.all h.blk (by decide)), ho, h.ts,
    owns_keep h.wait hk fun k e e2 => (apart_types h.wait h.all (by decide)).elim (fun q => by rw [e] at q; cases q) (fun q => q (by rw [e, e2])), h.tw,
    fun y hy => ⟨owns_keep (h.byts y hy).1 hk fun k e => ((h.byts y hy).2 k e).2, (h.byts y hy).2⟩,
    owns_keep h.reads hk fun k e e2 => (apart_types h.reads h.all (by decide)).elim (fun q => by rw [e] at q; cases q) (fun q => q (by rw [e, e2])), h.tr⟩
theorem owns_raise {w w' : World} {base size n m : Nat} {t : TypeId} {v : Value} {xs ys : List Value} (h : w'.ownsRow 0 t size v n xs) (k : w.ownsRow base t size v m ys) : w'.ownsRow base t size v n xs := by
  refine ⟨h.1, ?_⟩
  rcases h.2 with h2 | ⟨g, cap, cur, e, _, h3⟩
  · exact .inl h2
  · subst e
    exact .inr ⟨g, cap, cur, rfl, (World.ownsRow.lt k g rfl).1, h3⟩
end Go.Proofs.Ytdcjchakgfpgaaa
namespace Go.Proofs.Ytdcjchakgfpgaaa
open Go.RowKit
end Go.Proofs.Ytdcjchakgfpgaaa
