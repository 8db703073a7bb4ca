/- Layer 12: the document's disk as the model's. -/
import Derived.Test.YtohmkmekdnfkoaaDb
namespace Go.Proofs.Ytohmkmekdnfkoaa
open Go.RowKit
/-- The document's disk, of the model d, in the territory T. -/
def RAt (T : Nat → Prop) (w : World) (g : Nat) (d : DM) : Prop := ∃ L sv wv, RX T w g ⟨d.safe, d.size, L, d.left, d.done, d.armed, d.down, sv, wv⟩ ∧ mapW L = d.wait ∧ ∀ k, T k → k < w.heap.size
theorem RAt.keep {T S : Nat → Prop} {w w' : World} {g : Nat} {d : DM} (h : RAt T w g d) (hk : Keep S w w') (hs : ∀ k, T k → S k) : RAt T w' g d := by
  obtain ⟨L, sv, wv, h1, h2, h3⟩ := h
  exact ⟨L, sv, wv, RefAt.keep h1 hk hs, h2, fun k hT => Nat.lt_of_lt_of_le (h3 k hT) hk.size⟩
theorem RAt.grow {T : Nat → Prop} {w w' : World} {g : Nat} {d : DM} (h : RAt T w g d) (hb : Below w.heap.size w w') : RAt T w' g d := h.keep (Keep.of_below (S := fun _ => True) hb) fun _ _ => trivial
theorem RAt.lt {T : Nat → Prop} {w : World} {g : Nat} {d : DM} (h : RAt T w g d) : ∀ k, T k → k < w.heap.size := by
  obtain ⟨L, sv, wv, h1, h2, h3⟩ := h
  exact h3
theorem RAt.okX {d : DM} {L : List Wr} {sv wv : Value} (hm : mapW L = d.wait) (ok : OkD d 1000) : ∃ z, OkX ⟨d.safe, d.size, L, d.left, d.done, d.armed, d.down, sv, wv⟩ z := by
  have hr : Rel ⟨d.size, d.safe, L, d.reads, d.done, if d.armed = true then d.left else -1, d.down, sv, wv, .slice none 0 0⟩ d :=
    ⟨rfl, rfl, hm, rfl, rfl, rfl, fun e => by simp [e], fun e => by simp [e], by
      have h := ok.rng
      unfold rngI
      by_cases e : d.armed = true
      · simp only [e, if_true]; exact h
      · simp only [e]; simp⟩
  obtain ⟨z, hz⟩ := hr.okL ok
  exact ⟨z, hz.size, hz.z1, hz.z2, hz.len, hz.few, hz.pos, hz.each⟩
theorem hasI_hasD {d : DM} (ok : OkD d 1000) (i : Int) : hasI d.safe.length d.size i = hasD d i := by
  obtain ⟨m1, m2, m3, m4⟩ := ok.made
  have hl := ok.len
  unfold hasI hasD
  rw [hl, Int.mul_ediv_cancel _ (by omega)]
theorem RAt.done' {d : DM} (ok : OkD d 1000) : (0 ≤ d.done ∧ d.done ≤ 1000000) ∧ (d.armed = true → 0 ≤ d.left ∧ d.left ≤ 9223372036854775807) := by
  have h1 := ok.done
  have h2 := ok.left
  have h3 := ok.rng
  exact ⟨by omega, fun e => ⟨h2 e, h3.2⟩⟩
theorem rNow_c (T : Nat → Prop) (w : World) (g : Nat) (d : DM) (h : RAt T w g d) (ok : OkD d 1000) : Calls Try.prog 16 #[ptrD g] w fun e w' => ∃ v, e = .returned v ∧ OwnB w' w.heap.size v (nowD d) ∧ Below w.heap.size w w' := by
  obtain ⟨L, sv, wv, h1, h2, h3⟩ := h
  obtain ⟨z, hz⟩ := RAt.okX (sv := sv) (wv := wv) h2 ok
  have hsz : d.size = (z : Int) := hz.size
  have e : nowB d.safe d.size L = nowD d := by
    unfold nowB nowTo nowD nowM
    rw [List.take_length, layB_nil, ← h2]
    unfold mapW
    rw [List.foldl_map]
  have hz1 := hz.z1
  have hz2 := hz.z2
  have hlen : d.safe.length ≤ 1000 := hz.len
  have hfew : L.length ≤ 1000 := hz.few
  have := refNow_c g sv wv d.size d.left d.done d.armed d.down d.safe L w h1.blk h1.safe.row h1.waitR (by omega) (by omega) ⟨hfew, fun y hy => by
    obtain ⟨i, hi, hf, hl⟩ := hz.each y hy
    have hf' : i * z + z ≤ d.safe.length := hf
    have : i ≤ i * z := Nat.le_mul_of_pos_right i (by omega)
    exact ⟨by omega, by omega, by omega⟩⟩
  rw [e] at this
  exact this
theorem rHas_c (T : Nat → Prop) (w : World) (g : Nat) (d : DM) (i : Int) (h : RAt T w g d) (ok : OkD d 1000) : Calls Try.prog 26 #[ptrD g, .int .i64 i] w fun e w' => e = .returned (.bool (hasD d i)) ∧ Below w.heap.size w w' := by
  obtain ⟨L, sv, wv, h1, h2, h3⟩ := h
  obtain ⟨sa, sc, hsv⟩ := OwnB.shape h1.safe
  have hb := h1.blk
  simp only at hsv
  subst hsv
  have hm := ok.made
  have hl := ok.few
  have := refHas_c g sa d.safe.length sc d.size i wv d.left d.done d.armed d.down w hb (by have := hm.2.2.1; omega) (by omega)
  rw [hasI_hasD ok] at this
  exact this
theorem rWrite_c (T : Nat → Prop) (w : World) (g : Nat) (d : DM) (i : Int) (v : Value) (b : List Int) (h : RAt T w g d) (ok : OkD d 1000) (hv : RowB w v b) (hl : b.length ≤ 1000) : Calls Try.prog 25 #[ptrD g, .int .i64 i, v] w fun e w' => ∃ T', e = .returned (.int .i64 (writeD d i b).2) ∧ RAt T' w' g (writeD d i b).1 ∧ To T w T' w' := by
  obtain ⟨L, sv, wv, h1, h2, h3⟩ := h
  obtain ⟨z, hz⟩ := RAt.okX (sv := sv) (wv := wv) h2 ok
  obtain ⟨hdn, hlf⟩ := RAt.done' ok
  have hsz : 1 ≤ d.size := by have := ok.made.2.2.1; omega
  have hlen : d.safe.length ≤ 1000 := ok.few
  have hfew : L.length ≤ 1000 := hz.few
  unfold writeD
  by_cases hd : d.down = true
  · rw [if_pos hd]
    have hh : RefAt T w g d.safe d.size L d.left d.done d.armed true sv wv := by rw [← hd]; exact h1
    refine (refWrite_down T w g d.safe d.size L d.left d.done d.armed sv wv hh i v).mono ?_
    rintro e w' ⟨rfl, rfl⟩
    exact ⟨T, rfl, ⟨L, sv, wv, h1, h2, h3⟩, To.refl _ _⟩
  · rw [if_neg hd]
    have hd' : d.down = false := by simpa using hd
    have hh : RefAt T w g d.safe d.size L d.left d.done d.armed false sv wv := by rw [← hd']; exact h1
    by_cases hi : hasD d i = false
    · rw [if_pos hi]
      refine (refWrite_range T w g d.safe d.size L d.left d.done d.armed sv wv hh i v hsz (by omega) (by rw [hasI_hasD ok]; exact hi)).mono ?_
      rintro e w' ⟨rfl, hb⟩
      exact ⟨T, rfl, RAt.grow ⟨L, sv, wv, h1, h2, h3⟩ hb, To.below hb⟩
    · rw [if_neg hi]
      have hi' : hasI d.safe.length d.size i = true := by rw [hasI_hasD ok]; simpa using hi
      by_cases hn : (b.length : Int) = d.size
      · rw [if_neg (by simpa using hn)]
        refine (refWrite_ok T w g ⟨d.safe, d.size, L, d.left, d.done, d.armed, d.down, sv, wv⟩ i v b h1 hd' hi' hsz (by show d.safe.length ≤ 70000; omega) hv hn hl (by show L.length ≤ 1001; omega) hdn hlf).mono ?_
        rintro e w' ⟨T', u, v', rfl, hk, ht, hlt⟩
        refine ⟨T', rfl, ⟨L ++ [(i, u, b)], sv, v', hk, ?_, hlt h3⟩, ht⟩
        show mapW (L ++ [(i, u, b)]) = d.wait ++ [(i, b)]
        rw [← h2]
        unfold mapW
        rw [List.map_append]; rfl
      · rw [if_pos hn]
        obtain ⟨vo, vc, rfl⟩ := hv.shape
        refine (refWrite_size T w g d.safe d.size L d.left d.done d.armed sv wv hh i vo b.length vc hsz (by omega) hi' hn).mono ?_
        rintro e w' ⟨rfl, hb⟩
        exact ⟨T, rfl, RAt.grow ⟨L, sv, wv, h1, h2, h3⟩ hb, To.below hb⟩
theorem rSync_c (T : Nat → Prop) (w : World) (g : Nat) (d : DM) (h : RAt T w g d) (ok : OkD d 1000) : Calls Try.prog 27 #[ptrD g] w fun e w' => ∃ T', e = .returned (.int .i64 (syncD d).2) ∧ RAt T' w' g (syncD d).1 ∧ To T w T' w' := by
  obtain ⟨L, sv, wv, h1, h2, h3⟩ := h
  obtain ⟨z, hz⟩ := RAt.okX (sv := sv) (wv := wv) h2 ok
  obtain ⟨hdn, hlf⟩ := RAt.done' ok
  have hsz : 1 ≤ d.size := by have := ok.made.2.2.1; omega
  have hsz2 : d.size ≤ 512 := ok.made.2.2.2
  have hlen : d.safe.length ≤ 1000 := ok.few
  have hfew : L.length ≤ 1000 := hz.few
  have hz1 := hz.z1
  unfold syncD
  by_cases hd : d.down = true
  · rw [if_pos hd]
    have hh : RefAt T w g d.safe d.size L d.left d.done d.armed true sv wv := by rw [← hd]; exact h1
    refine (refSync_down T w g d.safe d.size L d.left d.done d.armed sv wv hh).mono ?_
    rintro e w' ⟨rfl, rfl⟩
    exact ⟨T, rfl, ⟨L, sv, wv, h1, h2, h3⟩, To.refl _ _⟩
  · rw [if_neg hd]
    have hd' : d.down = false := by simpa using hd
    have hh : RefAt T w g d.safe d.size L d.left d.done d.armed false sv wv := by rw [← hd']; exact h1
    have hcm : (cmdD d).2 = (cmdOut d.left d.done d.armed false).2 := by unfold cmdD; rw [hd']
    have hcm1 : (cmdD d).1 = { d with left := (cmdOut d.left d.done d.armed false).1.1, done := (cmdOut d.left d.done d.armed false).1.2.1, armed := (cmdOut d.left d.done d.armed false).1.2.2.1, down := (cmdOut d.left d.done d.armed false).1.2.2.2 } := by unfold cmdD; rw [hd']
    by_cases hc : (cmdD d).2 = 0
    · rw [if_pos hc]
      refine (refSync_ok T w g d.safe d.size L d.left d.done d.armed sv wv hh hdn hlf (by omega) ⟨hsz, hsz2⟩ ⟨hfew, fun y hy => by
        obtain ⟨i, hi, hf, hl⟩ := hz.each y hy
        have hf' : i * z + z ≤ d.safe.length := hf
        have : i ≤ i * z := Nat.le_mul_of_pos_right i (by omega)
        have hz2 := hz.z2
        exact ⟨by omega, by omega, by omega⟩⟩ (by rw [← hcm]; exact hc)).mono ?_
      rintro e w' ⟨u, rfl, hk, hkp⟩
      have e : nowB d.safe d.size L = nowD d := by
        unfold nowB nowTo nowD nowM
        rw [List.take_length, layB_nil, ← h2]
        unfold mapW
        rw [List.foldl_map]
      rw [e] at hk
      have hul := World.ownsRow.lt hk.safe
      refine ⟨fun k => T k ∨ (w.heap.size ≤ k ∧ k < w'.heap.size), rfl, ⟨[], u, .slice none 0 0, ?_, rfl, ?_⟩, ⟨hkp.mono fun k hk e => hk (e ▸ h1.tg), fun k hk => hk.imp id fun h => h.1⟩⟩
      · rw [hcm1]
        exact ⟨.inl h1.tg, hk.blk, hk.safe, fun k e => (hk.ts k e).imp id fun h => ⟨h, (hul k e).2⟩, hk.wait, fun k e => (by cases e), fun y hy => (by cases hy)⟩
      · rintro k (hk | hk)
        · exact Nat.lt_of_lt_of_le (h3 k hk) hkp.size
        · exact hk.2
    · rw [if_neg hc]
      have h40 : (cmdOut d.left d.done d.armed false).2 = 40 := by
        rw [hcm] at hc
        unfold cmdOut at *
        split at hc
        · rename_i q; rw [if_pos q]
        · split at hc <;> exact absurd rfl hc
      refine (refSync_up T w g d.safe d.size L d.left d.done d.armed sv wv hh hdn hlf h40).mono ?_
      rintro e w' ⟨rfl, hk, hkp⟩
      refine ⟨T, by rw [hcm, h40], ⟨L, sv, wv, by rw [hcm1]; exact hk, by rw [hcm1]; exact h2, fun k hT => Nat.lt_of_lt_of_le (h3 k hT) hkp.size⟩, To.cell h1.tg hkp⟩
theorem rCrash_c (T : Nat → Prop) (w : World) (g : Nat) (d : DM) (v : Value) (keep : List Bool) (torn cut : Int) (h : RAt T w g d) (ok : OkD d 1000) (hv : RowT w v keep) (hl : keep.length ≤ 1000) (hT : keep.length ≠ 0 → ∀ k, v.ownBlock = some k → ¬ T k) (hct : rngI cut) : Calls Try.prog 28 #[ptrD g, v, .int .i64 torn, .int .i64 cut] w fun e w' => ∃ T', e = .returned (.tuple #[]) ∧ RAt T' w' g (crashD d keep torn cut) ∧ To T w T' w' := by
  obtain ⟨L, sv, wv, h1, h2, h3⟩ := h
  obtain ⟨z, hz⟩ := RAt.okX (sv := sv) (wv := wv) h2 ok
  refine (refCrash_c T w g ⟨d.safe, d.size, L, d.left, d.done, d.armed, d.down, sv, wv⟩ z v keep torn cut h1 hz hv hT hct hl).mono ?_
  rintro e w' ⟨T', sv', rfl, hk, ht, hlt⟩
  have e : crashK keep torn cut d.size d.safe L L.length = crashM keep torn cut d.size 0 d.wait d.safe := by
    unfold crashK
    rw [List.take_length, h2]
  have hk' : RX T' w' g ⟨crashK keep torn cut d.size d.safe L L.length, d.size, [], d.left, d.done, false, false, sv', .slice none 0 0⟩ := hk
  rw [e] at hk'
  exact ⟨T', rfl, ⟨[], sv', .slice none 0 0, hk', rfl, hlt h3⟩, ht⟩
/-- The document's disk is armed: two of its cells. -/
theorem RAt.arm {T : Nat → Prop} {w w' : World} {g : Nat} {d : DM} {n : Int} (h : RAt T w g d) (hb : ∀ cs : Array Value, Blk w g 31 cs → Blk w' g 31 ((cs.setIfInBounds 5 (.bool (decide (n ≥ 0)))).setIfInBounds 3 (.int .i64 n))) (hk : Keep (fun k => k ≠ g) w w') : RAt T w' g (armD d n) := by
  obtain ⟨L, sv, wv, h1, h2, h3⟩ := h
  exact ⟨L, sv, wv, RefAt.cells h1 (hb _ h1.blk) hk, h2, fun k hT => Nat.lt_of_lt_of_le (h3 k hT) hk.size⟩
end Go.Proofs.Ytohmkmekdnfkoaa
