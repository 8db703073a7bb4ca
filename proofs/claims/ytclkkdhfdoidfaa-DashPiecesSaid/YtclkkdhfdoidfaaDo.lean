/- Layer 9: rows of ints by append; the document's place along a way. -/
import Derived.Test.YtclkkdhfdoidfaaDl
import Derived.Test.YtclkkdhfdoidfaaDm
namespace Go.Proofs.Ytclkkdhfdoidfaa
open Go.RowKit
theorem infoI : (Try.prog.info? 3).map (fun i => (i.zero, i.size, i.bytes)) = some (some (.int .i64 0), 1, 8) := by kernel_rfl
theorem infoVR : (Try.prog.info? 47).map (fun i => (i.zero, i.size, i.bytes)) = some (some (.slice none 0 0), 1, 24) := by kernel_rfl
abbrev intsV (E : List Int) : List Value := E.map (Value.int .i64)
/-- A row of ints that the call owns. -/
def OwnI (w : World) (base : Nat) (v : Value) (E : List Int) : Prop := w.ownsRow base 3 1 v E.length (intsV E)
theorem OwnI.grow {w w' : World} {base : Nat} {v : Value} {E : List Int} (h : OwnI w base v E) (hb : Below w.heap.size w w') : OwnI w' base v E := owns_keep h (Keep.of_below (S := fun _ => True) hb) (fun _ _ => trivial)
theorem ownI_some {w : World} {base : Nat} {v : Value} {E : List Int} (h : OwnI w base v E) : (v = .slice none 0 0 ∧ E = []) ∨ ∃ g cap, v = .slice (some ⟨g, 0, none⟩) E.length cap ∧ base ≤ g ∧ g < w.heap.size ∧ IntsL w g 0 E := by
  have h2 := h
  obtain ⟨h1, ⟨e, h0⟩ | ⟨g, cap, cur, rfl, hb, hg, _⟩⟩ := h
  · exact .inl ⟨e, List.eq_nil_of_length_eq_zero h0⟩
  · refine .inr ⟨g, cap, rfl, hb, (Array.getElem?_eq_some_iff.1 hg).1, fun k x hk => ?_⟩
    have hc := World.ownsRow.cells h2 (g := g) rfl k (.int .i64 x) (by rw [List.getElem?_map, hk]; rfl)
    rwa [Addr.add_lit] at hc
theorem run_append_ints (w : World) (t ty : TypeId) (ht : Try.prog.underlying t = some (.slice 3)) (base : Nat) (v : Value) (E : List Int) (hown : OwnI w base v E) (ad : Addr) (k c : Nat) (Y : List Int) (hk : Y.length = k) (hx : ∀ j u, (intsV Y)[j]? = some u → w.cell? (ad.add j) = some u) (hl : E.length + k ≤ 100000) (hbase : base ≤ w.heap.size) :
    ∃ v' w', (Builtin.append_ #[t, t] ty #[v, .slice (some ad) k c]).run Try.prog w = .ok v' w' ∧ OwnI w' base v' (E ++ Y) ∧ w.grownBy w' v.ownBlock ∧ Moved w v v' := by
  obtain ⟨i, hi, hz0, hz1, hz2⟩ := info_parts infoI
  obtain ⟨m, hm⟩ : ∃ m, E.length = m := ⟨_, rfl⟩
  unfold OwnI at hown ⊢
  rw [hm] at hown hl
  have hn : (intsV Y).length = k * 1 := by rw [List.length_map]; omega
  have h1 : ∀ u ∈ intsV Y, u.oneCell' = true := fun u hu => by obtain ⟨x, _, rfl⟩ := List.mem_map.1 hu; rfl
  have key : ∀ b, w.ownsRow b 3 1 v m (intsV E) → b ≤ w.heap.size → _ := fun b ho hb => run_append_own (P := Try.prog) w b t ty 3 i (.int .i64 0) 1 8 ht hi hz0 hz1 hz2 rfl (by decide) v m (intsV E) ho ad k c (intsV Y) hn hx h1 (by unfold maxLen; omega) (by omega) hb
  obtain ⟨v', w', hr, ho, hg, _⟩ := key base hown hbase
  have hfin : w'.ownsRow base 3 1 v' (E ++ Y).length (intsV (E ++ Y)) := by
    rw [List.length_append, hm, hk, show intsV (E ++ Y) = intsV E ++ intsV Y from List.map_append]
    exact ho
  refine ⟨v', w', hr, hfin, hg, ?_⟩
  have hlen := hown.1
  rcases hown.2 with ⟨rfl, h0⟩ | ⟨g, cap, cur, rfl, hb, hgg, hc, hmm, hs, htk⟩
  · subst h0
    have hxs : intsV E = [] := List.eq_nil_of_length_eq_zero (by omega)
    obtain ⟨v2, w2, hr2, ho2, _, _⟩ := key w.heap.size (by rw [hxs]; exact World.ownsRow_nil _ _ _ _) (Nat.le_refl _)
    obtain ⟨rfl, rfl⟩ := ok_inj hr hr2
    cases hv : v'.ownBlock with
    | none => exact .inl hv
    | some q => exact .inr ⟨q, hv, (ho2.lt q hv).1⟩
  · by_cases hroom : m + k ≤ cap
    · obtain ⟨w2, hr2, _⟩ := run_append_fits (P := Try.prog) w base t ty 3 i 1 ht hi hz1 g m cap (intsV E) hown ad k c (intsV Y) hn hx h1 hroom
      obtain ⟨rfl, _⟩ := ok_inj hr hr2
      exact .inl rfl
    · have hr2 := run_append_grow (P := Try.prog) w t ty 3 i _ ht hi hz0 ⟨g, 0, none⟩ m cap (intsV E) (by rw [hlen, hz1]) (fun j u hj => by have := hown.cells (g := g) rfl j u hj; exact this) ad k c (intsV Y) (by rw [hn, hz1]) hx (by omega) (by omega) (by rw [hz2]; exact growslice_fits (by omega) (by omega))
      obtain ⟨rfl, _⟩ := ok_inj hr hr2
      exact .inr ⟨_, rfl, Nat.le_refl _⟩
theorem wp_append_ints {w : World} {o : Oper} {a : Act} {K : Act → World → Prop} {Q : Exit → Act → World → Prop} (s x : Operand) (t : TypeId)
    (ho : o.op = .call { callee := .builtin .append, args := #[s, x], argTypes := #[t, t] }) (ht : Try.prog.underlying t = some (.slice 3))
    (base : Nat) (v : Value) (E : List Int) (hs : a.eval s = v) (hown : OwnI w base v E) (ad : Addr) (k c : Nat) (Y : List Int) (hxe : a.eval x = .slice (some ad) k c) (hk : Y.length = k) (hx : ∀ j u, (intsV Y)[j]? = some u → w.cell? (ad.add j) = some u) (hl : E.length + k ≤ 100000) (hbase : base ≤ w.heap.size)
    (h : ∀ v' w', OwnI w' base v' (E ++ Y) → w.grownBy w' v.ownBlock → Moved w v v' → K (a.put o.dst v') w') : o.wp Try.prog a w K Q := by
  obtain ⟨v', w', hr, h2, h3, h4⟩ := run_append_ints w t o.type ht base v E hown ad k c Y hk hx hl hbase
  unfold Oper.wp
  simp [execOp, ho, resolve, invoke, builtin, hs, hxe, hr, Result.andThen]
  exact h v' w' h2 h3 h4
/-- The first m ends of a way's lines. -/
noncomputable def endsL (W : List Pt) (m : Nat) : List Int := (List.range m).map (endsI W)
theorem endsL_at {W : List Pt} {m i : Nat} (h : i < m) : (endsL W m)[i]? = some (endsI W i) := by unfold endsL; rw [List.getElem?_map, List.getElem?_range h]; rfl
theorem endsL_succ (W : List Pt) (m : Nat) : endsL W (m + 1) = endsL W m ++ [endsI W m] := by unfold endsL; rw [List.range_succ, List.map_append]; rfl
theorem endsL_len (W : List Pt) (m : Nat) : (endsL W m).length = m := by unfold endsL; simp
theorem lens_bound {W : List Pt} (hl : ∀ i, i + 1 < W.length → lenB (subP (at0 W (i + 1)) (at0 W i)) = true) : ∀ i, i < W.length → endsI W i ≤ i * 1073741824
  | 0, _ => by simp [endsI]
  | i + 1, h => by
    have h1 := lens_bound hl i (by omega)
    have h2 := (len_bounds (lenB_iff.1 (hl i h))).2.1
    have h3 : endsI W (i + 1) = endsI W i + lenI (subP (at0 W (i + 1)) (at0 W i)) := rfl
    omega
set_option maxHeartbeats 4000000 in
set_option maxRecDepth 100000 in
theorem refAt_c (W : List Pt) (d : Int) (w : World) (gw ge m cw ce : Nat) (hm : W.length = m) (hm2 : m ≤ 2000) (hW : Way W) (hroom : ∀ p ∈ W, roomP p = true) (hlen : ∀ i, i + 1 < m → lenB (subP (at0 W (i + 1)) (at0 W i)) = true)
    (hp : PtsAt w gw 0 W) (hgw : gw < w.heap.size) (hE : IntsL w ge 0 (endsL W m)) (hge : ge < w.heap.size) (h0 : 0 ≤ d) (h1 : d < endsI W (m - 1)) :
    Calls Try.prog 48 #[.slice (some ⟨gw, 0, none⟩) m cw, .slice (some ⟨ge, 0, none⟩) m ce, .int .i64 d] w fun e w' => e = .returned (.agg #[.int .i64 (placeI W d).1, .int .i64 (placeI W d).2]) ∧ Below w.heap.size w w' := by
  have HPW : Hid (∀ A, Below w.heap.size w A → PtsAt A gw 0 W) := fun A hA => hp.on hA hgw
  have HIW : Hid (∀ A, Below w.heap.size w A → IntsL A ge 0 (endsL W m)) := fun A hA => hE.keep (S := fun j => j < w.heap.size) ⟨hA.os, hA.tape, hA.output, hA.size, fun k hk _ => hA.block k hk⟩ hge hge
  have HM := Lib.hid hm
  have HWY := Lib.hid hW
  have HRM := Lib.hid hroom
  have HLN := Lib.hid hlen
  have HD := Lib.hid (And.intro h0 h1)
  have HEB : Hid (∀ i, i < m → 0 ≤ endsI W i ∧ endsI W i ≤ 2147483648000) := fun i hi => by
    have := lens_bound (W := W) (by rw [hm]; exact hlen) i (by omega)
    have := ends_nonneg hW (i := i) (by omega)
    omega
  clear hp hE hm hW hroom hlen h0 h1 hgw hge
  go_enter Try.func48, Try.ntmps48
  go_wp2_with fail
  go_loopw [7] (fun s7 wr => ∃ i : Nat, i + 1 < m ∧ s7 = .int .i64 i ∧ Hid (endsI W i ≤ d ∧ Below w.heap.size w wr ∧ Blk wr w.heap.size 39 (two (0, 0)))) (fun s7 _ => m - (intOf s7).toNat)
  case atStart =>
    refine ⟨0, ?_, rfl, HD.out.1, (Below.refl _ _).alloc (Nat.le_refl _) _, Blk.new _ _ _⟩
    have hh := HD.out
    rcases Nat.lt_or_ge 1 m with h | h
    · exact h
    · rw [show m - 1 = 0 by omega] at hh
      simp only [endsI] at hh; omega
  case round =>
    obtain ⟨i, him, rfl, hw⟩ := hrel
    obtain ⟨ip, hip⟩ : ∃ ip, i + 1 = ip := ⟨_, rfl⟩
    have hipm : ip < m := by omega
    have e1 : wrap64 ((i : Int) + 1) = (ip : Int) := by rw [wrapR _ (by omega) (by omega)]; omega
    obtain ⟨v1, hv1⟩ : ∃ v, endsI W ip = v := ⟨_, rfl⟩
    have hc1 := HIW.out wr hw.out.2.1 ip v1 (by rw [endsL_at hipm, hv1])
    rw [Nat.zero_add] at hc1
    by_cases hle : v1 ≤ d
    · have hd : decide (v1 ≤ d) = true := by simp; omega
      have HNX : Hid (ip + 1 < m ∧ endsI W ip ≤ d) := by
        refine ⟨?_, by omega⟩
        have hh := HD.out.2
        rcases Nat.lt_or_ge (ip + 1) m with h | h
        · exact h
        · rw [show m - 1 = ip by omega] at hh; omega
      clear hv1 hle
      go_wp2_with fail
      refine ⟨⟨ip, HNX.out.1, by first | rfl | rw [e1] | (congr 1; omega), HNX.out.2, hw.out.2.1, hw.out.2.2⟩, by simp only [intOf]; omega⟩
    · have hd : decide (v1 ≤ d) = false := by simp; omega
      have HP1 : Hid (placeI W d = onP (at0 W i) (at0 W (i + 1)) (d - endsI W i) (lenW W i)) := placeI_eq HWY.out (by have := HM.out; omega) hw.out.1 (by rw [hip]; omega)
      obtain ⟨e0, he0⟩ : ∃ v, endsI W i = v := ⟨_, rfl⟩
      have hc0 := HIW.out wr hw.out.2.1 i e0 (by rw [endsL_at (by omega), he0])
      rw [Nat.zero_add] at hc0
      have hb0 := HEB.out i (by omega)
      have hb1 := HEB.out ip hipm
      obtain ⟨t, ht⟩ : ∃ t, d - e0 = t := ⟨_, rfl⟩
      obtain ⟨n, hnn⟩ : ∃ n, v1 - e0 = n := ⟨_, rfl⟩
      have hln : lenW W i = n := by
        have h := (show endsI W (i + 1) = endsI W i + lenW W i from rfl)
        rw [hip] at h; omega
      have hlb := HLN.out i him
      have hlo := lenB_iff.1 hlb
      have hlbb := len_bounds hlo
      have hn1 := HWY.out i (by have := HM.out; omega)
      have hln2 : lenI (subP (at0 W (i + 1)) (at0 W i)) = n := hln
      have hwd := hw.out.1
      rw [hln2] at hlbb
      rw [hln] at hn1 HP1
      rw [he0] at HP1 hb0 hwd
      rw [hv1] at hb1
      rw [ht, hip] at HP1
      rw [hip] at hlo
      have h2a := at0_some (W := W) (i := i) (by have := HM.out; omega)
      have h2b := at0_some (W := W) (i := ip) (by have := HM.out; omega)
      have HPC := Lib.hid (fun A => refPlace_c (at0 W i) (at0 W ip) t n (HRM.out _ (List.mem_of_getElem? h2a)) (HRM.out _ (List.mem_of_getElem? h2b)) hlo (by omega) (by omega) hn1 (by omega) A)
      have HPT : Hid (∀ A, Below w.heap.size w A → (A.cell? ⟨gw, i * 2, none⟩ = some (.int .i64 (at0 W i).1) ∧ A.cell? ⟨gw, i * 2 + 1, none⟩ = some (.int .i64 (at0 W i).2)) ∧ (A.cell? ⟨gw, ip * 2, none⟩ = some (.int .i64 (at0 W ip).1) ∧ A.cell? ⟨gw, ip * 2 + 1, none⟩ = some (.int .i64 (at0 W ip).2))) := fun A hA => by
        have h := HPW.out A hA
        have x := h i _ h2a
        have y := h ip _ h2b
        rw [Nat.zero_add] at x y
        exact ⟨x, y⟩
      have HIN : Hid (∀ A, Below w.heap.size w A → A.cell? ⟨ge, i, none⟩ = some (.int .i64 e0) ∧ A.cell? ⟨ge, ip, none⟩ = some (.int .i64 v1)) := fun A hA => by
        have x := HIW.out A hA i e0 (by rw [endsL_at (by omega), he0])
        have y := HIW.out A hA ip v1 (by rw [endsL_at hipm, hv1])
        rw [Nat.zero_add] at x y
        exact ⟨x, y⟩
      have E1 : Hid (IntKind.i64.wrap ((i : Int) + 1) = (ip : Int)) := (wrap_is _).trans e1
      have E2 : Hid (IntKind.i64.wrap (d - e0) = t) := (wrap_is _).trans (by rw [← ht]; exact wrapR _ (by omega) (by omega))
      have E3 : Hid (IntKind.i64.wrap (v1 - e0) = n) := (wrap_is _).trans (by rw [← hnn]; exact wrapR _ (by omega) (by omega))
      have HRE := HP1
      clear HP1
      rw [← HRE.out] at HPC
      clear HRE
      obtain ⟨rp, hrp⟩ : ∃ rp, placeI W d = rp := ⟨_, rfl⟩
      have HRE := Lib.hid hrp
      rw [hrp] at HPC
      clear hrp
      generalize at0 W i = pa at HPT HPC
      generalize at0 W ip = pb at HPT HPC
      obtain ⟨ax, ay⟩ := pa
      obtain ⟨bx, bY⟩ := pb
      obtain ⟨rx, rY⟩ := rp
      have hlt1 : i < m := by omega
      have hB2 : Hid (w.heap.size ≤ wr.heap.size) := hw.out.2.1.size
      rw [← hip] at hc1
      clear hip hle hv1 he0 hb0 hb1 ht hnn hln hlb hlo hlbb hn1 hln2 hwd h2a h2b hc0
      go_wp2_with fail
      refine wp_region_put (by kernel_rfl) (by kernel_rfl) (by kernel_rfl) (fun b' vs w' => (b' 0 = true → vs 0 = .slice (some ⟨gw, 0, none⟩) m cw) ∧ (b' 1 = true → vs 1 = .int .i64 (i : Int)) ∧ (b' 2 = true → vs 2 = .pointer (some ⟨gw, i * 2, none⟩)) ∧ (b' 3 = true → vs 3 = .agg #[.int .i64 ax, .int .i64 ay]) ∧ (b' 4 = true → vs 4 = .slice (some ⟨gw, 0, none⟩) m cw) ∧ (b' 5 = true → vs 5 = .int .i64 (i : Int)) ∧ (b' 6 = true → vs 6 = .int .i64 (ip : Int)) ∧ (b' 7 = true → vs 7 = .pointer (some ⟨gw, ip * 2, none⟩)) ∧ (b' 8 = true → vs 8 = .agg #[.int .i64 bx, .int .i64 bY]) ∧ (b' 9 = true → vs 9 = .int .i64 d) ∧ (b' 10 = true → vs 10 = .slice (some ⟨ge, 0, none⟩) m ce) ∧ (b' 11 = true → vs 11 = .int .i64 (i : Int)) ∧ (b' 12 = true → vs 12 = .pointer (some ⟨ge, i, none⟩)) ∧ (b' 13 = true → vs 13 = .int .i64 e0) ∧ (b' 14 = true → vs 14 = .int .i64 t) ∧ (b' 15 = true → vs 15 = .slice (some ⟨ge, 0, none⟩) m ce) ∧ (b' 16 = true → vs 16 = .int .i64 (i : Int)) ∧ (b' 17 = true → vs 17 = .int .i64 (ip : Int)) ∧ (b' 18 = true → vs 18 = .pointer (some ⟨ge, ip, none⟩)) ∧ (b' 19 = true → vs 19 = .int .i64 v1) ∧ (b' 20 = true → vs 20 = .slice (some ⟨ge, 0, none⟩) m ce) ∧ (b' 21 = true → vs 21 = .int .i64 (i : Int)) ∧ (b' 22 = true → vs 22 = .pointer (some ⟨ge, i, none⟩)) ∧ (b' 23 = true → vs 23 = .int .i64 e0) ∧ (b' 24 = true → vs 24 = .int .i64 n) ∧ (b' 25 = true → vs 25 = .agg #[.int .i64 rx, .int .i64 rY]) ∧ (b' 26 = false → Hid (Below w.heap.size wr w' ∧ w.heap.size ≤ w'.heap.size)) ∧ (b' 26 = false → Hid (Below w.heap.size w w' ∧ Blk w' w.heap.size 39 (two (0, 0)))) ∧ (b' 26 = true → Hid (Below w.heap.size w w' ∧ Blk w' w.heap.size 39 (two (rx, rY)))) ∧ (b' 25 = true → b' 3 = true) ∧ (b' 25 = true → b' 8 = true) ∧ (b' 25 = true → b' 14 = true) ∧ (b' 14 = true → b' 13 = true) ∧ (b' 25 = true → b' 24 = true) ∧ (b' 24 = true → b' 19 = true) ∧ (b' 24 = true → b' 23 = true) ∧ (b' 26 = true → b' 3 = true) ∧ (b' 26 = true → b' 8 = true) ∧ (b' 26 = true → b' 13 = true) ∧ (b' 26 = true → b' 19 = true) ∧ (b' 26 = true → b' 23 = true) ∧ (b' 26 = true → b' 25 = true)) ?_ ?_ ?_
      · intro vs
        exact ⟨fun h => Bool.noConfusion h, fun h => Bool.noConfusion h, fun h => Bool.noConfusion h, fun h => Bool.noConfusion h, fun h => Bool.noConfusion h, fun h => Bool.noConfusion h, fun h => Bool.noConfusion h, fun h => Bool.noConfusion h, fun h => Bool.noConfusion h, fun h => Bool.noConfusion h, fun h => Bool.noConfusion h, fun h => Bool.noConfusion h, fun h => Bool.noConfusion h, fun h => Bool.noConfusion h, fun h => Bool.noConfusion h, fun h => Bool.noConfusion h, fun h => Bool.noConfusion h, fun h => Bool.noConfusion h, fun h => Bool.noConfusion h, fun h => Bool.noConfusion h, fun h => Bool.noConfusion h, fun h => Bool.noConfusion h, fun h => Bool.noConfusion h, fun h => Bool.noConfusion h, fun h => Bool.noConfusion h, fun h => Bool.noConfusion h, fun _ => Lib.hid ⟨below_drewN (Below.refl _ _) 1, by have := hB2.out; exact this⟩, fun _ => Lib.hid ⟨hw.out.2.1.trans (below_drewN (Below.refl _ _) 1), hw.out.2.2.grow (below_drewN (Below.refl _ _) 1)⟩, fun h => Bool.noConfusion h, fun h => Bool.noConfusion h, fun h => Bool.noConfusion h, fun h => Bool.noConfusion h, fun h => Bool.noConfusion h, fun h => Bool.noConfusion h, fun h => Bool.noConfusion h, fun h => Bool.noConfusion h, fun h => Bool.noConfusion h, fun h => Bool.noConfusion h, fun h => Bool.noConfusion h, fun h => Bool.noConfusion h, fun h => Bool.noConfusion h, fun h => Bool.noConfusion h⟩
      · rintro b' vs w' i op hi hun hall ⟨h0, h1, h2, h3, h4, h5, h6, h7, h8, h9, h10, h11, h12, h13, h14, h15, h16, h17, h18, h19, h20, h21, h22, h23, h24, h25, hB, hF, hG, hE25_3, hE25_8, hE25_14, hE14_13, hE25_24, hE24_19, hE24_23, hW3, hW8, hW13, hW19, hW23, hW25⟩
        have hil : i < 27 := (List.getElem?_eq_some_iff.1 hi).1
        rcases i with _ | _ | _ | _ | _ | _ | _ | _ | _ | _ | _ | _ | _ | _ | _ | _ | _ | _ | _ | _ | _ | _ | _ | _ | _ | _ | _ | i
        · obtain rfl := Option.some.inj hi
          clear hi hil
          refine wpOp_step rfl (fun K hK => ?_)
          have HKK := Lib.hid hK; clear hK
          simp only [putAll, Act.put, List.setIfInBounds_toArray, List.set_cons_zero, List.set_cons_succ]
          go_simp
          exact HKK.out _ _ ⟨_, by simp only [putAll, Act.put, List.setIfInBounds_toArray, List.set_cons_zero, List.set_cons_succ] <;> rfl, fun _ => rfl, h1, h2, h3, h4, h5, h6, h7, h8, h9, h10, h11, h12, h13, h14, h15, h16, h17, h18, h19, h20, h21, h22, h23, h24, h25, hB, hF, hG, hE25_3, hE25_8, hE25_14, hE14_13, hE25_24, hE24_19, hE24_23, hW3, hW8, hW13, hW19, hW23, hW25⟩
        · obtain rfl := Option.some.inj hi
          clear hi hil
          refine wpOp_step rfl (fun K hK => ?_)
          have HKK := Lib.hid hK; clear hK
          simp only [putAll, Act.put, List.setIfInBounds_toArray, List.set_cons_zero, List.set_cons_succ]
          go_simp
          exact HKK.out _ _ ⟨_, by simp only [putAll, Act.put, List.setIfInBounds_toArray, List.set_cons_zero, List.set_cons_succ] <;> rfl, h0, fun _ => rfl, h2, h3, h4, h5, h6, h7, h8, h9, h10, h11, h12, h13, h14, h15, h16, h17, h18, h19, h20, h21, h22, h23, h24, h25, hB, hF, hG, hE25_3, hE25_8, hE25_14, hE14_13, hE25_24, hE24_19, hE24_23, hW3, hW8, hW13, hW19, hW23, hW25⟩
        · obtain rfl := Option.some.inj hi
          clear hi hil
          have d0 := h0 (hall ⟨0, .data⟩ (by simp) rfl)
          have d1 := h1 (hall ⟨1, .data⟩ (by simp) rfl)
          refine wpOp_step rfl (fun K hK => ?_)
          have HKK := Lib.hid hK; clear hK
          simp only [putAll, Act.put, List.setIfInBounds_toArray, List.set_cons_zero, List.set_cons_succ]
          go_simp
          exact HKK.out _ _ ⟨_, by simp only [putAll, Act.put, List.setIfInBounds_toArray, List.set_cons_zero, List.set_cons_succ, d0, d1] <;> rfl, h0, h1, fun _ => rfl, h3, h4, h5, h6, h7, h8, h9, h10, h11, h12, h13, h14, h15, h16, h17, h18, h19, h20, h21, h22, h23, h24, h25, hB, hF, hG, hE25_3, hE25_8, hE25_14, hE14_13, hE25_24, hE24_19, hE24_23, hW3, hW8, hW13, hW19, hW23, hW25⟩
        · obtain rfl := Option.some.inj hi
          clear hi hil
          have hap : b' 26 = false := by
            cases hz : b' 26 with
            | false => rfl
            | true => exact absurd (hW3 hz) (by rw [hun]; decide)
          have d2 := h2 (hall ⟨2, .data⟩ (by simp) rfl)
          have kk := HPT.out w' (hF hap).out.1
          have c0 := kk.1.1
          have c1 := kk.1.2
          clear kk
          refine wpOp_step rfl (fun K hK => ?_)
          have HKK := Lib.hid hK; clear hK
          simp only [putAll, Act.put, List.setIfInBounds_toArray, List.set_cons_zero, List.set_cons_succ]
          go_simp
          exact HKK.out _ _ ⟨_, by simp only [putAll, Act.put, List.setIfInBounds_toArray, List.set_cons_zero, List.set_cons_succ, d2] <;> rfl, h0, h1, h2, fun _ => rfl, h4, h5, h6, h7, h8, h9, h10, h11, h12, h13, h14, h15, h16, h17, h18, h19, h20, h21, h22, h23, h24, h25, hB, hF, hG, fun _ => rfl, hE25_8, hE25_14, hE14_13, hE25_24, hE24_19, hE24_23, fun _ => rfl, hW8, hW13, hW19, hW23, hW25⟩
        · obtain rfl := Option.some.inj hi
          clear hi hil
          refine wpOp_step rfl (fun K hK => ?_)
          have HKK := Lib.hid hK; clear hK
          simp only [putAll, Act.put, List.setIfInBounds_toArray, List.set_cons_zero, List.set_cons_succ]
          go_simp
          exact HKK.out _ _ ⟨_, by simp only [putAll, Act.put, List.setIfInBounds_toArray, List.set_cons_zero, List.set_cons_succ] <;> rfl, h0, h1, h2, h3, fun _ => rfl, h5, h6, h7, h8, h9, h10, h11, h12, h13, h14, h15, h16, h17, h18, h19, h20, h21, h22, h23, h24, h25, hB, hF, hG, hE25_3, hE25_8, hE25_14, hE14_13, hE25_24, hE24_19, hE24_23, hW3, hW8, hW13, hW19, hW23, hW25⟩
        · obtain rfl := Option.some.inj hi
          clear hi hil
          refine wpOp_step rfl (fun K hK => ?_)
          have HKK := Lib.hid hK; clear hK
          simp only [putAll, Act.put, List.setIfInBounds_toArray, List.set_cons_zero, List.set_cons_succ]
          go_simp
          exact HKK.out _ _ ⟨_, by simp only [putAll, Act.put, List.setIfInBounds_toArray, List.set_cons_zero, List.set_cons_succ] <;> rfl, h0, h1, h2, h3, h4, fun _ => rfl, h6, h7, h8, h9, h10, h11, h12, h13, h14, h15, h16, h17, h18, h19, h20, h21, h22, h23, h24, h25, hB, hF, hG, hE25_3, hE25_8, hE25_14, hE14_13, hE25_24, hE24_19, hE24_23, hW3, hW8, hW13, hW19, hW23, hW25⟩
        · obtain rfl := Option.some.inj hi
          clear hi hil
          have d5 := h5 (hall ⟨5, .data⟩ (by simp) rfl)
          refine wpOp_step rfl (fun K hK => ?_)
          have HKK := Lib.hid hK; clear hK
          simp only [putAll, Act.put, List.setIfInBounds_toArray, List.set_cons_zero, List.set_cons_succ]
          go_simp
          exact HKK.out _ _ ⟨_, by simp only [putAll, Act.put, List.setIfInBounds_toArray, List.set_cons_zero, List.set_cons_succ, d5, E1.out] <;> rfl, h0, h1, h2, h3, h4, h5, fun _ => rfl, h7, h8, h9, h10, h11, h12, h13, h14, h15, h16, h17, h18, h19, h20, h21, h22, h23, h24, h25, hB, hF, hG, hE25_3, hE25_8, hE25_14, hE14_13, hE25_24, hE24_19, hE24_23, hW3, hW8, hW13, hW19, hW23, hW25⟩
        · obtain rfl := Option.some.inj hi
          clear hi hil
          have d4 := h4 (hall ⟨4, .data⟩ (by simp) rfl)
          have d6 := h6 (hall ⟨6, .data⟩ (by simp) rfl)
          refine wpOp_step rfl (fun K hK => ?_)
          have HKK := Lib.hid hK; clear hK
          simp only [putAll, Act.put, List.setIfInBounds_toArray, List.set_cons_zero, List.set_cons_succ]
          go_simp
          exact HKK.out _ _ ⟨_, by simp only [putAll, Act.put, List.setIfInBounds_toArray, List.set_cons_zero, List.set_cons_succ, d4, d6] <;> rfl, h0, h1, h2, h3, h4, h5, h6, fun _ => rfl, h8, h9, h10, h11, h12, h13, h14, h15, h16, h17, h18, h19, h20, h21, h22, h23, h24, h25, hB, hF, hG, hE25_3, hE25_8, hE25_14, hE14_13, hE25_24, hE24_19, hE24_23, hW3, hW8, hW13, hW19, hW23, hW25⟩
        · obtain rfl := Option.some.inj hi
          clear hi hil
          have hap : b' 26 = false := by
            cases hz : b' 26 with
            | false => rfl
            | true => exact absurd (hW8 hz) (by rw [hun]; decide)
          have d7 := h7 (hall ⟨7, .data⟩ (by simp) rfl)
          have kk := HPT.out w' (hF hap).out.1
          have c0 := kk.2.1
          have c1 := kk.2.2
          clear kk
          refine wpOp_step rfl (fun K hK => ?_)
          have HKK := Lib.hid hK; clear hK
          simp only [putAll, Act.put, List.setIfInBounds_toArray, List.set_cons_zero, List.set_cons_succ]
          go_simp
          exact HKK.out _ _ ⟨_, by simp only [putAll, Act.put, List.setIfInBounds_toArray, List.set_cons_zero, List.set_cons_succ, d7] <;> rfl, h0, h1, h2, h3, h4, h5, h6, h7, fun _ => rfl, h9, h10, h11, h12, h13, h14, h15, h16, h17, h18, h19, h20, h21, h22, h23, h24, h25, hB, hF, hG, hE25_3, fun _ => rfl, hE25_14, hE14_13, hE25_24, hE24_19, hE24_23, hW3, fun _ => rfl, hW13, hW19, hW23, hW25⟩
        · obtain rfl := Option.some.inj hi
          clear hi hil
          refine wpOp_step rfl (fun K hK => ?_)
          have HKK := Lib.hid hK; clear hK
          simp only [putAll, Act.put, List.setIfInBounds_toArray, List.set_cons_zero, List.set_cons_succ]
          go_simp
          exact HKK.out _ _ ⟨_, by simp only [putAll, Act.put, List.setIfInBounds_toArray, List.set_cons_zero, List.set_cons_succ] <;> rfl, h0, h1, h2, h3, h4, h5, h6, h7, h8, fun _ => rfl, h10, h11, h12, h13, h14, h15, h16, h17, h18, h19, h20, h21, h22, h23, h24, h25, hB, hF, hG, hE25_3, hE25_8, hE25_14, hE14_13, hE25_24, hE24_19, hE24_23, hW3, hW8, hW13, hW19, hW23, hW25⟩
        · obtain rfl := Option.some.inj hi
          clear hi hil
          refine wpOp_step rfl (fun K hK => ?_)
          have HKK := Lib.hid hK; clear hK
          simp only [putAll, Act.put, List.setIfInBounds_toArray, List.set_cons_zero, List.set_cons_succ]
          go_simp
          exact HKK.out _ _ ⟨_, by simp only [putAll, Act.put, List.setIfInBounds_toArray, List.set_cons_zero, List.set_cons_succ] <;> rfl, h0, h1, h2, h3, h4, h5, h6, h7, h8, h9, fun _ => rfl, h11, h12, h13, h14, h15, h16, h17, h18, h19, h20, h21, h22, h23, h24, h25, hB, hF, hG, hE25_3, hE25_8, hE25_14, hE14_13, hE25_24, hE24_19, hE24_23, hW3, hW8, hW13, hW19, hW23, hW25⟩
        · obtain rfl := Option.some.inj hi
          clear hi hil
          refine wpOp_step rfl (fun K hK => ?_)
          have HKK := Lib.hid hK; clear hK
          simp only [putAll, Act.put, List.setIfInBounds_toArray, List.set_cons_zero, List.set_cons_succ]
          go_simp
          exact HKK.out _ _ ⟨_, by simp only [putAll, Act.put, List.setIfInBounds_toArray, List.set_cons_zero, List.set_cons_succ] <;> rfl, h0, h1, h2, h3, h4, h5, h6, h7, h8, h9, h10, fun _ => rfl, h12, h13, h14, h15, h16, h17, h18, h19, h20, h21, h22, h23, h24, h25, hB, hF, hG, hE25_3, hE25_8, hE25_14, hE14_13, hE25_24, hE24_19, hE24_23, hW3, hW8, hW13, hW19, hW23, hW25⟩
        · obtain rfl := Option.some.inj hi
          clear hi hil
          have d10 := h10 (hall ⟨10, .data⟩ (by simp) rfl)
          have d11 := h11 (hall ⟨11, .data⟩ (by simp) rfl)
          refine wpOp_step rfl (fun K hK => ?_)
          have HKK := Lib.hid hK; clear hK
          simp only [putAll, Act.put, List.setIfInBounds_toArray, List.set_cons_zero, List.set_cons_succ]
          go_simp
          exact HKK.out _ _ ⟨_, by simp only [putAll, Act.put, List.setIfInBounds_toArray, List.set_cons_zero, List.set_cons_succ, d10, d11] <;> rfl, h0, h1, h2, h3, h4, h5, h6, h7, h8, h9, h10, h11, fun _ => rfl, h13, h14, h15, h16, h17, h18, h19, h20, h21, h22, h23, h24, h25, hB, hF, hG, hE25_3, hE25_8, hE25_14, hE14_13, hE25_24, hE24_19, hE24_23, hW3, hW8, hW13, hW19, hW23, hW25⟩
        · obtain rfl := Option.some.inj hi
          clear hi hil
          have hap : b' 26 = false := by
            cases hz : b' 26 with
            | false => rfl
            | true => exact absurd (hW13 hz) (by rw [hun]; decide)
          have d12 := h12 (hall ⟨12, .data⟩ (by simp) rfl)
          have c0 := (HIN.out w' (hF hap).out.1).1
          refine wpOp_step rfl (fun K hK => ?_)
          have HKK := Lib.hid hK; clear hK
          simp only [putAll, Act.put, List.setIfInBounds_toArray, List.set_cons_zero, List.set_cons_succ]
          go_simp
          exact HKK.out _ _ ⟨_, by simp only [putAll, Act.put, List.setIfInBounds_toArray, List.set_cons_zero, List.set_cons_succ, d12] <;> rfl, h0, h1, h2, h3, h4, h5, h6, h7, h8, h9, h10, h11, h12, fun _ => rfl, h14, h15, h16, h17, h18, h19, h20, h21, h22, h23, h24, h25, hB, hF, hG, hE25_3, hE25_8, hE25_14, fun _ => rfl, hE25_24, hE24_19, hE24_23, hW3, hW8, fun _ => rfl, hW19, hW23, hW25⟩
        · obtain rfl := Option.some.inj hi
          clear hi hil
          have d9 := h9 (hall ⟨9, .data⟩ (by simp) rfl)
          have d13 := h13 (hall ⟨13, .data⟩ (by simp) rfl)
          refine wpOp_step rfl (fun K hK => ?_)
          have HKK := Lib.hid hK; clear hK
          simp only [putAll, Act.put, List.setIfInBounds_toArray, List.set_cons_zero, List.set_cons_succ]
          go_simp
          exact HKK.out _ _ ⟨_, by simp only [putAll, Act.put, List.setIfInBounds_toArray, List.set_cons_zero, List.set_cons_succ, d9, d13, E2.out] <;> rfl, h0, h1, h2, h3, h4, h5, h6, h7, h8, h9, h10, h11, h12, h13, fun _ => rfl, h15, h16, h17, h18, h19, h20, h21, h22, h23, h24, h25, hB, hF, hG, hE25_3, hE25_8, fun _ => rfl, fun _ => hall ⟨13, .data⟩ (by simp) rfl, hE25_24, hE24_19, hE24_23, hW3, hW8, hW13, hW19, hW23, hW25⟩
        · obtain rfl := Option.some.inj hi
          clear hi hil
          refine wpOp_step rfl (fun K hK => ?_)
          have HKK := Lib.hid hK; clear hK
          simp only [putAll, Act.put, List.setIfInBounds_toArray, List.set_cons_zero, List.set_cons_succ]
          go_simp
          exact HKK.out _ _ ⟨_, by simp only [putAll, Act.put, List.setIfInBounds_toArray, List.set_cons_zero, List.set_cons_succ] <;> rfl, h0, h1, h2, h3, h4, h5, h6, h7, h8, h9, h10, h11, h12, h13, h14, fun _ => rfl, h16, h17, h18, h19, h20, h21, h22, h23, h24, h25, hB, hF, hG, hE25_3, hE25_8, hE25_14, hE14_13, hE25_24, hE24_19, hE24_23, hW3, hW8, hW13, hW19, hW23, hW25⟩
        · obtain rfl := Option.some.inj hi
          clear hi hil
          refine wpOp_step rfl (fun K hK => ?_)
          have HKK := Lib.hid hK; clear hK
          simp only [putAll, Act.put, List.setIfInBounds_toArray, List.set_cons_zero, List.set_cons_succ]
          go_simp
          exact HKK.out _ _ ⟨_, by simp only [putAll, Act.put, List.setIfInBounds_toArray, List.set_cons_zero, List.set_cons_succ] <;> rfl, h0, h1, h2, h3, h4, h5, h6, h7, h8, h9, h10, h11, h12, h13, h14, h15, fun _ => rfl, h17, h18, h19, h20, h21, h22, h23, h24, h25, hB, hF, hG, hE25_3, hE25_8, hE25_14, hE14_13, hE25_24, hE24_19, hE24_23, hW3, hW8, hW13, hW19, hW23, hW25⟩
        · obtain rfl := Option.some.inj hi
          clear hi hil
          have d16 := h16 (hall ⟨16, .data⟩ (by simp) rfl)
          refine wpOp_step rfl (fun K hK => ?_)
          have HKK := Lib.hid hK; clear hK
          simp only [putAll, Act.put, List.setIfInBounds_toArray, List.set_cons_zero, List.set_cons_succ]
          go_simp
          exact HKK.out _ _ ⟨_, by simp only [putAll, Act.put, List.setIfInBounds_toArray, List.set_cons_zero, List.set_cons_succ, d16, E1.out] <;> rfl, h0, h1, h2, h3, h4, h5, h6, h7, h8, h9, h10, h11, h12, h13, h14, h15, h16, fun _ => rfl, h18, h19, h20, h21, h22, h23, h24, h25, hB, hF, hG, hE25_3, hE25_8, hE25_14, hE14_13, hE25_24, hE24_19, hE24_23, hW3, hW8, hW13, hW19, hW23, hW25⟩
        · obtain rfl := Option.some.inj hi
          clear hi hil
          have d15 := h15 (hall ⟨15, .data⟩ (by simp) rfl)
          have d17 := h17 (hall ⟨17, .data⟩ (by simp) rfl)
          refine wpOp_step rfl (fun K hK => ?_)
          have HKK := Lib.hid hK; clear hK
          simp only [putAll, Act.put, List.setIfInBounds_toArray, List.set_cons_zero, List.set_cons_succ]
          go_simp
          exact HKK.out _ _ ⟨_, by simp only [putAll, Act.put, List.setIfInBounds_toArray, List.set_cons_zero, List.set_cons_succ, d15, d17] <;> rfl, h0, h1, h2, h3, h4, h5, h6, h7, h8, h9, h10, h11, h12, h13, h14, h15, h16, h17, fun _ => rfl, h19, h20, h21, h22, h23, h24, h25, hB, hF, hG, hE25_3, hE25_8, hE25_14, hE14_13, hE25_24, hE24_19, hE24_23, hW3, hW8, hW13, hW19, hW23, hW25⟩
        · obtain rfl := Option.some.inj hi
          clear hi hil
          have hap : b' 26 = false := by
            cases hz : b' 26 with
            | false => rfl
            | true => exact absurd (hW19 hz) (by rw [hun]; decide)
          have d18 := h18 (hall ⟨18, .data⟩ (by simp) rfl)
          have c0 := (HIN.out w' (hF hap).out.1).2
          refine wpOp_step rfl (fun K hK => ?_)
          have HKK := Lib.hid hK; clear hK
          simp only [putAll, Act.put, List.setIfInBounds_toArray, List.set_cons_zero, List.set_cons_succ]
          go_simp
          exact HKK.out _ _ ⟨_, by simp only [putAll, Act.put, List.setIfInBounds_toArray, List.set_cons_zero, List.set_cons_succ, d18] <;> rfl, h0, h1, h2, h3, h4, h5, h6, h7, h8, h9, h10, h11, h12, h13, h14, h15, h16, h17, h18, fun _ => rfl, h20, h21, h22, h23, h24, h25, hB, hF, hG, hE25_3, hE25_8, hE25_14, hE14_13, hE25_24, fun _ => rfl, hE24_23, hW3, hW8, hW13, fun _ => rfl, hW23, hW25⟩
        · obtain rfl := Option.some.inj hi
          clear hi hil
          refine wpOp_step rfl (fun K hK => ?_)
          have HKK := Lib.hid hK; clear hK
          simp only [putAll, Act.put, List.setIfInBounds_toArray, List.set_cons_zero, List.set_cons_succ]
          go_simp
          exact HKK.out _ _ ⟨_, by simp only [putAll, Act.put, List.setIfInBounds_toArray, List.set_cons_zero, List.set_cons_succ] <;> rfl, h0, h1, h2, h3, h4, h5, h6, h7, h8, h9, h10, h11, h12, h13, h14, h15, h16, h17, h18, h19, fun _ => rfl, h21, h22, h23, h24, h25, hB, hF, hG, hE25_3, hE25_8, hE25_14, hE14_13, hE25_24, hE24_19, hE24_23, hW3, hW8, hW13, hW19, hW23, hW25⟩
        · obtain rfl := Option.some.inj hi
          clear hi hil
          refine wpOp_step rfl (fun K hK => ?_)
          have HKK := Lib.hid hK; clear hK
          simp only [putAll, Act.put, List.setIfInBounds_toArray, List.set_cons_zero, List.set_cons_succ]
          go_simp
          exact HKK.out _ _ ⟨_, by simp only [putAll, Act.put, List.setIfInBounds_toArray, List.set_cons_zero, List.set_cons_succ] <;> rfl, h0, h1, h2, h3, h4, h5, h6, h7, h8, h9, h10, h11, h12, h13, h14, h15, h16, h17, h18, h19, h20, fun _ => rfl, h22, h23, h24, h25, hB, hF, hG, hE25_3, hE25_8, hE25_14, hE14_13, hE25_24, hE24_19, hE24_23, hW3, hW8, hW13, hW19, hW23, hW25⟩
        · obtain rfl := Option.some.inj hi
          clear hi hil
          have d20 := h20 (hall ⟨20, .data⟩ (by simp) rfl)
          have d21 := h21 (hall ⟨21, .data⟩ (by simp) rfl)
          refine wpOp_step rfl (fun K hK => ?_)
          have HKK := Lib.hid hK; clear hK
          simp only [putAll, Act.put, List.setIfInBounds_toArray, List.set_cons_zero, List.set_cons_succ]
          go_simp
          exact HKK.out _ _ ⟨_, by simp only [putAll, Act.put, List.setIfInBounds_toArray, List.set_cons_zero, List.set_cons_succ, d20, d21] <;> rfl, h0, h1, h2, h3, h4, h5, h6, h7, h8, h9, h10, h11, h12, h13, h14, h15, h16, h17, h18, h19, h20, h21, fun _ => rfl, h23, h24, h25, hB, hF, hG, hE25_3, hE25_8, hE25_14, hE14_13, hE25_24, hE24_19, hE24_23, hW3, hW8, hW13, hW19, hW23, hW25⟩
        · obtain rfl := Option.some.inj hi
          clear hi hil
          have hap : b' 26 = false := by
            cases hz : b' 26 with
            | false => rfl
            | true => exact absurd (hW23 hz) (by rw [hun]; decide)
          have d22 := h22 (hall ⟨22, .data⟩ (by simp) rfl)
          have c0 := (HIN.out w' (hF hap).out.1).1
          refine wpOp_step rfl (fun K hK => ?_)
          have HKK := Lib.hid hK; clear hK
          simp only [putAll, Act.put, List.setIfInBounds_toArray, List.set_cons_zero, List.set_cons_succ]
          go_simp
          exact HKK.out _ _ ⟨_, by simp only [putAll, Act.put, List.setIfInBounds_toArray, List.set_cons_zero, List.set_cons_succ, d22] <;> rfl, h0, h1, h2, h3, h4, h5, h6, h7, h8, h9, h10, h11, h12, h13, h14, h15, h16, h17, h18, h19, h20, h21, h22, fun _ => rfl, h24, h25, hB, hF, hG, hE25_3, hE25_8, hE25_14, hE14_13, hE25_24, hE24_19, fun _ => rfl, hW3, hW8, hW13, hW19, fun _ => rfl, hW25⟩
        · obtain rfl := Option.some.inj hi
          clear hi hil
          have d19 := h19 (hall ⟨19, .data⟩ (by simp) rfl)
          have d23 := h23 (hall ⟨23, .data⟩ (by simp) rfl)
          refine wpOp_step rfl (fun K hK => ?_)
          have HKK := Lib.hid hK; clear hK
          simp only [putAll, Act.put, List.setIfInBounds_toArray, List.set_cons_zero, List.set_cons_succ]
          go_simp
          exact HKK.out _ _ ⟨_, by simp only [putAll, Act.put, List.setIfInBounds_toArray, List.set_cons_zero, List.set_cons_succ, d19, d23, E3.out] <;> rfl, h0, h1, h2, h3, h4, h5, h6, h7, h8, h9, h10, h11, h12, h13, h14, h15, h16, h17, h18, h19, h20, h21, h22, h23, fun _ => rfl, h25, hB, hF, hG, hE25_3, hE25_8, hE25_14, hE14_13, fun _ => rfl, fun _ => hall ⟨19, .data⟩ (by simp) rfl, fun _ => hall ⟨23, .data⟩ (by simp) rfl, hW3, hW8, hW13, hW19, hW23, hW25⟩
        · obtain rfl := Option.some.inj hi
          clear hi hil
          have hap : b' 26 = false := by
            cases hz : b' 26 with
            | false => rfl
            | true => exact absurd (hW25 hz) (by rw [hun]; decide)
          have d3 := h3 (hall ⟨3, .data⟩ (by simp) rfl)
          have d8 := h8 (hall ⟨8, .data⟩ (by simp) rfl)
          have d14 := h14 (hall ⟨14, .data⟩ (by simp) rfl)
          have d24 := h24 (hall ⟨24, .data⟩ (by simp) rfl)
          refine wpOp_step rfl (fun K hK => ?_)
          have HKK := Lib.hid hK; clear hK
          simp only [putAll, Act.put, List.setIfInBounds_toArray, List.set_cons_zero, List.set_cons_succ]
          go_simp
          refine (HPC.out _).mono ?_
          rintro e w2 ⟨rfl, hb2⟩
          exact HKK.out _ _ ⟨_, by simp only [putAll, Act.put, List.setIfInBounds_toArray, List.set_cons_zero, List.set_cons_succ, d3, d8, d14, d24] <;> rfl, h0, h1, h2, h3, h4, h5, h6, h7, h8, h9, h10, h11, h12, h13, h14, h15, h16, h17, h18, h19, h20, h21, h22, h23, h24, fun _ => rfl, fun ha => Lib.hid ⟨(hB ha).out.1.trans (hb2.mono (hB ha).out.2), Nat.le_trans (hB ha).out.2 hb2.size⟩, fun ha => Lib.hid (⟨(hF ha).out.1.trans (hb2.mono (hF ha).out.1.size), (hF ha).out.2.grow hb2⟩), fun h => absurd (show b' 26 = true from h) (by rw [hap]; decide), fun _ => hall ⟨3, .data⟩ (by simp) rfl, fun _ => hall ⟨8, .data⟩ (by simp) rfl, fun _ => hall ⟨14, .data⟩ (by simp) rfl, hE14_13, fun _ => hall ⟨24, .data⟩ (by simp) rfl, hE24_19, hE24_23, hW3, hW8, hW13, hW19, hW23, fun _ => rfl⟩
        · obtain rfl := Option.some.inj hi
          clear hi hil
          have hap : b' 26 = false := hun
          have d25 := h25 (hall ⟨25, .data⟩ (by simp) rfl)
          have k4 := (hF hap).out.2
          have c0 := k4.p0
          have c1 := k4.p1
          have f0 := k4.free 0
          have f1 := k4.free 1
          have lg := k4.lt
          clear k4
          refine wpOp_step rfl (fun K hK => ?_)
          have HKK := Lib.hid hK; clear hK
          simp only [putAll, Act.put, List.setIfInBounds_toArray, List.set_cons_zero, List.set_cons_succ]
          go_simp
          exact HKK.out _ _ ⟨undef, by simp only [putAll, Act.put, List.setIfInBounds_toArray, List.set_cons_zero, List.set_cons_succ, d25] <;> rfl, h0, h1, h2, h3, h4, h5, h6, h7, h8, h9, h10, h11, h12, h13, h14, h15, h16, h17, h18, h19, h20, h21, h22, h23, h24, h25, fun h => Bool.noConfusion h, fun h => Bool.noConfusion h, fun _ => Lib.hid (⟨below_two (hF hap).out.1 (Nat.le_refl _) _ _, (hF hap).out.2.setP _ _⟩), hE25_3, hE25_8, hE25_14, hE14_13, hE25_24, hE24_19, hE24_23, fun _ => hE25_3 (hall ⟨25, .data⟩ (by simp) rfl), fun _ => hE25_8 (hall ⟨25, .data⟩ (by simp) rfl), fun _ => hE14_13 (hE25_14 (hall ⟨25, .data⟩ (by simp) rfl)), fun _ => hE24_19 (hE25_24 (hall ⟨25, .data⟩ (by simp) rfl)), fun _ => hE24_23 (hE25_24 (hall ⟨25, .data⟩ (by simp) rfl)), fun _ => hall ⟨25, .data⟩ (by simp) rfl⟩
        · omega
      · rintro b' vs w2 hall ⟨h0, h1, h2, h3, h4, h5, h6, h7, h8, h9, h10, h11, h12, h13, h14, h15, h16, h17, h18, h19, h20, h21, h22, h23, h24, h25, hB, hF, hG, hE25_3, hE25_8, hE25_14, hE14_13, hE25_24, hE24_19, hE24_23, hW3, hW8, hW13, hW19, hW23, hW25⟩
        have d0 := h0 (hall 0 (by simp))
        have d1 := h1 (hall 1 (by simp))
        have d2 := h2 (hall 2 (by simp))
        have d3 := h3 (hall 3 (by simp))
        have d4 := h4 (hall 4 (by simp))
        have d5 := h5 (hall 5 (by simp))
        have d6 := h6 (hall 6 (by simp))
        have d7 := h7 (hall 7 (by simp))
        have d8 := h8 (hall 8 (by simp))
        have d9 := h9 (hall 9 (by simp))
        have d10 := h10 (hall 10 (by simp))
        have d11 := h11 (hall 11 (by simp))
        have d12 := h12 (hall 12 (by simp))
        have d13 := h13 (hall 13 (by simp))
        have d14 := h14 (hall 14 (by simp))
        have d15 := h15 (hall 15 (by simp))
        have d16 := h16 (hall 16 (by simp))
        have d17 := h17 (hall 17 (by simp))
        have d18 := h18 (hall 18 (by simp))
        have d19 := h19 (hall 19 (by simp))
        have d20 := h20 (hall 20 (by simp))
        have d21 := h21 (hall 21 (by simp))
        have d22 := h22 (hall 22 (by simp))
        have d23 := h23 (hall 23 (by simp))
        have d24 := h24 (hall 24 (by simp))
        have d25 := h25 (hall 25 (by simp))
        have GG := hG (hall 26 (by simp))
        simp only [putAll, Act.put, List.setIfInBounds_toArray, List.set_cons_zero, List.set_cons_succ, d0, d1, d2, d3, d4, d5, d6, d7, d8, d9, d10, d11, d12, d13, d14, d15, d16, d17, d18, d19, d20, d21, d22, d23, d24, d25]
        clear hall h0 d0 h1 d1 h2 d2 h3 d3 h4 d4 h5 d5 h6 d6 h7 d7 h8 d8 h9 d9 h10 d10 h11 d11 h12 d12 h13 d13 h14 d14 h15 d15 h16 d16 h17 d17 h18 d18 h19 d19 h20 d20 h21 d21 h22 d22 h23 d23 h24 d24 h25 d25 hB hF hG hE25_3 hE25_8 hE25_14 hE14_13 hE25_24 hE24_19 hE24_23 hW3 hW8 hW13 hW19 hW23 hW25
        go_wp2_with fail
        exact bodyPost_ret (results_two 6 (.inr rfl) rfl rfl GG.out.2) rfl ⟨by rw [HRE.out], GG.out.1⟩
end Go.Proofs.Ytclkkdhfdoidfaa
