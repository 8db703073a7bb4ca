/- Layer 13: the law FrameCut. -/
import Derived.Test.YteobffggfcmghaaDoorVl
import Derived.Test.YteobffggfcmghaaDoorVf
import Derived.Test.YteobffggfcmghaaDoorUj
import Derived.Test.YteobffggfcmghaaDoorUk
namespace Go.Proofs.YteobffggfcmghaaDoor
open Go.RowKit
def OwnI (w : World) (base : Nat) (v : Value) (E : List Int) : Prop := w.ownsRow base 3 1 v E.length (E.map (Value.int .i64))
theorem infoI12 : (Tryd.prog.info? 3).map (fun i => (i.zero, i.size, i.bytes)) = some (some (.int .i64 0), 1, 8) := by kernel_rfl
abbrev intV (E : List Int) : List Value := E.map (Value.int .i64)
theorem run_append_ints (w : World) (t ty : TypeId) (ht : Tryd.prog.underlying t = some (.slice 3)) (base : Nat) (v : Value) (E : List Int) (hown : OwnI w base v E) (ad : Addr) (k c : Nat) (Y : List Int) (hk : Y.length = k) (hx : ∀ j u, (intV Y)[j]? = some u → w.cell? (ad.add j) = some u) (hl : E.length + k ≤ 100000) (hbase : base ≤ w.heap.size) :
    ∃ v' w', (Builtin.append_ #[t, t] ty #[v, .slice (some ad) k c]).run Tryd.prog w = .ok v' w' ∧ OwnI w' base v' (E ++ Y) ∧ w.grownBy w' v.ownBlock ∧ Moved w v v' := by
  obtain ⟨i, hi, hz0, hz1, hz2⟩ := info_parts infoI12
  obtain ⟨m, hm⟩ : ∃ m, E.length = m := ⟨_, rfl⟩
  unfold OwnI at hown ⊢
  rw [hm] at hown hl
  have hn : (intV Y).length = k * 1 := by rw [List.length_map]; omega
  have h1 : ∀ u ∈ intV Y, u.oneCell' = true := fun u hu => by obtain ⟨x, _, rfl⟩ := List.mem_map.1 hu; rfl
  have key : ∀ b, w.ownsRow b 3 1 v m (intV E) → b ≤ w.heap.size → _ := fun b ho hb => run_append_own (P := Tryd.prog) w b t ty 3 i (.int .i64 0) 1 8 ht hi hz0 hz1 hz2 rfl (by decide) v m (intV E) ho ad k c (intV Y) hn hx h1 (by unfold maxLen; omega) (by omega) hb
  obtain ⟨v', w', hr, ho, hg, _⟩ := key base hown hbase
  have hfin : w'.ownsRow base 3 1 v' (E ++ Y).length (intV (E ++ Y)) := by
    rw [List.length_append, hm, hk, show intV (E ++ Y) = intV E ++ intV Y from List.map_append]
    exact ho
  refine ⟨v', w', hr, hfin, hg, ?_⟩
  have hlen := hown.1
  rcases hown.2 with ⟨rfl, h0⟩ | ⟨g, cap, cur, rfl, hb, hgg, hc, hmm, hs, htk⟩
  · subst h0
    have hxs : intV E = [] := List.eq_nil_of_length_eq_zero (by omega)
    obtain ⟨v2, w2, hr2, ho2, _, _⟩ := key w.heap.size (by rw [hxs]; exact World.ownsRow_nil _ _ _ _) (Nat.le_refl _)
    obtain ⟨rfl, rfl⟩ := ok_inj hr hr2
    cases hv : v'.ownBlock with
    | none => exact .inl hv
    | some q => exact .inr ⟨q, hv, (ho2.lt q hv).1⟩
  · by_cases hroom : m + k ≤ cap
    · obtain ⟨w2, hr2, _⟩ := run_append_fits (P := Tryd.prog) w base t ty 3 i 1 ht hi hz1 g m cap (intV E) hown ad k c (intV Y) hn hx h1 hroom
      obtain ⟨rfl, _⟩ := ok_inj hr hr2
      exact .inl rfl
    · have hr2 := run_append_grow (P := Tryd.prog) w t ty 3 i _ ht hi hz0 ⟨g, 0, none⟩ m cap (intV E) (by rw [hlen, hz1]) (fun j u hj => by have := hown.cells (g := g) rfl j u hj; exact this) ad k c (intV Y) (by rw [hn, hz1]) hx (by omega) (by omega) (by rw [hz2]; exact growslice_fits (by omega) (by omega))
      obtain ⟨rfl, _⟩ := ok_inj hr hr2
      exact .inr ⟨_, rfl, Nat.le_refl _⟩
theorem wpList_append_ints {w : World} {ops : Array Oper} {rest : List Oper} {o : Oper} {a : Act} {Q : Exit → Act → World → Prop} (hgd : o.guard = none) (s x : Operand) (t : TypeId)
    (ho : o.op = .call { callee := .builtin .append, args := #[s, x], argTypes := #[t, t] }) (ht : Tryd.prog.underlying t = some (.slice 3))
    (base : Nat) (v : Value) (E : List Int) (hs : a.eval s = v) (hown : OwnI w base v E) (ad : Addr) (k c : Nat) (Y : List Int) (hxe : a.eval x = .slice (some ad) k c) (hk : Y.length = k) (hx : ∀ j u, (intV Y)[j]? = some u → w.cell? (ad.add j) = some u) (hl : E.length + k ≤ 100000) (hbase : base ≤ w.heap.size)
    (h : ∀ v' w', OwnI w' base v' (E ++ Y) → w.grownBy w' v.ownBlock → Moved w v v' → wpList Tryd.prog ops Q rest (a.put o.dst v') w') : wpList Tryd.prog ops Q (o :: rest) a w := by
  refine wpList_plain hgd fun K hK => ?_
  obtain ⟨v', w', hr, h2, h3, h4⟩ := run_append_ints w t o.type ht base v E hown ad k c Y hk hx hl hbase
  unfold Oper.wp
  simp [execOp, ho, resolve, invoke, builtin, hs, hxe, hr, Result.andThen]
  exact hK _ _ (h v' w' h2 h3 h4)
theorem w_7 {k : Nat} (h : k ≤ 60000) : wrap64 (7 + (k : Int)) = ((7 + k : Nat) : Int) := by rw [wrapR _ (by omega) (by omega)]; omega
theorem le_sum {a b k p : Nat} (h1 : a ≤ 217 * k) (h2 : b = 17 + p) (hk : k ≤ 30) (hp : p ≤ 200) : a + b ≤ 100000 := by omega
theorem le_bnd {a k : Nat} (h1 : a ≤ 217 * k) (hk : k ≤ 30) : a ≤ 60000 := by omega
theorem le_one {k : Nat} (h : k ≤ 30) : k + 1 ≤ 100000 := by omega
/-- Where frames end that stand one behind the other. -/
def endsI (L : List (List Int)) (k : Nat) : List Int := (List.range k).map fun j => ((framesB 0 (L.take (j + 1))).length : Int)
theorem endsI_len (L : List (List Int)) (k : Nat) : (endsI L k).length = k := by simp [endsI]
theorem endsI_succ (L : List (List Int)) (k : Nat) : endsI L (k + 1) = endsI L k ++ [((framesB 0 (L.take (k + 1))).length : Int)] := by
  unfold endsI; rw [List.range_succ, List.map_append]; rfl
theorem endsI_at {L : List (List Int)} {k j : Nat} (h : j < k) : (endsI L k)[j]? = some ((framesB 0 (L.take (j + 1))).length : Int) := by
  unfold endsI
  rw [List.getElem?_map, List.getElem?_range h]; rfl
abbrev datas (S : List (Value × List Int)) : List (List Int) := S.map Prod.snd
theorem OwnI.at {w : World} {base : Nat} {a : Option Addr} {n c : Nat} {E : List Int} (h : OwnI w base (.slice a n c) E) {i : Nat} {x : Int} (hx : E[i]? = some x) : ∃ g, a = some ⟨g, 0, none⟩ ∧ g < w.heap.size ∧ w.cell? ⟨g, i, none⟩ = some (.int .i64 x) := by
  have ho := h
  obtain ⟨_, ⟨e, h0⟩ | ⟨g, cap, cur, e, _, hg, _⟩⟩ := h
  · have := (List.getElem?_eq_some_iff.1 hx).1; omega
  · cases e
    refine ⟨g, rfl, (Array.getElem?_eq_some_iff.1 hg).1, ?_⟩
    have key := World.ownsRow.cells ho (g := g) rfl i (.int .i64 x) (by rw [List.getElem?_map, hx]; rfl)
    rw [Addr.add_lit, Nat.zero_add] at key
    exact key
theorem OwnI.shape {w : World} {base : Nat} {v : Value} {E : List Int} (h : OwnI w base v E) : ∃ a c, v = .slice a E.length c := by
  obtain ⟨_, ⟨rfl, h0⟩ | ⟨g, cap, cur, rfl, _⟩⟩ := h
  · exact ⟨none, 0, by rw [h0]⟩
  · exact ⟨_, _, rfl⟩
/-- Frames so far, and where they end. -/
structure CutSt (w wr : World) (L : List (List Int)) (k : Nat) (v5 v6 : Value) : Prop where
  all : OwnB wr w.heap.size v5 (framesB 0 (L.take k))
  ends : OwnI wr w.heap.size v6 (endsI L k)
  below : Below w.heap.size w wr
theorem OwnI.grow {w w' : World} {base : Nat} {v : Value} {E : List Int} (h : OwnI w base v E) (hb : Below w.heap.size w w') : OwnI w' base v E := owns_keep h (Keep.of_below (S := fun _ => True) hb) (fun _ _ => trivial)
theorem CutSt.grow {w wr w' : World} {L : List (List Int)} {k : Nat} {v5 v6 : Value} (h : CutSt w wr L k v5 v6) (hb : Below wr.heap.size wr w') : CutSt w w' L k v5 v6 := ⟨h.all.grow hb, h.ends.grow hb, h.below.trans (hb.mono h.below.size)⟩
theorem owns_two {w w' : World} {base : Nat} {u v : Value} {E X : List Int} (hE : OwnB w base u E) (hX : OwnI w base v X) : (w.grownBy w' u.ownBlock → OwnI w' base v X) ∧ (w.grownBy w' v.ownBlock → OwnB w' base u E) := by
  have hap := apart_types hE hX (by decide)
  have off : ∀ k, v.ownBlock = some k → u.ownBlock ≠ some k := fun k e e2 => hap.elim (fun q => by rw [e2] at q; cases q) (fun q => q (by rw [e, e2]))
  exact ⟨fun hg => owns_keep hX (Keep.of_grown hg) fun k e => off k e, fun hg => owns_keep hE (Keep.of_grown hg) fun k e e2 => off k e2 e⟩
/-- Where the first frames end. -/
def posI (L : List (List Int)) (j : Nat) : Nat := (framesB 0 (L.take j)).length
theorem posI_zero (L : List (List Int)) : posI L 0 = 0 := by unfold posI; rw [List.take_zero]; rfl
theorem posI_succ {L : List (List Int)} {j : Nat} {E : List Int} (h : L[j]? = some E) : posI L (j + 1) = posI L j + (17 + E.length) := by
  unfold posI
  rw [take_snoc h, framesB_snoc, List.length_append, frameI_len]
/-- How far the count of whole frames is. -/
def CountAt (L : List (List Int)) (t j : Nat) : Prop := posI L j ≤ t ∧ cutN L t = (j + (cutN (L.drop j) (t - posI L j)).1, posI L j + (cutN (L.drop j) (t - posI L j)).2)
theorem CountAt.start (L : List (List Int)) (t : Nat) : CountAt L t 0 := by
  unfold CountAt
  rw [posI_zero, List.drop_zero, Nat.sub_zero, Nat.zero_add, Nat.zero_add]
  exact ⟨Nat.zero_le _, rfl⟩
theorem CountAt.step {L : List (List Int)} {t j : Nat} {E : List Int} (h : CountAt L t j) (hE : L[j]? = some E) (ht : posI L (j + 1) ≤ t) : CountAt L t (j + 1) := by
  have hp := posI_succ hE
  refine ⟨ht, ?_⟩
  rw [h.2, drop_cons hE, cutN, if_pos (by have := h.1; omega)]
  have e : t - posI L j - (17 + E.length) = t - posI L (j + 1) := by omega
  rw [e, hp]
  refine Prod.ext ?_ ?_
  · show j + (1 + _) = j + 1 + _
    omega
  · show posI L j + (17 + E.length + _) = posI L j + (17 + E.length) + _
    omega
theorem CountAt.stop {L : List (List Int)} {t j : Nat} (h : CountAt L t j) (hs : ∀ E, L[j]? = some E → t < posI L (j + 1)) : cutN L t = (j, posI L j) := by
  rw [h.2]
  cases hE : L[j]? with
  | none =>
    rw [List.drop_eq_nil_of_le (List.getElem?_eq_none_iff.1 hE)]
    rfl
  | some E =>
    have hp := posI_succ hE
    have := hs E hE
    rw [drop_cons hE, cutN, if_neg (by have := h.1; omega)]
    rfl
set_option maxHeartbeats 8000000 in
set_option maxRecDepth 100000 in
theorem cut_law (s : Value) (S : List (Value × List Int)) (cut : Int) (w : World) (hrd : Rd w) (rowS : TxtR w s S) : Calls Tryd.prog 6 #[s, .int .i64 cut] w fun e w' => e = .returned (.bool true) ∧ Below w.heap.size w w' := by
  obtain ⟨bo, bc, rfl⟩ := rowS.shape
  obtain ⟨m, hm⟩ : ∃ m, S.length = m := ⟨_, rfl⟩
  rw [hm] at rowS ⊢
  have HM := Lib.hid hm
  have HS := Lib.hid rowS
  have HRD := Lib.hid hrd
  clear rowS hrd hm
  by_cases hb2 : m > 30
  · have d2 : decide ((m : Int) > 30) = true := by simp; omega
    have d2' : decide (30 < m) = true := by simp; omega
    clear hb2
    go_enter Tryd.func6, Tryd.ntmps6
    go_wp2_with fail
    refine (awake13_c w HRD.out).mono ?_
    rintro e w1 ⟨rfl, hb⟩
    have H1 := Lib.hid hb
    clear hb
    go_wp2_with fail
    go_ret
    exact ⟨rfl, H1.out⟩
  have d2 : decide ((m : Int) > 30) = false := by simp; omega
  have d2' : decide (30 < m) = false := by simp; omega
  have HB : Hid (m ≤ 30) := Lib.hid (by omega)
  clear hb2
  go_enter Tryd.func6, Tryd.ntmps6
  go_wp2_with fail
  clear d2 d2'
  go_loopw [5, 6, 23] (fun s5 s6 s23 wr => ∃ k : Nat, k ≤ m ∧ s23 = .int .i64 (k : Int) ∧ Hid (CutSt w wr (datas S) k s5 s6 ∧ ∀ x ∈ S.take k, x.2.length ≤ 200)) (fun _ _ s23 _ => m - (intOf s23).toNat)
  case atStart => exact ⟨0, by omega, rfl, ⟨World.ownsRow_nil _ _ _ _, World.ownsRow_nil _ _ _ _, Below.refl _ _⟩, fun x hx => by simp at hx⟩
  case round =>
    obtain ⟨k, hk, rfl, hw⟩ := hrel
    obtain ⟨st, hsm⟩ := hw.out
    have ST := Lib.hid st
    have HSM := Lib.hid hsm
    have hmm := HB.out
    have HAL : Hid ((framesB 0 ((datas S).take k)).length ≤ 217 * k) := by
      have h1 := framesB_len ((datas S).take k) 0 (fun E hE => by
        rw [← List.map_take] at hE
        obtain ⟨x, hx, rfl⟩ := List.mem_map.1 hE
        exact hsm x hx)
      rw [List.length_take, List.length_map, HM.out, Nat.min_eq_left hk] at h1
      exact h1
    clear hw st hsm
    by_cases hlt : k < m
    · have hd : decide ((k : Int) < (m : Int)) = true := by simp; omega
      have hki : (k : Int) < (m : Int) := by omega
      obtain ⟨x, hx⟩ : ∃ x, S[k]? = some x := ⟨_, List.getElem?_eq_getElem (by rw [HM.out]; exact hlt)⟩
      obtain ⟨xr, xo, xc⟩ := HS.out.2 x (List.mem_of_getElem? hx)
      obtain ⟨b, of, rfl, hb, hc⟩ := TxtR.at (HS.out.on ST.out.below) hx
      obtain ⟨v, E⟩ := x
      obtain ⟨va, vc, hv⟩ := xr.shape
      simp only at hv xr xo xc hc
      subst hv
      obtain ⟨p, hp⟩ : ∃ p, E.length = p := ⟨_, rfl⟩
      rw [hp] at hc xr hx
      have HX : Hid (S[k]? = some (.slice va p vc, E) ∧ RowB w (.slice va p vc) E ∧ OkB E ∧ E.length = p) := ⟨hx, xr, xo, hp⟩
      clear hx xr xo xc hb hp
      by_cases h200 : p > 200
      · have d3 : decide ((p : Int) > 200) = true := by simp; omega
        have d3' : decide (200 < p) = true := by simp; omega
        clear h200
        go_wp2_with fail
        refine (awake13_c wr (HRD.out.on ST.out.below)).mono ?_
        rintro e w1 ⟨rfl, hb⟩
        have H1 : Hid (Below w.heap.size w w1) := ST.out.below.trans (hb.mono ST.out.below.size)
        clear hb
        go_wp2_with fail
        go_ret
        exact ⟨rfl, H1.out⟩
      · have HP : Hid (p ≤ 200) := Lib.hid (by omega)
        have HF : Hid (Calls Tryd.prog 12 #[recA ((7 + k : Nat) : Int) (k : Int) (.slice va p vc)] wr fun e w' => ∃ v, e = .returned (.tuple #[v, .int .i64 0]) ∧ OwnB w' wr.heap.size v (frameI ((7 + k : Nat) : Int) (k : Int) E) ∧ Below wr.heap.size wr w') :=
          frame_c ((7 + k : Nat) : Int) (k : Int) _ E wr (HRD.out.on ST.out.below) (HX.out.2.1.on ST.out.below) HX.out.2.2.1 (by rw [HX.out.2.2.2]; have := HP.out; omega) ⟨by omega, by omega⟩ ⟨by omega, by omega⟩
        have hq7 : ((7 + k : Nat) : Int) = 7 + (k : Int) := by omega
        have HQ7 := Lib.hid hq7
        rw [hq7] at HF
        have D3 : Hid (decide ((p : Int) > 200) = false ∧ decide (200 < p) = false) := ⟨by simp; omega, by simp; omega⟩
        clear h200 hq7
        obtain ⟨d3, d3'⟩ := D3.out
        go_wp2_with fail
        clear d3 d3'
        refine (HF.out).mono ?_
        rintro e w1 ⟨v1, rfl, ho1, hb1⟩
        have H1 : Hid (CutSt w w1 (datas S) k u5 u6 ∧ RowB w1 v1 (frameI (7 + (k : Int)) (k : Int) E)) := ⟨ST.out.grow hb1, ho1.row⟩
        have HLE : Hid ((framesB 0 ((datas S).take k)).length + (frameI (7 + (k : Int)) (k : Int) E).length ≤ 100000) := le_sum HAL.out (by rw [frameI_len, HX.out.2.2.2]) (Nat.le_trans hk HB.out) HP.out
        clear ho1 hb1 HF hc
        have HD := Lib.hid hd
        clear hd
        go_wp2_with (at_builtin; refine wpList_append_row rfl _ _ 22 rfl Tryd.underlying22 w.heap.size _ (framesB 0 ((datas S).take k)) rfl H1.out.1.all v1 (frameI (7 + (k : Int)) (k : Int) E) rfl H1.out.2 HLE.out H1.out.1.below.size ?_)
        intro v2 w2 ho2 hg2 hm2
        have htk : (datas S).take (k + 1) = (datas S).take k ++ [E] := take_snoc (by rw [List.getElem?_map, HX.out.1]; rfl)
        have hfr : framesB 0 ((datas S).take (k + 1)) = framesB 0 ((datas S).take k) ++ frameI (7 + (k : Int)) (k : Int) E := by
          rw [htk, framesB_snoc, List.length_take, List.length_map, HM.out, Nat.min_eq_left hk, Nat.zero_add, HQ7.out]
        have H2 : Hid (OwnB w2 w.heap.size v2 (framesB 0 ((datas S).take (k + 1))) ∧ OwnI w2 w.heap.size u6 (endsI (datas S) k) ∧ Below w.heap.size w w2) := ⟨by rw [hfr]; exact ho2, (owns_two H1.out.1.all H1.out.1.ends).1 hg2, own_below H1.out.1.all hg2 H1.out.1.below (Nat.le_refl _) H1.out.1.below.size⟩
        clear ho2 hg2 hm2 htk hfr
        obtain ⟨a2, c2, hv2⟩ : ∃ a2 c2, v2 = .slice a2 (framesB 0 ((datas S).take (k + 1))).length c2 := H2.out.1.shape
        obtain ⟨l2, hl2⟩ : ∃ l, (framesB 0 ((datas S).take (k + 1))).length = l := ⟨_, rfl⟩
        have HL2 := Lib.hid hl2
        rw [hl2] at hv2
        subst hv2
        have HXX : Hid (∀ j u, (intV [(l2 : Int)])[j]? = some u → (w2.alloc (.cells #[.int .i64 (l2 : Int)] 3)).cell? ((⟨w2.heap.size, 0, none⟩ : Addr).add j) = some u) := fun j u hj => by
          match j, hj with
          | 0, hj => obtain rfl := Option.some.inj hj; rw [Addr.add_lit]; exact (Blk.new _ _ _).cell 0
          | j + 1, hj => simp at hj
        have H3 : Hid (OwnB (w2.alloc (.cells #[.int .i64 (l2 : Int)] 3)) w.heap.size (.slice a2 l2 c2) (framesB 0 ((datas S).take (k + 1))) ∧ OwnI (w2.alloc (.cells #[.int .i64 (l2 : Int)] 3)) w.heap.size u6 (endsI (datas S) k) ∧ Below w.heap.size w (w2.alloc (.cells #[.int .i64 (l2 : Int)] 3))) := ⟨H2.out.1.grow ((Below.refl _ _).alloc (Nat.le_refl _) _), H2.out.2.1.grow ((Below.refl _ _).alloc (Nat.le_refl _) _), H2.out.2.2.alloc H2.out.2.2.size _⟩
        have HLI : Hid ((endsI (datas S) k).length + 1 ≤ 100000) := (by rw [Hid, endsI_len]; exact le_one (Nat.le_trans hk HB.out))
        clear hl2
        go_wp2_with (at_builtin; refine wpList_append_ints rfl _ _ 45 rfl Tryd.underlying45 w.heap.size _ (endsI (datas S) k) rfl H3.out.2.1 ⟨w2.heap.size, 0, none⟩ 1 1 [(l2 : Int)] rfl rfl HXX.out HLI.out H3.out.2.2.size ?_)
        intro v4 w4 ho4 hg4 hm4
        have H4 : Hid (CutSt w w4 (datas S) (k + 1) (.slice a2 l2 c2) v4) := ⟨(owns_two H3.out.1 H3.out.2.1).2 hg4, by rw [endsI_succ, HL2.out]; exact ho4, own_below H3.out.2.1 hg4 H3.out.2.2 (Nat.le_refl _) H3.out.2.2.size⟩
        have HSM2 : Hid (∀ x ∈ S.take (k + 1), x.2.length ≤ 200) := fun x hx => by
          rw [take_snoc HX.out.1] at hx
          rcases List.mem_append.1 hx with hx | hx
          · exact HSM.out x hx
          · rw [List.mem_singleton] at hx
            subst hx
            show E.length ≤ 200
            rw [HX.out.2.2.2]; exact HP.out
        clear ho4 hg4 hm4 HXX H3 H2 H1
        go_wp2_with fail
        exact ⟨⟨k + 1, by omega, by go_num, H4.out, HSM2.out⟩, by simp [intOf]; omega⟩
    · have hd : decide ((k : Int) < (m : Int)) = false := by simp; omega
      have hkm : k = m := by omega
      subst hkm
      obtain ⟨A, hA⟩ : ∃ A, framesB 0 (datas S) = A := ⟨_, rfl⟩
      have hfull : (datas S).take k = datas S := List.take_of_length_le (by rw [List.length_map, HM.out]; exact Nat.le_refl _)
      have H200 : Hid (∀ E ∈ datas S, E.length ≤ 200) := fun E hE => by
        obtain ⟨x, hx, rfl⟩ := List.mem_map.1 hE
        have h := HSM.out
        rw [List.take_of_length_le (by rw [HM.out]; exact Nat.le_refl _)] at h
        exact h x hx
      have hst := ST.out
      have hal := HAL.out
      have hall := hst.all
      rw [hfull, hA] at hall
      rw [hfull, hA] at hal
      obtain ⟨aa, ac, rfl⟩ := hall.shape
      obtain ⟨la, hla⟩ : ∃ la, A.length = la := ⟨_, rfl⟩
      rw [hla] at hall hal ⊢
      have hends := hst.ends
      obtain ⟨ea, ec, rfl⟩ := hends.shape
      rw [endsI_len] at hends ⊢
      have HA : Hid (framesB 0 (datas S) = A ∧ A.length = la ∧ la ≤ 217 * k ∧ OkB A) := ⟨hA, hla, hal, by rw [← hA]; exact framesB_ok _ 0 (by rw [List.length_map, HM.out]; omega) (fun E hE => by obtain ⟨x, hx, rfl⟩ := List.mem_map.1 hE; exact (HS.out.2 x hx).2.1)⟩
      have HO : Hid (OwnB wr w.heap.size (.slice aa la ac) A ∧ OwnI wr w.heap.size (.slice ea k ec) (endsI (datas S) k) ∧ Below w.heap.size w wr) := ⟨hall, hends, hst.below⟩
      clear hst hal hall hends hA hla hfull hlt ST HSM HAL
      by_cases hc0 : cut < 0
      · have d3 : decide (cut < 0) = true := by simp; omega
        clear hc0
        go_wp2_with fail
        refine (awake13_c wr (HRD.out.on HO.out.2.2)).mono ?_
        rintro e w1 ⟨rfl, hb⟩
        have H1 : Hid (Below w.heap.size w w1) := HO.out.2.2.trans (hb.mono HO.out.2.2.size)
        clear hb
        go_wp2_with fail
        go_ret
        exact ⟨rfl, H1.out⟩
      obtain ⟨t, rfl⟩ : ∃ t : Nat, cut = (t : Int) := ⟨cut.toNat, by omega⟩
      have D3 : Hid (decide ((t : Int) < 0) = false) := by unfold Hid; simp
      by_cases hc1 : t > la
      · have d4 : decide ((t : Int) > (la : Int)) = true := by simp; omega
        have d4' : decide (la < t) = true := by simp; omega
        have d3 := D3.out
        clear hc0 hc1
        go_wp2_with fail
        refine (awake13_c wr (HRD.out.on HO.out.2.2)).mono ?_
        rintro e w1 ⟨rfl, hb⟩
        have H1 : Hid (Below w.heap.size w w1) := HO.out.2.2.trans (hb.mono HO.out.2.2.size)
        clear hb
        go_wp2_with fail
        go_ret
        exact ⟨rfl, H1.out⟩
      have HT : Hid (t ≤ la) := Lib.hid (by omega)
      have D4 : Hid (decide ((t : Int) > (la : Int)) = false ∧ decide (la < t) = false) := ⟨by simp; omega, by simp; omega⟩
      clear hc0 hc1
      obtain ⟨d4, d4'⟩ := D4.out
      have d3 := D3.out
      go_wp2_with fail
      clear d3 d4 d4'
      go_loopw [11, 12] (fun s11 s12 wz => ∃ j x : Nat, j ≤ k ∧ s11 = .int .i64 (j : Int) ∧ s12 = .int .i64 (x : Int) ∧ Hid (x = posI (datas S) j ∧ CountAt (datas S) t j) ∧ Hid (wz = wr)) (fun s11 _ _ => k - (intOf s11).toNat)
      case atStart => exact ⟨0, 0, Nat.zero_le _, rfl, rfl, ⟨(posI_zero _).symm, CountAt.start _ _⟩, rfl⟩
      case round =>
        obtain ⟨j, x, hj, rfl, rfl, hca, hw⟩ := hrel
        have hw' := hw.out
        subst hw'
        clear hw
        have hk30 := HB.out
        have fin : ∀ (_ : cutN (datas S) t = (j, posI (datas S) j)), Hid (cutN (datas S) t = (j, x)) := fun h => by rw [Hid, h, hca.out.1]
        by_cases hjk : j < k
        · have d1 : decide ((j : Int) < (k : Int)) = true := by simp; omega
          have d1' : decide (j < k) = true := by simp; omega
          have hji : (j : Int) < (k : Int) := by omega
          obtain ⟨E, hE⟩ : ∃ E, (datas S)[j]? = some E := ⟨_, List.getElem?_eq_getElem (by rw [List.length_map, HM.out]; exact hjk)⟩
          obtain ⟨g, rfl, hg, hc⟩ := HO.out.2.1.at (endsI_at (L := datas S) hjk)
          obtain ⟨y, hy⟩ : ∃ y, (framesB 0 ((datas S).take (j + 1))).length = y := ⟨_, rfl⟩
          have HY : Hid (posI (datas S) (j + 1) = y) := hy
          rw [hy] at hc
          by_cases hyt : y ≤ t
          · have d2 : decide ((y : Int) ≤ (t : Int)) = true := by simp; omega
            have d2' : decide (y ≤ t) = true := by simp; omega
            have HN : Hid (y = posI (datas S) (j + 1) ∧ CountAt (datas S) t (j + 1)) := ⟨HY.out.symm, hca.out.2.step hE (by rw [HY.out]; exact hyt)⟩
            clear hyt hy hE fin
            go_wp2_with fail
            exact ⟨⟨j + 1, y, hjk, by go_num, rfl, HN.out, Lib.hid trivial⟩, by simp [intOf]; omega⟩
          · have d2 : decide ((y : Int) ≤ (t : Int)) = false := by simp; omega
            have d2' : decide (y ≤ t) = false := by simp; omega
            have HCN := fin (hca.out.2.stop (fun E' hE' => by rw [HY.out]; omega))
            clear hyt hy hE fin
            have HAC : Hid (la ≤ ac) := HO.out.1.cap _ _ _ rfl
            have HTC : Hid (t ≤ ac) := Nat.le_trans HT.out HAC.out
            have HRW : Hid (RowB wr (.slice (cutA aa 0 t) t t) (A.take t)) := by
              have key := RowB.cutU HO.out.1.row HA.out.2.1 (l := 0) (k := t) (m := t) (by rw [Nat.zero_add]; exact HT.out) (by rw [Nat.zero_add]; exact Nat.le_refl _) HTC.out
              exact key
            have HLT : Hid ((A.take t).length = t) := by rw [Hid, List.length_take, HA.out.2.1]; exact Nat.min_eq_left HT.out
            have HBND : Hid (la ≤ 60000 ∧ t ≤ 60000) := ⟨le_bnd HA.out.2.2.1 HB.out, Nat.le_trans HT.out (le_bnd HA.out.2.2.1 HB.out)⟩
            have HSC1 : Hid (∃ R : List (Int × Int × List Int) × Nat, R.1.length = j ∧ R.2 = x ∧ Calls Tryd.prog 13 #[.slice (cutA aa 0 t) t t, .int .i64 7] wr (ScanQ wr 29 R)) := by
              have key := scan_c _ (A.take t) 7 wr (HRD.out.on HO.out.2.2) HRW.out (fun y hy => HA.out.2.2.2 y (List.mem_of_mem_take hy)) (capS_slice' (Nat.le_refl _)) (by rw [HLT.out]; exact HBND.out.2) ⟨by decide, by decide⟩
              have hsc := scan_cut (datas S) 0 [] t (t + 1) (by rw [List.length_map, HM.out, Nat.zero_add]; exact Nat.le_trans HB.out (by decide)) H200.out (by rw [HA.out.1, HA.out.2.1]; exact HT.out) (Nat.le_refl _)
              rw [HA.out.1, HCN.out, List.nil_append] at hsc
              rw [HLT.out] at key
              exact ⟨_, hsc.1, by have h := hsc.2; rw [List.length_nil, Nat.zero_add] at h; exact h, key⟩
            have HSC2 : Hid (∀ W, Below w.heap.size w W → RowB W (.slice aa la ac) A → Calls Tryd.prog 13 #[.slice aa la ac, .int .i64 8] W (ScanQ W 29 ([], 0))) := fun W hW hr => by
              have key := scan_c _ A 8 W (HRD.out.on hW) hr HA.out.2.2.2 (capS_slice' HAC.out) (by rw [HA.out.2.1]; exact HBND.out.1) ⟨by decide, by decide⟩
              have hso := scan_other (datas S) (A.length + 1) H200.out
              rw [HA.out.1] at hso
              rw [hso] at key
              exact key
            obtain ⟨R, HR1, HR2, hS1⟩ := HSC1.out
            have HSR := Lib.hid hS1
            have HRR := Lib.hid (And.intro HR1 HR2)
            clear HSC1 HR1 HR2 hS1
            go_upto_region 20 with fail
            clear d1 d1' d2 d2'
            go_wp2_with (refine wpList_cut rfl _ _ _ _ rfl aa la ac 0 t t t rfl (.inr ⟨rfl, rfl⟩) (.inl ⟨rfl, HTC.out, rfl⟩) (Nat.zero_le _) (Nat.le_refl _) rfl ?_)
            refine (HSR.out).mono ?_
            rintro e w1 ⟨v1, X, rfl, hX, hmX, hb1⟩
            obtain ⟨a1, c1, rfl⟩ := hX.shape
            have hXl : X.length = j := by
              have h := congrArg List.length hmX
              rw [List.length_map, HRR.out.1] at h
              exact h
            rw [hXl, HRR.out.2]
            have H1 : Hid (Below w.heap.size w w1 ∧ RowB w1 (.slice aa la ac) A) := ⟨HO.out.2.2.trans (hb1.mono HO.out.2.2.size), HO.out.1.row.on hb1⟩
            have HS2 := Lib.hid (HSC2.out w1 H1.out.1 H1.out.2)
            clear hX hmX hb1 hXl HSC2 HSR
            go_wp2_with fail
            refine (HS2.out).mono ?_
            rintro e w2 ⟨v2, Y, rfl, hY, hmY, hb2⟩
            obtain rfl : Y = [] := by
              have h := congrArg List.length hmY
              rw [List.length_map] at h
              exact List.eq_nil_of_length_eq_zero h
            obtain ⟨a3, c3, rfl⟩ := hY.shape
            have H2 : Hid (Below w.heap.size w w2) := H1.out.1.trans (hb2.mono H1.out.1.size)
            clear hY hmY hb2 HS2
            go_wp2_with fail
            refine (awake13_c _ (HRD.out.on H2.out)).mono ?_
            rintro e w4 ⟨rfl, hb⟩
            have H4 : Hid (Below w.heap.size w w4) := H2.out.trans (hb.mono H2.out.size)
            clear hb
            go_wp2_with fail
            go_ret
            exact ⟨rfl, H4.out⟩
        · have d1 : decide ((j : Int) < (k : Int)) = false := by simp; omega
          have d1' : decide (j < k) = false := by simp; omega
          have HCN := fin (hca.out.2.stop (fun E' hE' => by
            have := (List.getElem?_eq_some_iff.1 hE').1
            rw [List.length_map, HM.out] at this
            omega))
          clear hjk fin
          have HAC : Hid (la ≤ ac) := HO.out.1.cap _ _ _ rfl
          have HTC : Hid (t ≤ ac) := Nat.le_trans HT.out HAC.out
          have HRW : Hid (RowB wr (.slice (cutA aa 0 t) t t) (A.take t)) := by
            have key := RowB.cutU HO.out.1.row HA.out.2.1 (l := 0) (k := t) (m := t) (by rw [Nat.zero_add]; exact HT.out) (by rw [Nat.zero_add]; exact Nat.le_refl _) HTC.out
            exact key
          have HLT : Hid ((A.take t).length = t) := by rw [Hid, List.length_take, HA.out.2.1]; exact Nat.min_eq_left HT.out
          have HBND : Hid (la ≤ 60000 ∧ t ≤ 60000) := ⟨le_bnd HA.out.2.2.1 HB.out, Nat.le_trans HT.out (le_bnd HA.out.2.2.1 HB.out)⟩
          have HSC1 : Hid (∃ R : List (Int × Int × List Int) × Nat, R.1.length = j ∧ R.2 = x ∧ Calls Tryd.prog 13 #[.slice (cutA aa 0 t) t t, .int .i64 7] wr (ScanQ wr 29 R)) := by
            have key := scan_c _ (A.take t) 7 wr (HRD.out.on HO.out.2.2) HRW.out (fun y hy => HA.out.2.2.2 y (List.mem_of_mem_take hy)) (capS_slice' (Nat.le_refl _)) (by rw [HLT.out]; exact HBND.out.2) ⟨by decide, by decide⟩
            have hsc := scan_cut (datas S) 0 [] t (t + 1) (by rw [List.length_map, HM.out, Nat.zero_add]; exact Nat.le_trans HB.out (by decide)) H200.out (by rw [HA.out.1, HA.out.2.1]; exact HT.out) (Nat.le_refl _)
            rw [HA.out.1, HCN.out, List.nil_append] at hsc
            rw [HLT.out] at key
            exact ⟨_, hsc.1, by have h := hsc.2; rw [List.length_nil, Nat.zero_add] at h; exact h, key⟩
          have HSC2 : Hid (∀ W, Below w.heap.size w W → RowB W (.slice aa la ac) A → Calls Tryd.prog 13 #[.slice aa la ac, .int .i64 8] W (ScanQ W 29 ([], 0))) := fun W hW hr => by
            have key := scan_c _ A 8 W (HRD.out.on hW) hr HA.out.2.2.2 (capS_slice' HAC.out) (by rw [HA.out.2.1]; exact HBND.out.1) ⟨by decide, by decide⟩
            have hso := scan_other (datas S) (A.length + 1) H200.out
            rw [HA.out.1] at hso
            rw [hso] at key
            exact key
          obtain ⟨R, HR1, HR2, hS1⟩ := HSC1.out
          have HSR := Lib.hid hS1
          have HRR := Lib.hid (And.intro HR1 HR2)
          clear HSC1 HR1 HR2 hS1
          go_upto_region 20 with fail
          clear d1 d1'
          go_wp2_with (refine wpList_cut rfl _ _ _ _ rfl aa la ac 0 t t t rfl (.inr ⟨rfl, rfl⟩) (.inl ⟨rfl, HTC.out, rfl⟩) (Nat.zero_le _) (Nat.le_refl _) rfl ?_)
          refine (HSR.out).mono ?_
          rintro e w1 ⟨v1, X, rfl, hX, hmX, hb1⟩
          obtain ⟨a1, c1, rfl⟩ := hX.shape
          have hXl : X.length = j := by
            have h := congrArg List.length hmX
            rw [List.length_map, HRR.out.1] at h
            exact h
          rw [hXl, HRR.out.2]
          have H1 : Hid (Below w.heap.size w w1 ∧ RowB w1 (.slice aa la ac) A) := ⟨HO.out.2.2.trans (hb1.mono HO.out.2.2.size), HO.out.1.row.on hb1⟩
          have HS2 := Lib.hid (HSC2.out w1 H1.out.1 H1.out.2)
          clear hX hmX hb1 hXl HSC2 HSR
          go_wp2_with fail
          refine (HS2.out).mono ?_
          rintro e w2 ⟨v2, Y, rfl, hY, hmY, hb2⟩
          obtain rfl : Y = [] := by
            have h := congrArg List.length hmY
            rw [List.length_map] at h
            exact List.eq_nil_of_length_eq_zero h
          obtain ⟨a3, c3, rfl⟩ := hY.shape
          have H2 : Hid (Below w.heap.size w w2) := H1.out.1.trans (hb2.mono H1.out.1.size)
          clear hY hmY hb2 HS2
          go_wp2_with fail
          refine (awake13_c _ (HRD.out.on H2.out)).mono ?_
          rintro e w4 ⟨rfl, hb⟩
          have H4 : Hid (Below w.heap.size w w4) := H2.out.trans (hb.mono H2.out.size)
          clear hb
          go_wp2_with fail
          go_ret
          exact ⟨rfl, H4.out⟩
end Go.Proofs.YteobffggfcmghaaDoor
