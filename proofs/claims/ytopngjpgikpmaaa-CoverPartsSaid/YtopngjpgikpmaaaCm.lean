/- Layer 8: which inputs are small; the same polygons as the document's own; the fixed answers. -/
import Derived.Test.YtopngjpgikpmaaaCk
namespace Go.Proofs.Ytopngjpgikpmaaa
open Go.RowKit
/-- What a small input keeps to. -/
def Small (S : List (Value × List Pt)) (b : Bx) : Prop := S.length ≤ 60 ∧ (∀ x ∈ S, x.2.length ≤ 20) ∧ (winB b = true → (b.x1 - b.x0) * (b.y1 - b.y0) ≤ 40)
set_option maxHeartbeats 4000000 in
set_option maxRecDepth 100000 in
theorem small_c (s : Value) (S : List (Value × List Pt)) (x0 y0 x1 y1 : Int) (w : World) (row : PolyR w s S) :
    Calls Try.prog 9 #[s, .agg #[.int .i64 x0, .int .i64 y0, .int .i64 x1, .int .i64 y1]] w fun e w' => ∃ r, e = .returned (.bool r) ∧ (r = true → Small S ⟨x0, y0, x1, y1⟩) ∧ Below w.heap.size w w' := by
  have HW := Lib.hid (fun w => window_c x0 y0 x1 y1 w)
  have HWI := Lib.hid (winB_iff ⟨x0, y0, x1, y1⟩)
  obtain ⟨ao, c, rfl⟩ := row.shape
  obtain ⟨n, hn⟩ : ∃ n, S.length = n := ⟨_, rfl⟩
  rw [hn] at row ⊢
  have HN := Lib.hid hn; have HROW := Lib.hid row
  clear hn row
  go_enter Try.func9, Try.ntmps9
  go_wp2_with fail
  go_loopw [5, 10] (fun t i wr => ∃ (k T : Nat), k ≤ n ∧ k ≤ T ∧ T ≤ 60 ∧ t = .int .i64 T ∧ i = .int .i64 k ∧ Hid ((∀ x ∈ S.take k, x.2.length ≤ 20) ∧ Below w.heap.size w wr ∧ Blk wr w.heap.size 24 (four ⟨x0, y0, x1, y1⟩))) (fun _ i _ => n - (intOf i).toNat)
  case atStart => exact ⟨0, 0, by omega, by omega, by omega, rfl, rfl, by simp, (Below.refl _ _).alloc (Nat.le_refl _) _, Blk.new _ _ _⟩
  case round =>
    obtain ⟨k, T, hk, hkT, hT, rfl, rfl, hw⟩ := hrel
    by_cases hlt : k < n
    · have hd : decide ((k : Int) < (n : Int)) = true := by simp; omega
      obtain ⟨⟨v, l⟩, hq⟩ : ∃ q, S[k]? = some q := ⟨_, List.getElem?_eq_getElem (by rw [HN.out]; exact hlt)⟩
      have hm := List.mem_of_getElem? hq
      obtain ⟨b, o, rfl, hbs, c0⟩ := (HROW.out.on hw.out.2.1).at hq
      have hrow : Row wr v l := (HROW.out.2 _ hm).on hw.out.2.1
      obtain ⟨aq, cq, rfl⟩ := hrow.shape
      obtain ⟨m, hmm⟩ : ∃ m, l.length = m := ⟨_, rfl⟩
      simp only at c0
      rw [hmm] at c0
      have HQ := Lib.hid hq; have HM := Lib.hid hmm
      clear hq hm hbs hrow hmm
      by_cases hm20 : m ≤ 20
      · have hd2 : decide ((m : Int) > 20) = false := by simp; omega
        have htk : Hid (∀ x ∈ S.take (k + 1), x.2.length ≤ 20) := fun x hx => by
          rw [List.take_add_one, HQ.out] at hx
          rcases List.mem_append.1 hx with h | h
          · exact hw.out.1 x h
          · simp only [Option.toList, List.mem_singleton] at h
            subst h
            simp only
            rw [HM.out]; exact hm20
        by_cases ht60 : T + (m + 1) ≤ 60
        · have hd3 : decide ((T : Int) + ((m : Int) + 1) > 60) = false := by simp; omega
          go_wp2_with fail
          exact ⟨⟨k + 1, T + (m + 1), by omega, by omega, by omega, by go_num, by go_num, htk.out, hw.out.2⟩, by simp [intOf]; omega⟩
        · have hd3 : decide ((T : Int) + ((m : Int) + 1) > 60) = true := by simp; omega
          go_wp2_with fail
          go_ret
          exact ⟨_, rfl, fun h => (by cases h), hw.out.2.1⟩
      · have hd2 : decide ((m : Int) > 20) = true := by simp; omega
        go_wp2_with fail
        go_ret
        exact ⟨_, rfl, fun h => (by cases h), hw.out.2.1⟩
    · have hd : decide ((k : Int) < (n : Int)) = false := by simp; omega
      have HLN : Hid (S.length ≤ 60 ∧ ∀ x ∈ S, x.2.length ≤ 20) := by
        have h1 := hw.out.1
        rw [List.take_of_length_le (by rw [HN.out]; omega)] at h1
        exact ⟨by rw [HN.out]; omega, h1⟩
      have a0 := hw.out.2.2.b0
      have a1 := hw.out.2.2.b1
      have a2 := hw.out.2.2.b2
      have a3 := hw.out.2.2.b3
      obtain ⟨r, hr⟩ : ∃ r, winB ⟨x0, y0, x1, y1⟩ = r := ⟨_, rfl⟩
      have HR := Lib.hid hr
      rw [hr] at HW
      cases r
      · clear hr
        go_wp2_with fail
        refine (HW.out _).mono ?_
        rintro e w' ⟨rfl, rfl⟩
        go_wp2_with fail
        go_ret
        exact ⟨_, rfl, fun _ => ⟨HLN.out.1, HLN.out.2, fun h => absurd h (by rw [HR.out]; decide)⟩, hw.out.2.1⟩
      · have hb : x0 < x1 ∧ y0 < y1 ∧ -4194304 ≤ x0 ∧ x1 ≤ 4194304 ∧ -4194304 ≤ y0 ∧ y1 ≤ 4194304 ∧ x1 - x0 ≤ 256 ∧ y1 - y0 ≤ 256 := HWI.out.1 hr
        obtain ⟨q1, q2, q3, q4, q5, q6, q7, q8⟩ := hb
        have hmul : (x1 - x0) * (y1 - y0) ≤ 256 * 256 := Int.mul_le_mul q7 q8 (by omega) (by omega)
        have hmul0 : 0 ≤ (x1 - x0) * (y1 - y0) := Int.mul_nonneg (by omega) (by omega)
        have e0 : wrap64 ((x1 - x0) * (y1 - y0)) = (x1 - x0) * (y1 - y0) := wrapR _ (by omega) (by omega)
        clear hr hmul hmul0
        go_wp2_with fail
        refine (HW.out _).mono ?_
        rintro e w' ⟨rfl, rfl⟩
        go_wp2_with fail
        go_ret
        exact ⟨_, rfl, fun h => ⟨HLN.out.1, HLN.out.2, fun _ => by simpa using h⟩, hw.out.2.1⟩
theorem infoV8 : (Try.prog.info? 57).map (fun i => (i.zero, i.size, i.bytes)) = some (some (.slice none 0 0), 1, 24) := by kernel_rfl
theorem VRow.of_owns {w : World} {base : Nat} {t : TypeId} {v : Value} {xs : List Value} (h : w.ownsRow base t 1 v xs.length xs) : VRow w v xs := by
  obtain ⟨h1, ⟨rfl, h0⟩ | ⟨g, cap, cur, rfl, hb, hg, hc, hM, hs, ht⟩⟩ := h
  · have : xs = [] := List.eq_nil_of_length_eq_zero h0
    subst this
    exact .inl ⟨rfl, rfl⟩
  · refine .inr (.inr ⟨g, 0, cap, rfl, (Array.getElem?_eq_some_iff.1 hg).1, fun i x hx => ?_⟩)
    rw [Nat.zero_add, Joins.cell_of_block hg]
    have hi := (List.getElem?_eq_some_iff.1 hx).1
    rw [← ht, List.getElem?_take] at hx
    split at hx
    · simpa using hx
    · cases hx
theorem Polys.rows {w : World} {base : Nat} {tR tP : TypeId} {u : Value} {S : List (Value × List Pt)} (h : Polys w base tR tP u S) : PolyR w u S :=
  ⟨VRow.of_owns (by rw [List.length_map]; exact h.row), fun x hx => (h.own x hx).row⟩
set_option maxHeartbeats 4000000 in
set_option maxRecDepth 100000 in
/-- The same polygons, as the document's own: in memory of the call's own. -/
theorem refs8_c (s : Value) (S : List (Value × List Pt)) (w : World) (row : PolyR w s S) (hS : S.length ≤ 1000) (hSl : ∀ x ∈ S, x.2.length ≤ 1000) :
    Calls Try.prog 11 #[s] w fun e w' => ∃ u S', e = .returned u ∧ Polys w' w.heap.size 57 43 u S' ∧ S'.map Prod.snd = S.map Prod.snd ∧ Below w.heap.size w w' := by
  obtain ⟨ao, c, rfl⟩ := row.shape
  obtain ⟨n, hn⟩ : ∃ n, S.length = n := ⟨_, rfl⟩
  rw [hn] at row hS ⊢
  have HN := Lib.hid hn; have HROW := Lib.hid row; have HSS := Lib.hid hS; have HSL := Lib.hid hSl
  obtain ⟨m0, hm0⟩ : ∃ m, w.heap.size = m := ⟨_, rfl⟩
  have HM0 := Lib.hid hm0
  rw [hm0]
  clear hn row hS hSl hm0
  go_enter Try.func11, Try.ntmps11
  go_wp2_with fail
  go_loopw [3, 11] (fun x i wr => ∃ (k : Nat) (S' : List (Value × List Pt)), k ≤ n ∧ i = .int .i64 k ∧ Hid (Polys wr m0 57 43 x S' ∧ S'.map Prod.snd = (S.map Prod.snd).take k ∧ Below m0 w wr ∧ m0 ≤ wr.heap.size)) (fun _ i _ => n - (intOf i).toNat)
  case atStart => exact ⟨0, [], by omega, rfl, Polys.nil _ _ _ _, by simp, by rw [← HM0.out]; exact Below.refl _ _, by rw [HM0.out]; exact Nat.le_refl _⟩
  case round =>
    obtain ⟨k, S', hk, rfl, hw⟩ := hrel
    obtain ⟨w1, rfl⟩ : ∃ x, x = wr := ⟨_, rfl⟩
    obtain ⟨xa, xc, hxs⟩ := polys_shape hw.out.1
    subst hxs
    by_cases hlt : k < n
    · have hd : decide ((k : Int) < (n : Int)) = true := by simp; omega
      obtain ⟨⟨v, l⟩, hq⟩ : ∃ q, S[k]? = some q := ⟨_, List.getElem?_eq_getElem (by rw [HN.out]; exact hlt)⟩
      have hm := List.mem_of_getElem? hq
      obtain ⟨b, o, rfl, hbs, c0⟩ := (HROW.out.on (by rw [HM0.out]; exact hw.out.2.2.1)).at hq
      have hrow : Row w v l := HROW.out.2 _ hm
      have hPk : (S.map Prod.snd)[k]? = some l := by rw [List.getElem?_map, hq]; rfl
      have HLN : Hid (l.length ≤ 1000) := HSL.out _ hm
      obtain ⟨aq, cq, rfl⟩ := hrow.shape
      obtain ⟨m, hmm⟩ : ∃ m, l.length = m := ⟨_, rfl⟩
      rw [hmm] at hrow HLN c0
      have HM := Lib.hid hmm; have HRW := Lib.hid hrow; have HPK := Lib.hid hPk
      have hln := HLN.out
      have hss := HSS.out
      simp only at c0
      clear hq hm hbs hrow hPk hmm
      go_wp2_with fail
      have HO : Hid (Polys w1 m0 57 43 (.slice xa S'.length xc) S' ∧ S'.map Prod.snd = (S.map Prod.snd).take k ∧ Below m0 w w1 ∧ m0 ≤ w1.heap.size) := hw.out
      have hbl : ∀ B : Nat, B ≤ w.heap.size → m0 = B → B = m0 := fun _ _ h => h.symm
      clear hw hbl
      obtain ⟨sn, hsn⟩ : ∃ x, S'.length = x := ⟨_, rfl⟩
      have HSN := Lib.hid hsn
      rw [hsn] at HO ⊢
      clear hsn
      go_loopw [6, 17] (fun x i wr => ∃ j : Nat, j ≤ m ∧ i = .int .i64 j ∧ Hid (Own wr w1.heap.size 43 x (l.take j) ∧ Below w1.heap.size w1 wr)) (fun _ i _ => m - (intOf i).toNat)
      case atStart => exact ⟨0, by omega, rfl, Own.nil _ _ _, Below.refl _ _⟩
      case round =>
        obtain ⟨j, hj, rfl, hv⟩ := hrel
        by_cases hlt2 : j < m
        · have hd2 : decide ((j : Int) < (m : Int)) = true := by simp; omega
          have hbw : Below w.heap.size w wr := by
            rw [HM0.out]
            exact HO.out.2.2.1.trans (hv.out.2.mono HO.out.2.2.2)
          obtain ⟨b2, o2, rfl, hbs2, hpa⟩ := Row.addr HRW.out (k := j) (by rw [HM.out]; exact hlt2)
          obtain ⟨⟨px, py⟩, hp⟩ : ∃ p, l[j]? = some p := ⟨_, List.getElem?_eq_getElem (by rw [HM.out]; exact hlt2)⟩
          obtain ⟨c1, c2⟩ := (hpa.on hbw hbs2) j (px, py) hp
          have HQ := Lib.hid hp
          simp only at c1 c2
          clear hpa hp hbs2 hbw
          have hlen : (l.take j).length = j := by rw [List.length_take, HM.out]; omega
          have HLEN := Lib.hid hlen
          clear hlen
          have hs2 := hv.out.2.size
          have hO2 := (hv.out.1.grow ((Below.refl wr.heap.size wr).alloc (Nat.le_refl _) (.cells #[.int .i64 px, .int .i64 py] 39))).grow ((Below.refl _ _).alloc (Nat.le_refl _) (.cells #[.int .i64 px, .int .i64 py] 43))
          have HO2 := Lib.hid hO2
          have HRN : Hid (Row ((wr.alloc (.cells #[.int .i64 px, .int .i64 py] 39)).alloc (.cells #[.int .i64 px, .int .i64 py] 43)) (.slice (some ⟨wr.heap.size + 1, 0, none⟩) 1 1) [(px, py)]) := by
            have h := Row.new (wr.alloc (.cells #[.int .i64 px, .int .i64 py] 39)) [(px, py)] 43 #[.int .i64 px, .int .i64 py] 1 rfl rfl
            rw [World.size_alloc] at h
            exact h
          clear hO2
          go_wp2_with (at_builtin; refine wpList_append_pts rfl _ _ 57 43 rfl Try.underlying57 infoR w1.heap.size _ _ rfl HO2.out _ [(px, py)] rfl HRN.out ?c3 ?c5 ?_)
          case c3 => rw [HLEN.out]; simp; omega
          case c5 => simp; omega
          intro v' w5 hown hgrow _
          have O5 : Hid (Own w5 w1.heap.size 43 v' (l.take (j + 1))) := by
            have e1 : l.take (j + 1) = l.take j ++ [(px, py)] := by rw [List.take_add_one, HQ.out]; rfl
            rw [e1]; exact hown
          have B5 : Hid (Below w1.heap.size w1 w5) := own_below HO2.out hgrow ((hv.out.2.alloc hs2 _).alloc (by simp; omega) _) (Nat.le_refl _) (by simp; omega)
          clear hown hgrow
          go_wp2_with fail
          exact ⟨⟨j + 1, by omega, by go_num, O5.out, B5.out⟩, by simp [intOf]; omega⟩
        · have hd2 : decide ((j : Int) < (m : Int)) = false := by simp; omega
          have HJ : Hid (l.take j = l) := List.take_of_length_le (by rw [HM.out]; omega)
          obtain ⟨xa2, xn2, xc2, hxx⟩ := own_shape' hv.out.1
          subst hxx
          have hO3 : Hid (Own wr m0 43 (.slice xa2 xn2 xc2) l) := by
            have := hv.out.1
            rw [HJ.out] at this
            exact this.base HO.out.2.2.2
          have hP3 : Hid (Polys wr m0 57 43 (.slice xa sn xc) S') := HO.out.1.grow hv.out.2
          have hP4 : Hid (Polys (wr.alloc (.cells #[.slice xa2 xn2 xc2] 57)) m0 57 43 (.slice xa sn xc) S') := hP3.out.grow ((Below.refl _ _).alloc (Nat.le_refl _) _)
          have hs3 := hv.out.2.size
          have hs4 := HO.out.2.2.2
          have hsk : sn ≤ 1000 := by
            have := congrArg List.length HO.out.2.1
            rw [List.length_map, List.length_take, List.length_map, HSN.out, HN.out] at this
            omega
          go_wp2_with (at_builtin; refine wpList_append_poly rfl _ _ 27 57 rfl Try.underlying27 infoV8 m0 _ sn _ rfl (by have := hP4.out.row; rw [HSN.out] at this; exact this) ⟨wr.heap.size, 0, none⟩ 1 1 [.slice xa2 xn2 xc2] rfl rfl ?d1 ?d2 ?d3 ?d4 ?_)
          case d1 =>
            intro i u hi
            match i with
            | 0 =>
              cases hi
              exact (Blk.new wr 57 #[.slice xa2 xn2 xc2]).cell 0
            | i + 1 => simp at hi
          case d2 => intro u hu; rw [List.mem_singleton.1 hu]; rfl
          case d3 => omega
          case d4 => simp; omega
          intro v' w5 hown hgrow _
          have F1 : Hid (Polys w5 m0 57 43 v' (S' ++ [(.slice xa2 xn2 xc2, l)]) ∧ (S' ++ [((.slice xa2 xn2 xc2 : Value), l)]).map Prod.snd = (S.map Prod.snd).take (k + 1) ∧ Below m0 w w5 ∧ m0 ≤ w5.heap.size) := by
            have h1 : Polys w5 m0 57 43 v' (S' ++ [(.slice xa2 xn2 xc2, l)]) := hP4.out.more (by decide) hgrow (hO3.out.grow ((Below.refl _ _).alloc (Nat.le_refl _) _)) (by rw [HSN.out]; exact hown)
            have hB : Below m0 w wr := HO.out.2.2.1.trans (hv.out.2.mono HO.out.2.2.2)
            have hsz := hgrow.size
            simp at hsz
            refine ⟨h1, by rw [List.map_append, HO.out.2.1, List.take_add_one, HPK.out]; rfl, ?_, by omega⟩
            refine (hB.alloc (by omega) (.cells #[.slice xa2 xn2 xc2] 57)).trans ?_
            exact ⟨hgrow.os, hgrow.tape, hgrow.output, hgrow.size, fun i hi => hgrow.block i (by simp; omega) (fun e => by
              have := (hP4.out.row.lt i e.symm).1
              omega)⟩
          clear hown hgrow
          go_wp2_with fail
          exact ⟨⟨k + 1, _, by omega, by go_num, F1.out⟩, by simp [intOf]; omega⟩
    · have hd : decide ((k : Int) < (n : Int)) = false := by simp; omega
      have HT : Hid ((S.map Prod.snd).take k = S.map Prod.snd) := List.take_of_length_le (by rw [List.length_map, HN.out]; omega)
      go_wp2_with fail
      go_ret
      exact ⟨_, _, rfl, hw.out.1, by rw [hw.out.2.1, HT.out], hw.out.2.2.1⟩
end Go.Proofs.Ytopngjpgikpmaaa
