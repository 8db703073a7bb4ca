/- Layer 11: package image's Count, Equal. -/
import Derived.Test.YtoppmlfibllhlaaRd
import Derived.Test.YtoppmlfibllhlaaKf
import Derived.BigQuiet
namespace Go.Proofs.Ytoppmlfibllhlaa
open Go.RowKit
theorem eqC_comm (c d : Col) : eqC c d = eqC d c := by
  rw [Bool.eq_iff_iff, eqC_iff, eqC_iff]
  exact ⟨fun h i hi => (h i hi).symm, fun h i hi => (h i hi).symm⟩
set_option maxHeartbeats 2000000 in
set_option maxRecDepth 100000 in
theorem countOk : CountOk := by
  intro W H s l c w row hok hc hl hr
  obtain ⟨ao, cp, rfl⟩ := row.shape
  rw [count_is]
  obtain ⟨n, hn⟩ : ∃ n, l.length = n := ⟨_, rfl⟩
  have HN := Lib.hid hn
  have HL : Hid (n ≤ 400) := by rw [← hn]; exact hl
  rw [hn] at row ⊢
  have HROW := Lib.hid row
  clear row hok hc hl hr hn
  go_enter Try.func31, Try.ntmps31
  go_wp2_with fail
  obtain ⟨w1, hw1⟩ : ∃ WW, (w.alloc (.cells #[.int .i64 W, .int .i64 H, .slice ao n cp] 24)).alloc (.cells #[.int .u8 (c 0), .int .u8 (c 1), .int .u8 (c 2), .int .u8 (c 3)] 28) = WW := ⟨_, rfl⟩
  have P1 : Hid (Below w.heap.size w w1 ∧ Blk w1 (w.heap.size + 1) 28 (four fun i => .int .u8 (c i))) := by
    rw [← hw1]; exact ⟨((Below.refl _ _).alloc (Nat.le_refl _) _).alloc (by simp) _, Blk.newAt _ _ _ (by simp)⟩
  rw [hw1]
  clear hw1
  go_loopw [5, 11] (fun m i wr => ∃ k : Nat, k ≤ n ∧ i = .int .i64 k ∧ m = .int .i64 (cntTo l c k : Nat) ∧ Hid (Below w1.heap.size w1 wr)) (fun _ i _ => n - (intOf i).toNat)
  case atStart => exact ⟨0, by omega, rfl, rfl, Below.refl _ _⟩
  case round =>
    obtain ⟨k, hk, rfl, rfl, hw⟩ := hrel
    by_cases hlt : k < n
    · have hd : decide ((k : Int) < (n : Int)) = true := by simp; omega
      obtain ⟨p, hp⟩ : ∃ p, cAt l k = p := ⟨_, rfl⟩
      have HP := Lib.hid hp
      have B0 : Below w.heap.size w wr := P1.out.1.trans (hw.out.mono P1.out.1.size)
      obtain ⟨b, o, hs, hbs, hcs⟩ := RowK.addr (HROW.out.on B0) (by rw [HN.out]; omega)
      obtain ⟨c1, c2, c3, c4⟩ := hcs k p (by rw [← hp]; exact cAt_some (by rw [HN.out]; exact hlt))
      obtain rfl := hs
      have kb := P1.out.2.grow hw.out
      have y0 : ∀ x, (wr.alloc x).cell? ⟨w.heap.size + 1, 0, none⟩ = some (.int .u8 (c 0)) := fun x => (kb.alloc x).cell 0
      have y1 : ∀ x, (wr.alloc x).cell? ⟨w.heap.size + 1, 1, none⟩ = some (.int .u8 (c 1)) := fun x => (kb.alloc x).cell 1
      have y2 : ∀ x, (wr.alloc x).cell? ⟨w.heap.size + 1, 2, none⟩ = some (.int .u8 (c 2)) := fun x => (kb.alloc x).cell 2
      have y3 : ∀ x, (wr.alloc x).cell? ⟨w.heap.size + 1, 3, none⟩ = some (.int .u8 (c 3)) := fun x => (kb.alloc x).cell 3
      obtain ⟨r, hr⟩ : ∃ r, eqC c p = r := ⟨_, rfl⟩
      have HS : Hid (cntTo l c (k + 1) = cntTo l c k + if r then 1 else 0) := by unfold Hid; rw [cntTo_succ, hp, eqC_comm, hr]
      have q8 := equal8 c p
      rw [hr] at q8
      have HB2 : Hid (∀ x, Below w1.heap.size w1 (wr.alloc x)) := fun x => hw.out.trans (((Below.refl _ _).alloc (Nat.le_refl _) _).mono hw.out.size)
      have hcl := cntTo_le l c k
      have hl := HL.out
      obtain ⟨q, hq⟩ : ∃ q, cntTo l c k = q := ⟨_, rfl⟩
      rw [hq] at HS hcl ⊢
      have hkd : (k : Int) < (n : Int) := by omega
      have e1 : wrap64 ((q : Int) + 1) = ((q + 1 : Nat) : Int) := by rw [wrapR _ (by omega) (by omega)]; omega
      have HQ := Lib.hid hq
      clear hq hr hcs hbs B0 hp kb
      cases r
      · go_wp2_with fail
        exact ⟨⟨k + 1, by omega, by go_num, by rw [HS.out]; rfl, HB2.out _⟩, by simp [intOf]; omega⟩
      · go_wp2_with fail
        exact ⟨⟨k + 1, by omega, by go_num, by rw [HS.out]; simp, HB2.out _⟩, by simp [intOf]; omega⟩
    · have hd : decide ((k : Int) < (n : Int)) = false := by simp; omega
      have hkn : Hid (k = n) := by unfold Hid; omega
      go_wp2_with fail
      go_ret
      exact ⟨by have := hkn.out; subst this; rfl, P1.out.1.trans (hw.out.mono P1.out.1.size)⟩
set_option maxHeartbeats 2000000 in
set_option maxRecDepth 100000 in
theorem slEqual_c (s s' : Value) (l l' : List Col) (w : World) (row : RowK .u8 w s l) (row' : RowK .u8 w s' l') (hl : l.length ≤ 70000) (_hl' : l'.length ≤ 70000) :
    Calls Try.prog 52 #[s, s'] w fun e w' => ∃ r : Bool, e = .returned (.bool r) ∧ (r = true ↔ l.length = l'.length ∧ ∀ k, k < l.length → eqC (cAt l k) (cAt l' k) = true) ∧ Below w.heap.size w w' := by
  obtain ⟨ao, cp, rfl⟩ := row.shape
  obtain ⟨ao', cp', rfl⟩ := row'.shape
  have HROW := Lib.hid row
  have HROW' := Lib.hid row'
  obtain ⟨n, hn⟩ : ∃ n, l.length = n := ⟨_, rfl⟩
  obtain ⟨m, hm⟩ : ∃ m, l'.length = m := ⟨_, rfl⟩
  have HN := Lib.hid hn
  have HM := Lib.hid hm
  have HL : Hid (n ≤ 70000) := by rw [← hn]; exact hl
  rw [hn, hm]
  rw [hn] at HROW
  rw [hm] at HROW'
  clear row row' hl
  by_cases hnm : n = m
  · have HNM := Lib.hid hnm
    rw [← hnm] at HROW' ⊢
    clear hnm hn hm
    go_enter Try.func52, Try.ntmps52
    go_wp2_with fail
    go_loopw [13] (fun i wr => ∃ k : Nat, k ≤ n ∧ i = .int .i64 k ∧ Hid ((∀ j, j < k → eqC (cAt l j) (cAt l' j) = true) ∧ Below w.heap.size w wr)) (fun i _ => n - (intOf i).toNat)
    case atStart => exact ⟨0, by omega, rfl, fun j hj => absurd hj (by omega), Below.refl _ _⟩
    case round =>
      obtain ⟨k, hk, rfl, hw⟩ := hrel
      by_cases hlt : k < n
      · have hd : decide ((k : Int) < (n : Int)) = true := by simp; omega
        obtain ⟨p, hp⟩ : ∃ p, cAt l k = p := ⟨_, rfl⟩
        obtain ⟨q, hq⟩ : ∃ q, cAt l' k = q := ⟨_, rfl⟩
        obtain ⟨r, hr⟩ : ∃ r, eqC p q = r := ⟨_, rfl⟩
        have HR : Hid (eqC (cAt l k) (cAt l' k) = r) := by unfold Hid; rw [hp, hq, hr]
        obtain ⟨b, o, hs, hbs, hcs⟩ := RowK.addr (HROW.out.on (hw.out.2.trans (Below.refl _ _))) (by rw [HN.out]; omega)
        obtain ⟨b', o', hs', hbs', hcs'⟩ := RowK.addr (HROW'.out.on (hw.out.2.trans (Below.refl _ _))) (by rw [HM.out, ← HNM.out]; omega)
        obtain ⟨c1, c2, c3, c4⟩ := hcs k p (by rw [← hp]; exact cAt_some (by rw [HN.out]; exact hlt))
        obtain ⟨d1, d2, d3, d4⟩ := hcs' k q (by rw [← hq]; exact cAt_some (by rw [HM.out, ← HNM.out]; exact hlt))
        obtain rfl := hs
        obtain rfl := hs'
        have q8 := equal8 p q
        rw [hr] at q8
        have hl := HL.out
        have hkd : (k : Int) < (n : Int) := by omega
        clear hr hcs hcs' hbs hbs' hp hq
        cases r
        · go_wp2_with fail
          go_region
          go_wp2_with fail
          go_ret
          exact ⟨_, rfl, ⟨fun h => (by cases h), fun h => (by have := h.2 k hlt; rw [HR.out] at this; cases this)⟩, hw.out.2.trans ⟨rfl, rfl, rfl, Nat.le_refl _, fun _ _ => rfl⟩⟩
        · go_wp2_with fail
          go_region
          go_wp2_with fail
          exact ⟨⟨k + 1, by omega, by go_num, fun j hj => by
            rcases Nat.lt_or_ge j k with h | h
            · exact hw.out.1 j h
            · rw [show j = k by omega, HR.out], hw.out.2.trans ⟨rfl, rfl, rfl, Nat.le_refl _, fun _ _ => rfl⟩⟩, by simp [intOf]; omega⟩
      · have hd : decide ((k : Int) < (n : Int)) = false := by simp; omega
        have hkn : Hid (k = n) := by unfold Hid; omega
        go_wp2_with fail
        go_ret
        exact ⟨_, rfl, ⟨fun _ => ⟨trivial, fun j hj => hw.out.1 j (by have := hkn.out; omega)⟩, fun _ => rfl⟩, hw.out.2⟩
  · have d3 : ((n : Int) != (m : Int)) = true := by simpa using fun h : (n : Int) = (m : Int) => hnm (by omega)
    have d4 : decide ((n : Int) = (m : Int)) = false := by simp; omega
    have HNM := Lib.hid hnm
    clear hn hm HROW HROW'
    go_enter Try.func52, Try.ntmps52
    go_wp2_with fail
    go_ret
    exact ⟨_, rfl, ⟨fun h => (by cases h), fun h => absurd h.1 HNM.out⟩, Below.refl _ _⟩
set_option maxHeartbeats 2000000 in
theorem sameSize_c (W H W' H' : Int) (s s' : Value) (r : Bool) (hr : (decide (W = W') && decide (H = H')) = r) (w : World) : Calls Try.prog 51 #[.agg #[.int .i64 W, .int .i64 H, s], .agg #[.int .i64 W', .int .i64 H', s']] w fun e w' => e = .returned (.bool r) ∧ Below w.heap.size w w' := by
  by_cases h1 : W = W'
  · subst h1
    by_cases h2 : H = H'
    · subst h2
      obtain rfl : true = r := by rw [← hr]; simp
      clear hr
      go_enter Try.func51, Try.ntmps51
      go_wp2_with fail
      go_ret
      exact ⟨by simp, ((Below.refl _ _).alloc (Nat.le_refl _) _).alloc (by simp) _⟩
    · have d2 : (H == H') = false := by simpa using h2
      obtain rfl : false = r := by rw [← hr]; simp [h2]
      clear hr
      go_enter Try.func51, Try.ntmps51
      go_wp2_with fail
      go_ret
      exact ⟨by simp, ((Below.refl _ _).alloc (Nat.le_refl _) _).alloc (by simp) _⟩
  · have d2 : (W == W') = false := by simpa using h1
    obtain rfl : false = r := by rw [← hr]; simp [h1]
    clear hr
    go_enter Try.func51, Try.ntmps51
    go_wp2_with fail
    go_ret
    exact ⟨by simp, ((Below.refl _ _).alloc (Nat.le_refl _) _).alloc (by simp) _⟩
theorem map_q4_iff {l ol : List Col} : l.map q4 = ol.map q4 ↔ l.length = ol.length ∧ ∀ k, k < l.length → eqC (cAt l k) (cAt ol k) = true := by
  constructor
  · intro h
    have hl : l.length = ol.length := by simpa using congrArg List.length h
    exact ⟨hl, (map_q4 hl).1 h⟩
  · rintro ⟨hl, h⟩
    exact (map_q4 hl).2 h
set_option maxHeartbeats 2000000 in
set_option maxRecDepth 100000 in
theorem equalOk : EqualOk := by
  intro W H W' H' s s' l l' w row row' hok hok' hl hl' hr hr'
  obtain ⟨q, hq⟩ : ∃ q, (decide (W = W') && decide (H = H')) = q := ⟨_, rfl⟩
  have HSS := Lib.hid (sameSize_c W H W' H' s s' q hq)
  have HEQ := Lib.hid (fun A (hA : Below w.heap.size w A) => slEqual_c s s' l l' A (row.on hA) (row'.on hA) hl hl')
  have HV : Hid (sameIm W H l W' H' l' = (q && decide (l.map q4 = l'.map q4))) := by unfold Hid sameIm; rw [hq]
  obtain ⟨ao, cp, rfl⟩ := row.shape
  obtain ⟨ao', cp', rfl⟩ := row'.shape
  obtain ⟨v, hv⟩ : ∃ v, sameIm W H l W' H' l' = v := ⟨_, rfl⟩
  rw [hv] at HV ⊢
  have HQ4 := Lib.hid (map_q4_iff (l := l) (ol := l'))
  clear row row' hok hok' hl hl' hr hr' hq hv
  generalize l.length = n at *
  generalize l'.length = n' at *
  go_enter Try.func28, Try.ntmps28
  go_wp2_with fail
  obtain ⟨w1, hw1⟩ : ∃ WW, (w.alloc (.cells #[.int .i64 W, .int .i64 H, .slice ao n cp] 24)).alloc (.cells #[.int .i64 W', .int .i64 H', .slice ao' n' cp'] 24) = WW := ⟨_, rfl⟩
  have P1 : Hid (Below w.heap.size w w1 ∧ Blk w1 w.heap.size 24 #[.int .i64 W, .int .i64 H, .slice ao n cp] ∧ Blk w1 (w.heap.size + 1) 24 #[.int .i64 W', .int .i64 H', .slice ao' n' cp']) := by
    rw [← hw1]; exact ⟨((Below.refl _ _).alloc (Nat.le_refl _) _).alloc (by simp) _, (Blk.new _ _ _).alloc _, Blk.newAt _ _ _ (by simp)⟩
  rw [hw1]
  clear hw1
  refine (HSS.out w1).mono ?_
  rintro e w2 ⟨rfl, hb⟩
  have P2 : Hid (Below w.heap.size w w2 ∧ Blk w2 w.heap.size 24 #[.int .i64 W, .int .i64 H, .slice ao n cp] ∧ Blk w2 (w.heap.size + 1) 24 #[.int .i64 W', .int .i64 H', .slice ao' n' cp']) :=
    ⟨P1.out.1.trans (hb.mono P1.out.1.size), P1.out.2.1.grow hb, P1.out.2.2.grow hb⟩
  clear hb P1
  have z0 : w2.cell? ⟨w.heap.size, 2, none⟩ = some (.slice ao n cp) := P2.out.2.1.cell 2
  have z1 : w2.cell? ⟨w.heap.size + 1, 2, none⟩ = some (.slice ao' n' cp') := P2.out.2.2.cell 2
  cases q
  · go_wp2_with fail
    go_ret
    exact ⟨retB (by rw [HV.out]; rfl), P2.out.1⟩
  · go_wp2_with fail
    refine (HEQ.out w2 P2.out.1).mono ?_
    rintro e w3 ⟨r, rfl, hr, hb⟩
    have HB : Hid (Below w.heap.size w w3) := P2.out.1.trans (hb.mono P2.out.1.size)
    have HR : Hid (r = v) := by
      unfold Hid
      rw [HV.out, Bool.true_and, Bool.eq_iff_iff, decide_eq_true_eq, HQ4.out, hr]
    clear hb hr z0 z1
    go_wp2_with fail
    go_ret
    exact ⟨retB HR.out, HB.out⟩
end Go.Proofs.Ytoppmlfibllhlaa
