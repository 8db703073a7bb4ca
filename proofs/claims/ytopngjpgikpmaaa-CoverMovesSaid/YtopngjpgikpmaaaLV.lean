/- The walk of the statement CoverMoves. -/
import Derived.Test.YtopngjpgikpmaaaMv
namespace Go.Proofs.Ytopngjpgikpmaaa
open Go.RowKit
/-- A point that may be moved. -/
def nearP (p : Pt) : Prop := -1073741824 ≤ p.1 ∧ p.1 ≤ 1073741824 ∧ -1073741824 ≤ p.2 ∧ p.2 ≤ 1073741824
theorem mask_moves (P : List (List Pt)) (rule bx bY : Int) (h1 : -1048576 ≤ bx ∧ bx ≤ 1048576) (h2 : -1048576 ≤ bY ∧ bY ≤ 1048576) (hn : ∀ l ∈ P, ∀ p ∈ l, nearP p) :
    maskO (P.map fun l => l.map (shiftP (bx, bY))) rule ⟨-1 + bx, -1 + bY, 4 + bx, 4 + bY⟩ = maskO P rule ⟨-1, -1, 4, 4⟩ := by
  have w1 : winB ⟨-1 + bx, -1 + bY, 4 + bx, 4 + bY⟩ = true := by rw [winB_iff]; simp only; omega
  have w2 : winB ⟨-1, -1, 4, 4⟩ = true := by decide
  have a1 : allR P = true := by
    unfold allR
    rw [List.all_eq_true]
    intro l hl
    rw [List.all_eq_true]
    intro p hp
    have := hn l hl p hp
    unfold nearP at this
    simp only [roomP, Bool.and_eq_true, room_iff]
    omega
  have a2 : allR (P.map fun l => l.map (shiftP (bx, bY))) = true := by
    unfold allR
    rw [List.all_eq_true]
    intro l hl
    obtain ⟨l0, hl0, rfl⟩ := List.mem_map.1 hl
    rw [List.all_eq_true]
    intro p hp
    obtain ⟨p0, hp0, rfl⟩ := List.mem_map.1 hp
    have := hn l0 hl0 p0 hp0
    unfold nearP at this
    simp only [roomP, Bool.and_eq_true, room_iff, shiftP]
    omega
  unfold maskO
  rw [w1, w2, a1, a2]
  have := mask_shift (bx, bY) P rule ⟨-1, -1, 4, 4⟩
  simp only at this
  rw [this]
def MaskY (W : World) (z : Int) (M : List Nat) (e : Ending) (w' : World) : Prop := ∃ v, e = .returned (.tuple #[v, .int .i64 z]) ∧ VRow w' v (bytesL M) ∧ Below W.heap.size W w'
theorem maskO_le (P : List (List Pt)) (rule : Int) (b : Bx) : ∀ m ∈ (maskO P rule b).2, m ≤ 16 := by
  unfold maskO
  split
  · exact maskI_le P rule b
  · intro m hm; cases hm
set_option maxHeartbeats 16000000 in
set_option maxRecDepth 100000 in
theorem coverMoves_law (s : Value) (S : List (Value × List Pt)) (rule bx bY : Int) (w : World) (row : PolyR w s S) :
    Calls Try.prog 6 #[s, .int .i64 rule, .agg #[.int .i64 bx, .int .i64 bY]] w fun e w' => e = .returned (.bool true) ∧ Below w.heap.size w w' := by
  have HAW := Lib.hid awake_c
  have HSM : Hid (∀ W, Below w.heap.size w W → Calls Try.prog 9 #[s, .agg #[.int .i64 (-1), .int .i64 (-1), .int .i64 4, .int .i64 4]] W fun e w' => SmallP S ⟨-1, -1, 4, 4⟩ W e w') := fun W hb => small_c s S (-1) (-1) 4 4 W (row.on hb)
  obtain ⟨z, M, hzm⟩ : ∃ z M, maskO (S.map Prod.snd) rule ⟨-1, -1, 4, 4⟩ = (z, M) := ⟨_, _, rfl⟩
  have HM16 : Hid (∀ m ∈ M, m ≤ 255) := fun m hm => by
    have := maskO_le (S.map Prod.snd) rule ⟨-1, -1, 4, 4⟩ m (by rw [hzm]; exact hm)
    omega
  have HMK : Hid (Small S ⟨-1, -1, 4, 4⟩ → ∀ W, Below w.heap.size w W → Calls Try.prog 12 #[s, .int .i64 rule, .agg #[.int .i64 (-1), .int .i64 (-1), .int .i64 4, .int .i64 4]] W fun e w' => MaskY W z M e w') := fun hs W hb => by
    have := mask_c s S rule ⟨-1, -1, 4, 4⟩ W (row.on hb) (by have := hs.1; omega) (fun x hx => by have := hs.2.1 x hx; omega)
    rw [hzm] at this
    exact this
  have HZM := Lib.hid hzm
  clear hzm
  obtain ⟨ao, c, rfl⟩ := row.shape
  obtain ⟨n, hn⟩ : ∃ n, S.length = n := ⟨_, rfl⟩
  have HN := Lib.hid hn; have HROW := Lib.hid row
  rw [hn] at HSM HMK HROW ⊢
  clear row hn
  go_enter Try.func6, Try.ntmps6
  go_wp2_with fail
  obtain ⟨w1, hw1⟩ : ∃ X, (w.alloc (.cells #[.int .i64 bx, .int .i64 bY] 39)).alloc (.cells #[.int .i64 (-1), .int .i64 (-1), .int .i64 4, .int .i64 4] 24) = X := ⟨_, rfl⟩
  have S1 : Hid (Below w.heap.size w w1 ∧ Blk w1 w.heap.size 39 (two (bx, bY)) ∧ Blk w1 (w.heap.size + 1) 24 (four ⟨-1, -1, 4, 4⟩)) := by
    rw [← hw1]
    exact ⟨((Below.refl _ _).alloc (Nat.le_refl _) _).alloc (by simp) _, (Blk.new _ _ _).alloc _, Blk.newAt _ _ _ (by simp)⟩
  rw [hw1]
  clear hw1
  refine (HSM.out _ S1.out.1).mono ?_
  rintro e w2 ⟨r, rfl, hr, hb⟩
  have S2 : Hid (Below w.heap.size w w2 ∧ Blk w2 w.heap.size 39 (two (bx, bY)) ∧ Blk w2 (w.heap.size + 1) 24 (four ⟨-1, -1, 4, 4⟩)) := ⟨S1.out.1.trans (hb.mono S1.out.1.size), S1.out.2.1.grow hb, S1.out.2.2.grow hb⟩
  clear hb S1
  cases r
  · have hx : True := trivial
    go_wp2_with fail
    refine (HAW.out _).mono ?_
    rintro e w9 ⟨rfl, hb⟩
    have B9 : Hid (Below w.heap.size w w9) := (S2.out.1).trans (hb.mono (S2.out.1).size)
    clear hb
    go_wp2_with fail
    go_ret
    exact ⟨rfl, B9.out⟩
  have hsm := hr rfl
  have HS := Lib.hid hsm
  clear hr hsm
  have p0 : w2.cell? ⟨w.heap.size, 0, none⟩ = some (.int .i64 bx) := S2.out.2.1.cell 0
  have p1 : w2.cell? ⟨w.heap.size, 1, none⟩ = some (.int .i64 bY) := S2.out.2.1.cell 1
  by_cases hc0 : bx < -1048576
  · have hd0 : decide (bx < -1048576) = true := by simp; omega
    go_wp2_with fail
    refine (HAW.out _).mono ?_
    rintro e w9 ⟨rfl, hb⟩
    have B9 : Hid (Below w.heap.size w w9) := (S2.out.1).trans (hb.mono (S2.out.1).size)
    clear hb
    go_wp2_with fail
    go_ret
    exact ⟨rfl, B9.out⟩
  have hd0 : decide (bx < -1048576) = false := by simp; omega
  by_cases hc1 : bx > 1048576
  · have hd1 : decide (bx > 1048576) = true := by simp; omega
    go_wp2_with fail
    refine (HAW.out _).mono ?_
    rintro e w9 ⟨rfl, hb⟩
    have B9 : Hid (Below w.heap.size w w9) := (S2.out.1).trans (hb.mono (S2.out.1).size)
    clear hb
    go_wp2_with fail
    go_ret
    exact ⟨rfl, B9.out⟩
  have hd1 : decide (bx > 1048576) = false := by simp; omega
  by_cases hc2 : bY < -1048576
  · have hd2 : decide (bY < -1048576) = true := by simp; omega
    go_wp2_with fail
    refine (HAW.out _).mono ?_
    rintro e w9 ⟨rfl, hb⟩
    have B9 : Hid (Below w.heap.size w w9) := (S2.out.1).trans (hb.mono (S2.out.1).size)
    clear hb
    go_wp2_with fail
    go_ret
    exact ⟨rfl, B9.out⟩
  have hd2 : decide (bY < -1048576) = false := by simp; omega
  by_cases hc3 : bY > 1048576
  · have hd3 : decide (bY > 1048576) = true := by simp; omega
    go_wp2_with fail
    refine (HAW.out _).mono ?_
    rintro e w9 ⟨rfl, hb⟩
    have B9 : Hid (Below w.heap.size w w9) := (S2.out.1).trans (hb.mono (S2.out.1).size)
    clear hb
    go_wp2_with fail
    go_ret
    exact ⟨rfl, B9.out⟩
  have hd3 : decide (bY > 1048576) = false := by simp; omega
  have HB1 : Hid (-1048576 ≤ bx ∧ bx ≤ 1048576) := ⟨by omega, by omega⟩
  have HB2 : Hid (-1048576 ≤ bY ∧ bY ≤ 1048576) := ⟨by omega, by omega⟩
  go_wp2_with fail
  clear hc0 hc1 hc2 hc3 hd0 hd1 hd2 hd3 p0 p1
  obtain ⟨m0, hm0⟩ : ∃ m, w2.heap.size = m := ⟨_, rfl⟩
  have HM0 := Lib.hid hm0
  clear hm0
  go_loopw [8, 46] (fun x i wr => ∃ (k : Nat) (S' : List (Value × List Pt)), k ≤ n ∧ i = .int .i64 k ∧ Hid (Polys wr m0 47 39 x S' ∧ S'.map Prod.snd = ((S.map Prod.snd).take k).map (fun l => l.map (shiftP (bx, bY))) ∧ Below m0 w2 wr ∧ m0 ≤ wr.heap.size ∧ (∀ l ∈ (S.map Prod.snd).take k, ∀ p ∈ l, nearP p))) (fun _ i _ => n - (intOf i).toNat)
  case atStart => exact ⟨0, [], by omega, rfl, Polys.nil _ _ _ _, by simp, by rw [← HM0.out]; exact Below.refl _ _, by rw [HM0.out]; exact Nat.le_refl _, by simp⟩
  case round =>
    obtain ⟨k, S', hk, rfl, hw⟩ := hrel
    obtain ⟨w3, rfl⟩ : ∃ x, x = wr := ⟨_, rfl⟩
    obtain ⟨xa, xc, hxs⟩ := polys_shape hw.out.1
    subst hxs
    have B3 : Hid (Below w.heap.size w w3) := S2.out.1.trans (hw.out.2.2.1.mono (by rw [← HM0.out]; exact S2.out.1.size))
    have K3 : Hid (Blk w3 w.heap.size 39 (two (bx, bY)) ∧ Blk w3 (w.heap.size + 1) 24 (four ⟨-1, -1, 4, 4⟩)) := by
      have hbb : Below w2.heap.size w2 w3 := by rw [HM0.out]; exact hw.out.2.2.1
      exact ⟨S2.out.2.1.grow hbb, S2.out.2.2.grow hbb⟩
    have hn60 : n ≤ 60 := by rw [← HN.out]; exact HS.out.1
    by_cases hlt : k < n
    · have hd : decide ((k : Int) < (n : Int)) = true := by simp; omega
      obtain ⟨⟨v, l⟩, hq⟩ : ∃ q, S[k]? = some q := ⟨_, List.getElem?_eq_getElem (by rw [HN.out]; exact hlt)⟩
      have hm := List.mem_of_getElem? hq
      obtain ⟨b, o, rfl, hbs, c0⟩ := (HROW.out.on B3.out).at hq
      have hrow : Row w v l := HROW.out.2 _ hm
      have hPk : (S.map Prod.snd)[k]? = some l := by rw [List.getElem?_map, hq]; rfl
      have HLN : Hid (l.length ≤ 20) := HS.out.2.1 _ hm
      obtain ⟨aq, cq, rfl⟩ := hrow.shape
      obtain ⟨m, hmm⟩ : ∃ m, l.length = m := ⟨_, rfl⟩
      rw [hmm] at hrow HLN c0
      have HM := Lib.hid hmm; have HRW := Lib.hid hrow; have HPK := Lib.hid hPk
      have hln := HLN.out
      simp only at c0
      clear hq hm hbs hrow hPk hmm
      go_wp2_with fail
      have HO : Hid (Polys w3 m0 47 39 (.slice xa S'.length xc) S' ∧ S'.map Prod.snd = ((S.map Prod.snd).take k).map (fun l => l.map (shiftP (bx, bY))) ∧ Below m0 w2 w3 ∧ m0 ≤ w3.heap.size ∧ (∀ l ∈ (S.map Prod.snd).take k, ∀ p ∈ l, nearP p)) := hw.out
      clear hw c0
      obtain ⟨sn, hsn⟩ : ∃ x, S'.length = x := ⟨_, rfl⟩
      have HSN := Lib.hid hsn
      rw [hsn] at HO ⊢
      clear hsn
      go_loopw [11, 52] (fun x i wr => ∃ j : Nat, j ≤ m ∧ i = .int .i64 j ∧ Hid (Own wr w3.heap.size 39 x ((l.take j).map (shiftP (bx, bY))) ∧ Below w3.heap.size w3 wr ∧ (∀ p ∈ l.take j, nearP p))) (fun _ i _ => m - (intOf i).toNat)
      case atStart => exact ⟨0, by omega, rfl, Own.nil _ _ _, Below.refl _ _, by simp⟩
      case round =>
        obtain ⟨j, hj, rfl, hv⟩ := hrel
        by_cases hlt2 : j < m
        · have hd2 : decide ((j : Int) < (m : Int)) = true := by simp; omega
          have B4 : Hid (Below w.heap.size w wr) := B3.out.trans (hv.out.2.1.mono B3.out.size)
          obtain ⟨b2, o2, rfl, hbs2, hpa⟩ := Row.addr HRW.out (k := j) (by rw [HM.out]; exact hlt2)
          obtain ⟨⟨px, py⟩, hp⟩ : ∃ p, l[j]? = some p := ⟨_, List.getElem?_eq_getElem (by rw [HM.out]; exact hlt2)⟩
          obtain ⟨c1, c2⟩ := (hpa.on B4.out hbs2) j (px, py) hp
          have HQ := Lib.hid hp
          simp only at c1 c2
          clear hpa hp hbs2
          have hlen : ((l.take j).map (shiftP (bx, bY))).length = j := by rw [List.length_map, List.length_take, HM.out]; omega
          have HLEN := Lib.hid hlen
          clear hlen
          have hs2 := hv.out.2.1.size
          have BA : Hid (Below w.heap.size w (wr.alloc (.cells #[.int .i64 px, .int .i64 py] 39))) := B4.out.alloc B4.out.size _
          by_cases hc0 : px < -1073741824
          · have hd0 : decide (px < -1073741824) = true := by simp; omega
            go_wp2_with fail
            refine (HAW.out _).mono ?_
            rintro e w9 ⟨rfl, hb⟩
            have B9 : Hid (Below w.heap.size w w9) := (BA.out).trans (hb.mono (BA.out).size)
            clear hb
            go_wp2_with fail
            go_ret
            exact ⟨rfl, B9.out⟩
          have hd0 : decide (px < -1073741824) = false := by simp; omega
          by_cases hc1 : px > 1073741824
          · have hd1 : decide (px > 1073741824) = true := by simp; omega
            go_wp2_with fail
            refine (HAW.out _).mono ?_
            rintro e w9 ⟨rfl, hb⟩
            have B9 : Hid (Below w.heap.size w w9) := (BA.out).trans (hb.mono (BA.out).size)
            clear hb
            go_wp2_with fail
            go_ret
            exact ⟨rfl, B9.out⟩
          have hd1 : decide (px > 1073741824) = false := by simp; omega
          by_cases hc2 : py < -1073741824
          · have hd2 : decide (py < -1073741824) = true := by simp; omega
            go_wp2_with fail
            refine (HAW.out _).mono ?_
            rintro e w9 ⟨rfl, hb⟩
            have B9 : Hid (Below w.heap.size w w9) := (BA.out).trans (hb.mono (BA.out).size)
            clear hb
            go_wp2_with fail
            go_ret
            exact ⟨rfl, B9.out⟩
          have hd2 : decide (py < -1073741824) = false := by simp; omega
          by_cases hc3 : py > 1073741824
          · have hd3 : decide (py > 1073741824) = true := by simp; omega
            go_wp2_with fail
            refine (HAW.out _).mono ?_
            rintro e w9 ⟨rfl, hb⟩
            have B9 : Hid (Below w.heap.size w w9) := (BA.out).trans (hb.mono (BA.out).size)
            clear hb
            go_wp2_with fail
            go_ret
            exact ⟨rfl, B9.out⟩
          have hd3 : decide (py > 1073741824) = false := by simp; omega
          have hnp : Hid (nearP (px, py)) := ⟨by show _ ≤ px; omega, by show px ≤ _; omega, by show _ ≤ py; omega, by show py ≤ _; omega⟩
          obtain ⟨hb1a, hb1b⟩ := HB1.out
          obtain ⟨hb2a, hb2b⟩ := HB2.out
          have K4 := K3.out.1.grow hv.out.2.1
          have p0 : wr.cell? ⟨w.heap.size, 0, none⟩ = some (.int .i64 bx) := K4.cell 0
          have p1 : wr.cell? ⟨w.heap.size, 1, none⟩ = some (.int .i64 bY) := K4.cell 1
          have hwl := K4.lt
          clear K4
          go_wp2_with fail
          refine (at_c _ _ _).mono ?_
          rintro e w5 ⟨rfl, hb⟩
          have B5 : Hid (Below w3.heap.size w3 w5 ∧ Below wr.heap.size wr w5) := by
            have h1 : Below wr.heap.size wr w5 := ((Below.refl _ _).alloc (Nat.le_refl _) _).trans (hb.mono (by simp))
            exact ⟨hv.out.2.1.trans (h1.mono hs2), h1⟩
          have HO2 := Lib.hid ((hv.out.1.grow B5.out.2).grow ((Below.refl w5.heap.size w5).alloc (Nat.le_refl _) (.cells #[.int .i64 (px + 256 * bx), .int .i64 (py + 256 * bY)] 39)))
          clear hb p0 p1 hwl c1 c2 hc0 hc1 hc2 hc3 hd0 hd1 hd2 hd3
          have hs5 := B5.out.1.size
          go_wp2_with (at_builtin; refine wpList_append_pts rfl _ _ 47 39 rfl Try.underlying47 infoP w3.heap.size _ _ rfl HO2.out _ [(px + 256 * bx, py + 256 * bY)] rfl (Row.new w5 [(px + 256 * bx, py + 256 * bY)] 39 _ 1 rfl rfl) ?c3 ?c5 ?_)
          case c3 => rw [HLEN.out]; simp; omega
          case c5 => simp; omega
          intro v' w6 hown hgrow _
          have O6 : Hid (Own w6 w3.heap.size 39 v' ((l.take (j + 1)).map (shiftP (bx, bY)))) := by
            have e1 : (l.take (j + 1)).map (shiftP (bx, bY)) = (l.take j).map (shiftP (bx, bY)) ++ [(px + 256 * bx, py + 256 * bY)] := by rw [List.take_add_one, HQ.out, List.map_append]; rfl
            rw [e1, List.map_take]; exact hown
          have B6 : Hid (Below w3.heap.size w3 w6) := own_below HO2.out hgrow (B5.out.1.alloc hs5 _) (Nat.le_refl _) (by simp; omega)
          have N6 : Hid (∀ p ∈ l.take (j + 1), nearP p) := fun p hp => by
            rw [List.take_add_one, HQ.out] at hp
            rcases List.mem_append.1 hp with h | h
            · exact hv.out.2.2 p h
            · simp only [Option.toList, List.mem_singleton] at h
              subst h
              exact hnp.out
          clear hown hgrow
          go_wp2_with fail
          exact ⟨⟨j + 1, by omega, by go_num, O6.out, B6.out, N6.out⟩, by simp [intOf]; omega⟩
        · have hd2 : decide ((j : Int) < (m : Int)) = false := by simp; omega
          have HJ : Hid (l.take j = l) := List.take_of_length_le (by rw [HM.out]; omega)
          obtain ⟨xa2, xn2, xc2, hxx⟩ := own_shape' hv.out.1
          subst hxx
          have hO3 : Hid (Own wr m0 39 (.slice xa2 xn2 xc2) (l.map (shiftP (bx, bY)))) := by
            have := hv.out.1
            rw [HJ.out] at this
            exact this.base HO.out.2.2.2.1
          have hP3 : Hid (Polys wr m0 47 39 (.slice xa sn xc) S') := HO.out.1.grow hv.out.2.1
          have hP4 : Hid (Polys (wr.alloc (.cells #[.slice xa2 xn2 xc2] 47)) m0 47 39 (.slice xa sn xc) S') := hP3.out.grow ((Below.refl _ _).alloc (Nat.le_refl _) _)
          have hs3 := hv.out.2.1.size
          have hs4 := HO.out.2.2.2.1
          have hsk : sn ≤ 1000 := by
            have := congrArg List.length HO.out.2.1
            rw [List.length_map, List.length_map, List.length_take, List.length_map, HSN.out, HN.out] at this
            omega
          go_wp2_with (at_builtin; refine wpList_append_poly rfl _ _ 22 47 rfl Try.underlying22 infoV m0 _ sn _ rfl (by have := hP4.out.row; rw [HSN.out] at this; exact this) ⟨wr.heap.size, 0, none⟩ 1 1 [.slice xa2 xn2 xc2] rfl rfl ?d1 ?d2 ?d3 ?d4 ?_)
          case d1 =>
            intro i u hi
            match i with
            | 0 =>
              cases hi
              exact (Blk.new wr 47 #[.slice xa2 xn2 xc2]).cell 0
            | i + 1 => simp at hi
          case d2 => intro u hu; rw [List.mem_singleton.1 hu]; rfl
          case d3 => omega
          case d4 => simp; omega
          intro v' w5 hown hgrow _
          have F1 : Hid (Polys w5 m0 47 39 v' (S' ++ [(.slice xa2 xn2 xc2, l.map (shiftP (bx, bY)))]) ∧ (S' ++ [((.slice xa2 xn2 xc2 : Value), l.map (shiftP (bx, bY)))]).map Prod.snd = ((S.map Prod.snd).take (k + 1)).map (fun l => l.map (shiftP (bx, bY))) ∧ Below m0 w2 w5 ∧ m0 ≤ w5.heap.size ∧ (∀ l ∈ (S.map Prod.snd).take (k + 1), ∀ p ∈ l, nearP p)) := by
            have h1 : Polys w5 m0 47 39 v' (S' ++ [(.slice xa2 xn2 xc2, l.map (shiftP (bx, bY)))]) := hP4.out.more (by decide) hgrow (hO3.out.grow ((Below.refl _ _).alloc (Nat.le_refl _) _)) (by rw [HSN.out]; exact hown)
            have hB : Below m0 w2 wr := HO.out.2.2.1.trans (hv.out.2.1.mono HO.out.2.2.2.1)
            have hsz := hgrow.size
            simp at hsz
            refine ⟨h1, by rw [List.map_append, HO.out.2.1, List.take_add_one, HPK.out, List.map_append]; rfl, ?_, by omega, fun l' hl' => ?_⟩
            · refine (hB.alloc (by omega) (.cells #[.slice xa2 xn2 xc2] 47)).trans ?_
              exact ⟨hgrow.os, hgrow.tape, hgrow.output, hgrow.size, fun i hi => hgrow.block i (by simp; omega) (fun e => by
                have := (hP4.out.row.lt i e.symm).1
                omega)⟩
            · rw [List.take_add_one, HPK.out] at hl'
              rcases List.mem_append.1 hl' with h | h
              · exact HO.out.2.2.2.2 l' h
              · simp only [Option.toList, List.mem_singleton] at h
                subst h
                have := hv.out.2.2
                rwa [HJ.out] at this
          clear hown hgrow
          go_wp2_with fail
          exact ⟨⟨k + 1, _, by omega, by go_num, F1.out⟩, by simp [intOf]; omega⟩
    · have hd : decide ((k : Int) < (n : Int)) = false := by simp; omega
      have HT : Hid ((S.map Prod.snd).take k = S.map Prod.snd) := List.take_of_length_le (by rw [List.length_map, HN.out]; omega)
      have HEQ : Hid (S'.map Prod.snd = (S.map Prod.snd).map (fun l => l.map (shiftP (bx, bY)))) := by have := hw.out.2.1; rwa [HT.out] at this
      have HNR : Hid (∀ l ∈ S.map Prod.snd, ∀ p ∈ l, nearP p) := by have := hw.out.2.2.2.2; rwa [HT.out] at this
      have HRS : Hid (PolyR w3 (.slice xa S'.length xc) S') := hw.out.1.rows
      have a0 := K3.out.2.b0
      have a1 := K3.out.2.b1
      have a2 := K3.out.2.b2
      have a3 := K3.out.2.b3
      simp only at a0 a1 a2 a3
      have HSS : Hid (S'.length ≤ 100 ∧ ∀ x ∈ S', x.2.length ≤ 100) := by
        constructor
        · have := congrArg List.length HEQ.out
          rw [List.length_map, List.length_map, List.length_map, HN.out] at this
          omega
        · intro x hx
          have h1 : x.2 ∈ (S.map Prod.snd).map (fun l => l.map (shiftP (bx, bY))) := by rw [← HEQ.out]; exact List.mem_map_of_mem hx
          obtain ⟨l0, hl0, e⟩ := List.mem_map.1 h1
          obtain ⟨y, hy, e2⟩ := List.mem_map.1 hl0
          rw [← e, List.length_map, ← e2]
          have := HS.out.2.1 y hy
          omega
      obtain ⟨sn, hsn⟩ : ∃ x, S'.length = x := ⟨_, rfl⟩
      have HSN2 := Lib.hid hsn
      rw [hsn] at HRS HSS ⊢
      clear hw hsn
      go_wp2_with fail
      refine (HMK.out HS.out _ B3.out).mono ?_
      rintro e w4 ⟨v1, rfl, hv1, hb1⟩
      have V1 := Lib.hid hv1
      have B4 : Hid (Below w.heap.size w w4) := B3.out.trans (hb1.mono B3.out.size)
      have K4 : Hid (Blk w4 w.heap.size 39 (two (bx, bY)) ∧ Blk w4 (w.heap.size + 1) 24 (four ⟨-1, -1, 4, 4⟩) ∧ PolyR w4 (.slice xa sn xc) S') := ⟨K3.out.1.grow hb1, K3.out.2.grow hb1, HRS.out.on hb1⟩
      clear hv1 hb1 a0 a1 a2 a3
      have a0 := K4.out.2.1.b0
      have a1 := K4.out.2.1.b1
      have a2 := K4.out.2.1.b2
      have a3 := K4.out.2.1.b3
      have p0 : w4.cell? ⟨w.heap.size, 0, none⟩ = some (.int .i64 bx) := K4.out.1.cell 0
      have p1 : w4.cell? ⟨w.heap.size, 1, none⟩ = some (.int .i64 bY) := K4.out.1.cell 1
      simp only at a0 a1 a2 a3
      obtain ⟨hb1a, hb1b⟩ := HB1.out
      obtain ⟨hb2a, hb2b⟩ := HB2.out
      have HM2 : Hid (Calls Try.prog 12 #[.slice xa sn xc, .int .i64 rule, .agg #[.int .i64 (-1 + bx), .int .i64 (-1 + bY), .int .i64 (4 + bx), .int .i64 (4 + bY)]] w4 fun e w' => MaskY w4 z M e w') := by
        have := mask_c (.slice xa sn xc) S' rule ⟨-1 + bx, -1 + bY, 4 + bx, 4 + bY⟩ w4 K4.out.2.2 (by rw [HSN2.out]; exact HSS.out.1) HSS.out.2
        rw [HEQ.out, mask_moves _ rule bx bY HB1.out HB2.out HNR.out, HZM.out] at this
        exact this
      go_wp2_with fail
      refine (HM2.out).mono ?_
      rintro e w5 ⟨v2, rfl, hv2, hb2⟩
      have B5 : Hid (Below w.heap.size w w5) := B4.out.trans (hb2.mono B4.out.size)
      have cv1 := conv_row (V1.out.on hb2) HM16.out
      have cv2 := conv_row hv2 HM16.out
      have hzz : (z == z) = true := by simp
      clear hv2 hb2 a0 a1 a2 a3 p0 p1 HM2
      go_wp2_with fail
      refine (HAW.out _).mono ?_
      rintro e w6 ⟨rfl, hb⟩
      have B6 : Hid (Below w.heap.size w w6) := B5.out.trans (hb.mono B5.out.size)
      clear hb cv1 cv2
      go_wp2_with fail
      go_ret
      exact ⟨rfl, B6.out⟩
end Go.Proofs.Ytopngjpgikpmaaa
