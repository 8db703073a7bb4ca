/- Layer 15: the law of the small letters. -/
import Derived.Test.YtbnbglngpgikfaaGreatDoorRd
import Derived.Test.YtbnbglngpgikfaaGreatDoorQq
import Derived.Test.YtbnbglngpgikfaaGreatDoorSe
import Derived.Test.YtbnbglngpgikfaaGreatDoorSg
import Derived.Test.YtbnbglngpgikfaaGreatDoorSh
import Derived.Test.YtbnbglngpgikfaaGreatDoorPd
namespace Go.Proofs.YtbnbglngpgikfaaGreatDoor
open Go.RowKit Go.Shelf
attribute [local go_sem] Oper.semAt_some
set_option maxHeartbeats 4000000 in
set_option maxRecDepth 100000 in
theorem small_long (v : Value) (l : List Sg) (w : World) (hr : Rdd w) (row : RowS w v l) (hl : l.length ≤ 2513169434843) (h : 40 < l.length) : Calls Tryz.prog 7 #[v] w fun e w' => e = .returned (.bool true) ∧ Below w.heap.size w w' := by
  have HR := Lib.hid hr
  have HROW := Lib.hid row
  have HL := Lib.hid hl
  obtain ⟨ao, c, rfl⟩ := row.shape
  obtain ⟨n, hn⟩ : ∃ n, l.length = n := ⟨_, rfl⟩
  have hd : decide ((n : Int) > 40) = true := by simp; omega
  rw [hn] at HROW ⊢
  clear hr h hn row hl
  go_enter Tryz.func7, Tryz.ntmps7
  go_wp2_with fail
  refine (ref_big w _ l HL.out HROW.out).mono ?_
  rintro e w1 ⟨r, rfl, ho, hb⟩
  have H1 := Lib.hid hb
  clear ho hb
  go_wp2_with fail
  refine (awake_c15 w1 (HR.out.on H1.out)).mono ?_
  rintro e w2 ⟨rfl, hb⟩
  have HB := Lib.hid (below_next H1.out hb)
  clear hb
  go_wp2_with fail
  go_ret
  exact ⟨rfl, HB.out⟩
set_option maxHeartbeats 4000000 in
set_option maxRecDepth 100000 in
theorem small_no (v : Value) (l : List Sg) (w : World) (hr : Rdd w) (row : RowS w v l) (h : l.length ≤ 40) (hc : checkI l ≠ 0) : Calls Tryz.prog 7 #[v] w fun e w' => e = .returned (.bool true) ∧ Below w.heap.size w w' := by
  have HR := Lib.hid hr
  have HL : Hid (l.length ≤ 5000) := by unfold Hid; omega
  have HROW := Lib.hid row
  have HCK := fun r W h => Lib.hid (rcheck_c r l W h)
  obtain ⟨x, hx⟩ : ∃ x, checkI l = x := ⟨_, rfl⟩
  rw [hx] at hc
  simp only [hx] at HCK
  have hne : (x != 0) = true := by simpa using hc
  obtain ⟨ao, c, rfl⟩ := row.shape
  obtain ⟨n, hn⟩ : ∃ n, l.length = n := ⟨_, rfl⟩
  have hd : decide ((n : Int) > 40) = false := by simp; omega
  rw [hn] at HROW ⊢
  clear hr h hn row hc hx
  go_enter Tryz.func7, Tryz.ntmps7
  go_wp2_with fail
  refine (ref_c w _ l HL.out HROW.out).mono ?_
  rintro e w1 ⟨r, rfl, ho, hb⟩
  have H1 := Lib.hid (And.intro ho.row hb)
  clear ho hb
  go_wp2_with fail
  refine (HCK r w1 H1.out.1).out.mono ?_
  rintro e w2 ⟨rfl, hb⟩
  have H2 := Lib.hid (below_next H1.out.2 hb)
  clear hb HCK
  go_wp2_with fail
  refine (awake_c15 w2 (HR.out.on H2.out)).mono ?_
  rintro e w3 ⟨rfl, hb⟩
  have HB := Lib.hid (below_next H2.out hb)
  clear hb
  go_wp2_with fail
  go_ret
  exact ⟨rfl, HB.out⟩
theorem letC_cut {k : Int} (hk : isKindB k = true) (W : World) : (Instr.sliceAt 9 (.string ⟨#[109, 108, 113, 99, 122]⟩) (some (.int .i64 (k - 1))) (some (.int .i64 k)) none).run Tryz.prog W = .ok (.string ⟨[letC true k].toArray⟩) W := by
  rcases isKind_cases hk with rfl | rfl | rfl | rfl | rfl
  · exact slice_str [109, 108, 113, 99, 122] 0 1 (by decide) (by decide) W
  · exact slice_str [109, 108, 113, 99, 122] 1 2 (by decide) (by decide) W
  · exact slice_str [109, 108, 113, 99, 122] 2 3 (by decide) (by decide) W
  · exact slice_str [109, 108, 113, 99, 122] 3 4 (by decide) (by decide) W
  · exact slice_str [109, 108, 113, 99, 122] 4 5 (by decide) (by decide) W
theorem slice_rest (l : Wd) (a : Nat) (ha : a ≤ l.length) (w : World) : (Instr.sliceAt 9 (.string ⟨l.toArray⟩) (some (.int .i64 (a : Int))) none none).run Tryz.prog w = .ok (.string ⟨(l.drop a).toArray⟩) w := by
  have e : (⟨l.toArray⟩ : ByteArray).extract a l.length = ⟨(l.drop a).toArray⟩ := by
    rw [Lib.extract_mk l a l.length, List.take_of_length_le (by simp)]
  rw [← e]
  obtain ⟨n, hn⟩ : ∃ n, l.length = n := ⟨_, rfl⟩
  have hs : (⟨l.toArray⟩ : ByteArray).size = n := by rw [← hn]; simp [ByteArray.size]
  have h1 : (0 : Int) ≤ (a : Int) := by omega
  have h2 : (a : Int) ≤ (n : Int) := by omega
  rw [hn]
  go_simp
theorem row_one (w : World) (s : Sg) : RowS (w.alloc (.cells s.cells 53)) (.slice (some ⟨w.heap.size, 0, none⟩) 1 1) [s] := by
  refine .inr (.inr ⟨_, _, _, rfl, by simp, fun i x hx j v hv => ?_⟩)
  match i, hx with
  | 0, hx =>
    obtain rfl : s = x := by simpa using hx
    have h := (Blk.new w 53 s.cells).cell j
    rw [hv] at h
    simpa using h
theorem ptR_len {e p : Pt} (h : inB (p.1 - e.1) = true ∧ inB (p.2 - e.2) = true) : (ptR e p).length ≤ 122 := ptT_len _ h
set_option maxHeartbeats 4000000 in
set_option maxRecDepth 100000 in
theorem small_yes (v : Value) (l : List Sg) (w : World) (hr : Rdd w) (row : RowS w v l) (h : l.length ≤ 40) (hc : checkI l = 0) : Calls Tryz.prog 7 #[v] w fun e w' => e = .returned (.bool true) ∧ Below w.heap.size w w' := by
  have HR := Lib.hid hr
  have HC := Lib.hid hc
  have HL : Hid (l.length ≤ 5000) := by unfold Hid; omega
  have HROW := Lib.hid row
  have HCK := fun r W h => Lib.hid (rcheck_c r l W h)
  simp only [hc] at HCK
  obtain ⟨ao, c, rfl⟩ := row.shape
  obtain ⟨n, hn⟩ : ∃ n, l.length = n := ⟨_, rfl⟩
  have hd : decide ((n : Int) > 40) = false := by simp; omega
  have HN := Lib.hid hn
  have hn40 : n ≤ 40 := by omega
  rw [hn] at HROW ⊢
  clear hr h hn row hc
  go_enter Tryz.func7, Tryz.ntmps7
  go_wp2_with fail
  refine (ref_c w _ l HL.out HROW.out).mono ?_
  rintro e w0 ⟨r, rfl, ho, hb⟩
  have H0 := Lib.hid (And.intro ho.row hb)
  clear ho hb
  go_wp2_with fail
  refine (HCK r w0 H0.out.1).out.mono ?_
  rintro e w1 ⟨rfl, hb⟩
  have H1 := Lib.hid (And.intro (H0.out.1.on hb) (below_next H0.out.2 hb))
  obtain ⟨ra, rc, rfl⟩ := H1.out.1.shape
  rw [HN.out] at H1 ⊢
  clear hb HCK
  clear H0
  go_wp2_with fail
  go_loopw [6, 30] (fun t i wr => ∃ (k : Nat) (T : Wd) (st : Rs), k ≤ n ∧ i = .int .i64 (k : Int) ∧ t = .string ⟨T.toArray⟩ ∧ Hid (T ++ smallT k st (l.drop k) = smallT 0 Rs.none l) ∧ Hid (toldR true st (l.drop k) → toldR true Rs.none l) ∧ Hid (goI (aheadL l k) (l.drop k) = 0) ∧ Hid (roomP st.e = true ∧ roomP st.b = true) ∧ Hid (T.length ≤ 400 * k) ∧ Hid (Below w1.heap.size w1 wr ∧ w1.heap.size + 1 < wr.heap.size ∧ Blk wr w1.heap.size 45 (two st.e) ∧ Blk wr (w1.heap.size + 1) 45 (two st.b))) (fun _ i _ => n - (intOf i).toNat)
  case atStart =>
    refine ⟨0, [], Rs.none, by omega, rfl, rfl, rfl, fun h => h, (check_parts HC.out).2, ⟨rfl, rfl⟩, Nat.zero_le _, ((Below.refl _ _).alloc (Nat.le_refl _) _).alloc (by simp) _, by simp, ?_, ?_⟩
    · exact (Blk.new w1 _ _).alloc _
    · exact Blk.newAt _ _ _ (by simp)
  case round =>
    obtain ⟨k, T, st, hk, rfl, rfl, hT, hto, hgo, hroom, hTl, hw⟩ := hrel
    obtain ⟨w2, rfl⟩ : ∃ x, x = wr := ⟨_, rfl⟩
    by_cases hlt : k < n
    · have hd1 : decide ((k : Int) < (n : Int)) = true := by simp; omega
      obtain ⟨s, hq⟩ : ∃ s, l[k]? = some s := ⟨_, List.getElem?_eq_getElem (by rw [HN.out]; exact hlt)⟩
      obtain ⟨b, o, rfl, hbs, hpa⟩ := H1.out.1.addr (k := k) (by rw [HN.out]; exact hlt)
      have hs := hpa.on hw.out.1 hbs
      have c0 := hs.c0 hq
      have c1 := hs.c1 hq
      have c2 := hs.c2 hq
      have c3 := hs.c3 hq
      have c4 := hs.c4 hq
      have c5 := hs.c5 hq
      have c6 := hs.c6 hq
      have HQ := Lib.hid hq
      have hdr := drop_next hq
      have hgg := hgo.out
      rw [hdr, goI] at hgg
      have hf : faultI (aheadL l k) s = 0 := by
        split at hgg
        · assumption
        · rename_i h; exact absurd hgg h
      rw [if_pos hf] at hgg
      have HF := Lib.hid hf
      have hsk := (fault_parts hf).1
      have hcut := letC_cut hsk
      have HSK := Lib.hid hsk
      have HK5 : Hid (1 ≤ s.k ∧ s.k ≤ 5) := by unfold Hid; rcases isKind_cases hsk with h | h | h | h | h <;> omega
      have hk5 := HK5.out
      have hwk : wrap64 (s.k - 1) = s.k - 1 := wrapR _ (by omega) (by omega)
      obtain ⟨T1, hT1⟩ : ∃ A, T ++ [letC true s.k] = A := ⟨_, rfl⟩
      have hadd : ∀ W, (Op.stringOp .add ⟨T.toArray⟩ ⟨[letC true s.k].toArray⟩).run Tryz.prog W = .ok (.string ⟨T1.toArray⟩) W := fun W => by rw [← hT1]; exact run_string_add_lists W T _ (by have := hTl.out; omega) (by simp)
      have HT1 := Lib.hid hT1
      obtain ⟨m, hm⟩ : ∃ m, needI s.k = m := ⟨_, rfl⟩
      have HM := Lib.hid hm
      have HM3 : Hid (m ≤ 3) := hm ▸ needI_le s.k
      have hm3 := HM3.out
      have HND : Hid (∀ w, Calls Tryz.prog 21 #[.int .i64 s.k] w fun e w' => e = .returned (.int .i64 (m : Nat)) ∧ w = w') := fun w => hm ▸ refNeed_c s.k w
      obtain ⟨⟨ex, ey⟩, he⟩ : ∃ e, st.e = e := ⟨_, rfl⟩
      have HE := Lib.hid he
      have HEX : Hid (room ex = true ∧ room ey = true) := by have h := hroom.out.1; rw [he] at h; unfold Hid; simpa [roomP] using h
      have hw2 := hw.out
      rw [he] at hw2
      have HG := Lib.hid hw2.2.1
      have W3 : Hid (Below w1.heap.size w1 (w2.alloc (.cells s.cells 48)) ∧ Blk (w2.alloc (.cells s.cells 48)) w2.heap.size 48 s.cells ∧ Blk (w2.alloc (.cells s.cells 48)) w1.heap.size 45 (two (ex, ey)) ∧ Blk (w2.alloc (.cells s.cells 48)) (w1.heap.size + 1) 45 (two st.b)) :=
        ⟨hw2.1.alloc (by omega) _, Blk.new _ _ _, hw2.2.2.1.alloc _, hw2.2.2.2.alloc _⟩
      have HDR := Lib.hid hdr
      have HGN := Lib.hid hgg
      have HLT := Lib.hid hlt
      clear hpa hbs hs hq hdr hgg hf hsk hT1 hm he hw2 hgo hlt
      go_wp2_with fail
      refine (HND.out _).mono ?_
      rintro e w4 ⟨rfl, rfl⟩
      go_wp2_with fail
      obtain ⟨w3, hw3⟩ : ∃ x, w2.alloc (.cells s.cells 48) = x := ⟨_, rfl⟩
      have hw3' : w2.alloc (.cells #[.int .i64 s.k, .int .i64 s.p.1, .int .i64 s.p.2, .int .i64 s.q.1, .int .i64 s.q.2, .int .i64 s.r.1, .int .i64 s.r.2] 48) = w3 := hw3
      rw [hw3] at W3
      rw [hw3']
      clear hw3 hw3'
      clear c0 c1 c2 c3 c4 c5 c6 hadd hcut
      go_loopw [6, 46] (fun t i wx => ∃ (j : Nat) (Z : Wd), j ≤ m ∧ i = .int .i64 (j : Int) ∧ t = .string ⟨Z.toArray⟩ ∧ Hid (Z = T ++ letC true s.k :: (s.pts.take j).flatMap (ptR (ex, ey))) ∧ Hid (∀ p ∈ s.pts.take j, inB (p.1 - ex) = true ∧ inB (p.2 - ey) = true) ∧ Hid (Z.length ≤ T.length + 1 + 122 * j) ∧ Hid (Below w3.heap.size w3 wx)) (fun _ i _ => m - (intOf i).toNat)
      case atStart => exact ⟨0, T1, by omega, rfl, rfl, by unfold Hid; rw [← HT1.out]; simp, by intro p hp; simp at hp, by unfold Hid; rw [← HT1.out]; simp, Below.refl _ _⟩
      case round =>
        obtain ⟨j, Z, hj, rfl, rfl, hZ, hin, hZl, hx⟩ := hrel
        obtain ⟨w5, rfl⟩ : ∃ x, x = wr := ⟨_, rfl⟩
        by_cases hjm : j < m
        · have hd2 : decide ((j : Int) < (m : Int)) = true := by simp; omega
          have hj3 : (j : Int) < 3 := by omega
          obtain ⟨⟨px, py⟩, hp⟩ : ∃ p, s.pts[j]? = some p := ⟨_, List.getElem?_eq_getElem (by simp [Sg.pts]; omega)⟩
          obtain ⟨c0, c1⟩ := seven_pts (W3.out.2.1.grow hx.out) j (px, py) hp
          have e0 := (W3.out.2.2.1.grow hx.out).p0
          have e1 := (W3.out.2.2.1.grow hx.out).p1
          have HP := Lib.hid hp
          have HPX : Hid (room px = true ∧ room py = true) := by
            have h := (rooms_of (fault_parts HF.out).2.2).2 (px, py) (List.mem_of_getElem? (i := j) (by rw [List.getElem?_take, if_pos (by rw [HM.out]; exact hjm)]; exact hp))
            unfold Hid
            simpa [roomP] using h
          have hrx := room_iff.1 HPX.out.1
          have hry := room_iff.1 HPX.out.2
          have hsx := room_iff.1 HEX.out.1
          have hsy := room_iff.1 HEX.out.2
          obtain ⟨a, ha⟩ : ∃ a, px - ex = a := ⟨_, rfl⟩
          obtain ⟨d, hd'⟩ : ∃ d, py - ey = d := ⟨_, rfl⟩
          have hwa : wrap64 (px - ex) = a := by rw [wrapR _ (by omega) (by omega)]; exact ha
          have hwd : wrap64 (py - ey) = d := by rw [wrapR _ (by omega) (by omega)]; exact hd'
          have hwa2 : IntKind.i64.wrap (px - ex) = a := (wrap_is _).trans hwa
          have hwd2 : IntKind.i64.wrap (py - ey) = d := (wrap_is _).trans hwd
          have HA := Lib.hid ha
          have HD := Lib.hid hd'
          have HJM := Lib.hid hjm
          have HBX : Hid (Below w.heap.size w w5) := below_next H1.out.2 (W3.out.1.trans (hx.out.mono W3.out.1.size))
          clear hp hrx hry hsx hsy ha hd' hjm
          go_upto_region 13 with fail
          go_quiet (fail)
          clear c0 c1 e0 e1 hwa hwd hwa2 hwd2
          have HAW := Lib.hid (awake_c15 (w5.drewN nq) (HR.out.on (below_drewN HBX.out _)))
          have HBD : Hid (Below w.heap.size w (w5.drewN nq)) := below_drewN HBX.out _
          have HXD : Hid (Below w3.heap.size w3 (w5.drewN nq)) := below_drewN hx.out _
          generalize w5.drewN nq = w6 at HAW HBD HXD ⊢
          by_cases i1 : a < -2147483648
          · have t1 : decide (a < -2147483648) = true := decide_eq_true i1
            clear i1
            go_wp2_with fail
            refine HAW.out.mono ?_
            rintro e w7 ⟨rfl, hb⟩
            have HB := Lib.hid (below_next HBD.out hb)
            clear hb
            go_wp2_with fail
            go_ret
            exact ⟨rfl, HB.out⟩
          by_cases i2 : a > 2147483648
          · have t1 : decide (a < -2147483648) = false := decide_eq_false i1
            have t2 : decide (a > 2147483648) = true := decide_eq_true i2
            clear i1 i2
            go_wp2_with fail
            refine HAW.out.mono ?_
            rintro e w7 ⟨rfl, hb⟩
            have HB := Lib.hid (below_next HBD.out hb)
            clear hb
            go_wp2_with fail
            go_ret
            exact ⟨rfl, HB.out⟩
          by_cases i3 : d < -2147483648
          · have t1 : decide (a < -2147483648) = false := decide_eq_false i1
            have t2 : decide (a > 2147483648) = false := decide_eq_false i2
            have t3 : decide (d < -2147483648) = true := decide_eq_true i3
            clear i1 i2 i3
            go_wp2_with fail
            refine HAW.out.mono ?_
            rintro e w7 ⟨rfl, hb⟩
            have HB := Lib.hid (below_next HBD.out hb)
            clear hb
            go_wp2_with fail
            go_ret
            exact ⟨rfl, HB.out⟩
          by_cases i4 : d > 2147483648
          · have t1 : decide (a < -2147483648) = false := decide_eq_false i1
            have t2 : decide (a > 2147483648) = false := decide_eq_false i2
            have t3 : decide (d < -2147483648) = false := decide_eq_false i3
            have t4 : decide (d > 2147483648) = true := decide_eq_true i4
            clear i1 i2 i3 i4
            go_wp2_with fail
            refine HAW.out.mono ?_
            rintro e w7 ⟨rfl, hb⟩
            have HB := Lib.hid (below_next HBD.out hb)
            clear hb
            go_wp2_with fail
            go_ret
            exact ⟨rfl, HB.out⟩
          have t1 : decide (a < -2147483648) = false := decide_eq_false i1
          have t2 : decide (a > 2147483648) = false := decide_eq_false i2
          have t3 : decide (d < -2147483648) = false := decide_eq_false i3
          have t4 : decide (d > 2147483648) = false := decide_eq_false i4
          have HIN : Hid (inB a = true ∧ inB d = true) := ⟨inB_iff.2 (by omega), inB_iff.2 (by omega)⟩
          clear i1 i2 i3 i4
          have ROW7 : RowS (w6.alloc (.cells (Sg.cells ⟨1, (a, d), (0, 0), (0, 0)⟩) 53)) (.slice (some ⟨w6.heap.size, 0, none⟩) 1 1) [⟨1, (a, d), (0, 0), (0, 0)⟩] := row_one w6 _
          have HSH := Lib.hid (show_yes _ _ (w6.alloc (.cells (Sg.cells ⟨1, (a, d), (0, 0), (0, 0)⟩) 53)) (HR.out.on (HBD.out.alloc HBD.out.size _)) ROW7 (one_check HIN.out.1 HIN.out.2))
          rw [one_text] at HSH
          obtain ⟨O1, hO1⟩ : ∃ x, 77 :: ptT (a, d) = x := ⟨_, rfl⟩
          rw [hO1] at HSH
          obtain ⟨q, hq⟩ : ∃ q, O1.length = q := ⟨_, rfl⟩
          have hql : (⟨O1.toArray⟩ : ByteArray).size = q := by rw [← hq]; simp [ByteArray.size]
          have hq2 : decide ((q : Int) < 2) = false := by
            rw [← hq, ← hO1]
            simp [ptT]
            omega
          have hcut1 : ∀ W, (Instr.sliceAt 9 (.string ⟨O1.toArray⟩) (some (.int .i64 1)) none none).run Tryz.prog W = .ok (.string ⟨(ptT (a, d)).toArray⟩) W := fun W => by
            have h := slice_rest O1 1 (by rw [← hO1]; simp) W
            rw [← hO1] at h ⊢
            exact h
          obtain ⟨Z2, hZ2⟩ : ∃ x, Z ++ ptT (a, d) = x := ⟨_, rfl⟩
          have hpl := ptT_len (a, d) HIN.out
          have hadd2 : ∀ W, (Op.stringOp .add ⟨Z.toArray⟩ ⟨(ptT (a, d)).toArray⟩).run Tryz.prog W = .ok (.string ⟨Z2.toArray⟩) W := fun W => by
            rw [← hZ2]
            have h1 := hZl.out
            have h2 := hTl.out
            have h3 := HM3.out
            exact run_string_add_lists W Z _ (by omega) (by omega)
          have htk : s.pts.take (j + 1) = s.pts.take j ++ [(px, py)] := by rw [List.take_add_one, HP.out]; rfl
          have HNX : Hid (Z2 = T ++ letC true s.k :: (s.pts.take (j + 1)).flatMap (ptR (ex, ey))) := by
            unfold Hid
            rw [htk, List.flatMap_append, ← hZ2, hZ.out, ← HA.out, ← HD.out]
            simp [ptR]
          have HINX : Hid (∀ p ∈ s.pts.take (j + 1), inB (p.1 - ex) = true ∧ inB (p.2 - ey) = true) := by
            intro p hp
            rw [htk] at hp
            rcases List.mem_append.1 hp with h | h
            · exact hin.out p h
            · rw [List.mem_singleton.1 h]
              show inB (px - ex) = true ∧ inB (py - ey) = true
              rw [HA.out, HD.out]; exact HIN.out
          have HZL2 : Hid (Z2.length ≤ T.length + 1 + 122 * (j + 1)) := by
            unfold Hid
            rw [← hZ2, List.length_append]
            have := hZl.out
            omega
          clear hO1 hq ROW7 hZ2 hpl htk
          go_wp2_with fail
          refine HSH.out.mono ?_
          rintro e w7 ⟨rfl, hb⟩
          have HXE : Hid (Below w3.heap.size w3 w7) := below_next (HXD.out.alloc HXD.out.size _) hb
          clear hb HSH
          go_wp2_with fail
          exact ⟨⟨j + 1, Z2, HJM.out, by go_num, rfl, HNX.out, HINX.out, HZL2.out, HXE.out⟩, by have := HJM.out; simp [intOf]; omega⟩
        · have hd2 : decide ((j : Int) < (m : Int)) = false := by simp; omega
          obtain rfl : j = m := by omega
          have HZ : Hid (Z = T ++ segS st.e s) := by
            unfold Hid segS
            rw [hZ.out, HM.out, HE.out]
          have HTOLD : Hid (∀ v ∈ relL st.e s, inB v = true) := told_rel (by rw [HM.out, HE.out]; exact hin.out)
          have HTN : Hid (toldR true (afterR true st s) (l.drop (k + 1)) → toldR true Rs.none l) := fun h => hto.out (by rw [HDR.out]; exact ⟨HTOLD.out, h⟩)
          have HZN : Hid (Z ++ (nlT k ++ smallT (k + 1) (afterR true st s) (l.drop (k + 1))) = smallT 0 Rs.none l) := by
            unfold Hid
            rw [← hT.out, HDR.out, smallT, HZ.out, List.append_assoc]
          have W5 : Hid (Below w1.heap.size w1 w5 ∧ Blk w5 w2.heap.size 48 s.cells ∧ Blk w5 w1.heap.size 45 (two (ex, ey)) ∧ Blk w5 (w1.heap.size + 1) 45 (two st.b) ∧ w1.heap.size + 1 < w5.heap.size) :=
            ⟨W3.out.1.trans (hx.out.mono W3.out.1.size), W3.out.2.1.grow hx.out, W3.out.2.2.1.grow hx.out, W3.out.2.2.2.grow hx.out, Nat.lt_of_lt_of_le (W3.out.2.2.2).lt hx.out.size⟩
          clear hx hin hZ hto hT
          have d0 := W5.out.2.1.s0
          have f0 := W5.out.2.2.1.free 0
          have f1 := W5.out.2.2.1.free 1
          have f2 := W5.out.2.2.1.lt
          have e0 := W5.out.2.2.1.p0
          have e1 := W5.out.2.2.1.p1
          have HGX : Hid (goI (aheadL l (k + 1)) (l.drop (k + 1)) = 0) := by unfold Hid; rw [aheadL_succ HQ.out]; exact HGN.out
          obtain ⟨⟨bx, by'⟩, hb⟩ : ∃ e, st.b = e := ⟨_, rfl⟩
          have hb2 := W5.out.2.2.2.1
          rw [hb] at hb2
          have b0 := hb2.p0
          have b1 := hb2.p1
          by_cases h5 : s.k = 5
          · have t5 : (s.k == 5) = true := by simpa using h5
            have HAF := after_5 (st := st) h5
            have HRX : Hid (roomP (afterR true st s).e = true ∧ roomP (afterR true st s).b = true) := by
              unfold Hid; rw [HAF.1, HAF.2]; exact ⟨hroom.out.2, hroom.out.2⟩
            have HWX : Hid (Below w1.heap.size w1 ((w5.setCell ⟨w1.heap.size, 0, none⟩ (.int .i64 bx)).setCell ⟨w1.heap.size, 1, none⟩ (.int .i64 by')) ∧ w1.heap.size + 1 < ((w5.setCell ⟨w1.heap.size, 0, none⟩ (.int .i64 bx)).setCell ⟨w1.heap.size, 1, none⟩ (.int .i64 by')).heap.size ∧ Blk ((w5.setCell ⟨w1.heap.size, 0, none⟩ (.int .i64 bx)).setCell ⟨w1.heap.size, 1, none⟩ (.int .i64 by')) w1.heap.size 45 (two (afterR true st s).e) ∧ Blk ((w5.setCell ⟨w1.heap.size, 0, none⟩ (.int .i64 bx)).setCell ⟨w1.heap.size, 1, none⟩ (.int .i64 by')) (w1.heap.size + 1) 45 (two (afterR true st s).b)) := by
              unfold Hid
              rw [HAF.1, HAF.2, hb]
              exact ⟨below_two W5.out.1 (Nat.le_refl _) _ _, by have := W5.out.2.2.2.2; simp [World.setCell]; omega, W5.out.2.2.1.setP _ _, hb2.otherP (by omega) _ _⟩
            clear hb hb2 h5 HAF
            rcases Nat.mod_two_eq_zero_or_one k with hpar | hpar
            · have hnl : nlT k = [10] := by unfold nlT; rw [if_pos hpar]
              have hrem : IntKind.i64.wrap ((k : Int).tmod 2) = 0 := by rw [Int.tmod_eq_emod_of_nonneg (by omega), show (k : Int) % 2 = 0 by omega]; rfl
              have hrem2 : (k : Int).tmod 2 = 0 := by rw [Int.tmod_eq_emod_of_nonneg (by omega)]; omega
              obtain ⟨Z2, hZ2⟩ : ∃ x, Z ++ [10] = x := ⟨_, rfl⟩
              have hadd2 : ∀ W, (Op.stringOp .add ⟨Z.toArray⟩ ⟨#[10]⟩).run Tryz.prog W = .ok (.string ⟨Z2.toArray⟩) W := fun W => by
                rw [← hZ2]
                have h1 := hZl.out
                have h2 := hTl.out
                exact run_string_add_lists W Z [10] (by omega) (by simp)
              have HNX : Hid (Z2 ++ smallT (k + 1) (afterR true st s) (l.drop (k + 1)) = smallT 0 Rs.none l) := by
                unfold Hid; rw [← HZN.out, hnl, ← hZ2]; simp
              have HLX : Hid (Z2.length ≤ 400 * (k + 1)) := by
                have h1 := hZl.out
                have h2 := hTl.out
                have h3 := HM3.out
                unfold Hid; rw [← hZ2]; simp; omega
              clear hZ2 hpar hnl
              go_wp2_with fail
              exact ⟨⟨k + 1, Z2, afterR true st s, HLT.out, by go_num, rfl, HNX.out, HTN.out, HGX.out, HRX.out, HLX.out, HWX.out⟩, by have := HLT.out; simp [intOf]; omega⟩
            · have hnl : nlT k = [] := by unfold nlT; rw [if_neg (by omega)]
              have hrem : IntKind.i64.wrap ((k : Int).tmod 2) = 1 := by rw [Int.tmod_eq_emod_of_nonneg (by omega), show (k : Int) % 2 = 1 by omega]; rfl
              have hrem2 : (k : Int).tmod 2 = 1 := by rw [Int.tmod_eq_emod_of_nonneg (by omega)]; omega
              have HNX : Hid (Z ++ smallT (k + 1) (afterR true st s) (l.drop (k + 1)) = smallT 0 Rs.none l) := by
                unfold Hid; rw [← HZN.out, hnl]; simp
              have HLX : Hid (Z.length ≤ 400 * (k + 1)) := by
                have h1 := hZl.out
                have h2 := hTl.out
                have h3 := HM3.out
                unfold Hid; omega
              clear hpar hnl
              go_wp2_with fail
              exact ⟨⟨k + 1, Z, afterR true st s, HLT.out, by go_num, rfl, HNX.out, HTN.out, HGX.out, HRX.out, HLX.out, HWX.out⟩, by have := HLT.out; simp [intOf]; omega⟩
          · have t5 : (s.k == 5) = false := by simpa using h5
            obtain ⟨hj0, hend⟩ := last_pt HSK.out h5
            obtain ⟨⟨zx, zy⟩, hz⟩ : ∃ e, endP s = e := ⟨_, rfl⟩
            rw [hz] at hend
            rw [HM.out] at hend hj0
            have hi3 : (j : Int) - 1 < 3 := by have := HM3.out; omega
            have hj1 : (1 : Int) ≤ (j : Int) := by omega
            obtain ⟨z0, z1⟩ := seven_pts W5.out.2.1 (j - 1) (zx, zy) hend
            have HZR : Hid (roomP (zx, zy) = true) := by have h := ends_room HF.out h5; rw [hz] at h; exact h
            have HZ := Lib.hid hz
            have HB := Lib.hid hb
            have H5 := Lib.hid h5
            have W6 : Hid (Below w1.heap.size w1 ((w5.setCell ⟨w1.heap.size, 0, none⟩ (.int .i64 zx)).setCell ⟨w1.heap.size, 1, none⟩ (.int .i64 zy)) ∧ w1.heap.size + 1 < ((w5.setCell ⟨w1.heap.size, 0, none⟩ (.int .i64 zx)).setCell ⟨w1.heap.size, 1, none⟩ (.int .i64 zy)).heap.size ∧ Blk ((w5.setCell ⟨w1.heap.size, 0, none⟩ (.int .i64 zx)).setCell ⟨w1.heap.size, 1, none⟩ (.int .i64 zy)) w1.heap.size 45 (two (zx, zy)) ∧ Blk ((w5.setCell ⟨w1.heap.size, 0, none⟩ (.int .i64 zx)).setCell ⟨w1.heap.size, 1, none⟩ (.int .i64 zy)) (w1.heap.size + 1) 45 (two (bx, by')) ∧ Blk ((w5.setCell ⟨w1.heap.size, 0, none⟩ (.int .i64 zx)).setCell ⟨w1.heap.size, 1, none⟩ (.int .i64 zy)) w2.heap.size 48 s.cells) := by
              refine ⟨below_two W5.out.1 (Nat.le_refl _) _ _, by have := W5.out.2.2.2.2; simp [World.setCell]; omega, W5.out.2.2.1.setP _ _, hb2.otherP (by omega) _ _, W5.out.2.1.otherP ?_ _ _⟩
              have := HG.out
              omega
            clear hend hz hj0 hb hb2 h5 b0 b1
            go_wp2_with fail
            refine (HND.out _).mono ?_
            rintro e w4 ⟨rfl, rfl⟩
            go_upto_region 22 with fail
            clear z0 z1 e0 e1 f0 f1 f2 d0
            generalize (w5.setCell ⟨w1.heap.size, 0, none⟩ (.int .i64 zx)).setCell ⟨w1.heap.size, 1, none⟩ (.int .i64 zy) = w6 at W6 ⊢
            have d0 := W6.out.2.2.2.2.s0
            by_cases h1 : s.k = 1
            · have t1 : (s.k == 1) = true := by simpa using h1
              have HAF := after_1 (st := st) h1
              have hes : endP s = s.p := by unfold endP; rw [if_neg (by omega), if_neg (by omega)]
              rw [← hes, HZ.out] at HAF
              have e0 := W6.out.2.2.1.p0
              have e1 := W6.out.2.2.1.p1
              have g0 := W6.out.2.2.2.1.p0
              have g1 := W6.out.2.2.2.1.p1
              have f0 := W6.out.2.2.2.1.free 0
              have f1 := W6.out.2.2.2.1.free 1
              have f2 := W6.out.2.2.2.1.lt
              have HRX : Hid (roomP (afterR true st s).e = true ∧ roomP (afterR true st s).b = true) := by
                unfold Hid; rw [HAF.1, HAF.2]; exact ⟨HZR.out, HZR.out⟩
              have HWX : Hid (Below w1.heap.size w1 ((w6.setCell ⟨w1.heap.size + 1, 0, none⟩ (.int .i64 zx)).setCell ⟨w1.heap.size + 1, 1, none⟩ (.int .i64 zy)) ∧ w1.heap.size + 1 < ((w6.setCell ⟨w1.heap.size + 1, 0, none⟩ (.int .i64 zx)).setCell ⟨w1.heap.size + 1, 1, none⟩ (.int .i64 zy)).heap.size ∧ Blk ((w6.setCell ⟨w1.heap.size + 1, 0, none⟩ (.int .i64 zx)).setCell ⟨w1.heap.size + 1, 1, none⟩ (.int .i64 zy)) w1.heap.size 45 (two (afterR true st s).e) ∧ Blk ((w6.setCell ⟨w1.heap.size + 1, 0, none⟩ (.int .i64 zx)).setCell ⟨w1.heap.size + 1, 1, none⟩ (.int .i64 zy)) (w1.heap.size + 1) 45 (two (afterR true st s).b)) := by
                unfold Hid
                rw [HAF.1, HAF.2]
                exact ⟨below_two W6.out.1 (by omega) _ _, by have := W6.out.2.1; simp [World.setCell]; omega, W6.out.2.2.1.otherP (by omega) _ _, W6.out.2.2.2.1.setP _ _⟩
              clear h1 HAF hes
              rcases Nat.mod_two_eq_zero_or_one k with hpar | hpar
              · have hnl : nlT k = [10] := by unfold nlT; rw [if_pos hpar]
                have hrem : IntKind.i64.wrap ((k : Int).tmod 2) = 0 := by rw [Int.tmod_eq_emod_of_nonneg (by omega), show (k : Int) % 2 = 0 by omega]; rfl
                have hrem2 : (k : Int).tmod 2 = 0 := by rw [Int.tmod_eq_emod_of_nonneg (by omega)]; omega
                obtain ⟨Z2, hZ2⟩ : ∃ x, Z ++ [10] = x := ⟨_, rfl⟩
                have hadd2 : ∀ W, (Op.stringOp .add ⟨Z.toArray⟩ ⟨#[10]⟩).run Tryz.prog W = .ok (.string ⟨Z2.toArray⟩) W := fun W => by
                  rw [← hZ2]
                  have h1 := hZl.out
                  have h2 := hTl.out
                  exact run_string_add_lists W Z [10] (by omega) (by simp)
                have HNX : Hid (Z2 ++ smallT (k + 1) (afterR true st s) (l.drop (k + 1)) = smallT 0 Rs.none l) := by
                  unfold Hid; rw [← HZN.out, hnl, ← hZ2]; simp
                have HLX : Hid (Z2.length ≤ 400 * (k + 1)) := by
                  have h1 := hZl.out
                  have h2 := hTl.out
                  have h3 := HM3.out
                  unfold Hid; rw [← hZ2]; simp; omega
                clear hZ2 hpar hnl
                go_wp2_with fail
                exact ⟨⟨k + 1, Z2, afterR true st s, HLT.out, by go_num, rfl, HNX.out, HTN.out, HGX.out, HRX.out, HLX.out, HWX.out⟩, by have := HLT.out; simp [intOf]; omega⟩
              · have hnl : nlT k = [] := by unfold nlT; rw [if_neg (by omega)]
                have hrem : IntKind.i64.wrap ((k : Int).tmod 2) = 1 := by rw [Int.tmod_eq_emod_of_nonneg (by omega), show (k : Int) % 2 = 1 by omega]; rfl
                have hrem2 : (k : Int).tmod 2 = 1 := by rw [Int.tmod_eq_emod_of_nonneg (by omega)]; omega
                have HNX : Hid (Z ++ smallT (k + 1) (afterR true st s) (l.drop (k + 1)) = smallT 0 Rs.none l) := by
                  unfold Hid; rw [← HZN.out, hnl]; simp
                have HLX : Hid (Z.length ≤ 400 * (k + 1)) := by
                  have h1 := hZl.out
                  have h2 := hTl.out
                  have h3 := HM3.out
                  unfold Hid; omega
                clear hpar hnl
                go_wp2_with fail
                exact ⟨⟨k + 1, Z, afterR true st s, HLT.out, by go_num, rfl, HNX.out, HTN.out, HGX.out, HRX.out, HLX.out, HWX.out⟩, by have := HLT.out; simp [intOf]; omega⟩
            · have t1 : (s.k == 1) = false := by simpa using h1
              have HAF := after_o (st := st) h1 H5.out
              rw [HZ.out, HB.out] at HAF
              have HRX : Hid (roomP (afterR true st s).e = true ∧ roomP (afterR true st s).b = true) := by
                unfold Hid; rw [HAF.1, HAF.2]; exact ⟨HZR.out, HB.out ▸ hroom.out.2⟩
              have HWX : Hid (Below w1.heap.size w1 w6 ∧ w1.heap.size + 1 < w6.heap.size ∧ Blk w6 w1.heap.size 45 (two (afterR true st s).e) ∧ Blk w6 (w1.heap.size + 1) 45 (two (afterR true st s).b)) := by
                unfold Hid
                rw [HAF.1, HAF.2]
                exact ⟨W6.out.1, W6.out.2.1, W6.out.2.2.1, W6.out.2.2.2.1⟩
              clear h1 HAF
              rcases Nat.mod_two_eq_zero_or_one k with hpar | hpar
              · have hnl : nlT k = [10] := by unfold nlT; rw [if_pos hpar]
                have hrem : IntKind.i64.wrap ((k : Int).tmod 2) = 0 := by rw [Int.tmod_eq_emod_of_nonneg (by omega), show (k : Int) % 2 = 0 by omega]; rfl
                have hrem2 : (k : Int).tmod 2 = 0 := by rw [Int.tmod_eq_emod_of_nonneg (by omega)]; omega
                obtain ⟨Z2, hZ2⟩ : ∃ x, Z ++ [10] = x := ⟨_, rfl⟩
                have hadd2 : ∀ W, (Op.stringOp .add ⟨Z.toArray⟩ ⟨#[10]⟩).run Tryz.prog W = .ok (.string ⟨Z2.toArray⟩) W := fun W => by
                  rw [← hZ2]
                  have h1 := hZl.out
                  have h2 := hTl.out
                  exact run_string_add_lists W Z [10] (by omega) (by simp)
                have HNX : Hid (Z2 ++ smallT (k + 1) (afterR true st s) (l.drop (k + 1)) = smallT 0 Rs.none l) := by
                  unfold Hid; rw [← HZN.out, hnl, ← hZ2]; simp
                have HLX : Hid (Z2.length ≤ 400 * (k + 1)) := by
                  have h1 := hZl.out
                  have h2 := hTl.out
                  have h3 := HM3.out
                  unfold Hid; rw [← hZ2]; simp; omega
                clear hZ2 hpar hnl
                go_wp2_with fail
                exact ⟨⟨k + 1, Z2, afterR true st s, HLT.out, by go_num, rfl, HNX.out, HTN.out, HGX.out, HRX.out, HLX.out, HWX.out⟩, by have := HLT.out; simp [intOf]; omega⟩
              · have hnl : nlT k = [] := by unfold nlT; rw [if_neg (by omega)]
                have hrem : IntKind.i64.wrap ((k : Int).tmod 2) = 1 := by rw [Int.tmod_eq_emod_of_nonneg (by omega), show (k : Int) % 2 = 1 by omega]; rfl
                have hrem2 : (k : Int).tmod 2 = 1 := by rw [Int.tmod_eq_emod_of_nonneg (by omega)]; omega
                have HNX : Hid (Z ++ smallT (k + 1) (afterR true st s) (l.drop (k + 1)) = smallT 0 Rs.none l) := by
                  unfold Hid; rw [← HZN.out, hnl]; simp
                have HLX : Hid (Z.length ≤ 400 * (k + 1)) := by
                  have h1 := hZl.out
                  have h2 := hTl.out
                  have h3 := HM3.out
                  unfold Hid; omega
                clear hpar hnl
                go_wp2_with fail
                exact ⟨⟨k + 1, Z, afterR true st s, HLT.out, by go_num, rfl, HNX.out, HTN.out, HGX.out, HRX.out, HLX.out, HWX.out⟩, by have := HLT.out; simp [intOf]; omega⟩
    · obtain rfl : k = n := by omega
      have hd1 : decide ((k : Int) < (k : Int)) = false := by simp
      have hTT : T = smallT 0 Rs.none l := by
        have h := hT.out
        rw [List.drop_of_length_le (Nat.le_of_eq HN.out), smallT, List.append_nil] at h
        exact h
      have htold : toldR true Rs.none l := hto.out (by rw [List.drop_of_length_le (Nat.le_of_eq HN.out)]; trivial)
      have hrd := read_small HC.out htold
      rw [← hTT] at hrd
      have HBW : Hid (Below w.heap.size w w2) := below_next H1.out.2 hw.out.1
      have HRD := Lib.hid (Read_c T w2 (HR.out.on HBW.out) (by have := hTl.out; omega))
      rw [hrd] at HRD
      generalize (pathW true Rs.none l).length = q at HRD
      have HX2 : Hid (RowS w2 (.slice ra k rc) l) := H1.out.1.on hw.out.1
      clear hTT htold hrd hT hto hgo hroom hw
      go_wp2_with fail
      refine HRD.out.mono ?_
      rintro e w3 ⟨y, rfl, ho, hb⟩
      have H3 := Lib.hid (And.intro ho.row (And.intro (HX2.out.on hb) (below_next HBW.out hb)))
      obtain ⟨ya, yc, rfl⟩ := ho.row.shape
      dsimp only at H3 ⊢
      rw [HN.out] at H3 ⊢
      clear ho hb HRD
      go_wp2_with fail
      refine (same_c _ _ l w3 HL.out H3.out.1 H3.out.2.1).mono ?_
      rintro e w4 ⟨rfl, hb⟩
      have H4 := Lib.hid (below_next H3.out.2.2 hb)
      clear hb
      go_wp2_with fail
      refine (awake_c15 w4 (HR.out.on H4.out)).mono ?_
      rintro e w5 ⟨rfl, hb⟩
      have H5 := Lib.hid (below_next H4.out hb)
      clear hb
      go_wp2_with fail
      go_ret
      exact ⟨rfl, H5.out⟩
theorem small_law (v : Value) (l : List Sg) (hl : l.length ≤ 2513169434843) (w : World) (row : RowS w v l) (hr : Rdd w) : Calls Tryz.prog 7 #[v] w fun e w' => e = .returned (.bool true) ∧ Below w.heap.size w w' := by
  by_cases h : l.length ≤ 40
  · by_cases hc : checkI l = 0
    · exact small_yes v l w hr row h hc
    · exact small_no v l w hr row h hc
  · exact small_long v l w hr row hl (by omega)
end Go.Proofs.YtbnbglngpgikfaaGreatDoor
