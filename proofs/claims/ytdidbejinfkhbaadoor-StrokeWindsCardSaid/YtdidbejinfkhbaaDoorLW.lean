/- Layer 7: the law StrokeWinds. -/
import Derived.Test.YtdidbejinfkhbaaDoorTh
import Derived.Test.YtdidbejinfkhbaaDoorTi
import Derived.Test.YtdidbejinfkhbaaDoorSh
namespace Go.Proofs.YtdidbejinfkhbaaDoor
open Go.RowKit
set_option maxHeartbeats 4000000 in
set_option maxRecDepth 100000 in
theorem winds_many (ao : Option Addr) (n c : Nat) (cl : Bool) (h qx qy : Int) (w : World) (HAW : Hid (∀ w, Calls Tryd.prog 10 #[] w fun e w' => e = .returned (.bool true) ∧ Below w.heap.size w w')) (hn : n > 20) :
    Calls Tryd.prog 5 #[.agg #[.slice ao n c, .bool cl], .int .i64 h, .agg #[.int .i64 qx, .int .i64 qy]] w fun e w' => e = .returned (.bool true) ∧ Below w.heap.size w w' := by
  go_enter Tryd.func5, Tryd.ntmps5
  go_wp2_with fail
  obtain ⟨W, hW⟩ : ∃ W, (w.alloc (.cells #[.slice ao n c, .bool cl] 39)).alloc (.cells #[.int .i64 qx, .int .i64 qy] 23) = W := ⟨_, rfl⟩
  have S0 : Hid (Below w.heap.size w W ∧ w.heap.size ≤ W.heap.size ∧ Blk W w.heap.size 39 #[.slice ao n c, .bool cl] ∧ Blk W (w.heap.size + 1) 23 (two (qx, qy))) := by
    rw [← hW]
    exact ⟨((Below.refl _ _).alloc (Nat.le_refl _) _).alloc (by simp) _, by simp; omega, (Blk.new _ _ _).alloc _, Blk.newAt _ _ _ (by simp)⟩
  rw [hW]
  clear hW
  refine (HAW.out _).mono ?_
  rintro e w9 ⟨rfl, hb9⟩
  have B9 : Hid (Below w.heap.size w w9) := S0.out.1.trans (hb9.mono S0.out.1.size)
  clear hb9
  go_wp2_with fail
  go_ret
  exact ⟨rfl, B9.out⟩
set_option maxHeartbeats 4000000 in
set_option maxRecDepth 100000 in
theorem winds_out (ao : Option Addr) (n c : Nat) (cl : Bool) (h qx qy : Int) (w : World) (HAW : Hid (∀ w, Calls Tryd.prog 10 #[] w fun e w' => e = .returned (.bool true) ∧ Below w.heap.size w w')) (HIN : Hid (∀ w, Calls Tryd.prog 9 #[.agg #[.int .i64 qx, .int .i64 qy]] w fun e w' => e = .returned (.bool false) ∧ Below w.heap.size w w')) (hn : ¬ n > 20) :
    Calls Tryd.prog 5 #[.agg #[.slice ao n c, .bool cl], .int .i64 h, .agg #[.int .i64 qx, .int .i64 qy]] w fun e w' => e = .returned (.bool true) ∧ Below w.heap.size w w' := by
  go_enter Tryd.func5, Tryd.ntmps5
  go_wp2_with fail
  obtain ⟨W, hW⟩ : ∃ W, (w.alloc (.cells #[.slice ao n c, .bool cl] 39)).alloc (.cells #[.int .i64 qx, .int .i64 qy] 23) = W := ⟨_, rfl⟩
  have S0 : Hid (Below w.heap.size w W ∧ w.heap.size ≤ W.heap.size ∧ Blk W w.heap.size 39 #[.slice ao n c, .bool cl] ∧ Blk W (w.heap.size + 1) 23 (two (qx, qy))) := by
    rw [← hW]
    exact ⟨((Below.refl _ _).alloc (Nat.le_refl _) _).alloc (by simp) _, by simp; omega, (Blk.new _ _ _).alloc _, Blk.newAt _ _ _ (by simp)⟩
  rw [hW]
  clear hW
  have kq := S0.out.2.2.2
  have q0 := kq.p0
  have q1 := kq.p1
  clear kq
  refine (HIN.out _).mono ?_
  rintro e w1 ⟨rfl, hb⟩
  have S1 : Hid (Below w.heap.size w w1) := S0.out.1.trans (hb.mono S0.out.2.1)
  clear hb q0 q1
  go_wp2_with fail
  refine (HAW.out _).mono ?_
  rintro e w9 ⟨rfl, hb9⟩
  have B9 : Hid (Below w.heap.size w w9) := S1.out.trans (hb9.mono S1.out.size)
  clear hb9
  go_wp2_with fail
  go_ret
  exact ⟨rfl, B9.out⟩
set_option maxHeartbeats 4000000 in
set_option maxRecDepth 100000 in
theorem winds_main (ao : Option Addr) (n c : Nat) (cl : Bool) (h qx qy : Int) (w : World) (HAW : Hid (∀ w, Calls Tryd.prog 10 #[] w fun e w' => e = .returned (.bool true) ∧ Below w.heap.size w w')) (HIN : Hid (∀ w, Calls Tryd.prog 9 #[.agg #[.int .i64 qx, .int .i64 qy]] w fun e w' => e = .returned (.bool true) ∧ Below w.heap.size w w')) (hn : ¬ n > 20) (SO : Nat → Int × List (List Pt))
    (HST : Hid (∀ (k : Nat) w', Below w.heap.size w w' → Calls Tryd.prog 17 #[.agg #[.slice ao n c, .bool cl], .int .i64 h, .int .i64 (k : Int)] w' (ToldQ w'.heap.size w' (SO k))))
    (HPP : Hid (∀ k, (SO k).1 = 0 → ∀ L ∈ (SO k).2, windQ L))
    (HWI : Hid (∀ s L w', windQ L → Row w' s L → Calls Tryd.prog 19 #[s, .agg #[.int .i64 qx, .int .i64 qy]] w' fun e w'' => e = .returned (.int .i64 (windsI L (qx, qy))) ∧ Below w'.heap.size w' w'')) :
    Calls Tryd.prog 5 #[.agg #[.slice ao n c, .bool cl], .int .i64 h, .agg #[.int .i64 qx, .int .i64 qy]] w fun e w' => e = .returned (.bool true) ∧ Below w.heap.size w w' := by
  go_enter Tryd.func5, Tryd.ntmps5
  go_wp2_with fail
  obtain ⟨W, hW⟩ : ∃ W, (w.alloc (.cells #[.slice ao n c, .bool cl] 39)).alloc (.cells #[.int .i64 qx, .int .i64 qy] 23) = W := ⟨_, rfl⟩
  have S0 : Hid (Below w.heap.size w W ∧ w.heap.size ≤ W.heap.size ∧ Blk W w.heap.size 39 #[.slice ao n c, .bool cl] ∧ Blk W (w.heap.size + 1) 23 (two (qx, qy))) := by
    rw [← hW]
    exact ⟨((Below.refl _ _).alloc (Nat.le_refl _) _).alloc (by simp) _, by simp; omega, (Blk.new _ _ _).alloc _, Blk.newAt _ _ _ (by simp)⟩
  rw [hW]
  clear hW
  refine (HIN.out _).mono ?_
  rintro e w1 ⟨rfl, hb⟩
  have S1 : Hid (Below w.heap.size w w1 ∧ w.heap.size ≤ w1.heap.size ∧ Blk w1 w.heap.size 39 #[.slice ao n c, .bool cl] ∧ Blk w1 (w.heap.size + 1) 23 (two (qx, qy))) := ⟨S0.out.1.trans (hb.mono S0.out.2.1), Nat.le_trans S0.out.2.1 hb.size, S0.out.2.2.1.grow hb, S0.out.2.2.2.grow hb⟩
  clear hb S0
  go_wp2_with fail
  go_loopw [23] (fun i wr => ∃ k : Nat, k ≤ 3 ∧ i = .int .i64 k ∧ Hid (Below w1.heap.size w1 wr)) (fun i _ => 3 - (intOf i).toNat)
  case atStart => exact ⟨0, by omega, rfl, Below.refl _ _⟩
  case round =>
    obtain ⟨k, hk, rfl, hw⟩ := hrel
    by_cases hlt : k < 3
    · have hd : decide ((k : Int) < 3) = true := by simp; omega
      have K2 := Lib.hid (S1.out.2.2.1.grow hw.out)
      have Q2 := Lib.hid (S1.out.2.2.2.grow hw.out)
      have B2 : Hid (Below w.heap.size w wr) := S1.out.1.trans (hw.out.mono S1.out.2.1)
      have s0 := K2.out.cell 0
      have s1 := K2.out.cell 1
      simp only [List.getElem?_toArray, List.getElem?_cons_zero, List.getElem?_cons_succ] at s0 s1
      have HS := Lib.hid (HST.out k wr B2.out)
      have HPK := Lib.hid (HPP.out k)
      generalize SO k = so at HS HPK
      obtain ⟨z, PP⟩ := so
      simp only at HPK
      obtain ⟨wz, rfl⟩ : ∃ x, x = wr := ⟨_, rfl⟩
      go_wp2_with fail
      refine HS.out.mono ?_
      rintro e w4 ⟨v4, S, rfl, p4, e4, b4⟩
      have P4 := Lib.hid p4
      have E4 := Lib.hid e4
      have B4 := Lib.hid b4
      obtain ⟨q, hq⟩ : ∃ q, S.length = q := ⟨_, rfl⟩
      have HQ := Lib.hid hq
      obtain ⟨a4, c4, rfl⟩ : ∃ a c, v4 = .slice a q c := by rw [← hq]; exact polys_shape p4
      clear p4 e4 b4 s0 s1 hq
      by_cases hz : z = 0
      · subst hz
        have HALL := Lib.hid (HPK.out rfl)
        have hq3 : q ≤ 9223372036854775807 := by have := (own_lim P4.out.row); have := HQ.out; unfold maxLen at *; omega
        have Q4 := Lib.hid (Q2.out.grow B4.out)
        go_wp2_with fail
        go_loopw [37] (fun i wr => ∃ m : Nat, m ≤ q ∧ i = .int .i64 m ∧ Hid (Below w4.heap.size w4 wr)) (fun i _ => q - (intOf i).toNat)
        case atStart => exact ⟨0, by omega, rfl, Below.refl _ _⟩
        case round =>
          obtain ⟨m, hm, rfl, hv⟩ := hrel
          by_cases hlt2 : m < q
          · have hd2 : decide ((m : Int) < (q : Int)) = true := by simp; omega
            obtain ⟨⟨vk, Lk⟩, hx⟩ : ∃ x, S[m]? = some x := ⟨_, List.getElem?_eq_getElem (by rw [HQ.out]; exact hlt2)⟩
            have PR := Lib.hid (P4.out.grow hv.out)
            have OK := Lib.hid (PR.out.own _ (List.mem_of_getElem? hx))
            have HX := Lib.hid (HALL.out Lk (by rw [← E4.out]; exact List.mem_map.2 ⟨_, List.mem_of_getElem? hx, rfl⟩))
            obtain ⟨g4, rfl, hg4, c0⟩ := polys_cell PR.out (HQ.out) hx
            simp only at OK c0
            obtain ⟨ak, nk, ck, rfl⟩ := own_shape' OK.out
            have HWK := Lib.hid (HWI.out (.slice ak nk ck) Lk wr HX.out OK.out.row)
            have HV := Lib.hid (HX.out.2.2 (qx, qy))
            generalize windsI Lk (qx, qy) = nu at HWK HV
            have hn0 : ¬ nu < 0 := by have := HV.out.1; omega
            have hn1 : ¬ nu > 1 := by have := HV.out.2; omega
            have kq := Q4.out.grow hv.out
            have q0 := kq.p0
            have q1 := kq.p1
            clear hx kq
            go_wp2_with fail
            refine HWK.out.mono ?_
            rintro e w8 ⟨rfl, hb8⟩
            have B8 : Hid (Below w4.heap.size w4 w8) := below_next hv.out hb8
            clear hb8 q0 q1 c0
            go_wp2_with fail
            exact ⟨⟨m + 1, by omega, by go_num, B8.out⟩, by simp [intOf]; omega⟩
          · have hd2 : decide ((m : Int) < (q : Int)) = false := by simp; omega
            go_wp2_with fail
            exact ⟨⟨k + 1, by omega, by go_num, below_next (below_next hw.out B4.out) hv.out⟩, by simp [intOf]; omega⟩
      · go_wp2_with fail
        exact ⟨⟨k + 1, by omega, by go_num, below_next hw.out B4.out⟩, by simp [intOf]; omega⟩
    · have hd : decide ((k : Int) < 3) = false := by simp; omega
      have B2 : Hid (Below w.heap.size w wr) := S1.out.1.trans (hw.out.mono S1.out.2.1)
      go_wp2_with fail
      refine (HAW.out _).mono ?_
      rintro e w9 ⟨rfl, hb9⟩
      have B9 : Hid (Below w.heap.size w w9) := B2.out.trans (hb9.mono B2.out.size)
      clear hb9
      go_wp2_with fail
      go_ret
      exact ⟨rfl, B9.out⟩
theorem strokeWinds_c (ao : Option Addr) (n c : Nat) (l : List Pt) (cl : Bool) (h qx qy : Int) (w : World) (hr : Rd w) (row : Row w (.slice ao n c) l) (_hnc : n ≤ c) :
    Calls Tryd.prog 5 #[.agg #[.slice ao n c, .bool cl], .int .i64 h, .agg #[.int .i64 qx, .int .i64 qy]] w fun e w' => e = .returned (.bool true) ∧ Below w.heap.size w w' := by
  have HAW := Lib.hid (fun w => awake_c w)
  have hlen := row_len row
  by_cases hn : n > 20
  · exact winds_many ao n c cl h qx qy w HAW hn
  have HIN := Lib.hid (fun w => lawIn_c qx qy w)
  cases hq : roomP (qx, qy)
  · rw [hq] at HIN
    exact winds_out ao n c cl h qx qy w HAW HIN hn
  · rw [hq] at HIN
    refine winds_main ao n c cl h qx qy w HAW HIN hn (fun k => strokeOut l cl h (k : Int)) (Lib.hid fun k w' hb => stroke_c _ l cl h _ w' (row.on hb) (hr.on hb) (by omega)) (Lib.hid fun k hz => ?_) (Lib.hid fun s L w' hQ hrow => winds_c s L qx qy w' (by have := hQ.1; omega) hrow hQ.2.1 hq)
    exact wind_all l cl h k (penB_iff.1 (strokeOut_zero hz).1).1
end Go.Proofs.YtdidbejinfkhbaaDoor
