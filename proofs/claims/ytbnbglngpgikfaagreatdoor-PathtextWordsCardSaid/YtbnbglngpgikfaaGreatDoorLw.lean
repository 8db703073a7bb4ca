/- Layer 15: the law of the words. -/
import Derived.Test.YtbnbglngpgikfaaGreatDoorRd
import Derived.Test.YtbnbglngpgikfaaGreatDoorRc
namespace Go.Proofs.YtbnbglngpgikfaaGreatDoor
open Go.RowKit Go.Shelf
attribute [local go_sem] Oper.semAt_some
theorem tailed_snoc (l : List Wd) (x : Wd) : tailed (l ++ [x]) = tailed l ++ (x ++ [32, 44, 10]) := by
  rw [tailed_append]; simp [tailed]
theorem tailed_len : ∀ (l : List Wd) (m : Nat), (∀ w ∈ l, w.length ≤ m) → (tailed l).length ≤ l.length * (m + 3)
  | [], _, _ => by simp [tailed]
  | w :: r, m, h => by
    have h1 := h w (List.mem_cons_self ..)
    have h2 := tailed_len r m (fun x hx => h x (List.mem_cons_of_mem _ hx))
    have h3 : (w :: r).length * (m + 3) = r.length * (m + 3) + (m + 3) := by rw [List.length_cons, Nat.add_mul, Nat.one_mul]
    rw [tailed, h3]
    simp only [List.length_append, List.length_cons]
    omega
theorem strs_ne (x : Wd) (h : x ≠ []) : (x == ([] : Wd)) = false := by simpa using h
set_option maxHeartbeats 4000000 in
set_option maxRecDepth 100000 in
theorem words_long (l : Wd) (w : World) (hr : Rdd w) (h : 500 < l.length) : Calls Tryz.prog 6 #[.string ⟨l.toArray⟩] w fun e w' => e = .returned (.bool true) ∧ Below w.heap.size w w' := by
  have HA := Lib.hid (awake_c15 w hr)
  obtain ⟨n, hn⟩ : ∃ n, l.length = n := ⟨_, rfl⟩
  have hlen : (⟨l.toArray⟩ : ByteArray).size = n := by rw [← hn]; simp [ByteArray.size]
  have hd : decide ((n : Int) > 500) = true := by simp; omega
  clear hr h hn
  go_enter Tryz.func6, Tryz.ntmps6
  go_wp2_with fail
  refine HA.out.mono ?_
  rintro e w1 ⟨rfl, hb⟩
  have HB := Lib.hid hb
  clear hb
  go_wp2_with fail
  go_ret
  exact ⟨rfl, HB.out⟩
set_option maxHeartbeats 4000000 in
set_option maxRecDepth 100000 in
theorem words_short (l : Wd) (w : World) (hr : Rdd w) (h : l.length ≤ 500) : Calls Tryz.prog 6 #[.string ⟨l.toArray⟩] w fun e w' => e = .returned (.bool true) ∧ Below w.heap.size w w' := by
  obtain ⟨n, hn⟩ : ∃ n, l.length = n := ⟨_, rfl⟩
  have hlen : (⟨l.toArray⟩ : ByteArray).size = n := by rw [← hn]; simp [ByteArray.size]
  have hd : decide ((n : Int) > 500) = false := by simp; omega
  obtain ⟨N, hN⟩ : ∃ N, w.heap.size = N := ⟨_, rfl⟩
  have HN := Lib.hid hN
  have HEV : Hid (Ev N w) := by rw [← hN]; exact ev_of hr
  have HW1 := Lib.hid (Words_c l w (by omega))
  have HWR := fun W => Lib.hid (refWords_c l W (by omega))
  obtain ⟨ws, hws⟩ : ∃ ws, wordsL l = ws := ⟨_, rfl⟩
  have HARE : Hid (∀ x ∈ ws, isWord x ∧ x.length ≤ 500) := fun x hx => by rw [← hws] at hx; exact ⟨wordsL_are l x hx, Nat.le_trans (word_len l x hx) h⟩
  have HWL : Hid (ws.length ≤ 500) := by unfold Hid; rw [← hws]; exact Nat.le_trans (wordsL_len l) h
  rw [hws, hN] at HW1
  simp only [hws] at HWR
  obtain ⟨m, hm⟩ : ∃ m, ws.length = m := ⟨_, rfl⟩
  have HM := Lib.hid hm
  have hm63 : (m : Int) ≤ 500 := by have := HWL.out; omega
  rw [hN]
  clear hr h hn hN hws
  go_enter Tryz.func6, Tryz.ntmps6
  go_wp2_with fail
  refine HW1.out.mono ?_
  rintro e w1 ⟨u, rfl, ho, hb⟩
  have H1 := Lib.hid (And.intro ho.row hb)
  obtain ⟨ua, uc, rfl⟩ := ho.shape
  rw [hm] at H1 ⊢
  clear ho hb HW1
  go_wp2_with fail
  refine (HWR w1).out.mono ?_
  rintro e w2 ⟨x, rfl, ho, hb⟩
  have H2 : Hid (RowW w2 (.slice ua m uc) ws ∧ RowW w2 x ws ∧ Below N w w2) := ⟨H1.out.1.on hb, ho.row, H1.out.2.trans (hb.mono (by have := H1.out.2.size; have := HN.out; omega))⟩
  obtain ⟨xa, xc, rfl⟩ := ho.shape
  rw [hm] at H2 ⊢
  clear ho hb HWR hm
  go_wp2_with fail
  go_loopw [5, 24] (fun t i wr => ∃ (k : Nat) (A : Wd), k ≤ m ∧ i = .int .i64 (k : Int) ∧ t = .string ⟨A.toArray⟩ ∧ Hid (A = 44 :: tailed (ws.take k)) ∧ Hid (Below w2.heap.size w2 wr)) (fun _ i _ => m - (intOf i).toNat)
  case atStart => exact ⟨0, [44], by omega, rfl, rfl, rfl, Below.refl _ _⟩
  case round =>
    obtain ⟨k, A, hk, rfl, rfl, hA, hw⟩ := hrel
    have hAl : (A.length : Int) ≤ 300000 := by
      rw [hA.out, List.length_cons]
      have h1 := tailed_len (ws.take k) 500 (fun x hx => (HARE.out x (List.mem_of_mem_take hx)).2)
      have h2 : (ws.take k).length * (500 + 3) ≤ 500 * 503 := Nat.mul_le_mul_right _ (by rw [List.length_take]; have := HWL.out; omega)
      omega
    by_cases hlt : k < m
    · have hd1 : decide ((k : Int) < (m : Int)) = true := by simp; omega
      obtain ⟨x, hx⟩ : ∃ x, ws[k]? = some x := ⟨_, List.getElem?_eq_getElem (by rw [HM.out]; exact hlt)⟩
      obtain ⟨g1, o1, rfl, hg1, _, hc1⟩ := H2.out.1.addr hlt
      obtain ⟨g2, o2, rfl, hg2, _, hc2⟩ := H2.out.2.1.addr hlt
      have c1 : wr.cell? ⟨g1, o1 + k, none⟩ = some (.string ⟨x.toArray⟩) := by rw [cell_below hw.out hg1]; exact hc1 k x hx
      have c2 : wr.cell? ⟨g2, o2 + k, none⟩ = some (.string ⟨x.toArray⟩) := by rw [cell_below hw.out hg2]; exact hc2 k x hx
      have hxw := HARE.out x (List.mem_of_getElem? hx)
      have hne := strs_ne x hxw.1.ne
      have hself : (x == x) = true := by simp
      obtain ⟨B1, hB1⟩ : ∃ B, x ++ [32, 44, 10] = B := ⟨_, rfl⟩
      obtain ⟨A2, hA2⟩ : ∃ B, A ++ B1 = B := ⟨_, rfl⟩
      have hadd1 : ∀ W, (Op.stringOp .add ⟨x.toArray⟩ ⟨#[32, 44, 10]⟩).run Tryz.prog W = .ok (.string ⟨B1.toArray⟩) W := fun W => by rw [← hB1]; exact run_string_add_lists W x [32, 44, 10] (by have := hxw.2; omega) (by simp)
      have hadd2 : ∀ W, (Op.stringOp .add ⟨A.toArray⟩ ⟨B1.toArray⟩).run Tryz.prog W = .ok (.string ⟨A2.toArray⟩) W := fun W => by rw [← hA2]; exact run_string_add_lists W A B1 (by omega) (by rw [← hB1]; have := hxw.2; simp; omega)
      have HNX : Hid (A2 = 44 :: tailed (ws.take (k + 1))) := by
        unfold Hid
        rw [List.take_add_one, hx, ← hA2, ← hB1, hA.out]
        show _ = 44 :: tailed (ws.take k ++ [x])
        rw [tailed_snoc]; simp
      have HLT := Lib.hid hlt
      clear hc1 hc2 hx hxw hB1 hA2
      go_upto_region 11 with fail
      go_quiet (fail)
      go_wp2_with fail
      exact ⟨⟨k + 1, A2, HLT.out, by go_num, rfl, HNX.out, below_drewN hw.out _⟩, by have := HLT.out; simp [intOf]; omega⟩
    · obtain rfl : k = m := by omega
      have hd1 : decide ((k : Int) < (k : Int)) = false := by simp
      have HA2 : Hid (A = 44 :: tailed ws) := by have := hA.out; rwa [List.take_of_length_le (Nat.le_of_eq HM.out)] at this
      have hww : wordsL A = ws := by
        rw [HA2.out]
        exact words_again ws (fun x hx => (HARE.out x hx).1)
      have HBW : Hid (Below N w wr) := H2.out.2.2.trans (hw.out.mono (by have := H2.out.2.2.size; have := HN.out; omega))
      have HW2 := Lib.hid (Words_c A wr (by omega))
      rw [hww] at HW2
      clear hww hlt hk hA
      go_wp2_with fail
      refine HW2.out.mono ?_
      rintro e w3 ⟨v, rfl, ho, hb⟩
      have H3 : Hid (RowW w3 (.slice ua k uc) ws ∧ RowW w3 v ws ∧ Below N w w3) := ⟨(H2.out.1.on hw.out).on hb, ho.row, HBW.out.trans (hb.mono (by have := HBW.out.size; have := HN.out; omega))⟩
      obtain ⟨va, vc, rfl⟩ := ho.shape
      rw [HM.out] at H3 ⊢
      clear ho hb HW2
      go_wp2_with fail
      go_loopw [60] (fun i wr => ∃ (j : Nat), j ≤ k ∧ i = .int .i64 (j : Int) ∧ Hid (Below w3.heap.size w3 wr)) (fun i _ => k - (intOf i).toNat)
      case atStart => exact ⟨0, by omega, rfl, Below.refl _ _⟩
      case round =>
        obtain ⟨j, hj, rfl, hv⟩ := hrel
        by_cases hlt : j < k
        · have hd2 : decide ((j : Int) < (k : Int)) = true := by simp; omega
          obtain ⟨x, hx⟩ : ∃ x, ws[j]? = some x := ⟨_, List.getElem?_eq_getElem (by rw [HM.out]; exact hlt)⟩
          obtain ⟨g1, o1, rfl, hg1, _, hc1⟩ := H3.out.1.addr hlt
          obtain ⟨g2, o2, rfl, hg2, _, hc2⟩ := H3.out.2.1.addr hlt
          have c1 : wr.cell? ⟨g1, o1 + j, none⟩ = some (.string ⟨x.toArray⟩) := by rw [cell_below hv.out hg1]; exact hc1 j x hx
          have c2 : wr.cell? ⟨g2, o2 + j, none⟩ = some (.string ⟨x.toArray⟩) := by rw [cell_below hv.out hg2]; exact hc2 j x hx
          have hself : (x == x) = true := by simp
          have HLT := Lib.hid hlt
          clear hc1 hc2 hx
          go_upto_region 21 with fail
          go_quiet (fail)
          go_wp2_with fail
          exact ⟨⟨j + 1, HLT.out, by go_num, below_drewN hv.out _⟩, by have := HLT.out; simp [intOf]; omega⟩
        · obtain rfl : j = k := by omega
          have hd2 : decide ((j : Int) < (j : Int)) = false := by simp
          have HBX : Hid (Below N w wr) := H3.out.2.2.trans (hv.out.mono (by have := H3.out.2.2.size; have := HN.out; omega))
          have HA := Lib.hid (awake_c15 wr (HEV.out wr HBX.out))
          go_wp2_with fail
          refine HA.out.mono ?_
          rintro e w4 ⟨rfl, hb⟩
          have HB : Hid (Below N w w4) := HBX.out.trans (hb.mono (by have := HBX.out.size; have := HN.out; omega))
          clear hb
          go_wp2_with fail
          go_ret
          exact ⟨rfl, HB.out⟩
theorem words_law (s : ByteArray) (w : World) (hr : Rdd w) : Calls Tryz.prog 6 #[.string s] w fun e w' => e = .returned (.bool true) ∧ Below w.heap.size w w' := by
  by_cases h : s.data.toList.length ≤ 500
  · exact words_short s.data.toList w hr h
  · exact words_long s.data.toList w hr (by omega)
end Go.Proofs.YtbnbglngpgikfaaGreatDoor
