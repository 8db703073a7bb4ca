/- Layer 15: the law of the texts read. -/
import Derived.Test.YtbnbglngpgikfaaGreatDoorRd
import Derived.Test.YtbnbglngpgikfaaGreatDoorQq
import Derived.Test.YtbnbglngpgikfaaGreatDoorSe
namespace Go.Proofs.YtbnbglngpgikfaaGreatDoor
open Go.RowKit Go.Shelf
attribute [local go_sem] Oper.semAt_some
set_option maxHeartbeats 4000000 in
set_option maxRecDepth 100000 in
theorem parses_long (l : Wd) (w : World) (hr : Rdd w) (h : 500 < l.length) : Calls Tryz.prog 4 #[.string ⟨l.toArray⟩] w fun e w' => e = .returned (.bool true) ∧ Below w.heap.size w w' := by
  have HA := Lib.hid (awake_c15 w hr)
  obtain ⟨n, hn⟩ : ∃ n, l.length = n := ⟨_, rfl⟩
  have hlen : (⟨l.toArray⟩ : ByteArray).size = n := by rw [← hn]; simp [ByteArray.size]
  have hd : decide ((n : Int) > 500) = true := by simp; omega
  clear hr h hn
  go_enter Tryz.func4, Tryz.ntmps4
  go_wp2_with fail
  refine HA.out.mono ?_
  rintro e w1 ⟨rfl, hb⟩
  have HB := Lib.hid hb
  clear hb
  go_wp2_with fail
  go_ret
  exact ⟨rfl, HB.out⟩
theorem parse_no {l : Wd} (h : ¬((readT l).2.2 = 0 ∧ showT (readT l).1 = l)) : parseT l = [] ∧ parseE l = 20 := ⟨by unfold parseT; rw [if_neg h], by unfold parseE; rw [if_neg h]⟩
theorem parse_yes {l : Wd} (h : (readT l).2.2 = 0 ∧ showT (readT l).1 = l) : ∃ L, parseT l = L ∧ parseE l = 0 ∧ checkI L = 0 ∧ showT L = l := by
  refine ⟨(readT l).1, by unfold parseT; rw [if_pos h], by unfold parseE; rw [if_pos h], ?_, h.2⟩
  refine readT_right (s := l) (n := (readT l).2.1) ?_
  rw [← h.1]
set_option maxHeartbeats 4000000 in
set_option maxRecDepth 100000 in
theorem parses_no (l : Wd) (w : World) (hr : Rdd w) (h : l.length ≤ 500) (hp : parseT l = [] ∧ parseE l = 20) : Calls Tryz.prog 4 #[.string ⟨l.toArray⟩] w fun e w' => e = .returned (.bool true) ∧ Below w.heap.size w w' := by
  obtain ⟨n, hn⟩ : ∃ n, l.length = n := ⟨_, rfl⟩
  have hlen : (⟨l.toArray⟩ : ByteArray).size = n := by rw [← hn]; simp [ByteArray.size]
  have hd : decide ((n : Int) > 500) = false := by simp; omega
  have HP := Lib.hid (ParseP_c l w hr (by omega))
  rw [hp.1, hp.2] at HP
  have HR := Lib.hid hr
  clear hr h hn hp
  go_enter Tryz.func4, Tryz.ntmps4
  go_wp2_with fail
  refine HP.out.mono ?_
  rintro e w1 ⟨u, rfl, ho, hb⟩
  have H1 := Lib.hid (And.intro ho.row hb)
  have HA := Lib.hid (awake_c15 w1 (HR.out.on hb))
  obtain ⟨ua, uc, rfl⟩ := ho.row.shape
  rw [show ([] : List Sg).length = 0 from rfl] at H1 ⊢
  clear ho hb HP
  go_wp2_with fail
  refine HA.out.mono ?_
  rintro e w2 ⟨rfl, hb⟩
  have H2 := Lib.hid (below_next H1.out.2 hb)
  clear hb
  go_wp2_with fail
  go_ret
  exact ⟨rfl, H2.out⟩
set_option maxHeartbeats 4000000 in
set_option maxRecDepth 100000 in
theorem parses_yes (l : Wd) (w : World) (hr : Rdd w) (h : l.length ≤ 500) (L : List Sg) (hp : parseT l = L) (he : parseE l = 0) (hc : checkI L = 0) (hs : showT L = l) : Calls Tryz.prog 4 #[.string ⟨l.toArray⟩] w fun e w' => e = .returned (.bool true) ∧ Below w.heap.size w w' := by
  obtain ⟨n, hn⟩ : ∃ n, l.length = n := ⟨_, rfl⟩
  have hlen : (⟨l.toArray⟩ : ByteArray).size = n := by rw [← hn]; simp [ByteArray.size]
  have hd : decide ((n : Int) > 500) = false := by simp; omega
  have HP := Lib.hid (ParseP_c l w hr (by omega))
  rw [hp, he] at HP
  have HR := Lib.hid hr
  have HC := Lib.hid hc
  have HS := Lib.hid hs
  have HLL : Hid (L.length ≤ 5000) := by
    have := (check_parts hc).1
    unfold Hid
    omega
  have hself : (l == l) = true := by simp
  clear hr h hn hp he hc hs
  go_enter Tryz.func4, Tryz.ntmps4
  go_wp2_with fail
  refine HP.out.mono ?_
  rintro e w1 ⟨u, rfl, ho, hb⟩
  have H1 := Lib.hid (And.intro ho.row hb)
  obtain ⟨ua, uc, rfl⟩ := ho.row.shape
  clear ho hb HP
  go_wp2_with fail
  refine (ref_c w1 _ L HLL.out H1.out.1).mono ?_
  rintro e w2 ⟨r, rfl, ho, hb⟩
  have H2 := Lib.hid (And.intro ho.row (And.intro (H1.out.1.on hb) (below_next H1.out.2 hb)))
  clear ho hb
  go_wp2_with fail
  refine (rcheck_c r L w2 H2.out.1).mono ?_
  rw [HC.out]
  rintro e w3 ⟨rfl, hb⟩
  have H3 := Lib.hid (And.intro (H2.out.2.1.on hb) (below_next H2.out.2.2 hb))
  clear hb
  go_wp2_with fail
  refine (ref_c w3 _ L HLL.out H3.out.1).mono ?_
  rintro e w4 ⟨r4, rfl, ho, hb⟩
  have H4 := Lib.hid (And.intro ho.row (below_next H3.out.2 hb))
  clear ho hb
  go_wp2_with fail
  refine (refShow_c r4 L w4 H4.out.1 HC.out).mono ?_
  rw [HS.out]
  rintro e w5 ⟨rfl, hb⟩
  have H5 := Lib.hid (below_next H4.out.2 hb)
  clear hb
  go_wp2_with fail
  refine (awake_c15 w5 (HR.out.on H5.out)).mono ?_
  rintro e w6 ⟨rfl, hb⟩
  have H6 := Lib.hid (below_next H5.out hb)
  clear hb
  go_wp2_with fail
  go_ret
  exact ⟨rfl, H6.out⟩
theorem parses_law (s : ByteArray) (w : World) (hr : Rdd w) : Calls Tryz.prog 4 #[.string s] w fun e w' => e = .returned (.bool true) ∧ Below w.heap.size w w' := by
  by_cases h : s.data.toList.length ≤ 500
  · by_cases hp : (readT s.data.toList).2.2 = 0 ∧ showT (readT s.data.toList).1 = s.data.toList
    · obtain ⟨L, h1, h2, h3, h4⟩ := parse_yes hp
      exact parses_yes s.data.toList w hr h L h1 h2 h3 h4
    · exact parses_no s.data.toList w hr h (parse_no hp)
  · exact parses_long s.data.toList w hr (by omega)
end Go.Proofs.YtbnbglngpgikfaaGreatDoor
