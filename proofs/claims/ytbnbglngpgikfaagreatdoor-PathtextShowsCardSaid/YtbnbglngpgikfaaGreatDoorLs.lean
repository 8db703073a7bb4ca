/- Layer 15: the law of the texts shown. -/
import Derived.Test.YtbnbglngpgikfaaGreatDoorRd
import Derived.Test.YtbnbglngpgikfaaGreatDoorQq
import Derived.Test.YtbnbglngpgikfaaGreatDoorSe
import Derived.Test.YtbnbglngpgikfaaGreatDoorSg
namespace Go.Proofs.YtbnbglngpgikfaaGreatDoor
open Go.RowKit Go.Shelf
attribute [local go_sem] Oper.semAt_some
theorem showT_len {l : List Sg} (h : checkI l = 0) : (showT l).length ≤ l.length * 500 := by
  have h1 := textUp_len h l.length
  rw [List.take_of_length_le (Nat.le_refl _), ← showT_up, ← pathW_big] at h1
  exact h1
theorem parse_show {l : List Sg} (h : checkI l = 0) : parseT (showT l) = l ∧ parseE (showT l) = 0 := by
  have hr := read_show h
  have hc : (readT (showT l)).2.2 = 0 ∧ showT (readT (showT l)).1 = showT l := by rw [hr]; exact ⟨rfl, rfl⟩
  exact ⟨by unfold parseT; rw [if_pos hc, hr], by unfold parseE; rw [if_pos hc]⟩
theorem int_ne (x : Int) (h : x ≠ 0) : (x == 0) = false := by simpa using h
theorem int_self (x : Int) : (x == x) = true := by simp
set_option maxHeartbeats 4000000 in
set_option maxRecDepth 100000 in
theorem shows_long (v : Value) (l : List Sg) (w : World) (hr : Rdd w) (row : RowS w v l) (h : 60 < l.length) : Calls Tryz.prog 3 #[v] w fun e w' => e = .returned (.bool true) ∧ Below w.heap.size w w' := by
  have HA := Lib.hid (awake_c15 w hr)
  obtain ⟨ao, c, rfl⟩ := row.shape
  obtain ⟨n, hn⟩ : ∃ n, l.length = n := ⟨_, rfl⟩
  have hd : decide ((n : Int) > 60) = true := by simp; omega
  rw [hn]
  clear hr h hn row
  go_enter Tryz.func3, Tryz.ntmps3
  go_wp2_with fail
  refine HA.out.mono ?_
  rintro e w1 ⟨rfl, hb⟩
  have HB := Lib.hid hb
  clear hb
  go_wp2_with fail
  go_ret
  exact ⟨rfl, HB.out⟩
set_option maxHeartbeats 4000000 in
set_option maxRecDepth 100000 in
theorem shows_no (v : Value) (l : List Sg) (w : World) (hr : Rdd w) (row : RowS w v l) (h : l.length ≤ 60) (hc : checkI l ≠ 0) : Calls Tryz.prog 3 #[v] w fun e w' => e = .returned (.bool true) ∧ Below w.heap.size w w' := by
  have HSH := Lib.hid (show_no v l w hr row hc)
  have HR := Lib.hid hr
  have HL : Hid (l.length ≤ 5000) := by unfold Hid; omega
  have HROW := Lib.hid row
  have HCK := fun r W h => Lib.hid (rcheck_c r l W h)
  obtain ⟨x, hx⟩ : ∃ x, checkI l = x := ⟨_, rfl⟩
  rw [hx] at HSH hc
  simp only [hx] at HCK
  have hne := int_ne x hc
  have hself := int_self x
  obtain ⟨ao, c, rfl⟩ := row.shape
  obtain ⟨n, hn⟩ : ∃ n, l.length = n := ⟨_, rfl⟩
  have hd : decide ((n : Int) > 60) = false := by simp; omega
  rw [hn] at HSH HROW ⊢
  clear hr h hn row hc hx
  go_enter Tryz.func3, Tryz.ntmps3
  go_wp2_with fail
  refine HSH.out.mono ?_
  rintro e w1 ⟨rfl, hb⟩
  have H1 := Lib.hid (And.intro (HROW.out.on hb) hb)
  clear hb HSH
  go_wp2_with fail
  refine (ref_c w1 _ l HL.out H1.out.1).mono ?_
  rintro e w2 ⟨r, rfl, ho, hb⟩
  have H2 := Lib.hid (And.intro ho.row (below_next H1.out.2 hb))
  clear ho hb
  go_wp2_with fail
  refine (HCK r w2 H2.out.1).out.mono ?_
  rintro e w3 ⟨rfl, hb⟩
  have H3 := Lib.hid (below_next H2.out.2 hb)
  clear hb HCK
  go_wp2_with fail
  refine (awake_c15 w3 (HR.out.on H3.out)).mono ?_
  rintro e w4 ⟨rfl, hb⟩
  have H4 := Lib.hid (below_next H3.out hb)
  clear hb
  go_wp2_with fail
  go_ret
  exact ⟨rfl, H4.out⟩
set_option maxHeartbeats 4000000 in
set_option maxRecDepth 100000 in
theorem shows_yes (v : Value) (l : List Sg) (w : World) (hr : Rdd w) (row : RowS w v l) (h : l.length ≤ 60) (hc : checkI l = 0) : Calls Tryz.prog 3 #[v] w fun e w' => e = .returned (.bool true) ∧ Below w.heap.size w w' := by
  have HSH := Lib.hid (show_yes v l w hr row hc)
  have hlen := showT_len hc
  have hps := parse_show hc
  have hrd := read_show hc
  have HPP := fun W (hW : Rdd W) => Lib.hid (ParseP_c (showT l) W hW (by omega))
  have HRR := fun W (hW : Rdd W) => Lib.hid (Read_c (showT l) W hW (by omega))
  simp only [hps.1, hps.2] at HPP
  simp only [hrd] at HRR
  have HR := Lib.hid hr
  have HL : Hid (l.length ≤ 5000) := by unfold Hid; omega
  have HROW := Lib.hid row
  have HCK := fun r W h => Lib.hid (rcheck_c r l W h)
  have HSR := fun r W h => Lib.hid (refShow_c r l W h hc)
  simp only [hc] at HCK
  obtain ⟨S, hS⟩ : ∃ S, showT l = S := ⟨_, rfl⟩
  rw [hS] at HSH
  simp only [hS] at HPP HRR HSR
  generalize (pathW false Rs.none l).length = q at HRR
  have hself : (S == S) = true := by simp
  obtain ⟨ao, c, rfl⟩ := row.shape
  obtain ⟨n, hn⟩ : ∃ n, l.length = n := ⟨_, rfl⟩
  have hd : decide ((n : Int) > 60) = false := by simp; omega
  rw [hn] at HSH HROW ⊢
  clear hr h row hc hS hlen hps hrd
  go_enter Tryz.func3, Tryz.ntmps3
  go_wp2_with fail
  refine HSH.out.mono ?_
  rintro e w1 ⟨rfl, hb⟩
  have H1 := Lib.hid (And.intro (HROW.out.on hb) hb)
  clear hb HSH
  go_wp2_with fail
  refine (ref_c w1 _ l HL.out H1.out.1).mono ?_
  rintro e w2 ⟨r, rfl, ho, hb⟩
  have H2 := Lib.hid (And.intro ho.row (And.intro (H1.out.1.on hb) (below_next H1.out.2 hb)))
  clear ho hb
  go_wp2_with fail
  refine (HCK r w2 H2.out.1).out.mono ?_
  rintro e w3 ⟨rfl, hb⟩
  have H3 := Lib.hid (And.intro (H2.out.2.1.on hb) (below_next H2.out.2.2 hb))
  clear hb HCK
  go_wp2_with fail
  refine (HPP w3 (HR.out.on H3.out.2)).out.mono ?_
  rintro e w4 ⟨u, rfl, ho, hb⟩
  have H4 := Lib.hid (And.intro ho.row (And.intro (H3.out.1.on hb) (below_next H3.out.2 hb)))
  obtain ⟨ua, uc, rfl⟩ := ho.row.shape
  rw [hn] at H4 ⊢
  clear ho hb HPP
  go_wp2_with fail
  refine (HRR w4 (HR.out.on H4.out.2.2)).out.mono ?_
  rintro e w5 ⟨y, rfl, ho, hb⟩
  have H5 := Lib.hid (And.intro (And.intro (H4.out.1.on hb) ho.row) (And.intro (H4.out.2.1.on hb) (below_next H4.out.2.2 hb)))
  obtain ⟨ya, yc, rfl⟩ := ho.row.shape
  dsimp only at H5 ⊢
  rw [hn] at H5 ⊢
  clear ho hb HRR
  go_wp2_with fail
  refine (ref_c w5 _ l HL.out H5.out.2.1).mono ?_
  rintro e w6 ⟨r6, rfl, ho, hb⟩
  have H6 := Lib.hid (And.intro ho.row (And.intro (And.intro (H5.out.1.1.on hb) (H5.out.1.2.on hb)) (And.intro (H5.out.2.1.on hb) (below_next H5.out.2.2 hb))))
  clear ho hb
  go_wp2_with fail
  refine (HSR r6 w6 H6.out.1).out.mono ?_
  rintro e w7 ⟨rfl, hb⟩
  have H7 := Lib.hid (And.intro (And.intro (H6.out.2.1.1.on hb) (H6.out.2.1.2.on hb)) (And.intro (H6.out.2.2.1.on hb) (below_next H6.out.2.2.2 hb)))
  clear hb HSR
  go_wp2_with fail
  refine (equal_c _ _ l w7 HL.out H7.out.2.1 H7.out.1.1).mono ?_
  rintro e w8 ⟨rfl, hb⟩
  have H8 := Lib.hid (And.intro (H7.out.1.2.on hb) (And.intro (H7.out.2.1.on hb) (below_next H7.out.2.2 hb)))
  clear hb
  go_wp2_with fail
  refine (equal_c _ _ l w8 HL.out H8.out.2.1 H8.out.1).mono ?_
  rintro e w9 ⟨rfl, hb⟩
  have H9 := Lib.hid (below_next H8.out.2.2 hb)
  clear hb
  go_wp2_with fail
  refine (awake_c15 w9 (HR.out.on H9.out)).mono ?_
  rintro e w10 ⟨rfl, hb⟩
  have H10 := Lib.hid (below_next H9.out hb)
  clear hb
  go_wp2_with fail
  go_ret
  exact ⟨rfl, H10.out⟩
theorem shows_law (v : Value) (l : List Sg) {w : World} (row : RowS w v l) (hr : Rdd w) : Calls Tryz.prog 3 #[v] w fun e w' => e = .returned (.bool true) ∧ Below w.heap.size w w' := by
  by_cases h : l.length ≤ 60
  · by_cases hc : checkI l = 0
    · exact shows_yes v l w hr row h hc
    · exact shows_no v l w hr row h hc
  · exact shows_long v l w hr row (by omega)
end Go.Proofs.YtbnbglngpgikfaaGreatDoor
