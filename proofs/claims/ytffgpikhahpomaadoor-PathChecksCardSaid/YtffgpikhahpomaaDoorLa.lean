/- The law PathChecks. -/
import Derived.Test.YtffgpikhahpomaaDoorSm
import Derived.Test.YtffgpikhahpomaaDoorSe
import Derived.Test.YtffgpikhahpomaaDoorSg
namespace Go.Proofs.YtffgpikhahpomaaDoor
open Go.RowKit
set_option maxHeartbeats 2000000 in
set_option maxRecDepth 100000 in
theorem checks_c (v : Value) (l : List Sg) (k : Int) (w : World) (hr : Rd w) (row : RowS w v l) : Calls Tryd.prog 3 #[v, .int .i64 k] w fun e w' => e = .returned (.bool true) ∧ Below w.heap.size w w' := by
  have HR := Lib.hid hr
  have HROW := Lib.hid row
  obtain ⟨ao, c, rfl⟩ := row.shape
  obtain ⟨n, hn⟩ : ∃ n, l.length = n := ⟨_, rfl⟩
  rw [hn] at HROW ⊢
  have HN := Lib.hid hn
  clear hr row hn
  by_cases hl : 200 < n
  · have hd : decide ((n : Int) > 200) = true := decide_eq_true (by omega)
    clear hl
    go_enter Tryd.func3, Tryd.ntmps3
    go_wp2_with fail
    refine (awake_c _ HR.out).mono ?_
    rintro e w1 ⟨rfl, hb⟩
    go_wp2_with fail
    go_ret
    exact ⟨rfl, hb⟩
  · have hd : decide ((n : Int) > 200) = false := decide_eq_false (by omega)
    have HL : Hid (l.length ≤ 200) := by have := HN.out; unfold Hid; omega
    obtain ⟨z, hz⟩ : ∃ z, checkI l = z := ⟨_, rfl⟩
    obtain ⟨nk, hnk⟩ : ∃ z, needI k = z := ⟨_, rfl⟩
    have HC1 := Lib.hid (fun w h1 h2 => check_c (.slice ao n c) l w h1 h2)
    have HC2 := Lib.hid (fun v w h => rcheck_c v l w h)
    have HN1 := Lib.hid (need_c k)
    have HN2 := Lib.hid (refNeed_c k)
    rw [hz] at HC1 HC2
    rw [hnk] at HN1 HN2
    have ez : (z == z) = true := by simp
    have en : ((nk : Int) == (nk : Int)) = true := by simp
    clear hl hz hnk
    go_enter Tryd.func3, Tryd.ntmps3
    go_wp2_with fail
    refine (HC1.out _ HR.out HROW.out).mono ?_
    rintro e w1 ⟨rfl, hb⟩
    have B1 := Lib.hid hb
    clear hb
    go_wp2_with fail
    refine (ref_c _ _ l (by have := HL.out; omega) (HROW.out.on B1.out)).mono ?_
    rintro e w2 ⟨u, rfl, ho, hb⟩
    have B2 := Lib.hid (below_next B1.out hb)
    have O2 := Lib.hid ho.row
    clear hb ho
    go_wp2_with fail
    refine (HC2.out _ _ O2.out).mono ?_
    rintro e w3 ⟨rfl, hb⟩
    have B3 := Lib.hid (below_next B2.out hb)
    clear hb
    go_wp2_with fail
    refine (HN1.out _ (HR.out.on B3.out)).mono ?_
    rintro e w' ⟨rfl, rfl⟩
    go_wp2_with fail
    refine (HN2.out _).mono ?_
    rintro e w' ⟨rfl, rfl⟩
    go_wp2_with fail
    refine (equal_c _ _ l _ (by have := HL.out; omega) (HROW.out.on B3.out) (HROW.out.on B3.out)).mono ?_
    rintro e w4 ⟨rfl, hb⟩
    have B4 := Lib.hid (below_next B3.out hb)
    clear hb
    go_wp2_with fail
    refine (awake_c _ (HR.out.on B4.out)).mono ?_
    rintro e w5 ⟨rfl, hb⟩
    have B5 := Lib.hid (below_next B4.out hb)
    clear hb
    go_wp2_with fail
    go_ret
    exact ⟨rfl, B5.out⟩
end Go.Proofs.YtffgpikhahpomaaDoor
