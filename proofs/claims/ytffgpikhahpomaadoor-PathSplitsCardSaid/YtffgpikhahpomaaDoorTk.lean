/- Layer 6: the law PathSplits: what is refused. Layer 6: the law PathSplits: what is parted. Layer 6: a drawn region that builds a list, calls, and parts what comes; what Flat tells of one subpath. -/
import Derived.Test.YtffgpikhahpomaaDoorTh
import Derived.Test.YtffgpikhahpomaaDoorSe
import Derived.Test.YtffgpikhahpomaaDoorSm
import Derived.Test.YtffgpikhahpomaaDoorSv
import Derived.Test.YtffgpikhahpomaaDoorSj
namespace Go.Proofs.YtffgpikhahpomaaDoor
open Go.RowKit
set_option maxHeartbeats 4000000 in
set_option maxRecDepth 100000 in
theorem splits_long (ao : Option Addr) (n c : Nat) (i d : Int) (w : World) (hr : Rd w) (hl : 60 < n) : Calls Tryd.prog 6 #[.slice ao n c, .int .i64 i, .int .i64 d] w fun e w' => e = .returned (.bool true) ∧ Below w.heap.size w w' := by
  have HR := Lib.hid hr
  have hd : decide ((n : Int) > 60) = true := decide_eq_true (by omega)
  clear hl hr
  go_enter Tryd.func6, Tryd.ntmps6
  go_wp2_with fail
  refine (awake_c _ HR.out).mono ?_
  rintro e w1 ⟨rfl, hb⟩
  go_wp2_with fail
  go_ret
  exact ⟨rfl, hb⟩
set_option maxHeartbeats 4000000 in
set_option maxRecDepth 100000 in
theorem splits_B (ao : Option Addr) (n c : Nat) (l : List Sg) (i d : Int) (w : World) (HA : Hid (Rd w ∧ RowS w (.slice ao n c) l ∧ n ≤ c ∧ l.length = n ∧ n ≤ 60)) (z : Int) (hz : (z != 0) = true) (HX : Hid (checkI l = z ∧ splitI l i = (z, []))) : Calls Tryd.prog 6 #[.slice ao n c, .int .i64 i, .int .i64 d] w fun e w' => e = .returned (.bool true) ∧ Below w.heap.size w w' := by
  have hzz : (z == z) = true := by simp
  have HR := Lib.hid HA.out.1
  have HROW := Lib.hid HA.out.2.1
  have HN := Lib.hid HA.out.2.2.2.1
  have hn1 := HA.out.2.2.2.2
  have hgt : decide ((n : Int) > 60) = false := decide_eq_false (by omega)
  clear hn1
  have HREF : Hid (∀ W v L, L.length ≤ 5000 → RowS W v L → Calls Tryd.prog 12 #[v] W fun e w' => ∃ u, e = .returned u ∧ OwnS w' W.heap.size 60 u L ∧ Below W.heap.size W w') := fun W v L h1 h2 => ref_c W v L h1 h2
  have HRC : Hid (∀ W v, RowS W v l → Calls Tryd.prog 11 #[v] W fun e w' => e = .returned (.int .i64 z) ∧ Below W.heap.size W w') := fun W v h => by have := rcheck_c v l W h; rw [HX.out.1] at this; exact this
  have HSPL : Hid (∀ W, Below w.heap.size w W → Calls Tryd.prog 24 #[.slice ao n c, .int .i64 i] W (Edited W (z, []))) := fun W h => by have := split_c ao n c l i W (HR.out.on h) (HROW.out.on h) HA.out.2.2.1 (by have := HA.out.2.2.2.2; omega); rw [HX.out.2] at this; exact this
  go_enter Tryd.func6, Tryd.ntmps6
  go_wp2_with fail
  refine (HREF.out _ _ l (by have := HA.out.2.2.2; omega) HROW.out).mono ?_
  rintro e w1 ⟨u, rfl, ho, hb⟩
  have B1 := Lib.hid hb
  have HT0 := Lib.hid ho
  obtain ⟨ta, tc, rfl, _⟩ := ho.cap
  rw [HN.out] at HT0
  have T1 := Lib.hid HT0.out.row
  clear HT0 ho hb
  simp only [HN.out]
  go_wp2_with fail
  refine (HSPL.out _ B1.out).mono ?_
  rintro e w2 ⟨q, rfl, ho, hb⟩
  obtain ⟨qa, qc, rfl⟩ := OwnS.empty ho
  clear ho
  have B2 := Lib.hid (below_next B1.out hb)
  have T2 := Lib.hid (T1.out.on hb)
  clear hb
  go_wp2_with fail
  refine (HRC.out _ _ T2.out).mono ?_
  rintro e w3 ⟨rfl, hb⟩
  have B3 := Lib.hid (below_next B2.out hb)
  have T3 := Lib.hid (T2.out.on hb)
  clear hb
  go_wp2_with fail
  refine (awake_c _ (HR.out.on B3.out)).mono ?_
  rintro e w4 ⟨rfl, hb⟩
  have BZ := Lib.hid (below_next B3.out hb)
  clear hb
  go_wp2_with fail
  go_ret
  exact ⟨rfl, BZ.out⟩
set_option maxHeartbeats 4000000 in
set_option maxRecDepth 100000 in
theorem splits_C1 (ao : Option Addr) (n c : Nat) (l : List Sg) (i d : Int) (w : World) (HA : Hid (Rd w ∧ RowS w (.slice ao n c) l ∧ n ≤ c ∧ l.length = n ∧ n ≤ 60)) (d1 : decide (i < 0) = true) (HX : Hid (checkI l = 0 ∧ splitI l i = (30, []))) : Calls Tryd.prog 6 #[.slice ao n c, .int .i64 i, .int .i64 d] w fun e w' => e = .returned (.bool true) ∧ Below w.heap.size w w' := by
  have HR := Lib.hid HA.out.1
  have HROW := Lib.hid HA.out.2.1
  have HN := Lib.hid HA.out.2.2.2.1
  have hn1 := HA.out.2.2.2.2
  have hgt : decide ((n : Int) > 60) = false := decide_eq_false (by omega)
  clear hn1
  have HREF : Hid (∀ W v L, L.length ≤ 5000 → RowS W v L → Calls Tryd.prog 12 #[v] W fun e w' => ∃ u, e = .returned u ∧ OwnS w' W.heap.size 60 u L ∧ Below W.heap.size W w') := fun W v L h1 h2 => ref_c W v L h1 h2
  have HRC : Hid (∀ W v, RowS W v l → Calls Tryd.prog 11 #[v] W fun e w' => e = .returned (.int .i64 0) ∧ Below W.heap.size W w') := fun W v h => by have := rcheck_c v l W h; rw [HX.out.1] at this; exact this
  have HSPL : Hid (∀ W, Below w.heap.size w W → Calls Tryd.prog 24 #[.slice ao n c, .int .i64 i] W (Edited W (30, []))) := fun W h => by have := split_c ao n c l i W (HR.out.on h) (HROW.out.on h) HA.out.2.2.1 (by have := HA.out.2.2.2.2; omega); rw [HX.out.2] at this; exact this
  go_enter Tryd.func6, Tryd.ntmps6
  go_wp2_with fail
  refine (HREF.out _ _ l (by have := HA.out.2.2.2; omega) HROW.out).mono ?_
  rintro e w1 ⟨u, rfl, ho, hb⟩
  have B1 := Lib.hid hb
  have HT0 := Lib.hid ho
  obtain ⟨ta, tc, rfl, _⟩ := ho.cap
  rw [HN.out] at HT0
  have T1 := Lib.hid HT0.out.row
  clear HT0 ho hb
  simp only [HN.out]
  go_wp2_with fail
  refine (HSPL.out _ B1.out).mono ?_
  rintro e w2 ⟨q, rfl, ho, hb⟩
  obtain ⟨qa, qc, rfl⟩ := OwnS.empty ho
  clear ho
  have B2 := Lib.hid (below_next B1.out hb)
  have T2 := Lib.hid (T1.out.on hb)
  clear hb
  go_wp2_with fail
  refine (HRC.out _ _ T2.out).mono ?_
  rintro e w3 ⟨rfl, hb⟩
  have B3 := Lib.hid (below_next B2.out hb)
  have T3 := Lib.hid (T2.out.on hb)
  clear hb
  go_wp2_with fail
  refine (awake_c _ (HR.out.on B3.out)).mono ?_
  rintro e w4 ⟨rfl, hb⟩
  have BZ := Lib.hid (below_next B3.out hb)
  clear hb
  go_wp2_with fail
  go_ret
  exact ⟨rfl, BZ.out⟩
set_option maxHeartbeats 4000000 in
set_option maxRecDepth 100000 in
theorem splits_C2 (ao : Option Addr) (n c : Nat) (l : List Sg) (i d : Int) (w : World) (HA : Hid (Rd w ∧ RowS w (.slice ao n c) l ∧ n ≤ c ∧ l.length = n ∧ n ≤ 60)) (d1 : decide (i < 0) = false) (d2 : decide (i ≥ (n : Int)) = true) (HX : Hid (checkI l = 0 ∧ splitI l i = (30, []))) : Calls Tryd.prog 6 #[.slice ao n c, .int .i64 i, .int .i64 d] w fun e w' => e = .returned (.bool true) ∧ Below w.heap.size w w' := by
  have d3 : decide ((n : Int) ≤ i) = true := d2
  have HR := Lib.hid HA.out.1
  have HROW := Lib.hid HA.out.2.1
  have HN := Lib.hid HA.out.2.2.2.1
  have hn1 := HA.out.2.2.2.2
  have hgt : decide ((n : Int) > 60) = false := decide_eq_false (by omega)
  clear hn1
  have HREF : Hid (∀ W v L, L.length ≤ 5000 → RowS W v L → Calls Tryd.prog 12 #[v] W fun e w' => ∃ u, e = .returned u ∧ OwnS w' W.heap.size 60 u L ∧ Below W.heap.size W w') := fun W v L h1 h2 => ref_c W v L h1 h2
  have HRC : Hid (∀ W v, RowS W v l → Calls Tryd.prog 11 #[v] W fun e w' => e = .returned (.int .i64 0) ∧ Below W.heap.size W w') := fun W v h => by have := rcheck_c v l W h; rw [HX.out.1] at this; exact this
  have HSPL : Hid (∀ W, Below w.heap.size w W → Calls Tryd.prog 24 #[.slice ao n c, .int .i64 i] W (Edited W (30, []))) := fun W h => by have := split_c ao n c l i W (HR.out.on h) (HROW.out.on h) HA.out.2.2.1 (by have := HA.out.2.2.2.2; omega); rw [HX.out.2] at this; exact this
  go_enter Tryd.func6, Tryd.ntmps6
  go_wp2_with fail
  refine (HREF.out _ _ l (by have := HA.out.2.2.2; omega) HROW.out).mono ?_
  rintro e w1 ⟨u, rfl, ho, hb⟩
  have B1 := Lib.hid hb
  have HT0 := Lib.hid ho
  obtain ⟨ta, tc, rfl, _⟩ := ho.cap
  rw [HN.out] at HT0
  have T1 := Lib.hid HT0.out.row
  clear HT0 ho hb
  simp only [HN.out]
  go_wp2_with fail
  refine (HSPL.out _ B1.out).mono ?_
  rintro e w2 ⟨q, rfl, ho, hb⟩
  obtain ⟨qa, qc, rfl⟩ := OwnS.empty ho
  clear ho
  have B2 := Lib.hid (below_next B1.out hb)
  have T2 := Lib.hid (T1.out.on hb)
  clear hb
  go_wp2_with fail
  refine (HRC.out _ _ T2.out).mono ?_
  rintro e w3 ⟨rfl, hb⟩
  have B3 := Lib.hid (below_next B2.out hb)
  have T3 := Lib.hid (T2.out.on hb)
  clear hb
  go_wp2_with fail
  refine (awake_c _ (HR.out.on B3.out)).mono ?_
  rintro e w4 ⟨rfl, hb⟩
  have BZ := Lib.hid (below_next B3.out hb)
  clear hb
  go_wp2_with fail
  go_ret
  exact ⟨rfl, BZ.out⟩
set_option maxHeartbeats 4000000 in
set_option maxRecDepth 100000 in
theorem splits_D1 (ao : Option Addr) (n c : Nat) (l : List Sg) (I : Nat) (d : Int) (w : World) (HA : Hid (Rd w ∧ RowS w (.slice ao n c) l ∧ n ≤ c ∧ l.length = n ∧ n ≤ 60)) (hI : I < n) (s : Sg) (hq : l[I]? = some s) (HK : Hid (s.k = 1)) (HX : Hid (checkI l = 0 ∧ splitI l (I : Int) = (33, []))) : Calls Tryd.prog 6 #[.slice ao n c, .int .i64 (I : Int), .int .i64 d] w fun e w' => e = .returned (.bool true) ∧ Below w.heap.size w w' := by
  have d1 : decide ((I : Int) < 0) = false := by simp
  have d2 : decide ((I : Int) ≥ (n : Int)) = false := decide_eq_false (by omega)
  have d3 : decide ((n : Int) ≤ (I : Int)) = false := d2
  have d4 : decide (n ≤ I) = false := decide_eq_false (by omega)
  have hIn : (I : Int) < (n : Int) := by omega
  have HQ := Lib.hid hq
  clear hq
  have HR := Lib.hid HA.out.1
  have HROW := Lib.hid HA.out.2.1
  have HN := Lib.hid HA.out.2.2.2.1
  have hn1 := HA.out.2.2.2.2
  have hgt : decide ((n : Int) > 60) = false := decide_eq_false (by omega)
  clear hn1
  have HREF : Hid (∀ W v L, L.length ≤ 5000 → RowS W v L → Calls Tryd.prog 12 #[v] W fun e w' => ∃ u, e = .returned u ∧ OwnS w' W.heap.size 60 u L ∧ Below W.heap.size W w') := fun W v L h1 h2 => ref_c W v L h1 h2
  have HRC : Hid (∀ W v, RowS W v l → Calls Tryd.prog 11 #[v] W fun e w' => e = .returned (.int .i64 0) ∧ Below W.heap.size W w') := fun W v h => by have := rcheck_c v l W h; rw [HX.out.1] at this; exact this
  have HSPL : Hid (∀ W, Below w.heap.size w W → Calls Tryd.prog 24 #[.slice ao n c, .int .i64 (I : Int)] W (Edited W (33, []))) := fun W h => by have := split_c ao n c l (I : Int) W (HR.out.on h) (HROW.out.on h) HA.out.2.2.1 (by have := HA.out.2.2.2.2; omega); rw [HX.out.2] at this; exact this
  go_enter Tryd.func6, Tryd.ntmps6
  go_wp2_with fail
  refine (HREF.out _ _ l (by have := HA.out.2.2.2; omega) HROW.out).mono ?_
  rintro e w1 ⟨u, rfl, ho, hb⟩
  have B1 := Lib.hid hb
  have HT0 := Lib.hid ho
  obtain ⟨ta, tc, rfl, _⟩ := ho.cap
  rw [HN.out] at HT0
  have T1 := Lib.hid HT0.out.row
  clear HT0 ho hb
  simp only [HN.out]
  go_wp2_with fail
  refine (HSPL.out _ B1.out).mono ?_
  rintro e w2 ⟨q, rfl, ho, hb⟩
  obtain ⟨qa, qc, rfl⟩ := OwnS.empty ho
  clear ho
  have B2 := Lib.hid (below_next B1.out hb)
  have T2 := Lib.hid (T1.out.on hb)
  clear hb
  go_wp2_with fail
  refine (HRC.out _ _ T2.out).mono ?_
  rintro e w3 ⟨rfl, hb⟩
  have B3 := Lib.hid (below_next B2.out hb)
  have T3 := Lib.hid (T2.out.on hb)
  clear hb
  obtain ⟨b, o, rfl, hbs, hpa⟩ := RowS.addr HROW.out (k := I) (by rw [HN.out]; exact hI)
  have c0 := (hpa.on B3.out hbs).c0 HQ.out
  rw [HK.out] at c0
  have hbs3 := Nat.lt_of_lt_of_le hbs B3.out.size
  clear hpa hbs
  go_wp2_with fail
  refine (awake_c _ (HR.out.on B3.out)).mono ?_
  rintro e w4 ⟨rfl, hb⟩
  have BZ := Lib.hid (below_next B3.out hb)
  clear hb
  go_wp2_with fail
  go_ret
  exact ⟨rfl, BZ.out⟩
set_option maxHeartbeats 4000000 in
set_option maxRecDepth 100000 in
theorem splits_D5 (ao : Option Addr) (n c : Nat) (l : List Sg) (I : Nat) (d : Int) (w : World) (HA : Hid (Rd w ∧ RowS w (.slice ao n c) l ∧ n ≤ c ∧ l.length = n ∧ n ≤ 60)) (hI : I < n) (s : Sg) (hq : l[I]? = some s) (HK : Hid (s.k = 5)) (HX : Hid (checkI l = 0 ∧ splitI l (I : Int) = (33, []))) : Calls Tryd.prog 6 #[.slice ao n c, .int .i64 (I : Int), .int .i64 d] w fun e w' => e = .returned (.bool true) ∧ Below w.heap.size w w' := by
  have d1 : decide ((I : Int) < 0) = false := by simp
  have d2 : decide ((I : Int) ≥ (n : Int)) = false := decide_eq_false (by omega)
  have d3 : decide ((n : Int) ≤ (I : Int)) = false := d2
  have d4 : decide (n ≤ I) = false := decide_eq_false (by omega)
  have hIn : (I : Int) < (n : Int) := by omega
  have HQ := Lib.hid hq
  clear hq
  have HR := Lib.hid HA.out.1
  have HROW := Lib.hid HA.out.2.1
  have HN := Lib.hid HA.out.2.2.2.1
  have hn1 := HA.out.2.2.2.2
  have hgt : decide ((n : Int) > 60) = false := decide_eq_false (by omega)
  clear hn1
  have HREF : Hid (∀ W v L, L.length ≤ 5000 → RowS W v L → Calls Tryd.prog 12 #[v] W fun e w' => ∃ u, e = .returned u ∧ OwnS w' W.heap.size 60 u L ∧ Below W.heap.size W w') := fun W v L h1 h2 => ref_c W v L h1 h2
  have HRC : Hid (∀ W v, RowS W v l → Calls Tryd.prog 11 #[v] W fun e w' => e = .returned (.int .i64 0) ∧ Below W.heap.size W w') := fun W v h => by have := rcheck_c v l W h; rw [HX.out.1] at this; exact this
  have HSPL : Hid (∀ W, Below w.heap.size w W → Calls Tryd.prog 24 #[.slice ao n c, .int .i64 (I : Int)] W (Edited W (33, []))) := fun W h => by have := split_c ao n c l (I : Int) W (HR.out.on h) (HROW.out.on h) HA.out.2.2.1 (by have := HA.out.2.2.2.2; omega); rw [HX.out.2] at this; exact this
  go_enter Tryd.func6, Tryd.ntmps6
  go_wp2_with fail
  refine (HREF.out _ _ l (by have := HA.out.2.2.2; omega) HROW.out).mono ?_
  rintro e w1 ⟨u, rfl, ho, hb⟩
  have B1 := Lib.hid hb
  have HT0 := Lib.hid ho
  obtain ⟨ta, tc, rfl, _⟩ := ho.cap
  rw [HN.out] at HT0
  have T1 := Lib.hid HT0.out.row
  clear HT0 ho hb
  simp only [HN.out]
  go_wp2_with fail
  refine (HSPL.out _ B1.out).mono ?_
  rintro e w2 ⟨q, rfl, ho, hb⟩
  obtain ⟨qa, qc, rfl⟩ := OwnS.empty ho
  clear ho
  have B2 := Lib.hid (below_next B1.out hb)
  have T2 := Lib.hid (T1.out.on hb)
  clear hb
  go_wp2_with fail
  refine (HRC.out _ _ T2.out).mono ?_
  rintro e w3 ⟨rfl, hb⟩
  have B3 := Lib.hid (below_next B2.out hb)
  have T3 := Lib.hid (T2.out.on hb)
  clear hb
  obtain ⟨b, o, rfl, hbs, hpa⟩ := RowS.addr HROW.out (k := I) (by rw [HN.out]; exact hI)
  have c0 := (hpa.on B3.out hbs).c0 HQ.out
  rw [HK.out] at c0
  have hbs3 := Nat.lt_of_lt_of_le hbs B3.out.size
  clear hpa hbs
  go_wp2_with fail
  refine (awake_c _ (HR.out.on B3.out)).mono ?_
  rintro e w4 ⟨rfl, hb⟩
  have BZ := Lib.hid (below_next B3.out hb)
  clear hb
  go_wp2_with fail
  go_ret
  exact ⟨rfl, BZ.out⟩
end Go.Proofs.YtffgpikhahpomaaDoor
namespace Go.Proofs.YtffgpikhahpomaaDoor
open Go.RowKit
set_option maxHeartbeats 4000000 in
set_option maxRecDepth 100000 in
theorem splits_E1 (ao : Option Addr) (n c : Nat) (l : List Sg) (I : Nat) (s A BB : Sg) (M : List Sg) (h1 : (s.k == 1) = false) (h5 : (s.k == 5) = false) (HI : Hid (I < n ∧ l[I]? = some s)) (HX : Hid (checkI l = 0 ∧ splitI l (I : Int) = (0, M)))
    (HPARTS : Hid (∀ W b o tc, SegsAt W b o l → b < W.heap.size → Calls Tryd.prog 25 #[.slice (some ⟨b, o, none⟩) n tc, .int .i64 (I : Int)] W fun e w' => e = .returned (.tuple #[.agg (seven A.k A.p A.q A.r), .agg (seven BB.k BB.p BB.q BB.r)]) ∧ Below W.heap.size W w'))
    (HWITH : Hid (∀ W ta tc u, RowS W (.slice ta n tc) l → RowS W u [A, BB] → Calls Tryd.prog 23 #[.slice ta n tc, .int .i64 (I : Int), .int .i64 1, u] W fun e w' => ∃ v, e = .returned v ∧ RowS w' v M ∧ Below W.heap.size W w'))
    (HIS : Hid (∀ W q v, RowS W q M → RowS W v M → Calls Tryd.prog 22 #[q, .int .i64 0, v] W fun e w' => e = .returned (.bool true) ∧ Below W.heap.size W w')) (d : Int) (w : World) (HA : Hid (Rd w ∧ RowS w (.slice ao n c) l ∧ n ≤ c ∧ l.length = n ∧ n ≤ 60)) (e2 : (s.k == 2) = true) : Calls Tryd.prog 6 #[.slice ao n c, .int .i64 (I : Int), .int .i64 d] w fun e w' => e = .returned (.bool true) ∧ Below w.heap.size w w' := by
  have hI : I < n := HI.out.1
  have d1 : decide ((I : Int) < 0) = false := by simp
  have d2 : decide ((I : Int) ≥ (n : Int)) = false := decide_eq_false (by omega)
  have d3 : decide ((n : Int) ≤ (I : Int)) = false := d2
  have d4 : decide (n ≤ I) = false := decide_eq_false (by omega)
  have hIn : (I : Int) < (n : Int) := by omega
  have HR := Lib.hid HA.out.1
  have HROW := Lib.hid HA.out.2.1
  have HN := Lib.hid HA.out.2.2.2.1
  have hn1 := HA.out.2.2.2.2
  have hgt : decide ((n : Int) > 60) = false := decide_eq_false (by omega)
  clear hn1
  have HREF : Hid (∀ W v L, L.length ≤ 5000 → RowS W v L → Calls Tryd.prog 12 #[v] W fun e w' => ∃ u, e = .returned u ∧ OwnS w' W.heap.size 60 u L ∧ Below W.heap.size W w') := fun W v L h1 h2 => ref_c W v L h1 h2
  have HRC : Hid (∀ W v, RowS W v l → Calls Tryd.prog 11 #[v] W fun e w' => e = .returned (.int .i64 0) ∧ Below W.heap.size W w') := fun W v h => by have := rcheck_c v l W h; rw [HX.out.1] at this; exact this
  have HSPL : Hid (∀ W, Below w.heap.size w W → Calls Tryd.prog 24 #[.slice ao n c, .int .i64 (I : Int)] W (Edited W (0, M))) := fun W h => by have := split_c ao n c l (I : Int) W (HR.out.on h) (HROW.out.on h) HA.out.2.2.1 (by have := HA.out.2.2.2.2; omega); rw [HX.out.2] at this; exact this
  go_enter Tryd.func6, Tryd.ntmps6
  go_wp2_with fail
  refine (HREF.out _ _ l (by have := HA.out.2.2.2; omega) HROW.out).mono ?_
  rintro e w1 ⟨u, rfl, ho, hb⟩
  have B1 := Lib.hid hb
  have HT0 := Lib.hid ho
  obtain ⟨ta, tc, rfl, _⟩ := ho.cap
  rw [HN.out] at HT0
  have T1 := Lib.hid HT0.out.row
  clear HT0 ho hb
  simp only [HN.out]
  go_wp2_with fail
  refine (HSPL.out _ B1.out).mono ?_
  rintro e w2 ⟨q, rfl, ho, hb⟩
  have Q2 := Lib.hid ho.row
  clear ho
  have B2 := Lib.hid (below_next B1.out hb)
  have T2 := Lib.hid (T1.out.on hb)
  clear hb
  go_wp2_with fail
  refine (HRC.out _ _ T2.out).mono ?_
  rintro e w3 ⟨rfl, hb⟩
  have B3 := Lib.hid (below_next B2.out hb)
  have T3 := Lib.hid (T2.out.on hb)
  have Q3 := Lib.hid (Q2.out.on hb)
  clear hb
  obtain ⟨b, o, rfl, hbs, hpa⟩ := RowS.addr HROW.out (k := I) (by rw [HN.out]; exact hI)
  have HSG := Lib.hid (And.intro hpa hbs)
  obtain ⟨tb, tof, rfl, htb, hta⟩ := RowS.addr T3.out (k := I) (by rw [HN.out]; exact hI)
  have HSR := Lib.hid (And.intro hta htb)
  have c0 := (hpa.on B3.out hbs).c0 HI.out.2
  have hbs3 := Nat.lt_of_lt_of_le hbs B3.out.size
  clear hpa hbs hta htb
  go_wp2_with fail
  refine (HPARTS.out _ _ _ _ HSR.out.1 HSR.out.2).mono ?_
  rintro e w4 ⟨rfl, hb⟩
  have B4 := Lib.hid (below_next B3.out hb)
  have T4 := Lib.hid (T3.out.on hb)
  have Q4 := Lib.hid (Q3.out.on hb)
  clear hb c0
  go_wp2_with fail
  obtain ⟨w5, hw5⟩ : ∃ W, (w4.alloc (.cells (seven A.k A.p A.q A.r) 60)).alloc (.cells (seven BB.k BB.p BB.q BB.r) 60) = W := ⟨_, rfl⟩
  have N5 : Hid (Below w4.heap.size w4 w5 ∧ w5.heap.size = w4.heap.size + 1 + 1) := by
    rw [← hw5]
    exact ⟨((Below.refl _ _).alloc (Nat.le_refl _) _).alloc (by simp) _, by simp⟩
  rw [show (w4.alloc (.cells (seven A.k A.p A.q A.r) 60)).alloc (.cells (seven BB.k BB.p BB.q BB.r) 60) = w5 from hw5]
  have NR := Lib.hid (RowS.newT w5 60 [A, BB] (seven A.k A.p A.q A.r ++ seven BB.k BB.p BB.q BB.r) 2 rfl rfl)
  rw [N5.out.2] at NR
  have h6 := N5.out.1.alloc N5.out.1.size (.cells (seven A.k A.p A.q A.r ++ seven BB.k BB.p BB.q BB.r) 60)
  have B6 := Lib.hid (below_next B4.out h6)
  have T6 := Lib.hid (T4.out.on h6)
  have Q6 := Lib.hid (Q4.out.on h6)
  clear hw5 h6
  refine (HWITH.out _ _ _ _ T6.out NR.out).mono ?_
  rintro e w7 ⟨v7, rfl, hv, hb⟩
  have B7 := Lib.hid (below_next B6.out hb)
  have T7 := Lib.hid (T6.out.on hb)
  have Q7 := Lib.hid (Q6.out.on hb)
  have V7 := Lib.hid hv
  clear hb hv NR
  go_wp2_with fail
  refine (HIS.out _ _ _ Q7.out V7.out).mono ?_
  rintro e w8 ⟨rfl, hb⟩
  have B8 := Lib.hid (below_next B7.out hb)
  have T8 := Lib.hid (T7.out.on hb)
  have Q8 := Lib.hid (Q7.out.on hb)
  have c0 := (HSG.out.1.on B8.out HSG.out.2).c0 HI.out.2
  have hbs8 := Nat.lt_of_lt_of_le HSG.out.2 B8.out.size
  clear hb
  go_wp2_with fail
  refine (awake_c _ (HR.out.on B8.out)).mono ?_
  rintro e w9 ⟨rfl, hb⟩
  have BZ := Lib.hid (below_next B8.out hb)
  clear hb
  go_wp2_with fail
  go_ret
  exact ⟨rfl, BZ.out⟩
set_option maxHeartbeats 4000000 in
set_option maxRecDepth 100000 in
theorem splits_E2 (ao : Option Addr) (n c : Nat) (l : List Sg) (I : Nat) (s A BB : Sg) (M : List Sg) (h1 : (s.k == 1) = false) (h5 : (s.k == 5) = false) (HI : Hid (I < n ∧ l[I]? = some s)) (HX : Hid (checkI l = 0 ∧ splitI l (I : Int) = (0, M)))
    (HPARTS : Hid (∀ W b o tc, SegsAt W b o l → b < W.heap.size → Calls Tryd.prog 25 #[.slice (some ⟨b, o, none⟩) n tc, .int .i64 (I : Int)] W fun e w' => e = .returned (.tuple #[.agg (seven A.k A.p A.q A.r), .agg (seven BB.k BB.p BB.q BB.r)]) ∧ Below W.heap.size W w'))
    (HWITH : Hid (∀ W ta tc u, RowS W (.slice ta n tc) l → RowS W u [A, BB] → Calls Tryd.prog 23 #[.slice ta n tc, .int .i64 (I : Int), .int .i64 1, u] W fun e w' => ∃ v, e = .returned v ∧ RowS w' v M ∧ Below W.heap.size W w'))
    (HIS : Hid (∀ W q v, RowS W q M → RowS W v M → Calls Tryd.prog 22 #[q, .int .i64 0, v] W fun e w' => e = .returned (.bool true) ∧ Below W.heap.size W w')) (d : Int) (w : World) (HA : Hid (Rd w ∧ RowS w (.slice ao n c) l ∧ n ≤ c ∧ l.length = n ∧ n ≤ 60)) (e2 : (s.k == 2) = false) (f1 : decide (d < 1) = true) : Calls Tryd.prog 6 #[.slice ao n c, .int .i64 (I : Int), .int .i64 d] w fun e w' => e = .returned (.bool true) ∧ Below w.heap.size w w' := by
  have hI : I < n := HI.out.1
  have d1 : decide ((I : Int) < 0) = false := by simp
  have d2 : decide ((I : Int) ≥ (n : Int)) = false := decide_eq_false (by omega)
  have d3 : decide ((n : Int) ≤ (I : Int)) = false := d2
  have d4 : decide (n ≤ I) = false := decide_eq_false (by omega)
  have hIn : (I : Int) < (n : Int) := by omega
  have HR := Lib.hid HA.out.1
  have HROW := Lib.hid HA.out.2.1
  have HN := Lib.hid HA.out.2.2.2.1
  have hn1 := HA.out.2.2.2.2
  have hgt : decide ((n : Int) > 60) = false := decide_eq_false (by omega)
  clear hn1
  have HREF : Hid (∀ W v L, L.length ≤ 5000 → RowS W v L → Calls Tryd.prog 12 #[v] W fun e w' => ∃ u, e = .returned u ∧ OwnS w' W.heap.size 60 u L ∧ Below W.heap.size W w') := fun W v L h1 h2 => ref_c W v L h1 h2
  have HRC : Hid (∀ W v, RowS W v l → Calls Tryd.prog 11 #[v] W fun e w' => e = .returned (.int .i64 0) ∧ Below W.heap.size W w') := fun W v h => by have := rcheck_c v l W h; rw [HX.out.1] at this; exact this
  have HSPL : Hid (∀ W, Below w.heap.size w W → Calls Tryd.prog 24 #[.slice ao n c, .int .i64 (I : Int)] W (Edited W (0, M))) := fun W h => by have := split_c ao n c l (I : Int) W (HR.out.on h) (HROW.out.on h) HA.out.2.2.1 (by have := HA.out.2.2.2.2; omega); rw [HX.out.2] at this; exact this
  go_enter Tryd.func6, Tryd.ntmps6
  go_wp2_with fail
  refine (HREF.out _ _ l (by have := HA.out.2.2.2; omega) HROW.out).mono ?_
  rintro e w1 ⟨u, rfl, ho, hb⟩
  have B1 := Lib.hid hb
  have HT0 := Lib.hid ho
  obtain ⟨ta, tc, rfl, _⟩ := ho.cap
  rw [HN.out] at HT0
  have T1 := Lib.hid HT0.out.row
  clear HT0 ho hb
  simp only [HN.out]
  go_wp2_with fail
  refine (HSPL.out _ B1.out).mono ?_
  rintro e w2 ⟨q, rfl, ho, hb⟩
  have Q2 := Lib.hid ho.row
  clear ho
  have B2 := Lib.hid (below_next B1.out hb)
  have T2 := Lib.hid (T1.out.on hb)
  clear hb
  go_wp2_with fail
  refine (HRC.out _ _ T2.out).mono ?_
  rintro e w3 ⟨rfl, hb⟩
  have B3 := Lib.hid (below_next B2.out hb)
  have T3 := Lib.hid (T2.out.on hb)
  have Q3 := Lib.hid (Q2.out.on hb)
  clear hb
  obtain ⟨b, o, rfl, hbs, hpa⟩ := RowS.addr HROW.out (k := I) (by rw [HN.out]; exact hI)
  have HSG := Lib.hid (And.intro hpa hbs)
  obtain ⟨tb, tof, rfl, htb, hta⟩ := RowS.addr T3.out (k := I) (by rw [HN.out]; exact hI)
  have HSR := Lib.hid (And.intro hta htb)
  have c0 := (hpa.on B3.out hbs).c0 HI.out.2
  have hbs3 := Nat.lt_of_lt_of_le hbs B3.out.size
  clear hpa hbs hta htb
  go_wp2_with fail
  refine (HPARTS.out _ _ _ _ HSR.out.1 HSR.out.2).mono ?_
  rintro e w4 ⟨rfl, hb⟩
  have B4 := Lib.hid (below_next B3.out hb)
  have T4 := Lib.hid (T3.out.on hb)
  have Q4 := Lib.hid (Q3.out.on hb)
  clear hb c0
  go_wp2_with fail
  obtain ⟨w5, hw5⟩ : ∃ W, (w4.alloc (.cells (seven A.k A.p A.q A.r) 60)).alloc (.cells (seven BB.k BB.p BB.q BB.r) 60) = W := ⟨_, rfl⟩
  have N5 : Hid (Below w4.heap.size w4 w5 ∧ w5.heap.size = w4.heap.size + 1 + 1) := by
    rw [← hw5]
    exact ⟨((Below.refl _ _).alloc (Nat.le_refl _) _).alloc (by simp) _, by simp⟩
  rw [show (w4.alloc (.cells (seven A.k A.p A.q A.r) 60)).alloc (.cells (seven BB.k BB.p BB.q BB.r) 60) = w5 from hw5]
  have NR := Lib.hid (RowS.newT w5 60 [A, BB] (seven A.k A.p A.q A.r ++ seven BB.k BB.p BB.q BB.r) 2 rfl rfl)
  rw [N5.out.2] at NR
  have h6 := N5.out.1.alloc N5.out.1.size (.cells (seven A.k A.p A.q A.r ++ seven BB.k BB.p BB.q BB.r) 60)
  have B6 := Lib.hid (below_next B4.out h6)
  have T6 := Lib.hid (T4.out.on h6)
  have Q6 := Lib.hid (Q4.out.on h6)
  clear hw5 h6
  refine (HWITH.out _ _ _ _ T6.out NR.out).mono ?_
  rintro e w7 ⟨v7, rfl, hv, hb⟩
  have B7 := Lib.hid (below_next B6.out hb)
  have T7 := Lib.hid (T6.out.on hb)
  have Q7 := Lib.hid (Q6.out.on hb)
  have V7 := Lib.hid hv
  clear hb hv NR
  go_wp2_with fail
  refine (HIS.out _ _ _ Q7.out V7.out).mono ?_
  rintro e w8 ⟨rfl, hb⟩
  have B8 := Lib.hid (below_next B7.out hb)
  have T8 := Lib.hid (T7.out.on hb)
  have Q8 := Lib.hid (Q7.out.on hb)
  have c0 := (HSG.out.1.on B8.out HSG.out.2).c0 HI.out.2
  have hbs8 := Nat.lt_of_lt_of_le HSG.out.2 B8.out.size
  clear hb
  go_wp2_with fail
  refine (awake_c _ (HR.out.on B8.out)).mono ?_
  rintro e w9 ⟨rfl, hb⟩
  have BZ := Lib.hid (below_next B8.out hb)
  clear hb
  go_wp2_with fail
  go_ret
  exact ⟨rfl, BZ.out⟩
set_option maxHeartbeats 4000000 in
set_option maxRecDepth 100000 in
theorem splits_E3 (ao : Option Addr) (n c : Nat) (l : List Sg) (I : Nat) (s A BB : Sg) (M : List Sg) (h1 : (s.k == 1) = false) (h5 : (s.k == 5) = false) (HI : Hid (I < n ∧ l[I]? = some s)) (HX : Hid (checkI l = 0 ∧ splitI l (I : Int) = (0, M)))
    (HPARTS : Hid (∀ W b o tc, SegsAt W b o l → b < W.heap.size → Calls Tryd.prog 25 #[.slice (some ⟨b, o, none⟩) n tc, .int .i64 (I : Int)] W fun e w' => e = .returned (.tuple #[.agg (seven A.k A.p A.q A.r), .agg (seven BB.k BB.p BB.q BB.r)]) ∧ Below W.heap.size W w'))
    (HWITH : Hid (∀ W ta tc u, RowS W (.slice ta n tc) l → RowS W u [A, BB] → Calls Tryd.prog 23 #[.slice ta n tc, .int .i64 (I : Int), .int .i64 1, u] W fun e w' => ∃ v, e = .returned v ∧ RowS w' v M ∧ Below W.heap.size W w'))
    (HIS : Hid (∀ W q v, RowS W q M → RowS W v M → Calls Tryd.prog 22 #[q, .int .i64 0, v] W fun e w' => e = .returned (.bool true) ∧ Below W.heap.size W w')) (d : Int) (w : World) (HA : Hid (Rd w ∧ RowS w (.slice ao n c) l ∧ n ≤ c ∧ l.length = n ∧ n ≤ 60)) (e2 : (s.k == 2) = false) (f1 : decide (d < 1) = false) (f2 : decide (d > 6) = true) : Calls Tryd.prog 6 #[.slice ao n c, .int .i64 (I : Int), .int .i64 d] w fun e w' => e = .returned (.bool true) ∧ Below w.heap.size w w' := by
  have hI : I < n := HI.out.1
  have d1 : decide ((I : Int) < 0) = false := by simp
  have d2 : decide ((I : Int) ≥ (n : Int)) = false := decide_eq_false (by omega)
  have d3 : decide ((n : Int) ≤ (I : Int)) = false := d2
  have d4 : decide (n ≤ I) = false := decide_eq_false (by omega)
  have hIn : (I : Int) < (n : Int) := by omega
  have f3 : decide (6 < d) = true := f2
  have HR := Lib.hid HA.out.1
  have HROW := Lib.hid HA.out.2.1
  have HN := Lib.hid HA.out.2.2.2.1
  have hn1 := HA.out.2.2.2.2
  have hgt : decide ((n : Int) > 60) = false := decide_eq_false (by omega)
  clear hn1
  have HREF : Hid (∀ W v L, L.length ≤ 5000 → RowS W v L → Calls Tryd.prog 12 #[v] W fun e w' => ∃ u, e = .returned u ∧ OwnS w' W.heap.size 60 u L ∧ Below W.heap.size W w') := fun W v L h1 h2 => ref_c W v L h1 h2
  have HRC : Hid (∀ W v, RowS W v l → Calls Tryd.prog 11 #[v] W fun e w' => e = .returned (.int .i64 0) ∧ Below W.heap.size W w') := fun W v h => by have := rcheck_c v l W h; rw [HX.out.1] at this; exact this
  have HSPL : Hid (∀ W, Below w.heap.size w W → Calls Tryd.prog 24 #[.slice ao n c, .int .i64 (I : Int)] W (Edited W (0, M))) := fun W h => by have := split_c ao n c l (I : Int) W (HR.out.on h) (HROW.out.on h) HA.out.2.2.1 (by have := HA.out.2.2.2.2; omega); rw [HX.out.2] at this; exact this
  go_enter Tryd.func6, Tryd.ntmps6
  go_wp2_with fail
  refine (HREF.out _ _ l (by have := HA.out.2.2.2; omega) HROW.out).mono ?_
  rintro e w1 ⟨u, rfl, ho, hb⟩
  have B1 := Lib.hid hb
  have HT0 := Lib.hid ho
  obtain ⟨ta, tc, rfl, _⟩ := ho.cap
  rw [HN.out] at HT0
  have T1 := Lib.hid HT0.out.row
  clear HT0 ho hb
  simp only [HN.out]
  go_wp2_with fail
  refine (HSPL.out _ B1.out).mono ?_
  rintro e w2 ⟨q, rfl, ho, hb⟩
  have Q2 := Lib.hid ho.row
  clear ho
  have B2 := Lib.hid (below_next B1.out hb)
  have T2 := Lib.hid (T1.out.on hb)
  clear hb
  go_wp2_with fail
  refine (HRC.out _ _ T2.out).mono ?_
  rintro e w3 ⟨rfl, hb⟩
  have B3 := Lib.hid (below_next B2.out hb)
  have T3 := Lib.hid (T2.out.on hb)
  have Q3 := Lib.hid (Q2.out.on hb)
  clear hb
  obtain ⟨b, o, rfl, hbs, hpa⟩ := RowS.addr HROW.out (k := I) (by rw [HN.out]; exact hI)
  have HSG := Lib.hid (And.intro hpa hbs)
  obtain ⟨tb, tof, rfl, htb, hta⟩ := RowS.addr T3.out (k := I) (by rw [HN.out]; exact hI)
  have HSR := Lib.hid (And.intro hta htb)
  have c0 := (hpa.on B3.out hbs).c0 HI.out.2
  have hbs3 := Nat.lt_of_lt_of_le hbs B3.out.size
  clear hpa hbs hta htb
  go_wp2_with fail
  refine (HPARTS.out _ _ _ _ HSR.out.1 HSR.out.2).mono ?_
  rintro e w4 ⟨rfl, hb⟩
  have B4 := Lib.hid (below_next B3.out hb)
  have T4 := Lib.hid (T3.out.on hb)
  have Q4 := Lib.hid (Q3.out.on hb)
  clear hb c0
  go_wp2_with fail
  obtain ⟨w5, hw5⟩ : ∃ W, (w4.alloc (.cells (seven A.k A.p A.q A.r) 60)).alloc (.cells (seven BB.k BB.p BB.q BB.r) 60) = W := ⟨_, rfl⟩
  have N5 : Hid (Below w4.heap.size w4 w5 ∧ w5.heap.size = w4.heap.size + 1 + 1) := by
    rw [← hw5]
    exact ⟨((Below.refl _ _).alloc (Nat.le_refl _) _).alloc (by simp) _, by simp⟩
  rw [show (w4.alloc (.cells (seven A.k A.p A.q A.r) 60)).alloc (.cells (seven BB.k BB.p BB.q BB.r) 60) = w5 from hw5]
  have NR := Lib.hid (RowS.newT w5 60 [A, BB] (seven A.k A.p A.q A.r ++ seven BB.k BB.p BB.q BB.r) 2 rfl rfl)
  rw [N5.out.2] at NR
  have h6 := N5.out.1.alloc N5.out.1.size (.cells (seven A.k A.p A.q A.r ++ seven BB.k BB.p BB.q BB.r) 60)
  have B6 := Lib.hid (below_next B4.out h6)
  have T6 := Lib.hid (T4.out.on h6)
  have Q6 := Lib.hid (Q4.out.on h6)
  clear hw5 h6
  refine (HWITH.out _ _ _ _ T6.out NR.out).mono ?_
  rintro e w7 ⟨v7, rfl, hv, hb⟩
  have B7 := Lib.hid (below_next B6.out hb)
  have T7 := Lib.hid (T6.out.on hb)
  have Q7 := Lib.hid (Q6.out.on hb)
  have V7 := Lib.hid hv
  clear hb hv NR
  go_wp2_with fail
  refine (HIS.out _ _ _ Q7.out V7.out).mono ?_
  rintro e w8 ⟨rfl, hb⟩
  have B8 := Lib.hid (below_next B7.out hb)
  have T8 := Lib.hid (T7.out.on hb)
  have Q8 := Lib.hid (Q7.out.on hb)
  have c0 := (HSG.out.1.on B8.out HSG.out.2).c0 HI.out.2
  have hbs8 := Nat.lt_of_lt_of_le HSG.out.2 B8.out.size
  clear hb
  go_wp2_with fail
  refine (awake_c _ (HR.out.on B8.out)).mono ?_
  rintro e w9 ⟨rfl, hb⟩
  have BZ := Lib.hid (below_next B8.out hb)
  clear hb
  go_wp2_with fail
  go_ret
  exact ⟨rfl, BZ.out⟩
end Go.Proofs.YtffgpikhahpomaaDoor
namespace Go.Proofs.YtffgpikhahpomaaDoor
open Go.RowKit
/-- What Flat tells: one open subpath. -/
def OneSub (L : List Pt) (u : Value) (w : World) : Prop := ∃ base S, SubsAt w base 39 44 u S ∧ S.map Sb.plain = [(L, false)]
theorem OneSub.grow {L : List Pt} {u : Value} {w w' : World} (h : OneSub L u w) (hb : Below w.heap.size w w') : OneSub L u w' := by
  obtain ⟨base, S, hs, hm⟩ := h
  exact ⟨base, S, hs.grow hb, hm⟩
theorem OneSub.open {L : List Pt} {u : Value} {w : World} (h : OneSub L u w) : ∃ g c pa pc, u = .slice (some ⟨g, 0, none⟩) 1 c ∧ g < w.heap.size ∧ w.cell? ⟨g, 0, none⟩ = some (.slice pa L.length pc) ∧ Row w (.slice pa L.length pc) L := by
  obtain ⟨base, S, hs, hm⟩ := h
  have h1 : S.length = 1 := by have := congrArg List.length hm; simpa using this
  obtain ⟨a, c, rfl⟩ := subs_shape hs
  obtain ⟨x, hx⟩ : ∃ x, S[0]? = some x := ⟨_, List.getElem?_eq_getElem (by omega)⟩
  obtain ⟨g, rfl, _, hg, _⟩ := subs_addr hs (by intro e; rw [e] at h1; simp at h1)
  obtain ⟨c0, _⟩ := subs_cells hs hx
  have hp : x.plain = (L, false) := by
    have h2 : (S.map Sb.plain)[0]? = some x.plain := by rw [List.getElem?_map, hx]; rfl
    rw [hm] at h2
    simpa using h2.symm
  have hL : x.L = L := congrArg Prod.fst hp
  have hr := (hs.own 0 _ hx).row
  rw [hL] at hr
  obtain ⟨pa, pc, hv⟩ := hr.shape
  rw [hv] at c0 hr
  rw [h1]
  exact ⟨g, c, pa, pc, rfl, hg, by simpa using c0, hr⟩
/-- What holds in a drawn region that builds a list (ib), calls with it (ic), and parts what comes (ic + 1 .. ic + 5). -/
structure TupM (wS : World) (ib ic : Nat) (L : List Sg) (G : Value → World → Prop) (b : Nat → Bool) (vs : Nat → Value) (w' : World) : Prop where
  below : Below wS.heap.size wS w'
  row : b ib = true → RowS w' (vs ib) L
  not : b ic = false → ∀ i, ic < i → b i = false
  got : b ic = true → ∃ u, G u w' ∧ vs ic = .tuple #[u, .int .i64 0] ∧ (b (ic + 1) = true → vs (ic + 1) = .tuple #[u, .int .i64 0]) ∧ (b (ic + 2) = true → vs (ic + 2) = u) ∧ (b (ic + 3) = true → vs (ic + 3) = .int .i64 0) ∧ (b (ic + 4) = true → vs (ic + 4) = u) ∧ (b (ic + 5) = true → vs (ic + 5) = .int .i64 0)
section
variable {wS w' w3 : World} {ib ic : Nat} {L : List Sg} {G : Value → World → Prop} {b : Nat → Bool} {vs : Nat → Value}
theorem TupM.start (vs : Nat → Value) : TupM wS ib ic L G (fun _ => false) vs wS.drew :=
  ⟨below_drewN (Below.refl _ _) 1, fun h => Bool.noConfusion h, fun _ _ _ => rfl, fun h => Bool.noConfusion h⟩
theorem TupM.pre (h : TupM wS ib ic L G b vs w') (hG : ∀ u A B, G u A → Below A.heap.size A B → G u B) (i : Nat) (v : Value) (h1 : i < ic) (h2 : ib ≠ i) (hb : Below w'.heap.size w' w3) : TupM wS ib ic L G (upd b i true) (upd vs i v) w3 := by
  refine ⟨below_next h.below hb, fun hz => ?_, fun hz j hj => ?_, fun hz => ?_⟩
  · rw [upd_other _ _ _ _ h2] at hz ⊢
    exact (h.row hz).on hb
  · rw [upd_other _ _ _ _ (by omega)] at hz ⊢
    exact h.not hz j hj
  · rw [upd_other _ _ _ _ (by omega)] at hz
    obtain ⟨u, g, e0, e1, e2, e3, e4, e5⟩ := h.got hz
    refine ⟨u, hG _ _ _ g hb, ?_, ?_, ?_, ?_, ?_, ?_⟩
    · rw [upd_other _ _ _ _ (by omega)]; exact e0
    all_goals rw [upd_other _ _ _ _ (by omega), upd_other _ _ _ _ (by omega)]
    · exact e1
    · exact e2
    · exact e3
    · exact e4
    · exact e5
theorem TupM.built (h : TupM wS ib ic L G b vs w') (hG : ∀ u A B, G u A → Below A.heap.size A B → G u B) (v : Value) (h1 : ib < ic) (hb : Below w'.heap.size w' w3) (hr : RowS w3 v L) : TupM wS ib ic L G (upd b ib true) (upd vs ib v) w3 := by
  refine ⟨below_next h.below hb, fun hz => ?_, fun hz j hj => ?_, fun hz => ?_⟩
  · rw [upd_same]
    exact hr
  · rw [upd_other _ _ _ _ (by omega)] at hz ⊢
    exact h.not hz j hj
  · rw [upd_other _ _ _ _ (by omega)] at hz
    obtain ⟨u, g, e0, e1, e2, e3, e4, e5⟩ := h.got hz
    refine ⟨u, hG _ _ _ g hb, ?_, ?_, ?_, ?_, ?_, ?_⟩
    · rw [upd_other _ _ _ _ (by omega)]; exact e0
    all_goals rw [upd_other _ _ _ _ (by omega), upd_other _ _ _ _ (by omega)]
    · exact e1
    · exact e2
    · exact e3
    · exact e4
    · exact e5
theorem TupM.call (h : TupM wS ib ic L G b vs w') (h1 : ib < ic) (hun : b ic = false) (u : Value) (hg : G u w3) (hb : Below w'.heap.size w' w3) : TupM wS ib ic L G (upd b ic true) (upd vs ic (.tuple #[u, .int .i64 0])) w3 := by
  have hq := h.not hun
  refine ⟨below_next h.below hb, fun hz => ?_, fun hz => ?_, fun _ => ⟨u, hg, by rw [upd_same], ?_, ?_, ?_, ?_, ?_⟩⟩
  · rw [upd_other _ _ _ _ (by omega)] at hz ⊢
    exact (h.row hz).on hb
  · rw [upd_same] at hz; cases hz
  all_goals (intro hz; rw [upd_other _ _ _ _ (by omega), hq _ (by omega)] at hz; cases hz)
theorem TupM.post (h : TupM wS ib ic L G b vs w') (i : Nat) (hi : ic < i) (v : Value) (h1 : ib < ic) (hc : b ic = true) (H : ∀ u, vs ic = .tuple #[u, .int .i64 0] → (i = ic + 1 → v = .tuple #[u, .int .i64 0]) ∧ (i = ic + 2 → v = u) ∧ (i = ic + 3 → v = .int .i64 0) ∧ (i = ic + 4 → v = u) ∧ (i = ic + 5 → v = .int .i64 0)) : TupM wS ib ic L G (upd b i true) (upd vs i v) w' := by
  obtain ⟨u, g, e0, e1, e2, e3, e4, e5⟩ := h.got hc
  obtain ⟨u1, u2, u3, u4, u5⟩ := H u e0
  have step : ∀ k (x : Value), (b k = true → vs k = x) → (i = k → v = x) → (upd b i true k = true → upd vs i v k = x) := fun k x h1 h2 h3 => by
    by_cases e : i = k
    · subst e; rw [upd_same]; exact h2 rfl
    · rw [upd_other _ _ _ _ (Ne.symm e)] at h3 ⊢; exact h1 h3
  refine ⟨h.below, fun hz => ?_, fun hz => ?_, fun _ => ⟨u, g, ?_, step _ _ e1 u1, step _ _ e2 u2, step _ _ e3 u3, step _ _ e4 u4, step _ _ e5 u5⟩⟩
  · rw [upd_other _ _ _ _ (by omega)] at hz ⊢
    exact h.row hz
  · rw [upd_other _ _ _ _ (by omega), hc] at hz; cases hz
  · rw [upd_other _ _ _ _ (by omega)]; exact e0
theorem TupM.at (h : TupM wS ib ic L G b vs w') {i : Nat} (hi : ic < i) (hb : b i = true) : b ic = true := by
  cases hz : b ic with
  | true => rfl
  | false => have := h.not hz i hi; rw [hb] at this; cases this
theorem tup_inj {r q : Value} (h : Value.tuple #[q, .int .i64 0] = .tuple #[r, .int .i64 0]) : q = r := by
  simp only [Value.tuple.injEq, Array.mk.injEq, List.cons.injEq, and_true] at h
  exact h
end
end Go.Proofs.YtffgpikhahpomaaDoor
