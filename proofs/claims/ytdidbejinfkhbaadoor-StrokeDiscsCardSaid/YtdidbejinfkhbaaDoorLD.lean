/- Layer 7: the law StrokeDiscs. -/
import Derived.Test.YtdidbejinfkhbaaDoorSk
import Derived.Test.YtdidbejinfkhbaaDoorSh
namespace Go.Proofs.YtdidbejinfkhbaaDoor
open Go.RowKit
theorem disc_q0 (c : Pt) (h : Int) : (discI c h)[0]? = some (c.1 + h, c.2) := by
  have : discP c h 0 = (c.1 + h, c.2) := by unfold discP addP discQ qI; simp only [show cosI 0 = 65536 by decide, show cosI (0 + 12) = 0 by decide]; apply Prod.ext <;> simp only <;> omega
  rw [← this]; rfl
theorem disc_q4 (c : Pt) (h : Int) : (discI c h)[4]? = some (c.1, c.2 + h) := by
  have : discP c h 4 = (c.1, c.2 + h) := by unfold discP addP discQ qI; simp only [show cosI 4 = 0 by decide, show cosI (4 + 12) = 65536 by decide]; apply Prod.ext <;> simp only <;> omega
  rw [← this]; rfl
theorem disc_q8 (c : Pt) (h : Int) : (discI c h)[8]? = some (c.1 - h, c.2) := by
  have : discP c h 8 = (c.1 - h, c.2) := by unfold discP addP discQ qI; simp only [show cosI 8 = -65536 by decide, show cosI (8 + 12) = 0 by decide]; apply Prod.ext <;> simp only <;> omega
  rw [← this]; rfl
theorem disc_q12 (c : Pt) (h : Int) : (discI c h)[12]? = some (c.1, c.2 - h) := by
  have : discP c h 12 = (c.1, c.2 - h) := by unfold discP addP discQ qI; simp only [show cosI 12 = 0 by decide, show cosI (12 + 12) = -65536 by decide]; apply Prod.ext <;> simp only <;> omega
  rw [← this]; rfl
set_option maxHeartbeats 8000000 in
set_option maxRecDepth 100000 in
theorem discs_low (c : Pt) (h : Int) (w : World) (HRD : Hid (Rd w)) (HAW : Hid (∀ w, Calls Tryd.prog 10 #[] w fun e w' => e = .returned (.bool true) ∧ Below w.heap.size w w')) (h1 : h < 1) (HB : Hid (∀ w, Rd w → Calls Tryd.prog 8 #[.agg #[.int .i64 c.1, .int .i64 c.2], .int .i64 h] w (ToldP w (30, [])))) :
    Calls Tryd.prog 3 #[.agg #[.int .i64 c.1, .int .i64 c.2], .int .i64 h] w fun e w' => e = .returned (.bool true) ∧ Below w.heap.size w w' := by
  go_enter Tryd.func3, Tryd.ntmps3
  go_wp2_with fail
  refine (HB.out _ (HRD.out.on ((Below.refl _ _).alloc (Nat.le_refl _) _))).mono ?_
  rintro e w1 ⟨v, rfl, ho, hb⟩
  have S0 : Hid (Below w.heap.size w w1 ∧ w.heap.size + 1 ≤ w1.heap.size ∧ Blk w1 w.heap.size 23 (two c) ∧ ∃ n, Own w1 n 23 v []) := ⟨((Below.refl _ _).alloc (Nat.le_refl _) _).trans (hb.mono (by simp)), by have := hb.size; simp at this; omega, (Blk.new _ _ (two c)).grow hb, _, ho⟩
  obtain ⟨ao, cc, hv⟩ := ho.row.shape
  have HV := Lib.hid hv
  rw [hv]
  clear hb ho hv
  simp only [List.length_nil]
  go_wp2_with fail
  refine (HAW.out _).mono ?_
  rintro e w2 ⟨rfl, hb⟩
  have S1 : Hid (Below w.heap.size w w2 ∧ w.heap.size + 1 ≤ w2.heap.size ∧ Blk w2 w.heap.size 23 (two c) ∧ ∃ n, Own w2 n 23 v []) := ⟨S0.out.1.trans (hb.mono (by have := S0.out.2.1; omega)), Nat.le_trans S0.out.2.1 hb.size, S0.out.2.2.1.grow hb, by obtain ⟨n, hn⟩ := S0.out.2.2.2; exact ⟨n, hn.grow hb⟩⟩
  clear hb
  go_wp2_with fail
  go_ret
  exact ⟨rfl, S1.out.1⟩
set_option maxHeartbeats 8000000 in
set_option maxRecDepth 100000 in
theorem discs_high (c : Pt) (h : Int) (w : World) (HRD : Hid (Rd w)) (HAW : Hid (∀ w, Calls Tryd.prog 10 #[] w fun e w' => e = .returned (.bool true) ∧ Below w.heap.size w w')) (h1 : ¬ h < 1) (h2 : h > 32768) (HB : Hid (∀ w, Rd w → Calls Tryd.prog 8 #[.agg #[.int .i64 c.1, .int .i64 c.2], .int .i64 h] w (ToldP w (30, [])))) :
    Calls Tryd.prog 3 #[.agg #[.int .i64 c.1, .int .i64 c.2], .int .i64 h] w fun e w' => e = .returned (.bool true) ∧ Below w.heap.size w w' := by
  go_enter Tryd.func3, Tryd.ntmps3
  go_wp2_with fail
  refine (HB.out _ (HRD.out.on ((Below.refl _ _).alloc (Nat.le_refl _) _))).mono ?_
  rintro e w1 ⟨v, rfl, ho, hb⟩
  have S0 : Hid (Below w.heap.size w w1 ∧ w.heap.size + 1 ≤ w1.heap.size ∧ Blk w1 w.heap.size 23 (two c) ∧ ∃ n, Own w1 n 23 v []) := ⟨((Below.refl _ _).alloc (Nat.le_refl _) _).trans (hb.mono (by simp)), by have := hb.size; simp at this; omega, (Blk.new _ _ (two c)).grow hb, _, ho⟩
  obtain ⟨ao, cc, hv⟩ := ho.row.shape
  have HV := Lib.hid hv
  rw [hv]
  clear hb ho hv
  simp only [List.length_nil]
  go_wp2_with fail
  refine (HAW.out _).mono ?_
  rintro e w2 ⟨rfl, hb⟩
  have S1 : Hid (Below w.heap.size w w2 ∧ w.heap.size + 1 ≤ w2.heap.size ∧ Blk w2 w.heap.size 23 (two c) ∧ ∃ n, Own w2 n 23 v []) := ⟨S0.out.1.trans (hb.mono (by have := S0.out.2.1; omega)), Nat.le_trans S0.out.2.1 hb.size, S0.out.2.2.1.grow hb, by obtain ⟨n, hn⟩ := S0.out.2.2.2; exact ⟨n, hn.grow hb⟩⟩
  clear hb
  go_wp2_with fail
  go_ret
  exact ⟨rfl, S1.out.1⟩
set_option maxHeartbeats 8000000 in
set_option maxRecDepth 100000 in
theorem discs_a (c : Pt) (h : Int) (w : World) (HRD : Hid (Rd w)) (HAW : Hid (∀ w, Calls Tryd.prog 10 #[] w fun e w' => e = .returned (.bool true) ∧ Below w.heap.size w w')) (h1 : ¬ h < 1) (h2 : ¬ h > 32768) (HIA : Hid (∀ w, Calls Tryd.prog 9 #[.agg #[.int .i64 c.1, .int .i64 c.2]] w fun e w' => e = .returned (.bool false) ∧ Below w.heap.size w w')) (HB : Hid (∀ w, Rd w → Calls Tryd.prog 8 #[.agg #[.int .i64 c.1, .int .i64 c.2], .int .i64 h] w (ToldP w (30, [])))) :
    Calls Tryd.prog 3 #[.agg #[.int .i64 c.1, .int .i64 c.2], .int .i64 h] w fun e w' => e = .returned (.bool true) ∧ Below w.heap.size w w' := by
  go_enter Tryd.func3, Tryd.ntmps3
  go_wp2_with fail
  refine (HB.out _ (HRD.out.on ((Below.refl _ _).alloc (Nat.le_refl _) _))).mono ?_
  rintro e w1 ⟨v, rfl, ho, hb⟩
  have S0 : Hid (Below w.heap.size w w1 ∧ w.heap.size + 1 ≤ w1.heap.size ∧ Blk w1 w.heap.size 23 (two c) ∧ ∃ n, Own w1 n 23 v []) := ⟨((Below.refl _ _).alloc (Nat.le_refl _) _).trans (hb.mono (by simp)), by have := hb.size; simp at this; omega, (Blk.new _ _ (two c)).grow hb, _, ho⟩
  obtain ⟨ao, cc, hv⟩ := ho.row.shape
  have HV := Lib.hid hv
  rw [hv]
  clear hb ho hv
  simp only [List.length_nil]
  have kk := S0.out.2.2.1
  have a0 := kk.p0
  have a1 := kk.p1
  clear kk
  go_wp2_with fail
  refine (HIA.out _).mono ?_
  rintro e w2 ⟨rfl, hb⟩
  have S1 : Hid (Below w.heap.size w w2 ∧ w.heap.size + 1 ≤ w2.heap.size ∧ Blk w2 w.heap.size 23 (two c) ∧ ∃ n, Own w2 n 23 v []) := ⟨S0.out.1.trans (hb.mono (by have := S0.out.2.1; omega)), Nat.le_trans S0.out.2.1 hb.size, S0.out.2.2.1.grow hb, by obtain ⟨n, hn⟩ := S0.out.2.2.2; exact ⟨n, hn.grow hb⟩⟩
  clear hb
  clear a0 a1
  go_wp2_with fail
  refine (HAW.out _).mono ?_
  rintro e w3 ⟨rfl, hb⟩
  have S2 : Hid (Below w.heap.size w w3 ∧ w.heap.size + 1 ≤ w3.heap.size ∧ Blk w3 w.heap.size 23 (two c) ∧ ∃ n, Own w3 n 23 v []) := ⟨S1.out.1.trans (hb.mono (by have := S1.out.2.1; omega)), Nat.le_trans S1.out.2.1 hb.size, S1.out.2.2.1.grow hb, by obtain ⟨n, hn⟩ := S1.out.2.2.2; exact ⟨n, hn.grow hb⟩⟩
  clear hb
  go_wp2_with fail
  go_ret
  exact ⟨rfl, S2.out.1⟩
set_option maxHeartbeats 8000000 in
set_option maxRecDepth 100000 in
theorem discs_out (c : Pt) (h : Int) (w : World) (HRD : Hid (Rd w)) (HAW : Hid (∀ w, Calls Tryd.prog 10 #[] w fun e w' => e = .returned (.bool true) ∧ Below w.heap.size w w')) (h1 : ¬ h < 1) (h2 : ¬ h > 32768) (HIA : Hid (∀ w, Calls Tryd.prog 9 #[.agg #[.int .i64 c.1, .int .i64 c.2]] w fun e w' => e = .returned (.bool true) ∧ Below w.heap.size w w')) (HRF : Hid (∀ w, Calls Tryd.prog 12 #[.agg #[.int .i64 c.1, .int .i64 c.2]] w fun e w' => e = .returned (.agg #[.int .i64 c.1, .int .i64 c.2]) ∧ Below w.heap.size w w')) (L : List Pt) (HRB : Hid (∀ w, Calls Tryd.prog 11 #[.agg #[.int .i64 c.1, .int .i64 c.2], .int .i64 h] w fun e w' => ∃ v, e = .returned v ∧ Own w' w.heap.size 32 v L ∧ Below w.heap.size w w')) (HLEN : Hid (L.length = 16)) (HALL : Hid (L.all roomP = false)) (HB : Hid (∀ w, Rd w → Calls Tryd.prog 8 #[.agg #[.int .i64 c.1, .int .i64 c.2], .int .i64 h] w (ToldP w (10, [])))) :
    Calls Tryd.prog 3 #[.agg #[.int .i64 c.1, .int .i64 c.2], .int .i64 h] w fun e w' => e = .returned (.bool true) ∧ Below w.heap.size w w' := by
  go_enter Tryd.func3, Tryd.ntmps3
  go_wp2_with fail
  refine (HB.out _ (HRD.out.on ((Below.refl _ _).alloc (Nat.le_refl _) _))).mono ?_
  rintro e w1 ⟨v, rfl, ho, hb⟩
  have S0 : Hid (Below w.heap.size w w1 ∧ w.heap.size + 1 ≤ w1.heap.size ∧ Blk w1 w.heap.size 23 (two c) ∧ ∃ n, Own w1 n 23 v []) := ⟨((Below.refl _ _).alloc (Nat.le_refl _) _).trans (hb.mono (by simp)), by have := hb.size; simp at this; omega, (Blk.new _ _ (two c)).grow hb, _, ho⟩
  obtain ⟨ao, cc, hv⟩ := ho.row.shape
  have HV := Lib.hid hv
  rw [hv]
  clear hb ho hv
  simp only [List.length_nil]
  have kk := S0.out.2.2.1
  have a0 := kk.p0
  have a1 := kk.p1
  clear kk
  go_wp2_with fail
  refine (HIA.out _).mono ?_
  rintro e w2 ⟨rfl, hb⟩
  have S1 : Hid (Below w.heap.size w w2 ∧ w.heap.size + 1 ≤ w2.heap.size ∧ Blk w2 w.heap.size 23 (two c) ∧ ∃ n, Own w2 n 23 v []) := ⟨S0.out.1.trans (hb.mono (by have := S0.out.2.1; omega)), Nat.le_trans S0.out.2.1 hb.size, S0.out.2.2.1.grow hb, by obtain ⟨n, hn⟩ := S0.out.2.2.2; exact ⟨n, hn.grow hb⟩⟩
  clear hb
  clear a0 a1
  have kk := S1.out.2.2.1
  have a0 := kk.p0
  have a1 := kk.p1
  clear kk
  go_wp2_with fail
  refine (HRF.out _).mono ?_
  rintro e w3 ⟨rfl, hb⟩
  have S2 : Hid (Below w.heap.size w w3 ∧ w.heap.size + 1 ≤ w3.heap.size ∧ Blk w3 w.heap.size 23 (two c) ∧ ∃ n, Own w3 n 23 v []) := ⟨S1.out.1.trans (hb.mono (by have := S1.out.2.1; omega)), Nat.le_trans S1.out.2.1 hb.size, S1.out.2.2.1.grow hb, by obtain ⟨n, hn⟩ := S1.out.2.2.2; exact ⟨n, hn.grow hb⟩⟩
  clear hb
  clear a0 a1
  go_wp2_with fail
  refine (HRB.out _).mono ?_
  rintro e w4 ⟨rv, rfl, hr4, hb⟩
  have SR : Hid (Own w4 w.heap.size 32 rv L) := hr4.base (by have := S2.out.2.1; omega)
  have S3 : Hid (Below w.heap.size w w4 ∧ w.heap.size + 1 ≤ w4.heap.size ∧ Blk w4 w.heap.size 23 (two c) ∧ ∃ n, Own w4 n 23 v []) := ⟨S2.out.1.trans (hb.mono (by have := S2.out.2.1; omega)), Nat.le_trans S2.out.2.1 hb.size, S2.out.2.2.1.grow hb, by obtain ⟨n, hn⟩ := S2.out.2.2.2; exact ⟨n, hn.grow hb⟩⟩
  clear hb
  clear hr4
  obtain ⟨ro, rc, hrv⟩ := SR.out.row.shape
  have HRV := Lib.hid hrv
  rw [hrv]
  clear hrv
  go_wp2_with fail
  refine (refIn7_c _ L _ (by have := HLEN.out; omega) (HRV.out ▸ SR.out.row)).mono ?_
  rw [HALL.out]
  rintro e w5 ⟨rfl, hb⟩
  have SR2 : Hid (Own w5 w.heap.size 32 rv L) := SR.out.grow hb
  have S4 : Hid (Below w.heap.size w w5 ∧ w.heap.size + 1 ≤ w5.heap.size ∧ Blk w5 w.heap.size 23 (two c) ∧ ∃ n, Own w5 n 23 v []) := ⟨S3.out.1.trans (hb.mono (by have := S3.out.2.1; omega)), Nat.le_trans S3.out.2.1 hb.size, S3.out.2.2.1.grow hb, by obtain ⟨n, hn⟩ := S3.out.2.2.2; exact ⟨n, hn.grow hb⟩⟩
  clear hb
  clear SR
  go_wp2_with fail
  refine (HAW.out _).mono ?_
  rintro e w6 ⟨rfl, hb⟩
  have S5 : Hid (Below w.heap.size w w6 ∧ w.heap.size + 1 ≤ w6.heap.size ∧ Blk w6 w.heap.size 23 (two c) ∧ ∃ n, Own w6 n 23 v []) := ⟨S4.out.1.trans (hb.mono (by have := S4.out.2.1; omega)), Nat.le_trans S4.out.2.1 hb.size, S4.out.2.2.1.grow hb, by obtain ⟨n, hn⟩ := S4.out.2.2.2; exact ⟨n, hn.grow hb⟩⟩
  clear hb
  go_wp2_with fail
  go_ret
  exact ⟨rfl, S5.out.1⟩
set_option maxHeartbeats 8000000 in
set_option maxRecDepth 100000 in
theorem discs_ok (c : Pt) (h : Int) (w : World) (HRD : Hid (Rd w)) (HAW : Hid (∀ w, Calls Tryd.prog 10 #[] w fun e w' => e = .returned (.bool true) ∧ Below w.heap.size w w')) (h1 : ¬ h < 1) (h2 : ¬ h > 32768) (HIA : Hid (∀ w, Calls Tryd.prog 9 #[.agg #[.int .i64 c.1, .int .i64 c.2]] w fun e w' => e = .returned (.bool true) ∧ Below w.heap.size w w')) (HRF : Hid (∀ w, Calls Tryd.prog 12 #[.agg #[.int .i64 c.1, .int .i64 c.2]] w fun e w' => e = .returned (.agg #[.int .i64 c.1, .int .i64 c.2]) ∧ Below w.heap.size w w')) (L : List Pt) (HRB : Hid (∀ w, Calls Tryd.prog 11 #[.agg #[.int .i64 c.1, .int .i64 c.2], .int .i64 h] w fun e w' => ∃ v, e = .returned v ∧ Own w' w.heap.size 32 v L ∧ Below w.heap.size w w')) (HLEN : Hid (L.length = 16)) (HALL : Hid (L.all roomP = true)) (HB : Hid (∀ w, Rd w → Calls Tryd.prog 8 #[.agg #[.int .i64 c.1, .int .i64 c.2], .int .i64 h] w (ToldP w (0, L))))
    (e1 : IntKind.i64.wrap (c.1 + h) = c.1 + h) (e2 : IntKind.i64.wrap (c.2 + h) = c.2 + h) (e3 : IntKind.i64.wrap (c.1 - h) = c.1 - h) (e4 : IntKind.i64.wrap (c.2 - h) = c.2 - h) (HQ0 : Hid (L[0]? = some (c.1 + h, c.2))) (HQ4 : Hid (L[4]? = some (c.1, c.2 + h))) (HQ8 : Hid (L[8]? = some (c.1 - h, c.2))) (HQ12 : Hid (L[12]? = some (c.1, c.2 - h))) :
    Calls Tryd.prog 3 #[.agg #[.int .i64 c.1, .int .i64 c.2], .int .i64 h] w fun e w' => e = .returned (.bool true) ∧ Below w.heap.size w w' := by
  go_enter Tryd.func3, Tryd.ntmps3
  go_wp2_with fail
  refine (HB.out _ (HRD.out.on ((Below.refl _ _).alloc (Nat.le_refl _) _))).mono ?_
  rintro e w1 ⟨v, rfl, ho, hb⟩
  have S0 : Hid (Below w.heap.size w w1 ∧ w.heap.size + 1 ≤ w1.heap.size ∧ Blk w1 w.heap.size 23 (two c) ∧ ∃ n, Own w1 n 23 v L) := ⟨((Below.refl _ _).alloc (Nat.le_refl _) _).trans (hb.mono (by simp)), by have := hb.size; simp at this; omega, (Blk.new _ _ (two c)).grow hb, _, ho⟩
  obtain ⟨ao, cc, hv⟩ := ho.row.shape
  have HV := Lib.hid hv
  rw [hv]
  clear hb ho hv
  have kk := S0.out.2.2.1
  have a0 := kk.p0
  have a1 := kk.p1
  clear kk
  go_wp2_with fail
  refine (HIA.out _).mono ?_
  rintro e w2 ⟨rfl, hb⟩
  have S1 : Hid (Below w.heap.size w w2 ∧ w.heap.size + 1 ≤ w2.heap.size ∧ Blk w2 w.heap.size 23 (two c) ∧ ∃ n, Own w2 n 23 v L) := ⟨S0.out.1.trans (hb.mono (by have := S0.out.2.1; omega)), Nat.le_trans S0.out.2.1 hb.size, S0.out.2.2.1.grow hb, by obtain ⟨n, hn⟩ := S0.out.2.2.2; exact ⟨n, hn.grow hb⟩⟩
  clear hb
  clear a0 a1
  have kk := S1.out.2.2.1
  have a0 := kk.p0
  have a1 := kk.p1
  clear kk
  go_wp2_with fail
  refine (HRF.out _).mono ?_
  rintro e w3 ⟨rfl, hb⟩
  have S2 : Hid (Below w.heap.size w w3 ∧ w.heap.size + 1 ≤ w3.heap.size ∧ Blk w3 w.heap.size 23 (two c) ∧ ∃ n, Own w3 n 23 v L) := ⟨S1.out.1.trans (hb.mono (by have := S1.out.2.1; omega)), Nat.le_trans S1.out.2.1 hb.size, S1.out.2.2.1.grow hb, by obtain ⟨n, hn⟩ := S1.out.2.2.2; exact ⟨n, hn.grow hb⟩⟩
  clear hb
  clear a0 a1
  go_wp2_with fail
  refine (HRB.out _).mono ?_
  rintro e w4 ⟨rv, rfl, hr4, hb⟩
  have SR : Hid (Own w4 w.heap.size 32 rv L) := hr4.base (by have := S2.out.2.1; omega)
  have S3 : Hid (Below w.heap.size w w4 ∧ w.heap.size + 1 ≤ w4.heap.size ∧ Blk w4 w.heap.size 23 (two c) ∧ ∃ n, Own w4 n 23 v L) := ⟨S2.out.1.trans (hb.mono (by have := S2.out.2.1; omega)), Nat.le_trans S2.out.2.1 hb.size, S2.out.2.2.1.grow hb, by obtain ⟨n, hn⟩ := S2.out.2.2.2; exact ⟨n, hn.grow hb⟩⟩
  clear hb
  clear hr4
  obtain ⟨ro, rc, hrv⟩ := SR.out.row.shape
  have HRV := Lib.hid hrv
  rw [hrv]
  clear hrv
  go_wp2_with fail
  refine (refIn7_c _ L _ (by have := HLEN.out; omega) (HRV.out ▸ SR.out.row)).mono ?_
  rw [HALL.out]
  rintro e w5 ⟨rfl, hb⟩
  have SR2 : Hid (Own w5 w.heap.size 32 rv L) := SR.out.grow hb
  have S4 : Hid (Below w.heap.size w w5 ∧ w.heap.size + 1 ≤ w5.heap.size ∧ Blk w5 w.heap.size 23 (two c) ∧ ∃ n, Own w5 n 23 v L) := ⟨S3.out.1.trans (hb.mono (by have := S3.out.2.1; omega)), Nat.le_trans S3.out.2.1 hb.size, S3.out.2.2.1.grow hb, by obtain ⟨n, hn⟩ := S3.out.2.2.2; exact ⟨n, hn.grow hb⟩⟩
  clear hb
  clear SR
  obtain ⟨nn, hnn⟩ := S4.out.2.2.2
  rw [HV.out] at hnn
  have HROW := Lib.hid hnn.row
  obtain ⟨b, oo, rfl, hbs, hpa⟩ := hnn.row.addr (k := 0) (by have := HLEN.out; omega)
  have HP := Lib.hid (And.intro hpa hbs)
  clear hnn hpa hbs
  have HSM := Lib.hid (fun W (hW : Out w5 W) => same_c _ _ L W (by have := HLEN.out; omega) (HROW.out.on hW) ((HRV.out ▸ SR2.out.row).on hW))
  rw [HLEN.out] at HSM ⊢
  have hKB := S4.out.2.2.1
  go_wp2_with fail
  refine wp_region_quiet (C := Out w5) (by kernel_rfl) (by kernel_rfl) ⟨rfl, rfl, rfl, Nat.le_refl _, fun _ _ => rfl⟩ ?_
  refine BigFrame.wpQuiet_want rfl (fun K hK => ?_)
  refine quiet_val (.int .i64 0) (fun w' hw' => by go_simp) (hK _ ?_)
  clear hK K
  simp only [Act.put, List.setIfInBounds_toArray, List.set_cons_zero, List.set_cons_succ]
  refine BigFrame.wpQuiet_want rfl (fun K hK => ?_)
  refine quiet_val (.bool true) (fun w' hw' => by go_simp) (hK _ ?_)
  clear hK K
  simp only [Act.put, List.setIfInBounds_toArray, List.set_cons_zero, List.set_cons_succ]
  refine BigFrame.wpQuiet_want rfl (fun K hK => ?_)
  refine quiet_val (.bool true) (fun w' hw' => by go_simp) (hK _ ?_)
  clear hK K
  simp only [Act.put, List.setIfInBounds_toArray, List.set_cons_zero, List.set_cons_succ]
  refine BigFrame.wpQuiet_want rfl (fun K hK => ?_)
  refine quiet_val (.slice (some ⟨b, oo, none⟩) 16 cc) (fun w' hw' => by go_simp) (hK _ ?_)
  clear hK K
  simp only [Act.put, List.setIfInBounds_toArray, List.set_cons_zero, List.set_cons_succ]
  refine BigFrame.wpQuiet_want rfl (fun K hK => ?_)
  refine quiet_val (.slice ro 16 rc) (fun w' hw' => by go_simp) (hK _ ?_)
  clear hK K
  simp only [Act.put, List.setIfInBounds_toArray, List.set_cons_zero, List.set_cons_succ]
  refine BigFrame.wpQuiet_want rfl (fun K hK => ?_)
  refine quiet_call 14 #[.slice (some ⟨b, oo, none⟩) 16 cc, .slice ro 16 rc] (.bool true) (fun w' _ => by go_simp) (fun w' hw' => Calls.out hw' (HSM.out w' hw')) (hK _ ?_)
  clear hK K
  simp only [Act.put, List.setIfInBounds_toArray, List.set_cons_zero, List.set_cons_succ]
  refine BigFrame.wpQuiet_want rfl (fun K hK => ?_)
  refine quiet_val (.bool true) (fun w' hw' => by go_simp) (hK _ ?_)
  clear hK K
  simp only [Act.put, List.setIfInBounds_toArray, List.set_cons_zero, List.set_cons_succ]
  refine BigFrame.wpQuiet_want rfl (fun K hK => ?_)
  refine quiet_val (.bool true) (fun w' hw' => by go_simp) (hK _ ?_)
  clear hK K
  simp only [Act.put, List.setIfInBounds_toArray, List.set_cons_zero, List.set_cons_succ]
  refine BigFrame.wpQuiet_want rfl (fun K hK => ?_)
  refine quiet_val (.slice (some ⟨b, oo, none⟩) 16 cc) (fun w' hw' => by go_simp) (hK _ ?_)
  clear hK K
  simp only [Act.put, List.setIfInBounds_toArray, List.set_cons_zero, List.set_cons_succ]
  refine BigFrame.wpQuiet_want rfl (fun K hK => ?_)
  refine quiet_val (.int .i64 16) (fun w' hw' => by go_simp) (hK _ ?_)
  clear hK K
  simp only [Act.put, List.setIfInBounds_toArray, List.set_cons_zero, List.set_cons_succ]
  refine BigFrame.wpQuiet_want rfl (fun K hK => ?_)
  refine quiet_val (.bool true) (fun w' hw' => by go_simp) (hK _ ?_)
  clear hK K
  simp only [Act.put, List.setIfInBounds_toArray, List.set_cons_zero, List.set_cons_succ]
  refine BigFrame.wpQuiet_want rfl (fun K hK => ?_)
  refine quiet_val (.bool true) (fun w' hw' => by go_simp) (hK _ ?_)
  clear hK K
  simp only [Act.put, List.setIfInBounds_toArray, List.set_cons_zero, List.set_cons_succ]
  refine BigFrame.wpQuiet_want rfl (fun K hK => ?_)
  refine quiet_val (.bool true) (fun w' hw' => by go_simp) (hK _ ?_)
  clear hK K
  simp only [Act.put, List.setIfInBounds_toArray, List.set_cons_zero, List.set_cons_succ]
  refine BigFrame.wpQuiet_want rfl (fun K hK => ?_)
  refine quiet_val (.slice (some ⟨b, oo, none⟩) 16 cc) (fun w' hw' => by go_simp) (hK _ ?_)
  clear hK K
  simp only [Act.put, List.setIfInBounds_toArray, List.set_cons_zero, List.set_cons_succ]
  refine BigFrame.wpQuiet_want rfl (fun K hK => ?_)
  refine quiet_val (.pointer (some ⟨b, oo, none⟩)) (fun w' hw' => by go_simp) (hK _ ?_)
  clear hK K
  simp only [Act.put, List.setIfInBounds_toArray, List.set_cons_zero, List.set_cons_succ]
  refine BigFrame.wpQuiet_want rfl (fun K hK => ?_)
  refine quiet_val (.agg #[.int .i64 (c.1 + h), .int .i64 c.2]) (fun w' hw' => by have hh := (HP.out.1.on hw' HP.out.2) 0 _ HQ0.out; have x0 := hh.1; have x1 := hh.2; clear hh; simp only [Nat.zero_mul, Nat.add_zero] at x0 x1; go_simp) (hK _ ?_)
  clear hK K
  simp only [Act.put, List.setIfInBounds_toArray, List.set_cons_zero, List.set_cons_succ]
  refine BigFrame.wpQuiet_want rfl (fun K hK => ?_)
  refine quiet_val (.pointer (some ⟨w.heap.size, 0, none⟩)) (fun w' hw' => by go_simp) (hK _ ?_)
  clear hK K
  simp only [Act.put, List.setIfInBounds_toArray, List.set_cons_zero, List.set_cons_succ]
  refine BigFrame.wpQuiet_want rfl (fun K hK => ?_)
  refine quiet_val (.int .i64 c.1) (fun w' hw' => by have kk := hKB.on hw' hKB.lt; have x0 := kk.p0; have x1 := kk.p1; clear kk; go_simp) (hK _ ?_)
  clear hK K
  simp only [Act.put, List.setIfInBounds_toArray, List.set_cons_zero, List.set_cons_succ]
  refine BigFrame.wpQuiet_want rfl (fun K hK => ?_)
  refine quiet_val (.int .i64 h) (fun w' hw' => by go_simp) (hK _ ?_)
  clear hK K
  simp only [Act.put, List.setIfInBounds_toArray, List.set_cons_zero, List.set_cons_succ]
  refine BigFrame.wpQuiet_want rfl (fun K hK => ?_)
  refine quiet_val (.int .i64 (c.1 + h)) (fun w' hw' => by go_simp) (hK _ ?_)
  clear hK K
  simp only [Act.put, List.setIfInBounds_toArray, List.set_cons_zero, List.set_cons_succ]
  refine BigFrame.wpQuiet_want rfl (fun K hK => ?_)
  refine quiet_val (.pointer (some ⟨w.heap.size, 1, none⟩)) (fun w' hw' => by go_simp) (hK _ ?_)
  clear hK K
  simp only [Act.put, List.setIfInBounds_toArray, List.set_cons_zero, List.set_cons_succ]
  refine BigFrame.wpQuiet_want rfl (fun K hK => ?_)
  refine quiet_val (.int .i64 c.2) (fun w' hw' => by have kk := hKB.on hw' hKB.lt; have x0 := kk.p0; have x1 := kk.p1; clear kk; go_simp) (hK _ ?_)
  clear hK K
  simp only [Act.put, List.setIfInBounds_toArray, List.set_cons_zero, List.set_cons_succ]
  refine BigFrame.wpQuiet_want rfl (fun K hK => ?_)
  refine quiet_call 15 #[.int .i64 (c.1 + h), .int .i64 c.2] (.agg #[.int .i64 (c.1 + h), .int .i64 c.2]) (fun w' _ => by go_simp) (fun w' hw' => Calls.out hw' (at_c (c.1 + h) c.2 w')) (hK _ ?_)
  clear hK K
  simp only [Act.put, List.setIfInBounds_toArray, List.set_cons_zero, List.set_cons_succ]
  refine BigFrame.wpQuiet_want rfl (fun K hK => ?_)
  refine quiet_val (.bool true) (fun w' hw' => by go_simp) (hK _ ?_)
  clear hK K
  simp only [Act.put, List.setIfInBounds_toArray, List.set_cons_zero, List.set_cons_succ]
  refine BigFrame.wpQuiet_want rfl (fun K hK => ?_)
  refine quiet_val (.bool true) (fun w' hw' => by go_simp) (hK _ ?_)
  clear hK K
  simp only [Act.put, List.setIfInBounds_toArray, List.set_cons_zero, List.set_cons_succ]
  refine BigFrame.wpQuiet_want rfl (fun K hK => ?_)
  refine quiet_val (.bool true) (fun w' hw' => by go_simp) (hK _ ?_)
  clear hK K
  simp only [Act.put, List.setIfInBounds_toArray, List.set_cons_zero, List.set_cons_succ]
  refine BigFrame.wpQuiet_want rfl (fun K hK => ?_)
  refine quiet_val (.slice (some ⟨b, oo, none⟩) 16 cc) (fun w' hw' => by go_simp) (hK _ ?_)
  clear hK K
  simp only [Act.put, List.setIfInBounds_toArray, List.set_cons_zero, List.set_cons_succ]
  refine BigFrame.wpQuiet_want rfl (fun K hK => ?_)
  refine quiet_val (.pointer (some ⟨b, oo + 8, none⟩)) (fun w' hw' => by go_simp) (hK _ ?_)
  clear hK K
  simp only [Act.put, List.setIfInBounds_toArray, List.set_cons_zero, List.set_cons_succ]
  refine BigFrame.wpQuiet_want rfl (fun K hK => ?_)
  refine quiet_val (.agg #[.int .i64 c.1, .int .i64 (c.2 + h)]) (fun w' hw' => by have hh := (HP.out.1.on hw' HP.out.2) 4 _ HQ4.out; have x0 := hh.1; have x1 := hh.2; clear hh; simp only [Nat.reduceMul] at x0 x1; go_simp) (hK _ ?_)
  clear hK K
  simp only [Act.put, List.setIfInBounds_toArray, List.set_cons_zero, List.set_cons_succ]
  refine BigFrame.wpQuiet_want rfl (fun K hK => ?_)
  refine quiet_val (.pointer (some ⟨w.heap.size, 0, none⟩)) (fun w' hw' => by go_simp) (hK _ ?_)
  clear hK K
  simp only [Act.put, List.setIfInBounds_toArray, List.set_cons_zero, List.set_cons_succ]
  refine BigFrame.wpQuiet_want rfl (fun K hK => ?_)
  refine quiet_val (.int .i64 c.1) (fun w' hw' => by have kk := hKB.on hw' hKB.lt; have x0 := kk.p0; have x1 := kk.p1; clear kk; go_simp) (hK _ ?_)
  clear hK K
  simp only [Act.put, List.setIfInBounds_toArray, List.set_cons_zero, List.set_cons_succ]
  refine BigFrame.wpQuiet_want rfl (fun K hK => ?_)
  refine quiet_val (.pointer (some ⟨w.heap.size, 1, none⟩)) (fun w' hw' => by go_simp) (hK _ ?_)
  clear hK K
  simp only [Act.put, List.setIfInBounds_toArray, List.set_cons_zero, List.set_cons_succ]
  refine BigFrame.wpQuiet_want rfl (fun K hK => ?_)
  refine quiet_val (.int .i64 c.2) (fun w' hw' => by have kk := hKB.on hw' hKB.lt; have x0 := kk.p0; have x1 := kk.p1; clear kk; go_simp) (hK _ ?_)
  clear hK K
  simp only [Act.put, List.setIfInBounds_toArray, List.set_cons_zero, List.set_cons_succ]
  refine BigFrame.wpQuiet_want rfl (fun K hK => ?_)
  refine quiet_val (.int .i64 h) (fun w' hw' => by go_simp) (hK _ ?_)
  clear hK K
  simp only [Act.put, List.setIfInBounds_toArray, List.set_cons_zero, List.set_cons_succ]
  refine BigFrame.wpQuiet_want rfl (fun K hK => ?_)
  refine quiet_val (.int .i64 (c.2 + h)) (fun w' hw' => by go_simp) (hK _ ?_)
  clear hK K
  simp only [Act.put, List.setIfInBounds_toArray, List.set_cons_zero, List.set_cons_succ]
  refine BigFrame.wpQuiet_want rfl (fun K hK => ?_)
  refine quiet_call 15 #[.int .i64 c.1, .int .i64 (c.2 + h)] (.agg #[.int .i64 c.1, .int .i64 (c.2 + h)]) (fun w' _ => by go_simp) (fun w' hw' => Calls.out hw' (at_c c.1 (c.2 + h) w')) (hK _ ?_)
  clear hK K
  simp only [Act.put, List.setIfInBounds_toArray, List.set_cons_zero, List.set_cons_succ]
  refine BigFrame.wpQuiet_want rfl (fun K hK => ?_)
  refine quiet_val (.bool true) (fun w' hw' => by go_simp) (hK _ ?_)
  clear hK K
  simp only [Act.put, List.setIfInBounds_toArray, List.set_cons_zero, List.set_cons_succ]
  refine BigFrame.wpQuiet_want rfl (fun K hK => ?_)
  refine quiet_val (.bool true) (fun w' hw' => by go_simp) (hK _ ?_)
  clear hK K
  simp only [Act.put, List.setIfInBounds_toArray, List.set_cons_zero, List.set_cons_succ]
  refine BigFrame.wpQuiet_want rfl (fun K hK => ?_)
  refine quiet_val (.bool true) (fun w' hw' => by go_simp) (hK _ ?_)
  clear hK K
  simp only [Act.put, List.setIfInBounds_toArray, List.set_cons_zero, List.set_cons_succ]
  refine BigFrame.wpQuiet_want rfl (fun K hK => ?_)
  refine quiet_val (.slice (some ⟨b, oo, none⟩) 16 cc) (fun w' hw' => by go_simp) (hK _ ?_)
  clear hK K
  simp only [Act.put, List.setIfInBounds_toArray, List.set_cons_zero, List.set_cons_succ]
  refine BigFrame.wpQuiet_want rfl (fun K hK => ?_)
  refine quiet_val (.pointer (some ⟨b, oo + 16, none⟩)) (fun w' hw' => by go_simp) (hK _ ?_)
  clear hK K
  simp only [Act.put, List.setIfInBounds_toArray, List.set_cons_zero, List.set_cons_succ]
  refine BigFrame.wpQuiet_want rfl (fun K hK => ?_)
  refine quiet_val (.agg #[.int .i64 (c.1 - h), .int .i64 c.2]) (fun w' hw' => by have hh := (HP.out.1.on hw' HP.out.2) 8 _ HQ8.out; have x0 := hh.1; have x1 := hh.2; clear hh; simp only [Nat.reduceMul] at x0 x1; go_simp) (hK _ ?_)
  clear hK K
  simp only [Act.put, List.setIfInBounds_toArray, List.set_cons_zero, List.set_cons_succ]
  refine BigFrame.wpQuiet_want rfl (fun K hK => ?_)
  refine quiet_val (.pointer (some ⟨w.heap.size, 0, none⟩)) (fun w' hw' => by go_simp) (hK _ ?_)
  clear hK K
  simp only [Act.put, List.setIfInBounds_toArray, List.set_cons_zero, List.set_cons_succ]
  refine BigFrame.wpQuiet_want rfl (fun K hK => ?_)
  refine quiet_val (.int .i64 c.1) (fun w' hw' => by have kk := hKB.on hw' hKB.lt; have x0 := kk.p0; have x1 := kk.p1; clear kk; go_simp) (hK _ ?_)
  clear hK K
  simp only [Act.put, List.setIfInBounds_toArray, List.set_cons_zero, List.set_cons_succ]
  refine BigFrame.wpQuiet_want rfl (fun K hK => ?_)
  refine quiet_val (.int .i64 h) (fun w' hw' => by go_simp) (hK _ ?_)
  clear hK K
  simp only [Act.put, List.setIfInBounds_toArray, List.set_cons_zero, List.set_cons_succ]
  refine BigFrame.wpQuiet_want rfl (fun K hK => ?_)
  refine quiet_val (.int .i64 (c.1 - h)) (fun w' hw' => by go_simp) (hK _ ?_)
  clear hK K
  simp only [Act.put, List.setIfInBounds_toArray, List.set_cons_zero, List.set_cons_succ]
  refine BigFrame.wpQuiet_want rfl (fun K hK => ?_)
  refine quiet_val (.pointer (some ⟨w.heap.size, 1, none⟩)) (fun w' hw' => by go_simp) (hK _ ?_)
  clear hK K
  simp only [Act.put, List.setIfInBounds_toArray, List.set_cons_zero, List.set_cons_succ]
  refine BigFrame.wpQuiet_want rfl (fun K hK => ?_)
  refine quiet_val (.int .i64 c.2) (fun w' hw' => by have kk := hKB.on hw' hKB.lt; have x0 := kk.p0; have x1 := kk.p1; clear kk; go_simp) (hK _ ?_)
  clear hK K
  simp only [Act.put, List.setIfInBounds_toArray, List.set_cons_zero, List.set_cons_succ]
  refine BigFrame.wpQuiet_want rfl (fun K hK => ?_)
  refine quiet_call 15 #[.int .i64 (c.1 - h), .int .i64 c.2] (.agg #[.int .i64 (c.1 - h), .int .i64 c.2]) (fun w' _ => by go_simp) (fun w' hw' => Calls.out hw' (at_c (c.1 - h) c.2 w')) (hK _ ?_)
  clear hK K
  simp only [Act.put, List.setIfInBounds_toArray, List.set_cons_zero, List.set_cons_succ]
  refine BigFrame.wpQuiet_want rfl (fun K hK => ?_)
  refine quiet_val (.bool true) (fun w' hw' => by go_simp) (hK _ ?_)
  clear hK K
  simp only [Act.put, List.setIfInBounds_toArray, List.set_cons_zero, List.set_cons_succ]
  refine BigFrame.wpQuiet_want rfl (fun K hK => ?_)
  refine quiet_val (.bool true) (fun w' hw' => by go_simp) (hK _ ?_)
  clear hK K
  simp only [Act.put, List.setIfInBounds_toArray, List.set_cons_zero, List.set_cons_succ]
  refine BigFrame.wpQuiet_want rfl (fun K hK => ?_)
  refine quiet_val (.bool true) (fun w' hw' => by go_simp) (hK _ ?_)
  clear hK K
  simp only [Act.put, List.setIfInBounds_toArray, List.set_cons_zero, List.set_cons_succ]
  refine BigFrame.wpQuiet_want rfl (fun K hK => ?_)
  refine quiet_val (.slice (some ⟨b, oo, none⟩) 16 cc) (fun w' hw' => by go_simp) (hK _ ?_)
  clear hK K
  simp only [Act.put, List.setIfInBounds_toArray, List.set_cons_zero, List.set_cons_succ]
  refine BigFrame.wpQuiet_want rfl (fun K hK => ?_)
  refine quiet_val (.pointer (some ⟨b, oo + 24, none⟩)) (fun w' hw' => by go_simp) (hK _ ?_)
  clear hK K
  simp only [Act.put, List.setIfInBounds_toArray, List.set_cons_zero, List.set_cons_succ]
  refine BigFrame.wpQuiet_want rfl (fun K hK => ?_)
  refine quiet_val (.agg #[.int .i64 c.1, .int .i64 (c.2 - h)]) (fun w' hw' => by have hh := (HP.out.1.on hw' HP.out.2) 12 _ HQ12.out; have x0 := hh.1; have x1 := hh.2; clear hh; simp only [Nat.reduceMul] at x0 x1; go_simp) (hK _ ?_)
  clear hK K
  simp only [Act.put, List.setIfInBounds_toArray, List.set_cons_zero, List.set_cons_succ]
  refine BigFrame.wpQuiet_want rfl (fun K hK => ?_)
  refine quiet_val (.pointer (some ⟨w.heap.size, 0, none⟩)) (fun w' hw' => by go_simp) (hK _ ?_)
  clear hK K
  simp only [Act.put, List.setIfInBounds_toArray, List.set_cons_zero, List.set_cons_succ]
  refine BigFrame.wpQuiet_want rfl (fun K hK => ?_)
  refine quiet_val (.int .i64 c.1) (fun w' hw' => by have kk := hKB.on hw' hKB.lt; have x0 := kk.p0; have x1 := kk.p1; clear kk; go_simp) (hK _ ?_)
  clear hK K
  simp only [Act.put, List.setIfInBounds_toArray, List.set_cons_zero, List.set_cons_succ]
  refine BigFrame.wpQuiet_want rfl (fun K hK => ?_)
  refine quiet_val (.pointer (some ⟨w.heap.size, 1, none⟩)) (fun w' hw' => by go_simp) (hK _ ?_)
  clear hK K
  simp only [Act.put, List.setIfInBounds_toArray, List.set_cons_zero, List.set_cons_succ]
  refine BigFrame.wpQuiet_want rfl (fun K hK => ?_)
  refine quiet_val (.int .i64 c.2) (fun w' hw' => by have kk := hKB.on hw' hKB.lt; have x0 := kk.p0; have x1 := kk.p1; clear kk; go_simp) (hK _ ?_)
  clear hK K
  simp only [Act.put, List.setIfInBounds_toArray, List.set_cons_zero, List.set_cons_succ]
  refine BigFrame.wpQuiet_want rfl (fun K hK => ?_)
  refine quiet_val (.int .i64 h) (fun w' hw' => by go_simp) (hK _ ?_)
  clear hK K
  simp only [Act.put, List.setIfInBounds_toArray, List.set_cons_zero, List.set_cons_succ]
  refine BigFrame.wpQuiet_want rfl (fun K hK => ?_)
  refine quiet_val (.int .i64 (c.2 - h)) (fun w' hw' => by go_simp) (hK _ ?_)
  clear hK K
  simp only [Act.put, List.setIfInBounds_toArray, List.set_cons_zero, List.set_cons_succ]
  refine BigFrame.wpQuiet_want rfl (fun K hK => ?_)
  refine quiet_call 15 #[.int .i64 c.1, .int .i64 (c.2 - h)] (.agg #[.int .i64 c.1, .int .i64 (c.2 - h)]) (fun w' _ => by go_simp) (fun w' hw' => Calls.out hw' (at_c c.1 (c.2 - h) w')) (hK _ ?_)
  clear hK K
  simp only [Act.put, List.setIfInBounds_toArray, List.set_cons_zero, List.set_cons_succ]
  refine BigFrame.wpQuiet_want rfl (fun K hK => ?_)
  refine quiet_val (.bool true) (fun w' hw' => by go_simp) (hK _ ?_)
  clear hK K
  simp only [Act.put, List.setIfInBounds_toArray, List.set_cons_zero, List.set_cons_succ]
  refine BigFrame.wpQuiet_want rfl (fun K hK => ?_)
  refine quiet_val (.bool true) (fun w' hw' => by go_simp) (hK _ ?_)
  clear hK K
  simp only [Act.put, List.setIfInBounds_toArray, List.set_cons_zero, List.set_cons_succ]
  refine BigFrame.wpQuiet_want rfl (fun K hK => ?_)
  refine quiet_val (.bool true) (fun w' hw' => by go_simp) (hK _ ?_)
  clear hK K
  simp only [Act.put, List.setIfInBounds_toArray, List.set_cons_zero, List.set_cons_succ]
  refine BigFrame.wpQuiet_want rfl (fun K hK => ?_)
  refine quiet_call 10 #[] (.bool true) (fun w' _ => by go_simp) (fun w' hw' => Calls.out hw' (HAW.out w')) (hK _ ?_)
  clear hK K
  simp only [Act.put, List.setIfInBounds_toArray, List.set_cons_zero, List.set_cons_succ]
  refine BigFrame.wpQuiet_want rfl (fun K hK => ?_)
  refine quiet_val (.bool true) (fun w' hw' => by go_simp) (hK _ ?_)
  clear hK K
  simp only [Act.put, List.setIfInBounds_toArray, List.set_cons_zero, List.set_cons_succ]
  refine BigFrame.wpQuiet_want rfl (fun K hK => ?_)
  refine quiet_val (.bool true) (fun w' hw' => by go_simp) (hK _ ?_)
  clear hK K
  simp only [Act.put, List.setIfInBounds_toArray, List.set_cons_zero, List.set_cons_succ]
  refine wpQuiet_nil ?_
  intro w9 hw9
  have Hw := Lib.hid hw9
  clear hw9
  go_wp2_with fail
  go_ret
  exact ⟨rfl, S4.out.1.trans (Hw.out.mono (by have := S4.out.2.1; omega))⟩
theorem strokeDiscs_c (cx cy h : Int) (w : World) (hr : Rd w) : Calls Tryd.prog 3 #[.agg #[.int .i64 cx, .int .i64 cy], .int .i64 h] w fun e w' => e = .returned (.bool true) ∧ Below w.heap.size w w' := by
  obtain ⟨c, hc⟩ : ∃ c : Pt, c = (cx, cy) := ⟨_, rfl⟩
  rw [show cx = c.1 by rw [hc], show cy = c.2 by rw [hc]]
  clear hc
  have HAW := Lib.hid awake_c
  have HB := Lib.hid (fun w hr => disc_c c h w hr)
  have HIA := Lib.hid (lawIn_c c.1 c.2)
  rw [show roomP (c.1, c.2) = roomP c from rfl] at HIA
  have pno : penB h = false → discOut c h = (30, []) := fun e => by unfold discOut; rw [e]; rfl
  by_cases h1 : h < 1
  · rw [pno (by cases e : penB h with
      | false => rfl
      | true => have := penB_iff.1 e; omega)] at HB
    exact discs_low c h w hr HAW h1 HB
  by_cases h2 : h > 32768
  · rw [pno (by cases e : penB h with
      | false => rfl
      | true => have := penB_iff.1 e; omega)] at HB
    exact discs_high c h w hr HAW h1 h2 HB
  have hk : 1 ≤ h ∧ h ≤ 32768 := by omega
  have hp : penB h = true := penB_iff.2 hk
  unfold discOut at HB
  rw [hp] at HB
  cases ha : roomP c
  · rw [ha] at HIA HB
    exact discs_a c h w hr HAW h1 h2 HIA HB
  rw [ha] at HIA HB
  rw [show (if (true && true) = true then roomOut (discI c h) else (30, [])) = roomOut (discI c h) from rfl] at HB
  have HRF := Lib.hid (ref1_c c.1 c.2)
  have HRB := Lib.hid (rdisc_c c h (mid_of_room ha) hk)
  have rc := roomP_iff.1 ha
  have w1 : ∀ z : Int, -9223372036854775808 ≤ z → z ≤ 9223372036854775807 → IntKind.i64.wrap z = z := fun z p q => (wrap_is z).trans (wrapR z p q)
  unfold roomOut at HB
  cases hall : (discI c h).all roomP
  · rw [hall] at HB
    exact discs_out c h w hr HAW h1 h2 HIA HRF _ HRB (disc_len c h) hall HB
  · rw [hall] at HB
    exact discs_ok c h w hr HAW h1 h2 HIA HRF _ HRB (disc_len c h) hall HB (w1 _ (by omega) (by omega)) (w1 _ (by omega) (by omega)) (w1 _ (by omega) (by omega)) (w1 _ (by omega) (by omega))
      (disc_q0 c h) (disc_q4 c h) (disc_q8 c h) (disc_q12 c h)
end Go.Proofs.YtdidbejinfkhbaaDoor
