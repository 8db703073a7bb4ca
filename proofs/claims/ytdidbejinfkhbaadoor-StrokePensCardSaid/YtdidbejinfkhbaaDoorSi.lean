/- Layer 7: cosines, sines. -/
import Derived.Test.YtdidbejinfkhbaaDoorSg
namespace Go.Proofs.YtdidbejinfkhbaaDoor
open Go.RowKit
def cosL : List Int := [65536, 60547, 46341, 25080, 0, -25080, -46341, -60547, -65536, -60547, -46341, -25080, 0, 25080, 46341, 60547]
def cosI (k : Nat) : Int := cosL.getD (k % 16) 0
def cosV : List Value := [.int .i64 65536, .int .i64 60547, .int .i64 46341, .int .i64 25080, .int .i64 0]
/-- What the walks read of memory: the table of cosines. -/
def Rd (w : World) : Prop := w.var? Tryd.prog "limner/stroke.cosines" = some cosV.toArray
theorem gN : Tryd.prog.globalNamed "limner/stroke.cosines" = some 0 := by kernel_rfl
theorem Rd.lt {w : World} (h : Rd w) : 0 < w.heap.size := by
  unfold Rd World.var? at h
  rw [gN] at h
  rcases Nat.lt_or_ge 0 w.heap.size with h' | h'
  · exact h'
  · simp [Array.getElem?_eq_none h'] at h
theorem Rd.on {w w' : World} (h : Rd w) (hb : Below w.heap.size w w') : Rd w' := var?_below hb gN h.lt h
theorem Rd.cell {w : World} (h : Rd w) (i : Nat) : w.cell? ⟨0, i, none⟩ = cosV[i]? := by
  rw [World.var?_cell gN h i]; simp
theorem cos_0 (w : World) (hr : Rd w) : Calls Tryd.prog 29 #[.int .i64 0] w fun e w' => e = .returned (.int .i64 65536) ∧ w = w' := by
  have l0 := hr.lt
  have c0 : w.cell? ⟨0, 0, none⟩ = some (.int .i64 65536) := hr.cell 0
  go_enter Tryd.func29, Tryd.ntmps29
  go_wp2
  go_ret
  exact ⟨rfl, rfl⟩
theorem cos_1 (w : World) (hr : Rd w) : Calls Tryd.prog 29 #[.int .i64 1] w fun e w' => e = .returned (.int .i64 60547) ∧ w = w' := by
  have l0 := hr.lt
  have c0 : w.cell? ⟨0, 1, none⟩ = some (.int .i64 60547) := hr.cell 1
  go_enter Tryd.func29, Tryd.ntmps29
  go_wp2
  go_ret
  exact ⟨rfl, rfl⟩
theorem cos_2 (w : World) (hr : Rd w) : Calls Tryd.prog 29 #[.int .i64 2] w fun e w' => e = .returned (.int .i64 46341) ∧ w = w' := by
  have l0 := hr.lt
  have c0 : w.cell? ⟨0, 2, none⟩ = some (.int .i64 46341) := hr.cell 2
  go_enter Tryd.func29, Tryd.ntmps29
  go_wp2
  go_ret
  exact ⟨rfl, rfl⟩
theorem cos_3 (w : World) (hr : Rd w) : Calls Tryd.prog 29 #[.int .i64 3] w fun e w' => e = .returned (.int .i64 25080) ∧ w = w' := by
  have l0 := hr.lt
  have c0 : w.cell? ⟨0, 3, none⟩ = some (.int .i64 25080) := hr.cell 3
  go_enter Tryd.func29, Tryd.ntmps29
  go_wp2
  go_ret
  exact ⟨rfl, rfl⟩
theorem cos_4 (w : World) (hr : Rd w) : Calls Tryd.prog 29 #[.int .i64 4] w fun e w' => e = .returned (.int .i64 0) ∧ w = w' := by
  have l0 := hr.lt
  have c0 : w.cell? ⟨0, 4, none⟩ = some (.int .i64 0) := hr.cell 4
  go_enter Tryd.func29, Tryd.ntmps29
  go_wp2
  go_ret
  exact ⟨rfl, rfl⟩
theorem cos_5 (w : World) (hr : Rd w) : Calls Tryd.prog 29 #[.int .i64 5] w fun e w' => e = .returned (.int .i64 (-25080)) ∧ w = w' := by
  have l0 := hr.lt
  have c0 : w.cell? ⟨0, 3, none⟩ = some (.int .i64 25080) := hr.cell 3
  go_enter Tryd.func29, Tryd.ntmps29
  go_wp2
  go_ret
  exact ⟨rfl, rfl⟩
theorem cos_6 (w : World) (hr : Rd w) : Calls Tryd.prog 29 #[.int .i64 6] w fun e w' => e = .returned (.int .i64 (-46341)) ∧ w = w' := by
  have l0 := hr.lt
  have c0 : w.cell? ⟨0, 2, none⟩ = some (.int .i64 46341) := hr.cell 2
  go_enter Tryd.func29, Tryd.ntmps29
  go_wp2
  go_ret
  exact ⟨rfl, rfl⟩
theorem cos_7 (w : World) (hr : Rd w) : Calls Tryd.prog 29 #[.int .i64 7] w fun e w' => e = .returned (.int .i64 (-60547)) ∧ w = w' := by
  have l0 := hr.lt
  have c0 : w.cell? ⟨0, 1, none⟩ = some (.int .i64 60547) := hr.cell 1
  go_enter Tryd.func29, Tryd.ntmps29
  go_wp2
  go_ret
  exact ⟨rfl, rfl⟩
theorem cos_8 (w : World) (hr : Rd w) : Calls Tryd.prog 29 #[.int .i64 8] w fun e w' => e = .returned (.int .i64 (-65536)) ∧ w = w' := by
  have l0 := hr.lt
  have c0 : w.cell? ⟨0, 0, none⟩ = some (.int .i64 65536) := hr.cell 0
  go_enter Tryd.func29, Tryd.ntmps29
  go_wp2
  go_ret
  exact ⟨rfl, rfl⟩
theorem cos_9 (w : World) (hr : Rd w) : Calls Tryd.prog 29 #[.int .i64 9] w fun e w' => e = .returned (.int .i64 (-60547)) ∧ w = w' := by
  have H := Lib.hid (cos_7 w hr)
  clear hr
  go_enter Tryd.func29, Tryd.ntmps29
  go_wp2_with fail
  refine (H.out).mono ?_
  rintro e w' ⟨rfl, rfl⟩
  go_wp2_with fail
  go_ret
  exact ⟨rfl, rfl⟩
theorem cos_10 (w : World) (hr : Rd w) : Calls Tryd.prog 29 #[.int .i64 10] w fun e w' => e = .returned (.int .i64 (-46341)) ∧ w = w' := by
  have H := Lib.hid (cos_6 w hr)
  clear hr
  go_enter Tryd.func29, Tryd.ntmps29
  go_wp2_with fail
  refine (H.out).mono ?_
  rintro e w' ⟨rfl, rfl⟩
  go_wp2_with fail
  go_ret
  exact ⟨rfl, rfl⟩
theorem cos_11 (w : World) (hr : Rd w) : Calls Tryd.prog 29 #[.int .i64 11] w fun e w' => e = .returned (.int .i64 (-25080)) ∧ w = w' := by
  have H := Lib.hid (cos_5 w hr)
  clear hr
  go_enter Tryd.func29, Tryd.ntmps29
  go_wp2_with fail
  refine (H.out).mono ?_
  rintro e w' ⟨rfl, rfl⟩
  go_wp2_with fail
  go_ret
  exact ⟨rfl, rfl⟩
theorem cos_12 (w : World) (hr : Rd w) : Calls Tryd.prog 29 #[.int .i64 12] w fun e w' => e = .returned (.int .i64 0) ∧ w = w' := by
  have H := Lib.hid (cos_4 w hr)
  clear hr
  go_enter Tryd.func29, Tryd.ntmps29
  go_wp2_with fail
  refine (H.out).mono ?_
  rintro e w' ⟨rfl, rfl⟩
  go_wp2_with fail
  go_ret
  exact ⟨rfl, rfl⟩
theorem cos_13 (w : World) (hr : Rd w) : Calls Tryd.prog 29 #[.int .i64 13] w fun e w' => e = .returned (.int .i64 25080) ∧ w = w' := by
  have H := Lib.hid (cos_3 w hr)
  clear hr
  go_enter Tryd.func29, Tryd.ntmps29
  go_wp2_with fail
  refine (H.out).mono ?_
  rintro e w' ⟨rfl, rfl⟩
  go_wp2_with fail
  go_ret
  exact ⟨rfl, rfl⟩
theorem cos_14 (w : World) (hr : Rd w) : Calls Tryd.prog 29 #[.int .i64 14] w fun e w' => e = .returned (.int .i64 46341) ∧ w = w' := by
  have H := Lib.hid (cos_2 w hr)
  clear hr
  go_enter Tryd.func29, Tryd.ntmps29
  go_wp2_with fail
  refine (H.out).mono ?_
  rintro e w' ⟨rfl, rfl⟩
  go_wp2_with fail
  go_ret
  exact ⟨rfl, rfl⟩
theorem cos_15 (w : World) (hr : Rd w) : Calls Tryd.prog 29 #[.int .i64 15] w fun e w' => e = .returned (.int .i64 60547) ∧ w = w' := by
  have H := Lib.hid (cos_1 w hr)
  clear hr
  go_enter Tryd.func29, Tryd.ntmps29
  go_wp2_with fail
  refine (H.out).mono ?_
  rintro e w' ⟨rfl, rfl⟩
  go_wp2_with fail
  go_ret
  exact ⟨rfl, rfl⟩
theorem cosine_c (k : Nat) (hk : k < 16) (w : World) (hr : Rd w) : Calls Tryd.prog 29 #[.int .i64 (k : Int)] w fun e w' => e = .returned (.int .i64 (cosI k)) ∧ w = w' := by
  rcases (by omega : k = 0 ∨ k = 1 ∨ k = 2 ∨ k = 3 ∨ k = 4 ∨ k = 5 ∨ k = 6 ∨ k = 7 ∨ k = 8 ∨ k = 9 ∨ k = 10 ∨ k = 11 ∨ k = 12 ∨ k = 13 ∨ k = 14 ∨ k = 15) with rfl | rfl | rfl | rfl | rfl | rfl | rfl | rfl | rfl | rfl | rfl | rfl | rfl | rfl | rfl | rfl
  · exact cos_0 w hr
  · exact cos_1 w hr
  · exact cos_2 w hr
  · exact cos_3 w hr
  · exact cos_4 w hr
  · exact cos_5 w hr
  · exact cos_6 w hr
  · exact cos_7 w hr
  · exact cos_8 w hr
  · exact cos_9 w hr
  · exact cos_10 w hr
  · exact cos_11 w hr
  · exact cos_12 w hr
  · exact cos_13 w hr
  · exact cos_14 w hr
  · exact cos_15 w hr
theorem sine_c (k : Nat) (hk : k < 16) (w : World) (hr : Rd w) : Calls Tryd.prog 30 #[.int .i64 (k : Int)] w fun e w' => e = .returned (.int .i64 (cosI (k + 12))) ∧ w = w' := by
  obtain ⟨j, hj⟩ : ∃ j, (k + 12) % 16 = j := ⟨_, rfl⟩
  have HC := Lib.hid (cosine_c j (by omega) w hr)
  have e1 : wrap64 ((k : Int) + 12) = (k : Int) + 12 := wrapR _ (by omega) (by omega)
  have e2 : ((k : Int) + 12).tmod 16 = (j : Int) := by rw [Int.tmod_eq_emod_of_nonneg (by omega)]; omega
  have E3 : Hid (cosI j = cosI (k + 12)) := by unfold Hid cosI; rw [← hj, Nat.mod_mod]
  clear hk hr hj
  go_enter Tryd.func30, Tryd.ntmps30
  go_wp2_with fail
  try rw [e1]
  try rw [e2]
  refine (HC.out).mono ?_
  rw [E3.out]
  rintro e w' ⟨rfl, rfl⟩
  go_wp2_with fail
  go_ret
  exact ⟨rfl, rfl⟩
theorem rcos_0 (w : World) : Calls Tryd.prog 34 #[.int .i64 0] w fun e w' => e = .returned (.int .i64 65536) ∧ Below w.heap.size w w' := by
  go_enter Tryd.func34, Tryd.ntmps34
  go_wp2
  go_ret
  exact ⟨rfl, by go_grown⟩
theorem rcos_1 (w : World) : Calls Tryd.prog 34 #[.int .i64 1] w fun e w' => e = .returned (.int .i64 60547) ∧ Below w.heap.size w w' := by
  go_enter Tryd.func34, Tryd.ntmps34
  go_wp2
  go_ret
  exact ⟨rfl, by go_grown⟩
theorem rcos_2 (w : World) : Calls Tryd.prog 34 #[.int .i64 2] w fun e w' => e = .returned (.int .i64 46341) ∧ Below w.heap.size w w' := by
  go_enter Tryd.func34, Tryd.ntmps34
  go_wp2
  go_ret
  exact ⟨rfl, by go_grown⟩
theorem rcos_3 (w : World) : Calls Tryd.prog 34 #[.int .i64 3] w fun e w' => e = .returned (.int .i64 25080) ∧ Below w.heap.size w w' := by
  go_enter Tryd.func34, Tryd.ntmps34
  go_wp2
  go_ret
  exact ⟨rfl, by go_grown⟩
theorem rcos_4 (w : World) : Calls Tryd.prog 34 #[.int .i64 4] w fun e w' => e = .returned (.int .i64 0) ∧ Below w.heap.size w w' := by
  go_enter Tryd.func34, Tryd.ntmps34
  go_wp2
  go_ret
  exact ⟨rfl, by go_grown⟩
theorem rcos_5 (w : World) : Calls Tryd.prog 34 #[.int .i64 5] w fun e w' => e = .returned (.int .i64 (-25080)) ∧ Below w.heap.size w w' := by
  go_enter Tryd.func34, Tryd.ntmps34
  go_wp2
  go_ret
  exact ⟨rfl, by go_grown⟩
theorem rcos_6 (w : World) : Calls Tryd.prog 34 #[.int .i64 6] w fun e w' => e = .returned (.int .i64 (-46341)) ∧ Below w.heap.size w w' := by
  go_enter Tryd.func34, Tryd.ntmps34
  go_wp2
  go_ret
  exact ⟨rfl, by go_grown⟩
theorem rcos_7 (w : World) : Calls Tryd.prog 34 #[.int .i64 7] w fun e w' => e = .returned (.int .i64 (-60547)) ∧ Below w.heap.size w w' := by
  go_enter Tryd.func34, Tryd.ntmps34
  go_wp2
  go_ret
  exact ⟨rfl, by go_grown⟩
theorem rcos_8 (w : World) : Calls Tryd.prog 34 #[.int .i64 8] w fun e w' => e = .returned (.int .i64 (-65536)) ∧ Below w.heap.size w w' := by
  go_enter Tryd.func34, Tryd.ntmps34
  go_wp2
  go_ret
  exact ⟨rfl, by go_grown⟩
theorem rcos_9 (w : World) : Calls Tryd.prog 34 #[.int .i64 9] w fun e w' => e = .returned (.int .i64 (-60547)) ∧ Below w.heap.size w w' := by
  go_enter Tryd.func34, Tryd.ntmps34
  go_wp2
  go_ret
  exact ⟨rfl, by go_grown⟩
theorem rcos_10 (w : World) : Calls Tryd.prog 34 #[.int .i64 10] w fun e w' => e = .returned (.int .i64 (-46341)) ∧ Below w.heap.size w w' := by
  go_enter Tryd.func34, Tryd.ntmps34
  go_wp2
  go_ret
  exact ⟨rfl, by go_grown⟩
theorem rcos_11 (w : World) : Calls Tryd.prog 34 #[.int .i64 11] w fun e w' => e = .returned (.int .i64 (-25080)) ∧ Below w.heap.size w w' := by
  go_enter Tryd.func34, Tryd.ntmps34
  go_wp2
  go_ret
  exact ⟨rfl, by go_grown⟩
theorem rcos_12 (w : World) : Calls Tryd.prog 34 #[.int .i64 12] w fun e w' => e = .returned (.int .i64 0) ∧ Below w.heap.size w w' := by
  go_enter Tryd.func34, Tryd.ntmps34
  go_wp2
  go_ret
  exact ⟨rfl, by go_grown⟩
theorem rcos_13 (w : World) : Calls Tryd.prog 34 #[.int .i64 13] w fun e w' => e = .returned (.int .i64 25080) ∧ Below w.heap.size w w' := by
  go_enter Tryd.func34, Tryd.ntmps34
  go_wp2
  go_ret
  exact ⟨rfl, by go_grown⟩
theorem rcos_14 (w : World) : Calls Tryd.prog 34 #[.int .i64 14] w fun e w' => e = .returned (.int .i64 46341) ∧ Below w.heap.size w w' := by
  go_enter Tryd.func34, Tryd.ntmps34
  go_wp2
  go_ret
  exact ⟨rfl, by go_grown⟩
theorem rcos_15 (w : World) : Calls Tryd.prog 34 #[.int .i64 15] w fun e w' => e = .returned (.int .i64 60547) ∧ Below w.heap.size w w' := by
  go_enter Tryd.func34, Tryd.ntmps34
  go_wp2
  go_ret
  exact ⟨rfl, by go_grown⟩
theorem rcos_16 (w : World) : Calls Tryd.prog 34 #[.int .i64 16] w fun e w' => e = .returned (.int .i64 65536) ∧ Below w.heap.size w w' := by
  go_enter Tryd.func34, Tryd.ntmps34
  go_wp2
  go_ret
  exact ⟨rfl, by go_grown⟩
theorem rcos_17 (w : World) : Calls Tryd.prog 34 #[.int .i64 17] w fun e w' => e = .returned (.int .i64 60547) ∧ Below w.heap.size w w' := by
  go_enter Tryd.func34, Tryd.ntmps34
  go_wp2
  go_ret
  exact ⟨rfl, by go_grown⟩
theorem rcos_18 (w : World) : Calls Tryd.prog 34 #[.int .i64 18] w fun e w' => e = .returned (.int .i64 46341) ∧ Below w.heap.size w w' := by
  go_enter Tryd.func34, Tryd.ntmps34
  go_wp2
  go_ret
  exact ⟨rfl, by go_grown⟩
theorem rcos_19 (w : World) : Calls Tryd.prog 34 #[.int .i64 19] w fun e w' => e = .returned (.int .i64 25080) ∧ Below w.heap.size w w' := by
  go_enter Tryd.func34, Tryd.ntmps34
  go_wp2
  go_ret
  exact ⟨rfl, by go_grown⟩
theorem rcos_20 (w : World) : Calls Tryd.prog 34 #[.int .i64 20] w fun e w' => e = .returned (.int .i64 0) ∧ Below w.heap.size w w' := by
  go_enter Tryd.func34, Tryd.ntmps34
  go_wp2
  go_ret
  exact ⟨rfl, by go_grown⟩
theorem rcos_21 (w : World) : Calls Tryd.prog 34 #[.int .i64 21] w fun e w' => e = .returned (.int .i64 (-25080)) ∧ Below w.heap.size w w' := by
  go_enter Tryd.func34, Tryd.ntmps34
  go_wp2
  go_ret
  exact ⟨rfl, by go_grown⟩
theorem rcos_22 (w : World) : Calls Tryd.prog 34 #[.int .i64 22] w fun e w' => e = .returned (.int .i64 (-46341)) ∧ Below w.heap.size w w' := by
  go_enter Tryd.func34, Tryd.ntmps34
  go_wp2
  go_ret
  exact ⟨rfl, by go_grown⟩
theorem rcos_23 (w : World) : Calls Tryd.prog 34 #[.int .i64 23] w fun e w' => e = .returned (.int .i64 (-60547)) ∧ Below w.heap.size w w' := by
  go_enter Tryd.func34, Tryd.ntmps34
  go_wp2
  go_ret
  exact ⟨rfl, by go_grown⟩
theorem rcos_24 (w : World) : Calls Tryd.prog 34 #[.int .i64 24] w fun e w' => e = .returned (.int .i64 (-65536)) ∧ Below w.heap.size w w' := by
  go_enter Tryd.func34, Tryd.ntmps34
  go_wp2
  go_ret
  exact ⟨rfl, by go_grown⟩
theorem rcos_25 (w : World) : Calls Tryd.prog 34 #[.int .i64 25] w fun e w' => e = .returned (.int .i64 (-60547)) ∧ Below w.heap.size w w' := by
  go_enter Tryd.func34, Tryd.ntmps34
  go_wp2
  go_ret
  exact ⟨rfl, by go_grown⟩
theorem rcos_26 (w : World) : Calls Tryd.prog 34 #[.int .i64 26] w fun e w' => e = .returned (.int .i64 (-46341)) ∧ Below w.heap.size w w' := by
  go_enter Tryd.func34, Tryd.ntmps34
  go_wp2
  go_ret
  exact ⟨rfl, by go_grown⟩
theorem rcos_27 (w : World) : Calls Tryd.prog 34 #[.int .i64 27] w fun e w' => e = .returned (.int .i64 (-25080)) ∧ Below w.heap.size w w' := by
  go_enter Tryd.func34, Tryd.ntmps34
  go_wp2
  go_ret
  exact ⟨rfl, by go_grown⟩
theorem rcosine_c (k : Nat) (hk : k < 28) (w : World) : Calls Tryd.prog 34 #[.int .i64 (k : Int)] w fun e w' => e = .returned (.int .i64 (cosI k)) ∧ Below w.heap.size w w' := by
  rcases (by omega : k = 0 ∨ k = 1 ∨ k = 2 ∨ k = 3 ∨ k = 4 ∨ k = 5 ∨ k = 6 ∨ k = 7 ∨ k = 8 ∨ k = 9 ∨ k = 10 ∨ k = 11 ∨ k = 12 ∨ k = 13 ∨ k = 14 ∨ k = 15 ∨ k = 16 ∨ k = 17 ∨ k = 18 ∨ k = 19 ∨ k = 20 ∨ k = 21 ∨ k = 22 ∨ k = 23 ∨ k = 24 ∨ k = 25 ∨ k = 26 ∨ k = 27) with rfl | rfl | rfl | rfl | rfl | rfl | rfl | rfl | rfl | rfl | rfl | rfl | rfl | rfl | rfl | rfl | rfl | rfl | rfl | rfl | rfl | rfl | rfl | rfl | rfl | rfl | rfl | rfl
  · exact rcos_0 w
  · exact rcos_1 w
  · exact rcos_2 w
  · exact rcos_3 w
  · exact rcos_4 w
  · exact rcos_5 w
  · exact rcos_6 w
  · exact rcos_7 w
  · exact rcos_8 w
  · exact rcos_9 w
  · exact rcos_10 w
  · exact rcos_11 w
  · exact rcos_12 w
  · exact rcos_13 w
  · exact rcos_14 w
  · exact rcos_15 w
  · exact rcos_16 w
  · exact rcos_17 w
  · exact rcos_18 w
  · exact rcos_19 w
  · exact rcos_20 w
  · exact rcos_21 w
  · exact rcos_22 w
  · exact rcos_23 w
  · exact rcos_24 w
  · exact rcos_25 w
  · exact rcos_26 w
  · exact rcos_27 w
end Go.Proofs.YtdidbejinfkhbaaDoor
