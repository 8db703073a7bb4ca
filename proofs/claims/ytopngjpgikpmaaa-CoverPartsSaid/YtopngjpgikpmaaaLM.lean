/- The walk of the statement CoverMasks. -/
import Derived.Test.YtopngjpgikpmaaaLI
namespace Go.Proofs.Ytopngjpgikpmaaa
open Go.RowKit
theorem VRow.open {w : World} {v : Value} {xs : List Value} (h : VRow w v xs) (h0 : 0 < xs.length) : ∃ b o c, v = .slice (some ⟨b, o, none⟩) xs.length c ∧ b < w.heap.size ∧ ∀ i x, xs[i]? = some x → w.cell? ⟨b, o + i, none⟩ = some x := by
  rcases h with ⟨_, rfl⟩ | ⟨_, _, _, rfl⟩ | h
  · simp at h0
  · simp at h0
  · exact h
theorem maskI_at (P : List (List Pt)) (rule : Int) (b : Bx) (a k : Nat) (ha : a < downI b) (hk : k < acrossI b) : (maskI P rule b)[a * acrossI b + k]? = some (countI P rule (b.x0 + (k : Int)) (b.y0 + (a : Int))) := by
  obtain ⟨d1, d2⟩ := div_add_mul a k (acrossI b) hk
  have hlt : a * acrossI b + k < acrossI b * downI b := by
    have := Nat.mul_le_mul_right (acrossI b) (show a + 1 ≤ downI b from ha)
    rw [Nat.succ_mul, Nat.mul_comm (downI b)] at this
    omega
  unfold maskI
  rw [List.getElem?_map, List.getElem?_range hlt]
  simp only [Option.map_some]
  rw [d1, d2]
theorem maskI_le (P : List (List Pt)) (rule : Int) (b : Bx) : ∀ m ∈ maskI P rule b, m ≤ 16 := fun m hm => by
  unfold maskI at hm
  obtain ⟨k, _, rfl⟩ := List.mem_map.1 hm
  exact count_le _ _ _ _
theorem bytes_length (M : List Nat) : (bytesL M).length = M.length := by unfold bytesL; rw [List.length_map]
set_option maxHeartbeats 4000000 in
set_option maxRecDepth 100000 in
theorem masks_other (s : Value) (S : List (Value × List Pt)) (rule x0 y0 x1 y1 : Int) (w : World) (row : PolyR w s S) (h1 : (rule != 1) = true) (h2 : (rule != 2) = true) :
    Calls Try.prog 3 #[s, .int .i64 rule, .agg #[.int .i64 x0, .int .i64 y0, .int .i64 x1, .int .i64 y1]] w fun e w' => e = .returned (.bool true) ∧ Below w.heap.size w w' := by
  have hmo : maskO (S.map Prod.snd) rule ⟨x0, y0, x1, y1⟩ = (30, []) := by
    unfold maskO ruleB
    simp at h1 h2
    simp [h1, h2]
  have HSM : Hid (∀ W, Below w.heap.size w W → Calls Try.prog 9 #[s, .agg #[.int .i64 x0, .int .i64 y0, .int .i64 x1, .int .i64 y1]] W fun e w' => SmallP S ⟨x0, y0, x1, y1⟩ W e w') := fun W hb => small_c s S x0 y0 x1 y1 W (row.on hb)
  have HRF : Hid (Small S ⟨x0, y0, x1, y1⟩ → ∀ W, Below w.heap.size w W → Calls Try.prog 11 #[s] W fun e w' => RefsP (S.map Prod.snd) W e w') := fun hs W hb => refs_p s S W (row.on hb) (by have := hs.1; omega) (fun x hx => by have := hs.2.1 x hx; omega)
  have HMK : Hid (Small S ⟨x0, y0, x1, y1⟩ → ∀ W, Below w.heap.size w W → Calls Try.prog 12 #[s, .int .i64 rule, .agg #[.int .i64 x0, .int .i64 y0, .int .i64 x1, .int .i64 y1]] W fun e w' => MaskP W (maskO (S.map Prod.snd) rule ⟨x0, y0, x1, y1⟩) e w') := fun hs W hb => mask_c s S rule ⟨x0, y0, x1, y1⟩ W (row.on hb) (by have := hs.1; omega) (fun x hx => by have := hs.2.1 x hx; omega)
  have HAW := Lib.hid awake_c
  obtain ⟨ao, c, rfl⟩ := row.shape
  obtain ⟨n, hn⟩ : ∃ n, S.length = n := ⟨_, rfl⟩
  have HN := Lib.hid hn
  rw [hn] at HSM HRF HMK ⊢
  clear row hn
  go_enter Try.func3, Try.ntmps3
  go_wp2_with fail
  obtain ⟨w1, hw1⟩ : ∃ X, w.alloc (.cells #[.int .i64 x0, .int .i64 y0, .int .i64 x1, .int .i64 y1] 24) = X := ⟨_, rfl⟩
  have S1 : Hid (Below w.heap.size w w1 ∧ Blk w1 w.heap.size 24 (four ⟨x0, y0, x1, y1⟩)) := by rw [← hw1]; exact ⟨(Below.refl _ _).alloc (Nat.le_refl _) _, Blk.new _ _ _⟩
  rw [hw1]
  clear hw1
  refine (HSM.out _ S1.out.1).mono ?_
  rintro e w2 ⟨r, rfl, hr, hb⟩
  have S2 : Hid (Below w.heap.size w w2 ∧ Blk w2 w.heap.size 24 (four ⟨x0, y0, x1, y1⟩)) := ⟨S1.out.1.trans (hb.mono S1.out.1.size), S1.out.2.grow hb⟩
  clear hb S1
  cases r
  · go_wp2_with fail
    refine (HAW.out _).mono ?_
    rintro e w3 ⟨rfl, hb⟩
    have B3 : Hid (Below w.heap.size w w3) := S2.out.1.trans (hb.mono S2.out.1.size)
    clear hb
    go_wp2_with fail
    go_ret
    exact ⟨rfl, B3.out⟩
  have hsm := hr rfl
  have HS := Lib.hid hsm
  clear hr hsm
  go_wp2_with fail
  refine (HRF.out HS.out _ S2.out.1).mono ?_
  rintro e w3 ⟨u, S', rfl, hp, he, hb⟩
  have S3 : Hid (Below w.heap.size w w3 ∧ Blk w3 w.heap.size 24 (four ⟨x0, y0, x1, y1⟩) ∧ PolyR w3 u S' ∧ S'.map Prod.snd = S.map Prod.snd) := ⟨S2.out.1.trans (hb.mono S2.out.1.size), S2.out.2.grow hb, hp, he⟩
  have a0 := S3.out.2.1.b0
  have a1 := S3.out.2.1.b1
  have a2 := S3.out.2.1.b2
  have a3 := S3.out.2.1.b3
  clear hb S2 hp he
  go_wp2_with fail
  refine (HMK.out HS.out _ S3.out.1).mono ?_
  rintro e w4 ⟨v, rfl, hv, hb⟩
  have S4 : Hid (Below w.heap.size w w4 ∧ Blk w4 w.heap.size 24 (four ⟨x0, y0, x1, y1⟩) ∧ PolyR w4 u S' ∧ S'.map Prod.snd = S.map Prod.snd) := ⟨S3.out.1.trans (hb.mono S3.out.1.size), S3.out.2.1.grow hb, S3.out.2.2.1.on hb, S3.out.2.2.2⟩
  have HV := Lib.hid hv
  clear hb S3 hv a0 a1 a2 a3
  have a0 := S4.out.2.1.b0
  have a1 := S4.out.2.1.b1
  have a2 := S4.out.2.1.b2
  have a3 := S4.out.2.1.b3
  rw [hmo] at HV
  obtain ⟨ma, mc, rfl⟩ := HV.out.shape
  simp only [bytes_length, List.length_nil, hmo]
  go_wp2_with fail
  refine (HAW.out _).mono ?_
  rintro e w6 ⟨rfl, hb⟩
  have B6 : Hid (Below w.heap.size w w6) := S4.out.1.trans (hb.mono S4.out.1.size)
  clear hb
  go_wp2_with fail
  go_ret
  exact ⟨rfl, B6.out⟩
set_option maxHeartbeats 16000000 in
set_option maxRecDepth 100000 in
theorem masks_1 (s : Value) (S : List (Value × List Pt)) (x0 y0 x1 y1 : Int) (w : World) (row : PolyR w s S) :
    Calls Try.prog 3 #[s, .int .i64 1, .agg #[.int .i64 x0, .int .i64 y0, .int .i64 x1, .int .i64 y1]] w fun e w' => e = .returned (.bool true) ∧ Below w.heap.size w w' := by
  have HWN := Lib.hid (fun w => window_c x0 y0 x1 y1 w)
  obtain ⟨rw0, hrw⟩ : ∃ r, winB ⟨x0, y0, x1, y1⟩ = r := ⟨_, rfl⟩
  have HRW := Lib.hid hrw
  rw [hrw] at HWN
  clear hrw
  have HSM : Hid (∀ W, Below w.heap.size w W → Calls Try.prog 9 #[s, .agg #[.int .i64 x0, .int .i64 y0, .int .i64 x1, .int .i64 y1]] W fun e w' => SmallP S ⟨x0, y0, x1, y1⟩ W e w') := fun W hb => small_c s S x0 y0 x1 y1 W (row.on hb)
  have HRF : Hid (Small S ⟨x0, y0, x1, y1⟩ → ∀ W, Below w.heap.size w W → Calls Try.prog 11 #[s] W fun e w' => RefsP (S.map Prod.snd) W e w') := fun hs W hb => refs_p s S W (row.on hb) (by have := hs.1; omega) (fun x hx => by have := hs.2.1 x hx; omega)
  have HMK : Hid (Small S ⟨x0, y0, x1, y1⟩ → ∀ W, Below w.heap.size w W → Calls Try.prog 12 #[s, .int .i64 1, .agg #[.int .i64 x0, .int .i64 y0, .int .i64 x1, .int .i64 y1]] W fun e w' => MaskP W (maskO (S.map Prod.snd) 1 ⟨x0, y0, x1, y1⟩) e w') := fun hs W hb => mask_c s S 1 ⟨x0, y0, x1, y1⟩ W (row.on hb) (by have := hs.1; omega) (fun x hx => by have := hs.2.1 x hx; omega)
  have HAW := Lib.hid awake_c
  obtain ⟨ao, c, rfl⟩ := row.shape
  obtain ⟨n, hn⟩ : ∃ n, S.length = n := ⟨_, rfl⟩
  have HN := Lib.hid hn
  rw [hn] at HSM HRF HMK ⊢
  clear row hn
  go_enter Try.func3, Try.ntmps3
  go_wp2_with fail
  obtain ⟨w1, hw1⟩ : ∃ X, w.alloc (.cells #[.int .i64 x0, .int .i64 y0, .int .i64 x1, .int .i64 y1] 24) = X := ⟨_, rfl⟩
  have S1 : Hid (Below w.heap.size w w1 ∧ Blk w1 w.heap.size 24 (four ⟨x0, y0, x1, y1⟩)) := by rw [← hw1]; exact ⟨(Below.refl _ _).alloc (Nat.le_refl _) _, Blk.new _ _ _⟩
  rw [hw1]
  clear hw1
  refine (HSM.out _ S1.out.1).mono ?_
  rintro e w2 ⟨r, rfl, hr, hb⟩
  have S2 : Hid (Below w.heap.size w w2 ∧ Blk w2 w.heap.size 24 (four ⟨x0, y0, x1, y1⟩)) := ⟨S1.out.1.trans (hb.mono S1.out.1.size), S1.out.2.grow hb⟩
  clear hb S1
  cases r
  · go_wp2_with fail
    refine (HAW.out _).mono ?_
    rintro e w3 ⟨rfl, hb⟩
    have B3 : Hid (Below w.heap.size w w3) := S2.out.1.trans (hb.mono S2.out.1.size)
    clear hb
    go_wp2_with fail
    go_ret
    exact ⟨rfl, B3.out⟩
  have hsm := hr rfl
  have HS := Lib.hid hsm
  clear hr hsm
  go_wp2_with fail
  refine (HRF.out HS.out _ S2.out.1).mono ?_
  rintro e w3 ⟨u, S', rfl, hp, he, hb⟩
  have S3 : Hid (Below w.heap.size w w3 ∧ Blk w3 w.heap.size 24 (four ⟨x0, y0, x1, y1⟩) ∧ PolyR w3 u S' ∧ S'.map Prod.snd = S.map Prod.snd) := ⟨S2.out.1.trans (hb.mono S2.out.1.size), S2.out.2.grow hb, hp, he⟩
  have a0 := S3.out.2.1.b0
  have a1 := S3.out.2.1.b1
  have a2 := S3.out.2.1.b2
  have a3 := S3.out.2.1.b3
  clear hb S2 hp he
  go_wp2_with fail
  refine (HMK.out HS.out _ S3.out.1).mono ?_
  rintro e w4 ⟨v, rfl, hv, hb⟩
  have S4 : Hid (Below w.heap.size w w4 ∧ Blk w4 w.heap.size 24 (four ⟨x0, y0, x1, y1⟩) ∧ PolyR w4 u S' ∧ S'.map Prod.snd = S.map Prod.snd) := ⟨S3.out.1.trans (hb.mono S3.out.1.size), S3.out.2.1.grow hb, S3.out.2.2.1.on hb, S3.out.2.2.2⟩
  have HV := Lib.hid hv
  clear hb S3 hv a0 a1 a2 a3
  have a0 := S4.out.2.1.b0
  have a1 := S4.out.2.1.b1
  have a2 := S4.out.2.1.b2
  have a3 := S4.out.2.1.b3
  cases rw0
  · have hmo : maskO (S.map Prod.snd) 1 ⟨x0, y0, x1, y1⟩ = (30, []) := by
      unfold maskO
      rw [HRW.out]
      simp
    rw [hmo] at HV
    obtain ⟨ma, mc, rfl⟩ := HV.out.shape
    simp only [bytes_length, List.length_nil, hmo]
    go_wp2_with fail
    refine (HWN.out _).mono ?_
    rintro e w5 ⟨rfl, rfl⟩
    go_wp2_with fail
    refine (HAW.out _).mono ?_
    rintro e w6 ⟨rfl, hb⟩
    have B6 : Hid (Below w.heap.size w w6) := S4.out.1.trans (hb.mono S4.out.1.size)
    clear hb
    go_wp2_with fail
    go_ret
    exact ⟨rfl, B6.out⟩
  have HRA : Hid (∀ W, Below w4.heap.size w4 W → Calls Try.prog 14 #[u] W fun e w' => e = .returned (.bool (allR (S.map Prod.snd))) ∧ Below W.heap.size W w') := fun W hb => by
    have h1 := same_pts S4.out.2.2.2 (fun l => l.length ≤ 20) HS.out.2.1
    have := refAll_c u S' W (S4.out.2.2.1.on hb) (by have := HS.out.1; omega) (fun x hx => by have := h1.2 x hx; omega)
    rwa [S4.out.2.2.2] at this
  obtain ⟨ra, hra⟩ : ∃ r, allR (S.map Prod.snd) = r := ⟨_, rfl⟩
  rw [hra] at HRA
  have HRAE := Lib.hid hra
  clear hra
  cases ra
  · have hmo : maskO (S.map Prod.snd) 1 ⟨x0, y0, x1, y1⟩ = (30, []) := by
      unfold maskO
      rw [HRAE.out]
      simp
    rw [hmo] at HV
    obtain ⟨ma, mc, rfl⟩ := HV.out.shape
    simp only [bytes_length, List.length_nil, hmo]
    go_wp2_with fail
    refine (HWN.out _).mono ?_
    rintro e w5 ⟨rfl, rfl⟩
    go_wp2_with fail
    refine (HRA.out _ (Below.refl _ _)).mono ?_
    rintro e w5 ⟨rfl, hb⟩
    have B5 : Hid (Below w.heap.size w w5) := S4.out.1.trans (hb.mono S4.out.1.size)
    clear hb
    go_wp2_with fail
    refine (HAW.out _).mono ?_
    rintro e w6 ⟨rfl, hb⟩
    have B6 : Hid (Below w.heap.size w w6) := B5.out.trans (hb.mono B5.out.size)
    clear hb
    go_wp2_with fail
    go_ret
    exact ⟨rfl, B6.out⟩
  have hmo : maskO (S.map Prod.snd) 1 ⟨x0, y0, x1, y1⟩ = (0, maskI (S.map Prod.snd) 1 ⟨x0, y0, x1, y1⟩) := by
    unfold maskO
    rw [HRAE.out, HRW.out]
    rfl
  have hwb := (winB_iff ⟨x0, y0, x1, y1⟩).1 HRW.out
  have hprod := HS.out.2.2 HRW.out
  have hA : ((acrossI ⟨x0, y0, x1, y1⟩ : Nat) : Int) = x1 - x0 := by unfold acrossI; simp only at hwb ⊢; omega
  have hD : ((downI ⟨x0, y0, x1, y1⟩ : Nat) : Int) = y1 - y0 := by unfold downI; simp only at hwb ⊢; omega
  have hml := maskI_length (S.map Prod.snd) 1 ⟨x0, y0, x1, y1⟩
  have hmle := maskI_le (S.map Prod.snd) 1 ⟨x0, y0, x1, y1⟩
  have hmat := maskI_at (S.map Prod.snd) 1 ⟨x0, y0, x1, y1⟩
  rw [hmo] at HV
  simp only [hmo]
  generalize acrossI ⟨x0, y0, x1, y1⟩ = A at *
  generalize downI ⟨x0, y0, x1, y1⟩ = Dn at *
  generalize maskI (S.map Prod.snd) 1 ⟨x0, y0, x1, y1⟩ = M at *
  simp only at hwb hprod hmat
  have hAD : A * Dn ≤ 40 := by
    have : ((A * Dn : Nat) : Int) ≤ 40 := by rw [Int.natCast_mul, hA, hD]; exact hprod
    exact Int.ofNat_le.1 this
  have hA1 : 1 ≤ A := by omega
  have hD1 : 1 ≤ Dn := by omega
  have hNM0 : 0 < (bytesL M).length := by rw [bytes_length, hml]; exact Nat.mul_pos hA1 hD1
  obtain ⟨mb, mo, mc, rfl, hmb, hmc⟩ := HV.out.open hNM0
  rw [bytes_length, hml]
  obtain ⟨NM, hNM⟩ : ∃ x, A * Dn = x := ⟨_, rfl⟩
  have e50 : (x1 - x0) * (y1 - y0) = (NM : Int) := by rw [← hA, ← hD, ← Int.natCast_mul, hNM]
  rw [hNM] at hAD hml ⊢
  obtain ⟨hw1, hw2, hw3, hw4, hw5, hw6, hw7, hw8⟩ := hwb
  have hx1 : x1 = x0 + (A : Int) := by omega
  have hy1 : y1 = y0 + (Dn : Int) := by omega
  subst hx1 hy1
  have hA40 : A ≤ 256 := by omega
  have hD40 : Dn ≤ 256 := by omega
  have HMC : Hid (∀ (i m : Nat), M[i]? = some m → w4.cell? ⟨mb, mo + i, none⟩ = some (.int .u8 (m : Int))) := fun i m h => hmc i _ (by show (bytesL M)[i]? = _; unfold bytesL; rw [List.getElem?_map, h]; rfl)
  have HMB := Lib.hid hmb; have HML := Lib.hid hml; have HMLE := Lib.hid hmle; have HMAT := Lib.hid hmat; have HAD := Lib.hid hAD; have HNM := Lib.hid hNM; have HX := Lib.hid (And.intro hw3 hw4); have HY := Lib.hid (And.intro hw5 hw6); have HA4 := Lib.hid hA40; have HD4 := Lib.hid hD40
  have HVV : Hid (VRow w4 (.slice (some ⟨mb, mo, none⟩) NM mc) (bytesL M)) := by have := HV.out; rwa [bytes_length, hml] at this
  have eA1 : IntKind.i64.wrap (x0 + (A : Int) - x0) = (A : Int) := by rw [wrap_is, wrapR _ (by omega) (by omega)]; omega
  have eD1 : IntKind.i64.wrap (y0 + (Dn : Int) - y0) = (Dn : Int) := by rw [wrap_is, wrapR _ (by omega) (by omega)]; omega
  have hNMi : (A : Int) * (Dn : Int) = (NM : Int) := by rw [← Int.natCast_mul, hNM]
  have eN1 : wrap64 ((A : Int) * (Dn : Int)) = (NM : Int) := by rw [hNMi]; exact wrapR _ (by omega) (by omega)
  have hneN : ((NM : Int) != wrap64 ((x0 + (A : Int) - x0) * (y0 + (Dn : Int) - y0))) = false := by
    rw [show x0 + (A : Int) - x0 = (A : Int) by omega, show y0 + (Dn : Int) - y0 = (Dn : Int) by omega, eN1]
    simp
  clear hw1 hw2 hw3 hw4 hw5 hw6 hw7 hw8 hmb hmc hml hmle hmat hAD hprod hA hD hA1 hD1 hNM0 hmo HV e50 hNM eA1 eD1
  go_wp2_with fail
  refine (HWN.out _).mono ?_
  rintro e w5 ⟨rfl, rfl⟩
  go_wp2_with fail
  refine (HRA.out _ (Below.refl _ _)).mono ?_
  rintro e w5 ⟨rfl, hb⟩
  have S5 : Hid (Below w.heap.size w w5 ∧ Blk w5 w.heap.size 24 (four ⟨x0, y0, x0 + (A : Int), y0 + (Dn : Int)⟩) ∧ PolyR w5 u S' ∧ Below w4.heap.size w4 w5) := ⟨S4.out.1.trans (hb.mono S4.out.1.size), S4.out.2.1.grow hb, S4.out.2.2.1.on hb, hb⟩
  clear hb a0 a1 a2 a3
  have a0 := S5.out.2.1.b0
  have a1 := S5.out.2.1.b1
  have a2 := S5.out.2.1.b2
  have a3 := S5.out.2.1.b3
  simp only at a0 a1 a2 a3
  go_wp2_with fail
  clear a0 a1 a2 a3 eN1 hneN hNMi
  go_loopw [10, 11, 12] (fun s i p wr => ∃ (a ia T : Nat), a ≤ Dn ∧ s = .int .i64 (T : Int) ∧ i = .int .i64 (ia : Int) ∧ p = .int .i64 (y0 + (a : Int)) ∧ Hid (ia = a * A ∧ sumI (M.take ia) = T ∧ Below w5.heap.size w5 wr)) (fun _ _ p _ => Dn - (intOf p - y0).toNat)
  case atStart => exact ⟨0, 0, 0, by omega, rfl, rfl, by simp, by simp, rfl, Below.refl _ _⟩
  case round =>
    obtain ⟨a, ia, T, ha, rfl, rfl, rfl, hw⟩ := hrel
    obtain ⟨w6, rfl⟩ : ∃ x, x = wr := ⟨_, rfl⟩
    have K6 := S5.out.2.1.grow hw.out.2.2
    have a0 := K6.b0
    have a1 := K6.b1
    have a2 := K6.b2
    have a3 := K6.b3
    simp only at a0 a1 a2 a3
    obtain ⟨hy0a, hy0b⟩ := HY.out
    obtain ⟨hx0a, hx0b⟩ := HX.out
    have hA4 := HA4.out
    have hD4 := HD4.out
    by_cases hlt : a < Dn
    · have hd : decide (y0 + (a : Int) < y0 + (Dn : Int)) = true := by simp; omega
      have hd' : decide ((a : Int) < (Dn : Int)) = true := by simp; omega
      have HW6 := Lib.hid hw.out
      clear K6 hw
      go_wp2_with fail
      clear a0 a1 a2 a3
      go_loopw [10, 11, 13] (fun s i p wr => ∃ (b ib T : Nat), b ≤ A ∧ s = .int .i64 (T : Int) ∧ i = .int .i64 (ib : Int) ∧ p = .int .i64 (x0 + (b : Int)) ∧ Hid (ib = a * A + b ∧ sumI (M.take ib) = T ∧ Below w5.heap.size w5 wr)) (fun _ _ p _ => A - (intOf p - x0).toNat)
      case atStart => exact ⟨0, ia, T, by omega, rfl, rfl, by simp, HW6.out.1, HW6.out.2.1, HW6.out.2.2⟩
      case round =>
        obtain ⟨b, ib, T', hb, rfl, rfl, rfl, hv⟩ := hrel
        have K7 := S5.out.2.1.grow hv.out.2.2
        have a0 := K7.b0
        have a1 := K7.b1
        have a2 := K7.b2
        have a3 := K7.b3
        simp only at a0 a1 a2 a3
        by_cases hlt2 : b < A
        · have hd2 : decide (x0 + (b : Int) < x0 + (A : Int)) = true := by simp; omega
          have hd2' : decide ((b : Int) < (A : Int)) = true := by simp; omega
          have hq := HMAT.out a b hlt hlt2
          rw [← hv.out.1] at hq
          obtain ⟨q, hqq⟩ : ∃ q, countI (S.map Prod.snd) 1 (x0 + (b : Int)) (y0 + (a : Int)) = q := ⟨_, rfl⟩
          have HC : Hid (∀ W, Below w5.heap.size w5 W → Calls Try.prog 15 #[u, .int .i64 1, .int .i64 (x0 + (b : Int)), .int .i64 (y0 + (a : Int))] W fun e w' => e = .returned (.int .i64 (q : Nat)) ∧ Below W.heap.size W w') := fun W hW => by
            have h3 := same_pts S4.out.2.2.2 (fun l => l.length ≤ 20) HS.out.2.1
            have := count_c u S' 1 (x0 + (b : Int)) (y0 + (a : Int)) W (S5.out.2.2.1.on hW) (by have := HS.out.1; omega) (fun x hx => by have := h3.2 x hx; omega) (allR_of (by rw [S4.out.2.2.2]; exact HRAE.out)) (by omega) (by omega)
            rw [S4.out.2.2.2, hqq] at this
            exact this
          rw [hqq] at hq
          have hib : ib < NM := by rw [← HML.out]; exact (List.getElem?_eq_some_iff.1 hq).1
          have hib40 : ib ≤ 40 := by have := HAD.out; omega
          have hq16 : q ≤ 16 := HMLE.out q (List.mem_of_getElem? hq)
          have hTn := sumI_take M ib q hq
          rw [hv.out.2.1] at hTn
          have hTb := sumI_bound (M.take ib) (fun m hm => Nat.le_trans (HMLE.out m (List.mem_of_mem_take hm)) (by decide))
          rw [hv.out.2.1, List.length_take] at hTb
          have hT2 : T' ≤ 255 * 40 := Nat.le_trans hTb (Nat.mul_le_mul_left _ (Nat.le_trans (Nat.min_le_left _ _) hib40))
          have HCE : Hid (∀ W, Below w5.heap.size w5 W → W.cell? ⟨mb, mo + ib, none⟩ = some (.int .u8 (q : Int))) := fun W hW => by
            rw [cell_below (S5.out.2.2.2.trans (hW.mono S5.out.2.2.2.size)) HMB.out]
            exact HMC.out ib q hq
          have HTN := Lib.hid hTn; have HIB := Lib.hid hv.out.1; have HBW := Lib.hid hv.out.2.2
          have hne : ((q : Int) != (q : Int)) = false := by simp
          have e99 : IntKind.i64.wrap (q : Int) = (q : Int) := by rw [wrap_is]; exact wrapR _ (by omega) (by omega)
          clear hq hqq K7 hTn hTb hv
          go_wp2_with fail
          refine wp_region_quiet (C := Out wr) (by kernel_rfl) (by kernel_rfl) ⟨rfl, rfl, rfl, Nat.le_refl _, fun _ _ => rfl⟩ ?_
          refine BigFrame.wpQuiet_want rfl (fun K hK => ?_)
          refine quiet_val (.slice (some ⟨mb, mo, none⟩) NM mc) (fun w' hw' => by go_simp) (hK _ ?_)
          clear hK K
          simp only [Act.put, List.setIfInBounds_toArray, List.set_cons_zero, List.set_cons_succ]
          refine BigFrame.wpQuiet_want rfl (fun K hK => ?_)
          refine quiet_val (.int .i64 (ib : Int)) (fun w' hw' => by go_simp) (hK _ ?_)
          clear hK K
          simp only [Act.put, List.setIfInBounds_toArray, List.set_cons_zero, List.set_cons_succ]
          refine BigFrame.wpQuiet_want rfl (fun K hK => ?_)
          refine quiet_val (.pointer (some ⟨mb, mo + ib, none⟩)) (fun w' hw' => by go_simp) (hK _ ?_)
          clear hK K
          simp only [Act.put, List.setIfInBounds_toArray, List.set_cons_zero, List.set_cons_succ]
          refine BigFrame.wpQuiet_want rfl (fun K hK => ?_)
          refine quiet_val (.int .u8 (q : Int)) (fun w' hw' => by have c0 := HCE.out w' (HBW.out.trans (hw'.mono HBW.out.size)); go_simp) (hK _ ?_)
          clear hK K
          simp only [Act.put, List.setIfInBounds_toArray, List.set_cons_zero, List.set_cons_succ]
          refine BigFrame.wpQuiet_want rfl (fun K hK => ?_)
          refine quiet_val (.int .i64 (q : Int)) (fun w' hw' => by go_simp) (hK _ ?_)
          clear hK K
          simp only [Act.put, List.setIfInBounds_toArray, List.set_cons_zero, List.set_cons_succ]
          refine BigFrame.wpQuiet_want rfl (fun K hK => ?_)
          refine quiet_val (u) (fun w' hw' => by go_simp) (hK _ ?_)
          clear hK K
          simp only [Act.put, List.setIfInBounds_toArray, List.set_cons_zero, List.set_cons_succ]
          refine BigFrame.wpQuiet_want rfl (fun K hK => ?_)
          refine quiet_val (.int .i64 1) (fun w' hw' => by go_simp) (hK _ ?_)
          clear hK K
          simp only [Act.put, List.setIfInBounds_toArray, List.set_cons_zero, List.set_cons_succ]
          refine BigFrame.wpQuiet_want rfl (fun K hK => ?_)
          refine quiet_val (.int .i64 (x0 + (b : Int))) (fun w' hw' => by go_simp) (hK _ ?_)
          clear hK K
          simp only [Act.put, List.setIfInBounds_toArray, List.set_cons_zero, List.set_cons_succ]
          refine BigFrame.wpQuiet_want rfl (fun K hK => ?_)
          refine quiet_val (.int .i64 (y0 + (a : Int))) (fun w' hw' => by go_simp) (hK _ ?_)
          clear hK K
          simp only [Act.put, List.setIfInBounds_toArray, List.set_cons_zero, List.set_cons_succ]
          refine BigFrame.wpQuiet_want rfl (fun K hK => ?_)
          refine quiet_call 15 #[u, .int .i64 1, .int .i64 (x0 + (b : Int)), .int .i64 (y0 + (a : Int))] (.int .i64 (q : Int)) (fun w' _ => by go_simp) (fun w' hw' => Calls.out hw' (HC.out w' (HBW.out.trans (hw'.mono HBW.out.size)))) (hK _ ?_)
          clear hK K
          simp only [Act.put, List.setIfInBounds_toArray, List.set_cons_zero, List.set_cons_succ]
          refine BigFrame.wpQuiet_want rfl (fun K hK => ?_)
          refine quiet_val (.bool false) (fun w' hw' => by go_simp) (hK _ ?_)
          clear hK K
          simp only [Act.put, List.setIfInBounds_toArray, List.set_cons_zero, List.set_cons_succ]
          refine wpQuiet_nil ?_
          intro w8 hb8
          have B8 : Hid (Below w5.heap.size w5 w8) := HBW.out.trans (hb8.mono HBW.out.size)
          have c0 := HCE.out w8 B8.out
          clear hb8 a0 a1 a2 a3
          go_wp2_with fail
          exact ⟨⟨b + 1, ib + 1, T' + q, by omega, by go_num, by go_num, by go_num, by have := HIB.out; omega, HTN.out, B8.out⟩, by simp [intOf]; omega⟩
        · have hd2 : decide (x0 + (b : Int) < x0 + (A : Int)) = false := by simp; omega
          have hd2' : decide ((b : Int) < (A : Int)) = false := by simp; omega
          have F7 : Hid (ib = (a + 1) * A ∧ sumI (M.take ib) = T' ∧ Below w5.heap.size w5 wr) := ⟨by rw [hv.out.1, Nat.succ_mul]; omega, hv.out.2⟩
          clear K7 hv
          go_wp2_with fail
          exact ⟨⟨a + 1, ib, T', by omega, by go_num, by go_num, by go_num, F7.out⟩, by simp [intOf]; omega⟩
    · have hd : decide (y0 + (a : Int) < y0 + (Dn : Int)) = false := by simp; omega
      have hd' : decide ((a : Int) < (Dn : Int)) = false := by simp; omega
      have hTT : sumI M = T := by
        have h1 := hw.out.2.1
        rw [List.take_of_length_le (by rw [HML.out, hw.out.1, ← HNM.out, show a = Dn by omega, Nat.mul_comm]; exact Nat.le_refl _)] at h1
        exact h1
      have HAR : Hid (∀ W, Below w5.heap.size w5 W → Calls Try.prog 16 #[.slice (some ⟨mb, mo, none⟩) NM mc] W fun e w' => e = .returned (.int .i64 (T : Nat)) ∧ W = w') := fun W hW => by
        have := area_c (.slice (some ⟨mb, mo, none⟩) NM mc) M W (HVV.out.on (S5.out.2.2.2.trans (hW.mono S5.out.2.2.2.size))) (by have := HML.out; have := HAD.out; omega) (fun m hm => Nat.le_trans (HMLE.out m hm) (by decide))
        rwa [hTT] at this
      have HB6 : Hid (Below w5.heap.size w5 w6) := hw.out.2.2
      have heq : ((T : Int) == (T : Int)) = true := by simp
      clear K6 hw hTT
      go_wp2_with fail
      refine (HAR.out _ HB6.out).mono ?_
      rintro e w' ⟨rfl, rfl⟩
      go_wp2_with fail
      refine (HAW.out _).mono ?_
      rintro e w9 ⟨rfl, hb9⟩
      have B9 : Hid (Below w.heap.size w w9) := (S5.out.1.trans (HB6.out.mono S5.out.1.size)).trans (hb9.mono (Nat.le_trans S5.out.1.size HB6.out.size))
      clear hb9
      go_wp2_with fail
      go_ret
      exact ⟨rfl, B9.out⟩
set_option maxHeartbeats 16000000 in
set_option maxRecDepth 100000 in
theorem masks_2 (s : Value) (S : List (Value × List Pt)) (x0 y0 x1 y1 : Int) (w : World) (row : PolyR w s S) :
    Calls Try.prog 3 #[s, .int .i64 2, .agg #[.int .i64 x0, .int .i64 y0, .int .i64 x1, .int .i64 y1]] w fun e w' => e = .returned (.bool true) ∧ Below w.heap.size w w' := by
  have HWN := Lib.hid (fun w => window_c x0 y0 x1 y1 w)
  obtain ⟨rw0, hrw⟩ : ∃ r, winB ⟨x0, y0, x1, y1⟩ = r := ⟨_, rfl⟩
  have HRW := Lib.hid hrw
  rw [hrw] at HWN
  clear hrw
  have HSM : Hid (∀ W, Below w.heap.size w W → Calls Try.prog 9 #[s, .agg #[.int .i64 x0, .int .i64 y0, .int .i64 x1, .int .i64 y1]] W fun e w' => SmallP S ⟨x0, y0, x1, y1⟩ W e w') := fun W hb => small_c s S x0 y0 x1 y1 W (row.on hb)
  have HRF : Hid (Small S ⟨x0, y0, x1, y1⟩ → ∀ W, Below w.heap.size w W → Calls Try.prog 11 #[s] W fun e w' => RefsP (S.map Prod.snd) W e w') := fun hs W hb => refs_p s S W (row.on hb) (by have := hs.1; omega) (fun x hx => by have := hs.2.1 x hx; omega)
  have HMK : Hid (Small S ⟨x0, y0, x1, y1⟩ → ∀ W, Below w.heap.size w W → Calls Try.prog 12 #[s, .int .i64 2, .agg #[.int .i64 x0, .int .i64 y0, .int .i64 x1, .int .i64 y1]] W fun e w' => MaskP W (maskO (S.map Prod.snd) 2 ⟨x0, y0, x1, y1⟩) e w') := fun hs W hb => mask_c s S 2 ⟨x0, y0, x1, y1⟩ W (row.on hb) (by have := hs.1; omega) (fun x hx => by have := hs.2.1 x hx; omega)
  have HAW := Lib.hid awake_c
  obtain ⟨ao, c, rfl⟩ := row.shape
  obtain ⟨n, hn⟩ : ∃ n, S.length = n := ⟨_, rfl⟩
  have HN := Lib.hid hn
  rw [hn] at HSM HRF HMK ⊢
  clear row hn
  go_enter Try.func3, Try.ntmps3
  go_wp2_with fail
  obtain ⟨w1, hw1⟩ : ∃ X, w.alloc (.cells #[.int .i64 x0, .int .i64 y0, .int .i64 x1, .int .i64 y1] 24) = X := ⟨_, rfl⟩
  have S1 : Hid (Below w.heap.size w w1 ∧ Blk w1 w.heap.size 24 (four ⟨x0, y0, x1, y1⟩)) := by rw [← hw1]; exact ⟨(Below.refl _ _).alloc (Nat.le_refl _) _, Blk.new _ _ _⟩
  rw [hw1]
  clear hw1
  refine (HSM.out _ S1.out.1).mono ?_
  rintro e w2 ⟨r, rfl, hr, hb⟩
  have S2 : Hid (Below w.heap.size w w2 ∧ Blk w2 w.heap.size 24 (four ⟨x0, y0, x1, y1⟩)) := ⟨S1.out.1.trans (hb.mono S1.out.1.size), S1.out.2.grow hb⟩
  clear hb S1
  cases r
  · go_wp2_with fail
    refine (HAW.out _).mono ?_
    rintro e w3 ⟨rfl, hb⟩
    have B3 : Hid (Below w.heap.size w w3) := S2.out.1.trans (hb.mono S2.out.1.size)
    clear hb
    go_wp2_with fail
    go_ret
    exact ⟨rfl, B3.out⟩
  have hsm := hr rfl
  have HS := Lib.hid hsm
  clear hr hsm
  go_wp2_with fail
  refine (HRF.out HS.out _ S2.out.1).mono ?_
  rintro e w3 ⟨u, S', rfl, hp, he, hb⟩
  have S3 : Hid (Below w.heap.size w w3 ∧ Blk w3 w.heap.size 24 (four ⟨x0, y0, x1, y1⟩) ∧ PolyR w3 u S' ∧ S'.map Prod.snd = S.map Prod.snd) := ⟨S2.out.1.trans (hb.mono S2.out.1.size), S2.out.2.grow hb, hp, he⟩
  have a0 := S3.out.2.1.b0
  have a1 := S3.out.2.1.b1
  have a2 := S3.out.2.1.b2
  have a3 := S3.out.2.1.b3
  clear hb S2 hp he
  go_wp2_with fail
  refine (HMK.out HS.out _ S3.out.1).mono ?_
  rintro e w4 ⟨v, rfl, hv, hb⟩
  have S4 : Hid (Below w.heap.size w w4 ∧ Blk w4 w.heap.size 24 (four ⟨x0, y0, x1, y1⟩) ∧ PolyR w4 u S' ∧ S'.map Prod.snd = S.map Prod.snd) := ⟨S3.out.1.trans (hb.mono S3.out.1.size), S3.out.2.1.grow hb, S3.out.2.2.1.on hb, S3.out.2.2.2⟩
  have HV := Lib.hid hv
  clear hb S3 hv a0 a1 a2 a3
  have a0 := S4.out.2.1.b0
  have a1 := S4.out.2.1.b1
  have a2 := S4.out.2.1.b2
  have a3 := S4.out.2.1.b3
  cases rw0
  · have hmo : maskO (S.map Prod.snd) 2 ⟨x0, y0, x1, y1⟩ = (30, []) := by
      unfold maskO
      rw [HRW.out]
      simp
    rw [hmo] at HV
    obtain ⟨ma, mc, rfl⟩ := HV.out.shape
    simp only [bytes_length, List.length_nil, hmo]
    go_wp2_with fail
    refine (HWN.out _).mono ?_
    rintro e w5 ⟨rfl, rfl⟩
    go_wp2_with fail
    refine (HAW.out _).mono ?_
    rintro e w6 ⟨rfl, hb⟩
    have B6 : Hid (Below w.heap.size w w6) := S4.out.1.trans (hb.mono S4.out.1.size)
    clear hb
    go_wp2_with fail
    go_ret
    exact ⟨rfl, B6.out⟩
  have HRA : Hid (∀ W, Below w4.heap.size w4 W → Calls Try.prog 14 #[u] W fun e w' => e = .returned (.bool (allR (S.map Prod.snd))) ∧ Below W.heap.size W w') := fun W hb => by
    have h1 := same_pts S4.out.2.2.2 (fun l => l.length ≤ 20) HS.out.2.1
    have := refAll_c u S' W (S4.out.2.2.1.on hb) (by have := HS.out.1; omega) (fun x hx => by have := h1.2 x hx; omega)
    rwa [S4.out.2.2.2] at this
  obtain ⟨ra, hra⟩ : ∃ r, allR (S.map Prod.snd) = r := ⟨_, rfl⟩
  rw [hra] at HRA
  have HRAE := Lib.hid hra
  clear hra
  cases ra
  · have hmo : maskO (S.map Prod.snd) 2 ⟨x0, y0, x1, y1⟩ = (30, []) := by
      unfold maskO
      rw [HRAE.out]
      simp
    rw [hmo] at HV
    obtain ⟨ma, mc, rfl⟩ := HV.out.shape
    simp only [bytes_length, List.length_nil, hmo]
    go_wp2_with fail
    refine (HWN.out _).mono ?_
    rintro e w5 ⟨rfl, rfl⟩
    go_wp2_with fail
    refine (HRA.out _ (Below.refl _ _)).mono ?_
    rintro e w5 ⟨rfl, hb⟩
    have B5 : Hid (Below w.heap.size w w5) := S4.out.1.trans (hb.mono S4.out.1.size)
    clear hb
    go_wp2_with fail
    refine (HAW.out _).mono ?_
    rintro e w6 ⟨rfl, hb⟩
    have B6 : Hid (Below w.heap.size w w6) := B5.out.trans (hb.mono B5.out.size)
    clear hb
    go_wp2_with fail
    go_ret
    exact ⟨rfl, B6.out⟩
  have hmo : maskO (S.map Prod.snd) 2 ⟨x0, y0, x1, y1⟩ = (0, maskI (S.map Prod.snd) 2 ⟨x0, y0, x1, y1⟩) := by
    unfold maskO
    rw [HRAE.out, HRW.out]
    rfl
  have hwb := (winB_iff ⟨x0, y0, x1, y1⟩).1 HRW.out
  have hprod := HS.out.2.2 HRW.out
  have hA : ((acrossI ⟨x0, y0, x1, y1⟩ : Nat) : Int) = x1 - x0 := by unfold acrossI; simp only at hwb ⊢; omega
  have hD : ((downI ⟨x0, y0, x1, y1⟩ : Nat) : Int) = y1 - y0 := by unfold downI; simp only at hwb ⊢; omega
  have hml := maskI_length (S.map Prod.snd) 2 ⟨x0, y0, x1, y1⟩
  have hmle := maskI_le (S.map Prod.snd) 2 ⟨x0, y0, x1, y1⟩
  have hmat := maskI_at (S.map Prod.snd) 2 ⟨x0, y0, x1, y1⟩
  rw [hmo] at HV
  simp only [hmo]
  generalize acrossI ⟨x0, y0, x1, y1⟩ = A at *
  generalize downI ⟨x0, y0, x1, y1⟩ = Dn at *
  generalize maskI (S.map Prod.snd) 2 ⟨x0, y0, x1, y1⟩ = M at *
  simp only at hwb hprod hmat
  have hAD : A * Dn ≤ 40 := by
    have : ((A * Dn : Nat) : Int) ≤ 40 := by rw [Int.natCast_mul, hA, hD]; exact hprod
    exact Int.ofNat_le.1 this
  have hA1 : 1 ≤ A := by omega
  have hD1 : 1 ≤ Dn := by omega
  have hNM0 : 0 < (bytesL M).length := by rw [bytes_length, hml]; exact Nat.mul_pos hA1 hD1
  obtain ⟨mb, mo, mc, rfl, hmb, hmc⟩ := HV.out.open hNM0
  rw [bytes_length, hml]
  obtain ⟨NM, hNM⟩ : ∃ x, A * Dn = x := ⟨_, rfl⟩
  have e50 : (x1 - x0) * (y1 - y0) = (NM : Int) := by rw [← hA, ← hD, ← Int.natCast_mul, hNM]
  rw [hNM] at hAD hml ⊢
  obtain ⟨hw1, hw2, hw3, hw4, hw5, hw6, hw7, hw8⟩ := hwb
  have hx1 : x1 = x0 + (A : Int) := by omega
  have hy1 : y1 = y0 + (Dn : Int) := by omega
  subst hx1 hy1
  have hA40 : A ≤ 256 := by omega
  have hD40 : Dn ≤ 256 := by omega
  have HMC : Hid (∀ (i m : Nat), M[i]? = some m → w4.cell? ⟨mb, mo + i, none⟩ = some (.int .u8 (m : Int))) := fun i m h => hmc i _ (by show (bytesL M)[i]? = _; unfold bytesL; rw [List.getElem?_map, h]; rfl)
  have HMB := Lib.hid hmb; have HML := Lib.hid hml; have HMLE := Lib.hid hmle; have HMAT := Lib.hid hmat; have HAD := Lib.hid hAD; have HNM := Lib.hid hNM; have HX := Lib.hid (And.intro hw3 hw4); have HY := Lib.hid (And.intro hw5 hw6); have HA4 := Lib.hid hA40; have HD4 := Lib.hid hD40
  have HVV : Hid (VRow w4 (.slice (some ⟨mb, mo, none⟩) NM mc) (bytesL M)) := by have := HV.out; rwa [bytes_length, hml] at this
  have eA1 : IntKind.i64.wrap (x0 + (A : Int) - x0) = (A : Int) := by rw [wrap_is, wrapR _ (by omega) (by omega)]; omega
  have eD1 : IntKind.i64.wrap (y0 + (Dn : Int) - y0) = (Dn : Int) := by rw [wrap_is, wrapR _ (by omega) (by omega)]; omega
  have hNMi : (A : Int) * (Dn : Int) = (NM : Int) := by rw [← Int.natCast_mul, hNM]
  have eN1 : wrap64 ((A : Int) * (Dn : Int)) = (NM : Int) := by rw [hNMi]; exact wrapR _ (by omega) (by omega)
  have hneN : ((NM : Int) != wrap64 ((x0 + (A : Int) - x0) * (y0 + (Dn : Int) - y0))) = false := by
    rw [show x0 + (A : Int) - x0 = (A : Int) by omega, show y0 + (Dn : Int) - y0 = (Dn : Int) by omega, eN1]
    simp
  clear hw1 hw2 hw3 hw4 hw5 hw6 hw7 hw8 hmb hmc hml hmle hmat hAD hprod hA hD hA1 hD1 hNM0 hmo HV e50 hNM eA1 eD1
  go_wp2_with fail
  refine (HWN.out _).mono ?_
  rintro e w5 ⟨rfl, rfl⟩
  go_wp2_with fail
  refine (HRA.out _ (Below.refl _ _)).mono ?_
  rintro e w5 ⟨rfl, hb⟩
  have S5 : Hid (Below w.heap.size w w5 ∧ Blk w5 w.heap.size 24 (four ⟨x0, y0, x0 + (A : Int), y0 + (Dn : Int)⟩) ∧ PolyR w5 u S' ∧ Below w4.heap.size w4 w5) := ⟨S4.out.1.trans (hb.mono S4.out.1.size), S4.out.2.1.grow hb, S4.out.2.2.1.on hb, hb⟩
  clear hb a0 a1 a2 a3
  have a0 := S5.out.2.1.b0
  have a1 := S5.out.2.1.b1
  have a2 := S5.out.2.1.b2
  have a3 := S5.out.2.1.b3
  simp only at a0 a1 a2 a3
  go_wp2_with fail
  clear a0 a1 a2 a3 eN1 hneN hNMi
  go_loopw [10, 11, 12] (fun s i p wr => ∃ (a ia T : Nat), a ≤ Dn ∧ s = .int .i64 (T : Int) ∧ i = .int .i64 (ia : Int) ∧ p = .int .i64 (y0 + (a : Int)) ∧ Hid (ia = a * A ∧ sumI (M.take ia) = T ∧ Below w5.heap.size w5 wr)) (fun _ _ p _ => Dn - (intOf p - y0).toNat)
  case atStart => exact ⟨0, 0, 0, by omega, rfl, rfl, by simp, by simp, rfl, Below.refl _ _⟩
  case round =>
    obtain ⟨a, ia, T, ha, rfl, rfl, rfl, hw⟩ := hrel
    obtain ⟨w6, rfl⟩ : ∃ x, x = wr := ⟨_, rfl⟩
    have K6 := S5.out.2.1.grow hw.out.2.2
    have a0 := K6.b0
    have a1 := K6.b1
    have a2 := K6.b2
    have a3 := K6.b3
    simp only at a0 a1 a2 a3
    obtain ⟨hy0a, hy0b⟩ := HY.out
    obtain ⟨hx0a, hx0b⟩ := HX.out
    have hA4 := HA4.out
    have hD4 := HD4.out
    by_cases hlt : a < Dn
    · have hd : decide (y0 + (a : Int) < y0 + (Dn : Int)) = true := by simp; omega
      have hd' : decide ((a : Int) < (Dn : Int)) = true := by simp; omega
      have HW6 := Lib.hid hw.out
      clear K6 hw
      go_wp2_with fail
      clear a0 a1 a2 a3
      go_loopw [10, 11, 13] (fun s i p wr => ∃ (b ib T : Nat), b ≤ A ∧ s = .int .i64 (T : Int) ∧ i = .int .i64 (ib : Int) ∧ p = .int .i64 (x0 + (b : Int)) ∧ Hid (ib = a * A + b ∧ sumI (M.take ib) = T ∧ Below w5.heap.size w5 wr)) (fun _ _ p _ => A - (intOf p - x0).toNat)
      case atStart => exact ⟨0, ia, T, by omega, rfl, rfl, by simp, HW6.out.1, HW6.out.2.1, HW6.out.2.2⟩
      case round =>
        obtain ⟨b, ib, T', hb, rfl, rfl, rfl, hv⟩ := hrel
        have K7 := S5.out.2.1.grow hv.out.2.2
        have a0 := K7.b0
        have a1 := K7.b1
        have a2 := K7.b2
        have a3 := K7.b3
        simp only at a0 a1 a2 a3
        by_cases hlt2 : b < A
        · have hd2 : decide (x0 + (b : Int) < x0 + (A : Int)) = true := by simp; omega
          have hd2' : decide ((b : Int) < (A : Int)) = true := by simp; omega
          have hq := HMAT.out a b hlt hlt2
          rw [← hv.out.1] at hq
          obtain ⟨q, hqq⟩ : ∃ q, countI (S.map Prod.snd) 2 (x0 + (b : Int)) (y0 + (a : Int)) = q := ⟨_, rfl⟩
          have HC : Hid (∀ W, Below w5.heap.size w5 W → Calls Try.prog 15 #[u, .int .i64 2, .int .i64 (x0 + (b : Int)), .int .i64 (y0 + (a : Int))] W fun e w' => e = .returned (.int .i64 (q : Nat)) ∧ Below W.heap.size W w') := fun W hW => by
            have h3 := same_pts S4.out.2.2.2 (fun l => l.length ≤ 20) HS.out.2.1
            have := count_c u S' 2 (x0 + (b : Int)) (y0 + (a : Int)) W (S5.out.2.2.1.on hW) (by have := HS.out.1; omega) (fun x hx => by have := h3.2 x hx; omega) (allR_of (by rw [S4.out.2.2.2]; exact HRAE.out)) (by omega) (by omega)
            rw [S4.out.2.2.2, hqq] at this
            exact this
          rw [hqq] at hq
          have hib : ib < NM := by rw [← HML.out]; exact (List.getElem?_eq_some_iff.1 hq).1
          have hib40 : ib ≤ 40 := by have := HAD.out; omega
          have hq16 : q ≤ 16 := HMLE.out q (List.mem_of_getElem? hq)
          have hTn := sumI_take M ib q hq
          rw [hv.out.2.1] at hTn
          have hTb := sumI_bound (M.take ib) (fun m hm => Nat.le_trans (HMLE.out m (List.mem_of_mem_take hm)) (by decide))
          rw [hv.out.2.1, List.length_take] at hTb
          have hT2 : T' ≤ 255 * 40 := Nat.le_trans hTb (Nat.mul_le_mul_left _ (Nat.le_trans (Nat.min_le_left _ _) hib40))
          have HCE : Hid (∀ W, Below w5.heap.size w5 W → W.cell? ⟨mb, mo + ib, none⟩ = some (.int .u8 (q : Int))) := fun W hW => by
            rw [cell_below (S5.out.2.2.2.trans (hW.mono S5.out.2.2.2.size)) HMB.out]
            exact HMC.out ib q hq
          have HTN := Lib.hid hTn; have HIB := Lib.hid hv.out.1; have HBW := Lib.hid hv.out.2.2
          have hne : ((q : Int) != (q : Int)) = false := by simp
          have e99 : IntKind.i64.wrap (q : Int) = (q : Int) := by rw [wrap_is]; exact wrapR _ (by omega) (by omega)
          clear hq hqq K7 hTn hTb hv
          go_wp2_with fail
          refine wp_region_quiet (C := Out wr) (by kernel_rfl) (by kernel_rfl) ⟨rfl, rfl, rfl, Nat.le_refl _, fun _ _ => rfl⟩ ?_
          refine BigFrame.wpQuiet_want rfl (fun K hK => ?_)
          refine quiet_val (.slice (some ⟨mb, mo, none⟩) NM mc) (fun w' hw' => by go_simp) (hK _ ?_)
          clear hK K
          simp only [Act.put, List.setIfInBounds_toArray, List.set_cons_zero, List.set_cons_succ]
          refine BigFrame.wpQuiet_want rfl (fun K hK => ?_)
          refine quiet_val (.int .i64 (ib : Int)) (fun w' hw' => by go_simp) (hK _ ?_)
          clear hK K
          simp only [Act.put, List.setIfInBounds_toArray, List.set_cons_zero, List.set_cons_succ]
          refine BigFrame.wpQuiet_want rfl (fun K hK => ?_)
          refine quiet_val (.pointer (some ⟨mb, mo + ib, none⟩)) (fun w' hw' => by go_simp) (hK _ ?_)
          clear hK K
          simp only [Act.put, List.setIfInBounds_toArray, List.set_cons_zero, List.set_cons_succ]
          refine BigFrame.wpQuiet_want rfl (fun K hK => ?_)
          refine quiet_val (.int .u8 (q : Int)) (fun w' hw' => by have c0 := HCE.out w' (HBW.out.trans (hw'.mono HBW.out.size)); go_simp) (hK _ ?_)
          clear hK K
          simp only [Act.put, List.setIfInBounds_toArray, List.set_cons_zero, List.set_cons_succ]
          refine BigFrame.wpQuiet_want rfl (fun K hK => ?_)
          refine quiet_val (.int .i64 (q : Int)) (fun w' hw' => by go_simp) (hK _ ?_)
          clear hK K
          simp only [Act.put, List.setIfInBounds_toArray, List.set_cons_zero, List.set_cons_succ]
          refine BigFrame.wpQuiet_want rfl (fun K hK => ?_)
          refine quiet_val (u) (fun w' hw' => by go_simp) (hK _ ?_)
          clear hK K
          simp only [Act.put, List.setIfInBounds_toArray, List.set_cons_zero, List.set_cons_succ]
          refine BigFrame.wpQuiet_want rfl (fun K hK => ?_)
          refine quiet_val (.int .i64 2) (fun w' hw' => by go_simp) (hK _ ?_)
          clear hK K
          simp only [Act.put, List.setIfInBounds_toArray, List.set_cons_zero, List.set_cons_succ]
          refine BigFrame.wpQuiet_want rfl (fun K hK => ?_)
          refine quiet_val (.int .i64 (x0 + (b : Int))) (fun w' hw' => by go_simp) (hK _ ?_)
          clear hK K
          simp only [Act.put, List.setIfInBounds_toArray, List.set_cons_zero, List.set_cons_succ]
          refine BigFrame.wpQuiet_want rfl (fun K hK => ?_)
          refine quiet_val (.int .i64 (y0 + (a : Int))) (fun w' hw' => by go_simp) (hK _ ?_)
          clear hK K
          simp only [Act.put, List.setIfInBounds_toArray, List.set_cons_zero, List.set_cons_succ]
          refine BigFrame.wpQuiet_want rfl (fun K hK => ?_)
          refine quiet_call 15 #[u, .int .i64 2, .int .i64 (x0 + (b : Int)), .int .i64 (y0 + (a : Int))] (.int .i64 (q : Int)) (fun w' _ => by go_simp) (fun w' hw' => Calls.out hw' (HC.out w' (HBW.out.trans (hw'.mono HBW.out.size)))) (hK _ ?_)
          clear hK K
          simp only [Act.put, List.setIfInBounds_toArray, List.set_cons_zero, List.set_cons_succ]
          refine BigFrame.wpQuiet_want rfl (fun K hK => ?_)
          refine quiet_val (.bool false) (fun w' hw' => by go_simp) (hK _ ?_)
          clear hK K
          simp only [Act.put, List.setIfInBounds_toArray, List.set_cons_zero, List.set_cons_succ]
          refine wpQuiet_nil ?_
          intro w8 hb8
          have B8 : Hid (Below w5.heap.size w5 w8) := HBW.out.trans (hb8.mono HBW.out.size)
          have c0 := HCE.out w8 B8.out
          clear hb8 a0 a1 a2 a3
          go_wp2_with fail
          exact ⟨⟨b + 1, ib + 1, T' + q, by omega, by go_num, by go_num, by go_num, by have := HIB.out; omega, HTN.out, B8.out⟩, by simp [intOf]; omega⟩
        · have hd2 : decide (x0 + (b : Int) < x0 + (A : Int)) = false := by simp; omega
          have hd2' : decide ((b : Int) < (A : Int)) = false := by simp; omega
          have F7 : Hid (ib = (a + 1) * A ∧ sumI (M.take ib) = T' ∧ Below w5.heap.size w5 wr) := ⟨by rw [hv.out.1, Nat.succ_mul]; omega, hv.out.2⟩
          clear K7 hv
          go_wp2_with fail
          exact ⟨⟨a + 1, ib, T', by omega, by go_num, by go_num, by go_num, F7.out⟩, by simp [intOf]; omega⟩
    · have hd : decide (y0 + (a : Int) < y0 + (Dn : Int)) = false := by simp; omega
      have hd' : decide ((a : Int) < (Dn : Int)) = false := by simp; omega
      have hTT : sumI M = T := by
        have h1 := hw.out.2.1
        rw [List.take_of_length_le (by rw [HML.out, hw.out.1, ← HNM.out, show a = Dn by omega, Nat.mul_comm]; exact Nat.le_refl _)] at h1
        exact h1
      have HAR : Hid (∀ W, Below w5.heap.size w5 W → Calls Try.prog 16 #[.slice (some ⟨mb, mo, none⟩) NM mc] W fun e w' => e = .returned (.int .i64 (T : Nat)) ∧ W = w') := fun W hW => by
        have := area_c (.slice (some ⟨mb, mo, none⟩) NM mc) M W (HVV.out.on (S5.out.2.2.2.trans (hW.mono S5.out.2.2.2.size))) (by have := HML.out; have := HAD.out; omega) (fun m hm => Nat.le_trans (HMLE.out m hm) (by decide))
        rwa [hTT] at this
      have HB6 : Hid (Below w5.heap.size w5 w6) := hw.out.2.2
      have heq : ((T : Int) == (T : Int)) = true := by simp
      clear K6 hw hTT
      go_wp2_with fail
      refine (HAR.out _ HB6.out).mono ?_
      rintro e w' ⟨rfl, rfl⟩
      go_wp2_with fail
      refine (HAW.out _).mono ?_
      rintro e w9 ⟨rfl, hb9⟩
      have B9 : Hid (Below w.heap.size w w9) := (S5.out.1.trans (HB6.out.mono S5.out.1.size)).trans (hb9.mono (Nat.le_trans S5.out.1.size HB6.out.size))
      clear hb9
      go_wp2_with fail
      go_ret
      exact ⟨rfl, B9.out⟩
theorem coverMasks_law (s : Value) (S : List (Value × List Pt)) (rule x0 y0 x1 y1 : Int) (w : World) (row : PolyR w s S) :
    Calls Try.prog 3 #[s, .int .i64 rule, .agg #[.int .i64 x0, .int .i64 y0, .int .i64 x1, .int .i64 y1]] w fun e w' => e = .returned (.bool true) ∧ Below w.heap.size w w' := by
  by_cases h1 : rule = 1
  · subst h1; exact masks_1 s S x0 y0 x1 y1 w row
  · by_cases h2 : rule = 2
    · subst h2; exact masks_2 s S x0 y0 x1 y1 w row
    · exact masks_other s S rule x0 y0 x1 y1 w row (by simpa using h1) (by simpa using h2)
end Go.Proofs.Ytopngjpgikpmaaa
