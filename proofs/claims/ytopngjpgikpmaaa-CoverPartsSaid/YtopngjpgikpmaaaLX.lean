/- The walk of the statement CoverParts. -/
import Derived.Test.YtopngjpgikpmaaaCr
namespace Go.Proofs.Ytopngjpgikpmaaa
open Go.RowKit
def SmallX (S : List (Value × List Pt)) (b : Bx) (w : World) (e : Ending) (w' : World) : Prop := ∃ r, e = .returned (.bool r) ∧ (r = true → Small S b) ∧ Below w.heap.size w w'
theorem two_small (k d D A na nb : Nat) (hd : k + d = A) (hna : k * D = na) (hnb : d * D = nb) (h : A * D ≤ 40) : wrap64 ((k : Int) * (D : Int)) = (na : Int) ∧ wrap64 ((d : Int) * (D : Int)) = (nb : Int) := by
  have e : na + nb ≤ 40 := by rw [← hna, ← hnb, ← Nat.add_mul, hd]; exact h
  rw [← Int.natCast_mul, ← Int.natCast_mul, hna, hnb]
  clear hd hna hnb h
  exact ⟨wrapR _ (by omega) (by omega), wrapR _ (by omega) (by omega)⟩
theorem part_eqs (j k d A m1 m2 m3 na nb NM : Nat) (h1 : k + d = A) (h3 : NM = na + nb) (r1 : m1 + A ≤ NM) (r2 : m2 + k ≤ na) (r3 : m3 + d ≤ nb) (h40 : NM ≤ 40)
    (y1 : (j : Int) * (A : Int) = (m1 : Int)) (y2 : (j : Int) * (k : Int) = (m2 : Int)) (y3 : (j : Int) * (d : Int) = (m3 : Int)) (y4 : ((j : Int) + 1) * (A : Int) = ((m1 + A : Nat) : Int)) (y5 : ((j : Int) + 1) * (k : Int) = ((m2 + k : Nat) : Int)) (y6 : ((j : Int) + 1) * (d : Int) = ((m3 + d : Nat) : Int)) (hj : j ≤ 256) :
    IntKind.i64.wrap ((j : Int) * (A : Int)) = (m1 : Int) ∧ IntKind.i64.wrap ((m1 : Int) + (k : Int)) = ((m1 + k : Nat) : Int) ∧ IntKind.i64.wrap ((j : Int) * (k : Int)) = (m2 : Int) ∧ IntKind.i64.wrap ((j : Int) + 1) = (j : Int) + 1 ∧ IntKind.i64.wrap (((j : Int) + 1) * (k : Int)) = ((m2 + k : Nat) : Int) ∧
      IntKind.i64.wrap (((j : Int) + 1) * (A : Int)) = ((m1 + A : Nat) : Int) ∧ IntKind.i64.wrap ((A : Int) - (k : Int)) = (d : Int) ∧ IntKind.i64.wrap ((j : Int) * (d : Int)) = (m3 : Int) ∧ IntKind.i64.wrap (((j : Int) + 1) * (d : Int)) = ((m3 + d : Nat) : Int) := by
  simp only [wrap_is]
  rw [y1, y2, y3, y4, y5, y6]
  clear y1 y2 y3 y4 y5 y6
  refine ⟨wrapR _ (by omega) (by omega), ?_, wrapR _ (by omega) (by omega), wrapR _ (by omega) (by omega), wrapR _ (by omega) (by omega), wrapR _ (by omega) (by omega), ?_, wrapR _ (by omega) (by omega), wrapR _ (by omega) (by omega)⟩
  · rw [wrapR _ (by omega) (by omega)]; omega
  · rw [wrapR _ (by omega) (by omega)]; omega
theorem mask_ok {P : List (List Pt)} {rule : Int} {b : Bx} (hr : ruleB rule = true) (ha : allR P = true) (hw : winB b = true) : maskO P rule b = (0, maskI P rule b) := by
  unfold maskO; rw [hr, ha, hw]; rfl
set_option maxHeartbeats 16000000 in
set_option maxRecDepth 100000 in
theorem coverParts_law (s : Value) (S : List (Value × List Pt)) (rule x0 y0 x1 y1 cut : Int) (w : World) (row : PolyR w s S) :
    Calls Try.prog 5 #[.agg #[s, .int .i64 rule, .int .i64 x0, .int .i64 y0, .int .i64 x1, .int .i64 y1, .int .i64 cut]] w fun e w' => e = .returned (.bool true) ∧ Below w.heap.size w w' := by
  have HAW := Lib.hid awake_c
  have HSM : Hid (∀ W, Below w.heap.size w W → Calls Try.prog 9 #[s, .agg #[.int .i64 x0, .int .i64 y0, .int .i64 x1, .int .i64 y1]] W fun e w' => SmallX S ⟨x0, y0, x1, y1⟩ W e w') := fun W hb => small_c s S x0 y0 x1 y1 W (row.on hb)
  have HWN := Lib.hid (fun w => window_c x0 y0 x1 y1 w)
  have HRF : Hid (Small S ⟨x0, y0, x1, y1⟩ → ∀ W, Below w.heap.size w W → Calls Try.prog 11 #[s] W fun e w' => RefsP (S.map Prod.snd) W e w') := fun hs W hb => refs_p s S W (row.on hb) (by have := hs.1; omega) (fun x hx => by have := hs.2.1 x hx; omega)
  have HMK : Hid (Small S ⟨x0, y0, x1, y1⟩ → ∀ (b : Bx) W, Below w.heap.size w W → Calls Try.prog 12 #[s, .int .i64 rule, .agg #[.int .i64 b.x0, .int .i64 b.y0, .int .i64 b.x1, .int .i64 b.y1]] W fun e w' => MaskF W (maskO (S.map Prod.snd) rule b) e w') := fun hs b W hb => maskF_c s S rule b W (row.on hb) (by have := hs.1; omega) (fun x hx => by have := hs.2.1 x hx; omega)
  obtain ⟨ao, c, rfl⟩ := row.shape
  obtain ⟨n, hn⟩ : ∃ n, S.length = n := ⟨_, rfl⟩
  have HN := Lib.hid hn
  rw [hn] at HSM HRF HMK ⊢
  clear row hn
  obtain ⟨rw0, hrw⟩ : ∃ r, winB ⟨x0, y0, x1, y1⟩ = r := ⟨_, rfl⟩
  have HRW := Lib.hid hrw
  rw [hrw] at HWN
  clear hrw
  go_enter Try.func5, Try.ntmps5
  go_wp2_with fail
  obtain ⟨w1, hw1⟩ : ∃ X, (w.alloc (.cells #[.slice ao n c, .int .i64 rule, .int .i64 x0, .int .i64 y0, .int .i64 x1, .int .i64 y1, .int .i64 cut] 45)).alloc (.cells #[.int .i64 x0, .int .i64 y0, .int .i64 x1, .int .i64 y1] 24) = X := ⟨_, rfl⟩
  have S1 : Hid (Below w.heap.size w w1 ∧ Blk w1 w.heap.size 45 #[.slice ao n c, .int .i64 rule, .int .i64 x0, .int .i64 y0, .int .i64 x1, .int .i64 y1, .int .i64 cut] ∧ Blk w1 (w.heap.size + 1) 24 (four ⟨x0, y0, x1, y1⟩)) := by
    rw [← hw1]
    exact ⟨((Below.refl _ _).alloc (Nat.le_refl _) _).alloc (by simp) _, (Blk.new _ _ _).alloc _, Blk.newAt _ _ _ (by simp)⟩
  rw [hw1]
  clear hw1
  refine (HSM.out _ S1.out.1).mono ?_
  rintro e w2 ⟨r, rfl, hr, hb⟩
  have S2 : Hid (Below w.heap.size w w2 ∧ Blk w2 w.heap.size 45 #[.slice ao n c, .int .i64 rule, .int .i64 x0, .int .i64 y0, .int .i64 x1, .int .i64 y1, .int .i64 cut] ∧ Blk w2 (w.heap.size + 1) 24 (four ⟨x0, y0, x1, y1⟩)) := ⟨S1.out.1.trans (hb.mono S1.out.1.size), S1.out.2.1.grow hb, S1.out.2.2.grow hb⟩
  clear hb S1
  cases r
  · have hx0 : True := trivial
    go_wp2_with fail
    refine (HAW.out _).mono ?_
    rintro e w9 ⟨rfl, hb⟩
    have B9 : Hid (Below w.heap.size w w9) := (S2.out.1).trans (hb.mono (S2.out.1).size)
    clear hb
    go_wp2_with fail
    go_ret
    exact ⟨rfl, B9.out⟩
  have hsm := hr rfl
  have HS := Lib.hid hsm
  clear hr hsm
  have q0 : w2.cell? ⟨w.heap.size, 0, none⟩ = some (.slice ao n c) := S2.out.2.1.cell 0
  have q1 : w2.cell? ⟨w.heap.size, 1, none⟩ = some (.int .i64 rule) := S2.out.2.1.cell 1
  have q6 : w2.cell? ⟨w.heap.size, 6, none⟩ = some (.int .i64 cut) := S2.out.2.1.cell 6
  have a0 := S2.out.2.2.b0
  have a1 := S2.out.2.2.b1
  have a2 := S2.out.2.2.b2
  have a3 := S2.out.2.2.b3
  simp only at a0 a1 a2 a3
  cases rw0
  · go_wp2_with fail
    refine (HWN.out _).mono ?_
    rintro e w3 ⟨rfl, rfl⟩
    go_wp2_with fail
    refine (HAW.out _).mono ?_
    rintro e w9 ⟨rfl, hb⟩
    have B9 : Hid (Below w.heap.size w w9) := (S2.out.1).trans (hb.mono (S2.out.1).size)
    clear hb
    go_wp2_with fail
    go_ret
    exact ⟨rfl, B9.out⟩
  go_wp2_with fail
  refine (HWN.out _).mono ?_
  rintro e w3 ⟨rfl, rfl⟩
  go_wp2_with fail
  refine (HMK.out HS.out ⟨x0, y0, x1, y1⟩ _ S2.out.1).mono ?_
  rintro e w3 ⟨ma, mn, mc, rfl, hv, hnc, hb⟩
  have S3 : Hid (Below w.heap.size w w3 ∧ Blk w3 w.heap.size 45 #[.slice ao n c, .int .i64 rule, .int .i64 x0, .int .i64 y0, .int .i64 x1, .int .i64 y1, .int .i64 cut] ∧ Blk w3 (w.heap.size + 1) 24 (four ⟨x0, y0, x1, y1⟩)) := ⟨S2.out.1.trans (hb.mono S2.out.1.size), S2.out.2.1.grow hb, S2.out.2.2.grow hb⟩
  have HV := Lib.hid hv
  have HNC := Lib.hid hnc
  clear hb S2 hv hnc HWN
  clear q0 q1 q6 a0 a1 a2 a3
  have q0 : w3.cell? ⟨w.heap.size, 0, none⟩ = some (.slice ao n c) := S3.out.2.1.cell 0
  have q1 : w3.cell? ⟨w.heap.size, 1, none⟩ = some (.int .i64 rule) := S3.out.2.1.cell 1
  have q6 : w3.cell? ⟨w.heap.size, 6, none⟩ = some (.int .i64 cut) := S3.out.2.1.cell 6
  have a0 := S3.out.2.2.b0
  have a1 := S3.out.2.2.b1
  have a2 := S3.out.2.2.b2
  have a3 := S3.out.2.2.b3
  simp only at a0 a1 a2 a3
  have hmo : maskO (S.map Prod.snd) rule ⟨x0, y0, x1, y1⟩ = if (ruleB rule && allR (S.map Prod.snd)) = true then (0, maskI (S.map Prod.snd) rule ⟨x0, y0, x1, y1⟩) else (30, []) := by
    unfold maskO
    rw [HRW.out]
    cases ruleB rule <;> cases allR (S.map Prod.snd) <;> rfl
  rw [hmo] at HV ⊢
  clear hmo
  cases hrb : ruleB rule
  · rw [hrb] at HV
    simp only [Bool.false_and, Bool.false_eq_true, if_false] at HV ⊢
    have hr1 : (rule != 1) = true := by unfold ruleB at hrb; simp at hrb ⊢; exact hrb.1
    have hr2 : (rule != 2) = true := by unfold ruleB at hrb; simp at hrb ⊢; exact hrb.2
    clear hrb HV
    go_wp2_with fail
    refine (HAW.out _).mono ?_
    rintro e w9 ⟨rfl, hb⟩
    have B9 : Hid (Below w.heap.size w w9) := (S3.out.1).trans (hb.mono (S3.out.1).size)
    clear hb
    go_wp2_with fail
    go_ret
    exact ⟨rfl, B9.out⟩
  cases har : allR (S.map Prod.snd)
  · rw [hrb, har] at HV
    simp only [Bool.and_false, Bool.false_eq_true, if_false] at HV ⊢
    have HAR := Lib.hid har
    have hr12 : rule = 1 ∨ rule = 2 := by unfold ruleB at hrb; simpa using hrb
    clear hrb har HV HMK
    rcases hr12 with rfl | rfl
    · go_wp2_with fail
      refine (HRF.out HS.out _ S3.out.1).mono ?_
      rintro e w4 ⟨u, S', rfl, hp, he, hb⟩
      have S4 : Hid (Below w.heap.size w w4) := S3.out.1.trans (hb.mono S3.out.1.size)
      have HRA : Hid (Calls Try.prog 14 #[u] w4 fun e w' => e = .returned (.bool false) ∧ Below w4.heap.size w4 w') := by
        have h1 := same_pts he (fun l => l.length ≤ 20) HS.out.2.1
        have := refAll_c u S' w4 hp (by have := HS.out.1; omega) (fun x hx => by have := h1.2 x hx; omega)
        rwa [he, HAR.out] at this
      clear hb hp he
      go_wp2_with fail
      refine (HRA.out).mono ?_
      rintro e w5 ⟨rfl, hb⟩
      have S5 : Hid (Below w.heap.size w w5) := S4.out.trans (hb.mono S4.out.size)
      clear hb HRA
      go_wp2_with fail
      refine (HAW.out _).mono ?_
      rintro e w9 ⟨rfl, hb⟩
      have B9 : Hid (Below w.heap.size w w9) := (S5.out).trans (hb.mono (S5.out).size)
      clear hb
      go_wp2_with fail
      go_ret
      exact ⟨rfl, B9.out⟩
    · go_wp2_with fail
      refine (HRF.out HS.out _ S3.out.1).mono ?_
      rintro e w4 ⟨u, S', rfl, hp, he, hb⟩
      have S4 : Hid (Below w.heap.size w w4) := S3.out.1.trans (hb.mono S3.out.1.size)
      have HRA : Hid (Calls Try.prog 14 #[u] w4 fun e w' => e = .returned (.bool false) ∧ Below w4.heap.size w4 w') := by
        have h1 := same_pts he (fun l => l.length ≤ 20) HS.out.2.1
        have := refAll_c u S' w4 hp (by have := HS.out.1; omega) (fun x hx => by have := h1.2 x hx; omega)
        rwa [he, HAR.out] at this
      clear hb hp he
      go_wp2_with fail
      refine (HRA.out).mono ?_
      rintro e w5 ⟨rfl, hb⟩
      have S5 : Hid (Below w.heap.size w w5) := S4.out.trans (hb.mono S4.out.size)
      clear hb HRA
      go_wp2_with fail
      refine (HAW.out _).mono ?_
      rintro e w9 ⟨rfl, hb⟩
      have B9 : Hid (Below w.heap.size w w9) := (S5.out).trans (hb.mono (S5.out).size)
      clear hb
      go_wp2_with fail
      go_ret
      exact ⟨rfl, B9.out⟩
  rw [hrb, har] at HV
  simp only [Bool.and_true, if_true] at HV ⊢
  have HRB := Lib.hid hrb
  have HAR := Lib.hid har
  clear hrb har HRF HSM
  have hwb := (winB_iff ⟨x0, y0, x1, y1⟩).1 HRW.out
  have hprod := HS.out.2.2 HRW.out
  simp only at hwb hprod
  obtain ⟨A, hA⟩ : ∃ A : Nat, x1 = x0 + (A : Int) := ⟨(x1 - x0).toNat, by omega⟩
  obtain ⟨D, hD⟩ : ∃ D : Nat, y1 = y0 + (D : Int) := ⟨(y1 - y0).toNat, by omega⟩
  subst hA hD
  obtain ⟨hw1, hw2, hw3, hw4, hw5, hw6, hw7, hw8⟩ := hwb
  have hA1 : 1 ≤ A := by omega
  have hD1 : 1 ≤ D := by omega
  have hA2 : A ≤ 256 := by omega
  have hD2 : D ≤ 256 := by omega
  have eA : x0 + (A : Int) - x0 = (A : Int) := by omega
  have eD : y0 + (D : Int) - y0 = (D : Int) := by omega
  rw [eA, eD] at hprod
  have hAD : A * D ≤ 40 := by
    have : ((A * D : Nat) : Int) ≤ 40 := by rw [Int.natCast_mul]; exact hprod
    exact Int.ofNat_le.1 this
  have HX : Hid (-4194304 ≤ x0 ∧ x0 + (A : Int) ≤ 4194304) := ⟨hw3, hw4⟩
  have HY : Hid (-4194304 ≤ y0 ∧ y0 + (D : Int) ≤ 4194304) := ⟨hw5, hw6⟩
  have HAD := Lib.hid (And.intro hA1 (And.intro hD1 (And.intro hA2 (And.intro hD2 hAD))))
  have HOK : Hid (∀ b : Bx, winB b = true → maskO (S.map Prod.snd) rule b = (0, maskI (S.map Prod.snd) rule b)) := fun b hb => mask_ok HRB.out HAR.out hb
  have hlenA : acrossI ⟨x0, y0, x0 + (A : Int), y0 + (D : Int)⟩ * downI ⟨x0, y0, x0 + (A : Int), y0 + (D : Int)⟩ = A * D := by unfold acrossI downI; simp only [eA, eD]; rfl
  obtain ⟨M, hM⟩ : ∃ M, maskI (S.map Prod.snd) rule ⟨x0, y0, x0 + (A : Int), y0 + (D : Int)⟩ = M := ⟨_, rfl⟩
  have HML : Hid (M.length = A * D) := by unfold Hid; rw [← hM, maskI_length, hlenA]
  have HM255 : Hid (∀ m ∈ M, m ≤ 255) := fun m hm => by rw [← hM] at hm; have := maskI_le _ _ _ m hm; omega
  rw [hM] at HV
  have HMM := Lib.hid hM
  obtain ⟨mb, mo, mc2, hsh, hmb, hmc⟩ := HV.out.open (by rw [bytes_length, HML.out]; exact Nat.mul_pos hA1 hD1)
  rw [bytes_length, HML.out] at hsh
  obtain ⟨rfl, rfl, rfl⟩ : ma = some ⟨mb, mo, none⟩ ∧ mn = A * D ∧ mc = mc2 := by simp only [Value.slice.injEq] at hsh; exact ⟨hsh.1, hsh.2.1, hsh.2.2⟩
  clear hsh
  have HMC := Lib.hid (And.intro hmb hmc)
  obtain ⟨NM, hNM⟩ : ∃ x, A * D = x := ⟨_, rfl⟩
  have HNM := Lib.hid hNM
  rw [hNM] at HV HNC HML ⊢
  clear hw1 hw2 hw3 hw4 hw5 hw6 hw7 hw8 hprod hAD hlenA hM hmb hmc hNM hA1 hD1
  by_cases g0 : cut > 0
  · have hd0 : decide (cut > 0) = true := by simp; omega
    obtain ⟨k, rfl⟩ : ∃ k : Nat, cut = (k : Int) := ⟨cut.toNat, by omega⟩
    have hk0 : 0 < k := by omega
    by_cases g1 : k < D
    · have hd1 : decide ((k : Int) < (D : Int)) = true := by simp; omega
      obtain ⟨hx0a, hx0b⟩ := HX.out
      obtain ⟨hy0a, hy0b⟩ := HY.out
      obtain ⟨hA1, hD1, hA4, hD4, hAD40⟩ := HAD.out
      go_wp2_with fail
      refine (HMK.out HS.out ⟨x0, y0, x0 + (A : Int), y0 + (k : Int)⟩ _ S3.out.1).mono ?_
      rintro e w4 ⟨va, na, ca, rfl, hv, hnc, hb⟩
      have S4 : Hid (Below w.heap.size w w4 ∧ Blk w4 w.heap.size 45 #[.slice ao n c, .int .i64 rule, .int .i64 x0, .int .i64 y0, .int .i64 (x0 + (A : Int)), .int .i64 (y0 + (D : Int)), .int .i64 (k : Int)] ∧ Blk w4 (w.heap.size + 1) 24 (four ⟨x0, y0, (x0 + (A : Int)), (y0 + (D : Int))⟩)) := ⟨S3.out.1.trans (hb.mono S3.out.1.size), S3.out.2.1.grow hb, S3.out.2.2.grow hb⟩
      have hm1 := HOK.out ⟨x0, y0, x0 + (A : Int), y0 + (k : Int)⟩ (by rw [winB_iff]; simp only; omega)
      obtain ⟨Ma, hMa⟩ : ∃ L, maskI (S.map Prod.snd) rule ⟨x0, y0, x0 + (A : Int), y0 + (k : Int)⟩ = L := ⟨_, rfl⟩
      have HMa := Lib.hid hMa
      simp only [hm1, hMa] at hv ⊢
      have HVa := Lib.hid hv
      have HNCa := Lib.hid hnc
      have B4 : Hid (Below w3.heap.size w3 w4) := hb
      clear hb hv hnc hm1 hMa
      clear q0 q1 q6 a0 a1 a2 a3
      have q0 : w4.cell? ⟨w.heap.size, 0, none⟩ = some (.slice ao n c) := S4.out.2.1.cell 0
      have q1 : w4.cell? ⟨w.heap.size, 1, none⟩ = some (.int .i64 rule) := S4.out.2.1.cell 1
      have q6 : w4.cell? ⟨w.heap.size, 6, none⟩ = some (.int .i64 (k : Int)) := S4.out.2.1.cell 6
      have a0 := S4.out.2.2.b0
      have a1 := S4.out.2.2.b1
      have a2 := S4.out.2.2.b2
      have a3 := S4.out.2.2.b3
      simp only at a0 a1 a2 a3
      go_wp2_with fail
      refine (HMK.out HS.out ⟨x0, y0 + (k : Int), x0 + (A : Int), y0 + (D : Int)⟩ _ S4.out.1).mono ?_
      rintro e w5 ⟨vb, nb, cb, rfl, hv, hnc, hb⟩
      have S5 : Hid (Below w.heap.size w w5 ∧ Blk w5 w.heap.size 45 #[.slice ao n c, .int .i64 rule, .int .i64 x0, .int .i64 y0, .int .i64 (x0 + (A : Int)), .int .i64 (y0 + (D : Int)), .int .i64 (k : Int)] ∧ Blk w5 (w.heap.size + 1) 24 (four ⟨x0, y0, (x0 + (A : Int)), (y0 + (D : Int))⟩)) := ⟨S4.out.1.trans (hb.mono S4.out.1.size), S4.out.2.1.grow hb, S4.out.2.2.grow hb⟩
      have hm1 := HOK.out ⟨x0, y0 + (k : Int), x0 + (A : Int), y0 + (D : Int)⟩ (by rw [winB_iff]; simp only; omega)
      obtain ⟨Mb, hMb⟩ : ∃ L, maskI (S.map Prod.snd) rule ⟨x0, y0 + (k : Int), x0 + (A : Int), y0 + (D : Int)⟩ = L := ⟨_, rfl⟩
      have HMb := Lib.hid hMb
      simp only [hm1, hMb] at hv ⊢
      have HVb := Lib.hid hv
      have HNCb := Lib.hid hnc
      have B5 : Hid (Below w3.heap.size w3 w5) := B4.out.trans (hb.mono B4.out.size)
      have HVa' : Hid (VRow w5 (.slice va na ca) (bytesL Ma)) := HVa.out.on hb
      have HVW : Hid (VRow w5 (.slice (some ⟨mb, mo, none⟩) NM mc) (bytesL M)) := HV.out.on B5.out
      clear HVa
      have HVa := HVa'
      clear HVa'
      have HSUM : Hid (Ma ++ Mb = M) := by
        unfold Hid
        rw [← HMa.out, ← HMb.out, ← HMM.out]
        exact mask_down _ _ _ _ _ _ _ (by omega) (by omega)
      have HLab : Hid (0 < Ma.length ∧ 0 < Mb.length ∧ Ma.length + Mb.length ≤ 40) := by
        have l1 : Ma.length = A * k := by rw [← HMa.out, maskI_length]; unfold acrossI downI; simp only; congr 1 <;> omega
        have l2 : Mb.length = A * (D - k) := by rw [← HMb.out, maskI_length]; unfold acrossI downI; simp only; congr 1 <;> omega
        refine ⟨by rw [l1]; exact Nat.mul_pos hA1 (by omega), by rw [l2]; exact Nat.mul_pos hA1 (by omega), ?_⟩
        rw [l1, l2, ← Nat.mul_add, show k + (D - k) = D by omega]
        exact hAD40
      clear hb hv hnc hm1 hMb
      clear q0 q1 q6 a0 a1 a2 a3
      clear hx0a hx0b hy0a hy0b hA1 hD1 hA4 hD4 hAD40
      go_wp2_with fail
      refine wp_region_put3 (by kernel_rfl) (by kernel_rfl) (by kernel_rfl) (fun b' vs w' => (b' 0 = true → vs 0 = .int .i64 0) ∧ (b' 1 = true → vs 1 = .bool false) ∧ (b' 2 = true → vs 2 = .bool false) ∧ (b' 3 = true → vs 3 = .int .i64 0) ∧ (b' 4 = true → vs 4 = .bool false) ∧ (b' 5 = true → vs 5 = .bool false) ∧ (b' 6 = true → vs 6 = .bool false) ∧ (b' 8 = true → vs 8 = .slice va na ca) ∧ (b' 10 = true → vs 10 = .slice vb nb cb) ∧ (b' 12 = true → vs 12 = .string (strB M)) ∧ (b' 13 = true → vs 13 = .slice (some ⟨mb, mo, none⟩) NM mc) ∧ (b' 14 = true → vs 14 = .string (strB M)) ∧ (b' 15 = true → vs 15 = .bool false) ∧ (b' 16 = true → vs 16 = .bool false) ∧ (Hid (Below w5.heap.size w5 w' ∧ w5.heap.size ≤ w'.heap.size)) ∧ (b' 7 = true → b' 9 = false → Hid (w'.ownsRow w5.heap.size 5 1 (vs 7) 0 (bytesL []))) ∧ (b' 9 = true → b' 11 = false → Hid (w'.ownsRow w5.heap.size 5 1 (vs 9) (0 + Ma.length) (bytesL ([] ++ Ma)))) ∧ (b' 11 = true → Hid (w'.ownsRow w5.heap.size 5 1 (vs 11) (0 + Ma.length + Mb.length) (bytesL ([] ++ Ma ++ Mb)))) ∧ (b' 11 = true → b' 9 = true)) ?_ ?_ ?_
      · intro vs
        exact ⟨fun h => Bool.noConfusion h, fun h => Bool.noConfusion h, fun h => Bool.noConfusion h, fun h => Bool.noConfusion h, fun h => Bool.noConfusion h, fun h => Bool.noConfusion h, fun h => Bool.noConfusion h, fun h => Bool.noConfusion h, fun h => Bool.noConfusion h, fun h => Bool.noConfusion h, fun h => Bool.noConfusion h, fun h => Bool.noConfusion h, fun h => Bool.noConfusion h, fun h => Bool.noConfusion h, Lib.hid ⟨⟨rfl, rfl, rfl, Nat.le_refl _, fun _ _ => rfl⟩, Nat.le_refl _⟩, fun h => Bool.noConfusion h, fun h => Bool.noConfusion h, fun h => Bool.noConfusion h, fun h => Bool.noConfusion h⟩
      · rintro b' vs w' i op hi hun hall ⟨h0, h1, h2, h3, h4, h5, h6, h8, h10, h12, h13, h14, h15, h16, hB, hA7, hA9, hA11, hE⟩
        have hil : i < 17 := (List.getElem?_eq_some_iff.1 hi).1
        rcases i with _ | _ | _ | _ | _ | _ | _ | _ | _ | _ | _ | _ | _ | _ | _ | _ | _ | i
        · obtain rfl := Option.some.inj hi
          clear hi hil
          refine StepOk.plain rfl (fun K hK => ?_)
          have HKK := Lib.hid hK; clear hK
          simp only [putAll, Act.put, List.setIfInBounds_toArray, List.set_cons_zero, List.set_cons_succ]
          go_simp
          exact HKK.out _ _ ⟨_, by simp only [putAll, Act.put, List.setIfInBounds_toArray, List.set_cons_zero, List.set_cons_succ] <;> rfl, fun _ => rfl, h1, h2, h3, h4, h5, h6, h8, h10, h12, h13, h14, h15, h16, hB, hA7, hA9, hA11, hE⟩
        · obtain rfl := Option.some.inj hi
          clear hi hil
          have d0 := h0 (hall ⟨0, .data⟩ (by simp) rfl)
          refine StepOk.plain rfl (fun K hK => ?_)
          have HKK := Lib.hid hK; clear hK
          simp only [putAll, Act.put, List.setIfInBounds_toArray, List.set_cons_zero, List.set_cons_succ, d0]
          go_simp
          exact HKK.out _ _ ⟨_, by simp only [putAll, Act.put, List.setIfInBounds_toArray, List.set_cons_zero, List.set_cons_succ, d0] <;> rfl, h0, fun _ => rfl, h2, h3, h4, h5, h6, h8, h10, h12, h13, h14, h15, h16, hB, hA7, hA9, hA11, hE⟩
        · obtain rfl := Option.some.inj hi
          clear hi hil
          have d1 := h1 (hall ⟨1, .data⟩ (by simp) rfl)
          refine StepOk.plain rfl (fun K hK => ?_)
          have HKK := Lib.hid hK; clear hK
          simp only [putAll, Act.put, List.setIfInBounds_toArray, List.set_cons_zero, List.set_cons_succ, d1]
          go_simp
          exact HKK.out _ _ ⟨_, by simp only [putAll, Act.put, List.setIfInBounds_toArray, List.set_cons_zero, List.set_cons_succ, d1] <;> rfl, h0, h1, fun _ => rfl, h3, h4, h5, h6, h8, h10, h12, h13, h14, h15, h16, hB, hA7, hA9, hA11, hE⟩
        · obtain rfl := Option.some.inj hi
          clear hi hil
          have d2 := h2 (hall ⟨2, .guard⟩ (by simp) rfl)
          refine StepOk.on 2 false rfl rfl d2 (fun K hK => ?_)
          have HKK := Lib.hid hK; clear hK
          simp only [putAll, Act.put, List.setIfInBounds_toArray, List.set_cons_zero, List.set_cons_succ, d2]
          go_simp
          exact HKK.out _ _ ⟨_, by simp only [putAll, Act.put, List.setIfInBounds_toArray, List.set_cons_zero, List.set_cons_succ, d2] <;> rfl, h0, h1, h2, fun _ => rfl, h4, h5, h6, h8, h10, h12, h13, h14, h15, h16, hB, hA7, hA9, hA11, hE⟩
        · obtain rfl := Option.some.inj hi
          clear hi hil
          have d2 := h2 (hall ⟨2, .guard⟩ (by simp) rfl)
          have d3 := h3 (hall ⟨3, .data⟩ (by simp) rfl)
          refine StepOk.on 2 false rfl rfl d2 (fun K hK => ?_)
          have HKK := Lib.hid hK; clear hK
          simp only [putAll, Act.put, List.setIfInBounds_toArray, List.set_cons_zero, List.set_cons_succ, d2, d3]
          go_simp
          exact HKK.out _ _ ⟨_, by simp only [putAll, Act.put, List.setIfInBounds_toArray, List.set_cons_zero, List.set_cons_succ, d2, d3] <;> rfl, h0, h1, h2, h3, fun _ => rfl, h5, h6, h8, h10, h12, h13, h14, h15, h16, hB, hA7, hA9, hA11, hE⟩
        · obtain rfl := Option.some.inj hi
          clear hi hil
          have d2 := h2 (hall ⟨2, .data⟩ (by simp) rfl)
          have d4 := h4 (hall ⟨4, .data⟩ (by simp) rfl)
          refine StepOk.plain rfl (fun K hK => ?_)
          have HKK := Lib.hid hK; clear hK
          simp only [putAll, Act.put, List.setIfInBounds_toArray, List.set_cons_zero, List.set_cons_succ, d2, d4]
          go_simp
          exact HKK.out _ _ ⟨_, by simp only [putAll, Act.put, List.setIfInBounds_toArray, List.set_cons_zero, List.set_cons_succ, d2, d4] <;> rfl, h0, h1, h2, h3, h4, fun _ => rfl, h6, h8, h10, h12, h13, h14, h15, h16, hB, hA7, hA9, hA11, hE⟩
        · obtain rfl := Option.some.inj hi
          clear hi hil
          have d5 := h5 (hall ⟨5, .data⟩ (by simp) rfl)
          refine StepOk.plain rfl (fun K hK => ?_)
          have HKK := Lib.hid hK; clear hK
          simp only [putAll, Act.put, List.setIfInBounds_toArray, List.set_cons_zero, List.set_cons_succ, d5]
          go_simp
          exact HKK.out _ _ ⟨_, by simp only [putAll, Act.put, List.setIfInBounds_toArray, List.set_cons_zero, List.set_cons_succ, d5] <;> rfl, h0, h1, h2, h3, h4, h5, fun _ => rfl, h8, h10, h12, h13, h14, h15, h16, hB, hA7, hA9, hA11, hE⟩
        · obtain rfl := Option.some.inj hi
          clear hi hil
          have d6 := h6 (hall ⟨6, .guard⟩ (by simp) rfl)
          refine StepOk.on 6 false rfl rfl d6 (fun K hK => ?_)
          have HKK := Lib.hid hK; clear hK
          simp only [putAll, Act.put, List.setIfInBounds_toArray, List.set_cons_zero, List.set_cons_succ, d6]
          go_simp
          have hb2 : Below w'.heap.size w' (w'.alloc (.cells #[] 5)) := (Below.refl _ _).alloc (Nat.le_refl _) _
          exact HKK.out _ _ ⟨_, by simp only [putAll, Act.put, List.setIfInBounds_toArray, List.set_cons_zero, List.set_cons_succ, d6] <;> rfl, h0, h1, h2, h3, h4, h5, h6, h8, h10, h12, h13, h14, h15, h16, Lib.hid ⟨hB.out.1.trans (hb2.mono hB.out.2), Nat.le_trans hB.out.2 hb2.size⟩, fun _ _ => Lib.hid (World.ownsRow_made w' #[] 0 hB.out.2 (by decide) rfl), fun q1 q2 => Lib.hid ((hA9 q1 q2).out.alloc _), fun q1 => Lib.hid ((hA11 q1).out.alloc _), hE⟩
        · obtain rfl := Option.some.inj hi
          clear hi hil
          have d6 := h6 (hall ⟨6, .guard⟩ (by simp) rfl)
          refine StepOk.on 6 false rfl rfl d6 (fun K hK => ?_)
          have HKK := Lib.hid hK; clear hK
          simp only [putAll, Act.put, List.setIfInBounds_toArray, List.set_cons_zero, List.set_cons_succ, d6]
          go_simp
          exact HKK.out _ _ ⟨_, by simp only [putAll, Act.put, List.setIfInBounds_toArray, List.set_cons_zero, List.set_cons_succ, d6] <;> rfl, h0, h1, h2, h3, h4, h5, h6, fun _ => rfl, h10, h12, h13, h14, h15, h16, hB, hA7, hA9, hA11, hE⟩
        · obtain rfl := Option.some.inj hi
          clear hi hil
          have d6 := h6 (hall ⟨6, .guard⟩ (by simp) rfl)
          have d8 := h8 (hall ⟨8, .data⟩ (by simp) rfl)
          have o7 := hA7 (hall ⟨7, .data⟩ (by simp) rfl) hun
          refine StepOk.on 6 false rfl rfl d6 (fun K hK => ?_)
          have HKK := Lib.hid hK; clear hK
          simp only [putAll, Act.put, List.setIfInBounds_toArray, List.set_cons_zero, List.set_cons_succ, d6, d8]
          refine wp_append_bytes _ _ rfl w5.heap.size (vs 7) 0 [] rfl o7.out (.slice va na ca) Ma rfl (HVa.out.on hB.out.1) HLab.out.1 (by have := HLab.out; omega) hB.out.2 ?_
          intro v' w2 ho hg
          exact HKK.out _ _ ⟨_, by simp only [putAll, Act.put, List.setIfInBounds_toArray, List.set_cons_zero, List.set_cons_succ, d6, d8] <;> rfl, h0, h1, h2, h3, h4, h5, h6, h8, h10, h12, h13, h14, h15, h16, Lib.hid ⟨owns_below o7.out hg hB.out.1 hB.out.2, Nat.le_trans hB.out.2 hg.size⟩, fun _ q => Bool.noConfusion q, fun _ _ => Lib.hid ho, fun q => absurd (hE q) (by rw [hun]; decide), fun _ => rfl⟩
        · obtain rfl := Option.some.inj hi
          clear hi hil
          have d6 := h6 (hall ⟨6, .guard⟩ (by simp) rfl)
          refine StepOk.on 6 false rfl rfl d6 (fun K hK => ?_)
          have HKK := Lib.hid hK; clear hK
          simp only [putAll, Act.put, List.setIfInBounds_toArray, List.set_cons_zero, List.set_cons_succ, d6]
          go_simp
          exact HKK.out _ _ ⟨_, by simp only [putAll, Act.put, List.setIfInBounds_toArray, List.set_cons_zero, List.set_cons_succ, d6] <;> rfl, h0, h1, h2, h3, h4, h5, h6, h8, fun _ => rfl, h12, h13, h14, h15, h16, hB, hA7, hA9, hA11, hE⟩
        · obtain rfl := Option.some.inj hi
          clear hi hil
          have d6 := h6 (hall ⟨6, .guard⟩ (by simp) rfl)
          have d10 := h10 (hall ⟨10, .data⟩ (by simp) rfl)
          have o9 := hA9 (hall ⟨9, .data⟩ (by simp) rfl) hun
          refine StepOk.on 6 false rfl rfl d6 (fun K hK => ?_)
          have HKK := Lib.hid hK; clear hK
          simp only [putAll, Act.put, List.setIfInBounds_toArray, List.set_cons_zero, List.set_cons_succ, d6, d10]
          refine wp_append_bytes _ _ rfl w5.heap.size (vs 9) (0 + Ma.length) ([] ++ Ma) rfl o9.out (.slice vb nb cb) Mb rfl (HVb.out.on hB.out.1) HLab.out.2.1 (by have := HLab.out; omega) hB.out.2 ?_
          intro v' w2 ho hg
          exact HKK.out _ _ ⟨_, by simp only [putAll, Act.put, List.setIfInBounds_toArray, List.set_cons_zero, List.set_cons_succ, d6, d10] <;> rfl, h0, h1, h2, h3, h4, h5, h6, h8, h10, h12, h13, h14, h15, h16, Lib.hid ⟨owns_below o9.out hg hB.out.1 hB.out.2, Nat.le_trans hB.out.2 hg.size⟩, fun _ q2 => absurd (hall ⟨9, .data⟩ (by simp) rfl) (by rw [show b' 9 = false from q2]; decide), fun _ q => Bool.noConfusion q, fun _ => Lib.hid ho, fun _ => hall ⟨9, .data⟩ (by simp) rfl⟩
        · obtain rfl := Option.some.inj hi
          clear hi hil
          have d6 := h6 (hall ⟨6, .guard⟩ (by simp) rfl)
          have o11 := hA11 (hall ⟨11, .data⟩ (by simp) rfl)
          have cv : (convert 29 9 (vs 11)).run Try.prog w' = .ok (.string (strB M)) w' := by
              have hr := o11.out
              rw [show 0 + Ma.length + Mb.length = (bytesL ([] ++ Ma ++ Mb)).length by rw [bytes_length]; simp] at hr
              have := conv_row (VRow.of_owns hr) (by rw [List.nil_append, HSUM.out]; exact HM255.out)
              rwa [List.nil_append, HSUM.out] at this
          refine StepOk.on 6 false rfl rfl d6 (fun K hK => ?_)
          have HKK := Lib.hid hK; clear hK
          simp only [putAll, Act.put, List.setIfInBounds_toArray, List.set_cons_zero, List.set_cons_succ, d6]
          go_simp
          exact HKK.out _ _ ⟨_, by simp only [putAll, Act.put, List.setIfInBounds_toArray, List.set_cons_zero, List.set_cons_succ, d6] <;> rfl, h0, h1, h2, h3, h4, h5, h6, h8, h10, fun _ => rfl, h13, h14, h15, h16, hB, hA7, hA9, hA11, hE⟩
        · obtain rfl := Option.some.inj hi
          clear hi hil
          have d6 := h6 (hall ⟨6, .guard⟩ (by simp) rfl)
          refine StepOk.on 6 false rfl rfl d6 (fun K hK => ?_)
          have HKK := Lib.hid hK; clear hK
          simp only [putAll, Act.put, List.setIfInBounds_toArray, List.set_cons_zero, List.set_cons_succ, d6]
          go_simp
          exact HKK.out _ _ ⟨_, by simp only [putAll, Act.put, List.setIfInBounds_toArray, List.set_cons_zero, List.set_cons_succ, d6] <;> rfl, h0, h1, h2, h3, h4, h5, h6, h8, h10, h12, fun _ => rfl, h14, h15, h16, hB, hA7, hA9, hA11, hE⟩
        · obtain rfl := Option.some.inj hi
          clear hi hil
          have d6 := h6 (hall ⟨6, .guard⟩ (by simp) rfl)
          have d13 := h13 (hall ⟨13, .data⟩ (by simp) rfl)
          have cv := conv_row (HVW.out.on hB.out.1) HM255.out
          refine StepOk.on 6 false rfl rfl d6 (fun K hK => ?_)
          have HKK := Lib.hid hK; clear hK
          simp only [putAll, Act.put, List.setIfInBounds_toArray, List.set_cons_zero, List.set_cons_succ, d6, d13]
          go_simp
          exact HKK.out _ _ ⟨_, by simp only [putAll, Act.put, List.setIfInBounds_toArray, List.set_cons_zero, List.set_cons_succ, d6, d13] <;> rfl, h0, h1, h2, h3, h4, h5, h6, h8, h10, h12, h13, fun _ => rfl, h15, h16, hB, hA7, hA9, hA11, hE⟩
        · obtain rfl := Option.some.inj hi
          clear hi hil
          have d6 := h6 (hall ⟨6, .guard⟩ (by simp) rfl)
          have d12 := h12 (hall ⟨12, .data⟩ (by simp) rfl)
          have d14 := h14 (hall ⟨14, .data⟩ (by simp) rfl)
          refine StepOk.on 6 false rfl rfl d6 (fun K hK => ?_)
          have HKK := Lib.hid hK; clear hK
          simp only [putAll, Act.put, List.setIfInBounds_toArray, List.set_cons_zero, List.set_cons_succ, d6, d12, d14]
          go_simp
          exact HKK.out _ _ ⟨_, by simp only [putAll, Act.put, List.setIfInBounds_toArray, List.set_cons_zero, List.set_cons_succ, d6, d12, d14] <;> rfl, h0, h1, h2, h3, h4, h5, h6, h8, h10, h12, h13, h14, fun _ => rfl, h16, hB, hA7, hA9, hA11, hE⟩
        · obtain rfl := Option.some.inj hi
          clear hi hil
          have d6 := h6 (hall ⟨6, .data⟩ (by simp) rfl)
          have d15 := h15 (hall ⟨15, .data⟩ (by simp) rfl)
          refine StepOk.plain rfl (fun K hK => ?_)
          have HKK := Lib.hid hK; clear hK
          simp only [putAll, Act.put, List.setIfInBounds_toArray, List.set_cons_zero, List.set_cons_succ, d6, d15]
          go_simp
          exact HKK.out _ _ ⟨_, by simp only [putAll, Act.put, List.setIfInBounds_toArray, List.set_cons_zero, List.set_cons_succ, d6, d15] <;> rfl, h0, h1, h2, h3, h4, h5, h6, h8, h10, h12, h13, h14, h15, fun _ => rfl, hB, hA7, hA9, hA11, hE⟩
        · omega
      · rintro b' vs w6 hall ⟨h0, h1, h2, h3, h4, h5, h6, h8, h10, h12, h13, h14, h15, h16, hB, hA7, hA9, hA11, hE⟩
        have d0 := h0 (hall 0 (by simp))
        have d1 := h1 (hall 1 (by simp))
        have d2 := h2 (hall 2 (by simp))
        have d3 := h3 (hall 3 (by simp))
        have d4 := h4 (hall 4 (by simp))
        have d5 := h5 (hall 5 (by simp))
        have d6 := h6 (hall 6 (by simp))
        have d8 := h8 (hall 8 (by simp))
        have d10 := h10 (hall 10 (by simp))
        have d12 := h12 (hall 12 (by simp))
        have d13 := h13 (hall 13 (by simp))
        have d14 := h14 (hall 14 (by simp))
        have d15 := h15 (hall 15 (by simp))
        have d16 := h16 (hall 16 (by simp))
        have BB := hB
        simp only [putAll, Act.put, List.setIfInBounds_toArray, List.set_cons_zero, List.set_cons_succ, d0, d1, d2, d3, d4, d5, d6, d8, d10, d12, d13, d14, d15, d16]
        clear hall h0 d0 h1 d1 h2 d2 h3 d3 h4 d4 h5 d5 h6 d6 h8 d8 h10 d10 h12 d12 h13 d13 h14 d14 h15 d15 h16 d16 hB hA7 hA9 hA11 hE
        generalize vs 7 = u7 at *
        generalize vs 9 = u9 at *
        generalize vs 11 = u11 at *
        have S6 : Hid (Below w.heap.size w w6 ∧ Blk w6 w.heap.size 45 #[.slice ao n c, .int .i64 rule, .int .i64 x0, .int .i64 y0, .int .i64 (x0 + (A : Int)), .int .i64 (y0 + (D : Int)), .int .i64 (k : Int)] ∧ Blk w6 (w.heap.size + 1) 24 (four ⟨x0, y0, (x0 + (A : Int)), (y0 + (D : Int))⟩)) := ⟨S5.out.1.trans (BB.out.1.mono S5.out.1.size), S5.out.2.1.grow BB.out.1, S5.out.2.2.grow BB.out.1⟩
        have B6 : Hid (Below w3.heap.size w3 w6) := B5.out.trans (BB.out.1.mono B5.out.size)
        clear BB HVa HVb HVW HSUM HLab HMa HMb HNCa HNCb S4 S5 B4 B5
        by_cases g2 : k < A
        · have hd2 : decide ((k : Int) < (A : Int)) = true := by simp; omega
          obtain ⟨hx0a, hx0b⟩ := HX.out
          obtain ⟨hy0a, hy0b⟩ := HY.out
          obtain ⟨hA1, hD1, hA4, hD4, hAD40⟩ := HAD.out
          have q0 : w6.cell? ⟨w.heap.size, 0, none⟩ = some (.slice ao n c) := S6.out.2.1.cell 0
          have q1 : w6.cell? ⟨w.heap.size, 1, none⟩ = some (.int .i64 rule) := S6.out.2.1.cell 1
          have q6 : w6.cell? ⟨w.heap.size, 6, none⟩ = some (.int .i64 (k : Int)) := S6.out.2.1.cell 6
          have a0 := S6.out.2.2.b0
          have a1 := S6.out.2.2.b1
          have a2 := S6.out.2.2.b2
          have a3 := S6.out.2.2.b3
          simp only at a0 a1 a2 a3
          go_wp2_with fail
          refine (HMK.out HS.out ⟨x0, y0, x0 + (k : Int), y0 + (D : Int)⟩ _ S6.out.1).mono ?_
          rintro e w7 ⟨va, na, ca, rfl, hv, hnc, hb⟩
          have S7 : Hid (Below w.heap.size w w7 ∧ Blk w7 w.heap.size 45 #[.slice ao n c, .int .i64 rule, .int .i64 x0, .int .i64 y0, .int .i64 (x0 + (A : Int)), .int .i64 (y0 + (D : Int)), .int .i64 (k : Int)] ∧ Blk w7 (w.heap.size + 1) 24 (four ⟨x0, y0, (x0 + (A : Int)), (y0 + (D : Int))⟩)) := ⟨S6.out.1.trans (hb.mono S6.out.1.size), S6.out.2.1.grow hb, S6.out.2.2.grow hb⟩
          have hm1 := HOK.out ⟨x0, y0, x0 + (k : Int), y0 + (D : Int)⟩ (by rw [winB_iff]; simp only; omega)
          obtain ⟨Ma, hMa⟩ : ∃ L, maskI (S.map Prod.snd) rule ⟨x0, y0, x0 + (k : Int), y0 + (D : Int)⟩ = L := ⟨_, rfl⟩
          have HMa := Lib.hid hMa
          simp only [hm1, hMa] at hv ⊢
          have HVa := Lib.hid hv
          have HNCa := Lib.hid hnc
          have B7 : Hid (Below w6.heap.size w6 w7) := hb
          clear hm1 hMa
          have HBA : Hid (Below w3.heap.size w3 w7) := B6.out.trans (hb.mono B6.out.size)
          clear hb hv hnc
          clear q0 q1 q6 a0 a1 a2 a3
          have q0 : w7.cell? ⟨w.heap.size, 0, none⟩ = some (.slice ao n c) := S7.out.2.1.cell 0
          have q1 : w7.cell? ⟨w.heap.size, 1, none⟩ = some (.int .i64 rule) := S7.out.2.1.cell 1
          have q6 : w7.cell? ⟨w.heap.size, 6, none⟩ = some (.int .i64 (k : Int)) := S7.out.2.1.cell 6
          have a0 := S7.out.2.2.b0
          have a1 := S7.out.2.2.b1
          have a2 := S7.out.2.2.b2
          have a3 := S7.out.2.2.b3
          simp only at a0 a1 a2 a3
          go_wp2_with fail
          refine (HMK.out HS.out ⟨x0 + (k : Int), y0, x0 + (A : Int), y0 + (D : Int)⟩ _ S7.out.1).mono ?_
          rintro e w8 ⟨vb, nb, cb, rfl, hv, hnc, hb⟩
          have S8 : Hid (Below w.heap.size w w8 ∧ Blk w8 w.heap.size 45 #[.slice ao n c, .int .i64 rule, .int .i64 x0, .int .i64 y0, .int .i64 (x0 + (A : Int)), .int .i64 (y0 + (D : Int)), .int .i64 (k : Int)] ∧ Blk w8 (w.heap.size + 1) 24 (four ⟨x0, y0, (x0 + (A : Int)), (y0 + (D : Int))⟩)) := ⟨S7.out.1.trans (hb.mono S7.out.1.size), S7.out.2.1.grow hb, S7.out.2.2.grow hb⟩
          have hm1 := HOK.out ⟨x0 + (k : Int), y0, x0 + (A : Int), y0 + (D : Int)⟩ (by rw [winB_iff]; simp only; omega)
          obtain ⟨Mb, hMb⟩ : ∃ L, maskI (S.map Prod.snd) rule ⟨x0 + (k : Int), y0, x0 + (A : Int), y0 + (D : Int)⟩ = L := ⟨_, rfl⟩
          have HMb := Lib.hid hMb
          simp only [hm1, hMb] at hv ⊢
          have HVb := Lib.hid hv
          have HNCb := Lib.hid hnc
          have B8 : Hid (Below w6.heap.size w6 w8) := B7.out.trans (hb.mono B7.out.size)
          have HBB : Hid (Below w3.heap.size w3 w8) := HBA.out.trans (hb.mono HBA.out.size)
          have HVa2 : Hid (VRow w8 (.slice va na ca) (bytesL Ma)) := HVa.out.on hb
          have HVW : Hid (VRow w8 (.slice (some ⟨mb, mo, none⟩) NM mc) (bytesL M)) := HV.out.on HBB.out
          obtain ⟨d, hd⟩ : ∃ d : Nat, k + d = A := ⟨A - k, by omega⟩
          have l1 : Ma.length = k * D := by rw [← HMa.out, maskI_length]; unfold acrossI downI; simp only; congr 1 <;> omega
          have l2 : Mb.length = d * D := by rw [← HMb.out, maskI_length]; unfold acrossI downI; simp only; congr 1 <;> omega
          have hd0 : 0 < d := by omega
          obtain ⟨ba, oa, ca2, hsa, hba, hca⟩ := HVa2.out.open (by rw [bytes_length, l1]; exact Nat.mul_pos hk0 hD1)
          rw [bytes_length, l1] at hsa
          obtain ⟨rfl, rfl, rfl⟩ : va = some ⟨ba, oa, none⟩ ∧ na = k * D ∧ ca = ca2 := by simp only [Value.slice.injEq] at hsa; exact ⟨hsa.1, hsa.2.1, hsa.2.2⟩
          obtain ⟨bb, ob, cb2, hsb, hbb, hcb⟩ := HVb.out.open (by rw [bytes_length, l2]; exact Nat.mul_pos hd0 hD1)
          rw [bytes_length, l2] at hsb
          obtain ⟨rfl, rfl, rfl⟩ : vb = some ⟨bb, ob, none⟩ ∧ nb = d * D ∧ cb = cb2 := by simp only [Value.slice.injEq] at hsb; exact ⟨hsb.1, hsb.2.1, hsb.2.2⟩
          have hMa255 : ∀ m ∈ Ma, m ≤ 255 := fun m hm => by rw [← HMa.out] at hm; have := maskI_le _ _ _ m hm; omega
          have hMb255 : ∀ m ∈ Mb, m ≤ 255 := fun m hm => by rw [← HMb.out] at hm; have := maskI_le _ _ _ m hm; omega
          obtain ⟨na, hna⟩ : ∃ z, k * D = z := ⟨_, rfl⟩
          obtain ⟨nb, hnb⟩ : ∃ z, d * D = z := ⟨_, rfl⟩
          have HNA := Lib.hid hna; have HNB := Lib.hid hnb
          have hAdD : A * D = na + nb := by rw [← hd, Nat.add_mul, hna, hnb]
          obtain ⟨e205, e220⟩ := two_small k d D A na nb hd hna hnb HAD.out.2.2.2.2
          have eAk : (A : Int) - (k : Int) = (d : Int) := by rw [← hd]; simp; omega
          have hnea : ((na : Int) != (na : Int)) = false := by simp
          have hneb : ((nb : Int) != (nb : Int)) = false := by simp
          rw [hna] at HNCa ⊢
          rw [hnb] at HNCb ⊢
          have HLL : Hid (Ma.length = na ∧ Mb.length = nb) := ⟨by rw [l1, hna], by rw [l2, hnb]⟩
          have HCA : Hid (∀ (l1 n : Nat), l1 + n ≤ na → ∀ W c, Below w8.heap.size w8 W → (convert 29 9 (.slice (some ⟨ba, oa + l1, none⟩) n c)).run Try.prog W = .ok (.string (strB ((Ma.drop l1).take n))) W) := fun l1 n h W c hW =>
            conv_cut (fun i x hx => by rw [cell_below hW hba]; exact hca i x hx) (Nat.lt_of_lt_of_le hba hW.size) hMa255 l1 (by rw [HLL.out.1]; exact h)
          have HCB : Hid (∀ (l1 n : Nat), l1 + n ≤ nb → ∀ W c, Below w8.heap.size w8 W → (convert 29 9 (.slice (some ⟨bb, ob + l1, none⟩) n c)).run Try.prog W = .ok (.string (strB ((Mb.drop l1).take n))) W) := fun l1 n h W c hW =>
            conv_cut (fun i x hx => by rw [cell_below hW hbb]; exact hcb i x hx) (Nat.lt_of_lt_of_le hbb hW.size) hMb255 l1 (by rw [HLL.out.2]; exact h)
          have HCW : Hid (∀ (l1 n : Nat), l1 + n ≤ NM → ∀ W c, Below w8.heap.size w8 W → (convert 29 9 (.slice (some ⟨mb, mo + l1, none⟩) n c)).run Try.prog W = .ok (.string (strB ((M.drop l1).take n))) W) := fun l1 n h W c hW => by
            have hb3 := HBB.out.trans (hW.mono HBB.out.size)
            exact conv_cut (fun i x hx => by rw [cell_below hb3 HMC.out.1]; exact HMC.out.2 i x hx) (Nat.lt_of_lt_of_le HMC.out.1 hb3.size) HM255.out l1 (by rw [HML.out]; exact h)
          have HKD : Hid (k + d = A ∧ A * D = na + nb ∧ NM = na + nb ∧ 0 < d) := ⟨hd, hAdD, by rw [← HNM.out]; exact hAdD, hd0⟩
          have HSUBL : Hid (∀ j, j < D → strB ((M.drop (j * A)).take k) = strB ((Ma.drop (j * k)).take k)) := fun j hj => by
            rw [← HMM.out, ← HMa.out]
            congr 1
            exact mask_left _ _ _ _ _ _ k A D j rfl rfl (by omega) hj
          have HSUBR : Hid (∀ j, j < D → strB ((M.drop (j * A + k)).take d) = strB ((Mb.drop (j * d)).take d)) := fun j hj => by
            rw [← HMM.out, ← HMb.out]
            congr 1
            exact mask_right _ _ _ _ _ _ k d A D j rfl rfl hd hj
          clear hb hv hnc hm1 hMb l1 l2 hsa hba hca hsb hbb hcb hMa255 hMb255 hna hnb hd hd0 hAdD HVa HVa2 HVb HVW
          clear q0 q1 q6 a0 a1 a2 a3
          have q0 : w8.cell? ⟨w.heap.size, 0, none⟩ = some (.slice ao n c) := S8.out.2.1.cell 0
          have q1 : w8.cell? ⟨w.heap.size, 1, none⟩ = some (.int .i64 rule) := S8.out.2.1.cell 1
          have q6 : w8.cell? ⟨w.heap.size, 6, none⟩ = some (.int .i64 (k : Int)) := S8.out.2.1.cell 6
          have a0 := S8.out.2.2.b0
          have a1 := S8.out.2.2.b1
          have a2 := S8.out.2.2.b2
          have a3 := S8.out.2.2.b3
          simp only at a0 a1 a2 a3
          go_wp2_with fail
          clear e205 e220 hnea hneb
          clear q0 q1 q6 a0 a1 a2 a3
          go_loopw [228] (fun i wr => ∃ j : Nat, j ≤ D ∧ i = .int .i64 (j : Int) ∧ Hid (Below w8.heap.size w8 wr)) (fun i _ => D - (intOf i).toNat)
          case atStart => exact ⟨0, by omega, rfl, Below.refl _ _⟩
          case round =>
            obtain ⟨j, hj, rfl, hv⟩ := hrel
            by_cases hlt : j < D
            · have hd2 : decide ((j : Int) < (D : Int)) = true := by simp; omega
              obtain ⟨hkd1, hkd2, hkd3, hkd4⟩ := HKD.out
              have r1 := Nat.mul_le_mul_right A (show j + 1 ≤ D from hlt)
              have r2 := Nat.mul_le_mul_right k (show j + 1 ≤ D from hlt)
              have r3 := Nat.mul_le_mul_right d (show j + 1 ≤ D from hlt)
              have z1 : (j + 1) * A = j * A + A := Nat.succ_mul _ _
              have z2 : (j + 1) * k = j * k + k := Nat.succ_mul _ _
              have z3 : (j + 1) * d = j * d + d := Nat.succ_mul _ _
              rw [Nat.mul_comm D A, HNM.out] at r1
              rw [Nat.mul_comm D k, HNA.out] at r2
              rw [Nat.mul_comm D d, HNB.out] at r3
              have hsl := HSUBL.out j hlt
              have hsr := HSUBR.out j hlt
              have y1 : ((j : Int) * (A : Int)) = ((j * A : Nat) : Int) := by rw [Int.natCast_mul]
              have y2 : ((j : Int) * (k : Int)) = ((j * k : Nat) : Int) := by rw [Int.natCast_mul]
              have y3 : ((j : Int) * (d : Int)) = ((j * d : Nat) : Int) := by rw [Int.natCast_mul]
              have y4 : (((j : Int) + 1) * (A : Int)) = (((j + 1) * A : Nat) : Int) := by rw [Int.natCast_mul]; rfl
              have y5 : (((j : Int) + 1) * (k : Int)) = (((j + 1) * k : Nat) : Int) := by rw [Int.natCast_mul]; rfl
              have y6 : (((j : Int) + 1) * (d : Int)) = (((j + 1) * d : Nat) : Int) := by rw [Int.natCast_mul]; rfl
              rw [z1] at r1 y4
              rw [z2] at r2 y5
              rw [z3] at r3 y6
              clear z1 z2 z3
              obtain ⟨m1, hm1⟩ : ∃ z, j * A = z := ⟨_, rfl⟩
              obtain ⟨m2, hm2⟩ : ∃ z, j * k = z := ⟨_, rfl⟩
              obtain ⟨m3, hm3⟩ : ∃ z, j * d = z := ⟨_, rfl⟩
              rw [hm1] at r1 y1 y4 hsl hsr
              rw [hm2] at r2 y2 y5 hsl
              rw [hm3] at r3 y3 y6 hsr
              have hcap := HNC.out; have hcapa := HNCa.out; have hcapb := HNCb.out
              have EE := Lib.hid (part_eqs j k d A m1 m2 m3 na nb NM hkd1 hkd3 r1 r2 r3 (by have h := HAD.out.2.2.2.2; rwa [HNM.out] at h) y1 y2 y3 y4 y5 y6 (by have h := HAD.out.2.2.2.1; omega))
              have HC1 := Lib.hid (fun W : World => cut_mid mb mo NM mc m1 (m1 + k) (by omega) hcap (by omega) W)
              have HC2 := Lib.hid (fun W : World => cut_mid ba oa na ca m2 (m2 + k) (by omega) hcapa (by omega) W)
              have HC3 := Lib.hid (fun W : World => cut_mid mb mo NM mc (m1 + k) (m1 + A) (by omega) hcap (by omega) W)
              have HC4 := Lib.hid (fun W : World => cut_mid bb ob nb cb m3 (m3 + d) (by omega) hcapb (by omega) W)
              have HT1 : Hid (∀ W, Below w8.heap.size w8 W → (convert 29 9 (.slice (some ⟨mb, mo + m1, none⟩) (m1 + k - m1) (mc - m1))).run Try.prog W = .ok (.string (strB ((Ma.drop m2).take k))) W) := fun W hW => by
                rw [HCW.out m1 (m1 + k - m1) (by omega) W _ hW, show m1 + k - m1 = k by omega, hsl]
              have HT2 : Hid (∀ W, Below w8.heap.size w8 W → (convert 29 9 (.slice (some ⟨ba, oa + m2, none⟩) (m2 + k - m2) (ca - m2))).run Try.prog W = .ok (.string (strB ((Ma.drop m2).take k))) W) := fun W hW => by
                rw [HCA.out m2 (m2 + k - m2) (by omega) W _ hW, show m2 + k - m2 = k by omega]
              have HT3 : Hid (∀ W, Below w8.heap.size w8 W → (convert 29 9 (.slice (some ⟨mb, mo + (m1 + k), none⟩) (m1 + A - (m1 + k)) (mc - (m1 + k)))).run Try.prog W = .ok (.string (strB ((Mb.drop m3).take d))) W) := fun W hW => by
                rw [HCW.out (m1 + k) (m1 + A - (m1 + k)) (by omega) W _ hW, show m1 + A - (m1 + k) = d by omega, hsr]
              have HT4 : Hid (∀ W, Below w8.heap.size w8 W → (convert 29 9 (.slice (some ⟨bb, ob + m3, none⟩) (m3 + d - m3) (cb - m3))).run Try.prog W = .ok (.string (strB ((Mb.drop m3).take d))) W) := fun W hW => by
                rw [HCB.out m3 (m3 + d - m3) (by omega) W _ hW, show m3 + d - m3 = d by omega]
              have ewd : IntKind.i64.wrap (d : Int) = (d : Int) := by rw [wrap_is]; exact wrapR _ (by omega) (by omega)
              obtain ⟨u1, hu1⟩ : ∃ z, m1 + k = z := ⟨_, rfl⟩
              obtain ⟨u2, hu2⟩ : ∃ z, m1 + A = z := ⟨_, rfl⟩
              obtain ⟨u3, hu3⟩ : ∃ z, m2 + k = z := ⟨_, rfl⟩
              obtain ⟨u4, hu4⟩ : ∃ z, m3 + d = z := ⟨_, rfl⟩
              rw [hu1, hu2, hu3, hu4] at EE
              rw [hu1] at HC1 HT1
              rw [hu1, hu2] at HC3 HT3
              rw [hu3] at HC2 HT2
              rw [hu4] at HC4 HT4
              clear hu1 hu2 hu3 hu4
              have hD4' : D ≤ 256 := by obtain ⟨_, _, _, h4, _⟩ := HAD.out; exact h4
              have HQ6 : Hid (∀ W, Below w8.heap.size w8 W → W.cell? ⟨w.heap.size, 6, none⟩ = some (.int .i64 (k : Int))) := fun W hW => (S8.out.2.1.grow hW).cell 6
              clear hkd1 hkd2 hkd3 hkd4 r1 r2 r3 hsl hsr y1 y2 y3 y4 y5 y6 hm1 hm2 hm3 hcap hcapa hcapb
              generalize (strB ((Ma.drop m2).take k)) = T1 at HT1 HT2
              generalize (strB ((Mb.drop m3).take d)) = T2 at HT3 HT4
              go_wp2_with fail
              refine wp_region_quiet (C := Out wr) (by kernel_rfl) (by kernel_rfl) ⟨rfl, rfl, rfl, Nat.le_refl _, fun _ _ => rfl⟩ ?_
              refine BigFrame.wpQuiet_want rfl (fun K hK => ?_)
              refine quiet_val (.slice (some ⟨mb, mo, none⟩) NM mc) (fun w' hw' => by go_simp) (hK _ ?_)
              clear hK K
              simp only [Act.put, List.setIfInBounds_toArray, List.set_cons_zero, List.set_cons_succ]
              refine BigFrame.wpQuiet_want rfl (fun K hK => ?_)
              refine quiet_val (.int .i64 (j : Int)) (fun w' hw' => by go_simp) (hK _ ?_)
              clear hK K
              simp only [Act.put, List.setIfInBounds_toArray, List.set_cons_zero, List.set_cons_succ]
              refine BigFrame.wpQuiet_want rfl (fun K hK => ?_)
              refine quiet_val (.int .i64 (A : Int)) (fun w' hw' => by go_simp) (hK _ ?_)
              clear hK K
              simp only [Act.put, List.setIfInBounds_toArray, List.set_cons_zero, List.set_cons_succ]
              refine BigFrame.wpQuiet_want rfl (fun K hK => ?_)
              refine quiet_val (.int .i64 (m1 : Int)) (fun w' hw' => by have ee := EE.out.1; go_simp) (hK _ ?_)
              clear hK K
              simp only [Act.put, List.setIfInBounds_toArray, List.set_cons_zero, List.set_cons_succ]
              refine BigFrame.wpQuiet_want rfl (fun K hK => ?_)
              refine quiet_val (.int .i64 (j : Int)) (fun w' hw' => by go_simp) (hK _ ?_)
              clear hK K
              simp only [Act.put, List.setIfInBounds_toArray, List.set_cons_zero, List.set_cons_succ]
              refine BigFrame.wpQuiet_want rfl (fun K hK => ?_)
              refine quiet_val (.int .i64 (A : Int)) (fun w' hw' => by go_simp) (hK _ ?_)
              clear hK K
              simp only [Act.put, List.setIfInBounds_toArray, List.set_cons_zero, List.set_cons_succ]
              refine BigFrame.wpQuiet_want rfl (fun K hK => ?_)
              refine quiet_val (.int .i64 (m1 : Int)) (fun w' hw' => by have ee := EE.out.1; go_simp) (hK _ ?_)
              clear hK K
              simp only [Act.put, List.setIfInBounds_toArray, List.set_cons_zero, List.set_cons_succ]
              refine BigFrame.wpQuiet_want rfl (fun K hK => ?_)
              refine quiet_val (.pointer (some ⟨w.heap.size, 6, none⟩)) (fun w' hw' => by go_simp) (hK _ ?_)
              clear hK K
              simp only [Act.put, List.setIfInBounds_toArray, List.set_cons_zero, List.set_cons_succ]
              refine BigFrame.wpQuiet_want rfl (fun K hK => ?_)
              refine quiet_val (.int .i64 (k : Int)) (fun w' hw' => by have c0 := HQ6.out w' (hv.out.trans (hw'.mono hv.out.size)); go_simp) (hK _ ?_)
              clear hK K
              simp only [Act.put, List.setIfInBounds_toArray, List.set_cons_zero, List.set_cons_succ]
              refine BigFrame.wpQuiet_want rfl (fun K hK => ?_)
              refine quiet_val (.int .i64 (u1 : Int)) (fun w' hw' => by have ee := EE.out.2.1; go_simp) (hK _ ?_)
              clear hK K
              simp only [Act.put, List.setIfInBounds_toArray, List.set_cons_zero, List.set_cons_succ]
              refine BigFrame.wpQuiet_want rfl (fun K hK => ?_)
              refine quiet_val (.slice (some ⟨mb, mo + m1, none⟩) (u1 - m1) (mc - m1)) (fun w' hw' => by have cc := HC1.out w'; go_simp) (hK _ ?_)
              clear hK K
              simp only [Act.put, List.setIfInBounds_toArray, List.set_cons_zero, List.set_cons_succ]
              refine BigFrame.wpQuiet_want rfl (fun K hK => ?_)
              refine quiet_val (.string T1) (fun w' hw' => by have cc := HT1.out w' (hv.out.trans (hw'.mono hv.out.size)); go_simp) (hK _ ?_)
              clear hK K
              simp only [Act.put, List.setIfInBounds_toArray, List.set_cons_zero, List.set_cons_succ]
              refine BigFrame.wpQuiet_want rfl (fun K hK => ?_)
              refine quiet_val (.slice (some ⟨ba, oa, none⟩) na ca) (fun w' hw' => by go_simp) (hK _ ?_)
              clear hK K
              simp only [Act.put, List.setIfInBounds_toArray, List.set_cons_zero, List.set_cons_succ]
              refine BigFrame.wpQuiet_want rfl (fun K hK => ?_)
              refine quiet_val (.int .i64 (j : Int)) (fun w' hw' => by go_simp) (hK _ ?_)
              clear hK K
              simp only [Act.put, List.setIfInBounds_toArray, List.set_cons_zero, List.set_cons_succ]
              refine BigFrame.wpQuiet_want rfl (fun K hK => ?_)
              refine quiet_val (.pointer (some ⟨w.heap.size, 6, none⟩)) (fun w' hw' => by go_simp) (hK _ ?_)
              clear hK K
              simp only [Act.put, List.setIfInBounds_toArray, List.set_cons_zero, List.set_cons_succ]
              refine BigFrame.wpQuiet_want rfl (fun K hK => ?_)
              refine quiet_val (.int .i64 (k : Int)) (fun w' hw' => by have c0 := HQ6.out w' (hv.out.trans (hw'.mono hv.out.size)); go_simp) (hK _ ?_)
              clear hK K
              simp only [Act.put, List.setIfInBounds_toArray, List.set_cons_zero, List.set_cons_succ]
              refine BigFrame.wpQuiet_want rfl (fun K hK => ?_)
              refine quiet_val (.int .i64 (m2 : Int)) (fun w' hw' => by have ee := EE.out.2.2.1; go_simp) (hK _ ?_)
              clear hK K
              simp only [Act.put, List.setIfInBounds_toArray, List.set_cons_zero, List.set_cons_succ]
              refine BigFrame.wpQuiet_want rfl (fun K hK => ?_)
              refine quiet_val (.int .i64 (j : Int)) (fun w' hw' => by go_simp) (hK _ ?_)
              clear hK K
              simp only [Act.put, List.setIfInBounds_toArray, List.set_cons_zero, List.set_cons_succ]
              refine BigFrame.wpQuiet_want rfl (fun K hK => ?_)
              refine quiet_val (.int .i64 ((j : Int) + 1)) (fun w' hw' => by have ee := EE.out.2.2.2.1; go_simp) (hK _ ?_)
              clear hK K
              simp only [Act.put, List.setIfInBounds_toArray, List.set_cons_zero, List.set_cons_succ]
              refine BigFrame.wpQuiet_want rfl (fun K hK => ?_)
              refine quiet_val (.pointer (some ⟨w.heap.size, 6, none⟩)) (fun w' hw' => by go_simp) (hK _ ?_)
              clear hK K
              simp only [Act.put, List.setIfInBounds_toArray, List.set_cons_zero, List.set_cons_succ]
              refine BigFrame.wpQuiet_want rfl (fun K hK => ?_)
              refine quiet_val (.int .i64 (k : Int)) (fun w' hw' => by have c0 := HQ6.out w' (hv.out.trans (hw'.mono hv.out.size)); go_simp) (hK _ ?_)
              clear hK K
              simp only [Act.put, List.setIfInBounds_toArray, List.set_cons_zero, List.set_cons_succ]
              refine BigFrame.wpQuiet_want rfl (fun K hK => ?_)
              refine quiet_val (.int .i64 (u3 : Int)) (fun w' hw' => by have ee := EE.out.2.2.2.2.1; go_simp) (hK _ ?_)
              clear hK K
              simp only [Act.put, List.setIfInBounds_toArray, List.set_cons_zero, List.set_cons_succ]
              refine BigFrame.wpQuiet_want rfl (fun K hK => ?_)
              refine quiet_val (.slice (some ⟨ba, oa + m2, none⟩) (u3 - m2) (ca - m2)) (fun w' hw' => by have cc := HC2.out w'; go_simp) (hK _ ?_)
              clear hK K
              simp only [Act.put, List.setIfInBounds_toArray, List.set_cons_zero, List.set_cons_succ]
              refine BigFrame.wpQuiet_want rfl (fun K hK => ?_)
              refine quiet_val (.string T1) (fun w' hw' => by have cc := HT2.out w' (hv.out.trans (hw'.mono hv.out.size)); go_simp) (hK _ ?_)
              clear hK K
              simp only [Act.put, List.setIfInBounds_toArray, List.set_cons_zero, List.set_cons_succ]
              refine BigFrame.wpQuiet_want rfl (fun K hK => ?_)
              refine quiet_val (.bool false) (fun w' hw' => by go_simp) (hK _ ?_)
              clear hK K
              simp only [Act.put, List.setIfInBounds_toArray, List.set_cons_zero, List.set_cons_succ]
              refine BigFrame.wpQuiet_want rfl (fun K hK => ?_)
              refine quiet_val (.bool false) (fun w' hw' => by go_simp) (hK _ ?_)
              clear hK K
              simp only [Act.put, List.setIfInBounds_toArray, List.set_cons_zero, List.set_cons_succ]
              refine BigFrame.wpQuiet_want rfl (fun K hK => ?_)
              refine quiet_val (.slice (some ⟨mb, mo, none⟩) NM mc) (fun w' hw' => by go_simp) (hK _ ?_)
              clear hK K
              simp only [Act.put, List.setIfInBounds_toArray, List.set_cons_zero, List.set_cons_succ]
              refine BigFrame.wpQuiet_want rfl (fun K hK => ?_)
              refine quiet_val (.int .i64 (j : Int)) (fun w' hw' => by go_simp) (hK _ ?_)
              clear hK K
              simp only [Act.put, List.setIfInBounds_toArray, List.set_cons_zero, List.set_cons_succ]
              refine BigFrame.wpQuiet_want rfl (fun K hK => ?_)
              refine quiet_val (.int .i64 (A : Int)) (fun w' hw' => by go_simp) (hK _ ?_)
              clear hK K
              simp only [Act.put, List.setIfInBounds_toArray, List.set_cons_zero, List.set_cons_succ]
              refine BigFrame.wpQuiet_want rfl (fun K hK => ?_)
              refine quiet_val (.int .i64 (m1 : Int)) (fun w' hw' => by have ee := EE.out.1; go_simp) (hK _ ?_)
              clear hK K
              simp only [Act.put, List.setIfInBounds_toArray, List.set_cons_zero, List.set_cons_succ]
              refine BigFrame.wpQuiet_want rfl (fun K hK => ?_)
              refine quiet_val (.pointer (some ⟨w.heap.size, 6, none⟩)) (fun w' hw' => by go_simp) (hK _ ?_)
              clear hK K
              simp only [Act.put, List.setIfInBounds_toArray, List.set_cons_zero, List.set_cons_succ]
              refine BigFrame.wpQuiet_want rfl (fun K hK => ?_)
              refine quiet_val (.int .i64 (k : Int)) (fun w' hw' => by have c0 := HQ6.out w' (hv.out.trans (hw'.mono hv.out.size)); go_simp) (hK _ ?_)
              clear hK K
              simp only [Act.put, List.setIfInBounds_toArray, List.set_cons_zero, List.set_cons_succ]
              refine BigFrame.wpQuiet_want rfl (fun K hK => ?_)
              refine quiet_val (.int .i64 (u1 : Int)) (fun w' hw' => by have ee := EE.out.2.1; go_simp) (hK _ ?_)
              clear hK K
              simp only [Act.put, List.setIfInBounds_toArray, List.set_cons_zero, List.set_cons_succ]
              refine BigFrame.wpQuiet_want rfl (fun K hK => ?_)
              refine quiet_val (.int .i64 (j : Int)) (fun w' hw' => by go_simp) (hK _ ?_)
              clear hK K
              simp only [Act.put, List.setIfInBounds_toArray, List.set_cons_zero, List.set_cons_succ]
              refine BigFrame.wpQuiet_want rfl (fun K hK => ?_)
              refine quiet_val (.int .i64 ((j : Int) + 1)) (fun w' hw' => by have ee := EE.out.2.2.2.1; go_simp) (hK _ ?_)
              clear hK K
              simp only [Act.put, List.setIfInBounds_toArray, List.set_cons_zero, List.set_cons_succ]
              refine BigFrame.wpQuiet_want rfl (fun K hK => ?_)
              refine quiet_val (.int .i64 (A : Int)) (fun w' hw' => by go_simp) (hK _ ?_)
              clear hK K
              simp only [Act.put, List.setIfInBounds_toArray, List.set_cons_zero, List.set_cons_succ]
              refine BigFrame.wpQuiet_want rfl (fun K hK => ?_)
              refine quiet_val (.int .i64 (u2 : Int)) (fun w' hw' => by have ee := EE.out.2.2.2.2.2.1; go_simp) (hK _ ?_)
              clear hK K
              simp only [Act.put, List.setIfInBounds_toArray, List.set_cons_zero, List.set_cons_succ]
              refine BigFrame.wpQuiet_want rfl (fun K hK => ?_)
              refine quiet_val (.slice (some ⟨mb, mo + u1, none⟩) (u2 - u1) (mc - u1)) (fun w' hw' => by have cc := HC3.out w'; go_simp) (hK _ ?_)
              clear hK K
              simp only [Act.put, List.setIfInBounds_toArray, List.set_cons_zero, List.set_cons_succ]
              refine BigFrame.wpQuiet_want rfl (fun K hK => ?_)
              refine quiet_val (.string T2) (fun w' hw' => by have cc := HT3.out w' (hv.out.trans (hw'.mono hv.out.size)); go_simp) (hK _ ?_)
              clear hK K
              simp only [Act.put, List.setIfInBounds_toArray, List.set_cons_zero, List.set_cons_succ]
              refine BigFrame.wpQuiet_want rfl (fun K hK => ?_)
              refine quiet_val (.slice (some ⟨bb, ob, none⟩) nb cb) (fun w' hw' => by go_simp) (hK _ ?_)
              clear hK K
              simp only [Act.put, List.setIfInBounds_toArray, List.set_cons_zero, List.set_cons_succ]
              refine BigFrame.wpQuiet_want rfl (fun K hK => ?_)
              refine quiet_val (.int .i64 (j : Int)) (fun w' hw' => by go_simp) (hK _ ?_)
              clear hK K
              simp only [Act.put, List.setIfInBounds_toArray, List.set_cons_zero, List.set_cons_succ]
              refine BigFrame.wpQuiet_want rfl (fun K hK => ?_)
              refine quiet_val (.int .i64 (A : Int)) (fun w' hw' => by go_simp) (hK _ ?_)
              clear hK K
              simp only [Act.put, List.setIfInBounds_toArray, List.set_cons_zero, List.set_cons_succ]
              refine BigFrame.wpQuiet_want rfl (fun K hK => ?_)
              refine quiet_val (.pointer (some ⟨w.heap.size, 6, none⟩)) (fun w' hw' => by go_simp) (hK _ ?_)
              clear hK K
              simp only [Act.put, List.setIfInBounds_toArray, List.set_cons_zero, List.set_cons_succ]
              refine BigFrame.wpQuiet_want rfl (fun K hK => ?_)
              refine quiet_val (.int .i64 (k : Int)) (fun w' hw' => by have c0 := HQ6.out w' (hv.out.trans (hw'.mono hv.out.size)); go_simp) (hK _ ?_)
              clear hK K
              simp only [Act.put, List.setIfInBounds_toArray, List.set_cons_zero, List.set_cons_succ]
              refine BigFrame.wpQuiet_want rfl (fun K hK => ?_)
              refine quiet_val (.int .i64 (d : Int)) (fun w' hw' => by have ee := EE.out.2.2.2.2.2.2.1; go_simp) (hK _ ?_)
              clear hK K
              simp only [Act.put, List.setIfInBounds_toArray, List.set_cons_zero, List.set_cons_succ]
              refine BigFrame.wpQuiet_want rfl (fun K hK => ?_)
              refine quiet_val (.int .i64 (m3 : Int)) (fun w' hw' => by have ee := EE.out.2.2.2.2.2.2.2.1; go_simp) (hK _ ?_)
              clear hK K
              simp only [Act.put, List.setIfInBounds_toArray, List.set_cons_zero, List.set_cons_succ]
              refine BigFrame.wpQuiet_want rfl (fun K hK => ?_)
              refine quiet_val (.int .i64 (j : Int)) (fun w' hw' => by go_simp) (hK _ ?_)
              clear hK K
              simp only [Act.put, List.setIfInBounds_toArray, List.set_cons_zero, List.set_cons_succ]
              refine BigFrame.wpQuiet_want rfl (fun K hK => ?_)
              refine quiet_val (.int .i64 ((j : Int) + 1)) (fun w' hw' => by have ee := EE.out.2.2.2.1; go_simp) (hK _ ?_)
              clear hK K
              simp only [Act.put, List.setIfInBounds_toArray, List.set_cons_zero, List.set_cons_succ]
              refine BigFrame.wpQuiet_want rfl (fun K hK => ?_)
              refine quiet_val (.int .i64 (A : Int)) (fun w' hw' => by go_simp) (hK _ ?_)
              clear hK K
              simp only [Act.put, List.setIfInBounds_toArray, List.set_cons_zero, List.set_cons_succ]
              refine BigFrame.wpQuiet_want rfl (fun K hK => ?_)
              refine quiet_val (.pointer (some ⟨w.heap.size, 6, none⟩)) (fun w' hw' => by go_simp) (hK _ ?_)
              clear hK K
              simp only [Act.put, List.setIfInBounds_toArray, List.set_cons_zero, List.set_cons_succ]
              refine BigFrame.wpQuiet_want rfl (fun K hK => ?_)
              refine quiet_val (.int .i64 (k : Int)) (fun w' hw' => by have c0 := HQ6.out w' (hv.out.trans (hw'.mono hv.out.size)); go_simp) (hK _ ?_)
              clear hK K
              simp only [Act.put, List.setIfInBounds_toArray, List.set_cons_zero, List.set_cons_succ]
              refine BigFrame.wpQuiet_want rfl (fun K hK => ?_)
              refine quiet_val (.int .i64 (d : Int)) (fun w' hw' => by have ee := EE.out.2.2.2.2.2.2.1; go_simp) (hK _ ?_)
              clear hK K
              simp only [Act.put, List.setIfInBounds_toArray, List.set_cons_zero, List.set_cons_succ]
              refine BigFrame.wpQuiet_want rfl (fun K hK => ?_)
              refine quiet_val (.int .i64 (u4 : Int)) (fun w' hw' => by have ee := EE.out.2.2.2.2.2.2.2.2; go_simp) (hK _ ?_)
              clear hK K
              simp only [Act.put, List.setIfInBounds_toArray, List.set_cons_zero, List.set_cons_succ]
              refine BigFrame.wpQuiet_want rfl (fun K hK => ?_)
              refine quiet_val (.slice (some ⟨bb, ob + m3, none⟩) (u4 - m3) (cb - m3)) (fun w' hw' => by have cc := HC4.out w'; go_simp) (hK _ ?_)
              clear hK K
              simp only [Act.put, List.setIfInBounds_toArray, List.set_cons_zero, List.set_cons_succ]
              refine BigFrame.wpQuiet_want rfl (fun K hK => ?_)
              refine quiet_val (.string T2) (fun w' hw' => by have cc := HT4.out w' (hv.out.trans (hw'.mono hv.out.size)); go_simp) (hK _ ?_)
              clear hK K
              simp only [Act.put, List.setIfInBounds_toArray, List.set_cons_zero, List.set_cons_succ]
              refine BigFrame.wpQuiet_want rfl (fun K hK => ?_)
              refine quiet_val (.bool false) (fun w' hw' => by go_simp) (hK _ ?_)
              clear hK K
              simp only [Act.put, List.setIfInBounds_toArray, List.set_cons_zero, List.set_cons_succ]
              refine BigFrame.wpQuiet_want rfl (fun K hK => ?_)
              refine quiet_val (.bool false) (fun w' hw' => by go_simp) (hK _ ?_)
              clear hK K
              simp only [Act.put, List.setIfInBounds_toArray, List.set_cons_zero, List.set_cons_succ]
              refine wpQuiet_nil ?_
              intro w19 hb19
              have B19 : Hid (Below w8.heap.size w8 w19) := hv.out.trans (hb19.mono hv.out.size)
              clear hb19
              go_wp2_with fail
              exact ⟨⟨j + 1, by omega, by go_num, B19.out⟩, by simp [intOf]; omega⟩
            · have hd2 : decide ((j : Int) < (D : Int)) = false := by simp; omega
              have BL : Hid (Below w.heap.size w wr) := S8.out.1.trans (hv.out.mono S8.out.1.size)
              go_wp2_with fail
              refine (HAW.out _).mono ?_
              rintro e w9 ⟨rfl, hb⟩
              have B9 : Hid (Below w.heap.size w w9) := (BL.out).trans (hb.mono (BL.out).size)
              clear hb
              go_wp2_with fail
              go_ret
              exact ⟨rfl, B9.out⟩
        · have hd2 : decide ((k : Int) < (A : Int)) = false := by simp; omega
          have q0 : w6.cell? ⟨w.heap.size, 0, none⟩ = some (.slice ao n c) := S6.out.2.1.cell 0
          have q1 : w6.cell? ⟨w.heap.size, 1, none⟩ = some (.int .i64 rule) := S6.out.2.1.cell 1
          have q6 : w6.cell? ⟨w.heap.size, 6, none⟩ = some (.int .i64 (k : Int)) := S6.out.2.1.cell 6
          have a0 := S6.out.2.2.b0
          have a1 := S6.out.2.2.b1
          have a2 := S6.out.2.2.b2
          have a3 := S6.out.2.2.b3
          simp only at a0 a1 a2 a3
          go_wp2_with fail
          refine (HAW.out _).mono ?_
          rintro e w9 ⟨rfl, hb⟩
          have B9 : Hid (Below w.heap.size w w9) := (S6.out.1).trans (hb.mono (S6.out.1).size)
          clear hb
          go_wp2_with fail
          go_ret
          exact ⟨rfl, B9.out⟩
    · have hd1 : decide ((k : Int) < (D : Int)) = false := by simp; omega
      by_cases g2 : k < A
      · have hd2 : decide ((k : Int) < (A : Int)) = true := by simp; omega
        obtain ⟨hx0a, hx0b⟩ := HX.out
        obtain ⟨hy0a, hy0b⟩ := HY.out
        obtain ⟨hA1, hD1, hA4, hD4, hAD40⟩ := HAD.out
        go_wp2_with fail
        refine (HMK.out HS.out ⟨x0, y0, x0 + (k : Int), y0 + (D : Int)⟩ _ S3.out.1).mono ?_
        rintro e w4 ⟨va, na, ca, rfl, hv, hnc, hb⟩
        have S4 : Hid (Below w.heap.size w w4 ∧ Blk w4 w.heap.size 45 #[.slice ao n c, .int .i64 rule, .int .i64 x0, .int .i64 y0, .int .i64 (x0 + (A : Int)), .int .i64 (y0 + (D : Int)), .int .i64 (k : Int)] ∧ Blk w4 (w.heap.size + 1) 24 (four ⟨x0, y0, (x0 + (A : Int)), (y0 + (D : Int))⟩)) := ⟨S3.out.1.trans (hb.mono S3.out.1.size), S3.out.2.1.grow hb, S3.out.2.2.grow hb⟩
        have hm1 := HOK.out ⟨x0, y0, x0 + (k : Int), y0 + (D : Int)⟩ (by rw [winB_iff]; simp only; omega)
        obtain ⟨Ma, hMa⟩ : ∃ L, maskI (S.map Prod.snd) rule ⟨x0, y0, x0 + (k : Int), y0 + (D : Int)⟩ = L := ⟨_, rfl⟩
        have HMa := Lib.hid hMa
        simp only [hm1, hMa] at hv ⊢
        have HVa := Lib.hid hv
        have HNCa := Lib.hid hnc
        have B4 : Hid (Below w3.heap.size w3 w4) := hb
        clear hm1 hMa
        have HBA : Hid (Below w3.heap.size w3 w4) := B4.out
        clear hb hv hnc
        clear q0 q1 q6 a0 a1 a2 a3
        have q0 : w4.cell? ⟨w.heap.size, 0, none⟩ = some (.slice ao n c) := S4.out.2.1.cell 0
        have q1 : w4.cell? ⟨w.heap.size, 1, none⟩ = some (.int .i64 rule) := S4.out.2.1.cell 1
        have q6 : w4.cell? ⟨w.heap.size, 6, none⟩ = some (.int .i64 (k : Int)) := S4.out.2.1.cell 6
        have a0 := S4.out.2.2.b0
        have a1 := S4.out.2.2.b1
        have a2 := S4.out.2.2.b2
        have a3 := S4.out.2.2.b3
        simp only at a0 a1 a2 a3
        go_wp2_with fail
        refine (HMK.out HS.out ⟨x0 + (k : Int), y0, x0 + (A : Int), y0 + (D : Int)⟩ _ S4.out.1).mono ?_
        rintro e w5 ⟨vb, nb, cb, rfl, hv, hnc, hb⟩
        have S5 : Hid (Below w.heap.size w w5 ∧ Blk w5 w.heap.size 45 #[.slice ao n c, .int .i64 rule, .int .i64 x0, .int .i64 y0, .int .i64 (x0 + (A : Int)), .int .i64 (y0 + (D : Int)), .int .i64 (k : Int)] ∧ Blk w5 (w.heap.size + 1) 24 (four ⟨x0, y0, (x0 + (A : Int)), (y0 + (D : Int))⟩)) := ⟨S4.out.1.trans (hb.mono S4.out.1.size), S4.out.2.1.grow hb, S4.out.2.2.grow hb⟩
        have hm1 := HOK.out ⟨x0 + (k : Int), y0, x0 + (A : Int), y0 + (D : Int)⟩ (by rw [winB_iff]; simp only; omega)
        obtain ⟨Mb, hMb⟩ : ∃ L, maskI (S.map Prod.snd) rule ⟨x0 + (k : Int), y0, x0 + (A : Int), y0 + (D : Int)⟩ = L := ⟨_, rfl⟩
        have HMb := Lib.hid hMb
        simp only [hm1, hMb] at hv ⊢
        have HVb := Lib.hid hv
        have HNCb := Lib.hid hnc
        have B5 : Hid (Below w3.heap.size w3 w5) := B4.out.trans (hb.mono B4.out.size)
        have HBB : Hid (Below w3.heap.size w3 w5) := HBA.out.trans (hb.mono HBA.out.size)
        have HVa2 : Hid (VRow w5 (.slice va na ca) (bytesL Ma)) := HVa.out.on hb
        have HVW : Hid (VRow w5 (.slice (some ⟨mb, mo, none⟩) NM mc) (bytesL M)) := HV.out.on HBB.out
        obtain ⟨d, hd⟩ : ∃ d : Nat, k + d = A := ⟨A - k, by omega⟩
        have l1 : Ma.length = k * D := by rw [← HMa.out, maskI_length]; unfold acrossI downI; simp only; congr 1 <;> omega
        have l2 : Mb.length = d * D := by rw [← HMb.out, maskI_length]; unfold acrossI downI; simp only; congr 1 <;> omega
        have hd0 : 0 < d := by omega
        obtain ⟨ba, oa, ca2, hsa, hba, hca⟩ := HVa2.out.open (by rw [bytes_length, l1]; exact Nat.mul_pos hk0 hD1)
        rw [bytes_length, l1] at hsa
        obtain ⟨rfl, rfl, rfl⟩ : va = some ⟨ba, oa, none⟩ ∧ na = k * D ∧ ca = ca2 := by simp only [Value.slice.injEq] at hsa; exact ⟨hsa.1, hsa.2.1, hsa.2.2⟩
        obtain ⟨bb, ob, cb2, hsb, hbb, hcb⟩ := HVb.out.open (by rw [bytes_length, l2]; exact Nat.mul_pos hd0 hD1)
        rw [bytes_length, l2] at hsb
        obtain ⟨rfl, rfl, rfl⟩ : vb = some ⟨bb, ob, none⟩ ∧ nb = d * D ∧ cb = cb2 := by simp only [Value.slice.injEq] at hsb; exact ⟨hsb.1, hsb.2.1, hsb.2.2⟩
        have hMa255 : ∀ m ∈ Ma, m ≤ 255 := fun m hm => by rw [← HMa.out] at hm; have := maskI_le _ _ _ m hm; omega
        have hMb255 : ∀ m ∈ Mb, m ≤ 255 := fun m hm => by rw [← HMb.out] at hm; have := maskI_le _ _ _ m hm; omega
        obtain ⟨na, hna⟩ : ∃ z, k * D = z := ⟨_, rfl⟩
        obtain ⟨nb, hnb⟩ : ∃ z, d * D = z := ⟨_, rfl⟩
        have HNA := Lib.hid hna; have HNB := Lib.hid hnb
        have hAdD : A * D = na + nb := by rw [← hd, Nat.add_mul, hna, hnb]
        obtain ⟨e205, e220⟩ := two_small k d D A na nb hd hna hnb HAD.out.2.2.2.2
        have eAk : (A : Int) - (k : Int) = (d : Int) := by rw [← hd]; simp; omega
        have hnea : ((na : Int) != (na : Int)) = false := by simp
        have hneb : ((nb : Int) != (nb : Int)) = false := by simp
        rw [hna] at HNCa ⊢
        rw [hnb] at HNCb ⊢
        have HLL : Hid (Ma.length = na ∧ Mb.length = nb) := ⟨by rw [l1, hna], by rw [l2, hnb]⟩
        have HCA : Hid (∀ (l1 n : Nat), l1 + n ≤ na → ∀ W c, Below w5.heap.size w5 W → (convert 29 9 (.slice (some ⟨ba, oa + l1, none⟩) n c)).run Try.prog W = .ok (.string (strB ((Ma.drop l1).take n))) W) := fun l1 n h W c hW =>
          conv_cut (fun i x hx => by rw [cell_below hW hba]; exact hca i x hx) (Nat.lt_of_lt_of_le hba hW.size) hMa255 l1 (by rw [HLL.out.1]; exact h)
        have HCB : Hid (∀ (l1 n : Nat), l1 + n ≤ nb → ∀ W c, Below w5.heap.size w5 W → (convert 29 9 (.slice (some ⟨bb, ob + l1, none⟩) n c)).run Try.prog W = .ok (.string (strB ((Mb.drop l1).take n))) W) := fun l1 n h W c hW =>
          conv_cut (fun i x hx => by rw [cell_below hW hbb]; exact hcb i x hx) (Nat.lt_of_lt_of_le hbb hW.size) hMb255 l1 (by rw [HLL.out.2]; exact h)
        have HCW : Hid (∀ (l1 n : Nat), l1 + n ≤ NM → ∀ W c, Below w5.heap.size w5 W → (convert 29 9 (.slice (some ⟨mb, mo + l1, none⟩) n c)).run Try.prog W = .ok (.string (strB ((M.drop l1).take n))) W) := fun l1 n h W c hW => by
          have hb3 := HBB.out.trans (hW.mono HBB.out.size)
          exact conv_cut (fun i x hx => by rw [cell_below hb3 HMC.out.1]; exact HMC.out.2 i x hx) (Nat.lt_of_lt_of_le HMC.out.1 hb3.size) HM255.out l1 (by rw [HML.out]; exact h)
        have HKD : Hid (k + d = A ∧ A * D = na + nb ∧ NM = na + nb ∧ 0 < d) := ⟨hd, hAdD, by rw [← HNM.out]; exact hAdD, hd0⟩
        have HSUBL : Hid (∀ j, j < D → strB ((M.drop (j * A)).take k) = strB ((Ma.drop (j * k)).take k)) := fun j hj => by
          rw [← HMM.out, ← HMa.out]
          congr 1
          exact mask_left _ _ _ _ _ _ k A D j rfl rfl (by omega) hj
        have HSUBR : Hid (∀ j, j < D → strB ((M.drop (j * A + k)).take d) = strB ((Mb.drop (j * d)).take d)) := fun j hj => by
          rw [← HMM.out, ← HMb.out]
          congr 1
          exact mask_right _ _ _ _ _ _ k d A D j rfl rfl hd hj
        clear hb hv hnc hm1 hMb l1 l2 hsa hba hca hsb hbb hcb hMa255 hMb255 hna hnb hd hd0 hAdD HVa HVa2 HVb HVW
        clear q0 q1 q6 a0 a1 a2 a3
        have q0 : w5.cell? ⟨w.heap.size, 0, none⟩ = some (.slice ao n c) := S5.out.2.1.cell 0
        have q1 : w5.cell? ⟨w.heap.size, 1, none⟩ = some (.int .i64 rule) := S5.out.2.1.cell 1
        have q6 : w5.cell? ⟨w.heap.size, 6, none⟩ = some (.int .i64 (k : Int)) := S5.out.2.1.cell 6
        have a0 := S5.out.2.2.b0
        have a1 := S5.out.2.2.b1
        have a2 := S5.out.2.2.b2
        have a3 := S5.out.2.2.b3
        simp only at a0 a1 a2 a3
        go_wp2_with fail
        clear e205 e220 hnea hneb
        clear q0 q1 q6 a0 a1 a2 a3
        go_loopw [228] (fun i wr => ∃ j : Nat, j ≤ D ∧ i = .int .i64 (j : Int) ∧ Hid (Below w5.heap.size w5 wr)) (fun i _ => D - (intOf i).toNat)
        case atStart => exact ⟨0, by omega, rfl, Below.refl _ _⟩
        case round =>
          obtain ⟨j, hj, rfl, hv⟩ := hrel
          by_cases hlt : j < D
          · have hd2 : decide ((j : Int) < (D : Int)) = true := by simp; omega
            obtain ⟨hkd1, hkd2, hkd3, hkd4⟩ := HKD.out
            have r1 := Nat.mul_le_mul_right A (show j + 1 ≤ D from hlt)
            have r2 := Nat.mul_le_mul_right k (show j + 1 ≤ D from hlt)
            have r3 := Nat.mul_le_mul_right d (show j + 1 ≤ D from hlt)
            have z1 : (j + 1) * A = j * A + A := Nat.succ_mul _ _
            have z2 : (j + 1) * k = j * k + k := Nat.succ_mul _ _
            have z3 : (j + 1) * d = j * d + d := Nat.succ_mul _ _
            rw [Nat.mul_comm D A, HNM.out] at r1
            rw [Nat.mul_comm D k, HNA.out] at r2
            rw [Nat.mul_comm D d, HNB.out] at r3
            have hsl := HSUBL.out j hlt
            have hsr := HSUBR.out j hlt
            have y1 : ((j : Int) * (A : Int)) = ((j * A : Nat) : Int) := by rw [Int.natCast_mul]
            have y2 : ((j : Int) * (k : Int)) = ((j * k : Nat) : Int) := by rw [Int.natCast_mul]
            have y3 : ((j : Int) * (d : Int)) = ((j * d : Nat) : Int) := by rw [Int.natCast_mul]
            have y4 : (((j : Int) + 1) * (A : Int)) = (((j + 1) * A : Nat) : Int) := by rw [Int.natCast_mul]; rfl
            have y5 : (((j : Int) + 1) * (k : Int)) = (((j + 1) * k : Nat) : Int) := by rw [Int.natCast_mul]; rfl
            have y6 : (((j : Int) + 1) * (d : Int)) = (((j + 1) * d : Nat) : Int) := by rw [Int.natCast_mul]; rfl
            rw [z1] at r1 y4
            rw [z2] at r2 y5
            rw [z3] at r3 y6
            clear z1 z2 z3
            obtain ⟨m1, hm1⟩ : ∃ z, j * A = z := ⟨_, rfl⟩
            obtain ⟨m2, hm2⟩ : ∃ z, j * k = z := ⟨_, rfl⟩
            obtain ⟨m3, hm3⟩ : ∃ z, j * d = z := ⟨_, rfl⟩
            rw [hm1] at r1 y1 y4 hsl hsr
            rw [hm2] at r2 y2 y5 hsl
            rw [hm3] at r3 y3 y6 hsr
            have hcap := HNC.out; have hcapa := HNCa.out; have hcapb := HNCb.out
            have EE := Lib.hid (part_eqs j k d A m1 m2 m3 na nb NM hkd1 hkd3 r1 r2 r3 (by have h := HAD.out.2.2.2.2; rwa [HNM.out] at h) y1 y2 y3 y4 y5 y6 (by have h := HAD.out.2.2.2.1; omega))
            have HC1 := Lib.hid (fun W : World => cut_mid mb mo NM mc m1 (m1 + k) (by omega) hcap (by omega) W)
            have HC2 := Lib.hid (fun W : World => cut_mid ba oa na ca m2 (m2 + k) (by omega) hcapa (by omega) W)
            have HC3 := Lib.hid (fun W : World => cut_mid mb mo NM mc (m1 + k) (m1 + A) (by omega) hcap (by omega) W)
            have HC4 := Lib.hid (fun W : World => cut_mid bb ob nb cb m3 (m3 + d) (by omega) hcapb (by omega) W)
            have HT1 : Hid (∀ W, Below w5.heap.size w5 W → (convert 29 9 (.slice (some ⟨mb, mo + m1, none⟩) (m1 + k - m1) (mc - m1))).run Try.prog W = .ok (.string (strB ((Ma.drop m2).take k))) W) := fun W hW => by
              rw [HCW.out m1 (m1 + k - m1) (by omega) W _ hW, show m1 + k - m1 = k by omega, hsl]
            have HT2 : Hid (∀ W, Below w5.heap.size w5 W → (convert 29 9 (.slice (some ⟨ba, oa + m2, none⟩) (m2 + k - m2) (ca - m2))).run Try.prog W = .ok (.string (strB ((Ma.drop m2).take k))) W) := fun W hW => by
              rw [HCA.out m2 (m2 + k - m2) (by omega) W _ hW, show m2 + k - m2 = k by omega]
            have HT3 : Hid (∀ W, Below w5.heap.size w5 W → (convert 29 9 (.slice (some ⟨mb, mo + (m1 + k), none⟩) (m1 + A - (m1 + k)) (mc - (m1 + k)))).run Try.prog W = .ok (.string (strB ((Mb.drop m3).take d))) W) := fun W hW => by
              rw [HCW.out (m1 + k) (m1 + A - (m1 + k)) (by omega) W _ hW, show m1 + A - (m1 + k) = d by omega, hsr]
            have HT4 : Hid (∀ W, Below w5.heap.size w5 W → (convert 29 9 (.slice (some ⟨bb, ob + m3, none⟩) (m3 + d - m3) (cb - m3))).run Try.prog W = .ok (.string (strB ((Mb.drop m3).take d))) W) := fun W hW => by
              rw [HCB.out m3 (m3 + d - m3) (by omega) W _ hW, show m3 + d - m3 = d by omega]
            have ewd : IntKind.i64.wrap (d : Int) = (d : Int) := by rw [wrap_is]; exact wrapR _ (by omega) (by omega)
            obtain ⟨u1, hu1⟩ : ∃ z, m1 + k = z := ⟨_, rfl⟩
            obtain ⟨u2, hu2⟩ : ∃ z, m1 + A = z := ⟨_, rfl⟩
            obtain ⟨u3, hu3⟩ : ∃ z, m2 + k = z := ⟨_, rfl⟩
            obtain ⟨u4, hu4⟩ : ∃ z, m3 + d = z := ⟨_, rfl⟩
            rw [hu1, hu2, hu3, hu4] at EE
            rw [hu1] at HC1 HT1
            rw [hu1, hu2] at HC3 HT3
            rw [hu3] at HC2 HT2
            rw [hu4] at HC4 HT4
            clear hu1 hu2 hu3 hu4
            have hD4' : D ≤ 256 := by obtain ⟨_, _, _, h4, _⟩ := HAD.out; exact h4
            have HQ6 : Hid (∀ W, Below w5.heap.size w5 W → W.cell? ⟨w.heap.size, 6, none⟩ = some (.int .i64 (k : Int))) := fun W hW => (S5.out.2.1.grow hW).cell 6
            clear hkd1 hkd2 hkd3 hkd4 r1 r2 r3 hsl hsr y1 y2 y3 y4 y5 y6 hm1 hm2 hm3 hcap hcapa hcapb
            generalize (strB ((Ma.drop m2).take k)) = T1 at HT1 HT2
            generalize (strB ((Mb.drop m3).take d)) = T2 at HT3 HT4
            go_wp2_with fail
            refine wp_region_quiet (C := Out wr) (by kernel_rfl) (by kernel_rfl) ⟨rfl, rfl, rfl, Nat.le_refl _, fun _ _ => rfl⟩ ?_
            refine BigFrame.wpQuiet_want rfl (fun K hK => ?_)
            refine quiet_val (.slice (some ⟨mb, mo, none⟩) NM mc) (fun w' hw' => by go_simp) (hK _ ?_)
            clear hK K
            simp only [Act.put, List.setIfInBounds_toArray, List.set_cons_zero, List.set_cons_succ]
            refine BigFrame.wpQuiet_want rfl (fun K hK => ?_)
            refine quiet_val (.int .i64 (j : Int)) (fun w' hw' => by go_simp) (hK _ ?_)
            clear hK K
            simp only [Act.put, List.setIfInBounds_toArray, List.set_cons_zero, List.set_cons_succ]
            refine BigFrame.wpQuiet_want rfl (fun K hK => ?_)
            refine quiet_val (.int .i64 (A : Int)) (fun w' hw' => by go_simp) (hK _ ?_)
            clear hK K
            simp only [Act.put, List.setIfInBounds_toArray, List.set_cons_zero, List.set_cons_succ]
            refine BigFrame.wpQuiet_want rfl (fun K hK => ?_)
            refine quiet_val (.int .i64 (m1 : Int)) (fun w' hw' => by have ee := EE.out.1; go_simp) (hK _ ?_)
            clear hK K
            simp only [Act.put, List.setIfInBounds_toArray, List.set_cons_zero, List.set_cons_succ]
            refine BigFrame.wpQuiet_want rfl (fun K hK => ?_)
            refine quiet_val (.int .i64 (j : Int)) (fun w' hw' => by go_simp) (hK _ ?_)
            clear hK K
            simp only [Act.put, List.setIfInBounds_toArray, List.set_cons_zero, List.set_cons_succ]
            refine BigFrame.wpQuiet_want rfl (fun K hK => ?_)
            refine quiet_val (.int .i64 (A : Int)) (fun w' hw' => by go_simp) (hK _ ?_)
            clear hK K
            simp only [Act.put, List.setIfInBounds_toArray, List.set_cons_zero, List.set_cons_succ]
            refine BigFrame.wpQuiet_want rfl (fun K hK => ?_)
            refine quiet_val (.int .i64 (m1 : Int)) (fun w' hw' => by have ee := EE.out.1; go_simp) (hK _ ?_)
            clear hK K
            simp only [Act.put, List.setIfInBounds_toArray, List.set_cons_zero, List.set_cons_succ]
            refine BigFrame.wpQuiet_want rfl (fun K hK => ?_)
            refine quiet_val (.pointer (some ⟨w.heap.size, 6, none⟩)) (fun w' hw' => by go_simp) (hK _ ?_)
            clear hK K
            simp only [Act.put, List.setIfInBounds_toArray, List.set_cons_zero, List.set_cons_succ]
            refine BigFrame.wpQuiet_want rfl (fun K hK => ?_)
            refine quiet_val (.int .i64 (k : Int)) (fun w' hw' => by have c0 := HQ6.out w' (hv.out.trans (hw'.mono hv.out.size)); go_simp) (hK _ ?_)
            clear hK K
            simp only [Act.put, List.setIfInBounds_toArray, List.set_cons_zero, List.set_cons_succ]
            refine BigFrame.wpQuiet_want rfl (fun K hK => ?_)
            refine quiet_val (.int .i64 (u1 : Int)) (fun w' hw' => by have ee := EE.out.2.1; go_simp) (hK _ ?_)
            clear hK K
            simp only [Act.put, List.setIfInBounds_toArray, List.set_cons_zero, List.set_cons_succ]
            refine BigFrame.wpQuiet_want rfl (fun K hK => ?_)
            refine quiet_val (.slice (some ⟨mb, mo + m1, none⟩) (u1 - m1) (mc - m1)) (fun w' hw' => by have cc := HC1.out w'; go_simp) (hK _ ?_)
            clear hK K
            simp only [Act.put, List.setIfInBounds_toArray, List.set_cons_zero, List.set_cons_succ]
            refine BigFrame.wpQuiet_want rfl (fun K hK => ?_)
            refine quiet_val (.string T1) (fun w' hw' => by have cc := HT1.out w' (hv.out.trans (hw'.mono hv.out.size)); go_simp) (hK _ ?_)
            clear hK K
            simp only [Act.put, List.setIfInBounds_toArray, List.set_cons_zero, List.set_cons_succ]
            refine BigFrame.wpQuiet_want rfl (fun K hK => ?_)
            refine quiet_val (.slice (some ⟨ba, oa, none⟩) na ca) (fun w' hw' => by go_simp) (hK _ ?_)
            clear hK K
            simp only [Act.put, List.setIfInBounds_toArray, List.set_cons_zero, List.set_cons_succ]
            refine BigFrame.wpQuiet_want rfl (fun K hK => ?_)
            refine quiet_val (.int .i64 (j : Int)) (fun w' hw' => by go_simp) (hK _ ?_)
            clear hK K
            simp only [Act.put, List.setIfInBounds_toArray, List.set_cons_zero, List.set_cons_succ]
            refine BigFrame.wpQuiet_want rfl (fun K hK => ?_)
            refine quiet_val (.pointer (some ⟨w.heap.size, 6, none⟩)) (fun w' hw' => by go_simp) (hK _ ?_)
            clear hK K
            simp only [Act.put, List.setIfInBounds_toArray, List.set_cons_zero, List.set_cons_succ]
            refine BigFrame.wpQuiet_want rfl (fun K hK => ?_)
            refine quiet_val (.int .i64 (k : Int)) (fun w' hw' => by have c0 := HQ6.out w' (hv.out.trans (hw'.mono hv.out.size)); go_simp) (hK _ ?_)
            clear hK K
            simp only [Act.put, List.setIfInBounds_toArray, List.set_cons_zero, List.set_cons_succ]
            refine BigFrame.wpQuiet_want rfl (fun K hK => ?_)
            refine quiet_val (.int .i64 (m2 : Int)) (fun w' hw' => by have ee := EE.out.2.2.1; go_simp) (hK _ ?_)
            clear hK K
            simp only [Act.put, List.setIfInBounds_toArray, List.set_cons_zero, List.set_cons_succ]
            refine BigFrame.wpQuiet_want rfl (fun K hK => ?_)
            refine quiet_val (.int .i64 (j : Int)) (fun w' hw' => by go_simp) (hK _ ?_)
            clear hK K
            simp only [Act.put, List.setIfInBounds_toArray, List.set_cons_zero, List.set_cons_succ]
            refine BigFrame.wpQuiet_want rfl (fun K hK => ?_)
            refine quiet_val (.int .i64 ((j : Int) + 1)) (fun w' hw' => by have ee := EE.out.2.2.2.1; go_simp) (hK _ ?_)
            clear hK K
            simp only [Act.put, List.setIfInBounds_toArray, List.set_cons_zero, List.set_cons_succ]
            refine BigFrame.wpQuiet_want rfl (fun K hK => ?_)
            refine quiet_val (.pointer (some ⟨w.heap.size, 6, none⟩)) (fun w' hw' => by go_simp) (hK _ ?_)
            clear hK K
            simp only [Act.put, List.setIfInBounds_toArray, List.set_cons_zero, List.set_cons_succ]
            refine BigFrame.wpQuiet_want rfl (fun K hK => ?_)
            refine quiet_val (.int .i64 (k : Int)) (fun w' hw' => by have c0 := HQ6.out w' (hv.out.trans (hw'.mono hv.out.size)); go_simp) (hK _ ?_)
            clear hK K
            simp only [Act.put, List.setIfInBounds_toArray, List.set_cons_zero, List.set_cons_succ]
            refine BigFrame.wpQuiet_want rfl (fun K hK => ?_)
            refine quiet_val (.int .i64 (u3 : Int)) (fun w' hw' => by have ee := EE.out.2.2.2.2.1; go_simp) (hK _ ?_)
            clear hK K
            simp only [Act.put, List.setIfInBounds_toArray, List.set_cons_zero, List.set_cons_succ]
            refine BigFrame.wpQuiet_want rfl (fun K hK => ?_)
            refine quiet_val (.slice (some ⟨ba, oa + m2, none⟩) (u3 - m2) (ca - m2)) (fun w' hw' => by have cc := HC2.out w'; go_simp) (hK _ ?_)
            clear hK K
            simp only [Act.put, List.setIfInBounds_toArray, List.set_cons_zero, List.set_cons_succ]
            refine BigFrame.wpQuiet_want rfl (fun K hK => ?_)
            refine quiet_val (.string T1) (fun w' hw' => by have cc := HT2.out w' (hv.out.trans (hw'.mono hv.out.size)); go_simp) (hK _ ?_)
            clear hK K
            simp only [Act.put, List.setIfInBounds_toArray, List.set_cons_zero, List.set_cons_succ]
            refine BigFrame.wpQuiet_want rfl (fun K hK => ?_)
            refine quiet_val (.bool false) (fun w' hw' => by go_simp) (hK _ ?_)
            clear hK K
            simp only [Act.put, List.setIfInBounds_toArray, List.set_cons_zero, List.set_cons_succ]
            refine BigFrame.wpQuiet_want rfl (fun K hK => ?_)
            refine quiet_val (.bool false) (fun w' hw' => by go_simp) (hK _ ?_)
            clear hK K
            simp only [Act.put, List.setIfInBounds_toArray, List.set_cons_zero, List.set_cons_succ]
            refine BigFrame.wpQuiet_want rfl (fun K hK => ?_)
            refine quiet_val (.slice (some ⟨mb, mo, none⟩) NM mc) (fun w' hw' => by go_simp) (hK _ ?_)
            clear hK K
            simp only [Act.put, List.setIfInBounds_toArray, List.set_cons_zero, List.set_cons_succ]
            refine BigFrame.wpQuiet_want rfl (fun K hK => ?_)
            refine quiet_val (.int .i64 (j : Int)) (fun w' hw' => by go_simp) (hK _ ?_)
            clear hK K
            simp only [Act.put, List.setIfInBounds_toArray, List.set_cons_zero, List.set_cons_succ]
            refine BigFrame.wpQuiet_want rfl (fun K hK => ?_)
            refine quiet_val (.int .i64 (A : Int)) (fun w' hw' => by go_simp) (hK _ ?_)
            clear hK K
            simp only [Act.put, List.setIfInBounds_toArray, List.set_cons_zero, List.set_cons_succ]
            refine BigFrame.wpQuiet_want rfl (fun K hK => ?_)
            refine quiet_val (.int .i64 (m1 : Int)) (fun w' hw' => by have ee := EE.out.1; go_simp) (hK _ ?_)
            clear hK K
            simp only [Act.put, List.setIfInBounds_toArray, List.set_cons_zero, List.set_cons_succ]
            refine BigFrame.wpQuiet_want rfl (fun K hK => ?_)
            refine quiet_val (.pointer (some ⟨w.heap.size, 6, none⟩)) (fun w' hw' => by go_simp) (hK _ ?_)
            clear hK K
            simp only [Act.put, List.setIfInBounds_toArray, List.set_cons_zero, List.set_cons_succ]
            refine BigFrame.wpQuiet_want rfl (fun K hK => ?_)
            refine quiet_val (.int .i64 (k : Int)) (fun w' hw' => by have c0 := HQ6.out w' (hv.out.trans (hw'.mono hv.out.size)); go_simp) (hK _ ?_)
            clear hK K
            simp only [Act.put, List.setIfInBounds_toArray, List.set_cons_zero, List.set_cons_succ]
            refine BigFrame.wpQuiet_want rfl (fun K hK => ?_)
            refine quiet_val (.int .i64 (u1 : Int)) (fun w' hw' => by have ee := EE.out.2.1; go_simp) (hK _ ?_)
            clear hK K
            simp only [Act.put, List.setIfInBounds_toArray, List.set_cons_zero, List.set_cons_succ]
            refine BigFrame.wpQuiet_want rfl (fun K hK => ?_)
            refine quiet_val (.int .i64 (j : Int)) (fun w' hw' => by go_simp) (hK _ ?_)
            clear hK K
            simp only [Act.put, List.setIfInBounds_toArray, List.set_cons_zero, List.set_cons_succ]
            refine BigFrame.wpQuiet_want rfl (fun K hK => ?_)
            refine quiet_val (.int .i64 ((j : Int) + 1)) (fun w' hw' => by have ee := EE.out.2.2.2.1; go_simp) (hK _ ?_)
            clear hK K
            simp only [Act.put, List.setIfInBounds_toArray, List.set_cons_zero, List.set_cons_succ]
            refine BigFrame.wpQuiet_want rfl (fun K hK => ?_)
            refine quiet_val (.int .i64 (A : Int)) (fun w' hw' => by go_simp) (hK _ ?_)
            clear hK K
            simp only [Act.put, List.setIfInBounds_toArray, List.set_cons_zero, List.set_cons_succ]
            refine BigFrame.wpQuiet_want rfl (fun K hK => ?_)
            refine quiet_val (.int .i64 (u2 : Int)) (fun w' hw' => by have ee := EE.out.2.2.2.2.2.1; go_simp) (hK _ ?_)
            clear hK K
            simp only [Act.put, List.setIfInBounds_toArray, List.set_cons_zero, List.set_cons_succ]
            refine BigFrame.wpQuiet_want rfl (fun K hK => ?_)
            refine quiet_val (.slice (some ⟨mb, mo + u1, none⟩) (u2 - u1) (mc - u1)) (fun w' hw' => by have cc := HC3.out w'; go_simp) (hK _ ?_)
            clear hK K
            simp only [Act.put, List.setIfInBounds_toArray, List.set_cons_zero, List.set_cons_succ]
            refine BigFrame.wpQuiet_want rfl (fun K hK => ?_)
            refine quiet_val (.string T2) (fun w' hw' => by have cc := HT3.out w' (hv.out.trans (hw'.mono hv.out.size)); go_simp) (hK _ ?_)
            clear hK K
            simp only [Act.put, List.setIfInBounds_toArray, List.set_cons_zero, List.set_cons_succ]
            refine BigFrame.wpQuiet_want rfl (fun K hK => ?_)
            refine quiet_val (.slice (some ⟨bb, ob, none⟩) nb cb) (fun w' hw' => by go_simp) (hK _ ?_)
            clear hK K
            simp only [Act.put, List.setIfInBounds_toArray, List.set_cons_zero, List.set_cons_succ]
            refine BigFrame.wpQuiet_want rfl (fun K hK => ?_)
            refine quiet_val (.int .i64 (j : Int)) (fun w' hw' => by go_simp) (hK _ ?_)
            clear hK K
            simp only [Act.put, List.setIfInBounds_toArray, List.set_cons_zero, List.set_cons_succ]
            refine BigFrame.wpQuiet_want rfl (fun K hK => ?_)
            refine quiet_val (.int .i64 (A : Int)) (fun w' hw' => by go_simp) (hK _ ?_)
            clear hK K
            simp only [Act.put, List.setIfInBounds_toArray, List.set_cons_zero, List.set_cons_succ]
            refine BigFrame.wpQuiet_want rfl (fun K hK => ?_)
            refine quiet_val (.pointer (some ⟨w.heap.size, 6, none⟩)) (fun w' hw' => by go_simp) (hK _ ?_)
            clear hK K
            simp only [Act.put, List.setIfInBounds_toArray, List.set_cons_zero, List.set_cons_succ]
            refine BigFrame.wpQuiet_want rfl (fun K hK => ?_)
            refine quiet_val (.int .i64 (k : Int)) (fun w' hw' => by have c0 := HQ6.out w' (hv.out.trans (hw'.mono hv.out.size)); go_simp) (hK _ ?_)
            clear hK K
            simp only [Act.put, List.setIfInBounds_toArray, List.set_cons_zero, List.set_cons_succ]
            refine BigFrame.wpQuiet_want rfl (fun K hK => ?_)
            refine quiet_val (.int .i64 (d : Int)) (fun w' hw' => by have ee := EE.out.2.2.2.2.2.2.1; go_simp) (hK _ ?_)
            clear hK K
            simp only [Act.put, List.setIfInBounds_toArray, List.set_cons_zero, List.set_cons_succ]
            refine BigFrame.wpQuiet_want rfl (fun K hK => ?_)
            refine quiet_val (.int .i64 (m3 : Int)) (fun w' hw' => by have ee := EE.out.2.2.2.2.2.2.2.1; go_simp) (hK _ ?_)
            clear hK K
            simp only [Act.put, List.setIfInBounds_toArray, List.set_cons_zero, List.set_cons_succ]
            refine BigFrame.wpQuiet_want rfl (fun K hK => ?_)
            refine quiet_val (.int .i64 (j : Int)) (fun w' hw' => by go_simp) (hK _ ?_)
            clear hK K
            simp only [Act.put, List.setIfInBounds_toArray, List.set_cons_zero, List.set_cons_succ]
            refine BigFrame.wpQuiet_want rfl (fun K hK => ?_)
            refine quiet_val (.int .i64 ((j : Int) + 1)) (fun w' hw' => by have ee := EE.out.2.2.2.1; go_simp) (hK _ ?_)
            clear hK K
            simp only [Act.put, List.setIfInBounds_toArray, List.set_cons_zero, List.set_cons_succ]
            refine BigFrame.wpQuiet_want rfl (fun K hK => ?_)
            refine quiet_val (.int .i64 (A : Int)) (fun w' hw' => by go_simp) (hK _ ?_)
            clear hK K
            simp only [Act.put, List.setIfInBounds_toArray, List.set_cons_zero, List.set_cons_succ]
            refine BigFrame.wpQuiet_want rfl (fun K hK => ?_)
            refine quiet_val (.pointer (some ⟨w.heap.size, 6, none⟩)) (fun w' hw' => by go_simp) (hK _ ?_)
            clear hK K
            simp only [Act.put, List.setIfInBounds_toArray, List.set_cons_zero, List.set_cons_succ]
            refine BigFrame.wpQuiet_want rfl (fun K hK => ?_)
            refine quiet_val (.int .i64 (k : Int)) (fun w' hw' => by have c0 := HQ6.out w' (hv.out.trans (hw'.mono hv.out.size)); go_simp) (hK _ ?_)
            clear hK K
            simp only [Act.put, List.setIfInBounds_toArray, List.set_cons_zero, List.set_cons_succ]
            refine BigFrame.wpQuiet_want rfl (fun K hK => ?_)
            refine quiet_val (.int .i64 (d : Int)) (fun w' hw' => by have ee := EE.out.2.2.2.2.2.2.1; go_simp) (hK _ ?_)
            clear hK K
            simp only [Act.put, List.setIfInBounds_toArray, List.set_cons_zero, List.set_cons_succ]
            refine BigFrame.wpQuiet_want rfl (fun K hK => ?_)
            refine quiet_val (.int .i64 (u4 : Int)) (fun w' hw' => by have ee := EE.out.2.2.2.2.2.2.2.2; go_simp) (hK _ ?_)
            clear hK K
            simp only [Act.put, List.setIfInBounds_toArray, List.set_cons_zero, List.set_cons_succ]
            refine BigFrame.wpQuiet_want rfl (fun K hK => ?_)
            refine quiet_val (.slice (some ⟨bb, ob + m3, none⟩) (u4 - m3) (cb - m3)) (fun w' hw' => by have cc := HC4.out w'; go_simp) (hK _ ?_)
            clear hK K
            simp only [Act.put, List.setIfInBounds_toArray, List.set_cons_zero, List.set_cons_succ]
            refine BigFrame.wpQuiet_want rfl (fun K hK => ?_)
            refine quiet_val (.string T2) (fun w' hw' => by have cc := HT4.out w' (hv.out.trans (hw'.mono hv.out.size)); go_simp) (hK _ ?_)
            clear hK K
            simp only [Act.put, List.setIfInBounds_toArray, List.set_cons_zero, List.set_cons_succ]
            refine BigFrame.wpQuiet_want rfl (fun K hK => ?_)
            refine quiet_val (.bool false) (fun w' hw' => by go_simp) (hK _ ?_)
            clear hK K
            simp only [Act.put, List.setIfInBounds_toArray, List.set_cons_zero, List.set_cons_succ]
            refine BigFrame.wpQuiet_want rfl (fun K hK => ?_)
            refine quiet_val (.bool false) (fun w' hw' => by go_simp) (hK _ ?_)
            clear hK K
            simp only [Act.put, List.setIfInBounds_toArray, List.set_cons_zero, List.set_cons_succ]
            refine wpQuiet_nil ?_
            intro w19 hb19
            have B19 : Hid (Below w5.heap.size w5 w19) := hv.out.trans (hb19.mono hv.out.size)
            clear hb19
            go_wp2_with fail
            exact ⟨⟨j + 1, by omega, by go_num, B19.out⟩, by simp [intOf]; omega⟩
          · have hd2 : decide ((j : Int) < (D : Int)) = false := by simp; omega
            have BL : Hid (Below w.heap.size w wr) := S5.out.1.trans (hv.out.mono S5.out.1.size)
            go_wp2_with fail
            refine (HAW.out _).mono ?_
            rintro e w9 ⟨rfl, hb⟩
            have B9 : Hid (Below w.heap.size w w9) := (BL.out).trans (hb.mono (BL.out).size)
            clear hb
            go_wp2_with fail
            go_ret
            exact ⟨rfl, B9.out⟩
      · have hd2 : decide ((k : Int) < (A : Int)) = false := by simp; omega

        go_wp2_with fail
        refine (HAW.out _).mono ?_
        rintro e w9 ⟨rfl, hb⟩
        have B9 : Hid (Below w.heap.size w w9) := (S3.out.1).trans (hb.mono (S3.out.1).size)
        clear hb
        go_wp2_with fail
        go_ret
        exact ⟨rfl, B9.out⟩
  · have hd0 : decide (cut > 0) = false := by simp; omega
    go_wp2_with fail
    refine (HAW.out _).mono ?_
    rintro e w9 ⟨rfl, hb⟩
    have B9 : Hid (Below w.heap.size w w9) := (S3.out.1).trans (hb.mono (S3.out.1).size)
    clear hb
    go_wp2_with fail
    go_ret
    exact ⟨rfl, B9.out⟩
end Go.Proofs.Ytopngjpgikpmaaa
