/- Layer 9: the law DashWays. -/
import Derived.Test.YtclkkdhfdoidfaaDm
import Derived.Test.YtclkkdhfdoidfaaDj
namespace Go.Proofs.Ytclkkdhfdoidfaa
open Go.RowKit
structure WyM (w : World) (sv : Value) (cl : Bool) (A : World) : Prop where
  below : Below w.heap.size w A
  sub : Blk A w.heap.size 46 #[sv, .bool cl]
theorem WyM.grow {w A B : World} {sv : Value} {cl : Bool} (h : WyM w sv cl A) (hb : Below A.heap.size A B) : WyM w sv cl B := ⟨h.below.trans (hb.mono h.below.size), h.sub.grow hb⟩
set_option maxHeartbeats 4000000 in
set_option maxRecDepth 100000 in
theorem dashWays_law (sv : Value) (l : List Pt) (cl : Bool) (w : World) (row : Row w sv l) :
    Calls Try.prog 5 #[.agg #[sv, .bool cl]] w fun e w' => e = .returned (.bool true) ∧ Below w.heap.size w w' := by
  have HAW := Lib.hid awake_c
  obtain ⟨w0, hw0⟩ : ∃ X, w.alloc (.cells #[sv, .bool cl] 46) = X := ⟨_, rfl⟩
  have M0 : Hid (WyM w sv cl w0) := by rw [← hw0]; exact ⟨(Below.refl _ _).alloc (Nat.le_refl _) _, Blk.new _ _ _⟩
  have HW0 := Lib.hid hw0
  have HROW : Hid (∀ A, Below w.heap.size w A → Row A sv l) := fun A hA => row.on hA
  have HRF : Hid (l.length ≤ 60 → ∀ A, Below w.heap.size w A → Calls Try.prog 20 #[sv] A fun e w' => ∃ u, e = .returned u ∧ Own w' A.heap.size 39 u l ∧ Below A.heap.size A w') := fun h A hA => refs_c A sv l (by omega) (row.on hA)
  have HWY : Hid (l.length ≤ 60 → ∀ A, Below w.heap.size w A → Calls Try.prog 21 #[.agg #[sv, .bool cl]] A (ToldP A (wayO l cl))) := fun h A hA => way_c sv l cl A (row.on hA) (by omega)
  have HSM : Hid (l.length ≤ 60 → ∀ A u, Below w.heap.size w A → Row A u l → Calls Try.prog 24 #[sv, u] A fun e w' => e = .returned (.bool true) ∧ Below A.heap.size A w') := fun h A u hA hu => same_c sv u l A (by omega) (row.on hA) hu
  have HSW : Hid (l.length ≤ 60 → ∀ A u v, Row A u (wayI l cl) → Row A v (wayI l cl) → Calls Try.prog 24 #[u, v] A fun e w' => e = .returned (.bool true) ∧ Below A.heap.size A w') := fun h A u v h1 h2 => same_c u v _ A (by have := wayI_len l cl; omega) h1 h2
  obtain ⟨ao, c, rfl⟩ := row.shape
  obtain ⟨n, hn⟩ : ∃ n, l.length = n := ⟨_, rfl⟩
  have HN := Lib.hid hn
  rw [hn] at M0 HW0 HRF HWY HSM HSW HROW ⊢
  clear row hw0 hn
  have s0 := M0.out.sub.cell 0
  have s1 := M0.out.sub.cell 1
  simp only [List.getElem?_toArray, List.getElem?_cons_zero, List.getElem?_cons_succ] at s0 s1
  by_cases h60 : 60 < n
  · have hd : decide ((n : Int) > 60) = true := by simp; omega
    go_enter Try.func5, Try.ntmps5
    go_wp2_with fail
    rw [HW0.out]
    refine (HAW.out _).mono ?_
    rintro e wz ⟨rfl, hb⟩
    have BZ : Hid (Below w.heap.size w wz) := M0.out.below.trans (hb.mono M0.out.below.size)
    clear hb
    go_wp2_with fail
    go_ret
    exact ⟨rfl, BZ.out⟩
  · have hd : decide ((n : Int) > 60) = false := by simp; omega
    have H60 : Hid (n ≤ 60) := by unfold Hid; omega
    clear h60
    go_enter Try.func5, Try.ntmps5
    go_wp2_with fail
    rw [HW0.out]
    refine (HRF.out H60.out _ M0.out.below).mono ?_
    rintro e w1 ⟨u, rfl, ho1, hb⟩
    have M1 := Lib.hid (M0.out.grow hb)
    have O1 : Hid (Own w1 0 39 u l) := ho1.base (Nat.zero_le _)
    clear hb ho1 s0 s1
    obtain ⟨ua, uc, rfl⟩ := own_nil_len O1.out
    have hnl : l.length = n := HN.out
    rw [hnl] at O1 ⊢
    clear hnl
    have s0 := M1.out.sub.cell 0
    have s1 := M1.out.sub.cell 1
    simp only [List.getElem?_toArray, List.getElem?_cons_zero, List.getElem?_cons_succ] at s0 s1
    go_wp2_with fail
    refine (HWY.out H60.out _ M1.out.below).mono ?_
    rintro e w2 ⟨v, rfl, ho2, hb⟩
    have M2 := Lib.hid (M1.out.grow hb)
    have O2 := Lib.hid (O1.out.grow hb)
    have V2 : Hid (Own w2 0 32 v (wayO l cl).2) := ho2.base (Nat.zero_le _)
    clear hb ho2 s0 s1 O1
    obtain ⟨va, vc, rfl⟩ := own_nil_len V2.out
    have HIN := Lib.hid (refIn7_c _ l w2 (by have := HN.out; have := H60.out; omega) O2.out.row)
    go_wp2_with fail
    refine HIN.out.mono ?_
    rintro e w3 ⟨rfl, hb⟩
    have M3 := Lib.hid (M2.out.grow hb)
    have O3 := Lib.hid (O2.out.grow hb)
    have V3 := Lib.hid (V2.out.grow hb)
    clear hb O2 V2 HIN
    cases hall : l.all roomP
    · have hwo : wayO l cl = (30, []) := by unfold wayO; rw [hall]; rfl
      rw [hwo] at V3 ⊢
      clear hwo hall
      have hl0 : ([] : List Pt).length = 0 := rfl
      simp only [hl0]
      go_wp2_with fail
      refine (HAW.out _).mono ?_
      rintro e wz ⟨rfl, hb⟩
      have BZ : Hid (Below w.heap.size w wz) := M3.out.below.trans (hb.mono M3.out.below.size)
      clear hb
      go_wp2_with fail
      go_ret
      exact ⟨rfl, BZ.out⟩
    · have hwo : wayO l cl = toldW (wayI l cl) := by unfold wayO; rw [hall]; rfl
      rw [hwo] at V3 ⊢
      have s0 := M3.out.sub.cell 0
      have s1 := M3.out.sub.cell 1
      simp only [List.getElem?_toArray, List.getElem?_cons_zero, List.getElem?_cons_succ] at s0 s1
      have HRW := Lib.hid (refWay_c _ l cl w3 O3.out.row (by have := HN.out; have := H60.out; omega) hall)
      clear hwo hall
      generalize wayI l cl = W at *
      cases hlg : longB W
      · have e1 : toldW W = (0, W) := by unfold toldW; rw [hlg]; rfl
        have e2 : refWayO W = (W, true) := by unfold refWayO; rw [hlg]; rfl
        rw [e1] at V3 ⊢
        rw [e2] at HRW
        clear e1 e2 hlg
        obtain ⟨m, hm⟩ : ∃ m, W.length = m := ⟨_, rfl⟩
        simp only [hm] at V3 ⊢
        clear hm
        go_wp2_with fail
        refine HRW.out.mono ?_
        rintro e w4 ⟨x, rfl, ho4, hb⟩
        have M4 := Lib.hid (M3.out.grow hb)
        have O4 := Lib.hid (O3.out.grow hb)
        have V4 := Lib.hid (V3.out.grow hb)
        have X4 : Hid (Own w4 0 39 x W) := ho4.base (Nat.zero_le _)
        clear hb ho4 s0 s1 HRW
        obtain ⟨xa, xn, xc, rfl⟩ := own_shape' X4.out
        have HS1 := Lib.hid (HSW.out H60.out w4 _ _ V4.out.row X4.out.row)
        go_wp2_with fail
        refine HS1.out.mono ?_
        rintro e w5 ⟨rfl, hb⟩
        have M5 := Lib.hid (M4.out.grow hb)
        have O5 := Lib.hid (O4.out.grow hb)
        clear hb HS1
        have s0 := M5.out.sub.cell 0
        simp only [List.getElem?_toArray, List.getElem?_cons_zero] at s0
        have HS2 := Lib.hid (HSM.out H60.out w5 _ M5.out.below O5.out.row)
        go_wp2_with fail
        refine HS2.out.mono ?_
        rintro e w6 ⟨rfl, hb⟩
        have M6 := Lib.hid (M5.out.grow hb)
        clear hb s0 HS2
        go_wp2_with fail
        refine (HAW.out _).mono ?_
        rintro e wz ⟨rfl, hb⟩
        have BZ : Hid (Below w.heap.size w wz) := M6.out.below.trans (hb.mono M6.out.below.size)
        clear hb
        go_wp2_with fail
        go_ret
        exact ⟨rfl, BZ.out⟩
      · have e1 : toldW W = (10, []) := by unfold toldW; rw [hlg]; rfl
        have e2 : refWayO W = ([], false) := by unfold refWayO; rw [hlg]; rfl
        rw [e1] at V3 ⊢
        rw [e2] at HRW
        clear e1 e2 hlg
        have hl0 : ([] : List Pt).length = 0 := rfl
        simp only [hl0]
        go_wp2_with fail
        refine HRW.out.mono ?_
        rintro e w4 ⟨x, rfl, ho4, hb⟩
        have M4 := Lib.hid (M3.out.grow hb)
        obtain ⟨xa, xn, xc, rfl⟩ := own_shape' ho4
        clear hb ho4 s0 s1 HRW
        go_wp2_with fail
        refine (HAW.out _).mono ?_
        rintro e wz ⟨rfl, hb⟩
        have BZ : Hid (Below w.heap.size w wz) := M4.out.below.trans (hb.mono M4.out.below.size)
        clear hb
        go_wp2_with fail
        go_ret
        exact ⟨rfl, BZ.out⟩
end Go.Proofs.Ytclkkdhfdoidfaa
