/- Layer 9: the law DashPieces, ways of one point. -/
import Derived.Test.YtclkkdhfdoidfaaLT
namespace Go.Proofs.Ytclkkdhfdoidfaa
open Go.RowKit
theorem one_pieces {S : Nat → Int} {W : List Pt} {k : Nat} (hg : Grows S) (h : First S k) (hw : W.length = 1) : piecesI S W = if k % 2 = 0 then [W] else [] := by
  obtain ⟨h1, h2, h3⟩ := h
  obtain ⟨p, rfl⟩ : ∃ p, W = [p] := List.length_eq_one_iff.1 hw
  have ha : allI [p] = 1 := rfl
  have hI : IsEnd S [p] (k + 1) := by
    refine ⟨fun j hj => ?_, ?_⟩
    · rw [ha]
      have := grows_le hg k j (by omega)
      omega
    · rw [ha]; omega
  rw [piecesI_eq hI, doneI_succ, doneI_none k (fun j hj => h3 j hj)]
  have hwh : wholeI S [p] k = [p] := by
    unfold wholeI firstI
    rw [if_pos h1]
    have : ¬ S (k + 1) < endsI [p] ([p].length - 1) := by simp [endsI]; omega
    rw [if_neg this]
    rfl
  rw [hwh]
  unfold drawnB
  by_cases he : k % 2 = 0
  · rw [if_pos he]; simp [he, h2]
  · rw [if_neg he]; simp [he]
set_option maxHeartbeats 4000000 in
set_option maxRecDepth 100000 in
theorem dashPieces_one (sv : Value) (l : List Pt) (cl : Bool) (Lv : Value) (L : List Int) (phase : Int) (w : World) (row : Row w sv l) (rowL : RowI w Lv L) (h20 : l.length ≤ 20) (h8 : L.length ≤ 20) (hr : rightI L phase = true) (hro : l.all roomP = true) (hlo : longB (wayI l cl) = false) (hL0 : L ≠ []) (hw1 : (wayI l cl).length = 1) :
    Calls Try.prog 6 #[.agg #[sv, .bool cl], .agg #[Lv, .int .i64 phase]] w fun e w' => e = .returned (.bool true) ∧ Below w.heap.size w w' := by
  have hWn : wayI l cl ≠ [] := fun e => by rw [e] at hw1; cases hw1
  have HDO : Hid (∀ k, First (patS L phase) k → dashO l cl L phase = (0, if k % 2 = 0 then [(wayI l cl, false)] else [])) := fun k hk => by
    have hp := one_pieces (pat_grows hL0 hr) hk hw1
    unfold dashO wayO toldW
    rw [if_pos hr, hro, hlo]
    unfold dashW piecesO
    rw [if_neg hWn, if_neg hL0, hp]
    by_cases he : k % 2 = 0 <;> simp [he]
  have HDR : Hid (∀ A, Below w.heap.size w A → Calls Try.prog 26 #[.agg #[Lv, .int .i64 phase]] A (DrawnP (patS L phase) A)) := fun A hA => drawn_c Lv L phase A (rowL.on hA) hL0 hr
  have hnp : 0 < l.length := List.length_pos_iff.2 (fun e => hWn (wayI_nil_iff.2 e))
  have hlp : 0 < L.length := List.length_pos_iff.2 hL0
  have HNP := Lib.hid hnp
  have HLP := Lib.hid hlp
  have HW1 := Lib.hid hw1
  clear hL0 hWn hnp hlp hw1
  have HAW := Lib.hid awake_c
  have M0 := Lib.hid (DashM.start w sv Lv cl phase)
  obtain ⟨w0, hw0⟩ : ∃ X, (w.alloc (.cells #[sv, .bool cl] 46)).alloc (.cells #[Lv, .int .i64 phase] 24) = X := ⟨_, rfl⟩
  have HW0 := Lib.hid hw0
  rw [hw0] at M0
  have HRF : Hid (l.length ≤ 20 → ∀ A, Below w.heap.size w A → Calls Try.prog 20 #[sv] A fun e w' => ∃ u, e = .returned u ∧ Own w' A.heap.size 39 u l ∧ Below A.heap.size A w') := fun h A hA => refs_c A sv l (by omega) (row.on hA)
  have HDA : Hid (l.length ≤ 20 → L.length ≤ 20 → ∀ A, Below w.heap.size w A → Calls Try.prog 25 #[.agg #[sv, .bool cl], .agg #[Lv, .int .i64 phase]] A (ToldS A (dashO l cl L phase))) := fun h1 h2 A hA => dash_c sv Lv l cl L phase A (row.on hA) (by omega) (rowL.on hA) (by omega)
  have HSM : Hid (l.length ≤ 20 → ∀ A u, Below w.heap.size w A → Row A u l → Calls Try.prog 24 #[sv, u] A fun e w' => e = .returned (.bool true) ∧ Below A.heap.size A w') := fun h A u hA hu => same_c sv u l A (by omega) (row.on hA) hu
  have HRI : Hid (∀ A, Below w.heap.size w A → Calls Try.prog 10 #[Lv, .int .i64 phase] A fun e w' => e = .returned (.bool (rightI L phase)) ∧ Below A.heap.size A w') := fun A hA => refRight_c Lv L phase A (rowL.on hA)
  obtain ⟨ao, c, rfl⟩ := row.shape
  obtain ⟨bo, d, rfl⟩ := rowL.shape
  obtain ⟨n, hn⟩ : ∃ n, l.length = n := ⟨_, rfl⟩
  obtain ⟨nl, hnl⟩ : ∃ nl, L.length = nl := ⟨_, rfl⟩
  have HN := Lib.hid hn
  have HNL := Lib.hid hnl
  have HWO : Hid (refWayO (wayI l cl) = (wayI l cl, true)) := by unfold Hid refWayO; rw [hlo]; rfl
  clear hlo
  rw [hn, hnl] at M0 HW0 HDA ⊢
  rw [hn] at HRF HSM h20
  rw [hnl] at HRI HDR h8
  rw [hr] at HRI
  have HRM := Lib.hid hro
  have H20 := Lib.hid h20
  have H8 := Lib.hid h8
  have hd : decide ((n : Int) > 20) = false := by simp; omega
  have hd8 : decide ((nl : Int) > 20) = false := by simp; omega
  clear row rowL hw0 hn hnl h20 h8 hr hro
  have s0 := M0.out.sub.cell 0
  have s1 := M0.out.sub.cell 1
  have p0 := M0.out.pat.cell 0
  have p1 := M0.out.pat.cell 1
  simp only [List.getElem?_toArray, List.getElem?_cons_zero, List.getElem?_cons_succ] at s0 s1 p0 p1
  go_enter Try.func6, Try.ntmps6
  go_wp2_with fail
  rw [HW0.out]
  refine (HRF.out H20.out _ M0.out.below).mono ?_
  rintro e w1 ⟨u, rfl, ho1, hb⟩
  have M1 := Lib.hid (M0.out.grow hb)
  have O1 : Hid (Own w1 0 39 u l) := ho1.base (Nat.zero_le _)
  clear hb ho1 s0 s1 p0 p1
  obtain ⟨ua, uc, rfl⟩ := own_nil_len O1.out
  rw [HN.out] at O1 ⊢
  have s0 := M1.out.sub.cell 0
  have s1 := M1.out.sub.cell 1
  have p0 := M1.out.pat.cell 0
  have p1 := M1.out.pat.cell 1
  simp only [List.getElem?_toArray, List.getElem?_cons_zero, List.getElem?_cons_succ] at s0 s1 p0 p1
  go_wp2_with fail
  refine (HDA.out H20.out H8.out _ M1.out.below).mono ?_
  rintro e w2 ⟨v, S, rfl, hs, hm, hb⟩
  have M2 := Lib.hid (M1.out.grow hb)
  have O2 := Lib.hid (O1.out.grow hb)
  have V2 := Lib.hid hs
  have HMP := Lib.hid hm
  clear hb hs hm s0 s1 p0 p1 O1
  have s0 := M2.out.sub.cell 0
  have s1 := M2.out.sub.cell 1
  have p0 := M2.out.pat.cell 0
  have p1 := M2.out.pat.cell 1
  simp only [List.getElem?_toArray, List.getElem?_cons_zero, List.getElem?_cons_succ] at s0 s1 p0 p1
  have HS1 := Lib.hid (HSM.out H20.out w2 _ M2.out.below O2.out.row)
  go_wp2_with fail
  refine HS1.out.mono ?_
  rintro e w3 ⟨rfl, hb⟩
  have M3 := Lib.hid (M2.out.grow hb)
  have O3 := Lib.hid (O2.out.grow hb)
  have V3 := Lib.hid (V2.out.grow hb)
  clear hb s0 s1 p0 p1 O2 V2 HS1
  have s0 := M3.out.sub.cell 0
  have s1 := M3.out.sub.cell 1
  have p0 := M3.out.pat.cell 0
  have p1 := M3.out.pat.cell 1
  simp only [List.getElem?_toArray, List.getElem?_cons_zero, List.getElem?_cons_succ] at s0 s1 p0 p1
  go_wp2_with fail
  refine (HRI.out _ M3.out.below).mono ?_
  rintro e w4 ⟨rfl, hb⟩
  have M4 := Lib.hid (M3.out.grow hb)
  have O4 := Lib.hid (O3.out.grow hb)
  have V4 := Lib.hid (V3.out.grow hb)
  clear hb s0 s1 p0 p1 O3 V3
  have HIN := Lib.hid (refIn7_c _ l w4 (by have := HN.out; have := H20.out; omega) O4.out.row)
  rw [HRM.out] at HIN
  go_wp2_with fail
  refine HIN.out.mono ?_
  rintro e w5 ⟨rfl, hb⟩
  have M5 := Lib.hid (M4.out.grow hb)
  have O5 := Lib.hid (O4.out.grow hb)
  have V5 := Lib.hid (V4.out.grow hb)
  clear hb HIN O4 V4
  have HRW := Lib.hid (refWay_c _ l cl w5 O5.out.row (by have := HN.out; have := H20.out; omega) HRM.out)
  have s0 := M5.out.sub.cell 0
  have s1 := M5.out.sub.cell 1
  have p0 := M5.out.pat.cell 0
  have p1 := M5.out.pat.cell 1
  simp only [List.getElem?_toArray, List.getElem?_cons_zero, List.getElem?_cons_succ] at s0 s1 p0 p1
  go_wp2_with fail
  rw [HWO.out] at HRW
  obtain ⟨sa, sc, rfl⟩ := subs_shape V5.out.row
  have hn0 : 0 < n := by have := HN.out; have := HNP.out; omega
  have hl0 : 0 < nl := by have := HNL.out; have := HLP.out; omega
  refine HRW.out.mono ?_
  rintro e w6 ⟨x, rfl, ho, hb⟩
  have M6 := Lib.hid (M5.out.grow hb)
  have O6 : Hid (Own w6 0 39 x (wayI l cl)) := ho.base (Nat.zero_le _)
  have V6 := Lib.hid (V5.out.grow hb)
  clear hb ho HRW s0 s1 p0 p1 V5
  obtain ⟨xa, xc, rfl⟩ := own_nil_len O6.out
  rw [HW1.out] at O6 ⊢
  have en : ((n : Int) == 0) = false := by simp; omega
  have en2 : ((nl : Int) == 0) = false := by simp; omega
  clear hn0 hl0
  have s0 := M6.out.sub.cell 0
  have s1 := M6.out.sub.cell 1
  have p0 := M6.out.pat.cell 0
  have p1 := M6.out.pat.cell 1
  simp only [List.getElem?_toArray, List.getElem?_cons_zero, List.getElem?_cons_succ] at s0 s1 p0 p1
  go_wp2_with fail
  refine (HDR.out _ M6.out.below).mono ?_
  rintro e w7 ⟨k, hk, rfl, hb⟩
  have M7 := Lib.hid (M6.out.grow hb)
  have O7 := Lib.hid (O6.out.grow hb)
  have V7 := Lib.hid (V6.out.grow hb)
  have HDK := Lib.hid (HDO.out k hk)
  clear hb s0 s1 p0 p1 O6 V6
  have HMK : Hid (S.map Sb.plain = if k % 2 = 0 then [(wayI l cl, false)] else []) := by unfold Hid; rw [HMP.out, HDK.out]
  rw [HDK.out]
  simp only []
  by_cases hev : k % 2 = 0
  · have hm1 : S.length = 1 := by have h := congrArg List.length HMK.out; simpa [hev] using h
    obtain ⟨y, hy⟩ : ∃ y, S[0]? = some y := ⟨_, List.getElem?_eq_getElem (by omega)⟩
    have hyL : y.L = wayI l cl := by
      have h := congrArg (fun z => z[0]?) HMK.out
      rw [if_pos hev] at h
      simp only [List.getElem?_map, hy] at h
      have h2 : y.plain = (wayI l cl, false) := by simpa using h
      exact congrArg Prod.fst h2
    obtain ⟨q, qc, ev, hq, c0, _⟩ := V7.out.at hy
    cases ev
    have hrow := V7.out.pts (List.mem_of_getElem? hy)
    rw [hyL] at hrow
    have HSX := Lib.hid (same_c y.v _ _ w7 (by rw [HW1.out]; decide) hrow O7.out.row)
    have hde : decide (k % 2 = 0) = true := decide_eq_true hev
    rw [hm1, hde]
    generalize y.v = yv at *
    clear hm1 hy hyL hrow hev hde
    go_wp2_with fail
    refine HSX.out.mono ?_
    rintro e w8 ⟨rfl, hb⟩
    have M8 := Lib.hid (M7.out.grow hb)
    clear hb c0 HSX
    go_wp2_with fail
    refine (HAW.out _).mono ?_
    rintro e wz ⟨rfl, hb⟩
    have BZ : Hid (Below w.heap.size w wz) := M8.out.below.trans (hb.mono M8.out.below.size)
    clear hb
    go_wp2_with fail
    go_ret
    exact ⟨rfl, BZ.out⟩
  · have hm1 : S.length = 0 := by have h := congrArg List.length HMK.out; simpa [hev] using h
    have hde : decide (k % 2 = 0) = false := decide_eq_false hev
    rw [hm1, hde]
    clear hm1 hde hev
    go_wp2_with fail
    refine (HAW.out _).mono ?_
    rintro e wz ⟨rfl, hb⟩
    have BZ : Hid (Below w.heap.size w wz) := M7.out.below.trans (hb.mono M7.out.below.size)
    clear hb
    go_wp2_with fail
    go_ret
    exact ⟨rfl, BZ.out⟩
end Go.Proofs.Ytclkkdhfdoidfaa
