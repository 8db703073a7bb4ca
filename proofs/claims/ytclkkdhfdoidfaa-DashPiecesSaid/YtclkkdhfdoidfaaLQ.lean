/- Layer 9: the law DashPieces, its refused cases. -/
import Derived.Test.YtclkkdhfdoidfaaDp
import Derived.Test.YtclkkdhfdoidfaaDk
import Derived.Test.YtclkkdhfdoidfaaDr
namespace Go.Proofs.Ytclkkdhfdoidfaa
open Go.RowKit
theorem dash_refused {l : List Pt} {cl : Bool} {L : List Int} {p : Int} (h : rightI L p = false ∨ l.all roomP = false) : dashO l cl L p = (30, []) := by
  unfold dashO
  by_cases hr : rightI L p = true
  · rw [if_pos hr]
    rcases h with h | h
    · rw [h] at hr; cases hr
    · have hwo : wayO l cl = (30, []) := by unfold wayO; rw [h]; rfl
      rw [hwo]; rfl
  · rw [if_neg hr]
theorem dash_long {l : List Pt} {cl : Bool} {L : List Int} {p : Int} (h1 : rightI L p = true) (h2 : l.all roomP = true) (h3 : longB (wayI l cl) = true) : dashO l cl L p = (10, []) := by
  unfold dashO
  have hwo : wayO l cl = (10, []) := by unfold wayO toldW; rw [h2, h3]; rfl
  rw [if_pos h1, hwo]; rfl
theorem subs_none {w : World} {v : Value} {S : List Sb} (h : SubsR w v S) (hm : S.map Sb.plain = []) : ∃ a c, v = .slice a 0 c := by
  obtain ⟨a, c, e⟩ := subs_shape h.row
  rw [List.map_eq_nil_iff.1 hm] at e
  exact ⟨a, c, e⟩
set_option maxHeartbeats 4000000 in
set_option maxRecDepth 100000 in
theorem dashPieces_big (sv : Value) (l : List Pt) (cl : Bool) (Lv : Value) (L : List Int) (phase : Int) (w : World) (row : Row w sv l) (rowL : RowI w Lv L) (hf : 20 < l.length ∨ 20 < L.length) :
    Calls Try.prog 6 #[.agg #[sv, .bool cl], .agg #[Lv, .int .i64 phase]] w fun e w' => e = .returned (.bool true) ∧ Below w.heap.size w w' := by
  have HAW := Lib.hid awake_c
  have M0 := Lib.hid (DashM.start w sv Lv cl phase)
  obtain ⟨w0, hw0⟩ : ∃ X, (w.alloc (.cells #[sv, .bool cl] 46)).alloc (.cells #[Lv, .int .i64 phase] 24) = X := ⟨_, rfl⟩
  have HW0 := Lib.hid hw0
  rw [hw0] at M0
  have HRF : Hid (l.length ≤ 20 → ∀ A, Below w.heap.size w A → Calls Try.prog 20 #[sv] A fun e w' => ∃ u, e = .returned u ∧ Own w' A.heap.size 39 u l ∧ Below A.heap.size A w') := fun h A hA => refs_c A sv l (by omega) (row.on hA)
  have HDA : Hid (l.length ≤ 20 → L.length ≤ 20 → ∀ A, Below w.heap.size w A → Calls Try.prog 25 #[.agg #[sv, .bool cl], .agg #[Lv, .int .i64 phase]] A (ToldS A (dashO l cl L phase))) := fun h1 h2 A hA => dash_c sv Lv l cl L phase A (row.on hA) (by omega) (rowL.on hA) (by omega)
  have HSM : Hid (l.length ≤ 20 → ∀ A u, Below w.heap.size w A → Row A u l → Calls Try.prog 24 #[sv, u] A fun e w' => e = .returned (.bool true) ∧ Below A.heap.size A w') := fun h A u hA hu => same_c sv u l A (by omega) (row.on hA) hu
  have HRI : Hid (∀ A, Below w.heap.size w A → Calls Try.prog 10 #[Lv, .int .i64 phase] A fun e w' => e = .returned (.bool (rightI L phase)) ∧ Below A.heap.size A w') := fun A hA => refRight_c Lv L phase A (rowL.on hA)
  obtain ⟨ao, c, rfl⟩ := row.shape
  obtain ⟨bo, d, rfl⟩ := rowL.shape
  obtain ⟨n, hn⟩ : ∃ n, l.length = n := ⟨_, rfl⟩
  obtain ⟨nl, hnl⟩ : ∃ nl, L.length = nl := ⟨_, rfl⟩
  have HN := Lib.hid hn
  have HNL := Lib.hid hnl
  rw [hn, hnl] at M0 HW0 hf ⊢
  clear row rowL hw0 hn hnl HRF HDA HSM HRI
  have s0 := M0.out.sub.cell 0
  have s1 := M0.out.sub.cell 1
  have p0 := M0.out.pat.cell 0
  have p1 := M0.out.pat.cell 1
  simp only [List.getElem?_toArray, List.getElem?_cons_zero, List.getElem?_cons_succ] at s0 s1 p0 p1
  by_cases h20 : 20 < n
  · have hd : decide ((n : Int) > 20) = true := by simp; omega
    go_enter Try.func6, Try.ntmps6
    go_wp2_with fail
    rw [HW0.out]
    refine (HAW.out _).mono ?_
    rintro e wz ⟨rfl, hb⟩
    have BZ : Hid (Below w.heap.size w wz) := M0.out.below.trans (hb.mono M0.out.below.size)
    clear hb
    go_wp2_with fail
    go_ret
    exact ⟨rfl, BZ.out⟩
  · have hd : decide ((n : Int) > 20) = false := by simp; omega
    have hd8 : decide ((nl : Int) > 20) = true := by simp; omega
    go_enter Try.func6, Try.ntmps6
    go_wp2_with fail
    rw [HW0.out]
    refine (HAW.out _).mono ?_
    rintro e wz ⟨rfl, hb⟩
    have BZ : Hid (Below w.heap.size w wz) := M0.out.below.trans (hb.mono M0.out.below.size)
    clear hb
    go_wp2_with fail
    go_ret
    exact ⟨rfl, BZ.out⟩
set_option maxHeartbeats 4000000 in
set_option maxRecDepth 100000 in
theorem dashPieces_refused (sv : Value) (l : List Pt) (cl : Bool) (Lv : Value) (L : List Int) (phase : Int) (w : World) (row : Row w sv l) (rowL : RowI w Lv L) (h20 : l.length ≤ 20) (h8 : L.length ≤ 20) (hf : rightI L phase = false ∨ l.all roomP = false) :
    Calls Try.prog 6 #[.agg #[sv, .bool cl], .agg #[Lv, .int .i64 phase]] w fun e w' => e = .returned (.bool true) ∧ Below w.heap.size w w' := by
  have HAW := Lib.hid awake_c
  have M0 := Lib.hid (DashM.start w sv Lv cl phase)
  obtain ⟨w0, hw0⟩ : ∃ X, (w.alloc (.cells #[sv, .bool cl] 46)).alloc (.cells #[Lv, .int .i64 phase] 24) = X := ⟨_, rfl⟩
  have HW0 := Lib.hid hw0
  rw [hw0] at M0
  have HRF : Hid (l.length ≤ 20 → ∀ A, Below w.heap.size w A → Calls Try.prog 20 #[sv] A fun e w' => ∃ u, e = .returned u ∧ Own w' A.heap.size 39 u l ∧ Below A.heap.size A w') := fun h A hA => refs_c A sv l (by omega) (row.on hA)
  have HDA : Hid (l.length ≤ 20 → L.length ≤ 20 → ∀ A, Below w.heap.size w A → Calls Try.prog 25 #[.agg #[sv, .bool cl], .agg #[Lv, .int .i64 phase]] A (ToldS A (dashO l cl L phase))) := fun h1 h2 A hA => dash_c sv Lv l cl L phase A (row.on hA) (by omega) (rowL.on hA) (by omega)
  have HSM : Hid (l.length ≤ 20 → ∀ A u, Below w.heap.size w A → Row A u l → Calls Try.prog 24 #[sv, u] A fun e w' => e = .returned (.bool true) ∧ Below A.heap.size A w') := fun h A u hA hu => same_c sv u l A (by omega) (row.on hA) hu
  have HRI : Hid (∀ A, Below w.heap.size w A → Calls Try.prog 10 #[Lv, .int .i64 phase] A fun e w' => e = .returned (.bool (rightI L phase)) ∧ Below A.heap.size A w') := fun A hA => refRight_c Lv L phase A (rowL.on hA)
  obtain ⟨ao, c, rfl⟩ := row.shape
  obtain ⟨bo, d, rfl⟩ := rowL.shape
  obtain ⟨n, hn⟩ : ∃ n, l.length = n := ⟨_, rfl⟩
  obtain ⟨nl, hnl⟩ : ∃ nl, L.length = nl := ⟨_, rfl⟩
  have HN := Lib.hid hn
  have HNL := Lib.hid hnl
  rw [dash_refused hf] at HDA
  rw [hn, hnl] at M0 HW0 HDA ⊢
  rw [hn] at HRF HSM h20
  rw [hnl] at HRI h8
  have H20 := Lib.hid h20
  have H8 := Lib.hid h8
  have hd : decide ((n : Int) > 20) = false := by simp; omega
  have hd8 : decide ((nl : Int) > 20) = false := by simp; omega
  clear row rowL hw0 hn hnl h20 h8
  have s0 := M0.out.sub.cell 0
  have s1 := M0.out.sub.cell 1
  have p0 := M0.out.pat.cell 0
  have p1 := M0.out.pat.cell 1
  simp only [List.getElem?_toArray, List.getElem?_cons_zero, List.getElem?_cons_succ] at s0 s1 p0 p1
  go_enter Try.func6, Try.ntmps6
  go_wp2_with fail
  rw [HW0.out]
  refine (HRF.out H20.out _ M0.out.below).mono ?_
  rintro e w1 ⟨u, rfl, ho1, hb⟩
  have M1 := Lib.hid (M0.out.grow hb)
  have O1 : Hid (Own w1 0 39 u l) := ho1.base (Nat.zero_le _)
  clear hb ho1 s0 s1 p0 p1
  obtain ⟨ua, uc, rfl⟩ := own_nil_len O1.out
  rw [HN.out] at O1 ⊢
  have s0 := M1.out.sub.cell 0
  have s1 := M1.out.sub.cell 1
  have p0 := M1.out.pat.cell 0
  have p1 := M1.out.pat.cell 1
  simp only [List.getElem?_toArray, List.getElem?_cons_zero, List.getElem?_cons_succ] at s0 s1 p0 p1
  go_wp2_with fail
  refine (HDA.out H20.out H8.out _ M1.out.below).mono ?_
  rintro e w2 ⟨v, S, rfl, hs, hm, hb⟩
  have M2 := Lib.hid (M1.out.grow hb)
  have O2 := Lib.hid (O1.out.grow hb)
  obtain ⟨va, vc, rfl⟩ := subs_none hs hm
  clear hb hs hm s0 s1 p0 p1 O1
  have s0 := M2.out.sub.cell 0
  have s1 := M2.out.sub.cell 1
  have p0 := M2.out.pat.cell 0
  have p1 := M2.out.pat.cell 1
  simp only [List.getElem?_toArray, List.getElem?_cons_zero, List.getElem?_cons_succ] at s0 s1 p0 p1
  have HS1 := Lib.hid (HSM.out H20.out w2 _ M2.out.below O2.out.row)
  go_wp2_with fail
  refine HS1.out.mono ?_
  rintro e w3 ⟨rfl, hb⟩
  have M3 := Lib.hid (M2.out.grow hb)
  have O3 := Lib.hid (O2.out.grow hb)
  clear hb s0 s1 p0 p1 O2 HS1
  have s0 := M3.out.sub.cell 0
  have s1 := M3.out.sub.cell 1
  have p0 := M3.out.pat.cell 0
  have p1 := M3.out.pat.cell 1
  simp only [List.getElem?_toArray, List.getElem?_cons_zero, List.getElem?_cons_succ] at s0 s1 p0 p1
  go_wp2_with fail
  refine (HRI.out _ M3.out.below).mono ?_
  rintro e w4 ⟨rfl, hb⟩
  have M4 := Lib.hid (M3.out.grow hb)
  have O4 := Lib.hid (O3.out.grow hb)
  clear hb s0 s1 p0 p1 O3
  cases hr : rightI L phase
  · go_wp2_with fail
    refine (HAW.out _).mono ?_
    rintro e wz ⟨rfl, hb⟩
    have BZ : Hid (Below w.heap.size w wz) := M4.out.below.trans (hb.mono M4.out.below.size)
    clear hb
    go_wp2_with fail
    go_ret
    exact ⟨rfl, BZ.out⟩
  · have hro : l.all roomP = false := by
      rcases hf with h | h
      · rw [h] at hr; cases hr
      · exact h
    have HIN := Lib.hid (refIn7_c _ l w4 (by have := HN.out; have := H20.out; omega) O4.out.row)
    rw [hro] at HIN
    go_wp2_with fail
    refine HIN.out.mono ?_
    rintro e w5 ⟨rfl, hb⟩
    have M5 := Lib.hid (M4.out.grow hb)
    clear hb HIN
    go_wp2_with fail
    refine (HAW.out _).mono ?_
    rintro e wz ⟨rfl, hb⟩
    have BZ : Hid (Below w.heap.size w wz) := M5.out.below.trans (hb.mono M5.out.below.size)
    clear hb
    go_wp2_with fail
    go_ret
    exact ⟨rfl, BZ.out⟩
end Go.Proofs.Ytclkkdhfdoidfaa
