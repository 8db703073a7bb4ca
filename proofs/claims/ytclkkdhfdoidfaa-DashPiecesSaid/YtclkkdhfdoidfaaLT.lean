/- Layer 9: the law DashPieces, no lengths. -/
import Derived.Test.YtclkkdhfdoidfaaLR
namespace Go.Proofs.Ytclkkdhfdoidfaa
open Go.RowKit
set_option maxHeartbeats 4000000 in
set_option maxRecDepth 100000 in
theorem dashPieces_plain (sv : Value) (l : List Pt) (cl : Bool) (Lv : Value) (L : List Int) (phase : Int) (w : World) (row : Row w sv l) (rowL : RowI w Lv L) (h20 : l.length ≤ 20) (h8 : L.length ≤ 20) (hr : rightI L phase = true) (hro : l.all roomP = true) (hlo : longB (wayI l cl) = false) (hne : l ≠ []) (hL0 : L = []) :
    Calls Try.prog 6 #[.agg #[sv, .bool cl], .agg #[Lv, .int .i64 phase]] w fun e w' => e = .returned (.bool true) ∧ Below w.heap.size w w' := by
  have HDO : Hid (dashO l cl L phase = (0, [(l, cl)])) := by
    unfold Hid dashO wayO toldW
    rw [if_pos hr, hro, hlo]
    unfold dashW
    rw [if_pos rfl, if_neg (fun e => hne (wayI_nil_iff.1 e)), if_pos hL0]
    simp
  have HL0 := Lib.hid hL0
  have hnp : 0 < l.length := List.length_pos_iff.2 hne
  have HNP := Lib.hid hnp
  clear hL0 hne hnp
  have HAW := Lib.hid awake_c
  have M0 := Lib.hid (DashM.start w sv Lv cl phase)
  obtain ⟨w0, hw0⟩ : ∃ X, (w.alloc (.cells #[sv, .bool cl] 46)).alloc (.cells #[Lv, .int .i64 phase] 24) = X := ⟨_, rfl⟩
  have HW0 := Lib.hid hw0
  rw [hw0] at M0
  have HRF : Hid (l.length ≤ 20 → ∀ A, Below w.heap.size w A → Calls Try.prog 20 #[sv] A fun e w' => ∃ u, e = .returned u ∧ Own w' A.heap.size 39 u l ∧ Below A.heap.size A w') := fun h A hA => refs_c A sv l (by omega) (row.on hA)
  have HDA : Hid (l.length ≤ 20 → L.length ≤ 20 → ∀ A, Below w.heap.size w A → Calls Try.prog 25 #[.agg #[sv, .bool cl], .agg #[Lv, .int .i64 phase]] A (ToldS A (dashO l cl L phase))) := fun h1 h2 A hA => dash_c sv Lv l cl L phase A (row.on hA) (by omega) (rowL.on hA) (by omega)
  have HSM : Hid (l.length ≤ 20 → ∀ A u, Below w.heap.size w A → Row A u l → Calls Try.prog 24 #[sv, u] A fun e w' => e = .returned (.bool true) ∧ Below A.heap.size A w') := fun h A u hA hu => same_c sv u l A (by omega) (row.on hA) hu
  have HRI : Hid (∀ A, Below w.heap.size w A → Calls Try.prog 10 #[Lv, .int .i64 phase] A fun e w' => e = .returned (.bool (rightI L phase)) ∧ Below A.heap.size A w') := fun A hA => refRight_c Lv L phase A (rowL.on hA)
  obtain ⟨ao, c, rfl⟩ := row.shape
  obtain ⟨bo, d, rfl⟩ := rowL.shape
  obtain ⟨n, hn⟩ : ∃ n, l.length = n := ⟨_, rfl⟩
  obtain ⟨nl, hnl⟩ : ∃ nl, L.length = nl := ⟨_, rfl⟩
  have HN := Lib.hid hn
  have HNL := Lib.hid hnl
  rw [HDO.out] at HDA
  have HWO : Hid (refWayO (wayI l cl) = (wayI l cl, true)) := by unfold Hid refWayO; rw [hlo]; rfl
  clear hlo
  rw [hn, hnl] at M0 HW0 HDA ⊢
  rw [hn] at HRF HSM h20
  rw [hnl] at HRI h8
  rw [hr] at HRI
  have HRM := Lib.hid hro
  have H20 := Lib.hid h20
  have H8 := Lib.hid h8
  have hd : decide ((n : Int) > 20) = false := by simp; omega
  have hd8 : decide ((nl : Int) > 20) = false := by simp; omega
  clear row rowL hw0 hn hnl h20 h8 hr hro
  have s0 := M0.out.sub.cell 0
  have s1 := M0.out.sub.cell 1
  have p0 := M0.out.pat.cell 0
  have p1 := M0.out.pat.cell 1
  simp only [List.getElem?_toArray, List.getElem?_cons_zero, List.getElem?_cons_succ] at s0 s1 p0 p1
  go_enter Try.func6, Try.ntmps6
  go_wp2_with fail
  rw [HW0.out]
  refine (HRF.out H20.out _ M0.out.below).mono ?_
  rintro e w1 ⟨u, rfl, ho1, hb⟩
  have M1 := Lib.hid (M0.out.grow hb)
  have O1 : Hid (Own w1 0 39 u l) := ho1.base (Nat.zero_le _)
  clear hb ho1 s0 s1 p0 p1
  obtain ⟨ua, uc, rfl⟩ := own_nil_len O1.out
  rw [HN.out] at O1 ⊢
  have s0 := M1.out.sub.cell 0
  have s1 := M1.out.sub.cell 1
  have p0 := M1.out.pat.cell 0
  have p1 := M1.out.pat.cell 1
  simp only [List.getElem?_toArray, List.getElem?_cons_zero, List.getElem?_cons_succ] at s0 s1 p0 p1
  go_wp2_with fail
  refine (HDA.out H20.out H8.out _ M1.out.below).mono ?_
  rintro e w2 ⟨v, S, rfl, hs, hm, hb⟩
  have M2 := Lib.hid (M1.out.grow hb)
  have O2 := Lib.hid (O1.out.grow hb)
  have V2 := Lib.hid hs
  have HMP := Lib.hid hm
  clear hb hs hm s0 s1 p0 p1 O1
  have s0 := M2.out.sub.cell 0
  have s1 := M2.out.sub.cell 1
  have p0 := M2.out.pat.cell 0
  have p1 := M2.out.pat.cell 1
  simp only [List.getElem?_toArray, List.getElem?_cons_zero, List.getElem?_cons_succ] at s0 s1 p0 p1
  have HS1 := Lib.hid (HSM.out H20.out w2 _ M2.out.below O2.out.row)
  go_wp2_with fail
  refine HS1.out.mono ?_
  rintro e w3 ⟨rfl, hb⟩
  have M3 := Lib.hid (M2.out.grow hb)
  have O3 := Lib.hid (O2.out.grow hb)
  have V3 := Lib.hid (V2.out.grow hb)
  clear hb s0 s1 p0 p1 O2 V2 HS1
  have s0 := M3.out.sub.cell 0
  have s1 := M3.out.sub.cell 1
  have p0 := M3.out.pat.cell 0
  have p1 := M3.out.pat.cell 1
  simp only [List.getElem?_toArray, List.getElem?_cons_zero, List.getElem?_cons_succ] at s0 s1 p0 p1
  go_wp2_with fail
  refine (HRI.out _ M3.out.below).mono ?_
  rintro e w4 ⟨rfl, hb⟩
  have M4 := Lib.hid (M3.out.grow hb)
  have O4 := Lib.hid (O3.out.grow hb)
  have V4 := Lib.hid (V3.out.grow hb)
  clear hb s0 s1 p0 p1 O3 V3
  have HIN := Lib.hid (refIn7_c _ l w4 (by have := HN.out; have := H20.out; omega) O4.out.row)
  rw [HRM.out] at HIN
  go_wp2_with fail
  refine HIN.out.mono ?_
  rintro e w5 ⟨rfl, hb⟩
  have M5 := Lib.hid (M4.out.grow hb)
  have O5 := Lib.hid (O4.out.grow hb)
  have V5 := Lib.hid (V4.out.grow hb)
  clear hb HIN O4 V4
  have HRW := Lib.hid (refWay_c _ l cl w5 O5.out.row (by have := HN.out; have := H20.out; omega) HRM.out)
  have s0 := M5.out.sub.cell 0
  have s1 := M5.out.sub.cell 1
  have p0 := M5.out.pat.cell 0
  have p1 := M5.out.pat.cell 1
  simp only [List.getElem?_toArray, List.getElem?_cons_zero, List.getElem?_cons_succ] at s0 s1 p0 p1
  go_wp2_with fail
  rw [HWO.out] at HRW
  obtain ⟨y, hy, hyp⟩ : ∃ y, S[0]? = some y ∧ y.plain = (l, cl) := by
    have h := congrArg (fun z => z[0]?) HMP.out
    simp only [List.getElem?_map] at h
    cases hs : S[0]? with
    | none => rw [hs] at h; simp at h
    | some y => rw [hs] at h; exact ⟨y, rfl, by simpa using h⟩
  have hS1 : S.length = 1 := by have := congrArg List.length HMP.out; simpa using this
  have hyL : y.L = l := congrArg Prod.fst hyp
  have hyc : y.c = cl := congrArg Prod.snd hyp
  obtain ⟨q, qc, ev, hq, c0, c1⟩ := V5.out.at hy
  rw [hS1] at ev
  subst ev
  have hrow := V5.out.pts (List.mem_of_getElem? hy)
  rw [hyL] at hrow
  rw [hyc] at c1
  obtain ⟨xv, hxv⟩ : ∃ xv, y.v = xv := ⟨_, rfl⟩
  rw [hxv] at c0 hrow
  have hn0 : 0 < n := by have := HN.out; have := HNP.out; omega
  have hl0 : nl = 0 := by rw [← HNL.out, HL0.out]; rfl
  have HF5 : Hid (∀ A, Below w5.heap.size w5 A → A.cell? ⟨q, 0, none⟩ = some xv ∧ A.cell? ⟨q, 1, none⟩ = some (.bool cl) ∧ Row A xv l) := fun A hA => ⟨(cell_below hA hq).trans c0, (cell_below hA hq).trans c1, hrow.on hA⟩
  clear hS1 hyL hyc hyp hy hxv hq c0 c1 hrow
  refine HRW.out.mono ?_
  rintro e w6 ⟨x, rfl, ho, hb⟩
  have M6 := Lib.hid (M5.out.grow hb)
  have O6 := Lib.hid (O5.out.grow hb)
  obtain ⟨xa, xn, xc, rfl⟩ := own_shape' ho
  have HF : Hid (∀ A, Below w6.heap.size w6 A → A.cell? ⟨q, 0, none⟩ = some xv ∧ A.cell? ⟨q, 1, none⟩ = some (.bool cl) ∧ A.cell? ⟨w.heap.size, 1, none⟩ = some (.bool cl)) := fun A hA => by
    have h := HF5.out A (hb.trans (hA.mono hb.size))
    exact ⟨h.1, h.2.1, (M6.out.grow hA).sub.cell 1⟩
  have HSX : Hid (∀ A, Below w6.heap.size w6 A → Calls Try.prog 24 #[xv, .slice ua n uc] A fun e w' => e = .returned (.bool true) ∧ Below A.heap.size A w') := fun A hA => same_c xv _ l A (by have := HN.out; have := H20.out; omega) (HF5.out A (hb.trans (hA.mono hb.size))).2.2 (O6.out.grow hA).row
  clear hb ho HRW s0 s1 p0 p1
  have en : ((n : Int) == 0) = false := by simp; omega
  have en2 : ((nl : Int) == 0) = true := by simp; omega
  clear hn0 hl0
  have s0 := M6.out.sub.cell 0
  have s1 := M6.out.sub.cell 1
  have p0 := M6.out.pat.cell 0
  have p1 := M6.out.pat.cell 1
  simp only [List.getElem?_toArray, List.getElem?_cons_zero, List.getElem?_cons_succ] at s0 s1 p0 p1
  go_wp2_with fail
  refine wp_region_quiet (C := Out w6) (by kernel_rfl) (by kernel_rfl) ⟨rfl, rfl, rfl, Nat.le_refl _, fun _ _ => rfl⟩ ?_
  refine BigFrame.wpQuiet_want rfl (fun K hK => ?_)
  refine quiet_val (.int .i64 0) (fun w' hw' => by go_simp) (hK _ ?_)
  clear hK K
  simp only [Act.put, List.setIfInBounds_toArray, List.set_cons_zero, List.set_cons_succ]
  refine BigFrame.wpQuiet_want rfl (fun K hK => ?_)
  refine quiet_val (.bool true) (fun w' hw' => by go_simp) (hK _ ?_)
  clear hK K
  simp only [Act.put, List.setIfInBounds_toArray, List.set_cons_zero, List.set_cons_succ]
  refine BigFrame.wpQuiet_want rfl (fun K hK => ?_)
  refine quiet_val (.bool true) (fun w' hw' => by go_simp) (hK _ ?_)
  clear hK K
  simp only [Act.put, List.setIfInBounds_toArray, List.set_cons_zero, List.set_cons_succ]
  refine BigFrame.wpQuiet_want rfl (fun K hK => ?_)
  refine quiet_val (.slice (some ⟨q, 0, none⟩) 1 qc) (fun w' hw' => by go_simp) (hK _ ?_)
  clear hK K
  simp only [Act.put, List.setIfInBounds_toArray, List.set_cons_zero, List.set_cons_succ]
  refine BigFrame.wpQuiet_want rfl (fun K hK => ?_)
  refine quiet_val (.int .i64 1) (fun w' hw' => by go_simp) (hK _ ?_)
  clear hK K
  simp only [Act.put, List.setIfInBounds_toArray, List.set_cons_zero, List.set_cons_succ]
  refine BigFrame.wpQuiet_want rfl (fun K hK => ?_)
  refine quiet_val (.bool true) (fun w' hw' => by go_simp) (hK _ ?_)
  clear hK K
  simp only [Act.put, List.setIfInBounds_toArray, List.set_cons_zero, List.set_cons_succ]
  refine BigFrame.wpQuiet_want rfl (fun K hK => ?_)
  refine quiet_val (.bool true) (fun w' hw' => by go_simp) (hK _ ?_)
  clear hK K
  simp only [Act.put, List.setIfInBounds_toArray, List.set_cons_zero, List.set_cons_succ]
  refine BigFrame.wpQuiet_want rfl (fun K hK => ?_)
  refine quiet_val (.bool true) (fun w' hw' => by go_simp) (hK _ ?_)
  clear hK K
  simp only [Act.put, List.setIfInBounds_toArray, List.set_cons_zero, List.set_cons_succ]
  refine BigFrame.wpQuiet_want rfl (fun K hK => ?_)
  refine quiet_val (.slice (some ⟨q, 0, none⟩) 1 qc) (fun w' hw' => by go_simp) (hK _ ?_)
  clear hK K
  simp only [Act.put, List.setIfInBounds_toArray, List.set_cons_zero, List.set_cons_succ]
  refine BigFrame.wpQuiet_want rfl (fun K hK => ?_)
  refine quiet_val (.pointer (some ⟨q, 0, none⟩)) (fun w' hw' => by go_simp) (hK _ ?_)
  clear hK K
  simp only [Act.put, List.setIfInBounds_toArray, List.set_cons_zero, List.set_cons_succ]
  refine BigFrame.wpQuiet_want rfl (fun K hK => ?_)
  refine quiet_val (.pointer (some ⟨q, 0, none⟩)) (fun w' hw' => by go_simp) (hK _ ?_)
  clear hK K
  simp only [Act.put, List.setIfInBounds_toArray, List.set_cons_zero, List.set_cons_succ]
  refine BigFrame.wpQuiet_want rfl (fun K hK => ?_)
  refine quiet_val (xv) (fun w' hw' => by have c0 := (HF.out w' hw').1; go_simp) (hK _ ?_)
  clear hK K
  simp only [Act.put, List.setIfInBounds_toArray, List.set_cons_zero, List.set_cons_succ]
  refine BigFrame.wpQuiet_want rfl (fun K hK => ?_)
  refine quiet_val (.slice ua n uc) (fun w' hw' => by go_simp) (hK _ ?_)
  clear hK K
  simp only [Act.put, List.setIfInBounds_toArray, List.set_cons_zero, List.set_cons_succ]
  refine BigFrame.wpQuiet_want rfl (fun K hK => ?_)
  refine quiet_call 24 #[xv, .slice ua n uc] (.bool true) (fun w' _ => by go_simp) (fun w' hw' => Calls.out hw' (HSX.out w' hw')) (hK _ ?_)
  clear hK K
  simp only [Act.put, List.setIfInBounds_toArray, List.set_cons_zero, List.set_cons_succ]
  refine BigFrame.wpQuiet_want rfl (fun K hK => ?_)
  refine quiet_val (.bool true) (fun w' hw' => by go_simp) (hK _ ?_)
  clear hK K
  simp only [Act.put, List.setIfInBounds_toArray, List.set_cons_zero, List.set_cons_succ]
  refine BigFrame.wpQuiet_want rfl (fun K hK => ?_)
  refine quiet_val (.bool true) (fun w' hw' => by go_simp) (hK _ ?_)
  clear hK K
  simp only [Act.put, List.setIfInBounds_toArray, List.set_cons_zero, List.set_cons_succ]
  refine BigFrame.wpQuiet_want rfl (fun K hK => ?_)
  refine quiet_val (.slice (some ⟨q, 0, none⟩) 1 qc) (fun w' hw' => by go_simp) (hK _ ?_)
  clear hK K
  simp only [Act.put, List.setIfInBounds_toArray, List.set_cons_zero, List.set_cons_succ]
  refine BigFrame.wpQuiet_want rfl (fun K hK => ?_)
  refine quiet_val (.pointer (some ⟨q, 0, none⟩)) (fun w' hw' => by go_simp) (hK _ ?_)
  clear hK K
  simp only [Act.put, List.setIfInBounds_toArray, List.set_cons_zero, List.set_cons_succ]
  refine BigFrame.wpQuiet_want rfl (fun K hK => ?_)
  refine quiet_val (.pointer (some ⟨q, 1, none⟩)) (fun w' hw' => by go_simp) (hK _ ?_)
  clear hK K
  simp only [Act.put, List.setIfInBounds_toArray, List.set_cons_zero, List.set_cons_succ]
  refine BigFrame.wpQuiet_want rfl (fun K hK => ?_)
  refine quiet_val (.bool cl) (fun w' hw' => by have c0 := (HF.out w' hw').2.1; go_simp) (hK _ ?_)
  clear hK K
  simp only [Act.put, List.setIfInBounds_toArray, List.set_cons_zero, List.set_cons_succ]
  refine BigFrame.wpQuiet_want rfl (fun K hK => ?_)
  refine quiet_val (.pointer (some ⟨w.heap.size, 1, none⟩)) (fun w' hw' => by go_simp) (hK _ ?_)
  clear hK K
  simp only [Act.put, List.setIfInBounds_toArray, List.set_cons_zero, List.set_cons_succ]
  refine BigFrame.wpQuiet_want rfl (fun K hK => ?_)
  refine quiet_val (.bool cl) (fun w' hw' => by have c0 := (HF.out w' hw').2.2; go_simp) (hK _ ?_)
  clear hK K
  simp only [Act.put, List.setIfInBounds_toArray, List.set_cons_zero, List.set_cons_succ]
  refine BigFrame.wpQuiet_want rfl (fun K hK => ?_)
  refine quiet_val (.bool true) (fun w' hw' => by go_simp) (hK _ ?_)
  clear hK K
  simp only [Act.put, List.setIfInBounds_toArray, List.set_cons_zero, List.set_cons_succ]
  refine BigFrame.wpQuiet_want rfl (fun K hK => ?_)
  refine quiet_val (.bool true) (fun w' hw' => by go_simp) (hK _ ?_)
  clear hK K
  simp only [Act.put, List.setIfInBounds_toArray, List.set_cons_zero, List.set_cons_succ]
  refine BigFrame.wpQuiet_want rfl (fun K hK => ?_)
  refine quiet_val (.bool true) (fun w' hw' => by go_simp) (hK _ ?_)
  clear hK K
  simp only [Act.put, List.setIfInBounds_toArray, List.set_cons_zero, List.set_cons_succ]
  refine BigFrame.wpQuiet_want rfl (fun K hK => ?_)
  refine quiet_call 9 #[] (.bool true) (fun w' _ => by go_simp) (fun w' hw' => Calls.out hw' (HAW.out w')) (hK _ ?_)
  clear hK K
  simp only [Act.put, List.setIfInBounds_toArray, List.set_cons_zero, List.set_cons_succ]
  refine BigFrame.wpQuiet_want rfl (fun K hK => ?_)
  refine quiet_val (.bool true) (fun w' hw' => by go_simp) (hK _ ?_)
  clear hK K
  simp only [Act.put, List.setIfInBounds_toArray, List.set_cons_zero, List.set_cons_succ]
  refine BigFrame.wpQuiet_want rfl (fun K hK => ?_)
  refine quiet_val (.bool true) (fun w' hw' => by go_simp) (hK _ ?_)
  clear hK K
  simp only [Act.put, List.setIfInBounds_toArray, List.set_cons_zero, List.set_cons_succ]
  refine wpQuiet_nil ?_
  intro w7 hb
  have B7 : Hid (Below w.heap.size w w7) := M6.out.below.trans (hb.mono M6.out.below.size)
  clear hb
  go_wp2_with fail
  go_ret
  exact ⟨rfl, B7.out⟩
end Go.Proofs.Ytclkkdhfdoidfaa
