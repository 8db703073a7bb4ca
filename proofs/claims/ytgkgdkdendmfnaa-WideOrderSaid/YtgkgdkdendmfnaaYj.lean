/- Contracts of package wide: MulDiv. -/
import Derived.Test.YtgkgdkdendmfnaaYi
namespace Go.Proofs.Ytgkgdkdendmfnaa
open Go.RowKit
theorem of_nat (q : Nat) (h : q < 18446744073709551616) : (0 : Int) = hiOf (BitVec.ofInt 128 (q : Int)) ∧ (q : Int) = (loOf (BitVec.ofInt 128 (q : Int)) : Int) := by
  refine halves _ 0 q (by decide) (by decide) (by omega) (by omega) ?_
  rw [BitVec.toInt_ofInt]
  rw [Int.zero_mul, Int.zero_add]
  exact (Int.bmod_emod).symm
theorem NumAt.other {w : World} {g : Nat} {hi lo : Int} (h : NumAt w g hi lo) (a : Addr) (v : Value) (hne : g ≠ a.block) : NumAt (w.setCell a v) g hi lo := by
  unfold NumAt; rw [Below.heap_setCell _ _ _ _ hne]; exact h
set_option maxRecDepth 100000 in
set_option maxHeartbeats 400000 in
theorem below_c (q r : Nat) (h : q < 18446744073709551616) (w : World) : Calls Try.prog 40 #[.int .u64 q, .int .u64 r] w fun e w' =>
    e = .returned (.agg #[.int .i64 (hiOf (if r = 0 then -BitVec.ofInt 128 (q : Int) else -BitVec.ofInt 128 (q : Int) - ofI 1)), .int .u64 (loOf (if r = 0 then -BitVec.ofInt 128 (q : Int) else -BitVec.ofInt 128 (q : Int) - ofI 1))]) ∧ Below w.heap.size w w' := by
  have hq := of_nat q h
  have HN := Lib.hid (neg_c (BitVec.ofInt 128 (q : Int)))
  have HO := Lib.hid fun w => of_c 1 w (by unfold I64; omega)
  have HS := Lib.hid (sub_c (-BitVec.ofInt 128 (q : Int)) (ofI 1))
  rw [← hq.1, ← hq.2] at HN
  clear hq
  generalize BitVec.ofInt 128 (q : Int) = u at *
  generalize -u = v at *
  by_cases hr : r = 0
  · rw [if_pos hr]
    have hd : ((r : Int) == 0) = true := by simp; omega
    have hd2 : decide (r = 0) = true := by simpa using hr
    clear hr
    generalize hiOf v = vh at *
    generalize (loOf v : Int) = vl at *
    go_enter Try.func40, Try.ntmps40
    go_wp2_with fail
    refine (HN.out _).mono ?_
    rintro e w1 ⟨rfl, hb⟩
    have m1 : NumAt w1 w.heap.size 0 0 := NumAt.on (B := w.heap.size + 1) (heap_alloc_last w _) (by simpa using hb) (by omega)
    have hs1 : w.heap.size + 1 ≤ w1.heap.size := by have := hb.size; simpa using this
    have B1 : Hid (Below w.heap.size w w1) := below_next ((Below.refl _ _).alloc (Nat.le_refl _) _) hb
    have c0 := m1.c0
    have c1 := m1.c1
    have f0 := m1.free 0
    have f1 := m1.free 1
    have M1 := Lib.hid m1
    have hlt : w.heap.size < w1.heap.size := by omega
    clear hb m1
    go_wp2_with fail
    have m3 := M1.out.stored vh vl
    have hs3 : ((w1.setCell ⟨w.heap.size, 0, none⟩ (.int .i64 vh)).setCell ⟨w.heap.size, 1, none⟩ (.int .u64 vl)).heap.size = w1.heap.size := by simp
    have b3 : Below w.heap.size w ((w1.setCell ⟨w.heap.size, 0, none⟩ (.int .i64 vh)).setCell ⟨w.heap.size, 1, none⟩ (.int .u64 vl)) := (B1.out.setCell (Nat.le_refl _) _).setCell (Nat.le_refl _) _
    have m4 : NumAt (((w1.setCell ⟨w.heap.size, 0, none⟩ (.int .i64 vh)).setCell ⟨w.heap.size, 1, none⟩ (.int .u64 vl)).alloc (.cells #[.int .i64 vh, .int .u64 vl] 24)) w.heap.size vh vl := by
      unfold NumAt; rw [heap_alloc_old _ _ (by omega)]; exact m3
    exact bodyPost_ret (results_num 4 rfl rfl m4.c0 m4.c1) rfl ⟨rfl, b3.alloc (by omega) _⟩
  · rw [if_neg hr]
    have hd : ((r : Int) == 0) = false := by simp; omega
    have hd2 : decide (r = 0) = false := by simpa using hr
    clear hr
    generalize hiOf (v - ofI 1) = zh at *
    generalize (loOf (v - ofI 1) : Int) = zl at *
    generalize hiOf v = vh at *
    generalize (loOf v : Int) = vl at *
    go_enter Try.func40, Try.ntmps40
    go_wp2_with fail
    refine (HN.out _).mono ?_
    rintro e w1 ⟨rfl, hb⟩
    have m1 : NumAt w1 w.heap.size 0 0 := NumAt.on (B := w.heap.size + 1) (heap_alloc_last w _) (by simpa using hb) (by omega)
    have hs1 : w.heap.size + 1 ≤ w1.heap.size := by have := hb.size; simpa using this
    have B1 : Hid (Below w.heap.size w w1) := below_next ((Below.refl _ _).alloc (Nat.le_refl _) _) hb
    clear hb
    go_wp2_with fail
    have m2 : NumAt (w1.alloc (.cells #[.int .i64 vh, .int .u64 vl] 24)) w.heap.size 0 0 := by
      unfold NumAt; rw [heap_alloc_old _ _ (by omega)]; exact m1
    have mx : NumAt (w1.alloc (.cells #[.int .i64 vh, .int .u64 vl] 24)) w1.heap.size vh vl := heap_alloc_last _ _
    have B2 : Below w.heap.size w (w1.alloc (.cells #[.int .i64 vh, .int .u64 vl] 24)) := B1.out.alloc (by omega) _
    have hsz : (w1.alloc (.cells #[.int .i64 vh, .int .u64 vl] 24)).heap.size = w1.heap.size + 1 := by simp
    have hlt : w.heap.size < w1.heap.size := by omega
    generalize w1.alloc (.cells #[.int .i64 vh, .int .u64 vl] 24) = W at *
    generalize w1.heap.size = g at *
    clear B1 m1
    refine wp_region_noPanic ?_
    refine wp_region_held_drew (S := fun w' => NumAt w' g vh vl) (by kernel_rfl) mx (fun hS => ?_)
    refine wpAnyH_take (i := 0) (v := .agg #[.int .i64 vh, .int .u64 vl]) rfl (by kernel_rfl) (by kernel_rfl) (by kernel_rfl) (fun _ _ _ h => h.elim) (.inl ⟨rfl, fun w' hw' => run_numI _ _ _ g _ _ w' rfl rfl hw'⟩) hS ?_
    simp only [Act.put, List.getElem_toArray, List.getElem_cons_zero, List.setIfInBounds_toArray, List.set_cons_zero, List.set_cons_succ]
    refine wpAnyH_ready (rs := [1]) (by kernel_rfl) (by simp) (AllReadyH.cons rfl (fun K hK => ?_) AllReadyH.nil)
    simp only [List.getElem_toArray, List.getElem_cons_succ, List.getElem_cons_zero]
    go_simp
    refine (HO.out _).mono ?_
    rintro e w2 ⟨rfl, hb2⟩
    have r1 : NumAt w2 w.heap.size 0 0 := NumAt.on (show NumAt W.drew w.heap.size 0 0 from m2) hb2 (by show _ < W.heap.size; omega)
    have x1 : NumAt w2 g vh vl := NumAt.on (show NumAt W.drew g vh vl from mx) hb2 (by show _ < W.heap.size; omega)
    have b1 : Below w.heap.size w w2 := below_next (show Below w.heap.size w W.drew from B2.drew) hb2
    have s1 : g + 1 ≤ w2.heap.size := by have h : W.heap.size ≤ w2.heap.size := hb2.size; omega
    refine hK.out _ _ x1 (fun hS => ?_)
    refine wpAnyH_ready (rs := [2]) (by kernel_rfl) (by simp) (AllReadyH.cons rfl (fun K hK => ?_) AllReadyH.nil)
    simp only [List.getElem_toArray, List.getElem_cons_succ, List.getElem_cons_zero]
    clear hb2
    go_simp
    refine (HS.out _).mono ?_
    rintro e w3 ⟨rfl, hb3⟩
    have r2 : NumAt w3 w.heap.size 0 0 := NumAt.on r1 hb3 (by omega)
    have x2 : NumAt w3 g vh vl := NumAt.on x1 hb3 (by omega)
    have b2 : Below w.heap.size w w3 := below_next b1 hb3
    refine hK.out _ _ x2 (fun hS => ?_)
    refine wpAnyH_ready (rs := [3]) (by kernel_rfl) (by simp) (AllReadyH.cons rfl (fun K hK => ?_) AllReadyH.nil)
    simp only [List.getElem_toArray, List.getElem_cons_succ, List.getElem_cons_zero]
    clear hb3 hS
    have c0 := r2.c0
    have c1 := r2.c1
    have f0 := r2.free 0
    have f1 := r2.free 1
    have M2 := Lib.hid r2
    have HK := Lib.hid hK
    have X2 := Lib.hid x2
    have B3 := Lib.hid b2
    clear hK x2 b2 r2 x1 r1 b1 mx m2 B2
    go_simp
    refine HK.out _ _ ((X2.out.other _ _ (by dsimp only; omega)).other _ _ (by dsimp only; omega)) (fun hS => ?_)
    have m3 := M2.out.stored zh zl
    refine wpAnyH_done (by kernel_rfl) ?_ _
    refine NoPanic.normal ?_
    go_wp2_with fail
    exact bodyPost_ret (results_num 4 rfl rfl m3.c0 m3.c1) rfl ⟨rfl, (B3.out.setCell (Nat.le_refl _) _).setCell (Nat.le_refl _) _⟩
end Go.Proofs.Ytgkgdkdendmfnaa
