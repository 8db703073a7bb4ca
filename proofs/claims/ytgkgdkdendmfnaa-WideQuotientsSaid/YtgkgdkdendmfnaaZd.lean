/- The law of P2.3, as a contract: it returns true, for every input. -/
import Derived.Test.YtgkgdkdendmfnaaZb
import Derived.Test.YtgkgdkdendmfnaaZc
namespace Go.Proofs.Ytgkgdkdendmfnaa
open Go.RowKit
theorem zero_iff (R : BitVec 128) (m : Int) (h : R.toInt = m) : (hiOf R == 0 && (loOf R : Int) == 0) = decide (m = 0) := by
  have h1 := num_same R 0
  rw [hi_zero, lo_zero] at h1
  rw [h1, Bool.eq_iff_iff, decide_eq_true_eq, decide_eq_true_eq, ← h]
  constructor
  · rintro rfl; rfl
  · intro h0; exact BitVec.eq_of_toInt_eq (by rw [h0]; rfl)
theorem rest_int (a b d : Int) (ha : I64 a) (hb : I64 b) (hd : I64 d) (h0 : d ≠ 0) (hF : I64 ((a * b).fdiv d)) : (ofI a * ofI b - ofI ((a * b).fdiv d) * ofI d).toInt = (a * b).fmod d := by
  obtain ⟨h1, h2, h3⟩ := floor_facts (a * b) d
  have e1 := mul_mod a b ha hb
  have e2 := mul_mod _ d hF hd
  have e3 := toInt_sub_mod (ofI a * ofI b) (ofI ((a * b).fdiv d) * ofI d)
  unfold I64 at hd
  generalize (a * b).fmod d = m at *
  refine toInt_of _ _ (by omega) (by omega) ?_
  rw [e3, Int.sub_emod, e1, e2, ← Int.sub_emod]
  generalize (a * b).fdiv d = F at *
  rw [show m = a * b - F * d by omega]
theorem quotientsL (a : Int) (ha : I64 a) (b : Int) (hb : I64 b) (d : Int) (hd : I64 d) (w : World) :
    Calls Try.prog 7 #[.int .i64 a, .int .i64 b, .int .i64 d] w fun e w' => e = .returned (.bool true) ∧ Below w.heap.size w w' := by
  by_cases h0 : d = 0
  · subst h0; exact quot_zero a b w ha hb
  cases hf : fits ((a * b).fdiv d)
  · rcases Int.lt_or_gt_of_ne h0 with h | h
    · exact quot_over_neg a b d w ha hb hd h hf
    · exact quot_over_pos a b d w ha hb hd h hf
  · have hF : I64 ((a * b).fdiv d) := fits_iff.1 hf
    have HM := fun w => muldiv_c a b d w ha hb hd
    rw [show divOf a b d = .returned (.tuple #[.int .i64 ((a * b).fdiv d), .bool (decide ((a * b).fmod d = 0)), .int .i64 0]) by unfold divOf; rw [if_neg h0, hf]; rfl] at HM
    have hr := rest_int a b d ha hb hd h0 hF
    obtain ⟨f1, f2, f3⟩ := floor_facts (a * b) d
    have ht := ofI_toInt d hd
    rcases Int.lt_or_gt_of_ne h0 with h | h
    · refine quot_fits_neg a b d _ _ _ _ _ _ _ _ _ _ _ _ w h (Lib.hid HM) (Lib.hid fun w => mul_c a b w ha hb) (Lib.hid fun w => mul_c _ d w hF hd) (Lib.hid (sub_c _ _)) (Lib.hid fun w => of_c d w hd) (Lib.hid (sign_c _)) (Lib.hid (cmp_c _ _)) (zero_iff _ _ hr) ?_ ?_
      · rw [cmpOf_eq, hr, show (0 : BitVec 128).toInt = 0 from rfl]; unfold cmpI; split <;> (try split) <;> omega
      · rw [cmpOf_eq, hr, ht]; unfold cmpI; split <;> (try split) <;> omega
    · refine quot_fits_pos a b d _ _ _ _ _ _ _ _ _ _ _ _ w h (Lib.hid HM) (Lib.hid fun w => mul_c a b w ha hb) (Lib.hid fun w => mul_c _ d w hF hd) (Lib.hid (sub_c _ _)) (Lib.hid fun w => of_c d w hd) (Lib.hid (sign_c _)) (Lib.hid (cmp_c _ _)) (zero_iff _ _ hr) ?_ ?_
      · rw [cmpOf_eq, hr, show (0 : BitVec 128).toInt = 0 from rfl]; unfold cmpI; split <;> (try split) <;> omega
      · rw [cmpOf_eq, hr, ht]; unfold cmpI; split <;> (try split) <;> omega
end Go.Proofs.Ytgkgdkdendmfnaa
