/- Contracts of the texts of layer 1 (fixed). -/
import Derived.Test.YthejffimgdoapaaDoorB
import Derived.Test.YthejffimgdoapaaDoorS
import Derived.Test.YthejffimgdoapaaDoorShelf
import Derived.Lib.SmallJoins
import Derived.Lib.AppendIntMem
namespace Go.Proofs.YthejffimgdoapaaDoor
open Go.RowKit

/-- What the walks read of memory: the library's table of powers of ten. -/
def Rd (w : World) : Prop := Lib.TabIs Tryd.prog w "internal/strconv.uint64pow10" .u64 Lib.pow10Tab
theorem Rd.on {w w' : World} (h : Rd w) (hb : Below w.heap.size w w') : Rd w' := Lib.tabBelow_of_tabIs h w' hb
theorem below_next {a b c : World} (h : Below a.heap.size a b) (k : Below b.heap.size b c) : Below a.heap.size a c := h.trans (k.mono h.size)
theorem ret_str {a b : List UInt8} (h : a = b) : Ending.returned (.string ⟨a.toArray⟩) = .returned (.string ⟨b.toArray⟩) := by rw [h]

theorem itoa_any (n : Int) (h0 : -9223372036854775808 ≤ n) (h1 : n ≤ 9223372036854775807) (w : World) (ht : Rd w) :
    Calls Tryd.prog 29 #[.int .i64 n] w fun e w' => e = .returned (.string ⟨(Lib.itoa n).toArray⟩) ∧ Below w.heap.size w w' :=
  (Tryd.strconv_Itoa n h0 h1 w ht).mono fun _ _ ⟨he, k, os, hw⟩ => ⟨he, hw ▸ Lib.below_grow _ _ (Nat.le_refl _) k os⟩
theorem trim_any (l : List UInt8) (w : World) (hs : l.length ≤ 9223372036854775807) :
    Calls Tryd.prog 34 #[.string ((⟨l.toArray⟩ : ByteArray).extract 1 l.length), .string ⟨#[48]⟩] w fun e w' => e = .returned (.string ⟨(Lib.trimRightB l.tail 48).toArray⟩) ∧ w = w' :=
  (Tryd.strings_TrimRight_one _ 48 (by decide) w (by rw [ByteArray.size_extract]; simp [ByteArray.size]; omega)).mono fun _ _ ⟨he, hw⟩ => ⟨by rw [he, drop_ext, List.drop_one], hw.symm⟩

set_option maxHeartbeats 400000 in
theorem partText_any (p : Int) (w : World) (h0 : 1 ≤ p) (h1 : p ≤ 255) (ht : Rd w) :
    Calls Tryd.prog 30 #[.int .i64 p] w fun e w' => e = .returned (.string ⟨(partT p).toArray⟩) ∧ Below w.heap.size w w' := by
  have hz : (p == 0) = false := by simp; omega
  have Ht := Lib.hid ht; clear ht
  have l0 := itoa_pos (100000000 + p * 390625)
  have l1 := itoa_len (100000000 + p * 390625) (by omega) (by omega)
  have l2 := trim_len (Lib.itoa (100000000 + p * 390625)).tail 48
  have l3 : ((Lib.trimRightB (Lib.itoa (100000000 + p * 390625)).tail 48).length : Int) ≤ 20 := by rw [List.length_tail] at l2; omega
  clear l2
  have HP : Hid (46 :: Lib.trimRightB (Lib.itoa (100000000 + p * 390625)).tail 48 = partT p) := by unfold partT; rw [if_neg (by omega)]; rfl
  go_enter Tryd.func30, Tryd.ntmps30
  go_wp2_with (first | (go_at_call 29; refine (itoa_any _ (by omega) (by omega) _ Ht.out).mono ?_; rintro e w' ⟨rfl, hb⟩) | (go_at_call 34; refine (trim_any _ _ (by omega)).mono ?_; rintro e w' ⟨rfl, rfl⟩))
  go_ret
  exact ⟨(congrArg (fun x => Ending.returned (.string x)) (cat_mk [46] _)).trans (ret_str HP.out), ‹_›⟩

set_option maxHeartbeats 400000 in
theorem partText_zero (w : World) :
    Calls Tryd.prog 30 #[.int .i64 0] w fun e w' => e = .returned (.string ⟨#[]⟩) ∧ w = w' := by
  go_enter Tryd.func30, Tryd.ntmps30
  go_wp2
  go_ret
  exact ⟨rfl, rfl⟩
theorem partText_all (p : Int) (w : World) (h0 : 0 ≤ p) (h1 : p ≤ 255) (ht : Rd w) :
    Calls Tryd.prog 30 #[.int .i64 p] w fun e w' => e = .returned (.string ⟨(partT p).toArray⟩) ∧ Below w.heap.size w w' := by
  by_cases h : p = 0
  · subst h
    exact (partText_zero w).mono fun _ _ ⟨he, hw⟩ => ⟨he, hw ▸ Below.refl _ _⟩
  · exact partText_any p w (by omega) h1 ht
set_option maxHeartbeats 400000 in
theorem text_pos (a : Int) (w : World) (h0 : 0 ≤ a) (h1 : a ≤ 2147483648) (ht : Rd w) :
    Calls Tryd.prog 22 #[.int .i64 a] w fun e w' => e = .returned (.string ⟨(textT a).toArray⟩) ∧ Below w.heap.size w w' := by
  have Hh : Hid (inB a = true) := inB_iff.2 ⟨by omega, by omega⟩
  have Ht := Lib.hid ht; clear ht
  have H2 : Hid (bits .and .i64 a 255 = a % 256) := and_255 a
  have l1 := itoa_len (a / 256) (by omega) (by omega)
  have l2 := partT_len (a % 256) (by omega) (by omega)
  have HT : Hid (textT a = [] ++ Lib.itoa (a / 256) ++ partT (a % 256)) := by unfold textT; rw [if_neg (by omega)]; rfl
  go_enter Tryd.func22, Tryd.ntmps22
  go_wp2_with (first | (go_at_call 13; refine (in_any _ _).mono ?_; rintro e w' ⟨rfl, rfl⟩; rw [Hh.out]) | (go_at_call 29; refine (itoa_any _ (by omega) (by omega) _ Ht.out).mono ?_; rintro e w1 ⟨rfl, hb1⟩; have Hb1 := Lib.hid hb1; clear hb1) | (go_at_call 30; rw [H2.out]; refine (partText_all _ _ (by omega) (by omega) (Ht.out.on Hb1.out)).mono ?_; rintro e w2 ⟨rfl, hb2⟩; have Hb2 := Lib.hid hb2; clear hb2))
  go_ret
  refine ⟨?_, below_next Hb1.out Hb2.out⟩
  rw [HT.out]
  exact (congrArg (fun x => Ending.returned (.string (x ++ _))) (cat_mk [] _)).trans (congrArg (fun x => Ending.returned (.string x)) (cat_mk _ _))
set_option maxHeartbeats 400000 in
theorem text_neg (a : Int) (w : World) (h0 : a < 0) (h1 : -2147483648 ≤ a) (ht : Rd w) :
    Calls Tryd.prog 22 #[.int .i64 a] w fun e w' => e = .returned (.string ⟨(textT a).toArray⟩) ∧ Below w.heap.size w w' := by
  have Hh : Hid (inB a = true) := inB_iff.2 ⟨by omega, by omega⟩
  have Ht := Lib.hid ht; clear ht
  have H2 : Hid (bits .and .i64 (-a) 255 = (-a) % 256) := and_255 (-a)
  have l1 := itoa_len ((-a) / 256) (by omega) (by omega)
  have l2 := partT_len ((-a) % 256) (by omega) (by omega)
  have HT : Hid (textT a = [45] ++ Lib.itoa (-a / 256) ++ partT (-a % 256)) := by unfold textT; rw [if_pos (by omega)]; rfl
  go_enter Tryd.func22, Tryd.ntmps22
  go_wp2_with (first | (go_at_call 13; refine (in_any _ _).mono ?_; rintro e w' ⟨rfl, rfl⟩; rw [Hh.out]) | (go_at_call 29; refine (itoa_any _ (by omega) (by omega) _ Ht.out).mono ?_; rintro e w1 ⟨rfl, hb1⟩; have Hb1 := Lib.hid hb1; clear hb1) | (go_at_call 30; rw [H2.out]; refine (partText_all _ _ (by omega) (by omega) (Ht.out.on Hb1.out)).mono ?_; rintro e w2 ⟨rfl, hb2⟩; have Hb2 := Lib.hid hb2; clear hb2))
  go_ret
  refine ⟨?_, below_next Hb1.out Hb2.out⟩
  rw [HT.out]
  exact (congrArg (fun x => Ending.returned (.string (x ++ _))) (cat_mk [45] _)).trans (congrArg (fun x => Ending.returned (.string x)) (cat_mk _ _))
set_option maxHeartbeats 400000 in
theorem text_out (a : Int) (w : World) (h : inB a = false) :
    Calls Tryd.prog 22 #[.int .i64 a] w fun e w' => e = .returned (.string ⟨#[]⟩) ∧ w = w' := by
  have Hh := Lib.hid h; clear h
  go_enter Tryd.func22, Tryd.ntmps22
  go_wp2_with (go_at_call 13; refine (in_any _ _).mono ?_; rintro e w' ⟨rfl, rfl⟩; rw [Hh.out])
  go_ret
  exact ⟨rfl, rfl⟩
theorem text_in (a : Int) (w : World) (h : inB a = true) (ht : Rd w) :
    Calls Tryd.prog 22 #[.int .i64 a] w fun e w' => e = .returned (.string ⟨(textT a).toArray⟩) ∧ Below w.heap.size w w' := by
  have := inB_iff.1 h
  by_cases hn : a < 0
  · exact text_neg a w hn (by omega) ht
  · exact text_pos a w (by omega) (by omega) ht

set_option maxHeartbeats 400000 in
/-- The fixed answers that a program which does nothing doesn't give. -/
theorem awake_any (w : World) (ht : Rd w) :
    Calls Tryd.prog 12 #[] w fun e w' => e = .returned (.bool true) ∧ Below w.heap.size w w' := by
  have Ht := Lib.hid ht; clear ht
  have HM : Hid (two (resN (rnd (384 * 128) 256)) (resE (rnd (384 * 128) 256)) = two 192 0) := by unfold Hid; rfl
  have HN : Hid (rnd (-128) 256 = 0) := by unfold Hid; rfl
  have HX : Hid (textT (-384) = [45, 49, 46, 53]) := text_384
  go_enter Tryd.func12, Tryd.ntmps12
  go_wp2_with (first | (go_at_call 15; refine (mul_in 384 128 _ rfl rfl).mono ?_; rintro e w' ⟨rfl, rfl⟩; rw [HM.out]; unfold two) | (go_at_call 20; refine (near_any _ _ (by omega) (by omega)).mono ?_; rintro e w' ⟨rfl, rfl⟩; rw [HN.out]) | (go_at_call 22; refine (text_in (-384) _ rfl Ht.out).mono ?_; rintro e w' ⟨rfl, hb⟩; rw [HX.out]; have Hb := Lib.hid hb; clear hb))
  go_ret
  exact ⟨rfl, Hb.out⟩
end Go.Proofs.YthejffimgdoapaaDoor
