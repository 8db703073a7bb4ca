/- Contracts of the texts of layer 1 (fixed). -/
import Derived.Test.YtbnbglngpgikfaaGreatDoorNb
import Derived.Test.YtbnbglngpgikfaaGreatDoorA
import Derived.Test.YtbnbglngpgikfaaGreatDoorNs
import Derived.Test.YtbnbglngpgikfaaGreatDoorShelf
import Derived.Lib.SmallJoins
import Derived.Lib.AppendIntMem
namespace Go.Proofs.YtbnbglngpgikfaaGreatDoor
open Go.RowKit

/-- What the walks read of memory: the library's table of powers of ten. -/
def RdF (w : World) : Prop := Lib.TabIs Tryz.prog w "internal/strconv.uint64pow10" .u64 Lib.pow10Tab
theorem RdF.on {w w' : World} (h : RdF w) (hb : Below w.heap.size w w') : RdF w' := Lib.tabBelow_of_tabIs h w' hb
theorem ret_str {a b : List UInt8} (h : a = b) : Ending.returned (.string ⟨a.toArray⟩) = .returned (.string ⟨b.toArray⟩) := by rw [h]

theorem itoa_any (n : Int) (h0 : -9223372036854775808 ≤ n) (h1 : n ≤ 9223372036854775807) (w : World) (ht : RdF w) :
    Calls Tryz.prog 39 #[.int .i64 n] w fun e w' => e = .returned (.string ⟨(Lib.itoa n).toArray⟩) ∧ Below w.heap.size w w' :=
  (Tryz.strconv_Itoa n h0 h1 w ht).mono fun _ _ ⟨he, k, os, hw⟩ => ⟨he, hw ▸ Lib.below_grow _ _ (Nat.le_refl _) k os⟩
theorem trim_any (l : List UInt8) (w : World) (hs : l.length ≤ 9223372036854775807) :
    Calls Tryz.prog 56 #[.string ((⟨l.toArray⟩ : ByteArray).extract 1 l.length), .string ⟨#[48]⟩] w fun e w' => e = .returned (.string ⟨(Lib.trimRightB l.tail 48).toArray⟩) ∧ w = w' :=
  (Tryz.strings_TrimRight_one _ 48 (by decide) w (by rw [ByteArray.size_extract]; simp [ByteArray.size]; omega)).mono fun _ _ ⟨he, hw⟩ => ⟨by rw [he, drop_ext, List.drop_one], hw.symm⟩

set_option maxHeartbeats 400000 in
theorem partText_any (p : Int) (w : World) (h0 : 1 ≤ p) (h1 : p ≤ 255) (ht : RdF w) :
    Calls Tryz.prog 40 #[.int .i64 p] w fun e w' => e = .returned (.string ⟨(partT p).toArray⟩) ∧ Below w.heap.size w w' := by
  have hz : (p == 0) = false := by simp; omega
  have Ht := Lib.hid ht; clear ht
  have l0 := itoa_pos (100000000 + p * 390625)
  have l1 := itoa_len (100000000 + p * 390625) (by omega) (by omega)
  have l2 := trim_len (Lib.itoa (100000000 + p * 390625)).tail 48
  have l3 : ((Lib.trimRightB (Lib.itoa (100000000 + p * 390625)).tail 48).length : Int) ≤ 20 := by rw [List.length_tail] at l2; omega
  clear l2
  have HP : Hid (46 :: Lib.trimRightB (Lib.itoa (100000000 + p * 390625)).tail 48 = partT p) := by unfold partT; rw [if_neg (by omega)]; rfl
  go_enter Tryz.func40, Tryz.ntmps40
  go_wp2_with (first | (go_at_call 39; refine (itoa_any _ (by omega) (by omega) _ Ht.out).mono ?_; rintro e w' ⟨rfl, hb⟩) | (go_at_call 56; refine (trim_any _ _ (by omega)).mono ?_; rintro e w' ⟨rfl, rfl⟩))
  go_ret
  exact ⟨(congrArg (fun x => Ending.returned (.string x)) (cat_mk [46] _)).trans (ret_str HP.out), ‹_›⟩

set_option maxHeartbeats 400000 in
theorem partText_zero (w : World) :
    Calls Tryz.prog 40 #[.int .i64 0] w fun e w' => e = .returned (.string ⟨#[]⟩) ∧ w = w' := by
  go_enter Tryz.func40, Tryz.ntmps40
  go_wp2
  go_ret
  exact ⟨rfl, rfl⟩
theorem partText_all (p : Int) (w : World) (h0 : 0 ≤ p) (h1 : p ≤ 255) (ht : RdF w) :
    Calls Tryz.prog 40 #[.int .i64 p] w fun e w' => e = .returned (.string ⟨(partT p).toArray⟩) ∧ Below w.heap.size w w' := by
  by_cases h : p = 0
  · subst h
    exact (partText_zero w).mono fun _ _ ⟨he, hw⟩ => ⟨he, hw ▸ Below.refl _ _⟩
  · exact partText_any p w (by omega) h1 ht
set_option maxHeartbeats 400000 in
theorem text_pos (a : Int) (w : World) (h0 : 0 ≤ a) (h1 : a ≤ 2147483648) (ht : RdF w) :
    Calls Tryz.prog 23 #[.int .i64 a] w fun e w' => e = .returned (.string ⟨(textT a).toArray⟩) ∧ Below w.heap.size w w' := by
  have Hh : Hid (inB a = true) := inB_iff.2 ⟨by omega, by omega⟩
  have Ht := Lib.hid ht; clear ht
  have H2 : Hid (bits .and .i64 a 255 = a % 256) := and_255 a
  have l1 := itoa_len (a / 256) (by omega) (by omega)
  have l2 := partT_len (a % 256) (by omega) (by omega)
  have HT : Hid (textT a = [] ++ Lib.itoa (a / 256) ++ partT (a % 256)) := by unfold textT; rw [if_neg (by omega)]; rfl
  go_enter Tryz.func23, Tryz.ntmps23
  go_wp2_with (first | (go_at_call 38; refine (in_any _ _).mono ?_; rintro e w' ⟨rfl, rfl⟩; rw [Hh.out]) | (go_at_call 39; refine (itoa_any _ (by omega) (by omega) _ Ht.out).mono ?_; rintro e w1 ⟨rfl, hb1⟩; have Hb1 := Lib.hid hb1; clear hb1) | (go_at_call 40; rw [H2.out]; refine (partText_all _ _ (by omega) (by omega) (Ht.out.on Hb1.out)).mono ?_; rintro e w2 ⟨rfl, hb2⟩; have Hb2 := Lib.hid hb2; clear hb2))
  go_ret
  refine ⟨?_, below_next Hb1.out Hb2.out⟩
  rw [HT.out]
  exact (congrArg (fun x => Ending.returned (.string (x ++ _))) (cat_mk [] _)).trans (congrArg (fun x => Ending.returned (.string x)) (cat_mk _ _))
set_option maxHeartbeats 400000 in
theorem text_neg (a : Int) (w : World) (h0 : a < 0) (h1 : -2147483648 ≤ a) (ht : RdF w) :
    Calls Tryz.prog 23 #[.int .i64 a] w fun e w' => e = .returned (.string ⟨(textT a).toArray⟩) ∧ Below w.heap.size w w' := by
  have Hh : Hid (inB a = true) := inB_iff.2 ⟨by omega, by omega⟩
  have Ht := Lib.hid ht; clear ht
  have H2 : Hid (bits .and .i64 (-a) 255 = (-a) % 256) := and_255 (-a)
  have l1 := itoa_len ((-a) / 256) (by omega) (by omega)
  have l2 := partT_len ((-a) % 256) (by omega) (by omega)
  have HT : Hid (textT a = [45] ++ Lib.itoa (-a / 256) ++ partT (-a % 256)) := by unfold textT; rw [if_pos (by omega)]; rfl
  go_enter Tryz.func23, Tryz.ntmps23
  go_wp2_with (first | (go_at_call 38; refine (in_any _ _).mono ?_; rintro e w' ⟨rfl, rfl⟩; rw [Hh.out]) | (go_at_call 39; refine (itoa_any _ (by omega) (by omega) _ Ht.out).mono ?_; rintro e w1 ⟨rfl, hb1⟩; have Hb1 := Lib.hid hb1; clear hb1) | (go_at_call 40; rw [H2.out]; refine (partText_all _ _ (by omega) (by omega) (Ht.out.on Hb1.out)).mono ?_; rintro e w2 ⟨rfl, hb2⟩; have Hb2 := Lib.hid hb2; clear hb2))
  go_ret
  refine ⟨?_, below_next Hb1.out Hb2.out⟩
  rw [HT.out]
  exact (congrArg (fun x => Ending.returned (.string (x ++ _))) (cat_mk [45] _)).trans (congrArg (fun x => Ending.returned (.string x)) (cat_mk _ _))
set_option maxHeartbeats 400000 in
theorem text_out (a : Int) (w : World) (h : inB a = false) :
    Calls Tryz.prog 23 #[.int .i64 a] w fun e w' => e = .returned (.string ⟨#[]⟩) ∧ w = w' := by
  have Hh := Lib.hid h; clear h
  go_enter Tryz.func23, Tryz.ntmps23
  go_wp2_with (go_at_call 38; refine (in_any _ _).mono ?_; rintro e w' ⟨rfl, rfl⟩; rw [Hh.out])
  go_ret
  exact ⟨rfl, rfl⟩
theorem text_in (a : Int) (w : World) (h : inB a = true) (ht : RdF w) :
    Calls Tryz.prog 23 #[.int .i64 a] w fun e w' => e = .returned (.string ⟨(textT a).toArray⟩) ∧ Below w.heap.size w w' := by
  have := inB_iff.1 h
  by_cases hn : a < 0
  · exact text_neg a w hn (by omega) ht
  · exact text_pos a w (by omega) (by omega) ht

end Go.Proofs.YtbnbglngpgikfaaGreatDoor

