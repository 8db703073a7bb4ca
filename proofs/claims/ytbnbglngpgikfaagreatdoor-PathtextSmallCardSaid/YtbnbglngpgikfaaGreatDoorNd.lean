/- Contracts of the document's own texts (limnerref01): Digits, Text. -/
import Derived.Test.YtbnbglngpgikfaaGreatDoorNc
import Derived.Test.YtbnbglngpgikfaaGreatDoorNs2
import Derived.Laws.IdiomStrings
namespace Go.Proofs.YtbnbglngpgikfaaGreatDoor
open Go.RowKit

theorem conv_one (w : World) (d : UInt8) (n : Int) (h : (d.toNat : Int) = n) :
    (convert 77 9 (.slice (some ⟨w.heap.size, 0, none⟩) 1 1)).run Tryz.prog (w.alloc (.cells #[.int .u8 n] 5)) = .ok (.string ⟨[d].toArray⟩) (w.alloc (.cells #[.int .u8 n] 5)) := by
  refine run_convert_bytes_back (P := Tryz.prog) (w.alloc (.cells #[.int .u8 n] 5)) 77 9 5 ⟨w.heap.size, 0, none⟩ 1 [d] Tryz.underlying77 Tryz.underlying5 Tryz.underlying9 (fun j hj => ?_)
  obtain rfl : j = 0 := by simpa using hj
  refine (World.cell?_alloc_mark w _ _ _ 0).trans ?_
  rw [List.getElem_cons_zero, h]; rfl
set_option maxHeartbeats 1000000 in
set_option maxRecDepth 100000 in
theorem digits_any (n0 : Nat) (hn : n0 ≤ 1000000000) (w : World) :
    Calls Tryz.prog 50 #[.int .i64 n0] w fun e w' => e = .returned (.string ⟨(Lib.decDigits n0).toArray⟩) ∧ Below w.heap.size w w' := by
  have L0 : Hid ((Lib.decDigits n0).length ≤ 10) := dec_len 9 n0 (by omega)
  have hn1 : (n0 : Int) ≤ 1000000000 := by omega
  clear hn
  go_enter Tryz.func50, Tryz.ntmps50
  go_wp2
  go_loopw [0, 3] (fun n s wr => ∃ (k : Nat) (acc : List UInt8), n = .int .i64 k ∧ s = .string ⟨acc.toArray⟩ ∧ (k : Int) ≤ 1000000000 ∧ acc.length ≤ 10 ∧ Hid (Lib.decDigits n0 = Lib.decDigits k ++ acc) ∧ Below w.heap.size w wr) (fun n _ _ => (intOf n).toNat)
  case atStart => exact ⟨n0, [], rfl, rfl, hn1, by simp, (List.append_nil _).symm, Below.refl _ _⟩
  case round =>
    obtain ⟨k, acc, rfl, rfl, hkb, hacc, Hd, hb⟩ := hrel
    clear hn1
    have Hs := hb.size
    have HB := Lib.hid hb
    clear hb
    have hdig := digit_nat (k % 10) (by omega)
    have hcv := conv_one wr (UInt8.ofNat (48 + k % 10)) (48 + (k : Int) % 10) (by rw [hdig]; omega)
    clear hdig
    by_cases h10 : k < 10
    · have hz : ((k : Int) / 10 == 0) = true := by simp; omega
      have HE : Hid (Lib.decDigits n0 = UInt8.ofNat (48 + k % 10) :: acc) := by
        unfold Hid
        rw [Hd.out, Lib.decDigits_one h10, show k % 10 = k by omega]; rfl
      generalize UInt8.ofNat (48 + k % 10) = d at *
      go_wp2
      go_ret
      refine ⟨?_, HB.out.alloc Hs _⟩
      exact (congrArg (fun x => Ending.returned (.string x)) (cat_mk [d] acc)).trans (ret_str HE.out.symm)
    · have hz : ((k : Int) / 10 == 0) = false := by simp; omega
      have HE : Hid (Lib.decDigits n0 = Lib.decDigits (k / 10) ++ (UInt8.ofNat (48 + k % 10) :: acc)) := by
        unfold Hid
        rw [Hd.out, dec_next k h10, List.append_assoc]; rfl
      have HL : Hid (acc.length + 1 ≤ 10) := by
        unfold Hid
        have h1 := congrArg List.length HE.out
        rw [List.length_append, List.length_cons] at h1
        have h2 := L0.out
        omega
      generalize UInt8.ofNat (48 + k % 10) = d at *
      go_wp2
      refine ⟨⟨k / 10, d :: acc, by go_num, congrArg Value.string (cat_mk [d] acc), by omega, ?_, HE, HB.out.alloc Hs _⟩, by simp [intOf]; omega⟩
      rw [List.length_cons]; exact HL.out

theorem digits_int (x : Int) (h0 : 0 ≤ x) (h1 : x ≤ 1000000000) (w : World) :
    Calls Tryz.prog 50 #[.int .i64 x] w fun e w' => e = .returned (.string ⟨(Lib.itoa x).toArray⟩) ∧ Below w.heap.size w w' := by
  obtain ⟨n, rfl⟩ := Int.eq_ofNat_of_zero_le h0
  rw [itoa_nat]
  exact digits_any n (by omega) w
theorem itoa_ten (x : Int) (h0 : 0 ≤ x) (h1 : x ≤ 1000000000) : ((Lib.itoa x).length : Int) ≤ 10 := by
  obtain ⟨n, rfl⟩ := Int.eq_ofNat_of_zero_le h0
  rw [itoa_nat]
  have := dec_len 9 n (by omega); omega
/-- The digits behind the point, a 1 ahead of them; noughts taken off. -/
theorem part_trim (p : Int) (h0 : 1 ≤ p) (h1 : p ≤ 255) : ∃ T, Lib.trimRightB (Lib.itoa (100000000 + p * 390625)) 48 = 49 :: T ∧ partT p = 46 :: T := by
  obtain ⟨n, rfl⟩ := Int.eq_ofNat_of_zero_le (show 0 ≤ p by omega)
  refine ⟨fracL n, ?_, ?_⟩
  · rw [show (100000000 + (n : Int) * 390625) = ((10 ^ 8 + n * 390625 : Nat) : Int) by omega, itoa_nat, dec_pad 8 _ (by omega), trim_cons _ _ (by decide)]
    rfl
  · rw [partT_pos _ h0 h1, Int.toNat_natCast]
theorem last_is (l : List UInt8) (h : l.length - 1 < (⟨l.toArray⟩ : ByteArray).size) : l = l.take (l.length - 1) ++ [(⟨l.toArray⟩ : ByteArray)[l.length - 1]'h] := by
  have hn : l ≠ [] := fun e => by subst e; simp [ByteArray.size] at h
  have e := take_last l hn
  have g := Lib.getElem_mk l (l.length - 1) h
  rw [List.getD_eq_getElem?_getD, g, Option.getD_some] at e
  exact e
theorem last_zero (l : List UInt8) (h : l.length - 1 < (⟨l.toArray⟩ : ByteArray).size) (hb : ((((⟨l.toArray⟩ : ByteArray)[l.length - 1]'h).toNat : Int) == 48) = true) : l = l.take (l.length - 1) ++ [48] := by
  have e := last_is l h
  generalize (⟨l.toArray⟩ : ByteArray)[l.length - 1]'h = c at e hb
  have hc : c = 48 := by
    have h48 : (c.toNat : Int) = 48 := by simpa using hb
    have : c.toNat = 48 := by omega
    exact UInt8.toNat_inj.1 this
  rw [hc] at e
  exact e
theorem last_other (l : List UInt8) (h : l.length - 1 < (⟨l.toArray⟩ : ByteArray).size) (hb : ((((⟨l.toArray⟩ : ByteArray)[l.length - 1]'h).toNat : Int) == 48) = false) : Lib.trimRightB l 48 = l := by
  have e := last_is l h
  generalize (⟨l.toArray⟩ : ByteArray)[l.length - 1]'h = c at e hb
  have hc : ¬ c = 48 := fun hc => by subst hc; simp at hb
  generalize l.take (l.length - 1) = m at e
  subst e
  rw [trim_snoc, if_neg hc]
theorem trim_step (l : List UInt8) (T : List UInt8) (e : l = l.take (l.length - 1) ++ [48]) (h : Lib.trimRightB l 48 = 49 :: T) : Lib.trimRightB (l.take (l.length - 1)) 48 = 49 :: T ∧ 1 ≤ (l.take (l.length - 1)).length := by
  have h1 : Lib.trimRightB (l.take (l.length - 1)) 48 = 49 :: T := by
    rw [e, trim_snoc, if_pos rfl] at h; exact h
  refine ⟨h1, ?_⟩
  have h2 := trim_len (l.take (l.length - 1)) 48
  rw [h1, List.length_cons] at h2
  omega
theorem take_ext (l : List UInt8) (n : Nat) : Value.string ((⟨l.toArray⟩ : ByteArray).extract 0 n) = .string ⟨(l.take n).toArray⟩ := by
  rw [Lib.extract_mk]; simp
theorem text_end (m d l : List UInt8) (T P : List UInt8) (hl : l = 49 :: T) (hP : P = 46 :: T) :
    Ending.returned (.string ((⟨m.toArray⟩ : ByteArray) ++ ⟨d.toArray⟩ ++ ⟨#[46]⟩ ++ (⟨l.toArray⟩ : ByteArray).extract 1 l.length)) = .returned (.string ⟨(m ++ d ++ P).toArray⟩) := by
  have e1 : (⟨l.toArray⟩ : ByteArray).extract 1 l.length = ⟨T.toArray⟩ := by
    subst hl
    rw [Lib.extract_mk]
    simp
  rw [e1, hP, cat_mk m d, show (⟨#[46]⟩ : ByteArray) = ⟨[46].toArray⟩ from rfl, cat_mk, cat_mk]
  simp
set_option maxHeartbeats 600000 in
set_option maxRecDepth 100000 in
theorem refText_pos (a : Int) (h0 : 0 ≤ a) (h1 : a ≤ 2147483648) (w : World) :
    Calls Tryz.prog 28 #[.int .i64 a] w fun e w' => e = .returned (.string ⟨([] ++ Lib.itoa (a / 256) ++ partT (a % 256)).toArray⟩) ∧ Below w.heap.size w w' := by
  have l1 := itoa_ten (a / 256) (by omega) (by omega)
  by_cases hp : a % 256 = 0
  · have hz : (a % 256 * 390625 == 0) = true := by simp; omega
    have HP : Hid (partT (a % 256) = []) := by unfold Hid; rw [hp]; rfl
    clear hp
    go_enter Tryz.func28, Tryz.ntmps28
    go_wp2_with fail
    refine (digits_int (a / 256) (by omega) (by omega) _).mono ?_
    rintro e w1 ⟨rfl, hb1⟩
    have Hb1 := Lib.hid hb1; clear hb1
    go_wp2_with fail
    go_ret
    refine ⟨?_, Hb1.out⟩
    rw [HP.out, List.append_nil]
    exact congrArg (fun x => Ending.returned (.string x)) (cat_mk [] _)
  · have hz : (a % 256 * 390625 == 0) = false := by simp; omega
    obtain ⟨T, hT, hT2⟩ := part_trim (a % 256) (by omega) (by omega)
    have l2 := itoa_ten (100000000 + a % 256 * 390625) (by omega) (by omega)
    have HT := Lib.hid hT; have HT2 := Lib.hid hT2
    clear hT hT2 hp
    go_enter Tryz.func28, Tryz.ntmps28
    go_wp2_with fail
    refine (digits_int (a / 256) (by omega) (by omega) _).mono ?_
    rintro e w1 ⟨rfl, hb1⟩
    have Hb1 := Lib.hid hb1; clear hb1
    go_wp2_with fail
    refine (digits_int (100000000 + a % 256 * 390625) (by omega) (by omega) _).mono ?_
    rintro e w2 ⟨rfl, hb2⟩
    have Hb2 := Lib.hid hb2; clear hb2
    go_wp2_with fail
    go_loop [5] (fun v => ∃ l : List UInt8, v = .string ⟨l.toArray⟩ ∧ (l.length : Int) ≤ 10 ∧ 1 ≤ (l.length : Int) ∧ Hid (Lib.trimRightB l 48 = 49 :: T)) (fun v => Lib.strSize v)
    case atStart => exact ⟨_, rfl, l2, by have := itoa_pos (100000000 + a % 256 * 390625); omega, HT⟩
    case round =>
      obtain ⟨l, rfl, hl1, hl0, HL⟩ := hrel
      go_wp2
      · rename_i hlast
        have hlast' := last_zero l (by simp [ByteArray.size]; omega) hlast
        obtain ⟨s1, s2⟩ := trim_step l T hlast' HL.out
        refine ⟨⟨l.take (l.length - 1), take_ext l _, ?_, by omega, s1⟩, ?_⟩
        · rw [List.length_take]; omega
        · show (ByteArray.extract _ 0 (l.length - 1)).size < (⟨l.toArray⟩ : ByteArray).size
          rw [Lib.extract_mk, Lib.size_mk, Lib.size_mk, List.length_take, List.length_drop]; omega
      · rename_i hlast
        have hlast' := last_other l (by simp [ByteArray.size]; omega) hlast
        go_ret
        exact ⟨text_end [] _ l T _ (hlast'.symm.trans HL.out) HT2.out, below_next Hb1.out Hb2.out⟩
set_option maxHeartbeats 600000 in
set_option maxRecDepth 100000 in
theorem refText_neg (a : Int) (h0 : 1 ≤ a) (h1 : a ≤ 2147483648) (w : World) :
    Calls Tryz.prog 28 #[.int .i64 (-a)] w fun e w' => e = .returned (.string ⟨([45] ++ Lib.itoa (a / 256) ++ partT (a % 256)).toArray⟩) ∧ Below w.heap.size w w' := by
  have l1 := itoa_ten (a / 256) (by omega) (by omega)
  by_cases hp : a % 256 = 0
  · have hz : (a % 256 * 390625 == 0) = true := by simp; omega
    have HP : Hid (partT (a % 256) = []) := by unfold Hid; rw [hp]; rfl
    clear hp
    go_enter Tryz.func28, Tryz.ntmps28
    go_wp2_with fail
    refine (digits_int (a / 256) (by omega) (by omega) _).mono ?_
    rintro e w1 ⟨rfl, hb1⟩
    have Hb1 := Lib.hid hb1; clear hb1
    go_wp2_with fail
    go_ret
    refine ⟨?_, Hb1.out⟩
    rw [HP.out, List.append_nil]
    exact congrArg (fun x => Ending.returned (.string x)) (cat_mk [45] _)
  · have hz : (a % 256 * 390625 == 0) = false := by simp; omega
    obtain ⟨T, hT, hT2⟩ := part_trim (a % 256) (by omega) (by omega)
    have l2 := itoa_ten (100000000 + a % 256 * 390625) (by omega) (by omega)
    have HT := Lib.hid hT; have HT2 := Lib.hid hT2
    clear hT hT2 hp
    go_enter Tryz.func28, Tryz.ntmps28
    go_wp2_with fail
    refine (digits_int (a / 256) (by omega) (by omega) _).mono ?_
    rintro e w1 ⟨rfl, hb1⟩
    have Hb1 := Lib.hid hb1; clear hb1
    go_wp2_with fail
    refine (digits_int (100000000 + a % 256 * 390625) (by omega) (by omega) _).mono ?_
    rintro e w2 ⟨rfl, hb2⟩
    have Hb2 := Lib.hid hb2; clear hb2
    go_wp2_with fail
    go_loop [5] (fun v => ∃ l : List UInt8, v = .string ⟨l.toArray⟩ ∧ (l.length : Int) ≤ 10 ∧ 1 ≤ (l.length : Int) ∧ Hid (Lib.trimRightB l 48 = 49 :: T)) (fun v => Lib.strSize v)
    case atStart => exact ⟨_, rfl, l2, by have := itoa_pos (100000000 + a % 256 * 390625); omega, HT⟩
    case round =>
      obtain ⟨l, rfl, hl1, hl0, HL⟩ := hrel
      go_wp2
      · rename_i hlast
        have hlast' := last_zero l (by simp [ByteArray.size]; omega) hlast
        obtain ⟨s1, s2⟩ := trim_step l T hlast' HL.out
        refine ⟨⟨l.take (l.length - 1), take_ext l _, ?_, by omega, s1⟩, ?_⟩
        · rw [List.length_take]; omega
        · show (ByteArray.extract _ 0 (l.length - 1)).size < (⟨l.toArray⟩ : ByteArray).size
          rw [Lib.extract_mk, Lib.size_mk, Lib.size_mk, List.length_take, List.length_drop]; omega
      · rename_i hlast
        have hlast' := last_other l (by simp [ByteArray.size]; omega) hlast
        go_ret
        exact ⟨text_end [45] _ l T _ (hlast'.symm.trans HL.out) HT2.out, below_next Hb1.out Hb2.out⟩
theorem refText_in (a : Int) (h : inB a = true) (w : World) :
    Calls Tryz.prog 28 #[.int .i64 a] w fun e w' => e = .returned (.string ⟨(textT a).toArray⟩) ∧ Below w.heap.size w w' := by
  have := inB_iff.1 h
  unfold textT
  split
  · rename_i hn
    have h := refText_neg (-a) (by omega) (by omega) w
    rw [Int.neg_neg] at h
    exact h
  · rename_i hn
    exact refText_pos a (by omega) (by omega) w
end Go.Proofs.YtbnbglngpgikfaaGreatDoor

