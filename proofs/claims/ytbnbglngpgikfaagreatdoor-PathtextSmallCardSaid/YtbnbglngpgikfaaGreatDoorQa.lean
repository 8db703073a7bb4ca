/- Layer 15: package pathtext: gaps and letters, a word's end. -/
import Derived.Test.YtbnbglngpgikfaaGreatDoorPc
import Derived.Test.YtbnbglngpgikfaaGreatDoorTa
import Derived.Laws.IdiomStrings
import Derived.Lib.Strings
import Derived.RangeFuncNested
import Derived.RangeFuncBound
import Derived.RangeFuncCalls
import Derived.RangeFuncLeaves
import Derived.Shelf.Abstract
import Derived.Shelf.RegionOpen
import Derived.OwnWalkIn
import Derived.TacticsInMore
import Derived.LoopNIn
import Derived.LoopIn
namespace Go.Proofs.YtbnbglngpgikfaaGreatDoor
open Go.RowKit Go.Shelf
attribute [local go_sem] Oper.semAt_some
theorem isGap_c (c : UInt8) (w : World) : Calls Tryz.prog 46 #[.int .u8 (c.toNat : Int)] w fun e w' => e = .returned (.bool (gapB c)) ∧ w = w' := by
  obtain ⟨n, hn⟩ : ∃ n, c.toNat = n := ⟨_, rfl⟩
  have e : c = UInt8.ofNat n := by rw [← hn]; simp
  have g1 : (c = 32) ↔ n = 32 := by rw [← hn]; exact ⟨fun h => by rw [h]; rfl, fun h => UInt8.toNat_inj.1 h⟩
  have g2 : (c = 44) ↔ n = 44 := by rw [← hn]; exact ⟨fun h => by rw [h]; rfl, fun h => UInt8.toNat_inj.1 h⟩
  have g3 : (c = 10) ↔ n = 10 := by rw [← hn]; exact ⟨fun h => by rw [h]; rfl, fun h => UInt8.toNat_inj.1 h⟩
  have HG : Hid (gapB c = (decide (n = 32) || decide (n = 44) || decide (n = 10))) := by unfold Hid gapB; simp only [g1, g2, g3]
  rw [hn, HG.out]
  clear HG g1 g2 g3 e hn
  by_cases h1 : n = 32
  · subst h1
    go_enter Tryz.func46, Tryz.ntmps46
    go_wp2
    go_ret
    exact ⟨rfl, rfl⟩
  by_cases h2 : n = 44
  · subst h2
    go_enter Tryz.func46, Tryz.ntmps46
    go_wp2
    go_ret
    exact ⟨rfl, rfl⟩
  have e1 : ((n : Int) == 32) = false := by simp; omega
  have e2 : ((n : Int) == 44) = false := by simp; omega
  by_cases h3 : n = 10
  · subst h3
    go_enter Tryz.func46, Tryz.ntmps46
    go_wp2
    go_ret
    exact ⟨rfl, rfl⟩
  have e3 : ((n : Int) == 10) = false := by simp; omega
  have HF : Hid ((decide (n = 32) || decide (n = 44) || decide (n = 10)) = false) := by unfold Hid; simp [h1, h2, h3]
  rw [HF.out]
  clear h1 h2 h3
  go_enter Tryz.func46, Tryz.ntmps46
  go_wp2
  go_ret
  exact ⟨rfl, rfl⟩
theorem letter_walk (f : FuncId) (n : Nat) (w : World) (hn : n < 256) (hf : f = 47) :
    Calls Tryz.prog f #[.int .u8 (n : Int)] w fun e w' => e = .returned (.bool ((decide (65 ≤ n) && decide (n ≤ 90)) || (decide (97 ≤ n) && decide (n ≤ 122)))) ∧ w = w' := by
  subst hf
  rcases (by omega : n < 65 ∨ (65 ≤ n ∧ n ≤ 90) ∨ (90 < n ∧ n < 97) ∨ (97 ≤ n ∧ n ≤ 122) ∨ 122 < n) with h | ⟨h, h'⟩ | ⟨h, h'⟩ | ⟨h, h'⟩ | h
  · have e1 : decide ((65 : Int) ≤ (n : Int)) = false := by simp; omega
    have e2 : decide ((97 : Int) ≤ (n : Int)) = false := by simp; omega
    have HF : Hid (((decide (65 ≤ n) && decide (n ≤ 90)) || (decide (97 ≤ n) && decide (n ≤ 122))) = false) := by unfold Hid; simp; omega
    rw [HF.out]
    clear h hn
    go_enter Tryz.func47, Tryz.ntmps47
    go_wp2
    go_ret
    exact ⟨rfl, rfl⟩
  · have e1 : decide ((65 : Int) ≤ (n : Int)) = true := by simp; omega
    have e2 : decide ((n : Int) ≤ 90) = true := by simp; omega
    have HF : Hid (((decide (65 ≤ n) && decide (n ≤ 90)) || (decide (97 ≤ n) && decide (n ≤ 122))) = true) := by unfold Hid; simp; omega
    rw [HF.out]
    clear h h' hn
    go_enter Tryz.func47, Tryz.ntmps47
    go_wp2
    go_ret
    exact ⟨rfl, rfl⟩
  · have e1 : decide ((65 : Int) ≤ (n : Int)) = true := by simp; omega
    have e2 : decide ((n : Int) ≤ 90) = false := by simp; omega
    have e3 : decide ((97 : Int) ≤ (n : Int)) = false := by simp; omega
    have HF : Hid (((decide (65 ≤ n) && decide (n ≤ 90)) || (decide (97 ≤ n) && decide (n ≤ 122))) = false) := by unfold Hid; simp; omega
    rw [HF.out]
    clear h h' hn
    go_enter Tryz.func47, Tryz.ntmps47
    go_wp2
    go_ret
    exact ⟨rfl, rfl⟩
  · have e1 : decide ((65 : Int) ≤ (n : Int)) = true := by simp; omega
    have e2 : decide ((n : Int) ≤ 90) = false := by simp; omega
    have e3 : decide ((97 : Int) ≤ (n : Int)) = true := by simp; omega
    have e4 : decide ((n : Int) ≤ 122) = true := by simp; omega
    have HF : Hid (((decide (65 ≤ n) && decide (n ≤ 90)) || (decide (97 ≤ n) && decide (n ≤ 122))) = true) := by unfold Hid; simp; omega
    rw [HF.out]
    clear h h' hn
    go_enter Tryz.func47, Tryz.ntmps47
    go_wp2
    go_ret
    exact ⟨rfl, rfl⟩
  · have e1 : decide ((65 : Int) ≤ (n : Int)) = true := by simp; omega
    have e2 : decide ((n : Int) ≤ 90) = false := by simp; omega
    have e3 : decide ((97 : Int) ≤ (n : Int)) = true := by simp; omega
    have e4 : decide ((n : Int) ≤ 122) = false := by simp; omega
    have HF : Hid (((decide (65 ≤ n) && decide (n ≤ 90)) || (decide (97 ≤ n) && decide (n ≤ 122))) = false) := by unfold Hid; simp; omega
    rw [HF.out]
    clear h hn
    go_enter Tryz.func47, Tryz.ntmps47
    go_wp2
    go_ret
    exact ⟨rfl, rfl⟩
theorem isLetter_c (c : UInt8) (w : World) : Calls Tryz.prog 47 #[.int .u8 (c.toNat : Int)] w fun e w' => e = .returned (.bool (letB c)) ∧ w = w' :=
  letter_walk _ c.toNat w (UInt8.toNat_lt c) rfl
theorem index_str (l : Wd) {k : Nat} {c : UInt8} (hk : l[k]? = some c) (w : World) : (Instr.index 9 (.string ⟨l.toArray⟩) (.int .i64 (k : Int))).run Tryz.prog w = .ok (.int .u8 (c.toNat : Int)) w := by
  obtain ⟨hlt, e⟩ := List.getElem?_eq_some_iff.1 hk
  have hs : k < (⟨l.toArray⟩ : ByteArray).size := by simpa [ByteArray.size] using hlt
  have hg := Lib.getElem_mk l k hs
  rw [hk, Option.some.injEq] at hg
  rw [run_index_string w 9 ⟨l.toArray⟩ .i64 (k : Int) Tryz.underlying9, dif_pos ⟨by omega, by omega⟩]
  have h2 : (⟨l.toArray⟩ : ByteArray)[((k : Int)).toNat]'(by simpa using hs) = c := hg.symm
  rw [h2]
theorem slice_str (l : Wd) (a b : Nat) (hab : a ≤ b) (hb : b ≤ l.length) (w : World) : (Instr.sliceAt 9 (.string ⟨l.toArray⟩) (some (.int .i64 (a : Int))) (some (.int .i64 (b : Int))) none).run Tryz.prog w = .ok (.string ⟨((l.drop a).take (b - a)).toArray⟩) w := by
  have e : (⟨l.toArray⟩ : ByteArray).extract a b = ⟨((l.drop a).take (b - a)).toArray⟩ := Lib.extract_mk l a b
  rw [← e]
  have hs : (⟨l.toArray⟩ : ByteArray).size = l.length := by simp [ByteArray.size]
  have h1 : (0 : Int) ≤ (a : Int) := by omega
  have h2 : (a : Int) ≤ (b : Int) := by omega
  have h3 : (b : Int) ≤ ((⟨l.toArray⟩ : ByteArray).size : Int) := by rw [hs]; omega
  go_simp
theorem words_c (l : Wd) (w : World) : Calls Tryz.prog 26 #[.string ⟨l.toArray⟩] w fun e w' => e = .returned (.func (.func 44) #[] #[.pointer (some ⟨w.heap.size, 0, none⟩)]) ∧ w.alloc (.cells #[.string ⟨l.toArray⟩] 9) = w' := by
  go_enter Tryz.func26, Tryz.ntmps26
  go_wp2
  go_ret
  exact ⟨rfl, rfl⟩
end Go.Proofs.YtbnbglngpgikfaaGreatDoor
