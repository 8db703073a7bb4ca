/- Contracts of Parse (layer 1): what it reads, for every string. -/
import Derived.Test.YtbnbglngpgikfaaGreatDoorNp2
namespace Go.Proofs.YtbnbglngpgikfaaGreatDoor
open Go.RowKit Go.Shelf

theorem cutPrefix_any (l : List UInt8) (w : World) :
    Calls Tryz.prog 83 #[.string ⟨l.toArray⟩, .string ⟨#[45]⟩] w fun e w' => e = .returned (.tuple #[.string ⟨(Lib.trimPrefix l [45]).toArray⟩, .bool (Lib.hasPrefix l [45])]) ∧ w = w' :=
  (Any.strings_CutPrefix Tryz.lays103 ⟨l.toArray⟩ ⟨#[45]⟩ w).mono fun _ _ ⟨he, hw⟩ => ⟨he, hw.symm⟩
theorem cut_any (l : List UInt8) (hl : l.length < 4294967281) (w : World) (hr : Rd2 w) :
    Calls Tryz.prog 84 #[.string ⟨l.toArray⟩, .string ⟨#[46]⟩] w fun e w' => e = .returned (.tuple #[.string ⟨(Lib.cut l [46]).1.toArray⟩, .string ⟨(Lib.cut l [46]).2.1.toArray⟩, .bool (Lib.cut l [46]).2.2]) ∧ Below w.heap.size w w' := by
  obtain ⟨m, hm⟩ := hr.mx
  exact (Any.strings_Cut { Tryz.laysM145 with } ⟨l.toArray⟩ ⟨#[46]⟩ m w (by simpa [ByteArray.size] using hl) hm).mono fun _ _ ⟨he, n, hw⟩ => ⟨he, hw ▸ ⟨rfl, rfl, rfl, Nat.le_refl _, fun _ _ => rfl⟩⟩
theorem repeat_any (c : Nat) (hc : c ≤ 8) (w : World) :
    Calls Tryz.prog 101 #[.string ⟨#[48]⟩, .int .i64 c] w fun e w' => e = .returned (.string ⟨(Lib.repeatL [48] c).toArray⟩) ∧ Below w.heap.size w w' :=
  Any.strings_Repeat Tryz.lays105 Tryz.Builder_Extra_105 ⟨#[48]⟩ c w (by omega) (by show 1 * c ≤ _; omega)

theorem trimPrefix_len (l : List UInt8) : (Lib.trimPrefix l [45]).length ≤ l.length := by
  unfold Lib.trimPrefix
  split
  · rw [List.length_drop]; omega
  · exact Nat.le_refl _
theorem cut_len (l : List UInt8) : (Lib.cut l [46]).1.length ≤ l.length ∧ (Lib.cut l [46]).2.1.length ≤ l.length := by
  unfold Lib.cut
  split
  · exact ⟨by simp [List.length_take]; omega, by simp⟩
  · exact ⟨Nat.le_refl _, Nat.zero_le _⟩
def tag (n : Int) (b : Bool) : Ending := .returned (.tuple #[.int .i64 n, .bool b])

/-! readPart -/
set_option maxHeartbeats 1000000 in
theorem readPart_long (l : List UInt8) (h : 8 < l.length) (w : World) :
    Calls Tryz.prog 86 #[.string ⟨l.toArray⟩] w fun e w' => e = tag 0 false ∧ w = w' := by
  have h1 : (8 : Int) < (l.length : Int) := by omega
  clear h
  go_enter Tryz.func86, Tryz.ntmps86
  go_wp2
  go_ret2
  exact ⟨rfl, rfl⟩
set_option maxHeartbeats 1000000 in
theorem readPart_ok (l : List UInt8) (h : l.length ≤ 8) (u : Nat) (hu : okOf (Lib.parseUintB 32 (l ++ Lib.repeatL [48] (8 - l.length))) = some u) (w : World) :
    Calls Tryz.prog 86 #[.string ⟨l.toArray⟩] w fun e w' => e = tag ((u / 390625 : Nat) : Int) true ∧ Below w.heap.size w w' := by
  have h1 : (l.length : Int) ≤ 8 := by omega
  have h2 : ((Lib.repeatL [48] (8 - l.length)).length : Int) ≤ 8 := by rw [repeat_one, List.length_replicate]; omega
  have ub : (u : Int) ≤ 4294967295 := by
    cases hp : Lib.parseUintB 32 (l ++ Lib.repeatL [48] (8 - l.length))
    · rw [hp] at hu; cases hu
      have := Lib.parseUintB_le hp
      omega
    · rw [hp] at hu; cases hu
    · rw [hp] at hu; cases hu
  have HE : Hid ((8 - (l.length : Int)) = ((8 - l.length : Nat) : Int)) := by unfold Hid; omega
  have HU := Lib.hid hu
  have HL : Hid ((l ++ Lib.repeatL [48] (8 - l.length)).length ≤ 4294967296) := by unfold Hid; rw [List.length_append]; omega
  have HC : Hid (8 - l.length ≤ 8) := by unfold Hid; omega
  have HR : Hid ((u : Int) / 390625 = ((u / 390625 : Nat) : Int)) := by unfold Hid; omega
  clear h hu
  generalize 8 - l.length = c at *
  go_enter Tryz.func86, Tryz.ntmps86
  go_wp2_with (first | (go_at_call 101; rw [HE.out]; refine (repeat_any _ HC.out _).mono ?_; rintro e w1 ⟨rfl, hb1⟩; have Hb1 := Lib.hid hb1; clear hb1) | (go_at_call 85; rw [cat_mk]; refine ((pu_some _ HL.out _).2 u HU.out).mono ?_; rintro e w2 ⟨rfl, hb2⟩; have Hb2 := Lib.hid hb2; clear hb2))
  go_ret2
  refine ⟨?_, below_next Hb1.out Hb2.out⟩
  rw [HR.out]; rfl
set_option maxHeartbeats 1000000 in
theorem readPart_bad (l : List UInt8) (h : l.length ≤ 8) (hu : okOf (Lib.parseUintB 32 (l ++ Lib.repeatL [48] (8 - l.length))) = none) (w : World) (hr : Rd2 w) :
    Calls Tryz.prog 86 #[.string ⟨l.toArray⟩] w fun e w' => e = tag 0 false ∧ Below w.heap.size w w' := by
  have h1 : (l.length : Int) ≤ 8 := by omega
  have h2 : ((Lib.repeatL [48] (8 - l.length)).length : Int) ≤ 8 := by rw [repeat_one, List.length_replicate]; omega
  have HE : Hid ((8 - (l.length : Int)) = ((8 - l.length : Nat) : Int)) := by unfold Hid; omega
  have HU := Lib.hid hu
  have HL : Hid ((l ++ Lib.repeatL [48] (8 - l.length)).length ≤ 4294967296) := by unfold Hid; rw [List.length_append]; omega
  have HC : Hid (8 - l.length ≤ 8) := by unfold Hid; omega
  have Hr := Lib.hid hr
  clear h hu hr
  generalize 8 - l.length = c at *
  go_enter Tryz.func86, Tryz.ntmps86
  go_wp2_with (first | (go_at_call 101; rw [HE.out]; refine (repeat_any _ HC.out _).mono ?_; rintro e w1 ⟨rfl, hb1⟩; have Hb1 := Lib.hid hb1; clear hb1) | (go_at_call 85; rw [cat_mk]; refine ((pu_none _ HL.out _ (Hr.out.on Hb1.out)).2 HU.out).mono ?_; rintro e w2 ⟨⟨x, N, rfl⟩, hb2⟩; have Hb2 := Lib.hid hb2; clear hb2))
  go_ret2
  exact ⟨rfl, below_next Hb1.out Hb2.out⟩
theorem readPart_some (l : List UInt8) (p : Nat) (h : readPartF l = some p) (w : World) :
    Calls Tryz.prog 86 #[.string ⟨l.toArray⟩] w fun e w' => e = tag p true ∧ Below w.heap.size w w' := by
  unfold readPartF at h
  split at h
  · cases h
  · obtain ⟨u, h1, rfl⟩ := Option.map_eq_some_iff.1 h
    exact readPart_ok l (by omega) u h1 w
theorem readPart_none (l : List UInt8) (h : readPartF l = none) (w : World) (hr : Rd2 w) :
    Calls Tryz.prog 86 #[.string ⟨l.toArray⟩] w fun e w' => e = tag 0 false ∧ Below w.heap.size w w' := by
  unfold readPartF at h
  split at h
  · exact (readPart_long l (by omega) w).mono fun _ _ ⟨he, hw⟩ => ⟨he, hw ▸ Below.refl _ _⟩
  · exact readPart_bad l (by omega) (Option.map_eq_none_iff.1 h) w hr
theorem readPart_le (l : List UInt8) (p : Nat) (h : readPartF l = some p) : p ≤ 10996 := by
  unfold readPartF at h
  split at h
  · cases h
  · obtain ⟨u, h1, rfl⟩ := Option.map_eq_some_iff.1 h
    cases hp : Lib.parseUintB 32 (l ++ Lib.repeatL [48] (8 - l.length))
    · rw [hp] at h1; cases h1
      have := Lib.parseUintB_le hp
      omega
    · rw [hp] at h1; cases h1
    · rw [hp] at h1; cases h1
end Go.Proofs.YtbnbglngpgikfaaGreatDoor

