/- strconv.ParseUint(s, 10, 24): what it hands back, for every string. -/
import Derived.Test.YtbnbglngpgikfaaGreatDoorNs2
import Derived.Test.YtbnbglngpgikfaaGreatDoorNc
import Derived.Test.YtbnbglngpgikfaaGreatDoorShelf2
import Derived.Laws.Strings3
import Derived.Laws.Closers25
import Derived.Laws.Closers25b
import Derived.BigCall
import Derived.BigGuard
import Derived.Lib.ConvBytes
import Derived.Lib.AtoiErrMem
import Derived.Lib.ParseIntBMem
namespace Go.Proofs.YtbnbglngpgikfaaGreatDoor
open Go.RowKit Go.Shelf

/-- What no row of digits gives. -/
def synE : Lib.NumEnd Nat := Lib.parseUintM 0 0 [0]
theorem lower_any (c : Int) (w : World) : Calls Tryz.prog 110 #[.int .u8 c] w fun e w' => e = .returned (.int .u8 (bits .or .u8 c 32)) ∧ w' = w :=
  AnyPu.internal_strconv_lower { Tryz.laysPu14 with } c w

set_option maxHeartbeats 32000000 in
set_option maxRecDepth 100000 in
theorem parse24 (t : ByteArray) (hne : t.size ≠ 0) (hmax : t.size ≤ 4294967296) (w : World) :
    Calls Tryz.prog 99 #[.string t, .int .i64 10, .int .i64 24] w fun e w' => e = .returned (Lib.uintTupleM 138 16777215 (Lib.parseUintM 16777215 0 t.data.toList)) ∧ w' = Lib.bytesWorld w 5 t := by
  have hemp : t.toList.isEmpty = false := by
    rw [← decide_eq_emptyBytes]
    exact decide_eq_false (fun h => hne (by rw [h]; rfl))
  have hcv := Lib.run_convert_string_bytes (P := Tryz.prog) w 9 77 5 t (u := .string) Tryz.underlying9 Tryz.underlying77 Tryz.underlying5
  have hB : ∀ j, j < t.size → (Lib.bytesWorld w 5 t).cell? ⟨w.heap.size, j, none⟩ = some (.int .u8 (t.data.toList.getD j 0).toNat) := fun j hj => Lib.bytesWorld_cell w 5 t j hj
  obtain ⟨W1, hW1⟩ : ∃ W1, W1 = Lib.bytesWorld w 5 t := ⟨_, rfl⟩
  rw [← hW1] at hcv hB ⊢
  clear hW1
  obtain ⟨bs, hL⟩ : ∃ bs, bs = t.data.toList := ⟨_, rfl⟩
  have hLn : bs.length = t.size := by rw [hL, Lib.size_eq]
  rw [← hL] at hB ⊢
  clear hL
  have hmv : IntKind.u64.wrap (IntKind.u64.wrap 16777216 - 1) = 16777215 := by
    rw [IntKind.wrap_u64, IntKind.wrap_u64]
    decide
  go_enter Tryz.func99, Tryz.ntmps99
  go_wp2
  go_loop [12, 13, 101] (fun vu vn vi => ∃ (k acc : Nat) (a : Int), vu = .bool false ∧ vn = .int .u64 a ∧ vi = .int .i64 k ∧ k ≤ t.size ∧ Hid (a = (acc : Int) ∧ acc ≤ 16777215 ∧ Lib.parseUintM 16777215 0 bs = Lib.parseUintM 16777215 acc (bs.drop k)))
    (fun _ _ vi => t.size - (intOf vi).toNat)
  case atStart => exact ⟨0, 0, 0, rfl, rfl, rfl, by omega, rfl, by omega, rfl⟩
  case round =>
    obtain ⟨k, acc, a, rfl, rfl, rfl, hk, hh⟩ := hrel
    obtain ⟨ha, hacc, hdec⟩ := hh.out
    clear hh
    have a0 : 0 ≤ a := by omega
    have a1 : a ≤ 16777215 := by omega
    by_cases hkn : k < t.size
    · have hc := hB k hkn
      have hdrop : bs.drop k = bs[k]'(by omega) :: bs.drop (k + 1) := List.drop_eq_getElem_cons (by omega)
      have hget : bs.getD k 0 = bs[k]'(by omega) := by simp [List.getD, List.getElem?_eq_getElem (show k < bs.length by omega)]
      rw [hdrop] at hdec
      rw [hget] at hc
      generalize bs[k]'(by omega) = c at hc hdec
      have hc256 : c.toNat < 256 := c.toNat_lt
      clear hB hdrop hget
      by_cases hdig : 48 ≤ c.toNat ∧ c.toNat ≤ 57
      · obtain ⟨hd0, hd1⟩ := hdig
        have hcut : ¬ 1844674407370955162 ≤ acc := by omega
        by_cases hov : 16777215 < acc * 10 + (c.toNat - 48)
        · have hF : Lib.parseUintM 16777215 acc (c :: bs.drop (k + 1)) = .range := by unfold Lib.parseUintM; rw [if_pos ⟨hd0, hd1⟩, if_neg hcut, if_pos hov]
          rw [hF] at hdec
          have iov : 16777215 < a * 10 + ((c.toNat : Int) - 48) := by omega
          clear hcut hacc hF hov ha
          go_wp2
          go_ret2
          exact ⟨rfl, rfl⟩
        · have hF : Lib.parseUintM 16777215 acc (c :: bs.drop (k + 1)) = Lib.parseUintM 16777215 (acc * 10 + (c.toNat - 48)) (bs.drop (k + 1)) := by rw [Lib.parseUintM, if_pos ⟨hd0, hd1⟩, if_neg hcut, if_neg hov]
          have HN : Hid (a * 10 + ((c.toNat : Int) - 48) = ((acc * 10 + (c.toNat - 48) : Nat) : Int) ∧ acc * 10 + (c.toNat - 48) ≤ 16777215 ∧ Lib.parseUintM 16777215 0 bs = Lib.parseUintM 16777215 (acc * 10 + (c.toNat - 48)) (bs.drop (k + 1))) := ⟨by omega, by omega, by rw [hdec, hF]⟩
          have iov : a * 10 + ((c.toNat : Int) - 48) ≤ 16777215 := by omega
          clear hcut hacc hF hov hdec ha
          go_wp2
          refine ⟨⟨k + 1, acc * 10 + (c.toNat - 48), a * 10 + ((c.toNat : Int) - 48), rfl, (by first | rfl | (congr 1; omega)), (by first | rfl | (congr 1; omega)), by omega, HN⟩, by simp [intOf]; omega⟩
      · have hF : Lib.parseUintM 16777215 acc (c :: bs.drop (k + 1)) = synE := by rw [Lib.parseUintM, if_neg hdig]; rfl
        rw [hF] at hdec
        clear hacc hF ha
        have hv0 := bits_lo_u8 .or (c.toNat : Int) 32
        have hv1 := bits_hi_u8 .or (c.toNat : Int) 32
        have hu0 := bits_lo_u8 .or 95 32
        have hu1 := bits_hi_u8 .or 95 32
        go_wp2_with (go_at_call 110; refine (lower_any _ _).mono ?_; rintro e w' ⟨rfl, rfl⟩)
        all_goals go_ret2
        all_goals first | exact ⟨rfl, rfl⟩ | exact ⟨by rw [hdec]; rfl, rfl⟩
    · have hkk : k = t.size := by omega
      subst hkk
      have hF : Lib.parseUintM 16777215 acc (bs.drop t.size) = .ok acc := by rw [List.drop_eq_nil_of_le (by omega)]; rfl
      rw [hF] at hdec
      subst ha
      clear hacc hF a0 a1
      go_wp2
      go_ret2
      exact ⟨rfl, rfl⟩

end Go.Proofs.YtbnbglngpgikfaaGreatDoor

