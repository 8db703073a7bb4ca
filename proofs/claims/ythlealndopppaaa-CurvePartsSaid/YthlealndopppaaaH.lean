/- Layer 5: the statements' same, of rows that are the same. -/
import Derived.Test.YthlealndopppaaaE
import Derived.Deep.QuietTactic
namespace Go.Proofs.Ythlealndopppaaa
open Go.RowKit
set_option maxHeartbeats 1000000 in
set_option maxRecDepth 100000 in
theorem same_empty (ao bo : Option Addr) (c d : Nat) (w : World) : Calls Try.prog 12 #[.slice ao 0 c, .slice bo 0 d] w fun e w' => e = .returned (.bool true) ∧ Below w.heap.size w w' := by
  go_enter Try.func12, Try.ntmps12
  go_wp2_with fail
  go_loopw [13] (fun i wr => i = .int .i64 0 ∧ Hid (wr = w)) (fun _ _ => 0)
  case atStart => exact ⟨rfl, rfl⟩
  case round =>
    obtain ⟨rfl, hw⟩ := hrel
    go_wp2_with fail
    go_ret
    exact ⟨rfl, by rw [hw.out]; exact Below.refl _ _⟩
set_option maxHeartbeats 2000000 in
set_option maxRecDepth 100000 in
theorem same_some (w : World) (b o c b2 o2 c2 n : Nat) (l : List Pt) (hn : l.length = n) (hl : n ≤ 1000) (hb : b < w.heap.size) (hp : PtsAt w b o l) (hb2 : b2 < w.heap.size) (hp2 : PtsAt w b2 o2 l) :
    Calls Try.prog 12 #[.slice (some ⟨b, o, none⟩) n c, .slice (some ⟨b2, o2, none⟩) n c2] w fun e w' => e = .returned (.bool true) ∧ Below w.heap.size w w' := by
  have HP := Lib.hid hp
  have HB := Lib.hid hb
  have HP2 := Lib.hid hp2
  have HB2 := Lib.hid hb2
  have HN := Lib.hid hn
  have e0 : ((n : Int) == (n : Int)) = true := by simp
  clear hp hb hp2 hb2 hn
  go_enter Try.func12, Try.ntmps12
  go_wp2_with fail
  go_loopw [13] (fun i wr => ∃ k : Nat, k ≤ n ∧ i = .int .i64 k ∧ Hid (Below w.heap.size w wr)) (fun i _ => n - (intOf i).toNat)
  case atStart => exact ⟨0, by omega, rfl, Below.refl _ _⟩
  case round =>
    obtain ⟨k, hk, rfl, hw⟩ := hrel
    by_cases hlt : k < n
    · have hd : decide ((k : Int) < (n : Int)) = true := by simp; omega
      obtain ⟨⟨x, y⟩, hp⟩ : ∃ p, l[k]? = some p := ⟨_, List.getElem?_eq_getElem (by rw [HN.out]; exact hlt)⟩
      obtain ⟨c0, c1⟩ := (HP.out.on hw.out HB.out) k (x, y) hp
      obtain ⟨c3, c4⟩ := (HP2.out.on hw.out HB2.out) k (x, y) hp
      have Hp := Lib.hid hp
      clear hp
      simp only at c0 c1 c3 c4
      have ex : (x == x) = true := by simp
      have ey : (y == y) = true := by simp
      go_wp2_with fail
      go_quiet (fail)
      go_wp2_with fail
      exact ⟨⟨k + 1, by omega, by go_num, below_drewN hw.out _⟩, by simp [intOf]; omega⟩
    · have hd : decide ((k : Int) < (n : Int)) = false := by simp; omega
      go_wp2_with fail
      go_ret
      exact ⟨rfl, hw.out⟩
theorem same_c (s u : Value) (l : List Pt) (w : World) (hl : l.length ≤ 1000) (h : Row w s l) (k : Row w u l) : Calls Try.prog 12 #[s, u] w fun e w' => e = .returned (.bool true) ∧ Below w.heap.size w w' := by
  obtain ⟨ao, c, rfl⟩ := h.shape
  obtain ⟨bo, d, rfl⟩ := k.shape
  by_cases h0 : l.length = 0
  · rw [h0]; exact same_empty ao bo c d w
  · obtain ⟨b, o, rfl, h1, h2⟩ := h.addr (k := 0) (by omega)
    obtain ⟨b2, o2, rfl, h3, h4⟩ := k.addr (k := 0) (by omega)
    exact same_some w b o c b2 o2 d l.length l rfl hl h1 h2 h3 h4
end Go.Proofs.Ythlealndopppaaa
