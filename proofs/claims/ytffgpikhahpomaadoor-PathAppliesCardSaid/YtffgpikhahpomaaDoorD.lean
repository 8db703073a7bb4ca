/- Layer 5: isCurve, and what the statements call right. -/
import Derived.Test.YtffgpikhahpomaaDoorB
namespace Go.Proofs.YtffgpikhahpomaaDoor
open Go.RowKit
/-- A curve: three points or four, all of them in room. -/
def curveB (l : List Pt) : Bool := (decide (l.length = 3) || decide (l.length = 4)) && l.all roomP
set_option maxHeartbeats 1000000 in
set_option maxRecDepth 100000 in
theorem isCurve_few (ao : Option Addr) (n c : Nat) (w : World) (h : n < 3 ∨ 4 < n) : Calls Tryd.prog 63 #[.slice ao n c] w fun e w' => e = .returned (.bool false) ∧ Below w.heap.size w w' := by
  by_cases h3 : n < 3
  · have hd : decide ((n : Int) < 3) = true := by simp; omega
    go_enter Tryd.func63, Tryd.ntmps63
    go_wp2_with fail
    go_ret
    exact ⟨rfl, Below.refl _ _⟩
  · have hd : decide ((n : Int) < 3) = false := by simp; omega
    have hd4 : decide ((n : Int) > 4) = true := by simp; omega
    go_enter Tryd.func63, Tryd.ntmps63
    go_wp2_with fail
    go_ret
    exact ⟨rfl, Below.refl _ _⟩
set_option maxHeartbeats 1000000 in
set_option maxRecDepth 100000 in
theorem isCurve_some (w : World) (b o c : Nat) (l : List Pt) (h3 : 3 ≤ l.length) (h4 : l.length ≤ 4) (hb : b < w.heap.size) (hp : PtsAt w b o l) :
    Calls Tryd.prog 63 #[.slice (some ⟨b, o, none⟩) l.length c] w fun e w' => e = .returned (.bool (l.all roomP)) ∧ Below w.heap.size w w' := by
  have HX := Lib.hid (fun x y : Int => ptIn_c x y)
  have HP := Lib.hid hp
  have HB := Lib.hid hb
  clear hp hb
  obtain ⟨n, hn⟩ : ∃ n, l.length = n := ⟨_, rfl⟩
  rw [hn] at h3 h4 ⊢
  have HN := Lib.hid hn
  have d3 : decide ((n : Int) < 3) = false := by simp; omega
  have d4 : decide ((n : Int) > 4) = false := by simp; omega
  clear hn
  go_enter Tryd.func63, Tryd.ntmps63
  go_wp2_with fail
  go_loopw [15] (fun i wr => ∃ k : Nat, k ≤ n ∧ i = .int .i64 k ∧ Hid ((l.take k).all roomP = true ∧ Below w.heap.size w wr)) (fun i _ => n - (intOf i).toNat)
  case atStart => exact ⟨0, by omega, rfl, by simp, Below.refl _ _⟩
  case round =>
    obtain ⟨k, hk, rfl, hw⟩ := hrel
    by_cases hlt : k < n
    · have hd : decide ((k : Int) < (n : Int)) = true := by simp; omega
      obtain ⟨⟨x, y⟩, hp⟩ : ∃ p, l[k]? = some p := ⟨_, List.getElem?_eq_getElem (by rw [HN.out]; exact hlt)⟩
      obtain ⟨c0, c1⟩ := (HP.out.on hw.out.2 HB.out) k (x, y) hp
      have Hp := Lib.hid hp
      clear hp
      simp only at c0 c1
      have hnot : roomP (x, y) = false → l.all roomP = false := fun h => by
        rw [List.all_eq_false]
        exact ⟨(x, y), List.mem_of_getElem? Hp.out, by simp [h]⟩
      have hyes : roomP (x, y) = true → (l.take (k + 1)).all roomP = true := fun h1 => by
        rw [List.take_add_one, List.all_append, hw.out.1, Hp.out]
        simp [h1]
      have HN' := Lib.hid hnot; have HY := Lib.hid hyes
      have HC := Lib.hid (fun w => HX.out x y w)
      have hr : Hid ((room x && room y) = roomP (x, y)) := rfl
      clear hnot hyes
      rw [show (room x && room y) = roomP (x, y) from rfl] at HC
      cases hroom : roomP (x, y)
      · rw [hroom] at HC
        have Hroom := Lib.hid hroom
        clear hroom hr
        go_wp2_with fail
        refine (HC.out _).mono ?_
        rintro e w1 ⟨rfl, hb1⟩
        have B1 : Hid (Below w.heap.size w w1) := (hw.out.2.alloc hw.out.2.size _).trans (hb1.mono (by have := hw.out.2.size; simp; omega))
        clear hb1
        go_wp2_with fail
        go_ret
        exact ⟨retB (HN'.out Hroom.out).symm, B1.out⟩
      · rw [hroom] at HC
        have Hroom := Lib.hid hroom
        clear hroom hr
        go_wp2_with fail
        refine (HC.out _).mono ?_
        rintro e w1 ⟨rfl, hb1⟩
        have B1 : Hid (Below w.heap.size w w1) := (hw.out.2.alloc hw.out.2.size _).trans (hb1.mono (by have := hw.out.2.size; simp; omega))
        clear hb1
        go_wp2_with fail
        exact ⟨⟨k + 1, by omega, by go_num, HY.out Hroom.out, B1.out⟩, by simp [intOf]; omega⟩
    · have hd : decide ((k : Int) < (n : Int)) = false := by simp; omega
      have hkn : Hid (k = n) := by unfold Hid; omega
      go_wp2_with fail
      go_ret
      have := hw.out.1
      rw [hkn.out, ← HN.out, List.take_length] at this
      rw [this]
      exact ⟨rfl, hw.out.2⟩
theorem curveB_few {l : List Pt} (h : l.length < 3 ∨ 4 < l.length) : curveB l = false := by
  unfold curveB
  rw [decide_eq_false (by omega), decide_eq_false (by omega)]; rfl
theorem curveB_some {l : List Pt} (h3 : 3 ≤ l.length) (h4 : l.length ≤ 4) : curveB l = l.all roomP := by
  unfold curveB
  have : l.length = 3 ∨ l.length = 4 := by omega
  rcases this with h | h <;> simp [h]
theorem isCurve_c (s : Value) (l : List Pt) (w : World) (h : Row w s l) : Calls Tryd.prog 63 #[s] w fun e w' => e = .returned (.bool (curveB l)) ∧ Below w.heap.size w w' := by
  rcases h with ⟨rfl, rfl⟩ | ⟨a, c, rfl, rfl⟩ | ⟨b, o, c, rfl, hb, hp⟩
  · exact isCurve_few none 0 0 w (.inl (by decide))
  · exact isCurve_few (some a) 0 c w (.inl (by decide))
  · by_cases hfew : l.length < 3 ∨ 4 < l.length
    · rw [curveB_few hfew]; exact isCurve_few _ _ c w hfew
    · rw [curveB_some (by omega) (by omega)]; exact isCurve_some w b o c l (by omega) (by omega) hb hp
end Go.Proofs.YtffgpikhahpomaaDoor

