/- Layer 5: what the statements call right, ref, same, at. -/
import Derived.Test.YthlealndopppaaaD
import Derived.Test.YthlealndopppaaaE
namespace Go.Proofs.Ythlealndopppaaa
open Go.RowKit
set_option maxHeartbeats 1000000 in
set_option maxRecDepth 100000 in
theorem right_empty (ao : Option Addr) (c : Nat) (w : World) : Calls Try.prog 13 #[.slice ao 0 c] w fun e w' => e = .returned (.bool false) ∧ Below w.heap.size w w' := by
  go_enter Try.func13, Try.ntmps13
  go_wp2_with fail
  go_loopw [7] (fun i wr => i = .int .i64 0 ∧ Hid (wr = w)) (fun _ _ => 0)
  case atStart => exact ⟨rfl, rfl⟩
  case round =>
    obtain ⟨rfl, hw⟩ := hrel
    go_wp2_with fail
    go_ret
    exact ⟨rfl, by rw [hw.out]; exact Below.refl _ _⟩
set_option maxHeartbeats 2000000 in
set_option maxRecDepth 100000 in
theorem right_some (w : World) (b o c : Nat) (l : List Pt) (hl : l.length ≤ 9223372036854775807) (hb : b < w.heap.size) (hp : PtsAt w b o l) :
    Calls Try.prog 13 #[.slice (some ⟨b, o, none⟩) l.length c] w fun e w' => e = .returned (.bool (curveB l)) ∧ Below w.heap.size w w' := by
  have HX := Lib.hid (fun x : Int => refIn_c x)
  have HP := Lib.hid hp
  have HB := Lib.hid hb
  have HC : Hid (curveB l = ((decide (l.length = 3) || decide (l.length = 4)) && l.all roomP)) := rfl
  generalize curveB l = r at HC ⊢
  clear hp hb
  obtain ⟨n, hn⟩ : ∃ n, l.length = n := ⟨_, rfl⟩
  rw [hn] at hl HC ⊢
  have HN := Lib.hid hn
  have HL := Lib.hid hl
  clear hn hl
  go_enter Try.func13, Try.ntmps13
  go_wp2_with fail
  go_loopw [7] (fun i wr => ∃ k : Nat, k ≤ n ∧ i = .int .i64 k ∧ Hid ((l.take k).all roomP = true ∧ Below w.heap.size w wr)) (fun i _ => n - (intOf i).toNat)
  case atStart => exact ⟨0, by omega, rfl, by simp, Below.refl _ _⟩
  case round =>
    obtain ⟨k, hk, rfl, hw⟩ := hrel
    by_cases hlt : k < n
    · have hd : decide ((k : Int) < (n : Int)) = true := by simp; omega
      obtain ⟨⟨x, y⟩, hp⟩ : ∃ p, l[k]? = some p := ⟨_, List.getElem?_eq_getElem (by rw [HN.out]; exact hlt)⟩
      obtain ⟨c0, c1⟩ := (HP.out.on hw.out.2 HB.out) k (x, y) hp
      have Hp := Lib.hid hp
      clear hp
      simp only at c0 c1
      have hnot : room x = false ∨ room y = false → l.all roomP = false := fun h => by
        rw [List.all_eq_false]
        exact ⟨(x, y), List.mem_of_getElem? Hp.out, by unfold roomP; rcases h with h | h <;> simp [h]⟩
      have hyes : room x = true → room y = true → (l.take (k + 1)).all roomP = true := fun h1 h2 => by
        rw [List.take_add_one, List.all_append, hw.out.1, Hp.out]
        simp [roomP, h1, h2]
      have HN' := Lib.hid hnot; have HY := Lib.hid hyes
      clear hnot hyes
      have hkl : k + 1 ≤ 9223372036854775807 := by have := HL.out; omega
      go_wp2_with fail
      refine (HX.out _ _).mono ?_
      rintro e w' ⟨rfl, rfl⟩
      go_wp2_with fail
      · have hx : room x = true := by assumption
        refine (HX.out _ _).mono ?_
        rintro e w' ⟨rfl, rfl⟩
        go_wp2_with fail
        · rename_i hy
          go_ret
          exact ⟨retB (by rw [HC.out, HN'.out (.inr (by simpa using hy)), Bool.and_false]), hw.out.2.alloc hw.out.2.size _⟩
        · rename_i hy
          have B1 : Below w.heap.size w (wr.alloc (.cells #[.int .i64 x, .int .i64 y] 34)) := hw.out.2.alloc hw.out.2.size _
          exact ⟨⟨k + 1, by omega, by go_num, HY.out hx (by simpa using hy), B1⟩, by simp [intOf]; omega⟩
      · rename_i hx
        go_ret
        exact ⟨retB (by rw [HC.out, HN'.out (.inl (by simpa using hx)), Bool.and_false]), hw.out.2.alloc hw.out.2.size _⟩
    · have hd : decide ((k : Int) < (n : Int)) = false := by simp; omega
      have hall : Hid (l.all roomP = true) := by
        have := hw.out.1
        rwa [show k = n by omega, ← HN.out, List.take_length] at this
      by_cases h3 : n = 3
      · have e3 : ((n : Int) == 3) = true := by simp; omega
        have e3' : decide ((n : Int) = 3) = true := by simp; omega
        have H3 : Hid (n = 3) := h3
        clear h3
        go_wp2_with fail
        go_ret
        exact ⟨retB (by rw [HC.out, hall.out, H3.out]; simp), hw.out.2⟩
      · have e3 : ((n : Int) == 3) = false := by simp; omega
        have e3' : decide ((n : Int) = 3) = false := by simp; omega
        by_cases h4 : n = 4
        · have e4 : ((n : Int) == 4) = true := by simp; omega
          have e4' : decide ((n : Int) = 4) = true := by simp; omega
          have H3 : Hid (n = 4) := h4
          clear h3 h4
          go_wp2_with fail
          go_ret
          exact ⟨retB (by rw [HC.out, hall.out, H3.out]; simp), hw.out.2⟩
        · have e4 : ((n : Int) == 4) = false := by simp; omega
          have e4' : decide ((n : Int) = 4) = false := by simp; omega
          have H3 : Hid (¬ n = 3 ∧ ¬ n = 4) := ⟨h3, h4⟩
          clear h3 h4
          go_wp2_with fail
          go_ret
          exact ⟨retB (by rw [HC.out, decide_eq_false H3.out.1, decide_eq_false H3.out.2]; rfl), hw.out.2⟩
theorem right_c (s : Value) (l : List Pt) (w : World) (hl : l.length ≤ 9223372036854775807) (h : Row w s l) : Calls Try.prog 13 #[s] w fun e w' => e = .returned (.bool (curveB l)) ∧ Below w.heap.size w w' := by
  rcases h with ⟨rfl, rfl⟩ | ⟨a, c, rfl, rfl⟩ | ⟨b, o, c, rfl, hb, hp⟩
  · exact right_empty none 0 w
  · exact right_empty (some a) c w
  · exact right_some w b o c l hl hb hp
end Go.Proofs.Ythlealndopppaaa
