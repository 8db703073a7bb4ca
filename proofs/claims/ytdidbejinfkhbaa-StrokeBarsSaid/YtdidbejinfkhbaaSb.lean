/- Layer 7: whether all points of a row are in room; the statements' refs and same. -/
import Derived.Test.YtdidbejinfkhbaaSa
import Derived.Deep.QuietTactic
namespace Go.Proofs.Ytdidbejinfkhbaa
open Go.RowKit
set_option maxHeartbeats 2000000 in
set_option maxRecDepth 100000 in
theorem allIn_c (s : Value) (l : List Pt) (w : World) (hl : l.length ≤ 100000) (row : Row w s l) :
    Calls Try.prog 28 #[s] w fun e w' => e = .returned (.bool (l.all roomP)) ∧ Below w.heap.size w w' := by
  obtain ⟨ao, c, rfl⟩ := row.shape
  obtain ⟨n, hn⟩ : ∃ n, l.length = n := ⟨_, rfl⟩
  rw [hn] at row hl ⊢
  have HN := Lib.hid hn
  have HROW := Lib.hid row
  have HL := Lib.hid hl
  clear hn row hl
  have HX := Lib.hid (fun x y : Int => ptIn_c x y)
  go_enter Try.func28, Try.ntmps28
  go_wp2_with fail
  go_loopw [7] (fun i wr => ∃ k : Nat, k ≤ n ∧ i = .int .i64 k ∧ Hid ((l.take k).all roomP = true ∧ Below w.heap.size w wr)) (fun i _ => n - (intOf i).toNat)
  case atStart => exact ⟨0, by omega, rfl, by simp, Below.refl _ _⟩
  case round =>
    obtain ⟨k, hk, rfl, hw⟩ := hrel
    by_cases hlt : k < n
    · have hd : decide ((k : Int) < (n : Int)) = true := by simp; omega
      obtain ⟨b, o, rfl, hbs, hpa⟩ := Row.addr HROW.out (k := k) (by rw [HN.out]; exact hlt)
      obtain ⟨⟨x, y⟩, hp⟩ : ∃ p, l[k]? = some p := ⟨_, List.getElem?_eq_getElem (by rw [HN.out]; exact hlt)⟩
      obtain ⟨c0, c1⟩ := (hpa.on hw.out.2 hbs) k (x, y) hp
      have Hp := Lib.hid hp
      clear hp hpa hbs
      simp only at c0 c1
      have hnot : (room x && room y) = false → l.all roomP = false := fun h => by
        rw [List.all_eq_false]
        exact ⟨(x, y), List.mem_of_getElem? Hp.out, by unfold roomP; simp only [h]; decide⟩
      have hyes : (room x && room y) = true → (l.take (k + 1)).all roomP = true := fun h => by
        rw [List.take_add_one, List.all_append, hw.out.1, Hp.out]
        simp only [Option.toList, List.all_cons, List.all_nil, Bool.true_and, Bool.and_true]
        exact h
      have HN' := Lib.hid hnot; have HY := Lib.hid hyes
      clear hnot hyes
      have hl := HL.out
      generalize hr : (room x && room y) = r at HN' HY
      have HR := Lib.hid hr
      clear hr
      go_wp2_with fail
      refine (HX.out _ _ _).mono ?_
      rw [HR.out]
      rintro e w' ⟨rfl, hb⟩
      have B1 : Hid (Below w.heap.size w w') := (hw.out.2.alloc hw.out.2.size _).trans (hb.mono (by have := hw.out.2.size; simp; omega))
      clear hb
      cases r
      · go_wp2_with fail
        go_ret
        exact ⟨retB (HN'.out trivial).symm, B1.out⟩
      · go_wp2_with fail
        exact ⟨⟨k + 1, by omega, by go_num, HY.out trivial, B1.out⟩, by simp [intOf]; omega⟩
    · have hd : decide ((k : Int) < (n : Int)) = false := by simp; omega
      have hkn : Hid (k = n) := by unfold Hid; omega
      go_wp2_with fail
      go_ret
      have := hw.out.1
      rw [hkn.out, ← HN.out, List.take_length] at this
      exact ⟨retB this.symm, hw.out.2⟩
theorem inRoom_c (s : Value) (l : List Pt) (w : World) (hl : l.length ≤ 100000) (row : Row w s l) :
    Calls Try.prog 23 #[s] w fun e w' => e = .returned (if l.all roomP then .tuple #[s, .int .i64 0] else .tuple #[.slice none 0 0, .int .i64 10]) ∧ Below w.heap.size w w' := by
  have HA := Lib.hid (allIn_c s l w hl row)
  obtain ⟨ao, c, rfl⟩ := row.shape
  clear row
  generalize l.all roomP = r at *
  cases r
  · rw [if_neg (by decide)]
    go_enter Try.func23, Try.ntmps23
    go_wp2_with fail
    refine (HA.out).mono ?_
    rintro e w' ⟨rfl, hb⟩
    have HB := Lib.hid hb
    clear hb
    go_wp2_with fail
    go_ret2
    exact ⟨rfl, HB.out⟩
  · rw [if_pos rfl]
    go_enter Try.func23, Try.ntmps23
    go_wp2_with fail
    refine (HA.out).mono ?_
    rintro e w' ⟨rfl, hb⟩
    have HB := Lib.hid hb
    clear hb
    go_wp2_with fail
    go_ret2
    exact ⟨rfl, HB.out⟩
set_option maxHeartbeats 2000000 in
set_option maxRecDepth 100000 in
theorem refIn7_c (s : Value) (l : List Pt) (w : World) (hl : l.length ≤ 100000) (row : Row w s l) :
    Calls Try.prog 10 #[s] w fun e w' => e = .returned (.bool (l.all roomP)) ∧ Below w.heap.size w w' := by
  obtain ⟨ao, c, rfl⟩ := row.shape
  obtain ⟨n, hn⟩ : ∃ n, l.length = n := ⟨_, rfl⟩
  rw [hn] at row hl ⊢
  have HN := Lib.hid hn
  have HROW := Lib.hid row
  have HL := Lib.hid hl
  clear hn row hl
  have HX := Lib.hid (fun x : Int => refIn_c x)
  go_enter Try.func10, Try.ntmps10
  go_wp2_with fail
  go_loopw [3] (fun i wr => ∃ k : Nat, k ≤ n ∧ i = .int .i64 k ∧ Hid ((l.take k).all roomP = true ∧ Below w.heap.size w wr)) (fun i _ => n - (intOf i).toNat)
  case atStart => exact ⟨0, by omega, rfl, by simp, Below.refl _ _⟩
  case round =>
    obtain ⟨k, hk, rfl, hw⟩ := hrel
    by_cases hlt : k < n
    · have hd : decide ((k : Int) < (n : Int)) = true := by simp; omega
      obtain ⟨b, o, rfl, hbs, hpa⟩ := Row.addr HROW.out (k := k) (by rw [HN.out]; exact hlt)
      obtain ⟨⟨x, y⟩, hp⟩ : ∃ p, l[k]? = some p := ⟨_, List.getElem?_eq_getElem (by rw [HN.out]; exact hlt)⟩
      obtain ⟨c0, c1⟩ := (hpa.on hw.out.2 hbs) k (x, y) hp
      have Hp := Lib.hid hp
      clear hp hpa hbs
      simp only at c0 c1
      have hnot : room x = false ∨ room y = false → l.all roomP = false := fun h => by
        rw [List.all_eq_false]
        exact ⟨(x, y), List.mem_of_getElem? Hp.out, by unfold roomP; rcases h with h | h <;> simp [h]⟩
      have hyes : room x = true → room y = true → (l.take (k + 1)).all roomP = true := fun h1 h2 => by
        rw [List.take_add_one, List.all_append, hw.out.1, Hp.out]
        simp [roomP, h1, h2]
      have HN' := Lib.hid hnot; have HY := Lib.hid hyes
      clear hnot hyes
      have hl := HL.out
      generalize hx : room x = rx at *
      generalize hy : room y = ry at *
      have hX := Lib.hid hx; have hY := Lib.hid hy
      clear hx hy
      cases rx
      · go_wp2_with fail
        refine (HX.out _ _).mono ?_
        rw [hX.out]
        rintro e w' ⟨rfl, rfl⟩
        go_wp2_with fail
        go_ret
        exact ⟨retB (HN'.out (.inl trivial)).symm, hw.out.2⟩
      · go_wp2_with fail
        refine (HX.out _ _).mono ?_
        rw [hX.out]
        rintro e w' ⟨rfl, rfl⟩
        go_wp2_with fail
        refine (HX.out _ _).mono ?_
        rw [hY.out]
        rintro e w' ⟨rfl, rfl⟩
        cases ry
        · go_wp2_with fail
          go_ret
          exact ⟨retB (HN'.out (.inr trivial)).symm, hw.out.2⟩
        · go_wp2_with fail
          exact ⟨⟨k + 1, by omega, by go_num, HY.out trivial trivial, hw.out.2⟩, by simp [intOf]; omega⟩
    · have hd : decide ((k : Int) < (n : Int)) = false := by simp; omega
      have hkn : Hid (k = n) := by unfold Hid; omega
      go_wp2_with fail
      go_ret
      have := hw.out.1
      rw [hkn.out, ← HN.out, List.take_length] at this
      exact ⟨retB this.symm, hw.out.2⟩
set_option maxHeartbeats 1000000 in
set_option maxRecDepth 100000 in
theorem same_empty (ao bo : Option Addr) (c d : Nat) (w : World) : Calls Try.prog 11 #[.slice ao 0 c, .slice bo 0 d] w fun e w' => e = .returned (.bool true) ∧ Below w.heap.size w w' := by
  go_enter Try.func11, Try.ntmps11
  go_wp2_with fail
  go_loopw [13] (fun i wr => i = .int .i64 0 ∧ Hid (wr = w)) (fun _ _ => 0)
  case atStart => exact ⟨rfl, rfl⟩
  case round =>
    obtain ⟨rfl, hw⟩ := hrel
    go_wp2_with fail
    go_ret
    exact ⟨rfl, by rw [hw.out]; exact Below.refl _ _⟩
set_option maxHeartbeats 2000000 in
set_option maxRecDepth 100000 in
theorem same_some (w : World) (b o c b2 o2 c2 n : Nat) (l : List Pt) (hn : l.length = n) (hl : n ≤ 1000) (hb : b < w.heap.size) (hp : PtsAt w b o l) (hb2 : b2 < w.heap.size) (hp2 : PtsAt w b2 o2 l) :
    Calls Try.prog 11 #[.slice (some ⟨b, o, none⟩) n c, .slice (some ⟨b2, o2, none⟩) n c2] w fun e w' => e = .returned (.bool true) ∧ Below w.heap.size w w' := by
  have HP := Lib.hid hp
  have HB := Lib.hid hb
  have HP2 := Lib.hid hp2
  have HB2 := Lib.hid hb2
  have HN := Lib.hid hn
  have e0 : ((n : Int) == (n : Int)) = true := by simp
  clear hp hb hp2 hb2 hn
  go_enter Try.func11, Try.ntmps11
  go_wp2_with fail
  go_loopw [13] (fun i wr => ∃ k : Nat, k ≤ n ∧ i = .int .i64 k ∧ Hid (Below w.heap.size w wr)) (fun i _ => n - (intOf i).toNat)
  case atStart => exact ⟨0, by omega, rfl, Below.refl _ _⟩
  case round =>
    obtain ⟨k, hk, rfl, hw⟩ := hrel
    by_cases hlt : k < n
    · have hd : decide ((k : Int) < (n : Int)) = true := by simp; omega
      obtain ⟨⟨x, y⟩, hp⟩ : ∃ p, l[k]? = some p := ⟨_, List.getElem?_eq_getElem (by rw [HN.out]; exact hlt)⟩
      obtain ⟨c0, c1⟩ := (HP.out.on hw.out HB.out) k (x, y) hp
      obtain ⟨c3, c4⟩ := (HP2.out.on hw.out HB2.out) k (x, y) hp
      have Hp := Lib.hid hp
      clear hp
      simp only at c0 c1 c3 c4
      have ex : (x == x) = true := by simp
      have ey : (y == y) = true := by simp
      go_wp2_with fail
      go_quiet (fail)
      go_wp2_with fail
      exact ⟨⟨k + 1, by omega, by go_num, below_drewN hw.out _⟩, by simp [intOf]; omega⟩
    · have hd : decide ((k : Int) < (n : Int)) = false := by simp; omega
      go_wp2_with fail
      go_ret
      exact ⟨rfl, hw.out⟩
theorem same_c (s u : Value) (l : List Pt) (w : World) (hl : l.length ≤ 1000) (h : Row w s l) (k : Row w u l) : Calls Try.prog 11 #[s, u] w fun e w' => e = .returned (.bool true) ∧ Below w.heap.size w w' := by
  obtain ⟨ao, c, rfl⟩ := h.shape
  obtain ⟨bo, d, rfl⟩ := k.shape
  by_cases h0 : l.length = 0
  · rw [h0]; exact same_empty ao bo c d w
  · obtain ⟨b, o, rfl, h1, h2⟩ := h.addr (k := 0) (by omega)
    obtain ⟨b2, o2, rfl, h3, h4⟩ := k.addr (k := 0) (by omega)
    exact same_some w b o c b2 o2 d l.length l rfl hl h1 h2 h3 h4
end Go.Proofs.Ytdidbejinfkhbaa

