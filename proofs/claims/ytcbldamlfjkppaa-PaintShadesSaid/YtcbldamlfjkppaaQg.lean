/- Layer 10: stops, as package paint and slices look at them. -/
import Derived.Test.YtcbldamlfjkppaaPs
import Derived.Test.YtcbldamlfjkppaaQa
import Derived.BigQuiet
namespace Go.Proofs.Ytcbldamlfjkppaa
open Go.RowKit
/-- Does a stop by itself fail to be one of a shade? -/
def noS (p : Stp) : Bool := decide (p.1 < 0) || decide (p.1 > 65536) || !rightC p.2
/-- Whether one of the first n is so. -/
def anyN (p : Nat → Bool) (n : Nat) : Bool := (List.range n).any p
theorem anyN_succ (p : Nat → Bool) (n : Nat) : anyN p (n + 1) = (anyN p n || p n) := by unfold anyN; rw [List.range_succ, List.any_append]; simp
theorem anyN_iff {p : Nat → Bool} {n : Nat} : anyN p n = true ↔ ∃ k, k < n ∧ p k = true := by unfold anyN; simp [List.any_eq_true]
theorem anyN_none {p : Nat → Bool} {n : Nat} : anyN p n = false ↔ ∀ k, k < n → p k = false := by unfold anyN; simp [List.any_eq_false]
set_option maxHeartbeats 1000000 in
theorem isNaN_c (x : Int) (w : World) : Calls Try.prog 53 #[.int .i64 x] w fun e w' => e = .returned (.bool false) ∧ w = w' := by
  go_enter Try.func53, Try.ntmps53
  go_wp2
  all_goals go_ret
  all_goals exact ⟨retB (by simp), rfl⟩
def cmpI (x y : Int) : Int := if x < y then -1 else if x > y then 1 else 0
theorem cmp_neg (x y : Int) : decide (cmpI x y < 0) = decide (x < y) := by
  unfold cmpI
  rw [Bool.eq_iff_iff, decide_eq_true_eq, decide_eq_true_eq]
  split
  · omega
  · split <;> omega
set_option maxHeartbeats 1000000 in
theorem compare_c (x y v : Int) (hv : cmpI x y = v) (w : World) : Calls Try.prog 52 #[.int .i64 x, .int .i64 y] w fun e w' => e = .returned (.int .i64 v) ∧ w = w' := by
  have HX := Lib.hid (isNaN_c x)
  have HY := Lib.hid (isNaN_c y)
  by_cases h1 : x < y
  · have d1 : decide (x < y) = true := by simpa using h1
    obtain rfl : -1 = v := by rw [← hv]; unfold cmpI; rw [if_pos h1]
    clear h1 hv
    go_enter Try.func52, Try.ntmps52
    go_wp2_with fail
    refine (HX.out _).mono ?_
    rintro e w' ⟨rfl, rfl⟩
    go_wp2_with fail
    refine (HY.out _).mono ?_
    rintro e w' ⟨rfl, rfl⟩
    go_wp2_with fail
    go_ret
    exact ⟨rfl, rfl⟩
  · have d1 : decide (x < y) = false := by simpa using h1
    by_cases h2 : x > y
    · have d2 : decide (x > y) = true := by simpa using h2
      obtain rfl : 1 = v := by rw [← hv]; unfold cmpI; rw [if_neg h1, if_pos h2]
      clear h1 h2 hv
      go_enter Try.func52, Try.ntmps52
      go_wp2_with fail
      refine (HX.out _).mono ?_
      rintro e w' ⟨rfl, rfl⟩
      go_wp2_with fail
      refine (HY.out _).mono ?_
      rintro e w' ⟨rfl, rfl⟩
      go_wp2_with fail
      go_ret
      exact ⟨rfl, rfl⟩
    · have d2 : decide (x > y) = false := by simpa using h2
      obtain rfl : 0 = v := by rw [← hv]; unfold cmpI; rw [if_neg h1, if_neg h2]
      clear h1 h2 hv
      go_enter Try.func52, Try.ntmps52
      go_wp2_with fail
      refine (HX.out _).mono ?_
      rintro e w' ⟨rfl, rfl⟩
      go_wp2_with fail
      refine (HY.out _).mono ?_
      rintro e w' ⟨rfl, rfl⟩
      go_wp2_with fail
      go_ret
      exact ⟨rfl, rfl⟩
set_option maxHeartbeats 2000000 in
set_option maxRecDepth 100000 in
theorem byPlace_c (p q : Stp) (w : World) : Calls Try.prog 46 #[.agg #[.int .i64 p.1, .int .u8 (p.2 0), .int .u8 (p.2 1), .int .u8 (p.2 2), .int .u8 (p.2 3)], .agg #[.int .i64 q.1, .int .u8 (q.2 0), .int .u8 (q.2 1), .int .u8 (q.2 2), .int .u8 (q.2 3)]] w fun e w' => e = .returned (.int .i64 (cmpI p.1 q.1)) ∧ Below w.heap.size w w' := by
  have HX := Lib.hid (compare_c p.1 q.1 _ rfl)
  obtain ⟨x, c⟩ := p
  obtain ⟨y, d⟩ := q
  simp only at *
  generalize cmpI x y = v at *
  go_enter Try.func46, Try.ntmps46
  go_wp2_with fail
  refine (HX.out _).mono ?_
  rintro e w' ⟨rfl, rfl⟩
  go_wp2_with fail
  go_ret
  exact ⟨rfl, ((Below.refl _ _).alloc (Nat.le_refl _) _).alloc (by simp) _⟩
set_option maxHeartbeats 2000000 in
set_option maxRecDepth 100000 in
theorem shade1_c (p : Stp) (t : Int) (g : Nat) (w : World) (K : Blk w g 3 #[.int .i64 t]) : Calls Try.prog 42 #[.agg #[.int .i64 p.1, .int .u8 (p.2 0), .int .u8 (p.2 1), .int .u8 (p.2 2), .int .u8 (p.2 3)], .pointer (some ⟨g, 0, none⟩)] w fun e w' => e = .returned (.bool (decide (p.1 > t))) ∧ Below w.heap.size w w' := by
  obtain ⟨x, c⟩ := p
  simp only at *
  have c0 : ∀ o, (w.alloc o).cell? ⟨g, 0, none⟩ = some (.int .i64 t) := fun o => (K.alloc o).cell 0
  clear K
  cases hx : decide (x > t)
  all_goals
    go_enter Try.func42, Try.ntmps42
    go_wp2_with fail
    go_ret
    exact ⟨rfl, (Below.refl _ _).alloc (Nat.le_refl _) _⟩
set_option maxHeartbeats 2000000 in
set_option maxRecDepth 100000 in
theorem isNoStop_c (p : Stp) (w : World) : Calls Try.prog 44 #[.agg #[.int .i64 p.1, .int .u8 (p.2 0), .int .u8 (p.2 1), .int .u8 (p.2 2), .int .u8 (p.2 3)]] w fun e w' => e = .returned (.bool (noS p)) ∧ Below w.heap.size w w' := by
  obtain ⟨x, c⟩ := p
  have HR := Lib.hid (pRight_c c)
  have HV : Hid (noS (x, c) = (decide (x < 0) || decide (x > 65536) || !rightC c)) := rfl
  rw [HV.out]
  clear HV
  simp only
  by_cases h1 : x < 0
  · have d1 : decide (x < 0) = true := by simpa using h1
    rw [d1]
    clear h1 HR
    go_enter Try.func44, Try.ntmps44
    go_wp2_with fail
    go_ret
    exact ⟨by simp, (Below.refl _ _).alloc (Nat.le_refl _) _⟩
  · have d1 : decide (x < 0) = false := by simpa using h1
    rw [d1]
    by_cases h2 : x > 65536
    · have d2 : decide (x > 65536) = true := by simpa using h2
      rw [d2]
      clear h1 h2 HR
      go_enter Try.func44, Try.ntmps44
      go_wp2_with fail
      go_ret
      exact ⟨by simp, (Below.refl _ _).alloc (Nat.le_refl _) _⟩
    · have d2 : decide (x > 65536) = false := by simpa using h2
      rw [d2]
      generalize rightC c = r at *
      clear h1 h2
      go_enter Try.func44, Try.ntmps44
      go_wp2_with fail
      refine (HR.out _).mono ?_
      rintro e w' ⟨rfl, hb⟩
      have B1 : Hid (Below w.heap.size w w') := ((Below.refl _ _).alloc (Nat.le_refl _) _).trans (hb.mono (by simp))
      clear hb
      go_wp2_with fail
      go_ret
      exact ⟨by simp, B1.out⟩
set_option maxHeartbeats 2000000 in
set_option maxRecDepth 100000 in
theorem index_no (p : Nat → Bool) (s : Value) (w : World) (l : List Stp) (row : RowS w s l) (hl : l.length ≤ 100) (hf : ∀ k q W, l[k]? = some q → Below w.heap.size w W → Calls Try.prog 44 #[.agg #[.int .i64 q.1, .int .u8 (q.2 0), .int .u8 (q.2 1), .int .u8 (q.2 2), .int .u8 (q.2 3)]] W fun e w' => e = .returned (.bool (p k)) ∧ Below W.heap.size W w') :
    Calls Try.prog 41 #[s, .func (.func 44) #[] #[]] w fun e w' => ∃ z : Int, e = .returned (.int .i64 z) ∧ ((z = -1 ∧ ∀ k, k < l.length → p k = false) ∨ ∃ k : Nat, k < l.length ∧ z = (k : Int) ∧ p k = true ∧ ∀ j, j < k → p j = false) ∧ Below w.heap.size w w' := by
  obtain ⟨ao, c, rfl⟩ := row.shape
  obtain ⟨n, hn⟩ : ∃ n, l.length = n := ⟨_, rfl⟩
  rw [hn] at row hl ⊢
  have HN := Lib.hid hn
  have HROW := Lib.hid row
  have HL := Lib.hid hl
  have HF := Lib.hid hf
  clear hn row hl hf
  go_enter Try.func41, Try.ntmps41
  go_wp2_with fail
  go_loopw [8] (fun i wr => ∃ k : Nat, k ≤ n ∧ i = .int .i64 k ∧ Hid (anyN p k = false ∧ Below w.heap.size w wr)) (fun i _ => n - (intOf i).toNat)
  case atStart => exact ⟨0, by omega, rfl, rfl, Below.refl _ _⟩
  case round =>
    obtain ⟨k, hk, rfl, hw⟩ := hrel
    by_cases hlt : k < n
    · have hd : decide ((k : Int) < (n : Int)) = true := by simp; omega
      obtain ⟨q, hq⟩ : ∃ q, l[k]? = some q := ⟨_, List.getElem?_eq_getElem (by rw [HN.out]; exact hlt)⟩
      have HQ := Lib.hid hq
      obtain ⟨b, o, c', hs, hbs, hcs⟩ := RowS.addr (HROW.out.on hw.out.2) (by rw [HN.out]; omega)
      have hc4 := hcs k q hq
      obtain ⟨c0, c1, c2, c3, c4⟩ := hc4
      obtain rfl : ao = some ⟨b, o, none⟩ := by cases hs; rfl
      have hl := HL.out
      clear hq hbs hcs hs
      go_wp2_with fail
      refine (HF.out k q _ HQ.out hw.out.2).mono ?_
      rintro e w' ⟨rfl, hb⟩
      have B1 : Hid (Below w.heap.size w w') := hw.out.2.trans (hb.mono hw.out.2.size)
      obtain ⟨r, hr⟩ : ∃ r, p k = r := ⟨_, rfl⟩
      have HR := Lib.hid hr
      rw [hr]
      clear hb hr c0 c1 c2 c3 c4
      cases r
      · go_wp2_with fail
        exact ⟨⟨k + 1, by omega, by go_num, by rw [anyN_succ, hw.out.1, HR.out]; rfl, B1.out⟩, by simp [intOf]; omega⟩
      · go_wp2_with fail
        go_ret
        exact ⟨_, rfl, .inr ⟨k, hlt, rfl, HR.out, anyN_none.1 hw.out.1⟩, B1.out⟩
    · have hd : decide ((k : Int) < (n : Int)) = false := by simp; omega
      have hkn : Hid (k = n) := by unfold Hid; omega
      go_wp2_with fail
      go_ret
      exact ⟨_, rfl, .inl ⟨rfl, fun j hj => anyN_none.1 hw.out.1 j (by have := hkn.out; omega)⟩, hw.out.2⟩
set_option maxHeartbeats 2000000 in
set_option maxRecDepth 100000 in
theorem index_past (p : Nat → Bool) (s : Value) (pt : Value) (w : World) (l : List Stp) (row : RowS w s l) (hl : l.length ≤ 100) (hf : ∀ k q W, l[k]? = some q → Below w.heap.size w W → Calls Try.prog 42 #[.agg #[.int .i64 q.1, .int .u8 (q.2 0), .int .u8 (q.2 1), .int .u8 (q.2 2), .int .u8 (q.2 3)], pt] W fun e w' => e = .returned (.bool (p k)) ∧ Below W.heap.size W w') :
    Calls Try.prog 41 #[s, .func (.func 42) #[] #[pt]] w fun e w' => ∃ z : Int, e = .returned (.int .i64 z) ∧ ((z = -1 ∧ ∀ k, k < l.length → p k = false) ∨ ∃ k : Nat, k < l.length ∧ z = (k : Int) ∧ p k = true ∧ ∀ j, j < k → p j = false) ∧ Below w.heap.size w w' := by
  obtain ⟨ao, c, rfl⟩ := row.shape
  obtain ⟨n, hn⟩ : ∃ n, l.length = n := ⟨_, rfl⟩
  rw [hn] at row hl ⊢
  have HN := Lib.hid hn
  have HROW := Lib.hid row
  have HL := Lib.hid hl
  have HF := Lib.hid hf
  clear hn row hl hf
  go_enter Try.func41, Try.ntmps41
  go_wp2_with fail
  go_loopw [8] (fun i wr => ∃ k : Nat, k ≤ n ∧ i = .int .i64 k ∧ Hid (anyN p k = false ∧ Below w.heap.size w wr)) (fun i _ => n - (intOf i).toNat)
  case atStart => exact ⟨0, by omega, rfl, rfl, Below.refl _ _⟩
  case round =>
    obtain ⟨k, hk, rfl, hw⟩ := hrel
    by_cases hlt : k < n
    · have hd : decide ((k : Int) < (n : Int)) = true := by simp; omega
      obtain ⟨q, hq⟩ : ∃ q, l[k]? = some q := ⟨_, List.getElem?_eq_getElem (by rw [HN.out]; exact hlt)⟩
      have HQ := Lib.hid hq
      obtain ⟨b, o, c', hs, hbs, hcs⟩ := RowS.addr (HROW.out.on hw.out.2) (by rw [HN.out]; omega)
      have hc4 := hcs k q hq
      obtain ⟨c0, c1, c2, c3, c4⟩ := hc4
      obtain rfl : ao = some ⟨b, o, none⟩ := by cases hs; rfl
      have hl := HL.out
      clear hq hbs hcs hs
      go_wp2_with fail
      refine (HF.out k q _ HQ.out hw.out.2).mono ?_
      rintro e w' ⟨rfl, hb⟩
      have B1 : Hid (Below w.heap.size w w') := hw.out.2.trans (hb.mono hw.out.2.size)
      obtain ⟨r, hr⟩ : ∃ r, p k = r := ⟨_, rfl⟩
      have HR := Lib.hid hr
      rw [hr]
      clear hb hr c0 c1 c2 c3 c4
      cases r
      · go_wp2_with fail
        exact ⟨⟨k + 1, by omega, by go_num, by rw [anyN_succ, hw.out.1, HR.out]; rfl, B1.out⟩, by simp [intOf]; omega⟩
      · go_wp2_with fail
        go_ret
        exact ⟨_, rfl, .inr ⟨k, hlt, rfl, HR.out, anyN_none.1 hw.out.1⟩, B1.out⟩
    · have hd : decide ((k : Int) < (n : Int)) = false := by simp; omega
      have hkn : Hid (k = n) := by unfold Hid; omega
      go_wp2_with fail
      go_ret
      exact ⟨_, rfl, .inl ⟨rfl, fun j hj => anyN_none.1 hw.out.1 j (by have := hkn.out; omega)⟩, hw.out.2⟩
set_option maxHeartbeats 2000000 in
set_option maxRecDepth 100000 in
theorem containsNo_c (s : Value) (w : World) (l : List Stp) (row : RowS w s l) (hl : l.length ≤ 100) : Calls Try.prog 43 #[s, .func (.func 44) #[] #[]] w fun e w' => e = .returned (.bool (anyN (fun k => noS (sAt l k)) l.length)) ∧ Below w.heap.size w w' := by
  have HF := Lib.hid (index_no (fun k => noS (sAt l k)) s w l row hl (fun k q W hq _ => by
    have e : sAt l k = q := by unfold sAt; rw [List.getD_eq_getElem?_getD, hq]; rfl
    rw [e]
    exact isNoStop_c q W))
  obtain ⟨ao, c, rfl⟩ := row.shape
  obtain ⟨r, hr⟩ : ∃ r, anyN (fun k => noS (sAt l k)) l.length = r := ⟨_, rfl⟩
  rw [hr]
  have HR := Lib.hid hr
  clear row hl hr
  go_enter Try.func43, Try.ntmps43
  go_wp2_with fail
  refine (HF.out).mono ?_
  rintro e w' ⟨z, rfl, hz, hb⟩
  have HB := Lib.hid hb
  have hz2 : decide (z ≥ 0) = r := by
    rw [← HR.out, Bool.eq_iff_iff, anyN_iff, decide_eq_true_eq]
    rcases hz with ⟨h1, h2⟩ | ⟨k, h1, h2, h3, _⟩
    · constructor
      · intro h; omega
      · rintro ⟨k, hk, hp⟩; rw [h2 k hk] at hp; cases hp
    · exact ⟨fun _ => ⟨k, h1, h3⟩, fun _ => by omega⟩
  have HZ := Lib.hid hz2
  clear hb hz hz2
  go_wp2_with fail
  go_ret
  exact ⟨retB HZ.out, HB.out⟩
/-- Does the stop behind the k-th lie no lower? -/
def risesB (l : List Stp) (k : Nat) : Bool := decide ((sAt l k).1 ≤ (sAt l (k + 1)).1)
def risesTo (l : List Stp) (k n : Nat) : Prop := ∀ j, k ≤ j → j + 1 < n → risesB l j = true
set_option maxHeartbeats 2000000 in
set_option maxRecDepth 100000 in
theorem isSorted_c (s : Value) (w : World) (l : List Stp) (row : RowS w s l) (hl : l.length ≤ 100) (h0 : 0 < l.length) : Calls Try.prog 45 #[s, .func (.func 46) #[] #[]] w fun e w' => ∃ r : Bool, e = .returned (.bool r) ∧ (r = true ↔ ∀ k, k + 1 < l.length → risesB l k = true) ∧ Below w.heap.size w w' := by
  obtain ⟨b, o, c, rfl, hbs, hcs⟩ := row.addr h0
  obtain ⟨m, hm⟩ : ∃ m, l.length = m + 1 := ⟨l.length - 1, by omega⟩
  rw [hm] at row hl ⊢
  have HM := Lib.hid hm
  have HL := Lib.hid hl
  have HROW := Lib.hid row
  have HK : Hid (b < w.heap.size ∧ ∀ k, k < m + 1 → StopAt w b (o + k * 5) (sAt l k)) := ⟨hbs, fun k hk => hcs k _ (sAt_some (by rw [hm]; exact hk))⟩
  have e0 : wrap64 (((m + 1 : Nat) : Int) - 1) = (m : Int) := by rw [wrapR _ (by omega) (by omega)]; omega
  clear row hbs hcs h0 hl
  obtain ⟨n, hn⟩ : ∃ n, m + 1 = n := ⟨_, rfl⟩
  rw [hn] at e0 ⊢
  have HN := Lib.hid hn
  clear hn hm
  go_enter Try.func45, Try.ntmps45
  go_wp2_with fail
  go_loopw [5] (fun i wr => ∃ k : Nat, k ≤ m ∧ i = .int .i64 k ∧ Hid (risesTo l k n ∧ Below w.heap.size w wr)) (fun i _ => (intOf i).toNat)
  case atStart => exact ⟨m, by omega, by rw [e0], fun j h1 h2 => absurd h2 (by have := HN.out; omega), Below.refl _ _⟩
  case round =>
    obtain ⟨k, hk, rfl, hw⟩ := hrel
    rcases Nat.eq_zero_or_pos k with h | h
    · subst h
      have hd : decide (((0 : Nat) : Int) > 0) = false := by decide
      go_wp2_with fail
      go_ret
      exact ⟨_, rfl, ⟨fun _ j hj => hw.out.1 j (by omega) hj, fun _ => rfl⟩, hw.out.2⟩
    · obtain ⟨j, rfl⟩ : ∃ j, k = j + 1 := ⟨k - 1, by omega⟩
      have hd : decide (((j + 1 : Nat) : Int) > 0) = true := by simp
      have hn' := HN.out
      have hl' := HL.out
      have e1 : wrap64 (((j + 1 : Nat) : Int) - 1) = (j : Int) := by rw [wrapR _ (by omega) (by omega)]; omega
      have k1 : ((j + 1 : Nat) : Int) < (n : Int) := by omega
      have k2 : (j : Int) < (n : Int) := by omega
      have k3 : (0 : Int) ≤ ((j + 1 : Nat) : Int) := by omega
      have k4 : (0 : Int) ≤ (j : Int) := by omega
      obtain ⟨i, hi⟩ : ∃ i, j + 1 = i := ⟨_, rfl⟩
      have HI := Lib.hid hi
      rw [hi] at hd e1 k1 k3 ⊢
      have hd2 : decide (0 < i) = true := by simp; omega
      have e1' : IntKind.i64.wrap ((i : Int) - 1) = (j : Int) := by rw [wrap_is]; exact e1
      have hA := (HK.out.2 i (by omega)).on (hw.out.2.mono (Nat.le_refl _)) HK.out.1
      have hB := (HK.out.2 j (by omega)).on (hw.out.2.mono (Nat.le_refl _)) HK.out.1
      have HCM := Lib.hid (byPlace_c (sAt l i) (sAt l j))
      have HRS : Hid (risesB l j = decide ((sAt l j).1 ≤ (sAt l i).1)) := by rw [← hi]; rfl
      clear hi hn' hl'
      obtain ⟨p, hp⟩ : ∃ p, sAt l i = p := ⟨_, rfl⟩
      obtain ⟨q, hq⟩ : ∃ q, sAt l j = q := ⟨_, rfl⟩
      rw [hp] at hA HCM HRS
      rw [hq] at hB HCM HRS
      clear hp hq
      have HB : Hid (∀ W, Below wr.heap.size wr W → StopAt W b (o + i * 5) p ∧ StopAt W b (o + j * 5) q) := fun W hW => ⟨hA.on hW (Nat.lt_of_lt_of_le HK.out.1 hw.out.2.size), hB.on hW (Nat.lt_of_lt_of_le HK.out.1 hw.out.2.size)⟩
      obtain ⟨v, hv⟩ : ∃ v, cmpI p.1 q.1 = v := ⟨_, rfl⟩
      rw [hv] at HCM
      obtain ⟨r, hr⟩ : ∃ r, decide (v < 0) = r := ⟨_, rfl⟩
      have HR : Hid (risesB l j = !r) := Lib.hid (by rw [HRS.out, ← hr, ← hv, cmp_neg, Bool.eq_iff_iff]; simp)
      clear hv HRS hA hB
      go_wp2_with fail
      refine wp_region_quiet (C := Out wr) (by kernel_rfl) (by kernel_rfl) ⟨rfl, rfl, rfl, Nat.le_refl _, fun _ _ => rfl⟩ ?_
      refine BigFrame.wpQuiet_want rfl (fun K hK => ?_)
      refine quiet_val (.func (.func 46) #[] #[]) (fun w' hw' => by go_simp) (hK _ ?_)
      clear hK K
      simp only [Act.put, List.setIfInBounds_toArray, List.set_cons_zero, List.set_cons_succ]
      refine BigFrame.wpQuiet_want rfl (fun K hK => ?_)
      refine quiet_val (.slice (some ⟨b, o, none⟩) n c) (fun w' hw' => by go_simp) (hK _ ?_)
      clear hK K
      simp only [Act.put, List.setIfInBounds_toArray, List.set_cons_zero, List.set_cons_succ]
      refine BigFrame.wpQuiet_want rfl (fun K hK => ?_)
      refine quiet_val (.int .i64 (i : Int)) (fun w' hw' => by go_simp) (hK _ ?_)
      clear hK K
      simp only [Act.put, List.setIfInBounds_toArray, List.set_cons_zero, List.set_cons_succ]
      refine BigFrame.wpQuiet_want rfl (fun K hK => ?_)
      refine quiet_val (.pointer (some ⟨b, o + i * 5, none⟩)) (fun w' hw' => by go_simp) (hK _ ?_)
      clear hK K
      simp only [Act.put, List.setIfInBounds_toArray, List.set_cons_zero, List.set_cons_succ]
      refine BigFrame.wpQuiet_want rfl (fun K hK => ?_)
      refine quiet_val (.agg #[.int .i64 p.1, .int .u8 (p.2 0), .int .u8 (p.2 1), .int .u8 (p.2 2), .int .u8 (p.2 3)]) (fun w' hw' => by obtain ⟨c0, c1, c2, c3, c4⟩ := (HB.out w' hw').1; go_simp) (hK _ ?_)
      clear hK K
      simp only [Act.put, List.setIfInBounds_toArray, List.set_cons_zero, List.set_cons_succ]
      refine BigFrame.wpQuiet_want rfl (fun K hK => ?_)
      refine quiet_val (.slice (some ⟨b, o, none⟩) n c) (fun w' hw' => by go_simp) (hK _ ?_)
      clear hK K
      simp only [Act.put, List.setIfInBounds_toArray, List.set_cons_zero, List.set_cons_succ]
      refine BigFrame.wpQuiet_want rfl (fun K hK => ?_)
      refine quiet_val (.int .i64 (i : Int)) (fun w' hw' => by go_simp) (hK _ ?_)
      clear hK K
      simp only [Act.put, List.setIfInBounds_toArray, List.set_cons_zero, List.set_cons_succ]
      refine BigFrame.wpQuiet_want rfl (fun K hK => ?_)
      refine quiet_val (.int .i64 (j : Int)) (fun w' hw' => by go_simp) (hK _ ?_)
      clear hK K
      simp only [Act.put, List.setIfInBounds_toArray, List.set_cons_zero, List.set_cons_succ]
      refine BigFrame.wpQuiet_want rfl (fun K hK => ?_)
      refine quiet_val (.pointer (some ⟨b, o + j * 5, none⟩)) (fun w' hw' => by go_simp) (hK _ ?_)
      clear hK K
      simp only [Act.put, List.setIfInBounds_toArray, List.set_cons_zero, List.set_cons_succ]
      refine BigFrame.wpQuiet_want rfl (fun K hK => ?_)
      refine quiet_val (.agg #[.int .i64 q.1, .int .u8 (q.2 0), .int .u8 (q.2 1), .int .u8 (q.2 2), .int .u8 (q.2 3)]) (fun w' hw' => by obtain ⟨c0, c1, c2, c3, c4⟩ := (HB.out w' hw').2; go_simp) (hK _ ?_)
      clear hK K
      simp only [Act.put, List.setIfInBounds_toArray, List.set_cons_zero, List.set_cons_succ]
      refine BigFrame.wpQuiet_want rfl (fun K hK => ?_)
      refine quiet_call 46 #[.agg #[.int .i64 p.1, .int .u8 (p.2 0), .int .u8 (p.2 1), .int .u8 (p.2 2), .int .u8 (p.2 3)], .agg #[.int .i64 q.1, .int .u8 (q.2 0), .int .u8 (q.2 1), .int .u8 (q.2 2), .int .u8 (q.2 3)]] (.int .i64 v) (fun w' _ => by go_simp) (fun w' hw' => Calls.out hw' (HCM.out w')) (hK _ ?_)
      clear hK K
      simp only [Act.put, List.setIfInBounds_toArray, List.set_cons_zero, List.set_cons_succ]
      refine BigFrame.wpQuiet_want rfl (fun K hK => ?_)
      refine quiet_val (.bool r) (fun w' hw' => by go_simp) (hK _ ?_)
      clear hK K
      simp only [Act.put, List.setIfInBounds_toArray, List.set_cons_zero, List.set_cons_succ]
      refine wpQuiet_nil ?_
      intro w2 hb
      have B2 : Hid (Below w.heap.size w w2) := hw.out.2.trans (hb.mono hw.out.2.size)
      clear hb
      cases r
      · go_wp2_with fail
        have hji := HI.out
        exact ⟨⟨j, by omega, rfl, fun x h1 h2 => by
          rcases Nat.lt_or_ge j x with h3 | h3
          · exact hw.out.1 x (by omega) h2
          · rw [show x = j by omega, HR.out]; rfl, B2.out⟩, by simp [intOf]; omega⟩
      · go_wp2_with fail
        go_ret
        refine ⟨_, rfl, ⟨fun h => (by cases h), fun h => ?_⟩, B2.out⟩
        have h5 := h j (by have := HI.out; have := HN.out; omega)
        rw [HR.out] at h5
        cases h5
end Go.Proofs.Ytcbldamlfjkppaa
