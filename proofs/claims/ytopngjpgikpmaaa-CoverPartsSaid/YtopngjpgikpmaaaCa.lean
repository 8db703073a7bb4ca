/- Layer 8: rows of single cells; rules; what ContainsFunc finds; whether all points are in room; windows. -/
import Derived.Test.YtopngjpgikpmaaaMa
import Derived.Test.YtopngjpgikpmaaaTa
import Derived.Deep.QuietTactic
namespace Go.Proofs.Ytopngjpgikpmaaa
open Go.RowKit
/-- A slice whose elements are single cells: its value, the elements. -/
def VRow (w : World) (s : Value) (xs : List Value) : Prop :=
  (s = .slice none 0 0 ∧ xs = []) ∨ (∃ a c, s = .slice (some a) 0 c ∧ xs = []) ∨ ∃ b o c, s = .slice (some ⟨b, o, none⟩) xs.length c ∧ b < w.heap.size ∧ ∀ i x, xs[i]? = some x → w.cell? ⟨b, o + i, none⟩ = some x
theorem VRow.on {w w' : World} {s : Value} {xs : List Value} (h : VRow w s xs) (hb : Below w.heap.size w w') : VRow w' s xs := by
  rcases h with h | h | ⟨b, o, c, h1, h2, h3⟩
  · exact .inl h
  · exact .inr (.inl h)
  · exact .inr (.inr ⟨b, o, c, h1, Nat.lt_of_lt_of_le h2 hb.size, fun i x hx => by rw [cell_below hb h2]; exact h3 i x hx⟩)
theorem VRow.shape {w : World} {v : Value} {xs : List Value} (h : VRow w v xs) : ∃ ao c, v = .slice ao xs.length c := by
  rcases h with ⟨rfl, rfl⟩ | ⟨a, c, rfl, rfl⟩ | ⟨b, o, c, rfl, _, _⟩ <;> exact ⟨_, _, rfl⟩
theorem VRow.addr {w : World} {ao : Option Addr} {n c : Nat} {xs : List Value} (h : VRow w (.slice ao n c) xs) {k : Nat} {x : Value} (hk : xs[k]? = some x) : ∃ b o, ao = some ⟨b, o, none⟩ ∧ b < w.heap.size ∧ w.cell? ⟨b, o + k, none⟩ = some x := by
  rcases h with ⟨_, rfl⟩ | ⟨_, _, _, rfl⟩ | ⟨b, o, c', e, h1, h2⟩
  · cases hk
  · cases hk
  · cases e; exact ⟨b, o, rfl, h1, h2 k x hk⟩
/-- Polygons: the slice's value; each polygon's value and its points. -/
def PolyR (w : World) (s : Value) (S : List (Value × List Pt)) : Prop := VRow w s (S.map Prod.fst) ∧ ∀ x ∈ S, Row w x.1 x.2
theorem PolyR.on {w w' : World} {s : Value} {S : List (Value × List Pt)} (h : PolyR w s S) (hb : Below w.heap.size w w') : PolyR w' s S := ⟨h.1.on hb, fun x hx => (h.2 x hx).on hb⟩
theorem PolyR.shape {w : World} {v : Value} {S : List (Value × List Pt)} (h : PolyR w v S) : ∃ ao c, v = .slice ao S.length c := by
  obtain ⟨ao, c, e⟩ := h.1.shape
  rw [List.length_map] at e
  exact ⟨ao, c, e⟩
theorem PolyR.at {w : World} {ao : Option Addr} {n c : Nat} {S : List (Value × List Pt)} (h : PolyR w (.slice ao n c) S) {k : Nat} {x : Value × List Pt} (hk : S[k]? = some x) : ∃ b o, ao = some ⟨b, o, none⟩ ∧ b < w.heap.size ∧ w.cell? ⟨b, o + k, none⟩ = some x.1 :=
  h.1.addr (by rw [List.getElem?_map, hk]; rfl)
set_option maxHeartbeats 400000 in
theorem isRule_c (r : Int) (w : World) : Calls Try.prog 25 #[.int .i64 r] w fun e w' => e = .returned (.bool (ruleB r)) ∧ w = w' := by
  go_enter Try.func25, Try.ntmps25
  go_wp2
  all_goals go_ret
  all_goals exact ⟨retB (by unfold ruleB; rw [Bool.eq_iff_iff]; (try simp_all)), rfl⟩
set_option maxHeartbeats 400000 in
theorem isInside_c (n r : Int) (w : World) : Calls Try.prog 35 #[.int .i64 n, .int .i64 r] w fun e w' => e = .returned (.bool (inI r n)) ∧ w = w' := by
  have HA := Lib.hid and_1
  go_enter Try.func35, Try.ntmps35
  go_wp2
  all_goals go_ret
  all_goals exact ⟨retB (by (try rw [HA.out]); unfold inI; rw [Bool.eq_iff_iff]; (try simp_all)), rfl⟩
def farB (x : Int) : Bool := decide (x < -4194304) || decide (4194304 < x)
set_option maxHeartbeats 400000 in
theorem far_c (x : Int) (w : World) : Calls Try.prog 42 #[.int .i64 x] w fun e w' => e = .returned (.bool (farB x)) ∧ Below w.heap.size w w' := by
  go_enter Try.func42, Try.ntmps42
  go_wp2
  all_goals go_ret
  all_goals exact ⟨retB (by unfold farB; rw [Bool.eq_iff_iff]; (try simp_all)), Below.refl _ _⟩
set_option maxHeartbeats 400000 in
theorem out_c (x : Int) (w : World) : Calls Try.prog 39 #[.int .i64 x] w fun e w' => e = .returned (.bool (!room x)) ∧ Below w.heap.size w w' := by
  have HX := Lib.hid (fun w => fixedIn_c x w)
  generalize room x = r at *
  go_enter Try.func39, Try.ntmps39
  go_wp2_with fail
  refine (HX.out _).mono ?_
  rintro e w' ⟨rfl, rfl⟩
  go_wp2_with fail
  go_ret
  exact ⟨rfl, Below.refl _ _⟩
set_option maxHeartbeats 400000 in
theorem ptOut_c (x y : Int) (w : World) : Calls Try.prog 46 #[.agg #[.int .i64 x, .int .i64 y]] w fun e w' => e = .returned (.bool (!roomP (x, y))) ∧ Below w.heap.size w w' := by
  have HX := Lib.hid (fun w => ptIn_c x y w)
  rw [show (room x && room y) = roomP (x, y) from rfl] at HX
  generalize roomP (x, y) = r at *
  go_enter Try.func46, Try.ntmps46
  go_wp2_with fail
  refine (HX.out _).mono ?_
  rintro e w' ⟨rfl, hb⟩
  have B1 := Lib.hid (((Below.refl w.heap.size w).alloc (Nat.le_refl _) _).trans (hb.mono (by simp)))
  clear hb
  go_wp2_with fail
  go_ret
  exact ⟨rfl, B1.out⟩
/-- Whether one of the first n is so. -/
def anyN (p : Nat → Bool) (n : Nat) : Bool := (List.range n).any p
theorem anyN_succ (p : Nat → Bool) (n : Nat) : anyN p (n + 1) = (anyN p n || p n) := by unfold anyN; rw [List.range_succ, List.any_append]; simp
theorem anyN_at {p : Nat → Bool} {n k : Nat} (hk : k < n) (h : p k = true) : anyN p n = true := by unfold anyN; rw [List.any_eq_true]; exact ⟨k, List.mem_range.2 hk, h⟩
theorem ge_neg : decide ((-1 : Int) ≥ 0) = false := by decide
theorem ge_nat (k : Nat) : decide ((k : Int) ≥ 0) = true := by simp

set_option maxHeartbeats 1000000 in
set_option maxRecDepth 100000 in
theorem index_far (p : Nat → Bool) (s : Value) (w : World) (xs : List Value) (row : VRow w s xs) (hl : xs.length ≤ 100000) (hf : ∀ k x W, xs[k]? = some x → Below w.heap.size w W → Calls Try.prog 42 #[x] W fun e w' => e = .returned (.bool (p k)) ∧ Below W.heap.size W w') :
    Calls Try.prog 62 #[s, .func (.func 42) #[] #[]] w fun e w' => ∃ z : Int, e = .returned (.int .i64 z) ∧ decide (z ≥ 0) = anyN p xs.length ∧ Below w.heap.size w w' := by
  obtain ⟨ao, c, rfl⟩ := row.shape
  obtain ⟨n, hn⟩ : ∃ n, xs.length = n := ⟨_, rfl⟩
  rw [hn] at row hl ⊢
  have HN := Lib.hid hn
  have HROW := Lib.hid row
  have HL := Lib.hid hl
  have HF := Lib.hid hf
  clear hn row hl hf
  go_enter Try.func62, Try.ntmps62
  go_wp2_with fail
  go_loopw [8] (fun i wr => ∃ k : Nat, k ≤ n ∧ i = .int .i64 k ∧ Hid (anyN p k = false ∧ Below w.heap.size w wr)) (fun i _ => n - (intOf i).toNat)
  case atStart => exact ⟨0, by omega, rfl, rfl, Below.refl _ _⟩
  case round =>
    obtain ⟨k, hk, rfl, hw⟩ := hrel
    by_cases hlt : k < n
    · have hd : decide ((k : Int) < (n : Int)) = true := by simp; omega
      obtain ⟨x, hq⟩ : ∃ x, xs[k]? = some x := ⟨_, List.getElem?_eq_getElem (by rw [HN.out]; exact hlt)⟩
      obtain ⟨b, o, rfl, hbs, c0⟩ := (HROW.out.on hw.out.2).addr hq
      have HQ := Lib.hid hq
      clear hq hbs
      have hl := HL.out
      go_wp2_with fail
      refine (HF.out k x _ HQ.out hw.out.2).mono ?_
      rintro e w' ⟨rfl, hb⟩
      have B1 : Hid (Below w.heap.size w w') := hw.out.2.trans (hb.mono hw.out.2.size)
      obtain ⟨r, hr⟩ : ∃ r, p k = r := ⟨_, rfl⟩
      have HR := Lib.hid hr
      rw [hr]
      clear hb hr
      cases r
      · go_wp2_with fail
        exact ⟨⟨k + 1, by omega, by go_num, by rw [anyN_succ, hw.out.1, HR.out]; rfl, B1.out⟩, by simp [intOf]; omega⟩
      · go_wp2_with fail
        go_ret
        exact ⟨_, rfl, by rw [ge_nat, anyN_at hlt HR.out], B1.out⟩
    · have hd : decide ((k : Int) < (n : Int)) = false := by simp; omega
      have hkn : Hid (k = n) := by unfold Hid; omega
      go_wp2_with fail
      go_ret
      exact ⟨_, rfl, by rw [ge_neg, ← hkn.out, hw.out.1], hw.out.2⟩
theorem contains_far (p : Nat → Bool) (s : Value) (w : World) (xs : List Value) (row : VRow w s xs) (hl : xs.length ≤ 100000) (hf : ∀ k x W, xs[k]? = some x → Below w.heap.size w W → Calls Try.prog 42 #[x] W fun e w' => e = .returned (.bool (p k)) ∧ Below W.heap.size W w') :
    Calls Try.prog 54 #[s, .func (.func 42) #[] #[]] w fun e w' => e = .returned (.bool (anyN p xs.length)) ∧ Below w.heap.size w w' := by
  have HF := Lib.hid (index_far p s w xs row hl hf)
  obtain ⟨ao, c, rfl⟩ := row.shape
  clear hf row hl
  generalize anyN p xs.length = r at *
  go_enter Try.func54, Try.ntmps54
  go_wp2_with fail
  refine (HF.out).mono ?_
  rintro e w' ⟨z, rfl, hz, hb⟩
  have HB := Lib.hid hb
  have HZ := Lib.hid hz
  clear hb hz
  go_wp2_with fail
  go_ret
  exact ⟨retB (by rw [← HZ.out]), HB.out⟩

set_option maxHeartbeats 1000000 in
set_option maxRecDepth 100000 in
theorem index_out (p : Nat → Bool) (s : Value) (w : World) (xs : List Value) (row : VRow w s xs) (hl : xs.length ≤ 100000) (hf : ∀ k x W, xs[k]? = some x → Below w.heap.size w W → Calls Try.prog 39 #[x] W fun e w' => e = .returned (.bool (p k)) ∧ Below W.heap.size W w') :
    Calls Try.prog 62 #[s, .func (.func 39) #[] #[]] w fun e w' => ∃ z : Int, e = .returned (.int .i64 z) ∧ decide (z ≥ 0) = anyN p xs.length ∧ Below w.heap.size w w' := by
  obtain ⟨ao, c, rfl⟩ := row.shape
  obtain ⟨n, hn⟩ : ∃ n, xs.length = n := ⟨_, rfl⟩
  rw [hn] at row hl ⊢
  have HN := Lib.hid hn
  have HROW := Lib.hid row
  have HL := Lib.hid hl
  have HF := Lib.hid hf
  clear hn row hl hf
  go_enter Try.func62, Try.ntmps62
  go_wp2_with fail
  go_loopw [8] (fun i wr => ∃ k : Nat, k ≤ n ∧ i = .int .i64 k ∧ Hid (anyN p k = false ∧ Below w.heap.size w wr)) (fun i _ => n - (intOf i).toNat)
  case atStart => exact ⟨0, by omega, rfl, rfl, Below.refl _ _⟩
  case round =>
    obtain ⟨k, hk, rfl, hw⟩ := hrel
    by_cases hlt : k < n
    · have hd : decide ((k : Int) < (n : Int)) = true := by simp; omega
      obtain ⟨x, hq⟩ : ∃ x, xs[k]? = some x := ⟨_, List.getElem?_eq_getElem (by rw [HN.out]; exact hlt)⟩
      obtain ⟨b, o, rfl, hbs, c0⟩ := (HROW.out.on hw.out.2).addr hq
      have HQ := Lib.hid hq
      clear hq hbs
      have hl := HL.out
      go_wp2_with fail
      refine (HF.out k x _ HQ.out hw.out.2).mono ?_
      rintro e w' ⟨rfl, hb⟩
      have B1 : Hid (Below w.heap.size w w') := hw.out.2.trans (hb.mono hw.out.2.size)
      obtain ⟨r, hr⟩ : ∃ r, p k = r := ⟨_, rfl⟩
      have HR := Lib.hid hr
      rw [hr]
      clear hb hr
      cases r
      · go_wp2_with fail
        exact ⟨⟨k + 1, by omega, by go_num, by rw [anyN_succ, hw.out.1, HR.out]; rfl, B1.out⟩, by simp [intOf]; omega⟩
      · go_wp2_with fail
        go_ret
        exact ⟨_, rfl, by rw [ge_nat, anyN_at hlt HR.out], B1.out⟩
    · have hd : decide ((k : Int) < (n : Int)) = false := by simp; omega
      have hkn : Hid (k = n) := by unfold Hid; omega
      go_wp2_with fail
      go_ret
      exact ⟨_, rfl, by rw [ge_neg, ← hkn.out, hw.out.1], hw.out.2⟩
theorem contains_out (p : Nat → Bool) (s : Value) (w : World) (xs : List Value) (row : VRow w s xs) (hl : xs.length ≤ 100000) (hf : ∀ k x W, xs[k]? = some x → Below w.heap.size w W → Calls Try.prog 39 #[x] W fun e w' => e = .returned (.bool (p k)) ∧ Below W.heap.size W w') :
    Calls Try.prog 54 #[s, .func (.func 39) #[] #[]] w fun e w' => e = .returned (.bool (anyN p xs.length)) ∧ Below w.heap.size w w' := by
  have HF := Lib.hid (index_out p s w xs row hl hf)
  obtain ⟨ao, c, rfl⟩ := row.shape
  clear hf row hl
  generalize anyN p xs.length = r at *
  go_enter Try.func54, Try.ntmps54
  go_wp2_with fail
  refine (HF.out).mono ?_
  rintro e w' ⟨z, rfl, hz, hb⟩
  have HB := Lib.hid hb
  have HZ := Lib.hid hz
  clear hb hz
  go_wp2_with fail
  go_ret
  exact ⟨retB (by rw [← HZ.out]), HB.out⟩

set_option maxHeartbeats 1000000 in
set_option maxRecDepth 100000 in
theorem index_pts (p : Nat → Bool) (s : Value) (w : World) (l : List Pt) (row : Row w s l) (hl : l.length ≤ 100000) (hf : ∀ k q W, l[k]? = some q → Calls Try.prog 46 #[.agg #[.int .i64 q.1, .int .i64 q.2]] W fun e w' => e = .returned (.bool (p k)) ∧ Below W.heap.size W w') :
    Calls Try.prog 56 #[s, .func (.func 46) #[] #[]] w fun e w' => ∃ z : Int, e = .returned (.int .i64 z) ∧ decide (z ≥ 0) = anyN p l.length ∧ Below w.heap.size w w' := by
  obtain ⟨ao, c, rfl⟩ := row.shape
  obtain ⟨n, hn⟩ : ∃ n, l.length = n := ⟨_, rfl⟩
  rw [hn] at row hl ⊢
  have HN := Lib.hid hn
  have HROW := Lib.hid row
  have HL := Lib.hid hl
  have HF := Lib.hid hf
  clear hn row hl hf
  go_enter Try.func56, Try.ntmps56
  go_wp2_with fail
  go_loopw [8] (fun i wr => ∃ k : Nat, k ≤ n ∧ i = .int .i64 k ∧ Hid (anyN p k = false ∧ Below w.heap.size w wr)) (fun i _ => n - (intOf i).toNat)
  case atStart => exact ⟨0, by omega, rfl, rfl, Below.refl _ _⟩
  case round =>
    obtain ⟨k, hk, rfl, hw⟩ := hrel
    by_cases hlt : k < n
    · have hd : decide ((k : Int) < (n : Int)) = true := by simp; omega
      obtain ⟨b, o, rfl, hbs, hpa⟩ := Row.addr HROW.out (k := k) (by rw [HN.out]; exact hlt)
      obtain ⟨⟨qx, qy⟩, hq⟩ : ∃ q, l[k]? = some q := ⟨_, List.getElem?_eq_getElem (by rw [HN.out]; exact hlt)⟩
      obtain ⟨c0, c1⟩ := (hpa.on hw.out.2 hbs) k (qx, qy) hq
      have HQ := Lib.hid hq
      clear hpa hq hbs
      simp only at c0 c1
      have hl := HL.out
      go_wp2_with fail
      refine (HF.out k (qx, qy) _ HQ.out).mono ?_
      rintro e w' ⟨rfl, hb⟩
      have B1 : Hid (Below w.heap.size w w') := hw.out.2.trans (hb.mono hw.out.2.size)
      obtain ⟨r, hr⟩ : ∃ r, p k = r := ⟨_, rfl⟩
      have HR := Lib.hid hr
      rw [hr]
      clear hb hr
      cases r
      · go_wp2_with fail
        exact ⟨⟨k + 1, by omega, by go_num, by rw [anyN_succ, hw.out.1, HR.out]; rfl, B1.out⟩, by simp [intOf]; omega⟩
      · go_wp2_with fail
        go_ret
        exact ⟨_, rfl, by rw [ge_nat, anyN_at hlt HR.out], B1.out⟩
    · have hd : decide ((k : Int) < (n : Int)) = false := by simp; omega
      have hkn : Hid (k = n) := by unfold Hid; omega
      go_wp2_with fail
      go_ret
      exact ⟨_, rfl, by rw [ge_neg, ← hkn.out, hw.out.1], hw.out.2⟩
theorem contains_pts (p : Nat → Bool) (s : Value) (w : World) (l : List Pt) (row : Row w s l) (hl : l.length ≤ 100000) (hf : ∀ k q W, l[k]? = some q → Calls Try.prog 46 #[.agg #[.int .i64 q.1, .int .i64 q.2]] W fun e w' => e = .returned (.bool (p k)) ∧ Below W.heap.size W w') :
    Calls Try.prog 45 #[s, .func (.func 46) #[] #[]] w fun e w' => e = .returned (.bool (anyN p l.length)) ∧ Below w.heap.size w w' := by
  have HF := Lib.hid (index_pts p s w l row hl hf)
  obtain ⟨ao, c, rfl⟩ := row.shape
  clear hf row hl
  generalize anyN p l.length = r at *
  go_enter Try.func45, Try.ntmps45
  go_wp2_with fail
  refine (HF.out).mono ?_
  rintro e w' ⟨z, rfl, hz, hb⟩
  have HB := Lib.hid hb
  have HZ := Lib.hid hz
  clear hb hz
  go_wp2_with fail
  go_ret
  exact ⟨retB (by rw [← HZ.out]), HB.out⟩

def outN (l : List Pt) (k : Nat) : Bool := (l[k]?).any fun q => !roomP q
theorem outN_all (l : List Pt) : anyN (outN l) l.length = !l.all roomP := by
  rw [Bool.eq_iff_iff]
  unfold anyN outN
  simp only [List.any_eq_true, List.mem_range, Bool.not_eq_true', List.all_eq_false]
  constructor
  · rintro ⟨k, hk, h⟩
    rw [List.getElem?_eq_getElem hk] at h
    simp at h
    exact ⟨_, List.getElem_mem hk, by simp [h]⟩
  · rintro ⟨q, hq, h⟩
    obtain ⟨k, hk, e⟩ := List.getElem_of_mem hq
    refine ⟨k, hk, ?_⟩
    rw [List.getElem?_eq_getElem hk, e]
    simp at h ⊢
    exact h
set_option maxHeartbeats 400000 in
theorem lOut_c (s : Value) (l : List Pt) (w : World) (hl : l.length ≤ 100000) (row : Row w s l) : Calls Try.prog 44 #[s] w fun e w' => e = .returned (.bool (!l.all roomP)) ∧ Below w.heap.size w w' := by
  have HC := Lib.hid (contains_pts (outN l) s w l row hl (fun k q W hq => by
    have := ptOut_c q.1 q.2 W
    unfold outN; rw [hq]; exact this))
  rw [outN_all] at HC
  obtain ⟨ao, c, rfl⟩ := row.shape
  clear row hl
  generalize l.all roomP = r at *
  go_enter Try.func44, Try.ntmps44
  go_wp2_with fail
  refine (HC.out).mono ?_
  rintro e w' ⟨rfl, hb⟩
  have HB := Lib.hid hb
  clear hb
  go_wp2_with fail
  go_ret
  exact ⟨rfl, HB.out⟩
set_option maxHeartbeats 1000000 in
set_option maxRecDepth 100000 in
theorem index_polys (p : Nat → Bool) (s : Value) (w : World) (xs : List Value) (row : VRow w s xs) (hl : xs.length ≤ 100000) (hf : ∀ k x W, xs[k]? = some x → Below w.heap.size w W → Calls Try.prog 44 #[x] W fun e w' => e = .returned (.bool (p k)) ∧ Below W.heap.size W w') :
    Calls Try.prog 55 #[s, .func (.func 44) #[] #[]] w fun e w' => ∃ z : Int, e = .returned (.int .i64 z) ∧ decide (z ≥ 0) = anyN p xs.length ∧ Below w.heap.size w w' := by
  obtain ⟨ao, c, rfl⟩ := row.shape
  obtain ⟨n, hn⟩ : ∃ n, xs.length = n := ⟨_, rfl⟩
  rw [hn] at row hl ⊢
  have HN := Lib.hid hn
  have HROW := Lib.hid row
  have HL := Lib.hid hl
  have HF := Lib.hid hf
  clear hn row hl hf
  go_enter Try.func55, Try.ntmps55
  go_wp2_with fail
  go_loopw [8] (fun i wr => ∃ k : Nat, k ≤ n ∧ i = .int .i64 k ∧ Hid (anyN p k = false ∧ Below w.heap.size w wr)) (fun i _ => n - (intOf i).toNat)
  case atStart => exact ⟨0, by omega, rfl, rfl, Below.refl _ _⟩
  case round =>
    obtain ⟨k, hk, rfl, hw⟩ := hrel
    by_cases hlt : k < n
    · have hd : decide ((k : Int) < (n : Int)) = true := by simp; omega
      obtain ⟨x, hq⟩ : ∃ x, xs[k]? = some x := ⟨_, List.getElem?_eq_getElem (by rw [HN.out]; exact hlt)⟩
      obtain ⟨b, o, rfl, hbs, c0⟩ := (HROW.out.on hw.out.2).addr hq
      have HQ := Lib.hid hq
      clear hq hbs
      have hl := HL.out
      go_wp2_with fail
      refine (HF.out k x _ HQ.out hw.out.2).mono ?_
      rintro e w' ⟨rfl, hb⟩
      have B1 : Hid (Below w.heap.size w w') := hw.out.2.trans (hb.mono hw.out.2.size)
      obtain ⟨r, hr⟩ : ∃ r, p k = r := ⟨_, rfl⟩
      have HR := Lib.hid hr
      rw [hr]
      clear hb hr
      cases r
      · go_wp2_with fail
        exact ⟨⟨k + 1, by omega, by go_num, by rw [anyN_succ, hw.out.1, HR.out]; rfl, B1.out⟩, by simp [intOf]; omega⟩
      · go_wp2_with fail
        go_ret
        exact ⟨_, rfl, by rw [ge_nat, anyN_at hlt HR.out], B1.out⟩
    · have hd : decide ((k : Int) < (n : Int)) = false := by simp; omega
      have hkn : Hid (k = n) := by unfold Hid; omega
      go_wp2_with fail
      go_ret
      exact ⟨_, rfl, by rw [ge_neg, ← hkn.out, hw.out.1], hw.out.2⟩
theorem contains_polys (p : Nat → Bool) (s : Value) (w : World) (xs : List Value) (row : VRow w s xs) (hl : xs.length ≤ 100000) (hf : ∀ k x W, xs[k]? = some x → Below w.heap.size w W → Calls Try.prog 44 #[x] W fun e w' => e = .returned (.bool (p k)) ∧ Below W.heap.size W w') :
    Calls Try.prog 43 #[s, .func (.func 44) #[] #[]] w fun e w' => e = .returned (.bool (anyN p xs.length)) ∧ Below w.heap.size w w' := by
  have HF := Lib.hid (index_polys p s w xs row hl hf)
  obtain ⟨ao, c, rfl⟩ := row.shape
  clear hf row hl
  generalize anyN p xs.length = r at *
  go_enter Try.func43, Try.ntmps43
  go_wp2_with fail
  refine (HF.out).mono ?_
  rintro e w' ⟨z, rfl, hz, hb⟩
  have HB := Lib.hid hb
  have HZ := Lib.hid hz
  clear hb hz
  go_wp2_with fail
  go_ret
  exact ⟨retB (by rw [← HZ.out]), HB.out⟩

/-- All points are in room. -/
def allR (P : List (List Pt)) : Bool := P.all fun l => l.all roomP
def outP (S : List (Value × List Pt)) (k : Nat) : Bool := (S[k]?).any fun x => !x.2.all roomP
theorem outP_all (S : List (Value × List Pt)) : anyN (outP S) S.length = !allR (S.map Prod.snd) := by
  rw [Bool.eq_iff_iff]
  unfold anyN outP allR
  simp only [List.any_eq_true, List.mem_range, Bool.not_eq_true', List.all_eq_false]
  constructor
  · rintro ⟨k, hk, h⟩
    rw [List.getElem?_eq_getElem hk] at h
    simp only [Option.any_some, Bool.not_eq_true'] at h
    exact ⟨_, List.mem_map_of_mem (List.getElem_mem hk), by simp [h]⟩
  · rintro ⟨q, hq, h⟩
    obtain ⟨x, hx, rfl⟩ := List.mem_map.1 hq
    obtain ⟨k, hk, e⟩ := List.getElem_of_mem hx
    refine ⟨k, hk, ?_⟩
    rw [List.getElem?_eq_getElem hk, e]
    simp only [Option.any_some, Bool.not_eq_true']
    simpa using h
set_option maxHeartbeats 400000 in
theorem allIn_c (s : Value) (S : List (Value × List Pt)) (w : World) (hS : S.length ≤ 100000) (hl : ∀ x ∈ S, x.2.length ≤ 100000) (row : PolyR w s S) : Calls Try.prog 27 #[s] w fun e w' => e = .returned (.bool (allR (S.map Prod.snd))) ∧ Below w.heap.size w w' := by
  have HC := Lib.hid (contains_polys (outP S) s w _ row.1 (by rw [List.length_map]; exact hS) (fun k x W hx hb => by
    rw [List.getElem?_map] at hx
    obtain ⟨y, hy, rfl⟩ := Option.map_eq_some_iff.1 hx
    have hm := List.mem_of_getElem? hy
    have := lOut_c y.1 y.2 W (hl y hm) ((row.2 y hm).on hb)
    unfold outP; rw [hy]; exact this))
  rw [List.length_map, outP_all] at HC
  obtain ⟨ao, c, rfl⟩ := row.shape
  clear row hl hS
  generalize allR (S.map Prod.snd) = r at *
  go_enter Try.func27, Try.ntmps27
  go_wp2_with fail
  refine (HC.out).mono ?_
  rintro e w' ⟨rfl, hb⟩
  have HB := Lib.hid hb
  clear hb
  go_wp2_with fail
  go_ret
  exact ⟨retB (by simp), HB.out⟩
/-- Whether one of a box's numbers is so. -/
def anyB (p : Int → Bool) (b : Bx) : Bool := p b.x0 || p b.y0 || p b.x1 || p b.y1
def nth4 (p : Int → Bool) (b : Bx) : Nat → Bool
  | 0 => p b.x0
  | 1 => p b.y0
  | 2 => p b.x1
  | _ => p b.y1
theorem nth4_any (p : Int → Bool) (b : Bx) : anyN (nth4 p b) 4 = anyB p b := by unfold anyN anyB; simp [List.range, List.range.loop, nth4, Bool.or_assoc]
theorem vrow4 (w : World) (t : TypeId) (b : Bx) : VRow (w.alloc (.cells (four b) t)) (.slice (some ⟨w.heap.size, 0, none⟩) 4 4) [.int .i64 b.x0, .int .i64 b.y0, .int .i64 b.x1, .int .i64 b.y1] :=
  .inr (.inr ⟨_, 0, 4, rfl, by simp, fun i x hx => by
    rw [(Blk.new w t (four b)).cell, Nat.zero_add]
    rw [← hx]
    match i with
    | 0 => rfl
    | 1 => rfl
    | 2 => rfl
    | 3 => rfl
    | i + 4 => simp [four]⟩)
set_option maxHeartbeats 1000000 in
set_option maxRecDepth 100000 in
theorem any_far (b : Bx) (w : World) : Calls Try.prog 38 #[.agg #[.int .i64 b.x0, .int .i64 b.y0, .int .i64 b.x1, .int .i64 b.y1], .func (.func 42) #[] #[]] w fun e w' => e = .returned (.bool (anyB farB b)) ∧ Below w.heap.size w w' := by
  have HC : Hid (∀ (W : World) (g : Nat), W.heap.size = g → Calls Try.prog 54 #[.slice (some ⟨g, 0, none⟩) 4 4, .func (.func 42) #[] #[]] (W.alloc (.cells (four b) 3)) fun e w' => e = .returned (.bool (anyB farB b)) ∧ Below W.heap.size W w') := fun W g hg => by
    subst hg
    refine (contains_far (nth4 farB b) _ _ _ (vrow4 W 3 b) (by simp) (fun k x W' hx hb => ?_)).mono ?_
    · match k with
      | 0 => cases hx; exact far_c _ _
      | 1 => cases hx; exact far_c _ _
      | 2 => cases hx; exact far_c _ _
      | 3 => cases hx; exact far_c _ _
      | k + 4 => simp at hx
    · rintro e w' ⟨rfl, hb⟩
      exact ⟨retB (nth4_any _ _), ((Below.refl _ _).alloc (Nat.le_refl _) _).trans (hb.mono (by simp))⟩
  generalize anyB farB b = r at *
  obtain ⟨x0, y0, x1, y1⟩ := b
  go_enter Try.func38, Try.ntmps38
  go_wp2_with fail
  refine (HC.out (w.alloc (.cells #[.int .i64 x0, .int .i64 y0, .int .i64 x1, .int .i64 y1] 24)) _ (by simp)).mono ?_
  rintro e w' ⟨rfl, hb⟩
  have B1 : Hid (Below w.heap.size w w') := ((Below.refl _ _).alloc (Nat.le_refl _) _).trans (hb.mono (by simp))
  clear hb
  go_wp2_with fail
  go_ret
  exact ⟨rfl, B1.out⟩

set_option maxHeartbeats 1000000 in
set_option maxRecDepth 100000 in
theorem any_out (b : Bx) (w : World) : Calls Try.prog 38 #[.agg #[.int .i64 b.x0, .int .i64 b.y0, .int .i64 b.x1, .int .i64 b.y1], .func (.func 39) #[] #[]] w fun e w' => e = .returned (.bool (anyB (fun x => !room x) b)) ∧ Below w.heap.size w w' := by
  have HC : Hid (∀ (W : World) (g : Nat), W.heap.size = g → Calls Try.prog 54 #[.slice (some ⟨g, 0, none⟩) 4 4, .func (.func 39) #[] #[]] (W.alloc (.cells (four b) 3)) fun e w' => e = .returned (.bool (anyB (fun x => !room x) b)) ∧ Below W.heap.size W w') := fun W g hg => by
    subst hg
    refine (contains_out (nth4 (fun x => !room x) b) _ _ _ (vrow4 W 3 b) (by simp) (fun k x W' hx hb => ?_)).mono ?_
    · match k with
      | 0 => cases hx; exact out_c _ _
      | 1 => cases hx; exact out_c _ _
      | 2 => cases hx; exact out_c _ _
      | 3 => cases hx; exact out_c _ _
      | k + 4 => simp at hx
    · rintro e w' ⟨rfl, hb⟩
      exact ⟨retB (nth4_any _ _), ((Below.refl _ _).alloc (Nat.le_refl _) _).trans (hb.mono (by simp))⟩
  generalize anyB (fun x => !room x) b = r at *
  obtain ⟨x0, y0, x1, y1⟩ := b
  go_enter Try.func38, Try.ntmps38
  go_wp2_with fail
  refine (HC.out (w.alloc (.cells #[.int .i64 x0, .int .i64 y0, .int .i64 x1, .int .i64 y1] 24)) _ (by simp)).mono ?_
  rintro e w' ⟨rfl, hb⟩
  have B1 : Hid (Below w.heap.size w w') := ((Below.refl _ _).alloc (Nat.le_refl _) _).trans (hb.mono (by simp))
  clear hb
  go_wp2_with fail
  go_ret
  exact ⟨rfl, B1.out⟩

end Go.Proofs.Ytopngjpgikpmaaa
