/- Layer 9: rows of single cells; what ContainsFunc finds; Sum, hasPhase, Check. -/
import Derived.Test.YtclkkdhfdoidfaaDa
import Derived.Test.YtclkkdhfdoidfaaTa
import Derived.Deep.QuietTactic
namespace Go.Proofs.Ytclkkdhfdoidfaa
open Go.RowKit
/-- A slice whose elements are single cells: its value, the elements. -/
def VRow (w : World) (s : Value) (xs : List Value) : Prop :=
  (s = .slice none 0 0 ∧ xs = []) ∨ (∃ a c, s = .slice (some a) 0 c ∧ xs = []) ∨ ∃ b o c, s = .slice (some ⟨b, o, none⟩) xs.length c ∧ b < w.heap.size ∧ ∀ i x, xs[i]? = some x → w.cell? ⟨b, o + i, none⟩ = some x
theorem VRow.on {w w' : World} {s : Value} {xs : List Value} (h : VRow w s xs) (hb : Below w.heap.size w w') : VRow w' s xs := by
  rcases h with h | h | ⟨b, o, c, h1, h2, h3⟩
  · exact .inl h
  · exact .inr (.inl h)
  · exact .inr (.inr ⟨b, o, c, h1, Nat.lt_of_lt_of_le h2 hb.size, fun i x hx => by rw [cell_below hb h2]; exact h3 i x hx⟩)
theorem VRow.shape {w : World} {v : Value} {xs : List Value} (h : VRow w v xs) : ∃ ao c, v = .slice ao xs.length c := by
  rcases h with ⟨rfl, rfl⟩ | ⟨a, c, rfl, rfl⟩ | ⟨b, o, c, rfl, _, _⟩ <;> exact ⟨_, _, rfl⟩
theorem VRow.addr {w : World} {ao : Option Addr} {n c : Nat} {xs : List Value} (h : VRow w (.slice ao n c) xs) {k : Nat} {x : Value} (hk : xs[k]? = some x) : ∃ b o, ao = some ⟨b, o, none⟩ ∧ b < w.heap.size ∧ w.cell? ⟨b, o + k, none⟩ = some x := by
  rcases h with ⟨_, rfl⟩ | ⟨_, _, _, rfl⟩ | ⟨b, o, c', e, h1, h2⟩
  · cases hk
  · cases hk
  · cases e; exact ⟨b, o, rfl, h1, h2 k x hk⟩
/-- Polygons: the slice's value; each polygon's value and its points. -/
def PolyR (w : World) (s : Value) (S : List (Value × List Pt)) : Prop := VRow w s (S.map Prod.fst) ∧ ∀ x ∈ S, Row w x.1 x.2
theorem PolyR.on {w w' : World} {s : Value} {S : List (Value × List Pt)} (h : PolyR w s S) (hb : Below w.heap.size w w') : PolyR w' s S := ⟨h.1.on hb, fun x hx => (h.2 x hx).on hb⟩
theorem PolyR.shape {w : World} {v : Value} {S : List (Value × List Pt)} (h : PolyR w v S) : ∃ ao c, v = .slice ao S.length c := by
  obtain ⟨ao, c, e⟩ := h.1.shape
  rw [List.length_map] at e
  exact ⟨ao, c, e⟩
theorem PolyR.at {w : World} {ao : Option Addr} {n c : Nat} {S : List (Value × List Pt)} (h : PolyR w (.slice ao n c) S) {k : Nat} {x : Value × List Pt} (hk : S[k]? = some x) : ∃ b o, ao = some ⟨b, o, none⟩ ∧ b < w.heap.size ∧ w.cell? ⟨b, o + k, none⟩ = some x.1 :=
  h.1.addr (by rw [List.getElem?_map, hk]; rfl)
def noLenB (x : Int) : Bool := !okL x
set_option maxHeartbeats 400000 in
theorem noLen_c (x : Int) (w : World) : Calls Try.prog 33 #[.int .i64 x] w fun e w' => e = .returned (.bool (noLenB x)) ∧ Below w.heap.size w w' := by
  by_cases h : x < 1
  · go_enter Try.func33, Try.ntmps33
    go_wp2
    go_ret
    exact ⟨retB (by unfold noLenB okL; rw [Bool.eq_iff_iff]; simp; omega), Below.refl _ _⟩
  · go_enter Try.func33, Try.ntmps33
    go_wp2
    go_ret
    exact ⟨retB (by unfold noLenB okL; rw [Bool.eq_iff_iff]; simp; omega), Below.refl _ _⟩
set_option maxHeartbeats 400000 in
theorem ptOut_c (x y : Int) (w : World) : Calls Try.prog 42 #[.agg #[.int .i64 x, .int .i64 y]] w fun e w' => e = .returned (.bool (!roomP (x, y))) ∧ Below w.heap.size w w' := by
  have HX := Lib.hid (fun w => ptIn_c x y w)
  rw [show (room x && room y) = roomP (x, y) from rfl] at HX
  generalize roomP (x, y) = r at *
  go_enter Try.func42, Try.ntmps42
  go_wp2_with fail
  refine (HX.out _).mono ?_
  rintro e w' ⟨rfl, hb⟩
  have B1 := Lib.hid (((Below.refl w.heap.size w).alloc (Nat.le_refl _) _).trans (hb.mono (by simp)))
  clear hb
  go_wp2_with fail
  go_ret
  exact ⟨rfl, B1.out⟩
/-- Whether one of the first n is so. -/
def anyN (p : Nat → Bool) (n : Nat) : Bool := (List.range n).any p
theorem anyN_succ (p : Nat → Bool) (n : Nat) : anyN p (n + 1) = (anyN p n || p n) := by unfold anyN; rw [List.range_succ, List.any_append]; simp
theorem anyN_at {p : Nat → Bool} {n k : Nat} (hk : k < n) (h : p k = true) : anyN p n = true := by unfold anyN; rw [List.any_eq_true]; exact ⟨k, List.mem_range.2 hk, h⟩
theorem ge_neg : decide ((-1 : Int) ≥ 0) = false := by decide
theorem ge_nat (k : Nat) : decide ((k : Int) ≥ 0) = true := by simp

set_option maxHeartbeats 1000000 in
set_option maxRecDepth 100000 in
theorem index_far (p : Nat → Bool) (s : Value) (w : World) (xs : List Value) (row : VRow w s xs) (hl : xs.length ≤ 100000) (hf : ∀ k x W, xs[k]? = some x → Below w.heap.size w W → Calls Try.prog 33 #[x] W fun e w' => e = .returned (.bool (p k)) ∧ Below W.heap.size W w') :
    Calls Try.prog 50 #[s, .func (.func 33) #[] #[]] w fun e w' => ∃ z : Int, e = .returned (.int .i64 z) ∧ decide (z ≥ 0) = anyN p xs.length ∧ Below w.heap.size w w' := by
  obtain ⟨ao, c, rfl⟩ := row.shape
  obtain ⟨n, hn⟩ : ∃ n, xs.length = n := ⟨_, rfl⟩
  rw [hn] at row hl ⊢
  have HN := Lib.hid hn
  have HROW := Lib.hid row
  have HL := Lib.hid hl
  have HF := Lib.hid hf
  clear hn row hl hf
  go_enter Try.func50, Try.ntmps50
  go_wp2_with fail
  go_loopw [8] (fun i wr => ∃ k : Nat, k ≤ n ∧ i = .int .i64 k ∧ Hid (anyN p k = false ∧ Below w.heap.size w wr)) (fun i _ => n - (intOf i).toNat)
  case atStart => exact ⟨0, by omega, rfl, rfl, Below.refl _ _⟩
  case round =>
    obtain ⟨k, hk, rfl, hw⟩ := hrel
    by_cases hlt : k < n
    · have hd : decide ((k : Int) < (n : Int)) = true := by simp; omega
      obtain ⟨x, hq⟩ : ∃ x, xs[k]? = some x := ⟨_, List.getElem?_eq_getElem (by rw [HN.out]; exact hlt)⟩
      obtain ⟨b, o, rfl, hbs, c0⟩ := (HROW.out.on hw.out.2).addr hq
      have HQ := Lib.hid hq
      clear hq hbs
      have hl := HL.out
      go_wp2_with fail
      refine (HF.out k x _ HQ.out hw.out.2).mono ?_
      rintro e w' ⟨rfl, hb⟩
      have B1 : Hid (Below w.heap.size w w') := hw.out.2.trans (hb.mono hw.out.2.size)
      obtain ⟨r, hr⟩ : ∃ r, p k = r := ⟨_, rfl⟩
      have HR := Lib.hid hr
      rw [hr]
      clear hb hr
      cases r
      · go_wp2_with fail
        exact ⟨⟨k + 1, by omega, by go_num, by rw [anyN_succ, hw.out.1, HR.out]; rfl, B1.out⟩, by simp [intOf]; omega⟩
      · go_wp2_with fail
        go_ret
        exact ⟨_, rfl, by rw [ge_nat, anyN_at hlt HR.out], B1.out⟩
    · have hd : decide ((k : Int) < (n : Int)) = false := by simp; omega
      have hkn : Hid (k = n) := by unfold Hid; omega
      go_wp2_with fail
      go_ret
      exact ⟨_, rfl, by rw [ge_neg, ← hkn.out, hw.out.1], hw.out.2⟩
theorem contains_far (p : Nat → Bool) (s : Value) (w : World) (xs : List Value) (row : VRow w s xs) (hl : xs.length ≤ 100000) (hf : ∀ k x W, xs[k]? = some x → Below w.heap.size w W → Calls Try.prog 33 #[x] W fun e w' => e = .returned (.bool (p k)) ∧ Below W.heap.size W w') :
    Calls Try.prog 32 #[s, .func (.func 33) #[] #[]] w fun e w' => e = .returned (.bool (anyN p xs.length)) ∧ Below w.heap.size w w' := by
  have HF := Lib.hid (index_far p s w xs row hl hf)
  obtain ⟨ao, c, rfl⟩ := row.shape
  clear hf row hl
  generalize anyN p xs.length = r at *
  go_enter Try.func32, Try.ntmps32
  go_wp2_with fail
  refine (HF.out).mono ?_
  rintro e w' ⟨z, rfl, hz, hb⟩
  have HB := Lib.hid hb
  have HZ := Lib.hid hz
  clear hb hz
  go_wp2_with fail
  go_ret
  exact ⟨retB (by rw [← HZ.out]), HB.out⟩

set_option maxHeartbeats 1000000 in
set_option maxRecDepth 100000 in
theorem index_pts (p : Nat → Bool) (s : Value) (w : World) (l : List Pt) (row : Row w s l) (hl : l.length ≤ 100000) (hf : ∀ k q W, l[k]? = some q → Calls Try.prog 42 #[.agg #[.int .i64 q.1, .int .i64 q.2]] W fun e w' => e = .returned (.bool (p k)) ∧ Below W.heap.size W w') :
    Calls Try.prog 54 #[s, .func (.func 42) #[] #[]] w fun e w' => ∃ z : Int, e = .returned (.int .i64 z) ∧ decide (z ≥ 0) = anyN p l.length ∧ Below w.heap.size w w' := by
  obtain ⟨ao, c, rfl⟩ := row.shape
  obtain ⟨n, hn⟩ : ∃ n, l.length = n := ⟨_, rfl⟩
  rw [hn] at row hl ⊢
  have HN := Lib.hid hn
  have HROW := Lib.hid row
  have HL := Lib.hid hl
  have HF := Lib.hid hf
  clear hn row hl hf
  go_enter Try.func54, Try.ntmps54
  go_wp2_with fail
  go_loopw [8] (fun i wr => ∃ k : Nat, k ≤ n ∧ i = .int .i64 k ∧ Hid (anyN p k = false ∧ Below w.heap.size w wr)) (fun i _ => n - (intOf i).toNat)
  case atStart => exact ⟨0, by omega, rfl, rfl, Below.refl _ _⟩
  case round =>
    obtain ⟨k, hk, rfl, hw⟩ := hrel
    by_cases hlt : k < n
    · have hd : decide ((k : Int) < (n : Int)) = true := by simp; omega
      obtain ⟨b, o, rfl, hbs, hpa⟩ := Row.addr HROW.out (k := k) (by rw [HN.out]; exact hlt)
      obtain ⟨⟨qx, qy⟩, hq⟩ : ∃ q, l[k]? = some q := ⟨_, List.getElem?_eq_getElem (by rw [HN.out]; exact hlt)⟩
      obtain ⟨c0, c1⟩ := (hpa.on hw.out.2 hbs) k (qx, qy) hq
      have HQ := Lib.hid hq
      clear hpa hq hbs
      simp only at c0 c1
      have hl := HL.out
      go_wp2_with fail
      refine (HF.out k (qx, qy) _ HQ.out).mono ?_
      rintro e w' ⟨rfl, hb⟩
      have B1 : Hid (Below w.heap.size w w') := hw.out.2.trans (hb.mono hw.out.2.size)
      obtain ⟨r, hr⟩ : ∃ r, p k = r := ⟨_, rfl⟩
      have HR := Lib.hid hr
      rw [hr]
      clear hb hr
      cases r
      · go_wp2_with fail
        exact ⟨⟨k + 1, by omega, by go_num, by rw [anyN_succ, hw.out.1, HR.out]; rfl, B1.out⟩, by simp [intOf]; omega⟩
      · go_wp2_with fail
        go_ret
        exact ⟨_, rfl, by rw [ge_nat, anyN_at hlt HR.out], B1.out⟩
    · have hd : decide ((k : Int) < (n : Int)) = false := by simp; omega
      have hkn : Hid (k = n) := by unfold Hid; omega
      go_wp2_with fail
      go_ret
      exact ⟨_, rfl, by rw [ge_neg, ← hkn.out, hw.out.1], hw.out.2⟩
theorem contains_pts (p : Nat → Bool) (s : Value) (w : World) (l : List Pt) (row : Row w s l) (hl : l.length ≤ 100000) (hf : ∀ k q W, l[k]? = some q → Calls Try.prog 42 #[.agg #[.int .i64 q.1, .int .i64 q.2]] W fun e w' => e = .returned (.bool (p k)) ∧ Below W.heap.size W w') :
    Calls Try.prog 41 #[s, .func (.func 42) #[] #[]] w fun e w' => e = .returned (.bool (anyN p l.length)) ∧ Below w.heap.size w w' := by
  have HF := Lib.hid (index_pts p s w l row hl hf)
  obtain ⟨ao, c, rfl⟩ := row.shape
  clear hf row hl
  generalize anyN p l.length = r at *
  go_enter Try.func41, Try.ntmps41
  go_wp2_with fail
  refine (HF.out).mono ?_
  rintro e w' ⟨z, rfl, hz, hb⟩
  have HB := Lib.hid hb
  have HZ := Lib.hid hz
  clear hb hz
  go_wp2_with fail
  go_ret
  exact ⟨retB (by rw [← HZ.out]), HB.out⟩

def outN (l : List Pt) (k : Nat) : Bool := (l[k]?).any fun q => !roomP q
theorem outN_all (l : List Pt) : anyN (outN l) l.length = !l.all roomP := by
  rw [Bool.eq_iff_iff]
  unfold anyN outN
  simp only [List.any_eq_true, List.mem_range, Bool.not_eq_true', List.all_eq_false]
  constructor
  · rintro ⟨k, hk, h⟩
    rw [List.getElem?_eq_getElem hk] at h
    simp at h
    exact ⟨_, List.getElem_mem hk, by simp [h]⟩
  · rintro ⟨q, hq, h⟩
    obtain ⟨k, hk, e⟩ := List.getElem_of_mem hq
    refine ⟨k, hk, ?_⟩
    rw [List.getElem?_eq_getElem hk, e]
    simp at h ⊢
    exact h
/-- A slice of ints. -/
def RowI (w : World) (s : Value) (L : List Int) : Prop := VRow w s (L.map (Value.int .i64))
theorem RowI.on {w w' : World} {s : Value} {L : List Int} (h : RowI w s L) (hb : Below w.heap.size w w') : RowI w' s L := VRow.on h hb
theorem RowI.shape {w : World} {v : Value} {L : List Int} (h : RowI w v L) : ∃ ao c, v = .slice ao L.length c := by
  obtain ⟨ao, c, e⟩ := VRow.shape h
  rw [List.length_map] at e
  exact ⟨ao, c, e⟩
theorem RowI.addr {w : World} {ao : Option Addr} {n c : Nat} {L : List Int} (h : RowI w (.slice ao n c) L) {k : Nat} {x : Int} (hk : L[k]? = some x) : ∃ b o, ao = some ⟨b, o, none⟩ ∧ b < w.heap.size ∧ w.cell? ⟨b, o + k, none⟩ = some (.int .i64 x) :=
  VRow.addr h (by rw [List.getElem?_map, hk]; rfl)
def noLenN (L : List Int) (k : Nat) : Bool := (L[k]?).any noLenB
theorem noLenN_all (L : List Int) : anyN (noLenN L) L.length = !L.all okL := by
  rw [Bool.eq_iff_iff]
  unfold anyN noLenN noLenB
  simp only [List.any_eq_true, List.mem_range, Bool.not_eq_true', List.all_eq_false]
  constructor
  · rintro ⟨k, hk, h⟩
    rw [List.getElem?_eq_getElem hk] at h
    simp at h
    exact ⟨_, List.getElem_mem hk, by simp [h]⟩
  · rintro ⟨q, hq, h⟩
    obtain ⟨k, hk, e⟩ := List.getElem_of_mem hq
    refine ⟨k, hk, ?_⟩
    rw [List.getElem?_eq_getElem hk, e]
    simp at h ⊢
    exact h
theorem containsL_c (s : Value) (L : List Int) (w : World) (hl : L.length ≤ 100000) (row : RowI w s L) :
    Calls Try.prog 32 #[s, .func (.func 33) #[] #[]] w fun e w' => e = .returned (.bool (!L.all okL)) ∧ Below w.heap.size w w' := by
  have h := contains_far (noLenN L) s w (L.map (Value.int .i64)) row (by rw [List.length_map]; exact hl) (fun k x W hx _ => by
    rw [List.getElem?_map] at hx
    obtain ⟨z, hz, rfl⟩ := Option.map_eq_some_iff.1 hx
    have := noLen_c z W
    unfold noLenN; rw [hz]; exact this)
  rw [List.length_map, noLenN_all] at h
  exact h
theorem containsP_c (s : Value) (l : List Pt) (w : World) (hl : l.length ≤ 100000) (row : Row w s l) :
    Calls Try.prog 41 #[s, .func (.func 42) #[] #[]] w fun e w' => e = .returned (.bool (!l.all roomP)) ∧ Below w.heap.size w w' := by
  have h := contains_pts (outN l) s w l row hl (fun k q W hq => by
    have := ptOut_c q.1 q.2 W
    unfold outN; rw [hq]; exact this)
  rw [outN_all] at h
  exact h
theorem sumI_take {L : List Int} {k : Nat} {x : Int} (h : L[k]? = some x) : sumI (L.take (k + 1)) = sumI (L.take k) + x := take_fold _ L k x h 0
theorem sumI_bound {L : List Int} (h : L.all okL = true) (k : Nat) : 0 ≤ sumI (L.take k) ∧ sumI (L.take k) ≤ k * 1048576 := by
  induction k with
  | zero => simp [sumI]
  | succ k ih =>
    rcases Nat.lt_or_ge k L.length with hk | hk
    · rw [sumI_take (List.getElem?_eq_getElem hk)]
      have := List.all_eq_true.1 h _ (List.getElem_mem hk)
      unfold okL at this
      simp at this
      omega
    · rw [List.take_of_length_le (by omega)]
      rw [List.take_of_length_le hk] at ih
      omega
set_option maxHeartbeats 1000000 in
set_option maxRecDepth 100000 in
theorem sum_c (s : Value) (L : List Int) (phase : Int) (w : World) (hl : L.length ≤ 8) (hok : L.all okL = true) (row : RowI w s L) :
    Calls Try.prog 12 #[.agg #[s, .int .i64 phase]] w fun e w' => e = .returned (.int .i64 (sumI L)) ∧ Below w.heap.size w w' := by
  obtain ⟨ao, c, rfl⟩ := row.shape
  obtain ⟨n, hn⟩ : ∃ n, L.length = n := ⟨_, rfl⟩
  rw [hn] at row hl ⊢
  have HN := Lib.hid hn
  have HROW := Lib.hid row
  have HOK := Lib.hid (fun k => sumI_bound hok k)
  have HE : Hid (Below w.heap.size w (w.alloc (.cells #[.slice ao n c, .int .i64 phase] 24))) := (Below.refl _ _).alloc (Nat.le_refl _) _
  clear hn row hok
  go_enter Try.func12, Try.ntmps12
  go_wp2_with fail
  obtain ⟨w0, hw0⟩ : ∃ W, w.alloc (.cells #[.slice ao n c, .int .i64 phase] 24) = W := ⟨_, rfl⟩
  rw [hw0] at HE ⊢
  clear hw0
  have HR0 : Hid (RowI w0 (.slice ao n c) L) := HROW.out.on HE.out
  go_loopw [3, 9] (fun x i wr => ∃ k : Nat, k ≤ n ∧ i = .int .i64 k ∧ x = .int .i64 (sumI (L.take k)) ∧ Hid (w0 = wr)) (fun _ i _ => n - (intOf i).toNat)
  case atStart => exact ⟨0, by omega, rfl, rfl, rfl⟩
  case round =>
    obtain ⟨k, hk, rfl, rfl, hw⟩ := hrel
    obtain rfl := hw.out
    by_cases hlt : k < n
    · have hd : decide ((k : Int) < (n : Int)) = true := by simp; omega
      obtain ⟨x, hq⟩ : ∃ x, L[k]? = some x := ⟨_, List.getElem?_eq_getElem (by rw [HN.out]; exact hlt)⟩
      obtain ⟨b, o, rfl, hbs, c0⟩ := HR0.out.addr hq
      have b1 := HOK.out (k + 1)
      rw [sumI_take hq] at b1
      have HS := Lib.hid (sumI_take hq)
      obtain ⟨y, hy⟩ : ∃ y, sumI (L.take k) + x = y := ⟨_, rfl⟩
      have HW : Hid (wrap64 (sumI (L.take k) + x) = y) := by unfold Hid; rw [← hy]; exact wrapR _ (by omega) (by omega)
      rw [hy] at HS
      generalize sumI (L.take k) = z at *
      clear b1 hq hbs hy
      go_wp2_with fail
      rw [HW.out]
      exact ⟨⟨k + 1, by omega, by go_num, by rw [HS.out], trivial⟩, by simp [intOf]; omega⟩
    · have hd : decide ((k : Int) < (n : Int)) = false := by simp; omega
      have hkn : Hid (L.take k = L) := by unfold Hid; rw [show k = L.length by rw [HN.out]; omega, List.take_length]
      go_wp2_with fail
      go_ret
      exact ⟨by rw [hkn.out]; rfl, HE.out⟩
def phaseB (L : List Int) (phase : Int) : Bool := if L = [] then decide (phase = 0) else decide (0 ≤ phase) && decide (phase < sumI L)
set_option maxHeartbeats 1000000 in
set_option maxRecDepth 100000 in
theorem hasPhase_c (s : Value) (L : List Int) (phase : Int) (w : World) (hl : L.length ≤ 8) (hok : L.all okL = true) (row : RowI w s L) :
    Calls Try.prog 34 #[.agg #[s, .int .i64 phase]] w fun e w' => e = .returned (.bool (phaseB L phase)) ∧ Below w.heap.size w w' := by
  have HE : Hid (Below w.heap.size w (w.alloc (.cells #[s, .int .i64 phase] 24)) ∧ Blk (w.alloc (.cells #[s, .int .i64 phase] 24)) w.heap.size 24 #[s, .int .i64 phase]) := ⟨(Below.refl _ _).alloc (Nat.le_refl _) _, Blk.new _ _ _⟩
  obtain ⟨w1, hw1⟩ : ∃ W, w.alloc (.cells #[s, .int .i64 phase] 24) = W := ⟨_, rfl⟩
  have HW1 := Lib.hid hw1
  rw [hw1] at HE
  clear hw1
  have HS : Hid (∀ W, Out w1 W → Calls Try.prog 12 #[.agg #[s, .int .i64 phase]] W fun e w' => e = .returned (.int .i64 (sumI L)) ∧ Below W.heap.size W w') := fun W hW => sum_c s L phase _ hl hok ((row.on HE.out.1).on hW)
  obtain ⟨ao, c, rfl⟩ := row.shape
  obtain ⟨n, hn⟩ : ∃ n, L.length = n := ⟨_, rfl⟩
  have HN := Lib.hid hn
  rw [hn] at row HS HE HW1 ⊢
  clear row hok hl hn
  by_cases h0 : n = 0
  · subst h0
    have HL : Hid (phaseB L phase = decide (phase = 0)) := by unfold Hid phaseB; rw [if_pos (List.eq_nil_of_length_eq_zero HN.out)]
    go_enter Try.func34, Try.ntmps34
    go_wp2_with fail
    go_ret
    exact ⟨retB (by rw [HL.out, Bool.eq_iff_iff]; simp), by rw [HW1.out]; exact HE.out.1⟩
  · have HL : Hid (phaseB L phase = (decide (0 ≤ phase) && decide (phase < sumI L))) := by unfold Hid phaseB; rw [if_neg (fun e => h0 (by rw [← HN.out, e]; rfl))]
    have hz : ((n : Int) == 0) = false := by simp; omega
    have hz2 : decide ((n : Int) = 0) = false := by simp; omega
    have hz3 : decide (n = 0) = false := by simp; omega
    by_cases hp : 0 ≤ phase
    · have hd : decide (0 ≤ phase) = true := by simp; omega
      go_enter Try.func34, Try.ntmps34
      go_wp2_with fail
      rw [HW1.out]
      refine wp_region_quiet (C := Out w1) (by kernel_rfl) (by kernel_rfl) ⟨rfl, rfl, rfl, Nat.le_refl _, fun _ _ => rfl⟩ ?_
      refine BigFrame.wpQuiet_want rfl (fun K hK => ?_)
      refine quiet_val (.pointer (some ⟨w.heap.size, 1, none⟩)) (fun w' hw' => by go_simp) (hK _ ?_)
      clear hK K
      simp only [Act.put, List.setIfInBounds_toArray, List.set_cons_zero, List.set_cons_succ]
      refine BigFrame.wpQuiet_want rfl (fun K hK => ?_)
      refine quiet_val (.int .i64 phase) (fun w' hw' => by have p1 : w'.cell? ⟨w.heap.size, 1, none⟩ = some (.int .i64 phase) := (HE.out.2.grow hw').cell 1; go_simp) (hK _ ?_)
      clear hK K
      simp only [Act.put, List.setIfInBounds_toArray, List.set_cons_zero, List.set_cons_succ]
      refine BigFrame.wpQuiet_want rfl (fun K hK => ?_)
      refine quiet_val (.bool true) (fun w' hw' => by go_simp) (hK _ ?_)
      clear hK K
      simp only [Act.put, List.setIfInBounds_toArray, List.set_cons_zero, List.set_cons_succ]
      refine BigFrame.wpQuiet_want rfl (fun K hK => ?_)
      refine quiet_val (.bool true) (fun w' hw' => by go_simp) (hK _ ?_)
      clear hK K
      simp only [Act.put, List.setIfInBounds_toArray, List.set_cons_zero, List.set_cons_succ]
      refine BigFrame.wpQuiet_want rfl (fun K hK => ?_)
      refine quiet_val (.pointer (some ⟨w.heap.size, 1, none⟩)) (fun w' hw' => by go_simp) (hK _ ?_)
      clear hK K
      simp only [Act.put, List.setIfInBounds_toArray, List.set_cons_zero, List.set_cons_succ]
      refine BigFrame.wpQuiet_want rfl (fun K hK => ?_)
      refine quiet_val (.int .i64 phase) (fun w' hw' => by have p1 : w'.cell? ⟨w.heap.size, 1, none⟩ = some (.int .i64 phase) := (HE.out.2.grow hw').cell 1; go_simp) (hK _ ?_)
      clear hK K
      simp only [Act.put, List.setIfInBounds_toArray, List.set_cons_zero, List.set_cons_succ]
      refine BigFrame.wpQuiet_want rfl (fun K hK => ?_)
      refine quiet_val (.agg #[.slice ao n c, .int .i64 phase]) (fun w' hw' => by have kk := HE.out.2.grow hw'; have p0 : w'.cell? ⟨w.heap.size, 0, none⟩ = some (.slice ao n c) := kk.cell 0; have p1 : w'.cell? ⟨w.heap.size, 1, none⟩ = some (.int .i64 phase) := kk.cell 1; clear kk; go_simp) (hK _ ?_)
      clear hK K
      simp only [Act.put, List.setIfInBounds_toArray, List.set_cons_zero, List.set_cons_succ]
      refine BigFrame.wpQuiet_want rfl (fun K hK => ?_)
      refine quiet_call 12 #[.agg #[.slice ao n c, .int .i64 phase]] (.int .i64 (sumI L)) (fun w' _ => by go_simp) (fun w' hw' => Calls.out hw' (HS.out w' hw')) (hK _ ?_)
      clear hK K
      simp only [Act.put, List.setIfInBounds_toArray, List.set_cons_zero, List.set_cons_succ]
      refine BigFrame.wpQuiet_want rfl (fun K hK => ?_)
      refine quiet_val (.bool (decide (phase < sumI L))) (fun w' hw' => by go_simp) (hK _ ?_)
      clear hK K
      simp only [Act.put, List.setIfInBounds_toArray, List.set_cons_zero, List.set_cons_succ]
      refine BigFrame.wpQuiet_want rfl (fun K hK => ?_)
      refine quiet_val (.bool (decide (phase < sumI L))) (fun w' hw' => by go_simp) (hK _ ?_)
      clear hK K
      simp only [Act.put, List.setIfInBounds_toArray, List.set_cons_zero, List.set_cons_succ]
      refine BigFrame.wpQuiet_want rfl (fun K hK => ?_)
      refine quiet_val (.bool (decide (phase < sumI L))) (fun w' hw' => by go_simp) (hK _ ?_)
      clear hK K
      simp only [Act.put, List.setIfInBounds_toArray, List.set_cons_zero, List.set_cons_succ]
      refine wpQuiet_nil ?_
      intro w2 hb
      have B2 : Hid (Below w.heap.size w w2) := HE.out.1.trans (hb.mono HE.out.1.size)
      clear hb
      go_wp2_with fail
      go_ret
      exact ⟨retB (by rw [HL.out, hd]; rfl), B2.out⟩
    · have hd : decide (0 ≤ phase) = false := by simp; omega
      go_enter Try.func34, Try.ntmps34
      go_wp2_with fail
      go_quiet (fail)
      go_wp2_with fail
      go_ret
      exact ⟨retB (by rw [HL.out, hd]; rfl), by rw [HW1.out]; exact below_drewN HE.out.1 _⟩
def codeR (b : Bool) : Int := if b then 0 else 30
theorem right_big {L : List Int} {phase : Int} (h : 8 < L.length) : rightI L phase = false := by
  unfold rightI
  rw [if_neg (fun e => by rw [e] at h; simp at h), show decide (L.length ≤ 8) = false by simp; omega]
  rfl
theorem right_odd {L : List Int} {phase : Int} (h : L.length % 2 ≠ 0) : rightI L phase = false := by
  unfold rightI
  rw [if_neg (fun e => by rw [e] at h; simp at h), show decide (L.length % 2 = 0) = false by simp; omega]
  simp
theorem right_all {L : List Int} {phase : Int} (h : L.all okL = false) : rightI L phase = false := by
  unfold rightI
  rw [if_neg (fun e => by rw [e] at h; simp at h), h]
  simp
theorem right_phase {L : List Int} {phase : Int} (h0 : L.length ≤ 8) (h1 : L.length % 2 = 0) (h2 : L.all okL = true) : rightI L phase = phaseB L phase := by
  unfold rightI phaseB
  split
  · rfl
  · rw [h2, show decide (L.length ≤ 8) = true by simp; omega, show decide (L.length % 2 = 0) = true by simp; omega]
    simp
set_option maxHeartbeats 1000000 in
set_option maxRecDepth 100000 in
theorem check_c (s : Value) (L : List Int) (phase : Int) (w : World) (hl : L.length ≤ 100000) (row : RowI w s L) :
    Calls Try.prog 11 #[.agg #[s, .int .i64 phase]] w fun e w' => e = .returned (.int .i64 (codeR (rightI L phase))) ∧ Below w.heap.size w w' := by
  obtain ⟨w1, hw1⟩ : ∃ W, w.alloc (.cells #[s, .int .i64 phase] 24) = W := ⟨_, rfl⟩
  have HE : Hid (Below w.heap.size w w1 ∧ Blk w1 w.heap.size 24 #[s, .int .i64 phase]) := by rw [← hw1]; exact ⟨(Below.refl _ _).alloc (Nat.le_refl _) _, Blk.new _ _ _⟩
  have HW1 := Lib.hid hw1
  clear hw1
  have HC := Lib.hid (containsL_c s L w1 hl (row.on HE.out.1))
  have HP : Hid (L.length ≤ 8 → L.all okL = true → ∀ W, Below w.heap.size w W → Calls Try.prog 34 #[.agg #[s, .int .i64 phase]] W fun e w' => e = .returned (.bool (phaseB L phase)) ∧ Below W.heap.size W w') := fun h1 h2 W hW => hasPhase_c s L phase W h1 h2 (row.on hW)
  have H1 := Lib.hid (@right_big L phase)
  have H2 := Lib.hid (@right_odd L phase)
  have H3 := Lib.hid (@right_all L phase)
  have H4 := Lib.hid (@right_phase L phase)
  obtain ⟨ao, c, rfl⟩ := row.shape
  clear row
  generalize L.length = n at *
  generalize L.all okL = r at *
  generalize phaseB L phase = q at *
  have c0 : w1.cell? ⟨w.heap.size, 0, none⟩ = some (.slice ao n c) := HE.out.2.cell 0
  by_cases h8 : 8 < n
  · have hd : decide ((n : Int) > 8) = true := by simp; omega
    have HR := Lib.hid (H1.out h8)
    go_enter Try.func11, Try.ntmps11
    go_wp2_with fail
    go_ret
    exact ⟨by rw [HR.out]; rfl, by rw [HW1.out]; exact HE.out.1⟩
  · have hd : decide ((n : Int) > 8) = false := by simp; omega
    have HN : Hid (n ≤ 8) := by unfold Hid; omega
    by_cases h2 : n % 2 = 0
    · have ht : ((n : Int).tmod 2) = 0 := by rw [Int.tmod_eq_emod_of_nonneg (by omega)]; omega
      go_enter Try.func11, Try.ntmps11
      go_wp2_with fail
      rw [HW1.out]
      refine HC.out.mono ?_
      rintro e w2 ⟨rfl, hb⟩
      have S2 : Hid (Below w.heap.size w w2 ∧ Blk w2 w.heap.size 24 #[.slice ao n c, .int .i64 phase]) := ⟨HE.out.1.trans (hb.mono HE.out.1.size), HE.out.2.grow hb⟩
      clear hb
      cases r
      · have HR := Lib.hid (H3.out rfl)
        go_wp2_with fail
        go_ret
        exact ⟨by rw [HR.out]; rfl, S2.out.1⟩
      · have d0 : w2.cell? ⟨w.heap.size, 0, none⟩ = some (.slice ao n c) := S2.out.2.cell 0
        have d1 : w2.cell? ⟨w.heap.size, 1, none⟩ = some (.int .i64 phase) := S2.out.2.cell 1
        have HR := Lib.hid (H4.out HN.out h2 rfl)
        go_wp2_with fail
        refine (HP.out HN.out trivial _ S2.out.1).mono ?_
        rintro e w3 ⟨rfl, hb⟩
        have B3 : Hid (Below w.heap.size w w3) := S2.out.1.trans (hb.mono S2.out.1.size)
        clear hb
        cases q
        · go_wp2_with fail
          go_ret
          exact ⟨by rw [HR.out]; rfl, B3.out⟩
        · go_wp2_with fail
          go_ret
          exact ⟨by rw [HR.out]; rfl, B3.out⟩
    · have ht : ((n : Int).tmod 2 == 0) = false := by rw [Int.tmod_eq_emod_of_nonneg (by omega)]; simp; omega
      have ht2 : ((n : Int).tmod 2) = 1 := by rw [Int.tmod_eq_emod_of_nonneg (by omega)]; omega
      have HR := Lib.hid (H2.out h2)
      go_enter Try.func11, Try.ntmps11
      go_wp2_with fail
      go_ret
      exact ⟨by rw [HR.out]; rfl, by rw [HW1.out]; exact HE.out.1⟩
end Go.Proofs.Ytclkkdhfdoidfaa
