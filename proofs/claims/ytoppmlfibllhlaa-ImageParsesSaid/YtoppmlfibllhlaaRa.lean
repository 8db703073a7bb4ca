/- Layer 11: package image's New, Check, Box; the pixels that are wrong. -/
import Derived.Test.YtoppmlfibllhlaaJd
import Derived.Test.YtoppmlfibllhlaaQa
import Derived.BigQuiet
namespace Go.Proofs.Ytoppmlfibllhlaa
open Go.RowKit
def sideI (n : Int) : Bool := decide (1 ≤ n) && decide (n ≤ 256)
theorem sideI_iff {n : Int} : sideI n = true ↔ 1 ≤ n ∧ n ≤ 256 := by simp [sideI]
theorem sideI_no {n : Int} : sideI n = false ↔ ¬ (1 ≤ n ∧ n ≤ 256) := by rw [← sideI_iff]; cases sideI n <;> simp
set_option maxHeartbeats 1000000 in
theorem isSide_c (n : Int) (r : Bool) (hr : sideI n = r) (w : World) : Calls Try.prog 38 #[.int .i64 n] w fun e w' => e = .returned (.bool r) ∧ w = w' := by
  by_cases h1 : 1 ≤ n
  · have d1 : decide (1 ≤ n) = true := by simpa using h1
    by_cases h2 : n ≤ 256
    · have d2 : decide (n ≤ 256) = true := by simpa using h2
      obtain rfl : true = r := by rw [← hr]; exact (sideI_iff.2 ⟨h1, h2⟩).symm
      clear h1 h2 hr
      go_enter Try.func38, Try.ntmps38
      go_wp2_with fail
      go_ret
      exact ⟨rfl, rfl⟩
    · have d2 : decide (n ≤ 256) = false := by simpa using h2
      obtain rfl : false = r := by rw [← hr]; exact (sideI_no.2 (by omega)).symm
      clear h1 h2 hr
      go_enter Try.func38, Try.ntmps38
      go_wp2_with fail
      go_ret
      exact ⟨rfl, rfl⟩
  · have d1 : decide (1 ≤ n) = false := by simpa using h1
    obtain rfl : false = r := by rw [← hr]; exact (sideI_no.2 (by omega)).symm
    clear h1 hr
    go_enter Try.func38, Try.ntmps38
    go_wp2_with fail
    go_ret
    exact ⟨rfl, rfl⟩
set_option maxHeartbeats 1000000 in
theorem isWrong_c (c : Col) (w : World) : Calls Try.prog 33 #[.agg #[.int .u8 (c 0), .int .u8 (c 1), .int .u8 (c 2), .int .u8 (c 3)]] w fun e w' => e = .returned (.bool (!rightC c)) ∧ Below w.heap.size w w' := by
  have HR := Lib.hid (pRight_c c)
  generalize rightC c = r at *
  go_enter Try.func33, Try.ntmps33
  go_wp2_with fail
  refine (HR.out _).mono ?_
  rintro e w' ⟨rfl, hb⟩
  have B1 : Hid (Below w.heap.size w w') := ((Below.refl _ _).alloc (Nat.le_refl _) _).trans (hb.mono (by simp))
  clear hb
  go_wp2_with fail
  go_ret
  exact ⟨rfl, B1.out⟩
/-- Whether one of the first n is so. -/
def anyN (p : Nat → Bool) (n : Nat) : Bool := (List.range n).any p
theorem anyN_succ (p : Nat → Bool) (n : Nat) : anyN p (n + 1) = (anyN p n || p n) := by unfold anyN; rw [List.range_succ, List.any_append]; simp
theorem anyN_iff {p : Nat → Bool} {n : Nat} : anyN p n = true ↔ ∃ k, k < n ∧ p k = true := by unfold anyN; simp [List.any_eq_true]
theorem anyN_none {p : Nat → Bool} {n : Nat} : anyN p n = false ↔ ∀ k, k < n → p k = false := by unfold anyN; simp [List.any_eq_false]
theorem cAt_of {l : List Col} {k : Nat} {q : Col} (h : l[k]? = some q) : cAt l k = q := by
  unfold cAt; rw [List.getD_eq_getElem?_getD, h]; rfl
set_option maxHeartbeats 2000000 in
set_option maxRecDepth 100000 in
theorem index_wrong (p : Nat → Bool) (s : Value) (w : World) (l : List Col) (row : RowK .u8 w s l) (hl : l.length ≤ 70000) (hp : ∀ k q, l[k]? = some q → (!rightC q) = p k) :
    Calls Try.prog 54 #[s, .func (.func 33) #[] #[]] w fun e w' => ∃ z : Int, e = .returned (.int .i64 z) ∧ ((z = -1 ∧ ∀ k, k < l.length → p k = false) ∨ ∃ k : Nat, k < l.length ∧ z = (k : Int) ∧ p k = true ∧ ∀ j, j < k → p j = false) ∧ Below w.heap.size w w' := by
  obtain ⟨ao, c, rfl⟩ := row.shape
  obtain ⟨n, hn⟩ : ∃ n, l.length = n := ⟨_, rfl⟩
  rw [hn] at row hl ⊢
  have HN := Lib.hid hn
  have HROW := Lib.hid row
  have HL := Lib.hid hl
  have HF : Hid (∀ k q W, l[k]? = some q → Calls Try.prog 33 #[.agg #[.int .u8 (q 0), .int .u8 (q 1), .int .u8 (q 2), .int .u8 (q 3)]] W fun e w' => e = .returned (.bool (p k)) ∧ Below W.heap.size W w') := fun k q W hq => by
    rw [← hp k q hq]; exact isWrong_c q W
  clear hn row hl hp
  go_enter Try.func54, Try.ntmps54
  go_wp2_with fail
  go_loopw [8] (fun i wr => ∃ k : Nat, k ≤ n ∧ i = .int .i64 k ∧ Hid (anyN p k = false ∧ Below w.heap.size w wr)) (fun i _ => n - (intOf i).toNat)
  case atStart => exact ⟨0, by omega, rfl, rfl, Below.refl _ _⟩
  case round =>
    obtain ⟨k, hk, rfl, hw⟩ := hrel
    by_cases hlt : k < n
    · have hd : decide ((k : Int) < (n : Int)) = true := by simp; omega
      obtain ⟨q, hq⟩ : ∃ q, l[k]? = some q := ⟨_, List.getElem?_eq_getElem (by rw [HN.out]; exact hlt)⟩
      have HQ := Lib.hid hq
      obtain ⟨b, o, hs, hbs, hcs⟩ := RowK.addr (HROW.out.on hw.out.2) (by rw [HN.out]; omega)
      have hc4 := hcs k q hq
      obtain ⟨c1, c2, c3, c4⟩ := hc4
      obtain rfl := hs
      have hl := HL.out
      clear hq hbs hcs
      go_wp2_with fail
      refine (HF.out k q _ HQ.out).mono ?_
      rintro e w' ⟨rfl, hb⟩
      have B1 : Hid (Below w.heap.size w w') := hw.out.2.trans (hb.mono hw.out.2.size)
      obtain ⟨r, hr⟩ : ∃ r, p k = r := ⟨_, rfl⟩
      have HR := Lib.hid hr
      rw [hr]
      clear hb hr c1 c2 c3 c4
      cases r
      · go_wp2_with fail
        exact ⟨⟨k + 1, by omega, by go_num, by rw [anyN_succ, hw.out.1, HR.out]; rfl, B1.out⟩, by simp [intOf]; omega⟩
      · go_wp2_with fail
        go_ret
        exact ⟨_, rfl, .inr ⟨k, hlt, rfl, HR.out, anyN_none.1 hw.out.1⟩, B1.out⟩
    · have hd : decide ((k : Int) < (n : Int)) = false := by simp; omega
      have hkn : Hid (k = n) := by unfold Hid; omega
      go_wp2_with fail
      go_ret
      exact ⟨_, rfl, .inl ⟨rfl, fun j hj => anyN_none.1 hw.out.1 j (by have := hkn.out; omega)⟩, hw.out.2⟩
theorem all_right (l : List Col) : l.all rightC = !anyN (fun k => !rightC (cAt l k)) l.length := by
  rw [Bool.eq_iff_iff, Bool.not_eq_true', anyN_none, List.all_eq_true]
  constructor
  · intro h k hk
    rw [h _ (List.mem_of_getElem? (cAt_some hk))]; rfl
  · intro h x hx
    obtain ⟨k, hk, rfl⟩ := List.getElem_of_mem hx
    have := h k hk
    rw [cAt_of (List.getElem?_eq_getElem hk)] at this
    simpa using this
set_option maxHeartbeats 2000000 in
set_option maxRecDepth 100000 in
theorem contains_wrong (s : Value) (w : World) (l : List Col) (row : RowK .u8 w s l) (hl : l.length ≤ 70000) : Calls Try.prog 39 #[s, .func (.func 33) #[] #[]] w fun e w' => e = .returned (.bool (!l.all rightC)) ∧ Below w.heap.size w w' := by
  have HF := Lib.hid (index_wrong (fun k => !rightC (cAt l k)) s w l row hl (fun k q hq => by rw [cAt_of hq]))
  obtain ⟨ao, c, rfl⟩ := row.shape
  rw [all_right, Bool.not_not]
  obtain ⟨r, hr⟩ : ∃ r, anyN (fun k => !rightC (cAt l k)) l.length = r := ⟨_, rfl⟩
  rw [hr]
  have HR := Lib.hid hr
  clear row hl hr
  go_enter Try.func39, Try.ntmps39
  go_wp2_with fail
  refine (HF.out).mono ?_
  rintro e w' ⟨z, rfl, hz, hb⟩
  have HB := Lib.hid hb
  have hz2 : decide (z ≥ 0) = r := by
    rw [← HR.out, Bool.eq_iff_iff, anyN_iff, decide_eq_true_eq]
    rcases hz with ⟨h1, h2⟩ | ⟨k, h1, h2, h3, _⟩
    · constructor
      · intro h; omega
      · rintro ⟨k, hk, hp⟩; rw [h2 k hk] at hp; cases hp
    · exact ⟨fun _ => ⟨k, h1, h3⟩, fun _ => by omega⟩
  have HZ := Lib.hid hz2
  clear hb hz hz2
  go_wp2_with fail
  go_ret
  exact ⟨retB HZ.out, HB.out⟩
theorem errIm_no : errIm false = 30 := rfl
theorem errIm_yes : errIm true = 0 := rfl
theorem mul_sides {W H : Int} (h1 : 1 ≤ W) (h2 : W ≤ 256) (h3 : 1 ≤ H) (h4 : H ≤ 256) : 1 ≤ W * H ∧ W * H ≤ 65536 := by
  have a : 0 ≤ (W - 1) * H := Int.mul_nonneg (by omega) (by omega)
  have b : 0 ≤ (256 - W) * H := Int.mul_nonneg (by omega) (by omega)
  rw [Int.sub_mul] at a b
  omega
set_option maxHeartbeats 2000000 in
set_option maxRecDepth 100000 in
theorem checkOk : CheckOk := by
  intro W H s l w row hok hl
  have B0 : Below w.heap.size w (w.alloc (.cells #[.int .i64 W, .int .i64 H, s] 24)) := (Below.refl _ _).alloc (Nat.le_refl _) _
  have HC := Lib.hid (contains_wrong s _ l (row.on B0) hl)
  have HB0 := Lib.hid B0
  clear B0
  obtain ⟨ao, c, rfl⟩ := row.shape
  clear row hok
  obtain ⟨sW, hsW⟩ : ∃ r, sideI W = r := ⟨_, rfl⟩
  obtain ⟨sH, hsH⟩ : ∃ r, sideI H = r := ⟨_, rfl⟩
  have HW := Lib.hid (isSide_c W sW hsW)
  have HH := Lib.hid (isSide_c H sH hsH)
  cases sW with
  | false =>
    rw [rightIm_no (by have := sideI_no.1 hsW; omega), errIm_no]
    clear hsW hsH hl HC HH
    go_enter Try.func15, Try.ntmps15
    go_wp2_with fail
    refine (HW.out _).mono ?_
    rintro e w' ⟨rfl, rfl⟩
    go_wp2_with fail
    go_ret
    exact ⟨rfl, HB0.out⟩
  | true =>
    cases sH with
    | false =>
      rw [rightIm_no (by have := sideI_no.1 hsH; omega), errIm_no]
      clear hsW hsH hl HC
      go_enter Try.func15, Try.ntmps15
      go_wp2_with fail
      refine (HW.out _).mono ?_
      rintro e w' ⟨rfl, rfl⟩
      go_wp2_with fail
      refine (HH.out _).mono ?_
      rintro e w' ⟨rfl, rfl⟩
      go_wp2_with fail
      go_ret
      exact ⟨rfl, HB0.out⟩
    | true =>
      have sw := sideI_iff.1 hsW
      have sh := sideI_iff.1 hsH
      have hm := mul_sides sw.1 sw.2 sh.1 sh.2
      have hwm : wrap64 (W * H) = W * H := wrapR _ (by omega) (by omega)
      obtain ⟨n, hn⟩ : ∃ n, l.length = n := ⟨_, rfl⟩
      have HN := Lib.hid hn
      by_cases he : (n : Int) = W * H
      · have d1 : decide ((n : Int) = W * H) = true := by simpa using he
        have hri : rightIm W H l = l.all rightC := by
          rw [Bool.eq_iff_iff, rightIm_iff, hn]
          exact ⟨fun h => h.2.2.2.2.2, fun h => ⟨sw.1, sw.2, sh.1, sh.2, he, h⟩⟩
        rw [hri]
        rw [hn] at HC HB0 ⊢
        obtain ⟨q, hq⟩ : ∃ q, W * H = q := ⟨_, rfl⟩
        rw [hq] at hwm he d1
        have d3 : ((n : Int) != q) = false := by simpa using he
        obtain ⟨r, hr⟩ : ∃ r, l.all rightC = r := ⟨_, rfl⟩
        rw [hr] at HC ⊢
        have HWM := Lib.hid hwm
        have HMQ := Lib.hid hq
        have hx1 : wrap64 (W * H) = q := by rw [hq]; exact hwm
        have hx2 : IntKind.i64.wrap (W * H) = q := (wrap_is _).trans hx1
        clear hsW hsH hl sw sh hm hri hn hr he hwm hq
        cases r
        · go_enter Try.func15, Try.ntmps15
          go_wp2_with fail
          refine (HW.out _).mono ?_
          rintro e w' ⟨rfl, rfl⟩
          go_wp2_with fail
          refine (HH.out _).mono ?_
          rintro e w' ⟨rfl, rfl⟩
          go_wp2_with fail
          refine (HC.out).mono ?_
          rintro e w1 ⟨rfl, hb⟩
          have B1 : Hid (Below w.heap.size w w1) := HB0.out.trans (hb.mono HB0.out.size)
          clear hb
          go_wp2_with fail
          go_ret
          exact ⟨rfl, B1.out⟩
        · go_enter Try.func15, Try.ntmps15
          go_wp2_with fail
          refine (HW.out _).mono ?_
          rintro e w' ⟨rfl, rfl⟩
          go_wp2_with fail
          refine (HH.out _).mono ?_
          rintro e w' ⟨rfl, rfl⟩
          go_wp2_with fail
          refine (HC.out).mono ?_
          rintro e w1 ⟨rfl, hb⟩
          have B1 : Hid (Below w.heap.size w w1) := HB0.out.trans (hb.mono HB0.out.size)
          clear hb
          go_wp2_with fail
          go_ret
          exact ⟨rfl, B1.out⟩
      · have d1 : decide ((n : Int) = W * H) = false := by simpa using he
        rw [rightIm_no (by rw [hn]; exact fun h => he h.2.2.2.2.1), errIm_no]
        rw [hn] at HB0 ⊢
        obtain ⟨q, hq⟩ : ∃ q, W * H = q := ⟨_, rfl⟩
        have hx1 : wrap64 (W * H) = q := by rw [← hq]; exact hwm
        have hx2 : IntKind.i64.wrap (W * H) = q := (wrap_is _).trans hx1
        rw [hq] at d1 he
        have d3 : ((n : Int) != q) = true := by simpa using he
        clear hsW hsH hl sw sh hm hn he hwm hq HC
        go_enter Try.func15, Try.ntmps15
        go_wp2_with fail
        refine (HW.out _).mono ?_
        rintro e w' ⟨rfl, rfl⟩
        go_wp2_with fail
        refine (HH.out _).mono ?_
        rintro e w' ⟨rfl, rfl⟩
        go_wp2_with fail
        go_ret
        exact ⟨rfl, HB0.out⟩
theorem rightOk : RightOk := fun c w _ => pRight_c c w
end Go.Proofs.Ytoppmlfibllhlaa
