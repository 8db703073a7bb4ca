/- Layer 14: package store: may a header be laid; what it uses. -/
import Derived.Test.YtdcjchakgfpgaaaHe
import Derived.Test.YtdcjchakgfpgaaaCm
import Derived.Test.YtdcjchakgfpgaaaHl
namespace Go.Proofs.Ytdcjchakgfpgaaa
open Go.RowKit
theorem or_byte (a x : Int) (hx : 0 ≤ x ∧ x ≤ 255) : bits .or .i64 (wrap64 (a * 256)) x = wrap64 (a * 256 + x) := by
  unfold bits
  simp only
  show IntKind.i64.wrap (((BitVec.ofInt 64 (wrap64 (a * 256))) ||| (BitVec.ofInt 64 x)).toNat : Int) = _
  obtain ⟨m, hm⟩ : ∃ m : Nat, a % 72057594037927936 = (m : Int) := ⟨(a % 72057594037927936).toNat, by omega⟩
  obtain ⟨y, rfl⟩ : ∃ y : Nat, x = (y : Int) := ⟨x.toNat, by omega⟩
  have e1 : (BitVec.ofInt 64 (wrap64 (a * 256))).toNat = m * 2 ^ 8 := by
    rw [BitVec.toNat_ofInt]
    unfold wrap64
    have : ((2 ^ 64 : Nat) : Int) = 18446744073709551616 := by decide
    rw [this]
    omega
  have e2 : (BitVec.ofInt 64 (y : Int)).toNat = y := by
    rw [BitVec.ofInt_natCast, BitVec.toNat_ofNat, Nat.mod_eq_of_lt (by omega)]
  have e := Nat.shiftLeft_add_eq_or_of_lt (show y < 2 ^ 8 by omega) m
  rw [Nat.shiftLeft_eq] at e
  rw [BitVec.toNat_or, e1, e2, ← e, wrap_is]
  unfold wrap64
  omega
set_option maxHeartbeats 4000000 in
set_option maxRecDepth 100000 in
theorem num14_c (s : Value) (E : List Int) (w : World) (row : RowB w s E) (hE : OkB E) (hl : E.length ≤ 8) : Calls Try.prog 29 #[s] w fun e w' => e = .returned (.int .i64 (wrap64 (wordL E))) ∧ w = w' := by
  obtain ⟨ao, ac, rfl⟩ := row.shape
  obtain ⟨n, hn⟩ : ∃ n, E.length = n := ⟨_, rfl⟩
  have HN := Lib.hid hn
  have HR := Lib.hid row
  have HE := Lib.hid hE
  have HL : Hid (n ≤ 8) := by rw [← hn]; exact hl
  rw [hn] at HR ⊢
  clear row hE hl hn
  go_enter Try.func29, Try.ntmps29
  go_wp2_with fail
  go_loopw [3, 5, 8] (fun s3 s5 s8 wr => ∃ k : Nat, k ≤ n ∧ s8 = .int .i64 (k : Int) ∧ s3 = .int .i64 (wrap64 (wordL (E.take k))) ∧ Hid (wr = w)) (fun _ _ s8 _ => n - (intOf s8).toNat)
  case atStart => exact ⟨0, by omega, rfl, by rw [List.take_zero]; exact congrArg (Value.int .i64) (show (0 : Int) = wrap64 (wordL []) by have h : wordL [] = 0 := rfl; rw [h]; exact (wrapR 0 (by decide) (by decide)).symm), rfl⟩
  case round =>
    obtain ⟨k, hk, rfl, rfl, hw⟩ := hrel
    have hw' := hw.out
    subst hw'
    clear hw
    by_cases hlt : k < n
    · have hd : decide ((k : Int) < (n : Int)) = true := by simp; omega
      have hki : (k : Int) < (n : Int) := by omega
      obtain ⟨b, of, rfl, hb, hc⟩ := RowB.addr HR.out (by rw [HN.out]; omega)
      have hx := bAt_some (E := E) (k := k) (by rw [HN.out]; exact hlt)
      have c0 := hc k _ hx
      have hxr := HE.out _ (List.mem_of_getElem? hx)
      generalize hxe : bAt E k = x at *
      have HTK : Hid (wordL (E.take (k + 1)) = wordL (E.take k) * 256 + x) := by
        rw [Hid, List.take_add_one, hx, Option.toList_some, wordL_snoc]
      obtain ⟨a, ha⟩ : ∃ a, wordL (E.take k) = a := ⟨_, rfl⟩
      have HOR : Hid (bits .or .i64 (wrap64 (wrap64 a * 256)) (wrap64 x) = wrap64 (a * 256 + x)) := by
        rw [wrapR x (by omega) (by omega)]
        have : wrap64 (wrap64 a * 256) = wrap64 (a * 256) := by unfold wrap64; omega
        rw [this]
        exact or_byte a x hxr
      rw [ha]
      rw [ha] at HTK
      clear hb hc hx hxe hxr ha
      have hl9 := HL.out
      go_wp2_with fail
      exact ⟨⟨k + 1, by omega, by go_num, by rw [HTK.out]; exact congrArg (Value.int .i64) HOR.out, by first | exact Lib.hid rfl | exact Lib.hid trivial⟩, by simp [intOf]; omega⟩
    · have hd : decide ((k : Int) < (n : Int)) = false := by simp; omega
      have hkn : E.take k = E := List.take_of_length_le (by rw [HN.out]; omega)
      rw [hkn]
      clear hkn
      go_wp2_with fail
      go_ret
      exact ⟨rfl, rfl⟩
end Go.Proofs.Ytdcjchakgfpgaaa
namespace Go.Proofs.Ytdcjchakgfpgaaa
open Go.RowKit
theorem OwnB.store {w : World} {base g n cap k : Nat} {E : List Int} (h : OwnB w base (.slice (some ⟨g, 0, none⟩) n cap) E) (hk : k < n) (x : Int) : OwnB (w.setCell ⟨g, k, none⟩ (.int .u8 x)) base (.slice (some ⟨g, 0, none⟩) n cap) (E.set k x) := by
  obtain ⟨a, c, e⟩ := h.shape
  have hn : E.length = n := by
    cases e
    rfl
  unfold OwnB at *
  have e : bytV (E.set k x) = (bytV E).set k (.int .u8 x) := by unfold bytV; rw [List.map_set]
  rw [List.length_set, e, hn]
  rw [hn] at h
  exact owns_set h (by omega) _
theorem OwnB.at' {w : World} {base g n c q : Nat} {R : List Int} (h : OwnB w base (.slice (some ⟨g, 0, none⟩) n c) R) (hn : R.length = n) (hq : q < n) : w.cell? ⟨g, q, none⟩ = some (.int .u8 (bAt R q)) ∧ w.frozen? ⟨g, q, none⟩ = false ∧ g < w.heap.size := by
  have key := World.ownsRow.cells h (g := g) rfl q (.int .u8 (bAt R q)) (by unfold bytV; rw [List.getElem?_map, bAt_some (by omega)]; rfl)
  rw [show (⟨g, 0, none⟩ : Addr).add q = ⟨g, 0 + q, none⟩ from Addr.add_lit .., Nat.zero_add] at key
  refine ⟨key, ?_, (World.ownsRow.lt h g rfl).2⟩
  obtain ⟨_, ⟨e, _⟩ | ⟨g', cap', cur, e, hb, hg, _⟩⟩ := h
  · cases e
  · cases e; exact Joins.unfrozen_of_block hg _
theorem layB_cons (A B : List Int) (x : Int) (q : Nat) : layB A (x :: B) (q : Int) = (layB A B ((q + 1 : Nat) : Int)).set q x := by
  apply List.ext_getElem?
  intro i
  by_cases hi : i < A.length
  · rw [bAt_some (by rw [layB_len]; exact hi), layB_at _ _ _ hi, List.getElem?_set]
    unfold layV
    by_cases e : q = i
    · subst e
      rw [if_pos rfl, layB_len, if_pos hi, if_pos ⟨by omega, by simp; omega⟩]
      congr 1
      rw [Int.sub_self]
      rfl
    · rw [if_neg e, bAt_some (by rw [layB_len]; exact hi), layB_at _ _ _ hi]
      congr 1
      unfold layV
      by_cases h : (q : Int) ≤ (i : Int) ∧ (i : Int) < (q : Int) + (x :: B).length
      · have h2 := h.2
        rw [List.length_cons] at h2
        rw [if_pos h, if_pos ⟨by omega, by omega⟩]
        obtain ⟨j, rfl⟩ : ∃ j, i = q + 1 + j := ⟨i - (q + 1), by omega⟩
        rw [show (((q + 1 + j : Nat) : Int) - (q : Int)).toNat = j + 1 by omega, show (((q + 1 + j : Nat) : Int) - ((q + 1 : Nat) : Int)).toNat = j by omega]
        rfl
      · rw [if_neg h, if_neg (fun h2 => h ⟨by omega, by have := h2.2; rw [List.length_cons]; omega⟩)]
  · rw [List.getElem?_eq_none (by rw [layB_len]; omega), List.getElem?_eq_none (by rw [List.length_set, layB_len]; omega)]
set_option maxHeartbeats 4000000 in
set_option maxRecDepth 100000 in
theorem lay14_c (g N c off m : Nat) (cc : Nat) (A : List Int) (n : Int) (w : World) (own : OwnB w 0 (.slice (some ⟨g, 0, none⟩) N c) A) (hA : A.length = N) (hf : off + m ≤ N) (hN : N ≤ 100000) (hm : m ≤ 8) (_hn : 0 ≤ n ∧ n ≤ 9223372036854775807) :
    Calls Try.prog 27 #[.slice (some ⟨g, off, none⟩) m cc, .int .i64 n] w fun e w' => e = .returned (.tuple #[]) ∧ OwnB w' 0 (.slice (some ⟨g, 0, none⟩) N c) (layB A (lowI n m) (off : Int)) ∧ Keep (fun k => k ≠ g) w w' := by
  have HO := Lib.hid own
  have HA := Lib.hid hA
  have HF : Hid (off + m ≤ N ∧ N ≤ 100000 ∧ m ≤ 8) := ⟨hf, hN, hm⟩
  clear own hA hf hN hm
  go_enter Try.func27, Try.ntmps27
  go_wp2_with fail
  go_loopw [4, 7] (fun s4 s7 wr => ∃ k q : Nat, k + q = m ∧ s7 = .int .i64 (k : Int) ∧ Hid (OwnB wr 0 (.slice (some ⟨g, 0, none⟩) N c) (layB A (lowI n k) ((off + q : Nat) : Int)) ∧ Keep (fun k => k ≠ g) w wr)) (fun _ s7 _ => m - (intOf s7).toNat)
  case atStart => exact ⟨0, m, by omega, rfl, by rw [show lowI n 0 = [] from rfl, layB_nil]; exact HO.out, Keep.refl _ _⟩
  case round =>
    obtain ⟨k, q, hkq, rfl, hw⟩ := hrel
    cases q with
    | succ q =>
      have hd : decide ((k : Int) < (m : Int)) = true := by simp; omega
      have hl9 := HF.out
      have e1 : wrap64 (wrap64 ((m : Int) - 1) - (k : Int)) = (q : Int) := by rw [wrapR ((m : Int) - 1) (by omega) (by omega), wrapR _ (by omega) (by omega)]; omega
      have hm8 : wrap64 (8 * (k : Int)) = ((8 * k : Nat) : Int) := by rw [wrapR _ (by omega) (by omega)]; omega
      have hlt : off + q < N := by omega
      have hq : m - 1 - k = q := by omega
      have hqm : (q : Int) < (m : Int) := by omega
      obtain ⟨cz, fz, hg⟩ := OwnB.at' hw.out.1 (by rw [layB_len, HA.out]) hlt
      obtain ⟨x, hx⟩ : ∃ x, n / 2 ^ (8 * k) % 256 = x := ⟨_, rfl⟩
      have HS : Hid (OwnB (wr.setCell ⟨g, off + q, none⟩ (.int .u8 x)) 0 (.slice (some ⟨g, 0, none⟩) N c) (layB A (lowI n (k + 1)) ((off + q : Nat) : Int)) ∧ Keep (fun k => k ≠ g) w (wr.setCell ⟨g, off + q, none⟩ (.int .u8 x))) := by
        refine ⟨?_, hw.out.2.trans (Keep.setCell _ _ _ (by simp))⟩
        have e : lowI n (k + 1) = x :: lowI n k := by rw [lowI, ← hx, Int.pow_mul]; rfl
        rw [e, layB_cons]
        exact hw.out.1.store hlt x
      generalize bAt (layB A (lowI n k) ((off + (q + 1) : Nat) : Int)) (off + q) = old at cz
      have HQ := Lib.hid hkq
      have hkm : k < m := by omega
      rw [← hq] at cz fz HS
      clear hw hlt hkq hq e1 hqm
      go_wp2_with fail
      exact ⟨⟨k + 1, m - 1 - k, by have := HQ.out; omega, by go_num, HS.out⟩, by simp [intOf]; have := HQ.out; omega⟩
    | zero =>
      have hkm : k = m := by omega
      have hd : decide ((k : Int) < (m : Int)) = false := by simp; omega
      have HS : Hid (OwnB wr 0 (.slice (some ⟨g, 0, none⟩) N c) (layB A (lowI n m) (off : Int)) ∧ Keep (fun k => k ≠ g) w wr) := by rw [← hkm]; exact hw.out
      clear hw hkm
      go_wp2_with fail
      go_end0
      exact ⟨rfl, HS.out⟩
end Go.Proofs.Ytdcjchakgfpgaaa
namespace Go.Proofs.Ytdcjchakgfpgaaa
open Go.RowKit
def rngH (h : Hd) : Prop := rngI h.gen ∧ rngI h.half ∧ rngI h.snap ∧ rngI h.log
/-- Has each number of a header room in its bytes? -/
def encOk (h : Hd) : Prop := 0 ≤ h.gen ∧ 0 ≤ h.half ∧ h.half ≤ 1 ∧ 0 ≤ h.snap ∧ h.snap ≤ 2147483648 ∧ 0 ≤ h.log ∧ h.log ≤ 2147483648
instance (h : Hd) : Decidable (encOk h) := by unfold encOk; infer_instance
/-- What Encode tells. -/
def encI (h : Hd) (size : Int) : List Int := if 32 ≤ size ∧ encOk h then hdrB h size.toNat else []
theorem hd_cells {w w1 : World} {h : Hd} {t : TypeId} (hw : w.alloc (.cells #[.int .i64 h.gen, .int .i64 h.half, .int .i64 h.snap, .int .i64 h.log] t) = w1) : Below w.heap.size w w1 ∧ Blk w1 w.heap.size t (hdC h) := by
  subst hw
  exact ⟨(Below.refl _ _).alloc (Nat.le_refl _) _, Blk.new _ _ _⟩
set_option maxHeartbeats 4000000 in
set_option maxRecDepth 100000 in
theorem encodable_c (h : Hd) (w : World) : Calls Try.prog 26 #[hdV h] w fun e w' => e = .returned (.bool (decide (encOk h))) ∧ Below w.heap.size w w' := by
  obtain ⟨g, a, s, l⟩ := h
  obtain ⟨w1, hw1⟩ : ∃ WW, w.alloc (.cells #[.int .i64 g, .int .i64 a, .int .i64 s, .int .i64 l] 23) = WW := ⟨_, rfl⟩
  have H1 : Hid (Below w.heap.size w w1) := (hd_cells (h := ⟨g, a, s, l⟩) hw1).1
  have B1 := (hd_cells (h := ⟨g, a, s, l⟩) hw1).2
  have c0 : w1.cell? ⟨w.heap.size, 0, none⟩ = some (.int .i64 g) := B1.cell 0
  have c1 : w1.cell? ⟨w.heap.size, 1, none⟩ = some (.int .i64 a) := B1.cell 1
  have c2 : w1.cell? ⟨w.heap.size, 2, none⟩ = some (.int .i64 s) := B1.cell 2
  have c3 : w1.cell? ⟨w.heap.size, 3, none⟩ = some (.int .i64 l) := B1.cell 3
  have HE : Hid (∀ b, b = decide (0 ≤ g ∧ 0 ≤ a ∧ a ≤ 1 ∧ 0 ≤ s ∧ s ≤ 2147483648 ∧ 0 ≤ l ∧ l ≤ 2147483648) → b = decide (encOk ⟨g, a, s, l⟩)) := fun b hb => by rw [hb]; rfl
  clear B1
  go_enter Try.func26, Try.ntmps26
  by_cases k0 : ¬ 0 ≤ g
  · have e0 : decide (g ≥ 0) = false := by simp; omega
    have hno : ¬ (0 ≤ g ∧ 0 ≤ a ∧ a ≤ 1 ∧ 0 ≤ s ∧ s ≤ 2147483648 ∧ 0 ≤ l ∧ l ≤ 2147483648) := by omega
    have HNO : Hid (false = decide (encOk ⟨g, a, s, l⟩)) := HE.out false (by simp only [hno, decide_false])
    clear hno
    go_upto_region 1 with fail
    try rw [hw1]
    go_wp2_with fail
    go_ret
    exact ⟨by rw [← HNO.out]; exact rfl, H1.out⟩
  replace k0 := Classical.not_not.1 k0
  have e0 : decide (g ≥ 0) = true := by simp; omega
  by_cases k1 : ¬ 0 ≤ a
  · have e1 : decide (0 ≤ a) = false := by simp; omega
    have hno : ¬ (0 ≤ g ∧ 0 ≤ a ∧ a ≤ 1 ∧ 0 ≤ s ∧ s ≤ 2147483648 ∧ 0 ≤ l ∧ l ≤ 2147483648) := by omega
    have HNO : Hid (false = decide (encOk ⟨g, a, s, l⟩)) := HE.out false (by simp only [hno, decide_false])
    clear hno
    go_upto_region 1 with fail
    try rw [hw1]
    go_wp2_with fail
    go_ret
    exact ⟨by rw [← HNO.out]; exact rfl, H1.out⟩
  replace k1 := Classical.not_not.1 k1
  have e1 : decide (0 ≤ a) = true := by simp; omega
  by_cases k2 : ¬ a ≤ 1
  · have e2 : decide (a < 2) = false := by simp; omega
    have hno : ¬ (0 ≤ g ∧ 0 ≤ a ∧ a ≤ 1 ∧ 0 ≤ s ∧ s ≤ 2147483648 ∧ 0 ≤ l ∧ l ≤ 2147483648) := by omega
    have HNO : Hid (false = decide (encOk ⟨g, a, s, l⟩)) := HE.out false (by simp only [hno, decide_false])
    clear hno
    go_upto_region 1 with fail
    try rw [hw1]
    go_wp2_with fail
    go_ret
    exact ⟨by rw [← HNO.out]; exact rfl, H1.out⟩
  replace k2 := Classical.not_not.1 k2
  have e2 : decide (a < 2) = true := by simp; omega
  by_cases k3 : ¬ 0 ≤ s
  · have e3 : decide (0 ≤ s) = false := by simp; omega
    have hno : ¬ (0 ≤ g ∧ 0 ≤ a ∧ a ≤ 1 ∧ 0 ≤ s ∧ s ≤ 2147483648 ∧ 0 ≤ l ∧ l ≤ 2147483648) := by omega
    have HNO : Hid (false = decide (encOk ⟨g, a, s, l⟩)) := HE.out false (by simp only [hno, decide_false])
    clear hno
    go_upto_region 1 with fail
    try rw [hw1]
    go_wp2_with fail
    go_ret
    exact ⟨by rw [← HNO.out]; exact rfl, H1.out⟩
  replace k3 := Classical.not_not.1 k3
  have e3 : decide (0 ≤ s) = true := by simp; omega
  by_cases k4 : ¬ s ≤ 2147483648
  · have e4 : decide (s ≤ 2147483648) = false := by simp; omega
    have hno : ¬ (0 ≤ g ∧ 0 ≤ a ∧ a ≤ 1 ∧ 0 ≤ s ∧ s ≤ 2147483648 ∧ 0 ≤ l ∧ l ≤ 2147483648) := by omega
    have HNO : Hid (false = decide (encOk ⟨g, a, s, l⟩)) := HE.out false (by simp only [hno, decide_false])
    clear hno
    go_upto_region 1 with fail
    try rw [hw1]
    go_wp2_with fail
    go_ret
    exact ⟨by rw [← HNO.out]; exact rfl, H1.out⟩
  replace k4 := Classical.not_not.1 k4
  have e4 : decide (s ≤ 2147483648) = true := by simp; omega
  by_cases k5 : ¬ 0 ≤ l
  · have e5 : decide (0 ≤ l) = false := by simp; omega
    have hno : ¬ (0 ≤ g ∧ 0 ≤ a ∧ a ≤ 1 ∧ 0 ≤ s ∧ s ≤ 2147483648 ∧ 0 ≤ l ∧ l ≤ 2147483648) := by omega
    have HNO : Hid (false = decide (encOk ⟨g, a, s, l⟩)) := HE.out false (by simp only [hno, decide_false])
    clear hno
    go_upto_region 1 with fail
    try rw [hw1]
    go_wp2_with fail
    go_ret
    exact ⟨by rw [← HNO.out]; exact rfl, H1.out⟩
  replace k5 := Classical.not_not.1 k5
  have e5 : decide (0 ≤ l) = true := by simp; omega
  by_cases k6 : ¬ l ≤ 2147483648
  · have e6 : decide (l ≤ 2147483648) = false := by simp; omega
    have hno : ¬ (0 ≤ g ∧ 0 ≤ a ∧ a ≤ 1 ∧ 0 ≤ s ∧ s ≤ 2147483648 ∧ 0 ≤ l ∧ l ≤ 2147483648) := by omega
    have HNO : Hid (false = decide (encOk ⟨g, a, s, l⟩)) := HE.out false (by simp only [hno, decide_false])
    clear hno
    go_upto_region 1 with fail
    try rw [hw1]
    go_wp2_with fail
    go_ret
    exact ⟨by rw [← HNO.out]; exact rfl, H1.out⟩
  replace k6 := Classical.not_not.1 k6
  have e6 : decide (l ≤ 2147483648) = true := by simp; omega
  have HNO : Hid (true = decide (encOk ⟨g, a, s, l⟩)) := HE.out true (by rw [decide_eq_true]; omega)
  go_upto_region 1 with fail
  try rw [hw1]
  go_wp2_with fail
  go_ret
  exact ⟨by rw [← HNO.out]; exact rfl, H1.out⟩
set_option maxHeartbeats 4000000 in
set_option maxRecDepth 100000 in
theorem used_c (h : Hd) (w : World) (h0 : 0 ≤ h.snap ∧ h.snap ≤ 4611686018427387904) (h1 : 0 ≤ h.log ∧ h.log ≤ 4611686018427387903) : Calls Try.prog 30 #[hdV h] w fun e w' => e = .returned (.int .i64 (h.snap + h.log)) ∧ Below w.heap.size w w' := by
  obtain ⟨g, a, s, l⟩ := h
  obtain ⟨w1, hw1⟩ : ∃ WW, w.alloc (.cells #[.int .i64 g, .int .i64 a, .int .i64 s, .int .i64 l] 23) = WW := ⟨_, rfl⟩
  have H1 : Hid (Below w.heap.size w w1) := (hd_cells (h := ⟨g, a, s, l⟩) hw1).1
  have B1 := (hd_cells (h := ⟨g, a, s, l⟩) hw1).2
  have c2 : w1.cell? ⟨w.heap.size, 2, none⟩ = some (.int .i64 s) := B1.cell 2
  have c3 : w1.cell? ⟨w.heap.size, 3, none⟩ = some (.int .i64 l) := B1.cell 3
  dsimp only at h0 h1
  have e1 : wrap64 (s + l) = s + l := wrapR _ (by omega) (by omega)
  have E1 : Hid (wrap64 (s + l) = s + l) := e1
  clear B1 h0 h1 e1
  go_enter Try.func30, Try.ntmps30
  go_upto_region 1 with fail
  try rw [hw1]
  go_wp2_with fail
  go_ret
  exact ⟨congrArg (fun x => Ending.returned (Value.int .i64 x)) E1.out, H1.out⟩
end Go.Proofs.Ytdcjchakgfpgaaa
