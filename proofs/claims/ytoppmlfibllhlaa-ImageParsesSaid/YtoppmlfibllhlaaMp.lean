/- Layer 11: package image's Parse, slices.Repeat, what bytes say. -/
import Derived.Test.YtoppmlfibllhlaaRc
import Derived.Lib.Mul64
import Derived.Test.YtoppmlfibllhlaaRs
import Derived.Test.YtoppmlfibllhlaaKp
import Derived.Test.YtoppmlfibllhlaaRv
import Derived.Test.YtoppmlfibllhlaaRo
import Derived.Test.YtoppmlfibllhlaaL
namespace Go.Proofs.Ytoppmlfibllhlaa
open Go.RowKit
/-- The lower 32 bits. -/
theorem low32 (a : Nat) (ha : a < 18446744073709551616) : bits .and .u64 (a : Int) 4294967295 = ((a % 4294967296 : Nat) : Int) := by
  rw [← Nat.and_two_pow_sub_one_eq_mod a 32]
  exact bits_and_u64_nat a 4294967295 ha (by decide)
theorem u64_of (z : Int) (n : Nat) (h : z = n) (hn : n < 18446744073709551616) : IntKind.u64.wrap z = (n : Int) := by
  rw [h, IntKind.wrap_u64]; omega
set_option maxHeartbeats 1000000 in
theorem mul64_walk (x y x0 x1 y0 y1 p t w1 w2 v hi lo : Nat)
    (E1 : bits .and .u64 (x : Int) 4294967295 = (x0 : Int)) (E2 : (x : Int) / 4294967296 = (x1 : Int)) (E3 : bits .and .u64 (y : Int) 4294967295 = (y0 : Int)) (E4 : (y : Int) / 4294967296 = (y1 : Int))
    (E5 : IntKind.u64.wrap ((x0 : Int) * (y0 : Int)) = (p : Int)) (E6 : IntKind.u64.wrap (IntKind.u64.wrap ((x1 : Int) * (y0 : Int)) + (p : Int) / 4294967296) = (t : Int))
    (E7 : bits .and .u64 (t : Int) 4294967295 = (w1 : Int)) (E8 : (t : Int) / 4294967296 = (w2 : Int)) (E9 : IntKind.u64.wrap ((w1 : Int) + IntKind.u64.wrap ((x0 : Int) * (y1 : Int))) = (v : Int))
    (E10 : IntKind.u64.wrap (IntKind.u64.wrap (IntKind.u64.wrap ((x1 : Int) * (y1 : Int)) + (w2 : Int)) + (v : Int) / 4294967296) = (hi : Int)) (E11 : IntKind.u64.wrap ((x : Int) * (y : Int)) = (lo : Int)) (w : World) :
    Calls Try.prog 76 #[.int .u64 x, .int .u64 y] w fun e w' => e = .returned (.tuple #[.int .u64 (hi : Int), .int .u64 (lo : Int)]) ∧ w' = w := by
  go_enter Try.func76, Try.ntmps76
  go_wp2_with fail
  go_ret2
  exact ⟨rfl, rfl⟩
theorem mul64_one (n : Nat) (hn : n ≤ 1000) (w : World) : Calls Try.prog 76 #[.int .u64 ((1 : Nat) : Int), .int .u64 (n : Int)] w fun e w' => e = .returned (.tuple #[.int .u64 ((0 : Nat) : Int), .int .u64 (n : Int)]) ∧ w' = w := by
  have l1 := low32 1 (by decide)
  have l2 := low32 n (by omega)
  have l3 := low32 0 (by decide)
  rw [Nat.mod_eq_of_lt (by omega)] at l1 l2 l3
  exact mul64_walk 1 n 1 0 n 0 n 0 0 0 0 0 n l1 (by decide) l2 (by omega) (u64_of _ _ (by omega) (by omega)) (u64_of _ _ (by rw [u64_of ((((0 : Nat) : Int)) * (n : Int)) 0 (by omega) (by decide)]; omega) (by decide)) l3 (by decide) (u64_of _ _ (by rw [u64_of (((1 : Nat) : Int) * ((0 : Nat) : Int)) 0 (by omega) (by decide)]; omega) (by decide))
    (u64_of _ _ (by rw [u64_of (((0 : Nat) : Int) * ((0 : Nat) : Int)) 0 (by omega) (by decide), u64_of (((0 : Nat) : Int) + ((0 : Nat) : Int)) 0 (by omega) (by decide)]; omega) (by decide)) (u64_of _ _ (by omega) (by omega)) w
set_option maxHeartbeats 1000000 in
theorem bitsMul_c (n : Nat) (hn : n ≤ 1000) (w : World) : Calls Try.prog 66 #[.int .u64 1, .int .u64 (n : Int)] w fun e w' => e = .returned (.tuple #[.int .u64 0, .int .u64 (n : Int)]) ∧ w = w' := by
  have HM : Hid (∀ w, Calls Try.prog 76 #[.int .u64 1, .int .u64 (n : Int)] w fun e w' => e = .returned (.tuple #[.int .u64 0, .int .u64 (n : Int)]) ∧ w' = w) := fun w => mul64_one n hn w
  clear hn
  go_enter Try.func66, Try.ntmps66
  go_wp2_with fail
  refine (HM.out _).mono ?_
  rintro e w' ⟨rfl, rfl⟩
  go_wp2_with fail
  go_ret2
  exact ⟨rfl, rfl⟩
def zC : Col := fun _ => 0
/-- A row of n colours, the first m of which are c. -/
def repL (c : Col) (n m : Nat) : List Col := List.replicate m c ++ List.replicate (n - m) zC
theorem repL_len (c : Col) {n m : Nat} (h : m ≤ n) : (repL c n m).length = n := by simp [repL]; omega
theorem rep_made (n : Nat) (c : Col) : madeCells (Value.agg #[.int .u8 0, .int .u8 0, .int .u8 0, .int .u8 0]).cells (n * 4) = (flatK .u8 (repL c n 0)).toArray := by
  have hf : ∀ n, flatK .u8 (List.replicate n zC) = List.replicate (n * 4) (.int .u8 0) := fun n => by
    induction n with
    | zero => rfl
    | succ n ih =>
      rw [List.replicate_succ, flatK, ih, show (n + 1) * 4 = n * 4 + 1 + 1 + 1 + 1 by omega, List.replicate_succ, List.replicate_succ, List.replicate_succ, List.replicate_succ]
      rfl
  unfold repL
  rw [List.replicate_zero, List.nil_append, Nat.sub_zero, hf]
  apply Array.ext
  · simp [size_madeCells]
  · intro i h1 h2
    have hi : i < n * 4 := by simpa [size_madeCells] using h1
    have h4 : i % 4 < 4 := Nat.mod_lt _ (by decide)
    simp only [madeCells, Array.getElem_map, Array.getElem_range, List.getElem_toArray, List.getElem_replicate]
    have hs : (Value.agg #[.int .u8 0, .int .u8 0, .int .u8 0, .int .u8 0]).cells.size = 4 := rfl
    rw [hs]
    generalize i % 4 = j at h4 ⊢
    match j, h4 with
    | 0, _ => rfl
    | 1, _ => rfl
    | 2, _ => rfl
    | 3, _ => rfl
theorem rep_step (c : Col) {n m k : Nat} (hm : m + k ≤ n) : ((flatK .u8 (repL c n m)).toArray.toList.take (m * 4) ++ flatK .u8 (List.replicate k c) ++ (flatK .u8 (repL c n m)).toArray.toList.drop (m * 4 + (flatK .u8 (List.replicate k c)).length)).toArray = (flatK .u8 (repL c n (m + k))).toArray := by
  unfold repL
  rw [flatK_len, List.length_replicate, flatK_append, show List.replicate (n - m) zC = List.replicate k zC ++ List.replicate (n - (m + k)) zC by rw [List.replicate_append_replicate]; congr 1; omega, flatK_append, flatK_append, ← List.replicate_append_replicate (n := m) (m := k) (a := c), flatK_append]
  have h1 : (flatK .u8 (List.replicate m c)).length = m * 4 := by rw [flatK_len, List.length_replicate]
  have h2 : (flatK .u8 (List.replicate k zC)).length = k * 4 := by rw [flatK_len, List.length_replicate]
  congr 1
  simp only
  rw [List.take_append_of_le_length (by omega), List.take_of_length_le (by omega), List.drop_append, h1, List.drop_of_length_le (by omega), List.nil_append, show m * 4 + k * 4 - m * 4 = k * 4 by omega, List.drop_append, h2, List.drop_of_length_le (by omega), List.nil_append, Nat.sub_self, List.drop_zero, List.append_assoc]
theorem cols_blk {w : World} {g : Nat} {t : TypeId} {L : List Col} (h : Blk w g t (flatK .u8 L).toArray) : ColsAt .u8 w g 0 L := fun i p hp => by
  obtain ⟨e0, e1, e2, e3⟩ := flatK_at .u8 L i p hp
  unfold ColAt
  rw [h.cell, h.cell, h.cell, h.cell, Nat.zero_add]
  simp only [List.getElem?_toArray]
  exact ⟨e0, e1, e2, e3⟩
theorem rep_cols (c : Col) {n m : Nat} (_h : m ≤ n) : ∀ (i : Nat) (p : Col), (List.replicate m c)[i]? = some p → (repL c n m)[i]? = some p := fun i p hp => by
  have hi : i < m := by have := (List.getElem?_eq_some_iff.1 hp).1; simpa using this
  unfold repL
  rw [List.getElem?_append_left (by simpa using hi)]; exact hp
set_option maxHeartbeats 4000000 in
set_option maxRecDepth 100000 in
theorem repeat_c (c : Col) (n b : Nat) (hn : 1 ≤ n ∧ n ≤ 256) (w : World) (hb : b < w.heap.size) (hc : ColAt .u8 w b 0 c) : Calls Try.prog 49 #[.slice (some ⟨b, 0, none⟩) 1 1, .int .i64 (n : Int)] w fun e w' => ∃ g, e = .returned (.slice (some ⟨g, 0, none⟩) n n) ∧ g < w'.heap.size ∧ ColsAt .u8 w' g 0 (List.replicate n c) ∧ Below w.heap.size w w' := by
  have HM := Lib.hid (bitsMul_c n (by omega))
  have HN := Lib.hid hn
  have d0 : decide ((n : Int) < 0) = false := by simp
  have u1 : IntKind.u64.wrap (n : Int) = (n : Int) := u64_of _ _ rfl (by omega)
  have u2 : IntKind.i64.wrap (n : Int) = (n : Int) := (wrap_is _).trans (wrapR _ (by omega) (by omega))
  have d1 : decide ((n : Int) > 9223372036854775807) = false := by simp; omega
  obtain ⟨i, hi, hz0, hz1, hz2⟩ := info_parts infoC8
  have hmk := run_make (P := Try.prog) w 22 28 i _ Try.underlying22 hi hz0 .i64 .i64 n n (by omega) (Int.le_refl _) (by rw [hz2]; omega) (by omega)
  rw [hz1, Int.toNat_natCast, rep_made n c] at hmk
  obtain ⟨w1, hw1⟩ : ∃ WW, w.alloc (.cells (flatK .u8 (repL c n 0)).toArray 28) = WW := ⟨_, rfl⟩
  have P1 : Hid (Below w.heap.size w w1 ∧ Blk w1 w.heap.size 28 (flatK .u8 (repL c n 0)).toArray ∧ ColAt .u8 w1 b 0 c) := by
    rw [← hw1]; exact ⟨(Below.refl _ _).alloc (Nat.le_refl _) _, Blk.new _ _ _, hc.on ((Below.refl _ _).alloc (Nat.le_refl _) _) hb⟩
  rw [hw1] at hmk
  have hsz : (Try.prog.info? 28).map (·.size) = some 4 := by rw [hi]; simp [hz1]
  have HSZ := Lib.hid hsz
  have hm1 : Nat.min 1 n = 1 := Nat.min_eq_left hn.1
  have hcp := run_copy_wide (P := Try.prog) w1 22 22 3 28 w.heap.size 0 n n ⟨b, 0, none⟩ 1 1 4 _ _ (flatK .u8 [c]) Try.underlying22 hsz P1.out.2.1 (by rw [hm1]; rfl) (one_news P1.out.2.2) (by rw [flatK_len]; simp [flatK_len, repL_len]; omega) (flatK_one _ _)
  have hst := rep_step c (n := n) (m := 0) (k := 1) (by omega)
  rw [Nat.zero_mul] at hst
  rw [hm1, show flatK .u8 [c] = flatK .u8 (List.replicate 1 c) from rfl, hst, Nat.zero_add] at hcp
  obtain ⟨w2, hw2⟩ : ∃ WW, w1.setRow w.heap.size (flatK .u8 (repL c n 1)).toArray = WW := ⟨_, rfl⟩
  rw [hw2] at hcp
  have P2 : Hid (Below w.heap.size w w2 ∧ Blk w2 w.heap.size 28 (flatK .u8 (repL c n 1)).toArray) := by
    rw [← hw2]
    exact ⟨P1.out.1.trans ⟨rfl, rfl, rfl, by rw [setRow_size]; exact Nat.le_refl _, fun k hk => setRow_other _ _ _ _ (by omega)⟩, P1.out.2.1.row _⟩
  clear hn hc hb hi hz0 hz1 hz2 hsz hm1 hst hw1 hw2
  go_enter Try.func49, Try.ntmps49
  go_wp2_with fail
  refine (HM.out _).mono ?_
  rintro e w' ⟨rfl, rfl⟩
  go_wp2_with fail
  clear hmk hcp P1
  go_loopw [8] (fun bp wr => ∃ m : Nat, 1 ≤ m ∧ m ≤ n ∧ bp = .int .i64 (m : Int) ∧ Hid (Below w.heap.size w wr ∧ Blk wr w.heap.size 28 (flatK .u8 (repL c n m)).toArray)) (fun bp _ => n - (intOf bp).toNat)
  case atStart => exact ⟨1, by omega, HN.out.1, rfl, P2.out.1, P2.out.2⟩
  case round =>
    obtain ⟨m, h1, h2, rfl, hw⟩ := hrel
    obtain ⟨w3, hw3⟩ : ∃ x, x = wr := ⟨_, rfl⟩
    rw [← hw3] at hw ⊢
    clear hw3
    by_cases hlt : m < n
    · have hd : decide ((m : Int) < (n : Int)) = true := by simp; omega
      obtain ⟨k, hk⟩ : ∃ k, Nat.min m (n - m) = k := ⟨_, rfl⟩
      have hkm : 1 ≤ k ∧ k ≤ m ∧ m + k ≤ n := by rw [← hk]; simp only [Nat.min_def]; split <;> omega
      obtain ⟨mk, hmk⟩ : ∃ mk, m + k = mk := ⟨_, rfl⟩
      have HMK : Hid (1 ≤ mk ∧ mk ≤ n ∧ m < mk) := by unfold Hid; omega
      have hsrc : ∀ j u, (flatK .u8 (List.replicate k c))[j]? = some u → w3.drew.cell? ((⟨w.heap.size, 0, none⟩ : Addr).add j) = some u :=
        ColsAt.src (w := w3.drew) (b := w.heap.size) (o := 0) fun i p hp => by
          refine cols_blk (w := w3.drew) hw.out.2 i p (rep_cols c (by omega) i p ?_)
          have hi : i < k := by have := (List.getElem?_eq_some_iff.1 hp).1; simpa using this
          rw [List.getElem?_replicate, if_pos hi] at hp
          rw [List.getElem?_replicate, if_pos (by omega)]; exact hp
      have hcp := run_copy_wide (P := Try.prog) w3.drew 22 22 3 28 w.heap.size (m * 4) (n - m) (n - m) ⟨w.heap.size, 0, none⟩ m n 4 _ _ (flatK .u8 (List.replicate k c)) Try.underlying22 HSZ.out hw.out.2 (by rw [hk, flatK_len, List.length_replicate]) hsrc (by rw [flatK_len, List.length_replicate, List.size_toArray, flatK_len, repL_len c (by omega)]; omega) (flatK_one _ _)
      rw [hk, rep_step c hkm.2.2, hmk] at hcp
      obtain ⟨w4, hw4⟩ : ∃ WW, w3.drew.setRow w.heap.size (flatK .u8 (repL c n mk)).toArray = WW := ⟨_, rfl⟩
      rw [hw4] at hcp
      have P4 : Hid (Below w.heap.size w w4 ∧ Blk w4 w.heap.size 28 (flatK .u8 (repL c n mk)).toArray) := by
        rw [← hw4]
        exact ⟨(hw.out.1.trans ⟨rfl, rfl, rfl, Nat.le_refl _, fun _ _ => rfl⟩).trans ⟨rfl, rfl, rfl, by rw [setRow_size]; exact Nat.le_refl _, fun k hk => setRow_other _ _ _ _ (by omega)⟩, Blk.row (w := w3.drew) hw.out.2 _⟩
      have ek : wrap64 ((m : Int) + (k : Int)) = (mk : Int) := by have := HN.out; rw [wrapR _ (by omega) (by omega)]; omega
      have ek' := (wrap_is _).trans ek
      have q0 : (0 : Int) ≤ (m : Int) := by omega
      have q1 : (m : Int) ≤ (n : Int) := by omega
      have q2 : ¬ n = m := by omega
      have q3 : ¬ m = 0 := by omega
      clear hk hkm hmk hsrc hw4 hw h1 h2 hlt
      go_wp2_with fail
      go_region
      go_wp2_with fail
      exact ⟨⟨mk, HMK.out.1, HMK.out.2.1, rfl, P4.out⟩, by have := HMK.out; simp [intOf]; omega⟩
    · have hd : decide ((m : Int) < (n : Int)) = false := by simp; omega
      have hmn : Hid (m = n) := by unfold Hid; omega
      go_wp2_with fail
      go_ret
      refine ⟨_, rfl, hw.out.2.lt, ?_, hw.out.1⟩
      have h := cols_blk hw.out.2
      rw [hmn.out] at h
      unfold repL at h
      rw [Nat.sub_self, List.replicate_zero, List.append_nil] at h
      exact h
end Go.Proofs.Ytoppmlfibllhlaa
namespace Go.Proofs.Ytoppmlfibllhlaa
open Go.RowKit
theorem decB_split : ∀ (j : Nat) (xs ys : List Int), xs.length = 5 * j → decB (xs ++ ys) = decB xs ++ decB ys
  | 0, xs, ys, h => by
    obtain rfl : xs = [] := List.eq_nil_of_length_eq_zero (by omega)
    rfl
  | j + 1, xs, ys, h => by
    match xs, h with
    | m :: a :: b :: c :: d :: t, h =>
      have ih := decB_split j t ys (by simp at h; omega)
      show List.replicate (m + 1).toNat (a, b, c, d) ++ decB (t ++ ys) = (List.replicate (m + 1).toNat (a, b, c, d) ++ decB t) ++ decB ys
      rw [ih, List.append_assoc]
    | [], h => simp at h
    | [_], h => simp at h; omega
    | [_, _], h => simp at h; omega
    | [_, _, _], h => simp at h; omega
    | [_, _, _, _], h => simp at h; omega
theorem decB_short {xs : List Int} (h : xs.length < 5) : decB xs = [] := by
  match xs, h with
  | [], _ => rfl
  | [_], _ => rfl
  | [_, _], _ => rfl
  | [_, _, _], _ => rfl
  | [_, _, _, _], _ => rfl
  | _ :: _ :: _ :: _ :: _ :: _, h => simp at h; omega
theorem decB_step {F : List Int} {i j : Nat} (hi : i = 5 * j) (h : i + 5 ≤ F.length) : decB (F.take (i + 5)) = decB (F.take i) ++ List.replicate (rAt F i + 1).toNat (q4 (rCol F i)) := by
  have e : F.take (i + 5) = F.take i ++ [rAt F i, rAt F (i + 1 + 0), rAt F (i + 1 + 1), rAt F (i + 1 + 2), rAt F (i + 1 + 3)] := by
    rw [List.take_add]
    congr 1
    apply List.ext_getElem?
    intro k
    by_cases hk : k < 5
    · rw [List.getElem?_take_of_lt hk, List.getElem?_drop, rAt_some (by omega)]
      match k, hk with
      | 0, _ => rfl
      | 1, _ => rfl
      | 2, _ => rfl
      | 3, _ => rfl
      | 4, _ => rfl
    · rw [List.getElem?_eq_none (by simp; omega), List.getElem?_eq_none (by simp; omega)]
  rw [e, decB_split j _ _ (by rw [List.length_take]; omega)]
  congr 1
  show List.replicate (rAt F i + 1).toNat _ ++ decB [] = _
  rw [show decB [] = [] from rfl, List.append_nil]
  rfl
theorem decB_all {F : List Int} {i j : Nat} (hi : i = 5 * j) (hle : i ≤ F.length) (h : ¬ i + 5 ≤ F.length) : decB (F.take i) = decB F := by
  have e := decB_split j (F.take i) (F.drop i) (by rw [List.length_take]; omega)
  rw [List.take_append_drop, decB_short (xs := F.drop i) (by rw [List.length_drop]; omega), List.append_nil] at e
  exact e.symm
theorem decB_le {F : List Int} {i j : Nat} (hi : i = 5 * j) (hle : i ≤ F.length) : (decB (F.take i)).length ≤ (decB F).length := by
  have e := decB_split j (F.take i) (F.drop i) (by rw [List.length_take]; omega)
  rw [List.take_append_drop] at e
  rw [e, List.length_append]; omega
theorem eqC_q4 (c d : Col) : eqC c d = decide (q4 c = q4 d) := by rw [Bool.eq_iff_iff, decide_eq_true_eq, q4_iff]
theorem cAt_q4 {l l' : List Col} (h : l.map q4 = l'.map q4) (k : Nat) : q4 (cAt l k) = q4 (cAt l' k) := by
  have hl : l.length = l'.length := by simpa using congrArg List.length h
  by_cases hk : k < l.length
  · have h1 : (l.map q4)[k]? = (l'.map q4)[k]? := by rw [h]
    rw [List.getElem?_map, List.getElem?_map, cAt_some hk, cAt_some (by omega)] at h1
    simpa using h1
  · unfold cAt; rw [List.getD_eq_getElem?_getD, List.getD_eq_getElem?_getD, List.getElem?_eq_none (by omega), List.getElem?_eq_none (by omega)]
theorem runTo_q4 {l l' : List Col} (h : l.map q4 = l'.map q4) (i : Nat) : ∀ f n, runTo l i f n = runTo l' i f n
  | 0, _ => rfl
  | f + 1, n => by
    have hl : l.length = l'.length := by simpa using congrArg List.length h
    unfold runTo
    rw [eqC_q4, eqC_q4, cAt_q4 h (i + n), cAt_q4 h i, hl, runTo_q4 h i f (n + 1)]
theorem runsB_q4 {l l' : List Col} (h : l.map q4 = l'.map q4) : ∀ f i, runsB l f i = runsB l' f i
  | 0, _ => rfl
  | f + 1, i => by
    have hl : l.length = l'.length := by simpa using congrArg List.length h
    have hr : runLen l i = runLen l' i := runTo_q4 h i 257 0
    have hc : colB (cAt l i) = colB (cAt l' i) := by
      have h1 := eqC_iff.1 (q4_iff.1 (cAt_q4 h i))
      unfold colB
      rw [h1 0 (by decide), h1 1 (by decide), h1 2 (by decide), h1 3 (by decide)]
    unfold runsB
    rw [hl, hr, hc, runsB_q4 h f]
theorem bytesI_q4 {W H : Int} {l l' : List Col} (h : l.map q4 = l'.map q4) : bytesI W H l = bytesI W H l' := by
  have hl : l.length = l'.length := by simpa using congrArg List.length h
  unfold bytesI
  rw [hl, runsB_q4 h]
theorem rightIm_q4 {W H : Int} {l l' : List Col} (h : l.map q4 = l'.map q4) : rightIm W H l = rightIm W H l' := by
  have hl : l.length = l'.length := by simpa using congrArg List.length h
  have ha : ∀ {l l' : List Col}, l.map q4 = l'.map q4 → l.all rightC = true → l'.all rightC = true := by
    intro l l' h hr
    have hl : l.length = l'.length := by simpa using congrArg List.length h
    rw [List.all_eq_true]
    intro c hc
    obtain ⟨k, hk, rfl⟩ := List.getElem_of_mem hc
    have h1 := all_right l ▸ hr
    have h2 := List.all_eq_true.1 hr (cAt l k) (List.mem_of_getElem? (cAt_some (by omega)))
    have h3 := eqC_iff.1 (q4_iff.1 (cAt_q4 h k))
    rw [cAt_get hk]
    have h4 := rightC_iff.1 h2
    exact rightC_iff.2 (by rw [← h3 0 (by decide), ← h3 1 (by decide), ← h3 2 (by decide), ← h3 3 (by decide)]; exact h4)
  rw [Bool.eq_iff_iff, rightIm_iff, rightIm_iff, hl]
  exact ⟨fun ⟨a, b, c, d, e, f⟩ => ⟨a, b, c, d, e, ha h f⟩, fun ⟨a, b, c, d, e, f⟩ => ⟨a, b, c, d, e, ha h.symm f⟩⟩
/-- An image whose bytes these are. -/
theorem im_dec {W H e0 e1 : Int} {l : List Col} {F : List Int} (h : IsIm W H l (e0 :: e1 :: F)) : W = e0 + 1 ∧ H = e1 + 1 ∧ l.map q4 = decB F ∧ ((decB F).length : Int) = W * H := by
  obtain ⟨h1, h2, h3⟩ := h
  unfold bytesI at h3
  have a := (List.cons.inj h3).1
  have b := (List.cons.inj (List.cons.inj h3).2).1
  have c := (List.cons.inj (List.cons.inj h3).2).2
  have d := dec_runs l l.length 0 (by omega)
  rw [c, List.drop_zero] at d
  refine ⟨by omega, by omega, d.symm, ?_⟩
  rw [d, List.length_map]
  exact (rightIm_iff.1 h1).2.2.2.2.1
theorem im_long {W H : Int} {l : List Col} {E : List Int} (h : IsIm W H l E) : 2 ≤ E.length := by
  rw [← h.2.2]; unfold bytesI; simp
theorem strI_inj {E E' : List Int} (h : OkB E) (h' : OkB E') (e : strI E = strI E') : E = E' := by
  unfold strI at e
  have e2 : (E.map fun x => UInt8.ofNat x.toNat) = E'.map fun x => UInt8.ofNat x.toNat := by
    have := congrArg (fun b : ByteArray => b.data.toList) e
    simpa using this
  have hl : E.length = E'.length := by simpa using congrArg List.length e2
  apply List.ext_getElem hl
  intro i h1 h2
  have e3 : (E.map fun x => UInt8.ofNat x.toNat)[i]? = (E'.map fun x => UInt8.ofNat x.toNat)[i]? := by rw [e2]
  rw [List.getElem?_map, List.getElem?_map, List.getElem?_eq_getElem h1, List.getElem?_eq_getElem h2] at e3
  have e4 : UInt8.ofNat (E[i]).toNat = UInt8.ofNat (E'[i]).toNat := by simpa using e3
  have b1 := h _ (List.getElem_mem h1)
  have b2 := h' _ (List.getElem_mem h2)
  have e5 := congrArg UInt8.toNat e4
  simp only [UInt8.toNat_ofNat'] at e5
  omega
set_option maxHeartbeats 1000000 in
theorem bytesEqual_c (s s' : Value) (E E' : List Int) (w : World) (row : RowB w s E) (row' : RowB w s' E') (h : OkB E) (h' : OkB E') : Calls Try.prog 50 #[s, s'] w fun e w' => ∃ r : Bool, e = .returned (.bool r) ∧ (r = true ↔ E = E') ∧ w = w' := by
  have c1 := conv_b row h
  have c2 := conv_b row' h'
  obtain ⟨ao, cp, rfl⟩ := row.shape
  obtain ⟨av, cv, rfl⟩ := row'.shape
  obtain ⟨S, hS⟩ : ∃ S, strI E = S := ⟨_, rfl⟩
  obtain ⟨S', hS'⟩ : ∃ S, strI E' = S := ⟨_, rfl⟩
  have HR : Hid ((S.toList == S'.toList) = true ↔ E = E') := by
    unfold Hid
    rw [beq_iff_eq, ByteArray.toList_eq, ByteArray.toList_eq, ← hS, ← hS']
    refine ⟨fun e => strI_inj h h' ?_, fun e => by rw [e]⟩
    have e2 : (strI E).data = (strI E').data := Array.toList_inj.1 e
    exact ByteArray.ext e2
  rw [hS] at c1
  rw [hS'] at c2
  generalize E.length = n at *
  generalize E'.length = n' at *
  clear row row' h h' hS hS'
  obtain ⟨r, hr⟩ : ∃ r, (S.toList == S'.toList) = r := ⟨_, rfl⟩
  rw [hr] at HR
  go_enter Try.func50, Try.ntmps50
  go_wp2_with fail
  go_ret
  exact ⟨r, rfl, HR.out, rfl⟩
end Go.Proofs.Ytoppmlfibllhlaa
namespace Go.Proofs.Ytoppmlfibllhlaa
open Go.RowKit Go.Shelf
attribute [local go_sem] Oper.semAt_some
theorem results_imC {fn : Func} {tmps : Array Value} {w : World} {g h : Nat} {x y z v : Value} (hres : fn.results = #[.cell 2 24, .cell 3 35]) (ha : tmps[2]? = some (.pointer (some ⟨g, 0, none⟩))) (hb : tmps[3]? = some (.pointer (some ⟨h, 0, none⟩))) (hg : Blk w g 24 #[x, y, z]) (hh : Blk w h 35 #[v]) {vi xi yi : Int} (hi : v = .int .i64 vi) (hx : x = .int .i64 xi) (hy : y = .int .i64 yi) (hz : ∃ a n c, z = .slice a n c) :
    (results fn tmps).run Try.prog w = .ok (.tuple #[.agg #[x, y, z], v]) w := by
  subst hi hx hy
  obtain ⟨a, n, c, rfl⟩ := hz
  have h0 : w.cell? ⟨g, 0, none⟩ = some (.int .i64 xi) := hg.cell 0
  have h1 : w.cell? ⟨g, 1, none⟩ = some (.int .i64 yi) := hg.cell 1
  have h2 : w.cell? ⟨g, 2, none⟩ = some (.slice a n c) := hg.cell 2
  have h3 : w.cell? ⟨h, 0, none⟩ = some (.int .i64 vi) := hh.cell 0
  simp [results, hres, ha, hb, go_sem, h0, h1, h2, h3]
set_option maxHeartbeats 4000000 in
set_option maxRecDepth 100000 in
theorem parse_s (s : Value) (E : List Int) (w : World) (row : RowB w s E) (h : E.length < 2) : Calls Try.prog 27 #[s] w fun e w' => ToldIm w 0 0 [] 20 e w' := by
  obtain ⟨ao, c, rfl⟩ := row.shape
  obtain ⟨n, hn⟩ : ∃ n, E.length = n := ⟨_, rfl⟩
  rw [hn] at h ⊢
  have hd : decide ((n : Int) < 2) = true := by simp; omega
  clear row hn h
  go_enter Try.func27, Try.ntmps27
  go_upto_region 1 with fail
  obtain ⟨w1, hw1⟩ : ∃ WW, (w.alloc (.cells #[.int .i64 0, .int .i64 0, .slice none 0 0] 24)).alloc (.cells #[.int .i64 0] 35) = WW := ⟨_, rfl⟩
  have P1 : Hid (Below w.heap.size w w1 ∧ Blk w1 w.heap.size 24 #[.int .i64 0, .int .i64 0, .slice none 0 0] ∧ Blk w1 (w.heap.size + 1) 35 #[.int .i64 0]) := by
    rw [← hw1]
    exact ⟨((Below.refl _ _).alloc (Nat.le_refl _) _).alloc (by simp) _, (Blk.new _ _ _).alloc _, Blk.newAt _ _ _ (by simp)⟩
  rw [hw1]
  clear hw1
  have z0 : w1.cell? ⟨w.heap.size, 0, none⟩ = some (.int .i64 0) := P1.out.2.1.cell 0
  have z1 : w1.cell? ⟨w.heap.size, 1, none⟩ = some (.int .i64 0) := P1.out.2.1.cell 1
  have z2 : w1.cell? ⟨w.heap.size, 2, none⟩ = some (.slice none 0 0) := P1.out.2.1.cell 2
  have zf0 := P1.out.2.1.free 0
  have zf1 := P1.out.2.1.free 1
  have zf2 := P1.out.2.1.free 2
  have zlg := P1.out.2.1.lt
  have y0 : w1.cell? ⟨w.heap.size + 1, 0, none⟩ = some (.int .i64 0) := P1.out.2.2.cell 0
  have yf0 := P1.out.2.2.free 0
  have ylg := P1.out.2.2.lt
  go_wp2_with fail
  refine bodyPost_ret (results_imC rfl rfl rfl ((P1.out.2.1.set3 _ _ _).other _ _ (by simp)) ((P1.out.2.2.other3 (by omega) _ _ _).put 0 _ _ rfl) rfl rfl rfl ⟨_, _, _, rfl⟩) rfl ⟨_, rfl, .inl ⟨rfl, rfl⟩, (below_three P1.out.1 (Nat.le_refl _) _ _ _).setCell (by simp) _⟩
/-- The image as it is read: its block, the row of its own, what stays. -/
structure PaS (N gm : Nat) (S : Nat → Prop) (w3 : World) (W H : Int) (u : Value) (P : List Col) (A : World) : Prop where
  blk : Blk A gm 24 #[.int .i64 W, .int .i64 H, u]
  row : OwnK .u8 A (N + 2) 28 u P
  keep : Keep S w3 A
theorem PaS.ne {N gm : Nat} {S : Nat → Prop} {w3 A : World} {W H : Int} {u : Value} {P : List Col} (h : PaS N gm S w3 W H u P A) : ∀ k, u.ownBlock = some k → N + 2 ≤ k := fun k hk => (World.ownsRow.lt h.row k hk).1
theorem PaS.mv {N gm : Nat} {S T : Nat → Prop} {w3 A B : World} {W H : Int} {u : Value} {P : List Col} (h : PaS N gm S w3 W H u P A) (hk : Keep T A B) (h1 : T gm) (h2 : ∀ k, N + 2 ≤ k → T k) (h3 : ∀ k, S k → T k) : PaS N gm S w3 W H u P B :=
  ⟨hk.blk h.blk h1, h.row.keep hk (fun k e => h2 k (h.ne k e)), h.keep.trans (hk.mono h3)⟩
theorem PaS.step {N gm : Nat} {S : Nat → Prop} {w3 A B : World} {W H : Int} {u : Value} {P : List Col} (h : PaS N gm S w3 W H u P A) (hb : Below A.heap.size A B) : PaS N gm S w3 W H u P B :=
  h.mv (T := fun _ => True) (Keep.of_below hb) trivial (fun _ _ => trivial) (fun _ _ => trivial)
theorem PaS.var {N gm : Nat} {S : Nat → Prop} {w3 A B : World} {W H : Int} {u : Value} {P : List Col} (h : PaS N gm S w3 W H u P A) (hg : A.grownBy B u.ownBlock) (hN : gm < N) : Blk B gm 24 #[.int .i64 W, .int .i64 H, u] :=
  (Keep.of_grown hg).blk h.blk (fun e => by have := h.ne gm e; omega)
theorem PaS.app {N gm : Nat} {S : Nat → Prop} {w3 A B : World} {W H : Int} {u u' : Value} {P P' : List Col} (h : PaS N gm S w3 W H u P A) (ho : OwnK .u8 B (N + 2) 28 u' P') (hg : A.grownBy B u.ownBlock) (hN : gm < N) (hS : ∀ k, S k → k < N + 2 ∧ k ≠ gm) : PaS N gm S w3 W H u' P' (B.setCell ⟨gm, 2, none⟩ u') :=
  ⟨(h.var hg hN).put 2 _ _ rfl, ho.keep (S := fun k => k ≠ gm) (Keep.setCell _ _ _ (fun e => e rfl)) (fun k hk e => by have := (World.ownsRow.lt ho k hk).1; omega),
   (h.keep.trans ((Keep.of_grown hg).mono fun k hk e => by have := h.ne k e; have := hS k hk; omega)).trans (Keep.setCell _ _ _ (fun e => (hS _ e).2 rfl))⟩
theorem col_new (w : World) (co : Col) : ColAt .u8 (w.alloc (.cells #[.int .u8 (co 0), .int .u8 (co 1), .int .u8 (co 2), .int .u8 (co 3)] 28)) w.heap.size 0 co := by
  have h : Blk (w.alloc (.cells #[.int .u8 (co 0), .int .u8 (co 1), .int .u8 (co 2), .int .u8 (co 3)] 28)) w.heap.size 28 #[.int .u8 (co 0), .int .u8 (co 1), .int .u8 (co 2), .int .u8 (co 3)] := Blk.new _ _ _
  exact ⟨h.cell 0, h.cell 1, h.cell 2, h.cell 3⟩
/-- An append of colours inside a round. -/
theorem wpIn_app_cols {F : Fence} {nF : Nat} {o : Oper} {a : Act} {w : World} {K : Act → World → Prop} {Q : Exit → Act → World → Prop} (s x : Operand) (t T : TypeId)
    (ho : o.op = .call { callee := .builtin .append, args := #[s, x], argTypes := #[t, t] }) (ht : Try.prog.underlying t = some (.slice T)) (hT : (Try.prog.info? T).map (fun i => (i.zero, i.size, i.bytes)) = some (some (.agg #[.int .u8 0, .int .u8 0, .int .u8 0, .int .u8 0]), 4, 4))
    (base : Nat) (v : Value) (X Y : List Col) (hs : a.eval s = v) (hown : OwnK .u8 w base T v X) (b q n c : Nat) (hn : Y.length = n) (hxe : a.eval x = .slice (some ⟨b, q, none⟩) n c) (hY : ColsAt .u8 w b q Y) (hl : X.length + Y.length ≤ 100000) (hbase : base ≤ w.heap.size)
    (h : ∀ v' w', OwnK .u8 w' base T v' (X ++ Y) → w.grownBy w' v.ownBlock → Moved w v v' → K (a.put o.dst v') w') : o.wpIn F nF Try.prog a w K Q := by
  obtain ⟨v', w', hr, h2, h3, h4⟩ := run_append_cols w t o.type T ht hT base v X Y hown b q n c hn hY hl hbase
  unfold Oper.wpIn
  refine ⟨by simp [Oper.about, ho, resolve, Target.leads, Sem.run_pure], ?_⟩
  rw [Oper.semAt_plain F _ _ (by rw [ho]; intro c hc'; cases hc')]
  simp [execOp, ho, resolve, invoke, builtin, hs, hxe, hr, Result.andThen]
  exact h v' w' h2 h3 h4
end Go.Proofs.Ytoppmlfibllhlaa
namespace Go.Proofs.Ytoppmlfibllhlaa
open Go.RowKit Go.Shelf
attribute [local go_sem] Oper.semAt_some
set_option maxHeartbeats 4000000 in
set_option maxRecDepth 100000 in
theorem parse_y (s : Value) (E : List Int) (w : World) (row : RowB w s E) (hcs : Hid (CapS s)) (hE : OkB E) (hl : E.length ≤ 2100) (h2 : 2 ≤ E.length) : Calls Try.prog 27 #[s] w fun e w' => (∃ W H l, IsIm W H l E ∧ ToldIm w W H l 0 e w') ∨ ((¬ ∃ W H l, IsIm W H l E) ∧ ToldIm w 0 0 [] 20 e w') := by
  obtain ⟨e0, e1, F, rfl⟩ : ∃ e0 e1 F, E = e0 :: e1 :: F := by
    match E, h2 with
    | e0 :: e1 :: F, _ => exact ⟨e0, e1, F, rfl⟩
    | [_], h => simp at h
  obtain ⟨ao, c, rfl⟩ := row.shape
  obtain ⟨bb, ob, rfl, hbb, hcells⟩ : ∃ bb ob, ao = some ⟨bb, ob, none⟩ ∧ bb < w.heap.size ∧ BytsAt w bb ob (e0 :: e1 :: F) := by
    rcases row with ⟨_, h⟩ | ⟨_, _, _, h⟩ | ⟨b, o, c', h, h3, h4⟩
    · cases h
    · cases h
    · cases h; exact ⟨b, o, rfl, h3, h4⟩
  have hcap := hcs.out _ _ _ rfl
  obtain ⟨n, hn⟩ : ∃ n, (e0 :: e1 :: F).length = n := ⟨_, rfl⟩
  have hFn : F.length + 2 = n := by rw [← hn]; simp
  have HROW := Lib.hid row
  have HOE := Lib.hid hE
  rw [hn] at hl h2 hcap HROW ⊢
  have he0 := hE e0 (by simp)
  have he1 := hE e1 (by simp)
  have HOF : Hid (OkB F) := fun x hx => hE x (by simp [hx])
  obtain ⟨W, hW⟩ : ∃ W, e0 + 1 = W := ⟨_, rfl⟩
  obtain ⟨H, hH⟩ : ∃ H, e1 + 1 = H := ⟨_, rfl⟩
  have HWE : Hid (e0 = W - 1 ∧ e1 = H - 1 ∧ (1 ≤ W ∧ W ≤ 256) ∧ 1 ≤ H ∧ H ≤ 256) := by unfold Hid; omega
  have HWH : Hid (IntKind.i64.wrap e0 = e0 ∧ IntKind.i64.wrap (e0 + 1) = W ∧ IntKind.i64.wrap e1 = e1 ∧ IntKind.i64.wrap (e1 + 1) = H) := by
    refine ⟨(wrap_is _).trans (wrapR _ (by omega) (by omega)), ?_, (wrap_is _).trans (wrapR _ (by omega) (by omega)), ?_⟩
    · rw [hW]; exact (wrap_is _).trans (wrapR _ (by omega) (by omega))
    · rw [hH]; exact (wrap_is _).trans (wrapR _ (by omega) (by omega))
  have HNI : Hid ((0 : Int) < (n : Int) ∧ (1 : Int) < (n : Int)) := by unfold Hid; omega
  have HLN : Hid (F.length + 2 = n ∧ n ≤ c ∧ n ≤ 2100 ∧ 2 ≤ n) := ⟨hFn, hcap, hl, h2⟩
  have HCB : Hid (bb < w.heap.size ∧ BytsAt w bb ob (e0 :: e1 :: F)) := ⟨hbb, hcells⟩
  have hd : decide ((n : Int) < 2) = false := by simp; omega
  clear row hE hn hFn hcap hcs hl h2 hbb hcells he0 he1 hW hH
  refine callsIn_wide.1 (callsIn_of_wp_marks (n := 9) Try.func27 rfl trivial (wpIn_wide.2 ?_))
  simp only [Try.ntmps27, List.size_toArray, List.length_cons, List.length_nil, Nat.reduceAdd, Nat.reduceSub, Array.replicate_succ, Array.replicate_zero, List.push_toArray, List.append_toArray, List.nil_append, List.cons_append]
  go_upto_region 1 with fail
  obtain ⟨w1, hw1⟩ : ∃ WW, (w.alloc (.cells #[.int .i64 0, .int .i64 0, .slice none 0 0] 24)).alloc (.cells #[.int .i64 0] 35) = WW := ⟨_, rfl⟩
  have P1 : Hid (Below w.heap.size w w1 ∧ Blk w1 w.heap.size 24 #[.int .i64 0, .int .i64 0, .slice none 0 0] ∧ Blk w1 (w.heap.size + 1) 35 #[.int .i64 0]) := by
    rw [← hw1]
    exact ⟨((Below.refl _ _).alloc (Nat.le_refl _) _).alloc (by simp) _, (Blk.new _ _ _).alloc _, Blk.newAt _ _ _ (by simp)⟩
  rw [hw1]
  clear hw1
  have HCE : Hid (∀ A, Below w1.heap.size w1 A → A.cell? ⟨bb, ob, none⟩ = some (.int .u8 e0) ∧ A.cell? ⟨bb, ob + 1, none⟩ = some (.int .u8 e1)) := fun A hA => by
    have hb := P1.out.1.trans (hA.mono P1.out.1.size)
    exact ⟨(cell_below hb HCB.out.1).trans (HCB.out.2 0 e0 rfl), (cell_below hb HCB.out.1).trans (HCB.out.2 1 e1 rfl)⟩
  have hnn : ¬ (n : Int) < 2 := by have := HLN.out; omega
  go_wp2_with fail
  clear hnn hd
  refine wp_region_put2 (by kernel_rfl) (by kernel_rfl) (by kernel_rfl) (fun b' vs w' => (b' 0 = true → vs 0 = .slice (some ⟨bb, ob, none⟩) n c) ∧ (b' 1 = true → vs 1 = .pointer (some ⟨bb, ob, none⟩)) ∧ (b' 2 = true → vs 2 = .int .u8 e0) ∧ (b' 3 = true → vs 3 = .int .i64 e0) ∧ (b' 4 = true → vs 4 = .int .i64 W) ∧ (b' 5 = true → vs 5 = .slice (some ⟨bb, ob, none⟩) n c) ∧ (b' 6 = true → vs 6 = .pointer (some ⟨bb, ob + 1, none⟩)) ∧ (b' 7 = true → vs 7 = .int .u8 e1) ∧ (b' 8 = true → vs 8 = .int .i64 e1) ∧ (b' 9 = true → vs 9 = .int .i64 H) ∧ (b' 10 = true → vs 10 = .agg #[.int .i64 W, .int .i64 H, .slice none 0 0]) ∧ Hid (LayG w1 [⟨11, 12, 24, #[.int .i64 0, .int .i64 0, .slice none 0 0], #[.int .i64 W, .int .i64 H, .slice none 0 0]⟩] b' vs w')) ?_ ?_ ?_
  · intro vs hvs
    exact ⟨fun h => Bool.noConfusion h, fun h => Bool.noConfusion h, fun h => Bool.noConfusion h, fun h => Bool.noConfusion h, fun h => Bool.noConfusion h, fun h => Bool.noConfusion h, fun h => Bool.noConfusion h, fun h => Bool.noConfusion h, fun h => Bool.noConfusion h, fun h => Bool.noConfusion h, fun h => Bool.noConfusion h, LayG.start vs⟩
  · rintro b' vs w' i op hi hun hall ⟨h0, h1, h2, h3, h4, h5, h6, h7, h8, h9, h10, hM⟩
    have hil : i < 13 := (List.getElem?_eq_some_iff.1 hi).1
    rcases i with _ | _ | _ | _ | _ | _ | _ | _ | _ | _ | _ | _ | _ | i
    · obtain rfl := Option.some.inj hi
      refine wpOp_step rfl (fun K hK => ?_)
      have HKK := Lib.hid hK; clear hK
      simp only [putAll, Act.put, List.setIfInBounds_toArray, List.set_cons_zero, List.set_cons_succ]
      go_simp
      exact HKK.out _ _ ⟨_, by simp only [putAll, Act.put, List.setIfInBounds_toArray, List.set_cons_zero, List.set_cons_succ] <;> rfl, fun _ => rfl, h1, h2, h3, h4, h5, h6, h7, h8, h9, h10, LayG.other hM.out 0 _ rfl⟩
    · obtain rfl := Option.some.inj hi
      have d0 := h0 (hall ⟨0, .data⟩ (by simp) rfl)
      have k0 : 0 < n := by have := HNI.out.1; omega
      refine wpOp_step rfl (fun K hK => ?_)
      have HKK := Lib.hid hK; clear hK
      simp only [putAll, Act.put, List.setIfInBounds_toArray, List.set_cons_zero, List.set_cons_succ, d0]
      go_simp
      exact HKK.out _ _ ⟨_, by simp only [putAll, Act.put, List.setIfInBounds_toArray, List.set_cons_zero, List.set_cons_succ, d0] <;> rfl, h0, fun _ => rfl, h2, h3, h4, h5, h6, h7, h8, h9, h10, LayG.other hM.out 1 _ rfl⟩
    · obtain rfl := Option.some.inj hi
      have d1 := h1 (hall ⟨1, .data⟩ (by simp) rfl)
      have cc := (HCE.out w' (LayG.below hM.out)).1
      refine wpOp_step rfl (fun K hK => ?_)
      have HKK := Lib.hid hK; clear hK
      simp only [putAll, Act.put, List.setIfInBounds_toArray, List.set_cons_zero, List.set_cons_succ, d1]
      go_simp
      exact HKK.out _ _ ⟨_, by simp only [putAll, Act.put, List.setIfInBounds_toArray, List.set_cons_zero, List.set_cons_succ, d1] <;> rfl, h0, h1, fun _ => rfl, h3, h4, h5, h6, h7, h8, h9, h10, LayG.other hM.out 2 _ rfl⟩
    · obtain rfl := Option.some.inj hi
      have d2 := h2 (hall ⟨2, .data⟩ (by simp) rfl)
      have ew := HWH.out.1
      refine wpOp_step rfl (fun K hK => ?_)
      have HKK := Lib.hid hK; clear hK
      simp only [putAll, Act.put, List.setIfInBounds_toArray, List.set_cons_zero, List.set_cons_succ, d2]
      go_simp
      exact HKK.out _ _ ⟨_, by simp only [putAll, Act.put, List.setIfInBounds_toArray, List.set_cons_zero, List.set_cons_succ, d2] <;> rfl, h0, h1, h2, fun _ => rfl, h4, h5, h6, h7, h8, h9, h10, LayG.other hM.out 3 _ rfl⟩
    · obtain rfl := Option.some.inj hi
      have d3 := h3 (hall ⟨3, .data⟩ (by simp) rfl)
      have ew := HWH.out.2.1
      refine wpOp_step rfl (fun K hK => ?_)
      have HKK := Lib.hid hK; clear hK
      simp only [putAll, Act.put, List.setIfInBounds_toArray, List.set_cons_zero, List.set_cons_succ, d3]
      go_simp
      exact HKK.out _ _ ⟨_, by simp only [putAll, Act.put, List.setIfInBounds_toArray, List.set_cons_zero, List.set_cons_succ, d3] <;> rfl, h0, h1, h2, h3, fun _ => rfl, h5, h6, h7, h8, h9, h10, LayG.other hM.out 4 _ rfl⟩
    · obtain rfl := Option.some.inj hi
      refine wpOp_step rfl (fun K hK => ?_)
      have HKK := Lib.hid hK; clear hK
      simp only [putAll, Act.put, List.setIfInBounds_toArray, List.set_cons_zero, List.set_cons_succ]
      go_simp
      exact HKK.out _ _ ⟨_, by simp only [putAll, Act.put, List.setIfInBounds_toArray, List.set_cons_zero, List.set_cons_succ] <;> rfl, h0, h1, h2, h3, h4, fun _ => rfl, h6, h7, h8, h9, h10, LayG.other hM.out 5 _ rfl⟩
    · obtain rfl := Option.some.inj hi
      have d5 := h5 (hall ⟨5, .data⟩ (by simp) rfl)
      have k0 := HNI.out.2
      refine wpOp_step rfl (fun K hK => ?_)
      have HKK := Lib.hid hK; clear hK
      simp only [putAll, Act.put, List.setIfInBounds_toArray, List.set_cons_zero, List.set_cons_succ, d5]
      go_simp
      exact HKK.out _ _ ⟨_, by simp only [putAll, Act.put, List.setIfInBounds_toArray, List.set_cons_zero, List.set_cons_succ, d5] <;> rfl, h0, h1, h2, h3, h4, h5, fun _ => rfl, h7, h8, h9, h10, LayG.other hM.out 6 _ rfl⟩
    · obtain rfl := Option.some.inj hi
      have d6 := h6 (hall ⟨6, .data⟩ (by simp) rfl)
      have cc := (HCE.out w' (LayG.below hM.out)).2
      refine wpOp_step rfl (fun K hK => ?_)
      have HKK := Lib.hid hK; clear hK
      simp only [putAll, Act.put, List.setIfInBounds_toArray, List.set_cons_zero, List.set_cons_succ, d6]
      go_simp
      exact HKK.out _ _ ⟨_, by simp only [putAll, Act.put, List.setIfInBounds_toArray, List.set_cons_zero, List.set_cons_succ, d6] <;> rfl, h0, h1, h2, h3, h4, h5, h6, fun _ => rfl, h8, h9, h10, LayG.other hM.out 7 _ rfl⟩
    · obtain rfl := Option.some.inj hi
      have d7 := h7 (hall ⟨7, .data⟩ (by simp) rfl)
      have ew := HWH.out.2.2.1
      refine wpOp_step rfl (fun K hK => ?_)
      have HKK := Lib.hid hK; clear hK
      simp only [putAll, Act.put, List.setIfInBounds_toArray, List.set_cons_zero, List.set_cons_succ, d7]
      go_simp
      exact HKK.out _ _ ⟨_, by simp only [putAll, Act.put, List.setIfInBounds_toArray, List.set_cons_zero, List.set_cons_succ, d7] <;> rfl, h0, h1, h2, h3, h4, h5, h6, h7, fun _ => rfl, h9, h10, LayG.other hM.out 8 _ rfl⟩
    · obtain rfl := Option.some.inj hi
      have d8 := h8 (hall ⟨8, .data⟩ (by simp) rfl)
      have ew := HWH.out.2.2.2
      refine wpOp_step rfl (fun K hK => ?_)
      have HKK := Lib.hid hK; clear hK
      simp only [putAll, Act.put, List.setIfInBounds_toArray, List.set_cons_zero, List.set_cons_succ, d8]
      go_simp
      exact HKK.out _ _ ⟨_, by simp only [putAll, Act.put, List.setIfInBounds_toArray, List.set_cons_zero, List.set_cons_succ, d8] <;> rfl, h0, h1, h2, h3, h4, h5, h6, h7, h8, fun _ => rfl, h10, LayG.other hM.out 9 _ rfl⟩
    · obtain rfl := Option.some.inj hi
      have d4 := h4 (hall ⟨4, .data⟩ (by simp) rfl)
      have d9 := h9 (hall ⟨9, .data⟩ (by simp) rfl)
      refine wpOp_step rfl (fun K hK => ?_)
      have HKK := Lib.hid hK; clear hK
      simp only [putAll, Act.put, List.setIfInBounds_toArray, List.set_cons_zero, List.set_cons_succ, d4, d9]
      go_simp
      exact HKK.out _ _ ⟨_, by simp only [putAll, Act.put, List.setIfInBounds_toArray, List.set_cons_zero, List.set_cons_succ, d4, d9] <;> rfl, h0, h1, h2, h3, h4, h5, h6, h7, h8, h9, fun _ => rfl, LayG.other hM.out 10 _ rfl⟩
    · obtain rfl := Option.some.inj hi
      refine wpOp_step rfl (fun K hK => ?_)
      have HKK := Lib.hid hK; clear hK
      simp only [putAll, Act.put, List.setIfInBounds_toArray, List.set_cons_zero, List.set_cons_succ]
      go_simp
      exact HKK.out _ _ ⟨_, by simp only [putAll, Act.put, List.setIfInBounds_toArray, List.set_cons_zero, List.set_cons_succ] <;> rfl, h0, h1, h2, h3, h4, h5, h6, h7, h8, h9, h10, LayG.made hM.out rfl ⟨11, 12, 24, #[.int .i64 0, .int .i64 0, .slice none 0 0], #[.int .i64 W, .int .i64 H, .slice none 0 0]⟩ (by simp) hun⟩
    · obtain rfl := Option.some.inj hi
      have d10 := h10 (hall ⟨10, .data⟩ (by simp) rfl)
      have dal := hall ⟨11, .data⟩ (by simp) rfl
      obtain ⟨g, eg, lg, kg⟩ := LayG.at hM.out ⟨11, 12, 24, #[.int .i64 0, .int .i64 0, .slice none 0 0], #[.int .i64 W, .int .i64 H, .slice none 0 0]⟩ (by simp) dal hun
      have kz : Blk w' g 24 #[.int .i64 0, .int .i64 0, .slice none 0 0] := kg
      have c0 : w'.cell? ⟨g, 0, none⟩ = some (.int .i64 0) := kz.cell 0
      have c1 : w'.cell? ⟨g, 1, none⟩ = some (.int .i64 0) := kz.cell 1
      have c2 : w'.cell? ⟨g, 2, none⟩ = some (.slice none 0 0) := kz.cell 2
      have f0 := kg.free 0
      have f1 := kg.free 1
      have f2 := kg.free 2
      have lgw := kg.lt
      refine wpOp_step rfl (fun K hK => ?_)
      have HKK := Lib.hid hK; clear hK
      simp only [putAll, Act.put, List.setIfInBounds_toArray, List.set_cons_zero, List.set_cons_succ, d10, eg]
      go_simp
      exact HKK.out _ _ ⟨undef, by simp only [putAll, Act.put, List.setIfInBounds_toArray, List.set_cons_zero, List.set_cons_succ, d10, eg] <;> rfl, h0, h1, h2, h3, h4, h5, h6, h7, h8, h9, h10, LayG.stored hM.out rfl ⟨11, 12, 24, #[.int .i64 0, .int .i64 0, .slice none 0 0], #[.int .i64 W, .int .i64 H, .slice none 0 0]⟩ (by simp) undef dal eg (below_three (LayG.below hM.out) lg _ _ _) (kz.set3 _ _ _) (fun _ _ _ hne k => k.other3 hne _ _ _)⟩
    · exact absurd hil (by omega)
  · rintro b' vs w' hb ⟨h0, h1, h2, h3, h4, h5, h6, h7, h8, h9, h10, hM⟩
    obtain ⟨gm, e11, lm, km⟩ := LayG.done hM.out ⟨11, 12, 24, #[.int .i64 0, .int .i64 0, .slice none 0 0], #[.int .i64 W, .int .i64 H, .slice none 0 0]⟩ (by simp) (hb 11 (by decide)) (hb 12 (by decide))
    have hbw := LayG.below hM.out
    have v0 := h0 (hb 0 (by decide))
    have v1 := h1 (hb 1 (by decide))
    have v2 := h2 (hb 2 (by decide))
    have v3 := h3 (hb 3 (by decide))
    have v4 := h4 (hb 4 (by decide))
    have v5 := h5 (hb 5 (by decide))
    have v6 := h6 (hb 6 (by decide))
    have v7 := h7 (hb 7 (by decide))
    have v8 := h8 (hb 8 (by decide))
    have v9 := h9 (hb 9 (by decide))
    have v10 := h10 (hb 10 (by decide))
    simp only [putAll, Act.put, List.setIfInBounds_toArray, List.set_cons_zero, List.set_cons_succ, e11, v0, v1, v2, v3, v4, v5, v6, v7, v8, v9, v10]
    clear h0 h1 h2 h3 h4 h5 h6 h7 h8 h9 h10 hM hb e11 v0 v1 v2 v3 v4 v5 v6 v7 v8 v9 v10
    obtain ⟨w2, hw2⟩ : ∃ WW, w' = WW := ⟨_, rfl⟩
    rw [hw2] at km hbw ⊢
    clear hw2
    have P2 : Hid (Below w.heap.size w w2 ∧ Blk w2 w.heap.size 24 #[.int .i64 0, .int .i64 0, .slice none 0 0] ∧ Blk w2 (w.heap.size + 1) 35 #[.int .i64 0] ∧ Blk w2 gm 24 #[.int .i64 W, .int .i64 H, .slice none 0 0] ∧ w.heap.size + 1 < gm) := ⟨P1.out.1.trans (hbw.mono P1.out.1.size), P1.out.2.1.grow hbw, P1.out.2.2.grow hbw, km, by have := P1.out.2.2.lt; omega⟩
    clear km hbw lm P1 HCE HNI HWH
    have q0 : (2 : Int) ≤ (n : Int) := by have := HLN.out; omega
    have q1 : (n : Int) ≤ (c : Int) := by have := HLN.out; omega
    have q2 : (2 : Int) ≤ (c : Int) := by omega
    obtain ⟨aF, cF, hsl⟩ : ∃ aF cF, (if c = 2 then (some ⟨bb, ob, none⟩ : Option Addr) else some ⟨bb, ob + 2, none⟩) = aF ∧ c - 2 = cF := ⟨_, _, rfl, rfl⟩
    have HSL : Hid (aF = some ⟨bb, ob + 2, none⟩ ∨ n = 2) := by
      unfold Hid
      rw [← hsl.1]
      by_cases hc : c = 2
      · right; have := HLN.out; omega
      · left; rw [if_neg hc]
    have HCF : Hid (n - 2 ≤ cF) := by unfold Hid; have := HLN.out; omega
    go_wp2_with fail
    refine (readRuns_c aF (n - 2) cF w2).mono ?_
    rintro e w3 ⟨rfl, hw3⟩
    obtain ⟨nF, hnF⟩ : ∃ nF, n - 2 = nF := ⟨_, rfl⟩
    rw [hnF] at HCF hw3 ⊢
    have HNF : Hid (F.length = nF ∧ nF ≤ 2100 ∧ n = nF + 2) := by unfold Hid; have := HLN.out; omega
    have P3 : Hid (Below w.heap.size w w3 ∧ Blk w3 w.heap.size 24 #[.int .i64 0, .int .i64 0, .slice none 0 0] ∧ Blk w3 (w.heap.size + 1) 35 #[.int .i64 0] ∧ Blk w3 gm 24 #[.int .i64 W, .int .i64 H, .slice none 0 0] ∧ w.heap.size + 1 < gm) := by
      rw [← hw3]
      exact ⟨P2.out.1.alloc P2.out.1.size _, P2.out.2.1.alloc _, P2.out.2.2.1.alloc _, P2.out.2.2.2.1.alloc _, P2.out.2.2.2.2⟩
    have K3 : Hid (Blk w3 w2.heap.size 58 #[.slice aF nF cF] ∧ w3.heap.size = w2.heap.size + 1 ∧ gm < w2.heap.size) := by
      rw [← hw3]; exact ⟨Blk.new _ _ _, by simp, P2.out.2.2.2.1.lt⟩
    clear hw3 P2 hnF q0 q1 q2 hsl
    go_wp2_with fail
    obtain ⟨KS, hKS⟩ : ∃ KS : Nat → Prop, KS = fun k => k < w.heap.size ∨ k = w2.heap.size := ⟨_, rfl⟩
    have HKS : Hid (∀ k, KS k ↔ k < w.heap.size ∨ k = w2.heap.size) := fun k => by rw [hKS]
    obtain ⟨S, hS⟩ : ∃ S : Nat → Prop, S = fun k => k < w3.heap.size ∧ k ≠ gm := ⟨_, rfl⟩
    have HSI : Hid (∀ k, S k ↔ k < w3.heap.size ∧ k ≠ gm) := fun k => by rw [hS]
    have HG : Hid (w.heap.size + 1 < gm ∧ gm < w2.heap.size ∧ w3.heap.size = w2.heap.size + 1) := ⟨P3.out.2.2.2.2, K3.out.2.2, K3.out.2.1⟩
    clear hKS hS
    refine wp_pairs (fnum := 65) (pv := .pointer (some ⟨w2.heap.size, 0, none⟩)) (ok := fun i => i + 5 ≤ nF) (it := fun i => (rAt F i + 1, rCol F i)) (nx := fun i => i + 5) KS rfl rfl ?ks (fun _ _ => by simp [go_sem]) ?it
      (fun i A => ∃ u P, PaS w3.heap.size gm S w3 W H u P A ∧ i ≤ nF ∧ (∃ j, i = 5 * j) ∧ P.map q4 = decB (F.take i) ∧ (P.length : Int) ≤ W * H ∧ (∀ c ∈ P, OkC c) ∧ w3.heap.size ≤ A.heap.size) ?hI
      (fun A => (Blk A w.heap.size 24 #[.int .i64 0, .int .i64 0, .slice none 0 0] ∧ Blk A (w.heap.size + 1) 35 #[.int .i64 20] ∧ Below w.heap.size w A ∧ w3.heap.size + 2 ≤ A.heap.size) ∧ ¬ ∃ W H l, IsIm W H l (e0 :: e1 :: F)) ?hIx ?h0
      (fun x g => #[.slice (some ⟨bb, ob, none⟩) n c, undef, .pointer (some ⟨w.heap.size, 0, none⟩), .pointer (some ⟨w.heap.size + 1, 0, none⟩), .pointer (some ⟨gm, 0, none⟩), .int .i64 x.1, .pointer (some ⟨g, 0, none⟩), undef, undef, .slice (some ⟨bb, ob, none⟩) n c, .int .i64 (n : Int), .bool false, undef, .slice (some ⟨bb, ob, none⟩) n c, .pointer (some ⟨bb, ob, none⟩), .int .u8 e0, .int .i64 e0, .int .i64 W, .slice (some ⟨bb, ob, none⟩) n c, .pointer (some ⟨bb, ob + 1, none⟩), .int .u8 e1, .int .i64 e1, .int .i64 H, .agg #[.int .i64 W, .int .i64 H, .slice none 0 0],
      .slice (some ⟨bb, ob, none⟩) n c, .slice aF nF cF, .func (.func 65) #[] #[.pointer (some ⟨w2.heap.size, 0, none⟩)], .int .i64 x.1, .agg #[.int .u8 (x.2 0), .int .u8 (x.2 1), .int .u8 (x.2 2), .int .u8 (x.2 3)], undef, undef, undef, undef, undef, undef, undef, undef, undef, undef, undef, undef, undef, undef, undef, undef, undef, undef, undef, undef, undef, undef, undef, undef, undef, undef, undef, undef, undef, undef, undef, undef, undef, undef, undef])
      (fun x A => A.alloc (.cells #[.int .u8 (x.2 0), .int .u8 (x.2 1), .int .u8 (x.2 2), .int .u8 (x.2 3)] 28)) (fun _ _ => Keep.alloc _ _ _) ?assign ?body ?done ?stop
    case ks => intro j hj; have := (HKS.out j).1 hj; have := HG.out; omega
    case it =>
      intro D hk
      refine readRuns1_c w2.heap.size KS F aF nF cF HNF.out.1 HOF.out (by have := HNF.out; omega) HCF.out D (hk.blk K3.out.1 trivial).lt ((HKS.out _).2 (.inr rfl)) ((hk.blk K3.out.1 trivial).cell 0) (fun h0 => ?_)
      rcases HSL.out with h | h
      · have hk1 : Keep (fun _ => True) w w3 := Keep.of_below P3.out.1
        exact ⟨bb, ob + 2, h, (HKS.out _).2 (.inl HCB.out.1), Nat.lt_of_lt_of_le HCB.out.1 (Nat.le_trans P3.out.1.size hk.size), fun i x hx => by
          have h3 := (hk.cell (o := ob + (i + 2)) trivial (Nat.lt_of_lt_of_le HCB.out.1 P3.out.1.size)).trans ((hk1.cell trivial HCB.out.1).trans (HCB.out.2 (i + 2) x hx))
          rw [show ob + 2 + i = ob + (i + 2) by omega]; exact h3⟩
      · have := HNF.out; omega
    case hI =>
      rintro k A B ⟨u, P, h1, h2, h3, h4, h5, h6, h7⟩ hk
      exact ⟨u, P, h1.mv hk (by have := HG.out; omega) (fun j hj => by omega) (fun j hj => by have := (HSI.out j).1 hj; omega), h2, h3, h4, h5, h6, Nat.le_trans h7 hk.size⟩
    case hIx =>
      rintro A B ⟨⟨h1, h2, h3, h5⟩, h4⟩ hk
      exact ⟨⟨hk.blk h1 (by have := HG.out; omega), hk.blk h2 (by have := HG.out; omega), h3.trans (hk.below (fun k hk2 => by have := HG.out; omega) h3.size), Nat.le_trans h5 hk.size⟩, h4⟩
    case h0 =>
      exact ⟨_, [], ⟨P3.out.2.2.2.1, OwnK.nil _ _ _ _, Keep.refl _ _⟩, Nat.zero_le _, ⟨0, rfl⟩, by rw [List.take_zero]; rfl, by have := HWE.out; have := mul_sides this.2.2.1.1 this.2.2.1.2 this.2.2.2.1 this.2.2.2.2; simp; omega, by simp, Nat.le_refl _⟩
    case assign =>
      intro L x A K hK
      simp only [pairArgs]
      gi_wp2
      exact hK
    case stop =>
      rintro D ⟨⟨h1, h2, h3, h5⟩, h4⟩ hD
      refine postM_ret _ hD (results_imC rfl rfl rfl (h1.putOther _ (by have := HG.out; omega)) (h2.putOther _ (by have := HG.out; omega)) rfl rfl rfl ⟨_, _, _, rfl⟩) ?_
      exact .inr ⟨h4, _, rfl, .inl ⟨rfl, rfl⟩, h3.trans ((Keep.putObj (fun k => k ≠ w3.heap.size) D w3.heap.size _ (fun e => e rfl)).below (fun k hk2 e => by have := HG.out; omega) h3.size)⟩
    case done =>
      rintro i D hni ⟨u, P, hs, hin, ⟨j, hj⟩, hq, hle, hok, hz⟩ hD
      have hall : P.map q4 = decB F := by rw [hq]; exact decB_all hj (by have := HNF.out; omega) (by have := HNF.out; omega)
      have HNO : Hid (∀ W' H' l', IsIm W' H' l' (e0 :: e1 :: F) → rightIm W H P = true ∧ bytesI W H P = e0 :: e1 :: F) := by
        intro W' H' l' hI
        obtain ⟨a, b, cc, _⟩ := im_dec hI
        obtain rfl : W' = W := by have := HWE.out; omega
        obtain rfl : H' = H := by have := HWE.out; omega
        have e : P.map q4 = l'.map q4 := by rw [hall, cc]
        exact ⟨by rw [rightIm_q4 e]; exact hI.1, by rw [bytesI_q4 e]; exact hI.2.2⟩
      have hpl : P.length ≤ 65536 := by have := HWE.out; have := (mul_sides this.2.2.1.1 this.2.2.1.2 this.2.2.2.1 this.2.2.2.2).2; omega
      obtain ⟨ua, uc, rfl⟩ := hs.row.shape
      have HBY : Hid (Calls Try.prog 25 #[.agg #[.int .i64 W, .int .i64 H, .slice ua P.length uc]] D fun e w' => ∃ v, e = .returned (.tuple #[v, .int .i64 (errIm (rightIm W H P))]) ∧ RowB w' v (if rightIm W H P then bytesI W H P else []) ∧ Below D.heap.size D w') := bytes_any W H _ P D hs.row.row hok (by omega)
      have HPP : Hid ((∀ c ∈ P, OkC c) ∧ P.length ≤ 65536) := ⟨hok, hpl⟩
      obtain ⟨pl, hp⟩ : ∃ pl, P.length = pl := ⟨_, rfl⟩
      rw [hp] at hs HBY
      have HS := Lib.hid hs
      have HD := Lib.hid hD
      have HGR : Hid (Blk D w.heap.size 24 #[.int .i64 0, .int .i64 0, .slice none 0 0] ∧ Blk D (w.heap.size + 1) 35 #[.int .i64 0] ∧ Below w.heap.size w D) :=
        ⟨hs.keep.blk P3.out.2.1 ((HSI.out _).2 (by have := HG.out; omega)), hs.keep.blk P3.out.2.2.1 ((HSI.out _).2 (by have := HG.out; omega)), P3.out.1.trans (hs.keep.below (fun k hk => (HSI.out k).2 (by have := HG.out; omega)) (by have := P3.out.1.size; omega))⟩
      have m0 : D.cell? ⟨gm, 0, none⟩ = some (.int .i64 W) := hs.blk.cell 0
      have m1 : D.cell? ⟨gm, 1, none⟩ = some (.int .i64 H) := hs.blk.cell 1
      have m2 : D.cell? ⟨gm, 2, none⟩ = some (.slice ua pl uc) := hs.blk.cell 2
      clear hs hin hj hq hle hok hz hD hall hpl hni hp
      dsimp only
      go_wp2_with fail
      refine (HBY.out).mono ?_
      rintro e D2 ⟨v, rfl, hv, hb⟩
      have HS2 := Lib.hid (HS.out.step hb)
      have QR : Hid (Blk D2 w.heap.size 24 #[.int .i64 0, .int .i64 0, .slice none 0 0] ∧ Blk D2 (w.heap.size + 1) 35 #[.int .i64 0] ∧ Below w.heap.size w D2 ∧ D2.heap[w3.heap.size]? = some (.deferred (some []))) :=
        ⟨HGR.out.1.grow hb, HGR.out.2.1.grow hb, HGR.out.2.2.trans (hb.mono HGR.out.2.2.size), (hb.block _ (Array.getElem?_eq_some_iff.1 HD.out).1).trans HD.out⟩
      have HV := Lib.hid hv
      clear hb HBY m0 m1 m2 HS HGR HD hv
      have m0 : D2.cell? ⟨gm, 0, none⟩ = some (.int .i64 W) := HS2.out.blk.cell 0
      have m1 : D2.cell? ⟨gm, 1, none⟩ = some (.int .i64 H) := HS2.out.blk.cell 1
      have m2 : D2.cell? ⟨gm, 2, none⟩ = some (.slice ua pl uc) := HS2.out.blk.cell 2
      have z0 : D2.cell? ⟨w.heap.size, 0, none⟩ = some (.int .i64 0) := QR.out.1.cell 0
      have z1 : D2.cell? ⟨w.heap.size, 1, none⟩ = some (.int .i64 0) := QR.out.1.cell 1
      have z2 : D2.cell? ⟨w.heap.size, 2, none⟩ = some (.slice none 0 0) := QR.out.1.cell 2
      have zf0 := QR.out.1.free 0
      have zf1 := QR.out.1.free 1
      have zf2 := QR.out.1.free 2
      have zlg := QR.out.1.lt
      have y0 : D2.cell? ⟨w.heap.size + 1, 0, none⟩ = some (.int .i64 0) := QR.out.2.1.cell 0
      have yf0 := QR.out.2.1.free 0
      have ylg := QR.out.2.1.lt
      cases hri : rightIm W H P with
      | false =>
        have HNI : Hid (¬ ∃ W H l, IsIm W H l (e0 :: e1 :: F)) := fun ⟨W', H', l', hI⟩ => by have := (HNO.out W' H' l' hI).1; rw [hri] at this; cases this
        rw [errIm_no]
        rw [hri] at HV
        obtain ⟨va, vc, rfl⟩ := HV.out.shape
        clear hri HNO HV
        go_wp2_with fail
        have ks : Keep (fun k => k ≠ w.heap.size ∧ k ≠ w.heap.size + 1) D2 ((((D2.setCell ⟨w.heap.size, 0, none⟩ (.int .i64 0)).setCell ⟨w.heap.size, 1, none⟩ (.int .i64 0)).setCell ⟨w.heap.size, 2, none⟩ (.slice none 0 0)).setCell ⟨w.heap.size + 1, 0, none⟩ (.int .i64 20)) := (Keep.set3 _ _ _ _ _ (fun e => e.1 rfl)).trans (Keep.setCell _ _ _ (fun e => e.2 rfl))
        have gB : Blk ((((D2.setCell ⟨w.heap.size, 0, none⟩ (.int .i64 0)).setCell ⟨w.heap.size, 1, none⟩ (.int .i64 0)).setCell ⟨w.heap.size, 2, none⟩ (.slice none 0 0)).setCell ⟨w.heap.size + 1, 0, none⟩ (.int .i64 20)) w.heap.size 24 #[.int .i64 0, .int .i64 0, .slice none 0 0] := (QR.out.1.set3 _ _ _).other _ _ (by simp)
        have eB : Blk ((((D2.setCell ⟨w.heap.size, 0, none⟩ (.int .i64 0)).setCell ⟨w.heap.size, 1, none⟩ (.int .i64 0)).setCell ⟨w.heap.size, 2, none⟩ (.slice none 0 0)).setCell ⟨w.heap.size + 1, 0, none⟩ (.int .i64 20)) (w.heap.size + 1) 35 #[.int .i64 20] := (QR.out.2.1.other3 (by omega) _ _ _).put 0 _ _ rfl
        have bB : Below w.heap.size w ((((D2.setCell ⟨w.heap.size, 0, none⟩ (.int .i64 0)).setCell ⟨w.heap.size, 1, none⟩ (.int .i64 0)).setCell ⟨w.heap.size, 2, none⟩ (.slice none 0 0)).setCell ⟨w.heap.size + 1, 0, none⟩ (.int .i64 20)) := (below_three QR.out.2.2.1 (Nat.le_refl _) _ _ _).setCell (by simp) _
        refine postM_ret _ ((ks.block _ (by have := HG.out; omega) (Array.getElem?_eq_some_iff.1 QR.out.2.2.2).1).trans QR.out.2.2.2) (results_imC rfl rfl rfl (gB.putOther _ (by have := HG.out; omega)) (eB.putOther _ (by have := HG.out; omega)) rfl rfl rfl ⟨_, _, _, rfl⟩) ?_
        have bF := bB.trans ((Keep.putObj (fun k => k ≠ w3.heap.size) ((((D2.setCell ⟨w.heap.size, 0, none⟩ (.int .i64 0)).setCell ⟨w.heap.size, 1, none⟩ (.int .i64 0)).setCell ⟨w.heap.size, 2, none⟩ (.slice none 0 0)).setCell ⟨w.heap.size + 1, 0, none⟩ (.int .i64 20)) w3.heap.size (.deferred none) (fun e => e rfl)).below (fun k hk2 e => by have := HG.out; omega) bB.size)
        exact .inr ⟨HNI.out, _, rfl, .inl ⟨rfl, rfl⟩, bF⟩
      | true =>
        rw [hri] at HV
        have HRI := Lib.hid hri
        rw [errIm_yes]
        have HEQ : Hid (Calls Try.prog 50 #[v, .slice (some ⟨bb, ob, none⟩) n c] D2 fun e w' => ∃ r : Bool, e = .returned (.bool r) ∧ (r = true ↔ bytesI W H P = e0 :: e1 :: F) ∧ D2 = w') := by
          refine bytesEqual_c _ _ _ _ D2 HV.out (HROW.out.on QR.out.2.2.1) ?_ HOE.out
          have h := rightIm_iff.1 hri
          exact bytesI_ok ⟨h.1, h.2.1⟩ ⟨h.2.2.1, h.2.2.2.1⟩ HPP.out.1
        obtain ⟨va, vc, rfl⟩ := HV.out.shape
        generalize (if true = true then bytesI W H P else []).length = vn at *
        clear hri HV
        go_wp2_with fail
        refine (HEQ.out).mono ?_
        rintro e D3 ⟨r, rfl, hr, hw⟩
        have HR := Lib.hid hr
        obtain rfl := hw
        clear hr HEQ
        cases r
        · have HNI : Hid (¬ ∃ W H l, IsIm W H l (e0 :: e1 :: F)) := fun ⟨W', H', l', hI⟩ => by have := HR.out.2 (HNO.out W' H' l' hI).2; cases this
          clear HNO
          go_wp2_with fail
          have ks : Keep (fun k => k ≠ w.heap.size ∧ k ≠ w.heap.size + 1) D2 ((((D2.setCell ⟨w.heap.size, 0, none⟩ (.int .i64 0)).setCell ⟨w.heap.size, 1, none⟩ (.int .i64 0)).setCell ⟨w.heap.size, 2, none⟩ (.slice none 0 0)).setCell ⟨w.heap.size + 1, 0, none⟩ (.int .i64 20)) := (Keep.set3 _ _ _ _ _ (fun e => e.1 rfl)).trans (Keep.setCell _ _ _ (fun e => e.2 rfl))
          have gB : Blk ((((D2.setCell ⟨w.heap.size, 0, none⟩ (.int .i64 0)).setCell ⟨w.heap.size, 1, none⟩ (.int .i64 0)).setCell ⟨w.heap.size, 2, none⟩ (.slice none 0 0)).setCell ⟨w.heap.size + 1, 0, none⟩ (.int .i64 20)) w.heap.size 24 #[.int .i64 0, .int .i64 0, .slice none 0 0] := (QR.out.1.set3 _ _ _).other _ _ (by simp)
          have eB : Blk ((((D2.setCell ⟨w.heap.size, 0, none⟩ (.int .i64 0)).setCell ⟨w.heap.size, 1, none⟩ (.int .i64 0)).setCell ⟨w.heap.size, 2, none⟩ (.slice none 0 0)).setCell ⟨w.heap.size + 1, 0, none⟩ (.int .i64 20)) (w.heap.size + 1) 35 #[.int .i64 20] := (QR.out.2.1.other3 (by omega) _ _ _).put 0 _ _ rfl
          have bB : Below w.heap.size w ((((D2.setCell ⟨w.heap.size, 0, none⟩ (.int .i64 0)).setCell ⟨w.heap.size, 1, none⟩ (.int .i64 0)).setCell ⟨w.heap.size, 2, none⟩ (.slice none 0 0)).setCell ⟨w.heap.size + 1, 0, none⟩ (.int .i64 20)) := (below_three QR.out.2.2.1 (Nat.le_refl _) _ _ _).setCell (by simp) _
          refine postM_ret _ ((ks.block _ (by have := HG.out; omega) (Array.getElem?_eq_some_iff.1 QR.out.2.2.2).1).trans QR.out.2.2.2) (results_imC rfl rfl rfl (gB.putOther _ (by have := HG.out; omega)) (eB.putOther _ (by have := HG.out; omega)) rfl rfl rfl ⟨_, _, _, rfl⟩) ?_
          have bF := bB.trans ((Keep.putObj (fun k => k ≠ w3.heap.size) ((((D2.setCell ⟨w.heap.size, 0, none⟩ (.int .i64 0)).setCell ⟨w.heap.size, 1, none⟩ (.int .i64 0)).setCell ⟨w.heap.size, 2, none⟩ (.slice none 0 0)).setCell ⟨w.heap.size + 1, 0, none⟩ (.int .i64 20)) w3.heap.size (.deferred none) (fun e => e rfl)).below (fun k hk2 e => by have := HG.out; omega) bB.size)
          exact .inr ⟨HNI.out, _, rfl, .inl ⟨rfl, rfl⟩, bF⟩
        · have HEE : Hid (bytesI W H P = e0 :: e1 :: F) := HR.out.1 rfl
          clear HNO
          go_wp2_with fail
          have ks : Keep (fun k => k ≠ w.heap.size ∧ k ≠ w.heap.size + 1) D2 ((((D2.setCell ⟨w.heap.size, 0, none⟩ (.int .i64 W)).setCell ⟨w.heap.size, 1, none⟩ (.int .i64 H)).setCell ⟨w.heap.size, 2, none⟩ (.slice ua pl uc)).setCell ⟨w.heap.size + 1, 0, none⟩ (.int .i64 0)) := (Keep.set3 _ _ _ _ _ (fun e => e.1 rfl)).trans (Keep.setCell _ _ _ (fun e => e.2 rfl))
          have gB : Blk ((((D2.setCell ⟨w.heap.size, 0, none⟩ (.int .i64 W)).setCell ⟨w.heap.size, 1, none⟩ (.int .i64 H)).setCell ⟨w.heap.size, 2, none⟩ (.slice ua pl uc)).setCell ⟨w.heap.size + 1, 0, none⟩ (.int .i64 0)) w.heap.size 24 #[.int .i64 W, .int .i64 H, .slice ua pl uc] := (QR.out.1.set3 _ _ _).other _ _ (by simp)
          have eB : Blk ((((D2.setCell ⟨w.heap.size, 0, none⟩ (.int .i64 W)).setCell ⟨w.heap.size, 1, none⟩ (.int .i64 H)).setCell ⟨w.heap.size, 2, none⟩ (.slice ua pl uc)).setCell ⟨w.heap.size + 1, 0, none⟩ (.int .i64 0)) (w.heap.size + 1) 35 #[.int .i64 0] := (QR.out.2.1.other3 (by omega) _ _ _).put 0 _ _ rfl
          have bB : Below w.heap.size w ((((D2.setCell ⟨w.heap.size, 0, none⟩ (.int .i64 W)).setCell ⟨w.heap.size, 1, none⟩ (.int .i64 H)).setCell ⟨w.heap.size, 2, none⟩ (.slice ua pl uc)).setCell ⟨w.heap.size + 1, 0, none⟩ (.int .i64 0)) := (below_three QR.out.2.2.1 (Nat.le_refl _) _ _ _).setCell (by simp) _
          refine postM_ret _ ((ks.block _ (by have := HG.out; omega) (Array.getElem?_eq_some_iff.1 QR.out.2.2.2).1).trans QR.out.2.2.2) (results_imC rfl rfl rfl (gB.putOther _ (by have := HG.out; omega)) (eB.putOther _ (by have := HG.out; omega)) rfl rfl rfl ⟨_, _, _, rfl⟩) ?_
          have bF := bB.trans ((Keep.putObj (fun k => k ≠ w3.heap.size) ((((D2.setCell ⟨w.heap.size, 0, none⟩ (.int .i64 W)).setCell ⟨w.heap.size, 1, none⟩ (.int .i64 H)).setCell ⟨w.heap.size, 2, none⟩ (.slice ua pl uc)).setCell ⟨w.heap.size + 1, 0, none⟩ (.int .i64 0)) w3.heap.size (.deferred none) (fun e => e rfl)).below (fun k hk2 e => by have := HG.out; omega) bB.size)
          refine .inl ⟨W, H, P, ⟨HRI.out, HPP.out.1, HEE.out⟩, _, rfl, ?_, bF⟩
          have hk : Keep (fun k => w3.heap.size + 2 ≤ k) D2 (((((D2.setCell ⟨w.heap.size, 0, none⟩ (.int .i64 W)).setCell ⟨w.heap.size, 1, none⟩ (.int .i64 H)).setCell ⟨w.heap.size, 2, none⟩ (.slice ua pl uc)).setCell ⟨w.heap.size + 1, 0, none⟩ (.int .i64 0)).putObj w3.heap.size (.deferred none)) := (ks.mono fun k hk2 => by have := HG.out; omega).trans (Keep.putObj _ _ _ _ (by omega))
          exact ((HS2.out.row).keep hk (fun k hk2 => HS2.out.ne k hk2)).row
    case body =>
      rintro L i A o B hi ⟨u, P, hs, hin, ⟨j, hj⟩, hq, hle, hok, hz⟩ hN hB
      obtain ⟨co, hco⟩ : ∃ co, rCol F i = co := ⟨_, rfl⟩
      have hrb : ∀ k, k < F.length → 0 ≤ rAt F k ∧ rAt F k ≤ 255 := fun k hk => HOF.out _ (List.mem_of_getElem? (rAt_some hk))
      have hFl := HNF.out.1
      have hr0 := hrb i (by omega)
      obtain ⟨rn, hrn⟩ : ∃ rn : Nat, rAt F i + 1 = (rn : Int) := ⟨(rAt F i + 1).toNat, by omega⟩
      have HRN : Hid (1 ≤ rn ∧ rn ≤ 256) := by unfold Hid; omega
      have HOC : Hid (OkC co) := by
        intro k hk
        rw [← hco]
        exact hrb (i + 1 + k) (by omega)
      have HST : Hid (decB (F.take (i + 5)) = decB (F.take i) ++ List.replicate rn (q4 co)) := by
        unfold Hid
        rw [decB_step hj (by omega), hrn, hco, Int.toNat_natCast]
      have HLE5 : Hid ((decB (F.take (i + 5))).length ≤ (decB F).length) := decB_le (j := j + 1) (by omega) (by omega)
      obtain ⟨P2, hP2⟩ : ∃ P2, P ++ List.replicate rn co = P2 := ⟨_, rfl⟩
      have HP2 := Lib.hid hP2
      have HQ2 : Hid (P2.map q4 = decB (F.take (i + 5))) := by unfold Hid; rw [HST.out, ← hq, ← hP2, List.map_append, List.map_replicate]
      have HOK2 : Hid (∀ c ∈ P2, OkC c) := fun c hc => by
        rw [← hP2] at hc
        rcases List.mem_append.1 hc with h | h
        · exact hok c h
        · rw [List.eq_of_mem_replicate h]; exact HOC.out
      obtain ⟨pl, hp⟩ : ∃ pl, P.length = pl := ⟨_, rfl⟩
      have HP2L : Hid (P2.length = pl + rn) := by unfold Hid; rw [← hP2, List.length_append, List.length_replicate, hp]
      obtain ⟨WH, hWH⟩ : ∃ WH, W * H = WH := ⟨_, rfl⟩
      have hwb := HWE.out
      have hms := mul_sides hwb.2.2.1.1 hwb.2.2.1.2 hwb.2.2.2.1 hwb.2.2.2.2
      obtain ⟨rest, hrest⟩ : ∃ rest : Int, WH - (pl : Int) = rest := ⟨_, rfl⟩
      rw [hp, hWH] at hle
      rw [hWH] at hms
      have ewh : wrap64 (W * H) = WH := by rw [hWH]; exact wrapR _ (by omega) (by omega)
      have ers : wrap64 (WH - (pl : Int)) = rest := by rw [hrest]; exact wrapR _ (by omega) (by omega)
      have kAB : Keep (fun k => k ≠ w3.heap.size + 1) A B := by rw [hB]; exact (Keep.alloc _ _ _).trans (Keep.putObj _ _ _ _ (by simp))
      have KAB : Hid (Keep S A B) := kAB.mono fun k hk => by have := (HSI.out k).1 hk; omega
      have KC : Hid (Blk B A.heap.size 28 (four fun k => .int .u8 (co k))) := by rw [hB, ← hco]; exact (Blk.new _ _ _).putOther _ (by omega)
      obtain ⟨ua, uc, rfl⟩ := hs.row.shape
      rw [hp] at hs
      have HSS := Lib.hid hs
      obtain ⟨S2, hS2⟩ : ∃ S2 : Nat → Prop, S2 = fun k => k < w3.heap.size + 2 ∧ k ≠ gm := ⟨_, rfl⟩
      have HS2I : Hid (∀ k, S2 k ↔ k < w3.heap.size + 2 ∧ k ≠ gm) := fun k => by rw [hS2]
      have HS2 : Hid (∀ k, S2 k → k < w3.heap.size + 2 ∧ k ≠ gm) := fun k hk => (HS2I.out k).1 hk
      have HGN : Hid (gm < w3.heap.size) := by have := HG.out; unfold Hid; omega
      have SB : Hid (PaS w3.heap.size gm S2 B W H (.slice ua pl uc) P B) := ⟨kAB.blk hs.blk (by have := HG.out; omega), hs.row.keep kAB (fun k hk => by have := hs.ne k hk; omega), Keep.refl _ _⟩
      have HNB : Hid (w3.heap.size + 2 ≤ B.heap.size) := Nat.le_trans hN kAB.size
      have QR : Hid (Blk B w.heap.size 24 #[.int .i64 0, .int .i64 0, .slice none 0 0] ∧ Blk B (w.heap.size + 1) 35 #[.int .i64 0] ∧ Below w.heap.size w B) := by
        have hk := hs.keep.trans KAB.out
        exact ⟨hk.blk P3.out.2.1 ((HSI.out _).2 (by have := HG.out; omega)), hk.blk P3.out.2.2.1 ((HSI.out _).2 (by have := HG.out; omega)), P3.out.1.trans (hk.below (fun k hk2 => (HSI.out k).2 (by have := HG.out; omega)) (by have := P3.out.1.size; omega))⟩
      have HLT : Hid (i + 5 ≤ nF) := hi
      have HJ5 : Hid (∃ j, i = 5 * j) := ⟨j, hj⟩
      have HQP : Hid ((decB (F.take i)).length = pl) := by unfold Hid; rw [← hq, List.length_map, hp]
      have m0 : B.cell? ⟨gm, 0, none⟩ = some (.int .i64 W) := SB.out.blk.cell 0
      have m1 : B.cell? ⟨gm, 1, none⟩ = some (.int .i64 H) := SB.out.blk.cell 1
      have m2 : B.cell? ⟨gm, 2, none⟩ = some (.slice ua pl uc) := SB.out.blk.cell 2
      have HWR : Hid (WH - (pl : Int) = rest ∧ W * H = WH ∧ WH ≤ 65536) := ⟨hrest, hWH, hms.2⟩
      dsimp only
      rw [hco, hrn]
      clear hi hs hin hj hq hle hok hz hN hB hrb hFl hr0 hrn hco hP2 hwb hms hWH hrest kAB hS2 hp
      by_cases hgt : (rn : Int) > rest
      · have hd : decide ((rn : Int) > rest) = true := by simpa using hgt
        have HNI : Hid (¬ ∃ W H l, IsIm W H l (e0 :: e1 :: F)) := fun ⟨W', H', l', hI⟩ => by
          obtain ⟨a, b, cc, dl⟩ := im_dec hI
          have h1 := HWE.out
          obtain rfl : W' = W := by omega
          obtain rfl : H' = H := by omega
          have h2 := HLE5.out
          rw [HST.out, List.length_append, List.length_replicate, HQP.out] at h2
          have h3 := HWR.out
          omega
        have z0 : B.cell? ⟨w.heap.size, 0, none⟩ = some (.int .i64 0) := QR.out.1.cell 0
        have z1 : B.cell? ⟨w.heap.size, 1, none⟩ = some (.int .i64 0) := QR.out.1.cell 1
        have z2 : B.cell? ⟨w.heap.size, 2, none⟩ = some (.slice none 0 0) := QR.out.1.cell 2
        have zf0 := QR.out.1.free 0
        have zf1 := QR.out.1.free 1
        have zf2 := QR.out.1.free 2
        have zlg := QR.out.1.lt
        have y0 : B.cell? ⟨w.heap.size + 1, 0, none⟩ = some (.int .i64 0) := QR.out.2.1.cell 0
        have yf0 := QR.out.2.1.free 0
        have ylg := QR.out.2.1.lt
        clear hgt
        gi_wp2
        refine ⟨((Keep.set3 _ _ _ _ _ (fun h => ?_)).trans (Keep.setCell _ _ _ (fun h => ?_))), ⟨(QR.out.1.set3 _ _ _).other _ _ (by simp), (QR.out.2.1.other3 (by omega) _ _ _).put 0 _ _ rfl, (below_three QR.out.2.2 (Nat.le_refl _) _ _ _).setCell (by simp) _, by simpa [World.setCell] using HNB.out⟩, HNI.out⟩
        · have h2 := HG.out
          rcases h with h | h | h
          · have := (HKS.out _).1 h; omega
          · omega
          · omega
        · have h2 := HG.out
          rcases h with h | h | h
          · have := (HKS.out _).1 h; simp only at this; omega
          · simp only at h; omega
          · simp only at h; omega
      · have hd : decide ((rn : Int) > rest) = false := by simpa using hgt
        have HL2 : Hid ((P2.length : Int) ≤ W * H) := by unfold Hid; have := HP2L.out; have := HWR.out; omega
        have HLL : Hid (P.length + (List.replicate rn co).length ≤ 100000) := by
          unfold Hid
          have h1 := HP2L.out
          rw [← HP2.out, List.length_append] at h1
          have := HWR.out
          omega
        gi_wp2
        clear hgt hd m0 m1 m2 ewh ers
        refine wpIn_region_put2 (by kernel_rfl) (by kernel_rfl) (by kernel_rfl) (fun b' vs w' => (b' 0 = true → vs 0 = .pointer (some ⟨gm, 2, none⟩)) ∧ (b' 1 = true → vs 1 = .slice ua pl uc) ∧ (b' 2 = true → vs 2 = .agg #[.int .u8 (co 0), .int .u8 (co 1), .int .u8 (co 2), .int .u8 (co 3)]) ∧ (b' 4 = true → vs 4 = .int .i64 (rn : Int)) ∧ (b' 7 = true → vs 7 = .pointer (some ⟨gm, 2, none⟩)) ∧ (b' 3 = true → b' 6 = false → Hid (∃ q, vs 3 = .slice (some ⟨q, 0, none⟩) 1 1 ∧ q < w'.heap.size ∧ ColAt .u8 w' q 0 co)) ∧ (b' 5 = true → b' 6 = false → Hid (∃ q, vs 5 = .slice (some ⟨q, 0, none⟩) rn rn ∧ q < w'.heap.size ∧ ColsAt .u8 w' q 0 (List.replicate rn co))) ∧ (b' 6 = false → Hid (Below B.heap.size B w')) ∧ (b' 6 = true → b' 8 = false → Hid (∃ A0, PaS w3.heap.size gm S2 B W H (.slice ua pl uc) P A0 ∧ OwnK .u8 w' (w3.heap.size + 2) 28 (vs 6) P2 ∧ A0.grownBy w' (Value.ownBlock (.slice ua pl uc)))) ∧ (b' 8 = true → Hid (∃ u2, PaS w3.heap.size gm S2 B W H u2 P2 w')) ∧ Hid (b' 8 = true → b' 6 = true) ∧ Hid (b' 1 = true → b' 0 = true) ∧ Hid (b' 6 = true → b' 1 = true) ∧ Hid (b' 3 = true → b' 2 = true) ∧ Hid (b' 5 = true → b' 3 = true) ∧ Hid (b' 5 = true → b' 4 = true) ∧ Hid (b' 6 = true → b' 5 = true) ∧ Hid (b' 8 = true → b' 7 = true)) ?_ ?_ ?_
        · intro vs hvs
          exact ⟨fun h => Bool.noConfusion h, fun h => Bool.noConfusion h, fun h => Bool.noConfusion h, fun h => Bool.noConfusion h, fun h => Bool.noConfusion h, fun h _ => Bool.noConfusion h, fun h _ => Bool.noConfusion h, fun _ => Lib.hid ⟨rfl, rfl, rfl, Nat.le_refl _, fun _ _ => rfl⟩, fun h => Bool.noConfusion h, fun h => Bool.noConfusion h, Lib.hid (fun h => Bool.noConfusion h), Lib.hid (fun h => Bool.noConfusion h), Lib.hid (fun h => Bool.noConfusion h), Lib.hid (fun h => Bool.noConfusion h), Lib.hid (fun h => Bool.noConfusion h), Lib.hid (fun h => Bool.noConfusion h), Lib.hid (fun h => Bool.noConfusion h), Lib.hid (fun h => Bool.noConfusion h)⟩
        · rintro b' vs w' i op hi hun hall ⟨h0, h1, h2, h4, h7, y3, y5, yB, yA, yS, yT, e0, e1, e2, e3, e4, e5, e7⟩
          have hil : i < 9 := (List.getElem?_eq_some_iff.1 hi).1
          rcases i with _ | _ | _ | _ | _ | _ | _ | _ | _ | i
          · obtain rfl := Option.some.inj hi
            refine wpOpIn_step rfl (fun K hK => ?_)
            have HKK := Lib.hid hK; clear hK
            simp only [putAll, Act.put, List.setIfInBounds_toArray, List.set_cons_zero, List.set_cons_succ]
            go_simp
            exact HKK.out _ _ ⟨_, by simp only [putAll, Act.put, List.setIfInBounds_toArray, List.set_cons_zero, List.set_cons_succ] <;> rfl, fun _ => rfl, h1, h2, h4, h7, y3, y5, yB, yA, yS, yT, Lib.hid (fun _ => rfl), e1, e2, e3, e4, e5, e7⟩
          · obtain rfl := Option.some.inj hi
            have h6f : b' 6 = false := Bool.eq_false_iff.2 (fun h => absurd (((e1.out h)).symm.trans hun) (by decide))
            have g0 := hall ⟨0, .data⟩ (by simp) rfl
            have d0 := h0 g0
            have kb := (SB.out.step (yB h6f).out).blk
            have c0 : w'.cell? ⟨gm, 2, none⟩ = some (.slice ua pl uc) := kb.cell 2
            refine wpOpIn_step rfl (fun K hK => ?_)
            have HKK := Lib.hid hK; clear hK
            simp only [putAll, Act.put, List.setIfInBounds_toArray, List.set_cons_zero, List.set_cons_succ, d0]
            go_simp
            exact HKK.out _ _ ⟨_, by simp only [putAll, Act.put, List.setIfInBounds_toArray, List.set_cons_zero, List.set_cons_succ, d0] <;> rfl, h0, fun _ => rfl, h2, h4, h7, y3, y5, yB, yA, yS, yT, Lib.hid (fun _ => g0), Lib.hid (fun _ => rfl), e2, e3, e4, e5, e7⟩
          · obtain rfl := Option.some.inj hi
            have h6f : b' 6 = false := Bool.eq_false_iff.2 (fun h => absurd (((e2.out (e3.out (e5.out h)))).symm.trans hun) (by decide))
            have kb := KC.out.grow (yB h6f).out
            obtain ⟨c0, c1, c2, c3⟩ := kb.c0
            refine wpOpIn_step rfl (fun K hK => ?_)
            have HKK := Lib.hid hK; clear hK
            simp only [putAll, Act.put, List.setIfInBounds_toArray, List.set_cons_zero, List.set_cons_succ]
            go_simp
            exact HKK.out _ _ ⟨_, by simp only [putAll, Act.put, List.setIfInBounds_toArray, List.set_cons_zero, List.set_cons_succ] <;> rfl, h0, h1, fun _ => rfl, h4, h7, y3, y5, yB, yA, yS, yT, e0, e1, Lib.hid (fun _ => rfl), e3, e4, e5, e7⟩
          · obtain rfl := Option.some.inj hi
            have h6f : b' 6 = false := Bool.eq_false_iff.2 (fun h => absurd (((e3.out (e5.out h))).symm.trans hun) (by decide))
            have g2 := hall ⟨2, .data⟩ (by simp) rfl
            have d2 := h2 g2
            have hb2 : Below w'.heap.size w' (w'.alloc (.cells #[.int .u8 (co 0), .int .u8 (co 1), .int .u8 (co 2), .int .u8 (co 3)] 28)) := (Below.refl _ _).alloc (Nat.le_refl _) _
            have hA : Hid (ColAt .u8 (w'.alloc (.cells #[.int .u8 (co 0), .int .u8 (co 1), .int .u8 (co 2), .int .u8 (co 3)] 28)) w'.heap.size 0 co) := col_new _ _
            refine wpOpIn_step rfl (fun K hK => ?_)
            have HKK := Lib.hid hK; clear hK
            simp only [putAll, Act.put, List.setIfInBounds_toArray, List.set_cons_zero, List.set_cons_succ, d2]
            go_simp
            exact HKK.out _ _ ⟨_, by simp only [putAll, Act.put, List.setIfInBounds_toArray, List.set_cons_zero, List.set_cons_succ, d2] <;> rfl, h0, h1, h2, h4, h7, fun _ _ => Lib.hid ⟨_, rfl, by simp, hA.out⟩, fun h ha => by obtain ⟨q, e, hq, hp⟩ := (y5 h ha).out; exact Lib.hid ⟨q, e, Nat.lt_of_lt_of_le hq hb2.size, hp.on8 hb2 hq⟩, fun h => Lib.hid ((yB h6f).out.trans (hb2.mono (yB h6f).out.size)), fun h => absurd (h6f.symm.trans h) (by decide), fun h => absurd (h6f.symm.trans (yT.out h)) (by decide), yT, e0, e1, Lib.hid (fun _ => g2), Lib.hid (fun _ => rfl), e4, e5, e7⟩
          · obtain rfl := Option.some.inj hi
            refine wpOpIn_step rfl (fun K hK => ?_)
            have HKK := Lib.hid hK; clear hK
            simp only [putAll, Act.put, List.setIfInBounds_toArray, List.set_cons_zero, List.set_cons_succ]
            go_simp
            exact HKK.out _ _ ⟨_, by simp only [putAll, Act.put, List.setIfInBounds_toArray, List.set_cons_zero, List.set_cons_succ] <;> rfl, h0, h1, h2, fun _ => rfl, h7, y3, y5, yB, yA, yS, yT, e0, e1, e2, e3, Lib.hid (fun _ => rfl), e5, e7⟩
          · obtain rfl := Option.some.inj hi
            have h6f : b' 6 = false := Bool.eq_false_iff.2 (fun h => absurd (((e5.out h)).symm.trans hun) (by decide))
            have g3 := hall ⟨3, .data⟩ (by simp) rfl
            have g4 := hall ⟨4, .data⟩ (by simp) rfl
            have d4 := h4 g4
            obtain ⟨q3, x3, hq3, hp3⟩ := (y3 g3 h6f).out
            have HRP := Lib.hid (repeat_c co rn q3 HRN.out w' hq3 hp3)
            clear hq3 hp3
            refine wpOpIn_step rfl (fun K hK => ?_)
            have HKK := Lib.hid hK; clear hK
            simp only [putAll, Act.put, List.setIfInBounds_toArray, List.set_cons_zero, List.set_cons_succ, d4, x3]
            go_simp
            refine ⟨trivial, (CallsIn.inRound L (callsIn_wide.2 HRP.out)).mono ?_⟩
            rintro e w'' ⟨g5', rfl, hg5, hp5, hb2⟩
            exact HKK.out _ _ ⟨_, by simp only [putAll, Act.put, List.setIfInBounds_toArray, List.set_cons_zero, List.set_cons_succ, d4, x3] <;> rfl, h0, h1, h2, h4, h7, fun h ha => by obtain ⟨q, e, hq, hp⟩ := (y3 h ha).out; exact Lib.hid ⟨q, e, Nat.lt_of_lt_of_le hq hb2.size, hp.on hb2 hq⟩, fun _ _ => Lib.hid ⟨_, rfl, hg5, hp5⟩, fun h => Lib.hid ((yB h6f).out.trans (hb2.mono (yB h6f).out.size)), fun h => absurd (h6f.symm.trans h) (by decide), fun h => absurd (h6f.symm.trans (yT.out h)) (by decide), yT, e0, e1, e2, Lib.hid (fun _ => g3), Lib.hid (fun _ => g4), Lib.hid (fun _ => rfl), e7⟩
          · obtain rfl := Option.some.inj hi
            have h8f : b' 8 = false := Bool.eq_false_iff.2 (fun h => absurd ((yT.out h).symm.trans hun) (by decide))
            have g1 := hall ⟨1, .data⟩ (by simp) rfl
            have g5 := hall ⟨5, .data⟩ (by simp) rfl
            have d1 := h1 g1
            obtain ⟨q5, x5, hq5, hp5⟩ := (y5 g5 hun).out
            have hE := (yB hun).out
            have SA := Lib.hid (SB.out.step hE)
            refine wpOpIn_step rfl (fun K hK => ?_)
            have HKK := Lib.hid hK; clear hK
            simp only [putAll, Act.put, List.setIfInBounds_toArray, List.set_cons_zero, List.set_cons_succ]
            refine (if_pos rfl).mpr (wpIn_app_cols _ _ 22 28 rfl Try.underlying22 infoC8 (w3.heap.size + 2) _ P (List.replicate rn co) d1 SA.out.row q5 0 rn rn List.length_replicate x5 hp5 HLL.out (Nat.le_trans HNB.out hE.size) ?_)
            intro u2 w7 ho2 hg2 _
            rw [HP2.out] at ho2
            exact HKK.out _ _ ⟨_, by simp only [putAll, Act.put, List.setIfInBounds_toArray, List.set_cons_zero, List.set_cons_succ, d1, x5] <;> rfl, h0, h1, h2, h4, h7, fun _ h => Bool.noConfusion h, fun _ h => Bool.noConfusion h, fun h => Bool.noConfusion h, fun _ _ => Lib.hid ⟨_, SA.out, ho2, hg2⟩, fun h => absurd (h8f.symm.trans h) (by decide), Lib.hid (fun _ => rfl), e0, Lib.hid (fun _ => g1), e2, e3, e4, Lib.hid (fun _ => g5), e7⟩
          · obtain rfl := Option.some.inj hi
            refine wpOpIn_step rfl (fun K hK => ?_)
            have HKK := Lib.hid hK; clear hK
            simp only [putAll, Act.put, List.setIfInBounds_toArray, List.set_cons_zero, List.set_cons_succ]
            go_simp
            exact HKK.out _ _ ⟨_, by simp only [putAll, Act.put, List.setIfInBounds_toArray, List.set_cons_zero, List.set_cons_succ] <;> rfl, h0, h1, h2, h4, fun _ => rfl, y3, y5, yB, yA, yS, yT, e0, e1, e2, e3, e4, e5, Lib.hid (fun _ => rfl)⟩
          · obtain rfl := Option.some.inj hi
            have g6 := hall ⟨6, .data⟩ (by simp) rfl
            have g7 := hall ⟨7, .data⟩ (by simp) rfl
            have d7 := h7 g7
            obtain ⟨A0, hA1, hA2, hA3⟩ := (yA g6 hun).out
            obtain ⟨va, vc, x6⟩ := hA2.shape
            rw [x6] at hA2
            have hF := Lib.hid (hA1.app hA2 hA3 HGN.out HS2.out)
            have kv := hA1.var hA3 HGN.out
            have c0 : w'.cell? ⟨gm, 2, none⟩ = some (.slice ua pl uc) := kv.cell 2
            have f2 := kv.free 2
            have lg := kv.lt
            clear kv hA1 hA2 hA3
            refine wpOpIn_step rfl (fun K hK => ?_)
            have HKK := Lib.hid hK; clear hK
            simp only [putAll, Act.put, List.setIfInBounds_toArray, List.set_cons_zero, List.set_cons_succ, x6, d7]
            go_simp
            exact HKK.out _ _ ⟨undef, by simp only [putAll, Act.put, List.setIfInBounds_toArray, List.set_cons_zero, List.set_cons_succ, x6, d7] <;> rfl, h0, h1, h2, h4, h7, fun _ h => absurd (g6.symm.trans h) (by decide), fun _ h => absurd (g6.symm.trans h) (by decide), fun h => absurd (g6.symm.trans h) (by decide), fun _ h => Bool.noConfusion h, fun _ => Lib.hid ⟨_, hF.out⟩, Lib.hid (fun _ => g6), e0, e1, e2, e3, e4, e5, Lib.hid (fun _ => g7)⟩
          · exact absurd hil (by omega)
        · rintro b' vs w' hb ⟨h0, h1, h2, h4, h7, y3, y5, yB, yA, yS, yT, e0, e1, e2, e3, e4, e5, e7⟩
          obtain ⟨u2, hu2⟩ := (yS (hb 8 (by decide))).out
          have V2 := Lib.hid hu2
          clear h0 h1 h2 h4 h7 y3 y5 yB yA yS yT e0 e1 e2 e3 e4 e5 e7 hb hu2
          refine ⟨V2.out.keep.mono fun k hk => ?_, u2, P2, ⟨V2.out.blk, V2.out.row, (HSS.out.keep.trans KAB.out).trans (V2.out.keep.mono fun k hk => ?_)⟩, ?_, ?_, ?_, ?_, ?_, ?_⟩
          · rcases hk with h | h | h
            · have := (HKS.out k).1 h; exact (HS2I.out k).2 (by have := HG.out; omega)
            · exact (HS2I.out k).2 (by have := HG.out; omega)
            · exact (HS2I.out k).2 (by have := HG.out; omega)
          · have := (HSI.out k).1 hk; exact (HS2I.out k).2 (by omega)
          · exact HLT.out
          · obtain ⟨j, hj⟩ := HJ5.out; exact ⟨j + 1, by omega⟩
          · exact HQ2.out
          · exact HL2.out
          · exact HOK2.out
          · exact Nat.le_trans (by have := HNB.out; omega) V2.out.keep.size
theorem parseOkC : ParseOkC := by
  intro s E w row hcs hE hl
  by_cases h2 : 2 ≤ E.length
  · exact parse_y s E w row hcs hE hl h2
  · exact (parse_s s E w row (by omega)).mono fun e w' h => .inr ⟨fun ⟨_, _, _, hI⟩ => h2 (im_long hI), h⟩
end Go.Proofs.Ytoppmlfibllhlaa
