/- Layer 11: slices.Repeat at one colour. -/
import Derived.Test.YtoppmlfibllhlaaRc
import Derived.Lib.Mul64
namespace Go.Proofs.Ytoppmlfibllhlaa
open Go.RowKit
/-- The lower 32 bits. -/
theorem low32 (a : Nat) (ha : a < 18446744073709551616) : bits .and .u64 (a : Int) 4294967295 = ((a % 4294967296 : Nat) : Int) := by
  rw [← Nat.and_two_pow_sub_one_eq_mod a 32]
  exact bits_and_u64_nat a 4294967295 ha (by decide)
theorem u64_of (z : Int) (n : Nat) (h : z = n) (hn : n < 18446744073709551616) : IntKind.u64.wrap z = (n : Int) := by
  rw [h, IntKind.wrap_u64]; omega
set_option maxHeartbeats 1000000 in
theorem mul64_walk (x y x0 x1 y0 y1 p t w1 w2 v hi lo : Nat)
    (E1 : bits .and .u64 (x : Int) 4294967295 = (x0 : Int)) (E2 : (x : Int) / 4294967296 = (x1 : Int)) (E3 : bits .and .u64 (y : Int) 4294967295 = (y0 : Int)) (E4 : (y : Int) / 4294967296 = (y1 : Int))
    (E5 : IntKind.u64.wrap ((x0 : Int) * (y0 : Int)) = (p : Int)) (E6 : IntKind.u64.wrap (IntKind.u64.wrap ((x1 : Int) * (y0 : Int)) + (p : Int) / 4294967296) = (t : Int))
    (E7 : bits .and .u64 (t : Int) 4294967295 = (w1 : Int)) (E8 : (t : Int) / 4294967296 = (w2 : Int)) (E9 : IntKind.u64.wrap ((w1 : Int) + IntKind.u64.wrap ((x0 : Int) * (y1 : Int))) = (v : Int))
    (E10 : IntKind.u64.wrap (IntKind.u64.wrap (IntKind.u64.wrap ((x1 : Int) * (y1 : Int)) + (w2 : Int)) + (v : Int) / 4294967296) = (hi : Int)) (E11 : IntKind.u64.wrap ((x : Int) * (y : Int)) = (lo : Int)) (w : World) :
    Calls Try.prog 76 #[.int .u64 x, .int .u64 y] w fun e w' => e = .returned (.tuple #[.int .u64 (hi : Int), .int .u64 (lo : Int)]) ∧ w' = w := by
  go_enter Try.func76, Try.ntmps76
  go_wp2_with fail
  go_ret2
  exact ⟨rfl, rfl⟩
theorem mul64_one (n : Nat) (hn : n ≤ 1000) (w : World) : Calls Try.prog 76 #[.int .u64 ((1 : Nat) : Int), .int .u64 (n : Int)] w fun e w' => e = .returned (.tuple #[.int .u64 ((0 : Nat) : Int), .int .u64 (n : Int)]) ∧ w' = w := by
  have l1 := low32 1 (by decide)
  have l2 := low32 n (by omega)
  have l3 := low32 0 (by decide)
  rw [Nat.mod_eq_of_lt (by omega)] at l1 l2 l3
  exact mul64_walk 1 n 1 0 n 0 n 0 0 0 0 0 n l1 (by decide) l2 (by omega) (u64_of _ _ (by omega) (by omega)) (u64_of _ _ (by rw [u64_of ((((0 : Nat) : Int)) * (n : Int)) 0 (by omega) (by decide)]; omega) (by decide)) l3 (by decide) (u64_of _ _ (by rw [u64_of (((1 : Nat) : Int) * ((0 : Nat) : Int)) 0 (by omega) (by decide)]; omega) (by decide))
    (u64_of _ _ (by rw [u64_of (((0 : Nat) : Int) * ((0 : Nat) : Int)) 0 (by omega) (by decide), u64_of (((0 : Nat) : Int) + ((0 : Nat) : Int)) 0 (by omega) (by decide)]; omega) (by decide)) (u64_of _ _ (by omega) (by omega)) w
set_option maxHeartbeats 1000000 in
theorem bitsMul_c (n : Nat) (hn : n ≤ 1000) (w : World) : Calls Try.prog 66 #[.int .u64 1, .int .u64 (n : Int)] w fun e w' => e = .returned (.tuple #[.int .u64 0, .int .u64 (n : Int)]) ∧ w = w' := by
  have HM : Hid (∀ w, Calls Try.prog 76 #[.int .u64 1, .int .u64 (n : Int)] w fun e w' => e = .returned (.tuple #[.int .u64 0, .int .u64 (n : Int)]) ∧ w' = w) := fun w => mul64_one n hn w
  clear hn
  go_enter Try.func66, Try.ntmps66
  go_wp2_with fail
  refine (HM.out _).mono ?_
  rintro e w' ⟨rfl, rfl⟩
  go_wp2_with fail
  go_ret2
  exact ⟨rfl, rfl⟩
def zC : Col := fun _ => 0
/-- A row of n colours, the first m of which are c. -/
def repL (c : Col) (n m : Nat) : List Col := List.replicate m c ++ List.replicate (n - m) zC
theorem repL_len (c : Col) {n m : Nat} (h : m ≤ n) : (repL c n m).length = n := by simp [repL]; omega
theorem rep_made (n : Nat) (c : Col) : madeCells (Value.agg #[.int .u8 0, .int .u8 0, .int .u8 0, .int .u8 0]).cells (n * 4) = (flatK .u8 (repL c n 0)).toArray := by
  have hf : ∀ n, flatK .u8 (List.replicate n zC) = List.replicate (n * 4) (.int .u8 0) := fun n => by
    induction n with
    | zero => rfl
    | succ n ih =>
      rw [List.replicate_succ, flatK, ih, show (n + 1) * 4 = n * 4 + 1 + 1 + 1 + 1 by omega, List.replicate_succ, List.replicate_succ, List.replicate_succ, List.replicate_succ]
      rfl
  unfold repL
  rw [List.replicate_zero, List.nil_append, Nat.sub_zero, hf]
  apply Array.ext
  · simp [size_madeCells]
  · intro i h1 h2
    have hi : i < n * 4 := by simpa [size_madeCells] using h1
    have h4 : i % 4 < 4 := Nat.mod_lt _ (by decide)
    simp only [madeCells, Array.getElem_map, Array.getElem_range, List.getElem_toArray, List.getElem_replicate]
    have hs : (Value.agg #[.int .u8 0, .int .u8 0, .int .u8 0, .int .u8 0]).cells.size = 4 := rfl
    rw [hs]
    generalize i % 4 = j at h4 ⊢
    match j, h4 with
    | 0, _ => rfl
    | 1, _ => rfl
    | 2, _ => rfl
    | 3, _ => rfl
theorem rep_step (c : Col) {n m k : Nat} (hm : m + k ≤ n) : ((flatK .u8 (repL c n m)).toArray.toList.take (m * 4) ++ flatK .u8 (List.replicate k c) ++ (flatK .u8 (repL c n m)).toArray.toList.drop (m * 4 + (flatK .u8 (List.replicate k c)).length)).toArray = (flatK .u8 (repL c n (m + k))).toArray := by
  unfold repL
  rw [flatK_len, List.length_replicate, flatK_append, show List.replicate (n - m) zC = List.replicate k zC ++ List.replicate (n - (m + k)) zC by rw [List.replicate_append_replicate]; congr 1; omega, flatK_append, flatK_append, ← List.replicate_append_replicate (n := m) (m := k) (a := c), flatK_append]
  have h1 : (flatK .u8 (List.replicate m c)).length = m * 4 := by rw [flatK_len, List.length_replicate]
  have h2 : (flatK .u8 (List.replicate k zC)).length = k * 4 := by rw [flatK_len, List.length_replicate]
  congr 1
  simp only
  rw [List.take_append_of_le_length (by omega), List.take_of_length_le (by omega), List.drop_append, h1, List.drop_of_length_le (by omega), List.nil_append, show m * 4 + k * 4 - m * 4 = k * 4 by omega, List.drop_append, h2, List.drop_of_length_le (by omega), List.nil_append, Nat.sub_self, List.drop_zero, List.append_assoc]
theorem cols_blk {w : World} {g : Nat} {t : TypeId} {L : List Col} (h : Blk w g t (flatK .u8 L).toArray) : ColsAt .u8 w g 0 L := fun i p hp => by
  obtain ⟨e0, e1, e2, e3⟩ := flatK_at .u8 L i p hp
  unfold ColAt
  rw [h.cell, h.cell, h.cell, h.cell, Nat.zero_add]
  simp only [List.getElem?_toArray]
  exact ⟨e0, e1, e2, e3⟩
theorem rep_cols (c : Col) {n m : Nat} (_h : m ≤ n) : ∀ (i : Nat) (p : Col), (List.replicate m c)[i]? = some p → (repL c n m)[i]? = some p := fun i p hp => by
  have hi : i < m := by have := (List.getElem?_eq_some_iff.1 hp).1; simpa using this
  unfold repL
  rw [List.getElem?_append_left (by simpa using hi)]; exact hp
set_option maxHeartbeats 4000000 in
set_option maxRecDepth 100000 in
theorem repeat_c (c : Col) (n b : Nat) (hn : 1 ≤ n ∧ n ≤ 256) (w : World) (hb : b < w.heap.size) (hc : ColAt .u8 w b 0 c) : Calls Try.prog 49 #[.slice (some ⟨b, 0, none⟩) 1 1, .int .i64 (n : Int)] w fun e w' => ∃ g, e = .returned (.slice (some ⟨g, 0, none⟩) n n) ∧ g < w'.heap.size ∧ ColsAt .u8 w' g 0 (List.replicate n c) ∧ Below w.heap.size w w' := by
  have HM := Lib.hid (bitsMul_c n (by omega))
  have HN := Lib.hid hn
  have d0 : decide ((n : Int) < 0) = false := by simp
  have u1 : IntKind.u64.wrap (n : Int) = (n : Int) := u64_of _ _ rfl (by omega)
  have u2 : IntKind.i64.wrap (n : Int) = (n : Int) := (wrap_is _).trans (wrapR _ (by omega) (by omega))
  have d1 : decide ((n : Int) > 9223372036854775807) = false := by simp; omega
  obtain ⟨i, hi, hz0, hz1, hz2⟩ := info_parts infoC8
  have hmk := run_make (P := Try.prog) w 22 28 i _ Try.underlying22 hi hz0 .i64 .i64 n n (by omega) (Int.le_refl _) (by rw [hz2]; omega) (by omega)
  rw [hz1, Int.toNat_natCast, rep_made n c] at hmk
  obtain ⟨w1, hw1⟩ : ∃ WW, w.alloc (.cells (flatK .u8 (repL c n 0)).toArray 28) = WW := ⟨_, rfl⟩
  have P1 : Hid (Below w.heap.size w w1 ∧ Blk w1 w.heap.size 28 (flatK .u8 (repL c n 0)).toArray ∧ ColAt .u8 w1 b 0 c) := by
    rw [← hw1]; exact ⟨(Below.refl _ _).alloc (Nat.le_refl _) _, Blk.new _ _ _, hc.on ((Below.refl _ _).alloc (Nat.le_refl _) _) hb⟩
  rw [hw1] at hmk
  have hsz : (Try.prog.info? 28).map (·.size) = some 4 := by rw [hi]; simp [hz1]
  have HSZ := Lib.hid hsz
  have hm1 : Nat.min 1 n = 1 := Nat.min_eq_left hn.1
  have hcp := run_copy_wide (P := Try.prog) w1 22 22 3 28 w.heap.size 0 n n ⟨b, 0, none⟩ 1 1 4 _ _ (flatK .u8 [c]) Try.underlying22 hsz P1.out.2.1 (by rw [hm1]; rfl) (one_news P1.out.2.2) (by rw [flatK_len]; simp [flatK_len, repL_len]; omega) (flatK_one _ _)
  have hst := rep_step c (n := n) (m := 0) (k := 1) (by omega)
  rw [Nat.zero_mul] at hst
  rw [hm1, show flatK .u8 [c] = flatK .u8 (List.replicate 1 c) from rfl, hst, Nat.zero_add] at hcp
  obtain ⟨w2, hw2⟩ : ∃ WW, w1.setRow w.heap.size (flatK .u8 (repL c n 1)).toArray = WW := ⟨_, rfl⟩
  rw [hw2] at hcp
  have P2 : Hid (Below w.heap.size w w2 ∧ Blk w2 w.heap.size 28 (flatK .u8 (repL c n 1)).toArray) := by
    rw [← hw2]
    exact ⟨P1.out.1.trans ⟨rfl, rfl, rfl, by rw [setRow_size]; exact Nat.le_refl _, fun k hk => setRow_other _ _ _ _ (by omega)⟩, P1.out.2.1.row _⟩
  clear hn hc hb hi hz0 hz1 hz2 hsz hm1 hst hw1 hw2
  go_enter Try.func49, Try.ntmps49
  go_wp2_with fail
  refine (HM.out _).mono ?_
  rintro e w' ⟨rfl, rfl⟩
  go_wp2_with fail
  clear hmk hcp P1
  go_loopw [8] (fun bp wr => ∃ m : Nat, 1 ≤ m ∧ m ≤ n ∧ bp = .int .i64 (m : Int) ∧ Hid (Below w.heap.size w wr ∧ Blk wr w.heap.size 28 (flatK .u8 (repL c n m)).toArray)) (fun bp _ => n - (intOf bp).toNat)
  case atStart => exact ⟨1, by omega, HN.out.1, rfl, P2.out.1, P2.out.2⟩
  case round =>
    obtain ⟨m, h1, h2, rfl, hw⟩ := hrel
    obtain ⟨w3, hw3⟩ : ∃ x, x = wr := ⟨_, rfl⟩
    rw [← hw3] at hw ⊢
    clear hw3
    by_cases hlt : m < n
    · have hd : decide ((m : Int) < (n : Int)) = true := by simp; omega
      obtain ⟨k, hk⟩ : ∃ k, Nat.min m (n - m) = k := ⟨_, rfl⟩
      have hkm : 1 ≤ k ∧ k ≤ m ∧ m + k ≤ n := by rw [← hk]; simp only [Nat.min_def]; split <;> omega
      obtain ⟨mk, hmk⟩ : ∃ mk, m + k = mk := ⟨_, rfl⟩
      have HMK : Hid (1 ≤ mk ∧ mk ≤ n ∧ m < mk) := by unfold Hid; omega
      have hsrc : ∀ j u, (flatK .u8 (List.replicate k c))[j]? = some u → w3.drew.cell? ((⟨w.heap.size, 0, none⟩ : Addr).add j) = some u :=
        ColsAt.src (w := w3.drew) (b := w.heap.size) (o := 0) fun i p hp => by
          refine cols_blk (w := w3.drew) hw.out.2 i p (rep_cols c (by omega) i p ?_)
          have hi : i < k := by have := (List.getElem?_eq_some_iff.1 hp).1; simpa using this
          rw [List.getElem?_replicate, if_pos hi] at hp
          rw [List.getElem?_replicate, if_pos (by omega)]; exact hp
      have hcp := run_copy_wide (P := Try.prog) w3.drew 22 22 3 28 w.heap.size (m * 4) (n - m) (n - m) ⟨w.heap.size, 0, none⟩ m n 4 _ _ (flatK .u8 (List.replicate k c)) Try.underlying22 HSZ.out hw.out.2 (by rw [hk, flatK_len, List.length_replicate]) hsrc (by rw [flatK_len, List.length_replicate, List.size_toArray, flatK_len, repL_len c (by omega)]; omega) (flatK_one _ _)
      rw [hk, rep_step c hkm.2.2, hmk] at hcp
      obtain ⟨w4, hw4⟩ : ∃ WW, w3.drew.setRow w.heap.size (flatK .u8 (repL c n mk)).toArray = WW := ⟨_, rfl⟩
      rw [hw4] at hcp
      have P4 : Hid (Below w.heap.size w w4 ∧ Blk w4 w.heap.size 28 (flatK .u8 (repL c n mk)).toArray) := by
        rw [← hw4]
        exact ⟨(hw.out.1.trans ⟨rfl, rfl, rfl, Nat.le_refl _, fun _ _ => rfl⟩).trans ⟨rfl, rfl, rfl, by rw [setRow_size]; exact Nat.le_refl _, fun k hk => setRow_other _ _ _ _ (by omega)⟩, Blk.row (w := w3.drew) hw.out.2 _⟩
      have ek : wrap64 ((m : Int) + (k : Int)) = (mk : Int) := by have := HN.out; rw [wrapR _ (by omega) (by omega)]; omega
      have ek' := (wrap_is _).trans ek
      have q0 : (0 : Int) ≤ (m : Int) := by omega
      have q1 : (m : Int) ≤ (n : Int) := by omega
      have q2 : ¬ n = m := by omega
      have q3 : ¬ m = 0 := by omega
      clear hk hkm hmk hsrc hw4 hw h1 h2 hlt
      go_wp2_with fail
      go_region
      go_wp2_with fail
      exact ⟨⟨mk, HMK.out.1, HMK.out.2.1, rfl, P4.out⟩, by have := HMK.out; simp [intOf]; omega⟩
    · have hd : decide ((m : Int) < (n : Int)) = false := by simp; omega
      have hmn : Hid (m = n) := by unfold Hid; omega
      go_wp2_with fail
      go_ret
      refine ⟨_, rfl, hw.out.2.lt, ?_, hw.out.1⟩
      have h := cols_blk hw.out.2
      rw [hmn.out] at h
      unfold repL at h
      rw [Nat.sub_self, List.replicate_zero, List.append_nil] at h
      exact h
end Go.Proofs.Ytoppmlfibllhlaa
