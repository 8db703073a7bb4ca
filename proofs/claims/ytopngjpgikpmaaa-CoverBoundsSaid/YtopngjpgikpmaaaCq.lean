/- Layer 8: how many points small inputs have; the bound of all points; its pixels. -/
import Derived.Test.YtopngjpgikpmaaaLI
namespace Go.Proofs.Ytopngjpgikpmaaa
open Go.RowKit
set_option maxHeartbeats 4000000 in
set_option maxRecDepth 100000 in
theorem smallT_c (s : Value) (S : List (Value × List Pt)) (x0 y0 x1 y1 : Int) (w : World) (row : PolyR w s S) :
    Calls Try.prog 9 #[s, .agg #[.int .i64 x0, .int .i64 y0, .int .i64 x1, .int .i64 y1]] w fun e w' => ∃ r, e = .returned (.bool r) ∧ (r = true → Small S ⟨x0, y0, x1, y1⟩ ∧ (S.map Prod.snd).flatten.length ≤ 60) ∧ Below w.heap.size w w' := by
  have HW := Lib.hid (fun w => window_c x0 y0 x1 y1 w)
  have HWI := Lib.hid (winB_iff ⟨x0, y0, x1, y1⟩)
  obtain ⟨ao, c, rfl⟩ := row.shape
  obtain ⟨n, hn⟩ : ∃ n, S.length = n := ⟨_, rfl⟩
  rw [hn] at row ⊢
  have HN := Lib.hid hn; have HROW := Lib.hid row
  clear hn row
  go_enter Try.func9, Try.ntmps9
  go_wp2_with fail
  go_loopw [5, 10] (fun t i wr => ∃ (k T : Nat), k ≤ n ∧ k ≤ T ∧ T ≤ 60 ∧ t = .int .i64 T ∧ i = .int .i64 k ∧ Hid ((∀ x ∈ S.take k, x.2.length ≤ 20) ∧ Below w.heap.size w wr ∧ Blk wr w.heap.size 24 (four ⟨x0, y0, x1, y1⟩) ∧ ((S.take k).map Prod.snd).flatten.length + k = T)) (fun _ i _ => n - (intOf i).toNat)
  case atStart => exact ⟨0, 0, by omega, by omega, by omega, rfl, rfl, by simp, (Below.refl _ _).alloc (Nat.le_refl _) _, Blk.new _ _ _, by simp⟩
  case round =>
    obtain ⟨k, T, hk, hkT, hT, rfl, rfl, hw⟩ := hrel
    by_cases hlt : k < n
    · have hd : decide ((k : Int) < (n : Int)) = true := by simp; omega
      obtain ⟨⟨v, l⟩, hq⟩ : ∃ q, S[k]? = some q := ⟨_, List.getElem?_eq_getElem (by rw [HN.out]; exact hlt)⟩
      have hm := List.mem_of_getElem? hq
      obtain ⟨b, o, rfl, hbs, c0⟩ := (HROW.out.on hw.out.2.1).at hq
      have hrow : Row wr v l := (HROW.out.2 _ hm).on hw.out.2.1
      obtain ⟨aq, cq, rfl⟩ := hrow.shape
      obtain ⟨m, hmm⟩ : ∃ m, l.length = m := ⟨_, rfl⟩
      simp only at c0
      rw [hmm] at c0
      have HQ := Lib.hid hq; have HM := Lib.hid hmm
      clear hq hm hbs hrow hmm
      by_cases hm20 : m ≤ 20
      · have hd2 : decide ((m : Int) > 20) = false := by simp; omega
        have htk : Hid (∀ x ∈ S.take (k + 1), x.2.length ≤ 20) := fun x hx => by
          rw [List.take_add_one, HQ.out] at hx
          rcases List.mem_append.1 hx with h | h
          · exact hw.out.1 x h
          · simp only [Option.toList, List.mem_singleton] at h
            subst h
            simp only
            rw [HM.out]; exact hm20
        have htk2 : Hid (((S.take (k + 1)).map Prod.snd).flatten.length + (k + 1) = T + (m + 1)) := by
          have h1 := hw.out.2.2.2
          have h2 := HM.out
          rw [List.take_add_one, HQ.out]
          simp only [Option.toList, List.map_append, List.flatten_append, List.length_append, List.map_cons, List.map_nil, List.flatten_cons, List.flatten_nil, List.append_nil]
          unfold Hid
          omega
        by_cases ht60 : T + (m + 1) ≤ 60
        · have hd3 : decide ((T : Int) + ((m : Int) + 1) > 60) = false := by simp; omega
          go_wp2_with fail
          exact ⟨⟨k + 1, T + (m + 1), by omega, by omega, by omega, by go_num, by go_num, htk.out, hw.out.2.1, hw.out.2.2.1, htk2.out⟩, by simp [intOf]; omega⟩
        · have hd3 : decide ((T : Int) + ((m : Int) + 1) > 60) = true := by simp; omega
          go_wp2_with fail
          go_ret
          exact ⟨_, rfl, fun h => (by cases h), hw.out.2.1⟩
      · have hd2 : decide ((m : Int) > 20) = true := by simp; omega
        go_wp2_with fail
        go_ret
        exact ⟨_, rfl, fun h => (by cases h), hw.out.2.1⟩
    · have hd : decide ((k : Int) < (n : Int)) = false := by simp; omega
      have HLN : Hid (S.length ≤ 60 ∧ (∀ x ∈ S, x.2.length ≤ 20) ∧ (S.map Prod.snd).flatten.length ≤ 60) := by
        have h1 := hw.out.1
        have h2 := hw.out.2.2.2
        rw [List.take_of_length_le (by rw [HN.out]; omega)] at h1 h2
        exact ⟨by rw [HN.out]; omega, h1, by omega⟩
      have a0 := hw.out.2.2.1.b0
      have a1 := hw.out.2.2.1.b1
      have a2 := hw.out.2.2.1.b2
      have a3 := hw.out.2.2.1.b3
      obtain ⟨r, hr⟩ : ∃ r, winB ⟨x0, y0, x1, y1⟩ = r := ⟨_, rfl⟩
      have HR := Lib.hid hr
      rw [hr] at HW
      cases r
      · clear hr
        go_wp2_with fail
        refine (HW.out _).mono ?_
        rintro e w' ⟨rfl, rfl⟩
        go_wp2_with fail
        go_ret
        exact ⟨_, rfl, fun _ => ⟨⟨HLN.out.1, HLN.out.2.1, fun h => absurd h (by rw [HR.out]; decide)⟩, HLN.out.2.2⟩, hw.out.2.1⟩
      · have hb : x0 < x1 ∧ y0 < y1 ∧ -4194304 ≤ x0 ∧ x1 ≤ 4194304 ∧ -4194304 ≤ y0 ∧ y1 ≤ 4194304 ∧ x1 - x0 ≤ 256 ∧ y1 - y0 ≤ 256 := HWI.out.1 hr
        obtain ⟨q1, q2, q3, q4, q5, q6, q7, q8⟩ := hb
        have hmul : (x1 - x0) * (y1 - y0) ≤ 256 * 256 := Int.mul_le_mul q7 q8 (by omega) (by omega)
        have hmul0 : 0 ≤ (x1 - x0) * (y1 - y0) := Int.mul_nonneg (by omega) (by omega)
        have e0 : wrap64 ((x1 - x0) * (y1 - y0)) = (x1 - x0) * (y1 - y0) := wrapR _ (by omega) (by omega)
        clear hr hmul hmul0
        go_wp2_with fail
        refine (HW.out _).mono ?_
        rintro e w' ⟨rfl, rfl⟩
        go_wp2_with fail
        go_ret
        exact ⟨_, rfl, fun h => ⟨⟨HLN.out.1, HLN.out.2.1, fun _ => by simpa using h⟩, HLN.out.2.2⟩, hw.out.2.1⟩
theorem empty_zero : emptyI ⟨0, 0, 0, 0⟩ = true := by decide
theorem join_assoc (a b c : Bx) : joinI (joinI a b) c = joinI a (joinI b c) := by
  have hj : ∀ a b : Bx, emptyI a = false → emptyI b = false → emptyI (join0 a b) = false := fun a b ha hb => by
    simp [emptyI, join0] at ha hb ⊢; omega
  have h0 : ∀ a b c : Bx, join0 (join0 a b) c = join0 a (join0 b c) := fun a b c => by
    simp only [join0, Bx.mk.injEq]; omega
  cases ha : emptyI a <;> cases hb : emptyI b <;> cases hc : emptyI c <;> simp [joinI, ha, hb, hc, empty_zero, hj, h0]
theorem join_zero (a : Bx) : joinI ⟨0, 0, 0, 0⟩ (joinI ⟨0, 0, 0, 0⟩ a) = joinI ⟨0, 0, 0, 0⟩ a := by
  cases ha : emptyI a <;> simp [joinI, ha, empty_zero]
theorem fold_join : ∀ (l : List Pt) (b : Bx), joinI b ⟨0, 0, 0, 0⟩ = b → l.foldl bstep b = joinI b (boundI l)
  | [], b, h => h.symm
  | p :: l, b, h => by
    have e0 : joinI (⟨0, 0, 0, 0⟩ : Bx) ⟨0, 0, 0, 0⟩ = ⟨0, 0, 0, 0⟩ := by simp [joinI, empty_zero]
    have hz : ∀ a : Bx, joinI (bstep a p) ⟨0, 0, 0, 0⟩ = bstep a p := fun a => by
      have hp : emptyI (ptBox p) = false := by simp [emptyI, ptBox]; omega
      have e : joinI (ptBox p) ⟨0, 0, 0, 0⟩ = ptBox p := by simp [joinI, hp, empty_zero]
      unfold bstep; rw [join_assoc, e]
    unfold boundI
    simp only [List.foldl_cons]
    rw [fold_join l _ (hz b), fold_join l _ (hz ⟨0, 0, 0, 0⟩)]
    unfold bstep
    rw [← join_assoc, ← join_assoc, h]
theorem bound_norm (l : List Pt) : joinI (boundI l) ⟨0, 0, 0, 0⟩ = boundI l := by
  have e0 : joinI (⟨0, 0, 0, 0⟩ : Bx) ⟨0, 0, 0, 0⟩ = ⟨0, 0, 0, 0⟩ := by simp [joinI, empty_zero]
  have h := fold_join l ⟨0, 0, 0, 0⟩ e0
  have h2 : boundI l = joinI ⟨0, 0, 0, 0⟩ (boundI l) := h
  rw [h2]
  cases ha : emptyI (boundI l) <;> simp [joinI, ha, empty_zero]
theorem bound_append (l m : List Pt) : boundI (l ++ m) = joinI (boundI l) (boundI m) := by
  conv => lhs; unfold boundI
  rw [List.foldl_append]
  exact fold_join m _ (bound_norm l)
theorem boundP_flat (P : List (List Pt)) : boundP P = boundI P.flatten := by
  unfold boundP
  have key : ∀ (P : List (List Pt)) (l0 : List Pt), P.foldl (fun b l => joinI b (boundI l)) (boundI l0) = boundI (l0 ++ P.flatten) := fun P => by
    induction P with
    | nil => intro l0; simp
    | cons l P ih =>
      intro l0
      rw [List.foldl_cons, ← bound_append, ih (l0 ++ l), List.flatten_cons, List.append_assoc]
  exact key P []
/-- What the pixels of the bound say of a pixel that is covered, and of each point. -/
theorem covered_in (P : List (List Pt)) (rule x y : Int) (h : countI P rule x y ≠ 0) (hb : pixelsI (boundI P.flatten) ≠ ⟨0, 0, 0, 0⟩) : hasI (pixelsI (boundI P.flatten)) x y = true := by
  have h1 : hasP (aroundI (boundP P)) (x, y) := Classical.byContradiction fun hn => h (count_out P rule x y hn)
  rw [boundP_flat] at h1
  have h2 : pixelsI (boundI P.flatten) = aroundI (boundI P.flatten) := by
    unfold pixelsI at hb ⊢
    split
    · next h3 => rw [if_pos h3] at hb; exact absurd rfl hb
    · rfl
  rw [h2]
  unfold hasP at h1
  unfold hasI
  simp only [Bool.and_eq_true, decide_eq_true_eq]
  simp only at h1
  omega
theorem point_in (l : List Pt) (p : Pt) (hp : p ∈ l) (hb : pixelsI (boundI l) ≠ ⟨0, 0, 0, 0⟩) : hasI (pixelsI (boundI l)) (p.1 / 256) (p.2 / 256) = true := by
  have h1 : hasP (boundI l) p := fold_has l _ p (.inr hp)
  have h2 : pixelsI (boundI l) = aroundI (boundI l) := by
    unfold pixelsI at hb ⊢
    split
    · next h3 => rw [if_pos h3] at hb; exact absurd rfl hb
    · rfl
  rw [h2]
  unfold hasP at h1
  unfold hasI aroundI cei
  simp only [Bool.and_eq_true, decide_eq_true_eq]
  omega
end Go.Proofs.Ytopngjpgikpmaaa
