/- Layer 12: package disk: New. -/
import Derived.Test.YtdcjchakgfpgaaaCh
namespace Go.Proofs.Ytdcjchakgfpgaaa
open Go.RowKit
def NewI (N : Nat) (bl : Nat) (B : List Int) (v : Value) (w : World) : Prop := ∃ a c, v = .slice a bl c ∧ OwnI w N (.slice a bl c) B
theorem NewI.grow {N bl : Nat} {B : List Int} {v : Value} {w w' : World} (h : NewI N bl B v w) (hb : Below w.heap.size w w') : NewI N bl B v w' := by
  obtain ⟨a, c, e, h⟩ := h
  exact ⟨a, c, e, h.grow hb⟩
theorem OwnI.made (w : World) {base : Nat} (hb : base ≤ w.heap.size) (E : List Int) (n : Nat) (cs : Array Value) (hcs : cs = (intV E).toArray) (hn : E.length = n) (hl : n ≤ 1000000) : OwnI (w.alloc (.cells cs 3)) base (.slice (some ⟨w.heap.size, 0, none⟩) n n) E := by
  subst hcs hn
  refine ⟨by simp, .inr ⟨w.heap.size, E.length, _, rfl, hb, Blk.new _ _ _, Nat.le_refl _, by unfold maxLen; omega, by simp, by rw [List.take_of_length_le (by simp)]⟩⟩
theorem OwnB.madeL (w : World) {base : Nat} (hb : base ≤ w.heap.size) (E : List Int) (n : Nat) (cs : Array Value) (hcs : cs = (bytV E).toArray) (hn : E.length = n) (hl : n ≤ 10000000) : OwnB (w.alloc (.cells cs 5)) base (.slice (some ⟨w.heap.size, 0, none⟩) n n) E := by
  subst hcs hn
  refine ⟨by simp, .inr ⟨w.heap.size, E.length, _, rfl, hb, Blk.new _ _ _, Nat.le_refl _, by unfold maxLen; omega, by simp, by rw [List.take_of_length_le (by simp)]⟩⟩
theorem make_b (W : World) (n : Nat) (hn : n ≤ 10000000) : (Instr.makeSlice 24 (.int .i64 (n : Int)) (.int .i64 (n : Int))).run Try.prog W = .ok (.slice (some ⟨W.heap.size, 0, none⟩) n n) (W.alloc (.cells (Array.replicate n (Value.int .u8 0)) 5)) := by
  obtain ⟨i, hi, hz0, hz1, hz2⟩ := info_parts infoB
  have hmk := run_make (P := Try.prog) W 24 5 i _ Try.underlying24 hi hz0 .i64 .i64 n n (by omega) (Int.le_refl _) (by rw [hz2]; omega) (by omega)
  rw [hz1, Int.toNat_natCast, fill_made 0 n] at hmk
  rw [hmk]
  unfold fillL
  rw [List.replicate_zero, List.nil_append, Nat.sub_zero]
  simp
theorem ints_made (n : Nat) : madeCells (Value.int .i64 0).cells (n * 1) = (intV (List.replicate n 0)).toArray := by
  unfold madeCells intV
  rw [Nat.mul_one, List.map_replicate]
  apply Array.ext
  · simp
  · intro i h1 h2
    have hs : (Value.int .i64 0).cells = #[Value.int .i64 0] := rfl
    simp [hs, Nat.mod_one]
theorem make_i (W : World) (n : Nat) (hn : n ≤ 1000000) : (Instr.makeSlice 66 (.int .i64 (n : Int)) (.int .i64 (n : Int))).run Try.prog W = .ok (.slice (some ⟨W.heap.size, 0, none⟩) n n) (W.alloc (.cells (Array.replicate n (Value.int .i64 0)) 3)) := by
  obtain ⟨i, hi, hz0, hz1, hz2⟩ := info_parts infoI12
  have hmk := run_make (P := Try.prog) W 66 3 i _ Try.underlying66 hi hz0 .i64 .i64 n n (by omega) (Int.le_refl _) (by rw [hz2]; omega) (by omega)
  rw [hz1, Int.toNat_natCast, ints_made n] at hmk
  rw [hmk]
  simp
abbrev cellsN (z : Int) (q s : Nat) (a : Option Addr) (c : Nat) (a' : Option Addr) (c' : Nat) : Array Value := #[.int .i64 z, .slice a q c, .slice none 0 0, .slice a' s c', .int .i64 0, .int .i64 (-1), .bool false]
def NewS (N : Nat) (z : Int) (q s : Nat) (v : Value) (w : World) : Prop := ∃ a c a' c', v = .agg (cellsN z q s a c a' c') ∧ OwnB w N (.slice a q c) (List.replicate q 0) ∧ OwnI w N (.slice a' s c') (List.replicate s 0)
theorem NewS.grow {N q s : Nat} {z : Int} {v : Value} {w w' : World} (h : NewS N z q s v w) (hb : Below w.heap.size w w') : NewS N z q s v w' := by
  obtain ⟨a, c, a', c', e, h1, h2⟩ := h
  exact ⟨a, c, a', c', e, h1.grow hb, h2.grow hb⟩
def NewP (N : Nat) (z : Int) (q s : Nat) (v : Value) (w : World) : Prop := ∃ g a c a' c', v = ptrD g ∧ Blk w g 69 (cellsN z q s a c a' c') ∧ N ≤ g ∧ OwnB w N (.slice a q c) (List.replicate q 0) ∧ OwnI w N (.slice a' s c') (List.replicate s 0)
theorem NewP.grow {N q s : Nat} {z : Int} {v : Value} {w w' : World} (h : NewP N z q s v w) (hb : Below w.heap.size w w') : NewP N z q s v w' := by
  obtain ⟨g, a, c, a', c', e, h0, hn, h1, h2⟩ := h
  exact ⟨g, a, c, a', c', e, h0.grow hb, hn, h1.grow hb, h2.grow hb⟩
theorem NewP.at' {w w' : World} {z : Int} {q s : Nat} {v : Value} (hz : z * (s : Int) = (q : Int)) (h : NewP w.heap.size z q s v w') : ∃ T g, v = ptrD g ∧ At12 T w' g (newD s z) ∧ ∀ k, T k → w.heap.size ≤ k := by
  obtain ⟨g, a, c, a', c', rfl, h0, hn, h1, h2⟩ := h
  refine ⟨fun k => w.heap.size ≤ k ∧ k < w'.heap.size, g, rfl, ⟨⟨z, List.replicate q 0, [], List.replicate s 0, 0, -1, false, .slice a q c, .slice none 0 0, .slice a' s c'⟩, ⟨⟨hn, h0.lt⟩, fun k hk => hk.2, h0, owns_base h1 (Nat.zero_le _), World.ownsRow.lt h1, World.ownsRow_nil _ _ _ _, fun k e => (by cases e), fun y hy => (by cases hy), owns_base h2 (Nat.zero_le _), World.ownsRow.lt h2⟩, ?_⟩, fun k hk => hk.1⟩
  refine ⟨rfl, ?_, rfl, ?_, rfl, rfl, fun e => (by cases e), fun _ => (show (-1 : Int) < 0 by decide), show rngI (-1) from ⟨by decide, by decide⟩⟩
  · show List.replicate q 0 = List.replicate ((s : Int) * z).toNat 0
    rw [Int.mul_comm, hz, Int.toNat_natCast]
  · show List.replicate s 0 = List.replicate (s : Int).toNat 0
    rw [Int.toNat_natCast]
set_option maxHeartbeats 4000000 in
set_option maxRecDepth 100000 in
theorem kNew_c (s0 z : Int) (w : World) (h : diskOkI s0 z) : Calls Try.prog 12 #[.int .i64 s0, .int .i64 z] w fun e w' => ∃ T g, e = .returned (ptrD g) ∧ At12 T w' g (newD s0 z) ∧ Below w.heap.size w w' ∧ ∀ k, T k → w.heap.size ≤ k := by
  obtain ⟨s, rfl⟩ : ∃ s : Nat, s0 = (s : Int) := ⟨s0.toNat, by have := h.1; omega⟩
  obtain ⟨h1, h2, h3, h4⟩ := h
  obtain ⟨q, hq⟩ : ∃ q : Nat, (s : Int) * z = (q : Int) := ⟨((s : Int) * z).toNat, by have := Int.mul_nonneg (show (0 : Int) ≤ s by omega) (show 0 ≤ z by omega); omega⟩
  have hqm : (s : Int) * z ≤ 4096 * 512 := by
    have a1 := Int.mul_le_mul_of_nonneg_right h2 (show 0 ≤ z by omega)
    omega
  have HZQ : Hid (z * (s : Int) = (q : Int)) := by rw [Hid, Int.mul_comm]; exact hq
  have HQL : Hid (q ≤ 10000000 ∧ s ≤ 1000000) := ⟨by omega, by omega⟩
  have e1 : wrap64 ((s : Int) * z) = (q : Int) := by rw [hq]; exact wrapR _ (by omega) (by omega)
  have E2 : Hid (IntKind.i64.wrap ((s : Int) * z) = (q : Int)) := (wrap_is _).trans e1
  have c1 : decide ((s : Int) < 1) = false := by simp; omega
  have c2 : decide ((s : Int) > 4096) = false := by simp; omega
  have c3 : decide (z < 16) = false := by simp; omega
  have c4 : decide (z > 512) = false := by simp; omega
  clear hq hqm h1 h2 h3 h4
  go_enter Try.func12, Try.ntmps12
  go_upto_region 3 with fail
  clear c1 c2 c3 c4 e1
  refine wp_region_put (by kernel_rfl) (by kernel_rfl) (by kernel_rfl) (fun b' vs w' => (b' 0 = true → vs 0 = .int .i64 z) ∧ (b' 1 = true → vs 1 = .int .i64 (s : Int)) ∧ (b' 2 = true → vs 2 = .int .i64 z) ∧ (b' 3 = true → vs 3 = .int .i64 (q : Int)) ∧ (b' 5 = true → vs 5 = .int .i64 (s : Int)) ∧ (b' 4 = true → Hid (NewB w.heap.size q (List.replicate q 0) (vs 4) w')) ∧ (b' 6 = true → Hid (NewI w.heap.size s (List.replicate s 0) (vs 6) w')) ∧ (b' 7 = true → Hid (NewS w.heap.size z q s (vs 7) w')) ∧ (b' 8 = true → Hid (NewP w.heap.size z q s (vs 8) w')) ∧ (b' 9 = true → Hid (NewP w.heap.size z q s (vs 9) w')) ∧ (Hid (Below w.heap.size w w' ∧ w.heap.size ≤ w'.heap.size))) ?_ ?_ ?_
  · intro vs
    exact ⟨fun h => Bool.noConfusion h, fun h => Bool.noConfusion h, fun h => Bool.noConfusion h, fun h => Bool.noConfusion h, fun h => Bool.noConfusion h, fun h => Bool.noConfusion h, fun h => Bool.noConfusion h, fun h => Bool.noConfusion h, fun h => Bool.noConfusion h, fun h => Bool.noConfusion h, Lib.hid ⟨below_drewN (Below.refl _ _) 1, Nat.le_refl _⟩⟩
  · rintro b' vs w' i op hi hun hall ⟨h0, h1, h2, h3, h5, y4, y6, y7, y8, y9, hB⟩
    have hil : i < 10 := (List.getElem?_eq_some_iff.1 hi).1
    rcases i with _ | _ | _ | _ | _ | _ | _ | _ | _ | _ | i
    · obtain rfl := Option.some.inj hi
      clear hi hil
      refine wpOp_step rfl (fun K hK => ?_)
      have HKK := Lib.hid hK; clear hK
      simp only [putAll, Act.put, List.setIfInBounds_toArray, List.set_cons_zero, List.set_cons_succ]
      go_simp
      exact HKK.out _ _ ⟨_, by simp only [putAll, Act.put, List.setIfInBounds_toArray, List.set_cons_zero, List.set_cons_succ] <;> rfl, fun _ => rfl, h1, h2, h3, h5, y4, y6, y7, y8, y9, hB⟩
    · obtain rfl := Option.some.inj hi
      clear hi hil
      refine wpOp_step rfl (fun K hK => ?_)
      have HKK := Lib.hid hK; clear hK
      simp only [putAll, Act.put, List.setIfInBounds_toArray, List.set_cons_zero, List.set_cons_succ]
      go_simp
      exact HKK.out _ _ ⟨_, by simp only [putAll, Act.put, List.setIfInBounds_toArray, List.set_cons_zero, List.set_cons_succ] <;> rfl, h0, fun _ => rfl, h2, h3, h5, y4, y6, y7, y8, y9, hB⟩
    · obtain rfl := Option.some.inj hi
      clear hi hil
      refine wpOp_step rfl (fun K hK => ?_)
      have HKK := Lib.hid hK; clear hK
      simp only [putAll, Act.put, List.setIfInBounds_toArray, List.set_cons_zero, List.set_cons_succ]
      go_simp
      exact HKK.out _ _ ⟨_, by simp only [putAll, Act.put, List.setIfInBounds_toArray, List.set_cons_zero, List.set_cons_succ] <;> rfl, h0, h1, fun _ => rfl, h3, h5, y4, y6, y7, y8, y9, hB⟩
    · obtain rfl := Option.some.inj hi
      clear hi hil
      have d1 := h1 (hall ⟨1, .data⟩ (by simp) rfl)
      have d2 := h2 (hall ⟨2, .data⟩ (by simp) rfl)
      refine wpOp_step rfl (fun K hK => ?_)
      have HKK := Lib.hid hK; clear hK
      simp only [putAll, Act.put, List.setIfInBounds_toArray, List.set_cons_zero, List.set_cons_succ]
      go_simp
      exact HKK.out _ _ ⟨_, by simp only [putAll, Act.put, List.setIfInBounds_toArray, List.set_cons_zero, List.set_cons_succ, d1, d2, E2.out] <;> rfl, h0, h1, h2, fun _ => rfl, h5, y4, y6, y7, y8, y9, hB⟩
    · obtain rfl := Option.some.inj hi
      clear hi hil
      have d3 := h3 (hall ⟨3, .data⟩ (by simp) rfl)
      have hm := make_b w' q HQL.out.1
      refine wpOp_step rfl (fun K hK => ?_)
      have HKK := Lib.hid hK; clear hK
      simp only [putAll, Act.put, List.setIfInBounds_toArray, List.set_cons_zero, List.set_cons_succ]
      go_simp
      have hb2 : Below w'.heap.size w' (w'.alloc (.cells (Array.replicate q (Value.int .u8 0)) 5)) := (Below.refl _ _).alloc (Nat.le_refl _) _
      exact HKK.out _ _ ⟨_, by simp only [putAll, Act.put, List.setIfInBounds_toArray, List.set_cons_zero, List.set_cons_succ, d3] <;> rfl, h0, h1, h2, h3, h5, fun _ => Lib.hid (⟨_, _, rfl, OwnB.madeL w' hB.out.2 _ q _ (by simp) (by simp) HQL.out.1⟩), fun h => Lib.hid ((y6 h).out.grow hb2), fun h => Lib.hid ((y7 h).out.grow hb2), fun h => Lib.hid ((y8 h).out.grow hb2), fun h => Lib.hid ((y9 h).out.grow hb2), Lib.hid ⟨(hB).out.1.trans (hb2.mono (hB).out.2), Nat.le_trans (hB).out.2 hb2.size⟩⟩
    · obtain rfl := Option.some.inj hi
      clear hi hil
      refine wpOp_step rfl (fun K hK => ?_)
      have HKK := Lib.hid hK; clear hK
      simp only [putAll, Act.put, List.setIfInBounds_toArray, List.set_cons_zero, List.set_cons_succ]
      go_simp
      exact HKK.out _ _ ⟨_, by simp only [putAll, Act.put, List.setIfInBounds_toArray, List.set_cons_zero, List.set_cons_succ] <;> rfl, h0, h1, h2, h3, fun _ => rfl, y4, y6, y7, y8, y9, hB⟩
    · obtain rfl := Option.some.inj hi
      clear hi hil
      have d5 := h5 (hall ⟨5, .data⟩ (by simp) rfl)
      have hm := make_i w' s HQL.out.2
      refine wpOp_step rfl (fun K hK => ?_)
      have HKK := Lib.hid hK; clear hK
      simp only [putAll, Act.put, List.setIfInBounds_toArray, List.set_cons_zero, List.set_cons_succ]
      go_simp
      have hb2 : Below w'.heap.size w' (w'.alloc (.cells (Array.replicate s (Value.int .i64 0)) 3)) := (Below.refl _ _).alloc (Nat.le_refl _) _
      exact HKK.out _ _ ⟨_, by simp only [putAll, Act.put, List.setIfInBounds_toArray, List.set_cons_zero, List.set_cons_succ, d5] <;> rfl, h0, h1, h2, h3, h5, fun h => Lib.hid ((y4 h).out.grow hb2), fun _ => Lib.hid (⟨_, _, rfl, OwnI.made w' hB.out.2 _ s _ (by simp) (by simp) HQL.out.2⟩), fun h => Lib.hid ((y7 h).out.grow hb2), fun h => Lib.hid ((y8 h).out.grow hb2), fun h => Lib.hid ((y9 h).out.grow hb2), Lib.hid ⟨(hB).out.1.trans (hb2.mono (hB).out.2), Nat.le_trans (hB).out.2 hb2.size⟩⟩
    · obtain rfl := Option.some.inj hi
      clear hi hil
      have d0 := h0 (hall ⟨0, .data⟩ (by simp) rfl)
      have o4 := y4 (hall ⟨4, .data⟩ (by simp) rfl)
      have o6 := y6 (hall ⟨6, .data⟩ (by simp) rfl)
      obtain ⟨a4, c4, e4, ho4⟩ := o4.out
      obtain ⟨a6, c6, e6, ho6⟩ := o6.out
      refine wpOp_step rfl (fun K hK => ?_)
      have HKK := Lib.hid hK; clear hK
      simp only [putAll, Act.put, List.setIfInBounds_toArray, List.set_cons_zero, List.set_cons_succ]
      go_simp
      exact HKK.out _ _ ⟨_, by simp only [putAll, Act.put, List.setIfInBounds_toArray, List.set_cons_zero, List.set_cons_succ, d0, e4, e6] <;> rfl, h0, h1, h2, h3, h5, y4, y6, fun _ => Lib.hid (⟨a4, c4, a6, c6, rfl, ho4, ho6⟩), y8, y9, hB⟩
    · obtain rfl := Option.some.inj hi
      clear hi hil
      have o7 := y7 (hall ⟨7, .data⟩ (by simp) rfl)
      obtain ⟨a4, c4, a6, c6, e7, ho4, ho6⟩ := o7.out
      refine wpOp_step rfl (fun K hK => ?_)
      have HKK := Lib.hid hK; clear hK
      simp only [putAll, Act.put, List.setIfInBounds_toArray, List.set_cons_zero, List.set_cons_succ]
      go_simp
      have hb2 : Below w'.heap.size w' (w'.alloc (.cells (cellsN z q s a4 c4 a6 c6) 69)) := (Below.refl _ _).alloc (Nat.le_refl _) _
      exact HKK.out _ _ ⟨_, by simp only [putAll, Act.put, List.setIfInBounds_toArray, List.set_cons_zero, List.set_cons_succ, e7] <;> rfl, h0, h1, h2, h3, h5, fun h => Lib.hid ((y4 h).out.grow hb2), fun h => Lib.hid ((y6 h).out.grow hb2), fun h => Lib.hid ((y7 h).out.grow hb2), fun _ => Lib.hid (⟨_, a4, c4, a6, c6, rfl, Blk.new _ _ _, hB.out.2, ho4.grow hb2, ho6.grow hb2⟩), fun h => Lib.hid ((y9 h).out.grow hb2), Lib.hid ⟨(hB).out.1.trans (hb2.mono (hB).out.2), Nat.le_trans (hB).out.2 hb2.size⟩⟩
    · obtain rfl := Option.some.inj hi
      clear hi hil
      have o8 := y8 (hall ⟨8, .data⟩ (by simp) rfl)
      obtain ⟨g8, a4, c4, a6, c6, e8, hb8, hn8, ho4, ho6⟩ := o8.out
      refine wpOp_step rfl (fun K hK => ?_)
      have HKK := Lib.hid hK; clear hK
      simp only [putAll, Act.put, List.setIfInBounds_toArray, List.set_cons_zero, List.set_cons_succ]
      go_simp
      exact HKK.out _ _ ⟨_, by simp only [putAll, Act.put, List.setIfInBounds_toArray, List.set_cons_zero, List.set_cons_succ, e8] <;> rfl, h0, h1, h2, h3, h5, y4, y6, y7, y8, fun _ => Lib.hid (⟨g8, a4, c4, a6, c6, rfl, hb8, hn8, ho4, ho6⟩), hB⟩
    · omega
  · rintro b' vs w2 hall ⟨h0, h1, h2, h3, h5, y4, y6, y7, y8, y9, hB⟩
    have d0 := h0 (hall 0 (by simp))
    have d1 := h1 (hall 1 (by simp))
    have d2 := h2 (hall 2 (by simp))
    have d3 := h3 (hall 3 (by simp))
    have d5 := h5 (hall 5 (by simp))
    have o4 := y4 (hall 4 (by simp))
    have o6 := y6 (hall 6 (by simp))
    have o7 := y7 (hall 7 (by simp))
    have o8 := y8 (hall 8 (by simp))
    have o9 := y9 (hall 9 (by simp))
    have BB := hB
    simp only [putAll, Act.put, List.setIfInBounds_toArray, List.set_cons_zero, List.set_cons_succ, d0, d1, d2, d3, d5]
    clear hall h0 d0 h1 d1 h2 d2 h3 d3 h5 d5 y4 y6 y7 y8 y9 hB
    have H2 : Hid (NewP w.heap.size z q s (vs 9) w2 ∧ Below w.heap.size w w2) := ⟨o9.out, BB.out.1⟩
    generalize vs 9 = v9 at *
    generalize vs 4 = v4 at *
    generalize vs 6 = v6 at *
    generalize vs 7 = v7 at *
    generalize vs 8 = v8 at *
    clear o4 o6 o7 o8 o9 BB
    obtain ⟨T, g, e9, hat, hT⟩ := H2.out.1.at' HZQ.out
    have H3 := Lib.hid (And.intro hat hT)
    subst e9
    clear hat hT
    go_wp2_with fail
    go_ret
    exact ⟨T, g, rfl, H3.out.1, H2.out.2, H3.out.2⟩
set_option maxHeartbeats 4000000 in
set_option maxRecDepth 100000 in
theorem kNewBad_c (s z : Int) (w : World) (h : ¬ diskOkI s z) : Calls Try.prog 12 #[.int .i64 s, .int .i64 z] w fun e w' => e = .returned (.pointer none) ∧ Below w.heap.size w w' := by
  by_cases h1 : s < 1
  · have c1 : decide (s < 1) = true := by simpa using h1
    clear h h1
    go_enter Try.func12, Try.ntmps12
    go_wp2_with fail
    go_ret
    exact ⟨rfl, Below.refl _ _⟩
  · have c1 : decide (s < 1) = false := by simpa using h1
    by_cases h2 : s > 4096
    · have c2 : decide (s > 4096) = true := by simpa using h2
      clear h h1 h2
      go_enter Try.func12, Try.ntmps12
      go_wp2_with fail
      go_ret
      exact ⟨rfl, Below.refl _ _⟩
    · have c2 : decide (s > 4096) = false := by simpa using h2
      by_cases h3 : z < 16
      · have c3 : decide (z < 16) = true := by simpa using h3
        clear h h1 h2 h3
        go_enter Try.func12, Try.ntmps12
        go_wp2_with fail
        go_ret
        exact ⟨rfl, Below.refl _ _⟩
      · have c3 : decide (z < 16) = false := by simpa using h3
        have h4 : z > 512 := by
          unfold diskOkI at h
          omega
        have c4 : decide (z > 512) = true := by simpa using h4
        clear h h1 h2 h3 h4
        go_enter Try.func12, Try.ntmps12
        go_wp2_with fail
        go_ret
        exact ⟨rfl, Below.refl _ _⟩
end Go.Proofs.Ytdcjchakgfpgaaa
