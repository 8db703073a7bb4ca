/- Layer 14: package store: Compact. -/
import Derived.Test.YtdcjchakgfpgaaaMl
namespace Go.Proofs.Ytdcjchakgfpgaaa
open Go.RowKit
set_option maxHeartbeats 8000000 in
set_option maxRecDepth 100000 in
theorem compact_c (U : Nat → Prop) (w : World) (a g : Nat) (s : SM) (m : Int) (bv : Value) (B : List Int) (st : SS U w a g s) (ok : OkD s.d m) (sok : SOk s.d s.h s.D) (row : RowB w bv B) (hB : OkB B) (hbl : B.length ≤ 400) (hg : s.h.gen ≤ 999999) (hm : m + (needN s.d.size.toNat B.length 0 : Int) + 3 ≤ 1000) :
    Calls Try.prog 20 #[ptrD a, bv] w fun e w' => ∃ U', e = .returned (.int .i64 (compI s B).2) ∧ SS U' w' a g (compI s B).1 ∧ To U w U' w' := by
  obtain ⟨d, h, D, f⟩ := s
  dsimp only at *
  obtain ⟨T, sv, hd, sat, hU⟩ := st
  dsimp only at hd sat
  obtain ⟨bo, bc, hbv⟩ := row.shape
  obtain ⟨M, hM⟩ : ∃ L, B.length = L := ⟨_, rfl⟩
  rw [hM] at hbv
  subst hbv
  have ok1 : OkD d 1000 := ok.mono (by have := ok.done; omega)
  have HRM := Lib.hid (sCap_c hd ok1 sat)
  have hcl := capI_le ok.made
  obtain ⟨c, hc⟩ : ∃ c, capI d = c := ⟨_, rfl⟩
  rw [hc] at HRM hcl
  by_cases hgt : (M : Int) > c
  · have HAI : Hid (compI ⟨d, h, D, f⟩ B = (⟨d, h, D, f⟩, 42)) := by unfold compI Hid; dsimp only; rw [if_pos (by omega)]
    rw [HAI.out]
    have hd1 : decide ((M : Int) > c) = true := decide_eq_true hgt
    have hd2 : decide (c < (M : Int)) = true := decide_eq_true hgt
    have HX := Lib.hid (And.intro hd (And.intro sat hU))
    clear hd sat hU row hB hbl hg hm ok ok1 sok hc hcl hM
    go_enter Try.func20, Try.ntmps20
    go_wp2_with fail
    refine (HRM.out).mono ?_
    rintro e w1 ⟨rfl, hb⟩
    have H1 : Hid (SS U w1 a g ⟨d, h, D, f⟩ ∧ To U w U w1) := ⟨⟨T, _, at_grow HX.out.1 hb, HX.out.2.1.grow hb, HX.out.2.2⟩, To.below hb⟩
    clear hb
    go_wp2_with fail
    go_ret
    exact ⟨U, rfl, H1.out⟩
  have hd1 : decide ((M : Int) > c) = false := decide_eq_false hgt
  have hd2 : decide (c < (M : Int)) = false := decide_eq_false hgt
  obtain ⟨hf2, hhf⟩ : ∃ l, 1 - h.half = l := ⟨_, rfl⟩
  obtain ⟨r9, hr9⟩ : ∃ r, saveI ⟨d, h, D, f⟩ ⟨h.gen, hf2, (M : Int), 0⟩ B 0 = r := ⟨_, rfl⟩
  have HAI : Hid (compI ⟨d, h, D, f⟩ B = r9) := by
    unfold compI Hid
    dsimp only
    rw [if_neg (by omega), hM, hhf, hr9]
  rw [HAI.out]
  have hha := sok.half
  have HHF : Hid (IntKind.i64.wrap (1 - h.half) = hf2) := by rw [Hid, hhf, wrap_is]; exact wrapR _ (by omega) (by omega)
  have HX := Lib.hid (And.intro hd (And.intro sat hU))
  have HROW0 := Lib.hid (And.intro row hbl)
  have HSAV : Hid (∀ W sv2, At12 T W g d → SAt T W a g h sv D f → OwnB W 0 sv2 B → (∀ N, N ≤ W.heap.size → (∀ k, sv2.ownBlock = some k → U k ∨ N ≤ k) → (∀ k, sv2.ownBlock = some k → ¬ T k) → Calls Try.prog 38 #[ptrD a, hdV ⟨h.gen, hf2, (M : Int), 0⟩, sv2, .int .i64 0] W fun e w' => ∃ U', e = .returned (.int .i64 r9.2) ∧ SS U' w' a g r9.1 ∧ Keep (fun k => ¬ T k ∧ k ≠ a) W w' ∧ ∀ k, U' k → U k ∨ N ≤ k)) := fun W sv2 a1 a2 a3 N hN a4 a5 => by
    have key := save_ss (s := ⟨d, h, D, f⟩) (sv0 := sv) (sv := sv2) (m := m) ⟨h.gen, hf2, (M : Int), 0⟩ B 0 a1 ok (by dsimp only; exact hm) a2 a3 a5 sok.sec sok.siz hB (by omega) ⟨by have := sok.gen; dsimp only; omega, by dsimp only; omega⟩ ⟨by dsimp only; omega, by dsimp only; omega⟩ ⟨by dsimp only; omega, by dsimp only; omega⟩ ⟨Int.le_refl _, by dsimp only; omega⟩ (by rw [Nat.zero_mul]; exact Nat.zero_le _) U (fun k hk => (hU k).2 hk) N hN a4
    rw [hr9] at key
    exact key
  have HALT : Hid (a < w.heap.size) := sat.blk.lt
  clear hd sat hU row hB hbl hg hm ok ok1 sok hc hcl hM hgt hr9 hhf hha
  go_enter Try.func20, Try.ntmps20
  go_wp2_with fail
  refine (HRM.out).mono ?_
  rintro e w1 ⟨rfl, hb⟩
  have H1 := Lib.hid hb
  clear hb
  go_upto_region 3 with fail
  clear hd1 hd2
  obtain ⟨S, hS⟩ : ∃ S, w1.heap.size = S := ⟨_, rfl⟩
  have HS := Lib.hid hS
  have HS9 : Hid (w1.heap.size ≤ S) := by rw [← hS]; exact Nat.le_refl _
  have HAS : Hid (a < S) := by rw [← hS]; exact Nat.lt_of_lt_of_le HALT.out H1.out.size
  have HBK : Hid (Blk w1 a 73 (cellsS g h sv f)) := HX.out.2.1.blk.grow H1.out
  clear hS
  refine wp_region_put (by kernel_rfl) (by kernel_rfl) (by kernel_rfl) (fun b' vs w' => (b' 0 = true → vs 0 = ptrD a) ∧ (b' 1 = true → vs 1 = ptrD a) ∧ (b' 2 = true → vs 2 = .pointer (some ⟨a, 1, none⟩)) ∧ (b' 3 = true → vs 3 = .pointer (some ⟨a, 1, none⟩)) ∧ (b' 4 = true → vs 4 = .int .i64 h.gen) ∧ (b' 5 = true → vs 5 = ptrD a) ∧ (b' 6 = true → vs 6 = ptrD a) ∧ (b' 7 = true → vs 7 = .pointer (some ⟨a, 1, none⟩)) ∧ (b' 8 = true → vs 8 = .pointer (some ⟨a, 2, none⟩)) ∧ (b' 9 = true → vs 9 = .int .i64 h.half) ∧ (b' 10 = true → vs 10 = .int .i64 hf2) ∧ (b' 11 = true → vs 11 = .slice bo M bc) ∧ (b' 12 = true → vs 12 = .int .i64 (M : Int)) ∧ (b' 13 = true → vs 13 = hdV ⟨h.gen, hf2, (M : Int), 0⟩) ∧ (b' 14 = true → vs 14 = .pointer (some ⟨S, 0, none⟩)) ∧ (Hid (Below S w1 w')) ∧ (b' 14 = false → Hid (w'.heap.size = S)) ∧ (b' 14 = true → b' 15 = false → Hid (Blk w' S 23 #[.int .i64 0, .int .i64 0, .int .i64 0, .int .i64 0])) ∧ (b' 15 = true → Hid (Blk w' S 23 (hdC ⟨h.gen, hf2, (M : Int), 0⟩))) ∧ (b' 15 = true → b' 14 = true)) ?_ ?_ ?_
  · intro vs
    exact ⟨fun h => Bool.noConfusion h, fun h => Bool.noConfusion h, fun h => Bool.noConfusion h, fun h => Bool.noConfusion h, fun h => Bool.noConfusion h, fun h => Bool.noConfusion h, fun h => Bool.noConfusion h, fun h => Bool.noConfusion h, fun h => Bool.noConfusion h, fun h => Bool.noConfusion h, fun h => Bool.noConfusion h, fun h => Bool.noConfusion h, fun h => Bool.noConfusion h, fun h => Bool.noConfusion h, fun h => Bool.noConfusion h, below_drewN (Below.refl _ _) 1, fun _ => HS.out, fun h => Bool.noConfusion h, fun h => Bool.noConfusion h, fun h => Bool.noConfusion h⟩
  · rintro b' vs w' i op hi hun hall ⟨h0, h1, h2, h3, h4, h5, h6, h7, h8, h9, h10, h11, h12, h13, h14, hB, hZ, hF, hG, hE⟩
    have hil : i < 16 := (List.getElem?_eq_some_iff.1 hi).1
    rcases i with _ | _ | _ | _ | _ | _ | _ | _ | _ | _ | _ | _ | _ | _ | _ | _ | i
    · obtain rfl := Option.some.inj hi
      clear hi hil
      refine wpOp_step rfl (fun K hK => ?_)
      have HKK := Lib.hid hK; clear hK
      simp only [putAll, Act.put, List.setIfInBounds_toArray, List.set_cons_zero, List.set_cons_succ]
      go_simp
      exact HKK.out _ _ ⟨_, by simp only [putAll, Act.put, List.setIfInBounds_toArray, List.set_cons_zero, List.set_cons_succ] <;> rfl, fun _ => rfl, h1, h2, h3, h4, h5, h6, h7, h8, h9, h10, h11, h12, h13, h14, hB, hZ, hF, hG, hE⟩
    · obtain rfl := Option.some.inj hi
      clear hi hil
      have d0 := h0 (hall ⟨0, .data⟩ (by simp) rfl)
      refine wpOp_step rfl (fun K hK => ?_)
      have HKK := Lib.hid hK; clear hK
      simp only [putAll, Act.put, List.setIfInBounds_toArray, List.set_cons_zero, List.set_cons_succ]
      go_simp
      exact HKK.out _ _ ⟨_, by simp only [putAll, Act.put, List.setIfInBounds_toArray, List.set_cons_zero, List.set_cons_succ, d0] <;> rfl, h0, fun _ => rfl, h2, h3, h4, h5, h6, h7, h8, h9, h10, h11, h12, h13, h14, hB, hZ, hF, hG, hE⟩
    · obtain rfl := Option.some.inj hi
      clear hi hil
      have d1 := h1 (hall ⟨1, .data⟩ (by simp) rfl)
      refine wpOp_step rfl (fun K hK => ?_)
      have HKK := Lib.hid hK; clear hK
      simp only [putAll, Act.put, List.setIfInBounds_toArray, List.set_cons_zero, List.set_cons_succ]
      go_simp
      exact HKK.out _ _ ⟨_, by simp only [putAll, Act.put, List.setIfInBounds_toArray, List.set_cons_zero, List.set_cons_succ, d1] <;> rfl, h0, h1, fun _ => rfl, h3, h4, h5, h6, h7, h8, h9, h10, h11, h12, h13, h14, hB, hZ, hF, hG, hE⟩
    · obtain rfl := Option.some.inj hi
      clear hi hil
      have d2 := h2 (hall ⟨2, .data⟩ (by simp) rfl)
      refine wpOp_step rfl (fun K hK => ?_)
      have HKK := Lib.hid hK; clear hK
      simp only [putAll, Act.put, List.setIfInBounds_toArray, List.set_cons_zero, List.set_cons_succ]
      go_simp
      exact HKK.out _ _ ⟨_, by simp only [putAll, Act.put, List.setIfInBounds_toArray, List.set_cons_zero, List.set_cons_succ, d2] <;> rfl, h0, h1, h2, fun _ => rfl, h4, h5, h6, h7, h8, h9, h10, h11, h12, h13, h14, hB, hZ, hF, hG, hE⟩
    · obtain rfl := Option.some.inj hi
      clear hi hil
      have d3 := h3 (hall ⟨3, .data⟩ (by simp) rfl)
      obtain ⟨c0, c1, c2, c3, c4, c5, c6⟩ := (HBK.out.on hB.out HAS.out).s7
      refine wpOp_step rfl (fun K hK => ?_)
      have HKK := Lib.hid hK; clear hK
      simp only [putAll, Act.put, List.setIfInBounds_toArray, List.set_cons_zero, List.set_cons_succ]
      go_simp
      exact HKK.out _ _ ⟨_, by simp only [putAll, Act.put, List.setIfInBounds_toArray, List.set_cons_zero, List.set_cons_succ, d3] <;> rfl, h0, h1, h2, h3, fun _ => rfl, h5, h6, h7, h8, h9, h10, h11, h12, h13, h14, hB, hZ, hF, hG, hE⟩
    · obtain rfl := Option.some.inj hi
      clear hi hil
      refine wpOp_step rfl (fun K hK => ?_)
      have HKK := Lib.hid hK; clear hK
      simp only [putAll, Act.put, List.setIfInBounds_toArray, List.set_cons_zero, List.set_cons_succ]
      go_simp
      exact HKK.out _ _ ⟨_, by simp only [putAll, Act.put, List.setIfInBounds_toArray, List.set_cons_zero, List.set_cons_succ] <;> rfl, h0, h1, h2, h3, h4, fun _ => rfl, h6, h7, h8, h9, h10, h11, h12, h13, h14, hB, hZ, hF, hG, hE⟩
    · obtain rfl := Option.some.inj hi
      clear hi hil
      have d5 := h5 (hall ⟨5, .data⟩ (by simp) rfl)
      refine wpOp_step rfl (fun K hK => ?_)
      have HKK := Lib.hid hK; clear hK
      simp only [putAll, Act.put, List.setIfInBounds_toArray, List.set_cons_zero, List.set_cons_succ]
      go_simp
      exact HKK.out _ _ ⟨_, by simp only [putAll, Act.put, List.setIfInBounds_toArray, List.set_cons_zero, List.set_cons_succ, d5] <;> rfl, h0, h1, h2, h3, h4, h5, fun _ => rfl, h7, h8, h9, h10, h11, h12, h13, h14, hB, hZ, hF, hG, hE⟩
    · obtain rfl := Option.some.inj hi
      clear hi hil
      have d6 := h6 (hall ⟨6, .data⟩ (by simp) rfl)
      refine wpOp_step rfl (fun K hK => ?_)
      have HKK := Lib.hid hK; clear hK
      simp only [putAll, Act.put, List.setIfInBounds_toArray, List.set_cons_zero, List.set_cons_succ]
      go_simp
      exact HKK.out _ _ ⟨_, by simp only [putAll, Act.put, List.setIfInBounds_toArray, List.set_cons_zero, List.set_cons_succ, d6] <;> rfl, h0, h1, h2, h3, h4, h5, h6, fun _ => rfl, h8, h9, h10, h11, h12, h13, h14, hB, hZ, hF, hG, hE⟩
    · obtain rfl := Option.some.inj hi
      clear hi hil
      have d7 := h7 (hall ⟨7, .data⟩ (by simp) rfl)
      refine wpOp_step rfl (fun K hK => ?_)
      have HKK := Lib.hid hK; clear hK
      simp only [putAll, Act.put, List.setIfInBounds_toArray, List.set_cons_zero, List.set_cons_succ]
      go_simp
      exact HKK.out _ _ ⟨_, by simp only [putAll, Act.put, List.setIfInBounds_toArray, List.set_cons_zero, List.set_cons_succ, d7] <;> rfl, h0, h1, h2, h3, h4, h5, h6, h7, fun _ => rfl, h9, h10, h11, h12, h13, h14, hB, hZ, hF, hG, hE⟩
    · obtain rfl := Option.some.inj hi
      clear hi hil
      have d8 := h8 (hall ⟨8, .data⟩ (by simp) rfl)
      obtain ⟨c0, c1, c2, c3, c4, c5, c6⟩ := (HBK.out.on hB.out HAS.out).s7
      refine wpOp_step rfl (fun K hK => ?_)
      have HKK := Lib.hid hK; clear hK
      simp only [putAll, Act.put, List.setIfInBounds_toArray, List.set_cons_zero, List.set_cons_succ]
      go_simp
      exact HKK.out _ _ ⟨_, by simp only [putAll, Act.put, List.setIfInBounds_toArray, List.set_cons_zero, List.set_cons_succ, d8] <;> rfl, h0, h1, h2, h3, h4, h5, h6, h7, h8, fun _ => rfl, h10, h11, h12, h13, h14, hB, hZ, hF, hG, hE⟩
    · obtain rfl := Option.some.inj hi
      clear hi hil
      have d9 := h9 (hall ⟨9, .data⟩ (by simp) rfl)
      refine wpOp_step rfl (fun K hK => ?_)
      have HKK := Lib.hid hK; clear hK
      simp only [putAll, Act.put, List.setIfInBounds_toArray, List.set_cons_zero, List.set_cons_succ]
      go_simp
      exact HKK.out _ _ ⟨_, by simp only [putAll, Act.put, List.setIfInBounds_toArray, List.set_cons_zero, List.set_cons_succ, d9, HHF.out] <;> rfl, h0, h1, h2, h3, h4, h5, h6, h7, h8, h9, fun _ => rfl, h11, h12, h13, h14, hB, hZ, hF, hG, hE⟩
    · obtain rfl := Option.some.inj hi
      clear hi hil
      refine wpOp_step rfl (fun K hK => ?_)
      have HKK := Lib.hid hK; clear hK
      simp only [putAll, Act.put, List.setIfInBounds_toArray, List.set_cons_zero, List.set_cons_succ]
      go_simp
      exact HKK.out _ _ ⟨_, by simp only [putAll, Act.put, List.setIfInBounds_toArray, List.set_cons_zero, List.set_cons_succ] <;> rfl, h0, h1, h2, h3, h4, h5, h6, h7, h8, h9, h10, fun _ => rfl, h12, h13, h14, hB, hZ, hF, hG, hE⟩
    · obtain rfl := Option.some.inj hi
      clear hi hil
      have d11 := h11 (hall ⟨11, .data⟩ (by simp) rfl)
      refine wpOp_step rfl (fun K hK => ?_)
      have HKK := Lib.hid hK; clear hK
      simp only [putAll, Act.put, List.setIfInBounds_toArray, List.set_cons_zero, List.set_cons_succ]
      go_simp
      exact HKK.out _ _ ⟨_, by simp only [putAll, Act.put, List.setIfInBounds_toArray, List.set_cons_zero, List.set_cons_succ, d11] <;> rfl, h0, h1, h2, h3, h4, h5, h6, h7, h8, h9, h10, h11, fun _ => rfl, h13, h14, hB, hZ, hF, hG, hE⟩
    · obtain rfl := Option.some.inj hi
      clear hi hil
      have d4 := h4 (hall ⟨4, .data⟩ (by simp) rfl)
      have d10 := h10 (hall ⟨10, .data⟩ (by simp) rfl)
      have d12 := h12 (hall ⟨12, .data⟩ (by simp) rfl)
      refine wpOp_step rfl (fun K hK => ?_)
      have HKK := Lib.hid hK; clear hK
      simp only [putAll, Act.put, List.setIfInBounds_toArray, List.set_cons_zero, List.set_cons_succ]
      go_simp
      exact HKK.out _ _ ⟨_, by simp only [putAll, Act.put, List.setIfInBounds_toArray, List.set_cons_zero, List.set_cons_succ, d4, d10, d12] <;> rfl, h0, h1, h2, h3, h4, h5, h6, h7, h8, h9, h10, h11, h12, fun _ => rfl, h14, hB, hZ, hF, hG, hE⟩
    · obtain rfl := Option.some.inj hi
      clear hi hil
      have hsz := (hZ hun).out
      refine wpOp_step rfl (fun K hK => ?_)
      have HKK := Lib.hid hK; clear hK
      simp only [putAll, Act.put, List.setIfInBounds_toArray, List.set_cons_zero, List.set_cons_succ]
      go_simp
      exact HKK.out _ _ ⟨_, by simp only [putAll, Act.put, List.setIfInBounds_toArray, List.set_cons_zero, List.set_cons_succ] <;> rfl, h0, h1, h2, h3, h4, h5, h6, h7, h8, h9, h10, h11, h12, h13, fun _ => rfl, hB.out.alloc (by omega) _, fun h => Bool.noConfusion h, fun _ _ => Blk.newAt _ _ _ hsz, fun h => absurd (hE h) (by rw [hun]; decide), fun _ => rfl⟩
    · obtain rfl := Option.some.inj hi
      clear hi hil
      have d13 := h13 (hall ⟨13, .data⟩ (by simp) rfl)
      have d14 := h14 (hall ⟨14, .data⟩ (by simp) rfl)
      have hS := (hF (hall ⟨14, .data⟩ (by simp) rfl) hun).out
      have c0 : w'.cell? ⟨S, 0, none⟩ = some (.int .i64 0) := hS.cell 0
      have c1 : w'.cell? ⟨S, 1, none⟩ = some (.int .i64 0) := hS.cell 1
      have c2 : w'.cell? ⟨S, 2, none⟩ = some (.int .i64 0) := hS.cell 2
      have c3 : w'.cell? ⟨S, 3, none⟩ = some (.int .i64 0) := hS.cell 3
      have f0 := hS.free 0
      have f1 := hS.free 1
      have f2 := hS.free 2
      have f3 := hS.free 3
      have hlt := hS.lt
      refine wpOp_step rfl (fun K hK => ?_)
      have HKK := Lib.hid hK; clear hK
      simp only [putAll, Act.put, List.setIfInBounds_toArray, List.set_cons_zero, List.set_cons_succ]
      go_simp
      exact HKK.out _ _ ⟨undef, by simp only [putAll, Act.put, List.setIfInBounds_toArray, List.set_cons_zero, List.set_cons_succ, d13, d14] <;> rfl, h0, h1, h2, h3, h4, h5, h6, h7, h8, h9, h10, h11, h12, h13, h14, below_hd4 hB.out (Nat.le_refl _) _ _ _ _, fun h => absurd (hall ⟨14, .data⟩ (by simp) rfl) (by have h' : b' 14 = false := h; rw [h']; decide), fun _ h => Bool.noConfusion h, fun _ => Lib.hid (set4_blk hS _ _ _ _), fun _ => hall ⟨14, .data⟩ (by simp) rfl⟩
    · omega
  · rintro b' vs wq hall ⟨h0, h1, h2, h3, h4, h5, h6, h7, h8, h9, h10, h11, h12, h13, h14, hB, hZ, hF, hG, hE⟩
    have d0 := h0 (hall 0 (by simp))
    have d1 := h1 (hall 1 (by simp))
    have d2 := h2 (hall 2 (by simp))
    have d3 := h3 (hall 3 (by simp))
    have d4 := h4 (hall 4 (by simp))
    have d5 := h5 (hall 5 (by simp))
    have d6 := h6 (hall 6 (by simp))
    have d7 := h7 (hall 7 (by simp))
    have d8 := h8 (hall 8 (by simp))
    have d9 := h9 (hall 9 (by simp))
    have d10 := h10 (hall 10 (by simp))
    have d11 := h11 (hall 11 (by simp))
    have d12 := h12 (hall 12 (by simp))
    have d13 := h13 (hall 13 (by simp))
    have d14 := h14 (hall 14 (by simp))
    have H3 : Hid (Below w.heap.size w wq ∧ Blk wq S 23 (hdC ⟨h.gen, hf2, (M : Int), 0⟩)) := ⟨H1.out.trans (hB.out.mono (Nat.le_trans H1.out.size HS9.out)), (hG (hall 15 (by simp))).out⟩
    simp only [putAll, Act.put, List.setIfInBounds_toArray, List.set_cons_zero, List.set_cons_succ, d0, d1, d2, d3, d4, d5, d6, d7, d8, d9, d10, d11, d12, d13, d14]
    clear hall h0 d0 h1 d1 h2 d2 h3 d3 h4 d4 h5 d5 h6 d6 h7 d7 h8 d8 h9 d9 h10 d10 h11 d11 h12 d12 h13 d13 h14 d14 hB hZ hF hG hE
    generalize vs 15 = v15
    have HLD : Hid (∀ W, Below wq.heap.size wq W → W.cell? ⟨S, 0, none⟩ = some (.int .i64 h.gen) ∧ W.cell? ⟨S, 1, none⟩ = some (.int .i64 hf2) ∧ W.cell? ⟨S, 2, none⟩ = some (.int .i64 (M : Int)) ∧ W.cell? ⟨S, 3, none⟩ = some (.int .i64 0)) := fun W hW => ((H3.out.2).grow hW).hd4c
    have HCL : Hid (∀ W, Below wq.heap.size wq W → Calls Try.prog 43 #[.slice bo M bc] W fun e w' => ∃ v, e = .returned v ∧ OwnB w' W.heap.size v B ∧ Below W.heap.size W w') := fun W hW => clone_c _ B W (HROW0.out.1.on (H3.out.1.trans (hW.mono H3.out.1.size))) (by have := HROW0.out.2; omega)
    have HSV : Hid (∀ W v, Below wq.heap.size wq W → OwnB W wq.heap.size v B → Calls Try.prog 38 #[ptrD a, hdV ⟨h.gen, hf2, (M : Int), 0⟩, v, .int .i64 0] W fun e w' => ∃ U', e = .returned (.int .i64 r9.2) ∧ SS U' w' a g r9.1 ∧ Keep (fun k => ¬ U k) wq w' ∧ ∀ k, U' k → U k ∨ wq.heap.size ≤ k) := fun W v hW ho => by
      have hwW := H3.out.1.trans (hW.mono H3.out.1.size)
      have key := HSAV.out W v (at_grow HX.out.1 hwW) (HX.out.2.1.grow hwW) (owns_base ho (Nat.zero_le _)) wq.heap.size hW.size (fun k e => .inr (ho.lt k e).1) (fun k e hT => by
        have h1 := at_lt (at_grow HX.out.1 H3.out.1) hT
        have h2 := (ho.lt k e).1
        omega)
      refine key.mono ?_
      rintro e w' ⟨U', he, hs, hk, hn⟩
      exact ⟨U', he, hs, (Keep.of_below hW).trans (hk.mono fun k hu => ⟨fun hT => hu ((HX.out.2.2 k).2 (.inl hT)), fun e => hu ((HX.out.2.2 k).2 (.inr (.inl e)))⟩), hn⟩
    go_upto_region 4 with fail
    refine wp_region_put (by kernel_rfl) (by kernel_rfl) (by kernel_rfl) (fun b' vs w' => (b' 0 = true → vs 0 = .pointer (some ⟨a, 0, none⟩)) ∧ (b' 1 = true → vs 1 = hdV ⟨h.gen, hf2, (M : Int), 0⟩) ∧ (b' 2 = true → vs 2 = .slice bo M bc) ∧ (b' 3 = true → b' 4 = false → Hid (OwnB w' wq.heap.size (vs 3) B)) ∧ (b' 4 = false → Hid (Below wq.heap.size wq w' ∧ wq.heap.size ≤ w'.heap.size)) ∧ (b' 4 = true → Hid (∃ U9, (vs 4) = .int .i64 r9.2 ∧ SS U9 w' a g r9.1 ∧ Keep (fun k => ¬ U k) wq w' ∧ ∀ k, U9 k → U k ∨ wq.heap.size ≤ k)) ∧ (b' 4 = true → b' 1 = true) ∧ (b' 4 = true → b' 3 = true) ∧ (b' 5 = true → b' 4 = true ∧ vs 5 = vs 4)) ?_ ?_ ?_
    · intro vs
      exact ⟨fun h => Bool.noConfusion h, fun h => Bool.noConfusion h, fun h => Bool.noConfusion h, fun h => Bool.noConfusion h, fun _ => Lib.hid ⟨below_drewN (Below.refl _ _) 1, Nat.le_refl _⟩, fun h => Bool.noConfusion h, fun h => Bool.noConfusion h, fun h => Bool.noConfusion h, fun h => Bool.noConfusion h⟩
    · rintro b' vs w' i op hi hun hall ⟨h0, h1, h2, y3, hB, hG, hW1, hW3, hA⟩
      have hil : i < 6 := (List.getElem?_eq_some_iff.1 hi).1
      rcases i with _ | _ | _ | _ | _ | _ | i
      · obtain rfl := Option.some.inj hi
        clear hi hil
        refine wpOp_step rfl (fun K hK => ?_)
        have HKK := Lib.hid hK; clear hK
        simp only [putAll, Act.put, List.setIfInBounds_toArray, List.set_cons_zero, List.set_cons_succ]
        go_simp
        exact HKK.out _ _ ⟨_, by simp only [putAll, Act.put, List.setIfInBounds_toArray, List.set_cons_zero, List.set_cons_succ] <;> rfl, fun _ => rfl, h1, h2, y3, hB, hG, hW1, hW3, hA⟩
      · obtain rfl := Option.some.inj hi
        clear hi hil
        have hap : b' 4 = false := by
          cases hz : b' 4 with
          | false => rfl
          | true => exact absurd (hW1 hz) (by rw [hun]; decide)
        obtain ⟨b0, b1, b2, b3⟩ := HLD.out w' (hB hap).out.1
        refine wpOp_step rfl (fun K hK => ?_)
        have HKK := Lib.hid hK; clear hK
        simp only [putAll, Act.put, List.setIfInBounds_toArray, List.set_cons_zero, List.set_cons_succ]
        go_simp
        exact HKK.out _ _ ⟨_, by simp only [putAll, Act.put, List.setIfInBounds_toArray, List.set_cons_zero, List.set_cons_succ] <;> rfl, h0, fun _ => rfl, h2, y3, hB, hG, fun _ => rfl, hW3, hA⟩
      · obtain rfl := Option.some.inj hi
        clear hi hil
        refine wpOp_step rfl (fun K hK => ?_)
        have HKK := Lib.hid hK; clear hK
        simp only [putAll, Act.put, List.setIfInBounds_toArray, List.set_cons_zero, List.set_cons_succ]
        go_simp
        exact HKK.out _ _ ⟨_, by simp only [putAll, Act.put, List.setIfInBounds_toArray, List.set_cons_zero, List.set_cons_succ] <;> rfl, h0, h1, fun _ => rfl, y3, hB, hG, hW1, hW3, hA⟩
      · obtain rfl := Option.some.inj hi
        clear hi hil
        have hap : b' 4 = false := by
          cases hz : b' 4 with
          | false => rfl
          | true => exact absurd (hW3 hz) (by rw [hun]; decide)
        have d2 := h2 (hall ⟨2, .data⟩ (by simp) rfl)
        refine wpOp_step rfl (fun K hK => ?_)
        have HKK := Lib.hid hK; clear hK
        simp only [putAll, Act.put, List.setIfInBounds_toArray, List.set_cons_zero, List.set_cons_succ]
        go_simp
        refine (HCL.out w' (hB hap).out.1).mono ?_
        rintro e w2' ⟨v2, rfl, ho2, hb2⟩
        exact HKK.out _ _ ⟨_, by simp only [putAll, Act.put, List.setIfInBounds_toArray, List.set_cons_zero, List.set_cons_succ, d2] <;> rfl, h0, h1, h2, fun _ _ => Lib.hid (owns_base ho2 (hB hap).out.2), fun ha => Lib.hid ⟨(hB ha).out.1.trans (hb2.mono (hB ha).out.2), Nat.le_trans (hB ha).out.2 hb2.size⟩, fun h => absurd (show b' 4 = true from h) (by rw [hap]; decide), hW1, fun _ => rfl, hA⟩
      · obtain rfl := Option.some.inj hi
        clear hi hil
        have hap : b' 4 = false := hun
        have d0 := h0 (hall ⟨0, .data⟩ (by simp) rfl)
        have d1 := h1 (hall ⟨1, .data⟩ (by simp) rfl)
        have o3 := y3 (hall ⟨3, .data⟩ (by simp) rfl) hap
        refine wpOp_step rfl (fun K hK => ?_)
        have HKK := Lib.hid hK; clear hK
        simp only [putAll, Act.put, List.setIfInBounds_toArray, List.set_cons_zero, List.set_cons_succ]
        go_simp
        have ow := o3.out
        refine (HSV.out w' (vs 3) (hB hap).out.1 ow).mono ?_
        rintro e w2' ⟨U9, rfl, hs9, hk9, hn9⟩
        exact HKK.out _ _ ⟨_, by simp only [putAll, Act.put, List.setIfInBounds_toArray, List.set_cons_zero, List.set_cons_succ, d0, d1] <;> rfl, h0, h1, h2, fun _ h => Bool.noConfusion h, fun h => Bool.noConfusion h, fun _ => Lib.hid (⟨U9, rfl, hs9, hk9, hn9⟩), fun _ => hall ⟨1, .data⟩ (by simp) rfl, fun _ => hall ⟨3, .data⟩ (by simp) rfl, fun hq => absurd (hA hq).1 (by rw [hun]; decide)⟩
      · obtain rfl := Option.some.inj hi
        clear hi hil
        have gB := hG (hall ⟨4, .data⟩ (by simp) rfl)
        refine wpOp_step rfl (fun K hK => ?_)
        have HKK := Lib.hid hK; clear hK
        simp only [putAll, Act.put, List.setIfInBounds_toArray, List.set_cons_zero, List.set_cons_succ]
        go_simp
        exact HKK.out _ _ ⟨_, by simp only [putAll, Act.put, List.setIfInBounds_toArray, List.set_cons_zero, List.set_cons_succ] <;> rfl, h0, h1, h2, y3, hB, hG, hW1, hW3, fun _ => ⟨hall ⟨4, .data⟩ (by simp) rfl, rfl⟩⟩
      · omega
    rintro b' vs wz hall ⟨h0, h1, h2, y3, hB, hG, hW1, hW3, hA⟩
    have d0 := h0 (hall 0 (by simp))
    have d1 := h1 (hall 1 (by simp))
    have d2 := h2 (hall 2 (by simp))
    have GG := hG (hall 4 (by simp))
    have dA := (hA (hall 5 (by simp))).2
    simp only [putAll, Act.put, List.setIfInBounds_toArray, List.set_cons_zero, List.set_cons_succ, d0, d1, d2, dA]
    clear hall h0 d0 h1 d1 h2 d2 y3 hB hG hW1 hW3 hA dA
    generalize vs 4 = va at *
    obtain ⟨U9, e9, hs9, hk9, hn9⟩ := GG.out
    subst e9
    have H9 : Hid (SS U9 wz a g r9.1 ∧ Keep (fun k => ¬ U k) wq wz ∧ ∀ k, U9 k → U k ∨ wq.heap.size ≤ k) := ⟨hs9, hk9, hn9⟩
    clear GG hs9 hk9 hn9 HSV HLD
    go_wp2_with fail
    go_ret
    exact ⟨U9, rfl, H9.out.1, ⟨((Keep.of_below H3.out.1).trans H9.out.2.1), fun k hk => (H9.out.2.2 k hk).imp id (fun h2 => Nat.le_trans H3.out.1.size h2)⟩⟩
end Go.Proofs.Ytdcjchakgfpgaaa
