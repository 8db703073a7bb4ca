/- Layer 14: package store: Snapshot, Log. -/
import Derived.Test.YtdcjchakgfpgaaaMf
namespace Go.Proofs.Ytdcjchakgfpgaaa
open Go.RowKit
/-- Where a reslice begins. -/
def cutA (ao : Option Addr) (l m : Nat) : Option Addr := if m = l then ao else ao.map (·.add l)
theorem cutA_block (ao : Option Addr) (l m k c n c' : Nat) : (Value.slice (cutA ao l m) k c).ownBlock = (Value.slice ao n c').ownBlock := by
  unfold cutA
  cases ao with
  | none => split <;> rfl
  | some a =>
    split
    · rfl
    · show some (a.add l).block = some a.block
      unfold Addr.add
      split <;> rfl
theorem RowB.cutU {w : World} {ao : Option Addr} {n c : Nat} {L : List Int} (h : RowB w (.slice ao n c) L) (hn : L.length = n) {l k m : Nat} (hk : l + k ≤ n) (hm : l + k ≤ m) (hmc : m ≤ c) : RowB w (.slice (cutA ao l m) k (m - l)) (cutL L l k) := by
  by_cases h0 : k = 0
  · subst h0
    have e : cutL L l 0 = [] := by unfold cutL; rw [List.take_zero]
    rw [e]
    cases ao with
    | none =>
      rcases h with ⟨e1, rfl⟩ | ⟨a, c', e1, _⟩ | ⟨b, o, c', e1, _⟩
      · cases e1
        have hm0 : m = 0 := by omega
        subst hm0
        have hl0 : l = 0 := by omega
        subst hl0
        exact .inl ⟨rfl, rfl⟩
      · cases e1
      · cases e1
    | some a =>
      unfold Proofs.Ytdcjchakgfpgaaa.cutA
      split
      · exact .inr (.inl ⟨_, _, rfl, rfl⟩)
      · exact .inr (.inl ⟨_, _, rfl, rfl⟩)
  · obtain ⟨b, o, rfl, hb, hc⟩ := h.addr (by omega)
    have e : Proofs.Ytdcjchakgfpgaaa.cutA (some ⟨b, o, none⟩) l m = some ⟨b, o + l, none⟩ := by
      unfold Proofs.Ytdcjchakgfpgaaa.cutA
      rw [if_neg (by omega), Option.map_some, Addr.add_lit]
    rw [e]
    refine .inr (.inr ⟨b, o + l, m - l, by rw [cutL_len (by omega)], hb, fun i x hx => ?_⟩)
    have hi : i < k := by have := (List.getElem?_eq_some_iff.1 hx).1; rw [cutL_len (by omega)] at this; exact this
    rw [cutL_at hi] at hx
    rw [Nat.add_assoc]; exact hc _ _ hx
theorem run_cut (w : World) (ao : Option Addr) (n c l hh m k : Nat) (lo hi mx : Option Value)
    (hlo : lo = some (.int .i64 (l : Int)) ∨ lo = none ∧ l = 0) (hmx : mx = some (.int .i64 (m : Int)) ∧ m ≤ c ∧ hi = some (.int .i64 (hh : Int)) ∨ mx = none ∧ m = c ∧ (hi = some (.int .i64 (hh : Int)) ∨ hi = none ∧ hh = n))
    (h1 : l ≤ hh) (h2 : hh ≤ m) (hk : hh - l = k) : (Instr.sliceAt 24 (.slice ao n c) lo hi mx).run Try.prog w = .ok (.slice (cutA ao l m) k (m - l)) w := by
  obtain ⟨i, hi', hz0, hz1, hz2⟩ := info_parts infoB
  have i1 : (l : Int) ≤ (hh : Int) := by omega
  have i2 : (hh : Int) ≤ (m : Int) := by omega
  unfold cutA
  rcases hlo with rfl | ⟨rfl, rfl⟩
  · rcases hmx with ⟨rfl, hmc, rfl⟩ | ⟨rfl, rfl, rfl | ⟨rfl, rfl⟩⟩ <;> simp_all [Instr.sliceAt, Instr.sliceBounds, Instr.sliceBound, Instr.slice, asIntOf, underlying, sizeOf, typeInfo, Try.underlying24]
  · rcases hmx with ⟨rfl, hmc, rfl⟩ | ⟨rfl, rfl, rfl | ⟨rfl, rfl⟩⟩ <;> simp_all [Instr.sliceAt, Instr.sliceBounds, Instr.sliceBound, Instr.slice, asIntOf, underlying, sizeOf, typeInfo, Try.underlying24] <;> (intro q; omega)
theorem wpList_cut {w : World} {ops : Array Oper} {rest : List Oper} {o : Oper} {a : Act} {Q : Exit → Act → World → Prop} (hgd : o.guard = none) (x : Operand) (lo hi mx : Option Operand)
    (ho : o.op = .slice 24 x lo hi mx) (ao : Option Addr) (n c l hh m k : Nat) (hx : a.eval x = .slice ao n c)
    (hlo : lo.map a.eval = some (.int .i64 (l : Int)) ∨ lo.map a.eval = none ∧ l = 0) (hmx : mx.map a.eval = some (.int .i64 (m : Int)) ∧ m ≤ c ∧ hi.map a.eval = some (.int .i64 (hh : Int)) ∨ mx.map a.eval = none ∧ m = c ∧ (hi.map a.eval = some (.int .i64 (hh : Int)) ∨ hi.map a.eval = none ∧ hh = n))
    (h1 : l ≤ hh) (h2 : hh ≤ m) (hk : hh - l = k) (h : ∀ ao', cutA ao l m = ao' → wpList Try.prog ops Q rest (a.put o.dst (.slice ao' k (m - l))) w) : wpList Try.prog ops Q (o :: rest) a w := by
  refine wpList_plain hgd fun K hK => ?_
  have key := hK _ _ (h _ rfl)
  have hr := run_cut w ao n c l hh m k _ _ _ hlo hmx h1 h2 hk
  unfold Oper.wp
  simp [execOp, ho, hx, hr, Result.andThen]
  exact key
theorem cut0_eq (ao : Option Addr) (m : Nat) (hm : ∀ a, ao = some a → a.add 0 = a) : cutA ao 0 m = ao := by
  unfold cutA
  split
  · rfl
  · cases ao with
    | none => rfl
    | some a => exact congrArg some (hm a rfl)
set_option maxHeartbeats 4000000 in
set_option maxRecDepth 100000 in
theorem sSnap_c {T : Nat → Prop} {w : World} {a g : Nat} {h : Hd} {sv : Value} {D : List Int} {f : Bool} {d : DM} (st : SAt T w a g h sv D f) (ok : SOk d h D) (hl : D.length ≤ 31000) : Calls Try.prog 44 #[ptrD a] w fun e w' => ∃ v, e = .returned v ∧ OwnB w' w.heap.size v (D.take h.snap.toNat) ∧ Below w.heap.size w w' := by
  obtain ⟨s, hs⟩ : ∃ s : Nat, h.snap = (s : Int) := ⟨h.snap.toNat, by have := ok.snap; omega⟩
  have hsd : s ≤ D.length := by have := ok.len; have := ok.log; omega
  have ekey : h.snap.toNat = s := by omega
  rw [ekey]
  have hrow := st.all.row
  have hcap := st.all.cap
  have hform := st.all
  have HB := Lib.hid st.blk
  obtain ⟨n, hn⟩ : ∃ n, D.length = n := ⟨_, rfl⟩
  obtain ⟨E, hE⟩ : ∃ E, D.take s = E := ⟨_, rfl⟩
  rw [hE]
  obtain ⟨_, ⟨rfl, h0⟩ | ⟨q, c, cur, rfl, _, _, hnc, _⟩⟩ := hform
  · have hs0 : s = 0 := by omega
    have hD : D = [] := List.eq_nil_of_length_eq_zero h0
    have hE0 : E = [] := by rw [← hE, hD]; simp
    have HC5 : Hid (∀ W, Below w.heap.size w W → W.cell? ⟨a, 5, none⟩ = some (.slice none 0 0) ∧ W.cell? ⟨a, 3, none⟩ = some (.int .i64 0)) := fun W hW => by
      obtain ⟨_, _, _, c3, _, c5, _⟩ := (HB.out.grow hW).s7
      rw [hs, hs0] at c3
      exact ⟨c5, c3⟩
    have HQ : Hid (s = 0 ∧ True ∧ True ∧ True ∧ True ∧ True) := ⟨hs0, trivial, trivial, trivial, trivial, trivial⟩
    have HCL : Hid (∀ W, Below w.heap.size w W → Calls Try.prog 43 #[.slice none 0 0] W fun e w' => ∃ v, e = .returned v ∧ OwnB w' W.heap.size v E ∧ Below W.heap.size W w') := fun W hW => by
      rw [hE0]
      exact clone_c _ [] W (.inl ⟨rfl, rfl⟩) (by decide)
    clear st ok hl hs hsd ekey hrow hcap hn hE h0 hD hE0 hs0
    go_enter Try.func44, Try.ntmps44
    go_upto_region 1 with fail
    refine wp_region_put (by kernel_rfl) (by kernel_rfl) (by kernel_rfl) (fun b' vs w' => (b' 0 = true → vs 0 = ptrD a) ∧ (b' 1 = true → vs 1 = ptrD a) ∧ (b' 2 = true → vs 2 = .pointer (some ⟨a, 5, none⟩)) ∧ (b' 3 = true → vs 3 = .slice none 0 0) ∧ (b' 4 = true → vs 4 = ptrD a) ∧ (b' 5 = true → vs 5 = ptrD a) ∧ (b' 6 = true → vs 6 = .pointer (some ⟨a, 1, none⟩)) ∧ (b' 7 = true → vs 7 = .pointer (some ⟨a, 3, none⟩)) ∧ (b' 8 = true → vs 8 = .int .i64 0) ∧ (b' 9 = true → vs 9 = .slice none 0 0) ∧ (b' 10 = true → Hid (OwnB w' w.heap.size (vs 10) E)) ∧ (b' 11 = true → Hid (OwnB w' w.heap.size (vs 11) E)) ∧ (Hid (Below w.heap.size w w'))) ?_ ?_ ?_
    · intro vs
      exact ⟨fun h => Bool.noConfusion h, fun h => Bool.noConfusion h, fun h => Bool.noConfusion h, fun h => Bool.noConfusion h, fun h => Bool.noConfusion h, fun h => Bool.noConfusion h, fun h => Bool.noConfusion h, fun h => Bool.noConfusion h, fun h => Bool.noConfusion h, fun h => Bool.noConfusion h, fun h => Bool.noConfusion h, fun h => Bool.noConfusion h, below_drewN (Below.refl _ _) 1⟩
    · rintro b' vs w' i op hi hun hall ⟨h0, h1, h2, h3, h4, h5, h6, h7, h8, h9, y10, y11, hB⟩
      have hil : i < 12 := (List.getElem?_eq_some_iff.1 hi).1
      rcases i with _ | _ | _ | _ | _ | _ | _ | _ | _ | _ | _ | _ | i
      · obtain rfl := Option.some.inj hi
        clear hi hil
        refine wpOp_step rfl (fun K hK => ?_)
        have HKK := Lib.hid hK; clear hK
        simp only [putAll, Act.put, List.setIfInBounds_toArray, List.set_cons_zero, List.set_cons_succ]
        go_simp
        exact HKK.out _ _ ⟨_, by simp only [putAll, Act.put, List.setIfInBounds_toArray, List.set_cons_zero, List.set_cons_succ] <;> rfl, fun _ => rfl, h1, h2, h3, h4, h5, h6, h7, h8, h9, y10, y11, hB⟩
      · obtain rfl := Option.some.inj hi
        clear hi hil
        have d0 := h0 (hall ⟨0, .data⟩ (by simp) rfl)
        refine wpOp_step rfl (fun K hK => ?_)
        have HKK := Lib.hid hK; clear hK
        simp only [putAll, Act.put, List.setIfInBounds_toArray, List.set_cons_zero, List.set_cons_succ]
        go_simp
        exact HKK.out _ _ ⟨_, by simp only [putAll, Act.put, List.setIfInBounds_toArray, List.set_cons_zero, List.set_cons_succ, d0] <;> rfl, h0, fun _ => rfl, h2, h3, h4, h5, h6, h7, h8, h9, y10, y11, hB⟩
      · obtain rfl := Option.some.inj hi
        clear hi hil
        have d1 := h1 (hall ⟨1, .data⟩ (by simp) rfl)
        refine wpOp_step rfl (fun K hK => ?_)
        have HKK := Lib.hid hK; clear hK
        simp only [putAll, Act.put, List.setIfInBounds_toArray, List.set_cons_zero, List.set_cons_succ]
        go_simp
        exact HKK.out _ _ ⟨_, by simp only [putAll, Act.put, List.setIfInBounds_toArray, List.set_cons_zero, List.set_cons_succ, d1] <;> rfl, h0, h1, fun _ => rfl, h3, h4, h5, h6, h7, h8, h9, y10, y11, hB⟩
      · obtain rfl := Option.some.inj hi
        clear hi hil
        have d2 := h2 (hall ⟨2, .data⟩ (by simp) rfl)
        have cc := (HC5.out w' hB.out).1
        refine wpOp_step rfl (fun K hK => ?_)
        have HKK := Lib.hid hK; clear hK
        simp only [putAll, Act.put, List.setIfInBounds_toArray, List.set_cons_zero, List.set_cons_succ]
        go_simp
        exact HKK.out _ _ ⟨_, by simp only [putAll, Act.put, List.setIfInBounds_toArray, List.set_cons_zero, List.set_cons_succ, d2] <;> rfl, h0, h1, h2, fun _ => rfl, h4, h5, h6, h7, h8, h9, y10, y11, hB⟩
      · obtain rfl := Option.some.inj hi
        clear hi hil
        refine wpOp_step rfl (fun K hK => ?_)
        have HKK := Lib.hid hK; clear hK
        simp only [putAll, Act.put, List.setIfInBounds_toArray, List.set_cons_zero, List.set_cons_succ]
        go_simp
        exact HKK.out _ _ ⟨_, by simp only [putAll, Act.put, List.setIfInBounds_toArray, List.set_cons_zero, List.set_cons_succ] <;> rfl, h0, h1, h2, h3, fun _ => rfl, h5, h6, h7, h8, h9, y10, y11, hB⟩
      · obtain rfl := Option.some.inj hi
        clear hi hil
        have d4 := h4 (hall ⟨4, .data⟩ (by simp) rfl)
        refine wpOp_step rfl (fun K hK => ?_)
        have HKK := Lib.hid hK; clear hK
        simp only [putAll, Act.put, List.setIfInBounds_toArray, List.set_cons_zero, List.set_cons_succ]
        go_simp
        exact HKK.out _ _ ⟨_, by simp only [putAll, Act.put, List.setIfInBounds_toArray, List.set_cons_zero, List.set_cons_succ, d4] <;> rfl, h0, h1, h2, h3, h4, fun _ => rfl, h6, h7, h8, h9, y10, y11, hB⟩
      · obtain rfl := Option.some.inj hi
        clear hi hil
        have d5 := h5 (hall ⟨5, .data⟩ (by simp) rfl)
        refine wpOp_step rfl (fun K hK => ?_)
        have HKK := Lib.hid hK; clear hK
        simp only [putAll, Act.put, List.setIfInBounds_toArray, List.set_cons_zero, List.set_cons_succ]
        go_simp
        exact HKK.out _ _ ⟨_, by simp only [putAll, Act.put, List.setIfInBounds_toArray, List.set_cons_zero, List.set_cons_succ, d5] <;> rfl, h0, h1, h2, h3, h4, h5, fun _ => rfl, h7, h8, h9, y10, y11, hB⟩
      · obtain rfl := Option.some.inj hi
        clear hi hil
        have d6 := h6 (hall ⟨6, .data⟩ (by simp) rfl)
        refine wpOp_step rfl (fun K hK => ?_)
        have HKK := Lib.hid hK; clear hK
        simp only [putAll, Act.put, List.setIfInBounds_toArray, List.set_cons_zero, List.set_cons_succ]
        go_simp
        exact HKK.out _ _ ⟨_, by simp only [putAll, Act.put, List.setIfInBounds_toArray, List.set_cons_zero, List.set_cons_succ, d6] <;> rfl, h0, h1, h2, h3, h4, h5, h6, fun _ => rfl, h8, h9, y10, y11, hB⟩
      · obtain rfl := Option.some.inj hi
        clear hi hil
        have d7 := h7 (hall ⟨7, .data⟩ (by simp) rfl)
        have cc := (HC5.out w' hB.out).2
        refine wpOp_step rfl (fun K hK => ?_)
        have HKK := Lib.hid hK; clear hK
        simp only [putAll, Act.put, List.setIfInBounds_toArray, List.set_cons_zero, List.set_cons_succ]
        go_simp
        exact HKK.out _ _ ⟨_, by simp only [putAll, Act.put, List.setIfInBounds_toArray, List.set_cons_zero, List.set_cons_succ, d7] <;> rfl, h0, h1, h2, h3, h4, h5, h6, h7, fun _ => rfl, h9, y10, y11, hB⟩
      · obtain rfl := Option.some.inj hi
        clear hi hil
        have d3 := h3 (hall ⟨3, .data⟩ (by simp) rfl)
        have d8 := h8 (hall ⟨8, .data⟩ (by simp) rfl)
        refine wpOp_step rfl (fun K hK => ?_)
        have HKK := Lib.hid hK; clear hK
        simp only [putAll, Act.put, List.setIfInBounds_toArray, List.set_cons_zero, List.set_cons_succ]
        go_simp
        exact HKK.out _ _ ⟨_, by simp only [putAll, Act.put, List.setIfInBounds_toArray, List.set_cons_zero, List.set_cons_succ, d3, d8] <;> rfl, h0, h1, h2, h3, h4, h5, h6, h7, h8, fun _ => rfl, y10, y11, hB⟩
      · obtain rfl := Option.some.inj hi
        clear hi hil
        have d9 := h9 (hall ⟨9, .data⟩ (by simp) rfl)
        refine wpOp_step rfl (fun K hK => ?_)
        have HKK := Lib.hid hK; clear hK
        simp only [putAll, Act.put, List.setIfInBounds_toArray, List.set_cons_zero, List.set_cons_succ]
        go_simp
        refine (HCL.out w' hB.out).mono ?_
        rintro e w2 ⟨v2, rfl, ho2, hb2⟩
        exact HKK.out _ _ ⟨_, by simp only [putAll, Act.put, List.setIfInBounds_toArray, List.set_cons_zero, List.set_cons_succ, d9] <;> rfl, h0, h1, h2, h3, h4, h5, h6, h7, h8, h9, fun _ => Lib.hid (owns_base ho2 hB.out.size), fun h => Lib.hid ((y11 h).out.grow hb2), hB.out.trans (hb2.mono hB.out.size)⟩
      · obtain rfl := Option.some.inj hi
        clear hi hil
        have o11 := y10 (hall ⟨10, .data⟩ (by simp) rfl)
        refine wpOp_step rfl (fun K hK => ?_)
        have HKK := Lib.hid hK; clear hK
        simp only [putAll, Act.put, List.setIfInBounds_toArray, List.set_cons_zero, List.set_cons_succ]
        go_simp
        exact HKK.out _ _ ⟨_, by simp only [putAll, Act.put, List.setIfInBounds_toArray, List.set_cons_zero, List.set_cons_succ] <;> rfl, h0, h1, h2, h3, h4, h5, h6, h7, h8, h9, y10, fun _ => o11, hB⟩
      · omega
    · rintro b' vs wq hall ⟨h0, h1, h2, h3, h4, h5, h6, h7, h8, h9, y10, y11, hB⟩
      have d0 := h0 (hall 0 (by simp))
      have d1 := h1 (hall 1 (by simp))
      have d2 := h2 (hall 2 (by simp))
      have d3 := h3 (hall 3 (by simp))
      have d4 := h4 (hall 4 (by simp))
      have d5 := h5 (hall 5 (by simp))
      have d6 := h6 (hall 6 (by simp))
      have d7 := h7 (hall 7 (by simp))
      have d8 := h8 (hall 8 (by simp))
      have d9 := h9 (hall 9 (by simp))
      have HX : Hid (OwnB wq w.heap.size (vs 11) E ∧ Below w.heap.size w wq) := ⟨(y11 (hall 11 (by simp))).out, hB.out⟩
      simp only [putAll, Act.put, List.setIfInBounds_toArray, List.set_cons_zero, List.set_cons_succ, d0, d1, d2, d3, d4, d5, d6, d7, d8, d9]
      clear hall y10 y11 hB h0 d0 h1 d1 h2 d2 h3 d3 h4 d4 h5 d5 h6 d6 h7 d7 h8 d8 h9 d9
      generalize vs 11 = v11 at *
      generalize vs 10 = v10 at *
      go_wp2_with fail
      go_ret
      exact ⟨_, rfl, HX.out⟩
  · rw [hn] at hrow hnc hsd hl
    have hnc2 : n ≤ c := hnc
    have HC5 : Hid (∀ W, Below w.heap.size w W → W.cell? ⟨a, 5, none⟩ = some (.slice (some ⟨q, 0, none⟩) n c) ∧ W.cell? ⟨a, 3, none⟩ = some (.int .i64 (s : Int))) := fun W hW => by
      obtain ⟨_, _, _, c3, _, c5, _⟩ := (HB.out.grow hW).s7
      rw [hs] at c3
      rw [hn] at c5
      exact ⟨c5, c3⟩
    have HQ : Hid (s ≤ n ∧ n ≤ c ∧ (s : Int) ≤ (n : Int) ∧ (s : Int) ≤ (c : Int) ∧ (0 : Int) ≤ (s : Int) ∧ True) := ⟨hsd, hnc2, by omega, by omega, by omega, trivial⟩
    obtain ⟨ad, had⟩ : ∃ ad, cutA (some ⟨q, 0, none⟩) 0 c = ad := ⟨_, rfl⟩
    have hcut : ∀ W : World, (Instr.sliceAt 24 (.slice (some ⟨q, 0, none⟩) n c) none (some (.int .i64 (s : Int))) none).run Try.prog W = .ok (.slice ad (s - 0) (c - 0)) W := fun W => by
      rw [← had]
      exact run_cut W (some ⟨q, 0, none⟩) n c 0 s c (s - 0) none (some (.int .i64 (s : Int))) none (.inr ⟨rfl, rfl⟩) (.inr ⟨rfl, rfl, .inl rfl⟩) (by omega) (by omega) rfl
    have HCL : Hid (∀ W, Below w.heap.size w W → Calls Try.prog 43 #[.slice ad (s - 0) (c - 0)] W fun e w' => ∃ v, e = .returned v ∧ OwnB w' W.heap.size v E ∧ Below W.heap.size W w') := fun W hW => by
      have key := RowB.cutU (hrow.on hW) hn (l := 0) (k := s - 0) (m := c) (by omega) (by omega) (Nat.le_refl _)
      have e : cutL D 0 (s - 0) = E := by rw [← hE]; unfold cutL; simp
      rw [e, had] at key
      refine clone_c _ E W ?_ (by rw [← e, cutL_len (by omega)]; omega)
      exact key
    clear st ok hl hs hsd ekey hrow hcap hn hE hnc hnc2 had
    go_enter Try.func44, Try.ntmps44
    go_upto_region 1 with fail
    refine wp_region_put (by kernel_rfl) (by kernel_rfl) (by kernel_rfl) (fun b' vs w' => (b' 0 = true → vs 0 = ptrD a) ∧ (b' 1 = true → vs 1 = ptrD a) ∧ (b' 2 = true → vs 2 = .pointer (some ⟨a, 5, none⟩)) ∧ (b' 3 = true → vs 3 = .slice (some ⟨q, 0, none⟩) n c) ∧ (b' 4 = true → vs 4 = ptrD a) ∧ (b' 5 = true → vs 5 = ptrD a) ∧ (b' 6 = true → vs 6 = .pointer (some ⟨a, 1, none⟩)) ∧ (b' 7 = true → vs 7 = .pointer (some ⟨a, 3, none⟩)) ∧ (b' 8 = true → vs 8 = .int .i64 (s : Int)) ∧ (b' 9 = true → vs 9 = .slice ad (s - 0) (c - 0)) ∧ (b' 10 = true → Hid (OwnB w' w.heap.size (vs 10) E)) ∧ (b' 11 = true → Hid (OwnB w' w.heap.size (vs 11) E)) ∧ (Hid (Below w.heap.size w w'))) ?_ ?_ ?_
    · intro vs
      exact ⟨fun h => Bool.noConfusion h, fun h => Bool.noConfusion h, fun h => Bool.noConfusion h, fun h => Bool.noConfusion h, fun h => Bool.noConfusion h, fun h => Bool.noConfusion h, fun h => Bool.noConfusion h, fun h => Bool.noConfusion h, fun h => Bool.noConfusion h, fun h => Bool.noConfusion h, fun h => Bool.noConfusion h, fun h => Bool.noConfusion h, below_drewN (Below.refl _ _) 1⟩
    · rintro b' vs w' i op hi hun hall ⟨h0, h1, h2, h3, h4, h5, h6, h7, h8, h9, y10, y11, hB⟩
      have hil : i < 12 := (List.getElem?_eq_some_iff.1 hi).1
      rcases i with _ | _ | _ | _ | _ | _ | _ | _ | _ | _ | _ | _ | i
      · obtain rfl := Option.some.inj hi
        clear hi hil
        refine wpOp_step rfl (fun K hK => ?_)
        have HKK := Lib.hid hK; clear hK
        simp only [putAll, Act.put, List.setIfInBounds_toArray, List.set_cons_zero, List.set_cons_succ]
        go_simp
        exact HKK.out _ _ ⟨_, by simp only [putAll, Act.put, List.setIfInBounds_toArray, List.set_cons_zero, List.set_cons_succ] <;> rfl, fun _ => rfl, h1, h2, h3, h4, h5, h6, h7, h8, h9, y10, y11, hB⟩
      · obtain rfl := Option.some.inj hi
        clear hi hil
        have d0 := h0 (hall ⟨0, .data⟩ (by simp) rfl)
        refine wpOp_step rfl (fun K hK => ?_)
        have HKK := Lib.hid hK; clear hK
        simp only [putAll, Act.put, List.setIfInBounds_toArray, List.set_cons_zero, List.set_cons_succ]
        go_simp
        exact HKK.out _ _ ⟨_, by simp only [putAll, Act.put, List.setIfInBounds_toArray, List.set_cons_zero, List.set_cons_succ, d0] <;> rfl, h0, fun _ => rfl, h2, h3, h4, h5, h6, h7, h8, h9, y10, y11, hB⟩
      · obtain rfl := Option.some.inj hi
        clear hi hil
        have d1 := h1 (hall ⟨1, .data⟩ (by simp) rfl)
        refine wpOp_step rfl (fun K hK => ?_)
        have HKK := Lib.hid hK; clear hK
        simp only [putAll, Act.put, List.setIfInBounds_toArray, List.set_cons_zero, List.set_cons_succ]
        go_simp
        exact HKK.out _ _ ⟨_, by simp only [putAll, Act.put, List.setIfInBounds_toArray, List.set_cons_zero, List.set_cons_succ, d1] <;> rfl, h0, h1, fun _ => rfl, h3, h4, h5, h6, h7, h8, h9, y10, y11, hB⟩
      · obtain rfl := Option.some.inj hi
        clear hi hil
        have d2 := h2 (hall ⟨2, .data⟩ (by simp) rfl)
        have cc := (HC5.out w' hB.out).1
        refine wpOp_step rfl (fun K hK => ?_)
        have HKK := Lib.hid hK; clear hK
        simp only [putAll, Act.put, List.setIfInBounds_toArray, List.set_cons_zero, List.set_cons_succ]
        go_simp
        exact HKK.out _ _ ⟨_, by simp only [putAll, Act.put, List.setIfInBounds_toArray, List.set_cons_zero, List.set_cons_succ, d2] <;> rfl, h0, h1, h2, fun _ => rfl, h4, h5, h6, h7, h8, h9, y10, y11, hB⟩
      · obtain rfl := Option.some.inj hi
        clear hi hil
        refine wpOp_step rfl (fun K hK => ?_)
        have HKK := Lib.hid hK; clear hK
        simp only [putAll, Act.put, List.setIfInBounds_toArray, List.set_cons_zero, List.set_cons_succ]
        go_simp
        exact HKK.out _ _ ⟨_, by simp only [putAll, Act.put, List.setIfInBounds_toArray, List.set_cons_zero, List.set_cons_succ] <;> rfl, h0, h1, h2, h3, fun _ => rfl, h5, h6, h7, h8, h9, y10, y11, hB⟩
      · obtain rfl := Option.some.inj hi
        clear hi hil
        have d4 := h4 (hall ⟨4, .data⟩ (by simp) rfl)
        refine wpOp_step rfl (fun K hK => ?_)
        have HKK := Lib.hid hK; clear hK
        simp only [putAll, Act.put, List.setIfInBounds_toArray, List.set_cons_zero, List.set_cons_succ]
        go_simp
        exact HKK.out _ _ ⟨_, by simp only [putAll, Act.put, List.setIfInBounds_toArray, List.set_cons_zero, List.set_cons_succ, d4] <;> rfl, h0, h1, h2, h3, h4, fun _ => rfl, h6, h7, h8, h9, y10, y11, hB⟩
      · obtain rfl := Option.some.inj hi
        clear hi hil
        have d5 := h5 (hall ⟨5, .data⟩ (by simp) rfl)
        refine wpOp_step rfl (fun K hK => ?_)
        have HKK := Lib.hid hK; clear hK
        simp only [putAll, Act.put, List.setIfInBounds_toArray, List.set_cons_zero, List.set_cons_succ]
        go_simp
        exact HKK.out _ _ ⟨_, by simp only [putAll, Act.put, List.setIfInBounds_toArray, List.set_cons_zero, List.set_cons_succ, d5] <;> rfl, h0, h1, h2, h3, h4, h5, fun _ => rfl, h7, h8, h9, y10, y11, hB⟩
      · obtain rfl := Option.some.inj hi
        clear hi hil
        have d6 := h6 (hall ⟨6, .data⟩ (by simp) rfl)
        refine wpOp_step rfl (fun K hK => ?_)
        have HKK := Lib.hid hK; clear hK
        simp only [putAll, Act.put, List.setIfInBounds_toArray, List.set_cons_zero, List.set_cons_succ]
        go_simp
        exact HKK.out _ _ ⟨_, by simp only [putAll, Act.put, List.setIfInBounds_toArray, List.set_cons_zero, List.set_cons_succ, d6] <;> rfl, h0, h1, h2, h3, h4, h5, h6, fun _ => rfl, h8, h9, y10, y11, hB⟩
      · obtain rfl := Option.some.inj hi
        clear hi hil
        have d7 := h7 (hall ⟨7, .data⟩ (by simp) rfl)
        have cc := (HC5.out w' hB.out).2
        refine wpOp_step rfl (fun K hK => ?_)
        have HKK := Lib.hid hK; clear hK
        simp only [putAll, Act.put, List.setIfInBounds_toArray, List.set_cons_zero, List.set_cons_succ]
        go_simp
        exact HKK.out _ _ ⟨_, by simp only [putAll, Act.put, List.setIfInBounds_toArray, List.set_cons_zero, List.set_cons_succ, d7] <;> rfl, h0, h1, h2, h3, h4, h5, h6, h7, fun _ => rfl, h9, y10, y11, hB⟩
      · obtain rfl := Option.some.inj hi
        clear hi hil
        have d3 := h3 (hall ⟨3, .data⟩ (by simp) rfl)
        have d8 := h8 (hall ⟨8, .data⟩ (by simp) rfl)
        obtain ⟨s0, s1, s2, s3, s4, s5⟩ := HQ.out
        have hct := hcut w'
        refine wpOp_step rfl (fun K hK => ?_)
        have HKK := Lib.hid hK; clear hK
        simp only [putAll, Act.put, List.setIfInBounds_toArray, List.set_cons_zero, List.set_cons_succ]
        go_simp
        exact HKK.out _ _ ⟨_, by simp only [putAll, Act.put, List.setIfInBounds_toArray, List.set_cons_zero, List.set_cons_succ, d3, d8] <;> rfl, h0, h1, h2, h3, h4, h5, h6, h7, h8, fun _ => rfl, y10, y11, hB⟩
      · obtain rfl := Option.some.inj hi
        clear hi hil
        have d9 := h9 (hall ⟨9, .data⟩ (by simp) rfl)
        refine wpOp_step rfl (fun K hK => ?_)
        have HKK := Lib.hid hK; clear hK
        simp only [putAll, Act.put, List.setIfInBounds_toArray, List.set_cons_zero, List.set_cons_succ]
        go_simp
        refine (HCL.out w' hB.out).mono ?_
        rintro e w2 ⟨v2, rfl, ho2, hb2⟩
        exact HKK.out _ _ ⟨_, by simp only [putAll, Act.put, List.setIfInBounds_toArray, List.set_cons_zero, List.set_cons_succ, d9] <;> rfl, h0, h1, h2, h3, h4, h5, h6, h7, h8, h9, fun _ => Lib.hid (owns_base ho2 hB.out.size), fun h => Lib.hid ((y11 h).out.grow hb2), hB.out.trans (hb2.mono hB.out.size)⟩
      · obtain rfl := Option.some.inj hi
        clear hi hil
        have o11 := y10 (hall ⟨10, .data⟩ (by simp) rfl)
        refine wpOp_step rfl (fun K hK => ?_)
        have HKK := Lib.hid hK; clear hK
        simp only [putAll, Act.put, List.setIfInBounds_toArray, List.set_cons_zero, List.set_cons_succ]
        go_simp
        exact HKK.out _ _ ⟨_, by simp only [putAll, Act.put, List.setIfInBounds_toArray, List.set_cons_zero, List.set_cons_succ] <;> rfl, h0, h1, h2, h3, h4, h5, h6, h7, h8, h9, y10, fun _ => o11, hB⟩
      · omega
    · rintro b' vs wq hall ⟨h0, h1, h2, h3, h4, h5, h6, h7, h8, h9, y10, y11, hB⟩
      have d0 := h0 (hall 0 (by simp))
      have d1 := h1 (hall 1 (by simp))
      have d2 := h2 (hall 2 (by simp))
      have d3 := h3 (hall 3 (by simp))
      have d4 := h4 (hall 4 (by simp))
      have d5 := h5 (hall 5 (by simp))
      have d6 := h6 (hall 6 (by simp))
      have d7 := h7 (hall 7 (by simp))
      have d8 := h8 (hall 8 (by simp))
      have d9 := h9 (hall 9 (by simp))
      have HX : Hid (OwnB wq w.heap.size (vs 11) E ∧ Below w.heap.size w wq) := ⟨(y11 (hall 11 (by simp))).out, hB.out⟩
      simp only [putAll, Act.put, List.setIfInBounds_toArray, List.set_cons_zero, List.set_cons_succ, d0, d1, d2, d3, d4, d5, d6, d7, d8, d9]
      clear hall y10 y11 hB h0 d0 h1 d1 h2 d2 h3 d3 h4 d4 h5 d5 h6 d6 h7 d7 h8 d8 h9 d9
      generalize vs 11 = v11 at *
      generalize vs 10 = v10 at *
      go_wp2_with fail
      go_ret
      exact ⟨_, rfl, HX.out⟩
set_option maxHeartbeats 4000000 in
set_option maxRecDepth 100000 in
theorem sLog_c {T : Nat → Prop} {w : World} {a g : Nat} {h : Hd} {sv : Value} {D : List Int} {f : Bool} {d : DM} (st : SAt T w a g h sv D f) (ok : SOk d h D) (hl : D.length ≤ 31000) : Calls Try.prog 25 #[ptrD a] w fun e w' => ∃ v, e = .returned v ∧ OwnB w' w.heap.size v (D.drop h.snap.toNat) ∧ Below w.heap.size w w' := by
  obtain ⟨s, hs⟩ : ∃ s : Nat, h.snap = (s : Int) := ⟨h.snap.toNat, by have := ok.snap; omega⟩
  have hsd : s ≤ D.length := by have := ok.len; have := ok.log; omega
  have ekey : h.snap.toNat = s := by omega
  rw [ekey]
  have hrow := st.all.row
  have hcap := st.all.cap
  have hform := st.all
  have HB := Lib.hid st.blk
  obtain ⟨n, hn⟩ : ∃ n, D.length = n := ⟨_, rfl⟩
  obtain ⟨E, hE⟩ : ∃ E, D.drop s = E := ⟨_, rfl⟩
  rw [hE]
  obtain ⟨_, ⟨rfl, h0⟩ | ⟨q, c, cur, rfl, _, _, hnc, _⟩⟩ := hform
  · have hs0 : s = 0 := by omega
    have hD : D = [] := List.eq_nil_of_length_eq_zero h0
    have hE0 : E = [] := by rw [← hE, hD]; simp
    have HC5 : Hid (∀ W, Below w.heap.size w W → W.cell? ⟨a, 5, none⟩ = some (.slice none 0 0) ∧ W.cell? ⟨a, 3, none⟩ = some (.int .i64 0)) := fun W hW => by
      obtain ⟨_, _, _, c3, _, c5, _⟩ := (HB.out.grow hW).s7
      rw [hs, hs0] at c3
      exact ⟨c5, c3⟩
    have HQ : Hid (s = 0 ∧ True ∧ True ∧ True ∧ True ∧ True) := ⟨hs0, trivial, trivial, trivial, trivial, trivial⟩
    have HCL : Hid (∀ W, Below w.heap.size w W → Calls Try.prog 43 #[.slice none 0 0] W fun e w' => ∃ v, e = .returned v ∧ OwnB w' W.heap.size v E ∧ Below W.heap.size W w') := fun W hW => by
      rw [hE0]
      exact clone_c _ [] W (.inl ⟨rfl, rfl⟩) (by decide)
    clear st ok hl hs hsd ekey hrow hcap hn hE h0 hD hE0 hs0
    go_enter Try.func25, Try.ntmps25
    go_upto_region 1 with fail
    refine wp_region_put (by kernel_rfl) (by kernel_rfl) (by kernel_rfl) (fun b' vs w' => (b' 0 = true → vs 0 = ptrD a) ∧ (b' 1 = true → vs 1 = ptrD a) ∧ (b' 2 = true → vs 2 = .pointer (some ⟨a, 5, none⟩)) ∧ (b' 3 = true → vs 3 = .slice none 0 0) ∧ (b' 4 = true → vs 4 = ptrD a) ∧ (b' 5 = true → vs 5 = ptrD a) ∧ (b' 6 = true → vs 6 = .pointer (some ⟨a, 1, none⟩)) ∧ (b' 7 = true → vs 7 = .pointer (some ⟨a, 3, none⟩)) ∧ (b' 8 = true → vs 8 = .int .i64 0) ∧ (b' 9 = true → vs 9 = .slice none 0 0) ∧ (b' 10 = true → Hid (OwnB w' w.heap.size (vs 10) E)) ∧ (b' 11 = true → Hid (OwnB w' w.heap.size (vs 11) E)) ∧ (Hid (Below w.heap.size w w'))) ?_ ?_ ?_
    · intro vs
      exact ⟨fun h => Bool.noConfusion h, fun h => Bool.noConfusion h, fun h => Bool.noConfusion h, fun h => Bool.noConfusion h, fun h => Bool.noConfusion h, fun h => Bool.noConfusion h, fun h => Bool.noConfusion h, fun h => Bool.noConfusion h, fun h => Bool.noConfusion h, fun h => Bool.noConfusion h, fun h => Bool.noConfusion h, fun h => Bool.noConfusion h, below_drewN (Below.refl _ _) 1⟩
    · rintro b' vs w' i op hi hun hall ⟨h0, h1, h2, h3, h4, h5, h6, h7, h8, h9, y10, y11, hB⟩
      have hil : i < 12 := (List.getElem?_eq_some_iff.1 hi).1
      rcases i with _ | _ | _ | _ | _ | _ | _ | _ | _ | _ | _ | _ | i
      · obtain rfl := Option.some.inj hi
        clear hi hil
        refine wpOp_step rfl (fun K hK => ?_)
        have HKK := Lib.hid hK; clear hK
        simp only [putAll, Act.put, List.setIfInBounds_toArray, List.set_cons_zero, List.set_cons_succ]
        go_simp
        exact HKK.out _ _ ⟨_, by simp only [putAll, Act.put, List.setIfInBounds_toArray, List.set_cons_zero, List.set_cons_succ] <;> rfl, fun _ => rfl, h1, h2, h3, h4, h5, h6, h7, h8, h9, y10, y11, hB⟩
      · obtain rfl := Option.some.inj hi
        clear hi hil
        have d0 := h0 (hall ⟨0, .data⟩ (by simp) rfl)
        refine wpOp_step rfl (fun K hK => ?_)
        have HKK := Lib.hid hK; clear hK
        simp only [putAll, Act.put, List.setIfInBounds_toArray, List.set_cons_zero, List.set_cons_succ]
        go_simp
        exact HKK.out _ _ ⟨_, by simp only [putAll, Act.put, List.setIfInBounds_toArray, List.set_cons_zero, List.set_cons_succ, d0] <;> rfl, h0, fun _ => rfl, h2, h3, h4, h5, h6, h7, h8, h9, y10, y11, hB⟩
      · obtain rfl := Option.some.inj hi
        clear hi hil
        have d1 := h1 (hall ⟨1, .data⟩ (by simp) rfl)
        refine wpOp_step rfl (fun K hK => ?_)
        have HKK := Lib.hid hK; clear hK
        simp only [putAll, Act.put, List.setIfInBounds_toArray, List.set_cons_zero, List.set_cons_succ]
        go_simp
        exact HKK.out _ _ ⟨_, by simp only [putAll, Act.put, List.setIfInBounds_toArray, List.set_cons_zero, List.set_cons_succ, d1] <;> rfl, h0, h1, fun _ => rfl, h3, h4, h5, h6, h7, h8, h9, y10, y11, hB⟩
      · obtain rfl := Option.some.inj hi
        clear hi hil
        have d2 := h2 (hall ⟨2, .data⟩ (by simp) rfl)
        have cc := (HC5.out w' hB.out).1
        refine wpOp_step rfl (fun K hK => ?_)
        have HKK := Lib.hid hK; clear hK
        simp only [putAll, Act.put, List.setIfInBounds_toArray, List.set_cons_zero, List.set_cons_succ]
        go_simp
        exact HKK.out _ _ ⟨_, by simp only [putAll, Act.put, List.setIfInBounds_toArray, List.set_cons_zero, List.set_cons_succ, d2] <;> rfl, h0, h1, h2, fun _ => rfl, h4, h5, h6, h7, h8, h9, y10, y11, hB⟩
      · obtain rfl := Option.some.inj hi
        clear hi hil
        refine wpOp_step rfl (fun K hK => ?_)
        have HKK := Lib.hid hK; clear hK
        simp only [putAll, Act.put, List.setIfInBounds_toArray, List.set_cons_zero, List.set_cons_succ]
        go_simp
        exact HKK.out _ _ ⟨_, by simp only [putAll, Act.put, List.setIfInBounds_toArray, List.set_cons_zero, List.set_cons_succ] <;> rfl, h0, h1, h2, h3, fun _ => rfl, h5, h6, h7, h8, h9, y10, y11, hB⟩
      · obtain rfl := Option.some.inj hi
        clear hi hil
        have d4 := h4 (hall ⟨4, .data⟩ (by simp) rfl)
        refine wpOp_step rfl (fun K hK => ?_)
        have HKK := Lib.hid hK; clear hK
        simp only [putAll, Act.put, List.setIfInBounds_toArray, List.set_cons_zero, List.set_cons_succ]
        go_simp
        exact HKK.out _ _ ⟨_, by simp only [putAll, Act.put, List.setIfInBounds_toArray, List.set_cons_zero, List.set_cons_succ, d4] <;> rfl, h0, h1, h2, h3, h4, fun _ => rfl, h6, h7, h8, h9, y10, y11, hB⟩
      · obtain rfl := Option.some.inj hi
        clear hi hil
        have d5 := h5 (hall ⟨5, .data⟩ (by simp) rfl)
        refine wpOp_step rfl (fun K hK => ?_)
        have HKK := Lib.hid hK; clear hK
        simp only [putAll, Act.put, List.setIfInBounds_toArray, List.set_cons_zero, List.set_cons_succ]
        go_simp
        exact HKK.out _ _ ⟨_, by simp only [putAll, Act.put, List.setIfInBounds_toArray, List.set_cons_zero, List.set_cons_succ, d5] <;> rfl, h0, h1, h2, h3, h4, h5, fun _ => rfl, h7, h8, h9, y10, y11, hB⟩
      · obtain rfl := Option.some.inj hi
        clear hi hil
        have d6 := h6 (hall ⟨6, .data⟩ (by simp) rfl)
        refine wpOp_step rfl (fun K hK => ?_)
        have HKK := Lib.hid hK; clear hK
        simp only [putAll, Act.put, List.setIfInBounds_toArray, List.set_cons_zero, List.set_cons_succ]
        go_simp
        exact HKK.out _ _ ⟨_, by simp only [putAll, Act.put, List.setIfInBounds_toArray, List.set_cons_zero, List.set_cons_succ, d6] <;> rfl, h0, h1, h2, h3, h4, h5, h6, fun _ => rfl, h8, h9, y10, y11, hB⟩
      · obtain rfl := Option.some.inj hi
        clear hi hil
        have d7 := h7 (hall ⟨7, .data⟩ (by simp) rfl)
        have cc := (HC5.out w' hB.out).2
        refine wpOp_step rfl (fun K hK => ?_)
        have HKK := Lib.hid hK; clear hK
        simp only [putAll, Act.put, List.setIfInBounds_toArray, List.set_cons_zero, List.set_cons_succ]
        go_simp
        exact HKK.out _ _ ⟨_, by simp only [putAll, Act.put, List.setIfInBounds_toArray, List.set_cons_zero, List.set_cons_succ, d7] <;> rfl, h0, h1, h2, h3, h4, h5, h6, h7, fun _ => rfl, h9, y10, y11, hB⟩
      · obtain rfl := Option.some.inj hi
        clear hi hil
        have d3 := h3 (hall ⟨3, .data⟩ (by simp) rfl)
        have d8 := h8 (hall ⟨8, .data⟩ (by simp) rfl)
        refine wpOp_step rfl (fun K hK => ?_)
        have HKK := Lib.hid hK; clear hK
        simp only [putAll, Act.put, List.setIfInBounds_toArray, List.set_cons_zero, List.set_cons_succ]
        go_simp
        exact HKK.out _ _ ⟨_, by simp only [putAll, Act.put, List.setIfInBounds_toArray, List.set_cons_zero, List.set_cons_succ, d3, d8] <;> rfl, h0, h1, h2, h3, h4, h5, h6, h7, h8, fun _ => rfl, y10, y11, hB⟩
      · obtain rfl := Option.some.inj hi
        clear hi hil
        have d9 := h9 (hall ⟨9, .data⟩ (by simp) rfl)
        refine wpOp_step rfl (fun K hK => ?_)
        have HKK := Lib.hid hK; clear hK
        simp only [putAll, Act.put, List.setIfInBounds_toArray, List.set_cons_zero, List.set_cons_succ]
        go_simp
        refine (HCL.out w' hB.out).mono ?_
        rintro e w2 ⟨v2, rfl, ho2, hb2⟩
        exact HKK.out _ _ ⟨_, by simp only [putAll, Act.put, List.setIfInBounds_toArray, List.set_cons_zero, List.set_cons_succ, d9] <;> rfl, h0, h1, h2, h3, h4, h5, h6, h7, h8, h9, fun _ => Lib.hid (owns_base ho2 hB.out.size), fun h => Lib.hid ((y11 h).out.grow hb2), hB.out.trans (hb2.mono hB.out.size)⟩
      · obtain rfl := Option.some.inj hi
        clear hi hil
        have o11 := y10 (hall ⟨10, .data⟩ (by simp) rfl)
        refine wpOp_step rfl (fun K hK => ?_)
        have HKK := Lib.hid hK; clear hK
        simp only [putAll, Act.put, List.setIfInBounds_toArray, List.set_cons_zero, List.set_cons_succ]
        go_simp
        exact HKK.out _ _ ⟨_, by simp only [putAll, Act.put, List.setIfInBounds_toArray, List.set_cons_zero, List.set_cons_succ] <;> rfl, h0, h1, h2, h3, h4, h5, h6, h7, h8, h9, y10, fun _ => o11, hB⟩
      · omega
    · rintro b' vs wq hall ⟨h0, h1, h2, h3, h4, h5, h6, h7, h8, h9, y10, y11, hB⟩
      have d0 := h0 (hall 0 (by simp))
      have d1 := h1 (hall 1 (by simp))
      have d2 := h2 (hall 2 (by simp))
      have d3 := h3 (hall 3 (by simp))
      have d4 := h4 (hall 4 (by simp))
      have d5 := h5 (hall 5 (by simp))
      have d6 := h6 (hall 6 (by simp))
      have d7 := h7 (hall 7 (by simp))
      have d8 := h8 (hall 8 (by simp))
      have d9 := h9 (hall 9 (by simp))
      have HX : Hid (OwnB wq w.heap.size (vs 11) E ∧ Below w.heap.size w wq) := ⟨(y11 (hall 11 (by simp))).out, hB.out⟩
      simp only [putAll, Act.put, List.setIfInBounds_toArray, List.set_cons_zero, List.set_cons_succ, d0, d1, d2, d3, d4, d5, d6, d7, d8, d9]
      clear hall y10 y11 hB h0 d0 h1 d1 h2 d2 h3 d3 h4 d4 h5 d5 h6 d6 h7 d7 h8 d8 h9 d9
      generalize vs 11 = v11 at *
      generalize vs 10 = v10 at *
      go_wp2_with fail
      go_ret
      exact ⟨_, rfl, HX.out⟩
  · rw [hn] at hrow hnc hsd hl
    have hnc2 : n ≤ c := hnc
    have HC5 : Hid (∀ W, Below w.heap.size w W → W.cell? ⟨a, 5, none⟩ = some (.slice (some ⟨q, 0, none⟩) n c) ∧ W.cell? ⟨a, 3, none⟩ = some (.int .i64 (s : Int))) := fun W hW => by
      obtain ⟨_, _, _, c3, _, c5, _⟩ := (HB.out.grow hW).s7
      rw [hs] at c3
      rw [hn] at c5
      exact ⟨c5, c3⟩
    have HQ : Hid (s ≤ n ∧ n ≤ c ∧ (s : Int) ≤ (n : Int) ∧ (s : Int) ≤ (c : Int) ∧ (0 : Int) ≤ (s : Int) ∧ True) := ⟨hsd, hnc2, by omega, by omega, by omega, trivial⟩
    obtain ⟨ad, had⟩ : ∃ ad, cutA (some ⟨q, 0, none⟩) s c = ad := ⟨_, rfl⟩
    have hcut : ∀ W : World, (Instr.sliceAt 24 (.slice (some ⟨q, 0, none⟩) n c) (some (.int .i64 (s : Int))) none none).run Try.prog W = .ok (.slice ad (n - s) (c - s)) W := fun W => by
      rw [← had]
      exact run_cut W (some ⟨q, 0, none⟩) n c s n c (n - s) (some (.int .i64 (s : Int))) none none (.inl rfl) (.inr ⟨rfl, rfl, .inr ⟨rfl, rfl⟩⟩) (by omega) (by omega) rfl
    have HCL : Hid (∀ W, Below w.heap.size w W → Calls Try.prog 43 #[.slice ad (n - s) (c - s)] W fun e w' => ∃ v, e = .returned v ∧ OwnB w' W.heap.size v E ∧ Below W.heap.size W w') := fun W hW => by
      have key := RowB.cutU (hrow.on hW) hn (l := s) (k := n - s) (m := c) (by omega) (by omega) (Nat.le_refl _)
      have e : cutL D s (n - s) = E := by rw [← hE]; unfold cutL; exact List.take_of_length_le (by rw [List.length_drop]; omega)
      rw [e, had] at key
      refine clone_c _ E W ?_ (by rw [← e, cutL_len (by omega)]; omega)
      exact key
    clear st ok hl hs hsd ekey hrow hcap hn hE hnc hnc2 had
    go_enter Try.func25, Try.ntmps25
    go_upto_region 1 with fail
    refine wp_region_put (by kernel_rfl) (by kernel_rfl) (by kernel_rfl) (fun b' vs w' => (b' 0 = true → vs 0 = ptrD a) ∧ (b' 1 = true → vs 1 = ptrD a) ∧ (b' 2 = true → vs 2 = .pointer (some ⟨a, 5, none⟩)) ∧ (b' 3 = true → vs 3 = .slice (some ⟨q, 0, none⟩) n c) ∧ (b' 4 = true → vs 4 = ptrD a) ∧ (b' 5 = true → vs 5 = ptrD a) ∧ (b' 6 = true → vs 6 = .pointer (some ⟨a, 1, none⟩)) ∧ (b' 7 = true → vs 7 = .pointer (some ⟨a, 3, none⟩)) ∧ (b' 8 = true → vs 8 = .int .i64 (s : Int)) ∧ (b' 9 = true → vs 9 = .slice ad (n - s) (c - s)) ∧ (b' 10 = true → Hid (OwnB w' w.heap.size (vs 10) E)) ∧ (b' 11 = true → Hid (OwnB w' w.heap.size (vs 11) E)) ∧ (Hid (Below w.heap.size w w'))) ?_ ?_ ?_
    · intro vs
      exact ⟨fun h => Bool.noConfusion h, fun h => Bool.noConfusion h, fun h => Bool.noConfusion h, fun h => Bool.noConfusion h, fun h => Bool.noConfusion h, fun h => Bool.noConfusion h, fun h => Bool.noConfusion h, fun h => Bool.noConfusion h, fun h => Bool.noConfusion h, fun h => Bool.noConfusion h, fun h => Bool.noConfusion h, fun h => Bool.noConfusion h, below_drewN (Below.refl _ _) 1⟩
    · rintro b' vs w' i op hi hun hall ⟨h0, h1, h2, h3, h4, h5, h6, h7, h8, h9, y10, y11, hB⟩
      have hil : i < 12 := (List.getElem?_eq_some_iff.1 hi).1
      rcases i with _ | _ | _ | _ | _ | _ | _ | _ | _ | _ | _ | _ | i
      · obtain rfl := Option.some.inj hi
        clear hi hil
        refine wpOp_step rfl (fun K hK => ?_)
        have HKK := Lib.hid hK; clear hK
        simp only [putAll, Act.put, List.setIfInBounds_toArray, List.set_cons_zero, List.set_cons_succ]
        go_simp
        exact HKK.out _ _ ⟨_, by simp only [putAll, Act.put, List.setIfInBounds_toArray, List.set_cons_zero, List.set_cons_succ] <;> rfl, fun _ => rfl, h1, h2, h3, h4, h5, h6, h7, h8, h9, y10, y11, hB⟩
      · obtain rfl := Option.some.inj hi
        clear hi hil
        have d0 := h0 (hall ⟨0, .data⟩ (by simp) rfl)
        refine wpOp_step rfl (fun K hK => ?_)
        have HKK := Lib.hid hK; clear hK
        simp only [putAll, Act.put, List.setIfInBounds_toArray, List.set_cons_zero, List.set_cons_succ]
        go_simp
        exact HKK.out _ _ ⟨_, by simp only [putAll, Act.put, List.setIfInBounds_toArray, List.set_cons_zero, List.set_cons_succ, d0] <;> rfl, h0, fun _ => rfl, h2, h3, h4, h5, h6, h7, h8, h9, y10, y11, hB⟩
      · obtain rfl := Option.some.inj hi
        clear hi hil
        have d1 := h1 (hall ⟨1, .data⟩ (by simp) rfl)
        refine wpOp_step rfl (fun K hK => ?_)
        have HKK := Lib.hid hK; clear hK
        simp only [putAll, Act.put, List.setIfInBounds_toArray, List.set_cons_zero, List.set_cons_succ]
        go_simp
        exact HKK.out _ _ ⟨_, by simp only [putAll, Act.put, List.setIfInBounds_toArray, List.set_cons_zero, List.set_cons_succ, d1] <;> rfl, h0, h1, fun _ => rfl, h3, h4, h5, h6, h7, h8, h9, y10, y11, hB⟩
      · obtain rfl := Option.some.inj hi
        clear hi hil
        have d2 := h2 (hall ⟨2, .data⟩ (by simp) rfl)
        have cc := (HC5.out w' hB.out).1
        refine wpOp_step rfl (fun K hK => ?_)
        have HKK := Lib.hid hK; clear hK
        simp only [putAll, Act.put, List.setIfInBounds_toArray, List.set_cons_zero, List.set_cons_succ]
        go_simp
        exact HKK.out _ _ ⟨_, by simp only [putAll, Act.put, List.setIfInBounds_toArray, List.set_cons_zero, List.set_cons_succ, d2] <;> rfl, h0, h1, h2, fun _ => rfl, h4, h5, h6, h7, h8, h9, y10, y11, hB⟩
      · obtain rfl := Option.some.inj hi
        clear hi hil
        refine wpOp_step rfl (fun K hK => ?_)
        have HKK := Lib.hid hK; clear hK
        simp only [putAll, Act.put, List.setIfInBounds_toArray, List.set_cons_zero, List.set_cons_succ]
        go_simp
        exact HKK.out _ _ ⟨_, by simp only [putAll, Act.put, List.setIfInBounds_toArray, List.set_cons_zero, List.set_cons_succ] <;> rfl, h0, h1, h2, h3, fun _ => rfl, h5, h6, h7, h8, h9, y10, y11, hB⟩
      · obtain rfl := Option.some.inj hi
        clear hi hil
        have d4 := h4 (hall ⟨4, .data⟩ (by simp) rfl)
        refine wpOp_step rfl (fun K hK => ?_)
        have HKK := Lib.hid hK; clear hK
        simp only [putAll, Act.put, List.setIfInBounds_toArray, List.set_cons_zero, List.set_cons_succ]
        go_simp
        exact HKK.out _ _ ⟨_, by simp only [putAll, Act.put, List.setIfInBounds_toArray, List.set_cons_zero, List.set_cons_succ, d4] <;> rfl, h0, h1, h2, h3, h4, fun _ => rfl, h6, h7, h8, h9, y10, y11, hB⟩
      · obtain rfl := Option.some.inj hi
        clear hi hil
        have d5 := h5 (hall ⟨5, .data⟩ (by simp) rfl)
        refine wpOp_step rfl (fun K hK => ?_)
        have HKK := Lib.hid hK; clear hK
        simp only [putAll, Act.put, List.setIfInBounds_toArray, List.set_cons_zero, List.set_cons_succ]
        go_simp
        exact HKK.out _ _ ⟨_, by simp only [putAll, Act.put, List.setIfInBounds_toArray, List.set_cons_zero, List.set_cons_succ, d5] <;> rfl, h0, h1, h2, h3, h4, h5, fun _ => rfl, h7, h8, h9, y10, y11, hB⟩
      · obtain rfl := Option.some.inj hi
        clear hi hil
        have d6 := h6 (hall ⟨6, .data⟩ (by simp) rfl)
        refine wpOp_step rfl (fun K hK => ?_)
        have HKK := Lib.hid hK; clear hK
        simp only [putAll, Act.put, List.setIfInBounds_toArray, List.set_cons_zero, List.set_cons_succ]
        go_simp
        exact HKK.out _ _ ⟨_, by simp only [putAll, Act.put, List.setIfInBounds_toArray, List.set_cons_zero, List.set_cons_succ, d6] <;> rfl, h0, h1, h2, h3, h4, h5, h6, fun _ => rfl, h8, h9, y10, y11, hB⟩
      · obtain rfl := Option.some.inj hi
        clear hi hil
        have d7 := h7 (hall ⟨7, .data⟩ (by simp) rfl)
        have cc := (HC5.out w' hB.out).2
        refine wpOp_step rfl (fun K hK => ?_)
        have HKK := Lib.hid hK; clear hK
        simp only [putAll, Act.put, List.setIfInBounds_toArray, List.set_cons_zero, List.set_cons_succ]
        go_simp
        exact HKK.out _ _ ⟨_, by simp only [putAll, Act.put, List.setIfInBounds_toArray, List.set_cons_zero, List.set_cons_succ, d7] <;> rfl, h0, h1, h2, h3, h4, h5, h6, h7, fun _ => rfl, h9, y10, y11, hB⟩
      · obtain rfl := Option.some.inj hi
        clear hi hil
        have d3 := h3 (hall ⟨3, .data⟩ (by simp) rfl)
        have d8 := h8 (hall ⟨8, .data⟩ (by simp) rfl)
        obtain ⟨s0, s1, s2, s3, s4, s5⟩ := HQ.out
        have hct := hcut w'
        refine wpOp_step rfl (fun K hK => ?_)
        have HKK := Lib.hid hK; clear hK
        simp only [putAll, Act.put, List.setIfInBounds_toArray, List.set_cons_zero, List.set_cons_succ]
        go_simp
        exact HKK.out _ _ ⟨_, by simp only [putAll, Act.put, List.setIfInBounds_toArray, List.set_cons_zero, List.set_cons_succ, d3, d8] <;> rfl, h0, h1, h2, h3, h4, h5, h6, h7, h8, fun _ => rfl, y10, y11, hB⟩
      · obtain rfl := Option.some.inj hi
        clear hi hil
        have d9 := h9 (hall ⟨9, .data⟩ (by simp) rfl)
        refine wpOp_step rfl (fun K hK => ?_)
        have HKK := Lib.hid hK; clear hK
        simp only [putAll, Act.put, List.setIfInBounds_toArray, List.set_cons_zero, List.set_cons_succ]
        go_simp
        refine (HCL.out w' hB.out).mono ?_
        rintro e w2 ⟨v2, rfl, ho2, hb2⟩
        exact HKK.out _ _ ⟨_, by simp only [putAll, Act.put, List.setIfInBounds_toArray, List.set_cons_zero, List.set_cons_succ, d9] <;> rfl, h0, h1, h2, h3, h4, h5, h6, h7, h8, h9, fun _ => Lib.hid (owns_base ho2 hB.out.size), fun h => Lib.hid ((y11 h).out.grow hb2), hB.out.trans (hb2.mono hB.out.size)⟩
      · obtain rfl := Option.some.inj hi
        clear hi hil
        have o11 := y10 (hall ⟨10, .data⟩ (by simp) rfl)
        refine wpOp_step rfl (fun K hK => ?_)
        have HKK := Lib.hid hK; clear hK
        simp only [putAll, Act.put, List.setIfInBounds_toArray, List.set_cons_zero, List.set_cons_succ]
        go_simp
        exact HKK.out _ _ ⟨_, by simp only [putAll, Act.put, List.setIfInBounds_toArray, List.set_cons_zero, List.set_cons_succ] <;> rfl, h0, h1, h2, h3, h4, h5, h6, h7, h8, h9, y10, fun _ => o11, hB⟩
      · omega
    · rintro b' vs wq hall ⟨h0, h1, h2, h3, h4, h5, h6, h7, h8, h9, y10, y11, hB⟩
      have d0 := h0 (hall 0 (by simp))
      have d1 := h1 (hall 1 (by simp))
      have d2 := h2 (hall 2 (by simp))
      have d3 := h3 (hall 3 (by simp))
      have d4 := h4 (hall 4 (by simp))
      have d5 := h5 (hall 5 (by simp))
      have d6 := h6 (hall 6 (by simp))
      have d7 := h7 (hall 7 (by simp))
      have d8 := h8 (hall 8 (by simp))
      have d9 := h9 (hall 9 (by simp))
      have HX : Hid (OwnB wq w.heap.size (vs 11) E ∧ Below w.heap.size w wq) := ⟨(y11 (hall 11 (by simp))).out, hB.out⟩
      simp only [putAll, Act.put, List.setIfInBounds_toArray, List.set_cons_zero, List.set_cons_succ, d0, d1, d2, d3, d4, d5, d6, d7, d8, d9]
      clear hall y10 y11 hB h0 d0 h1 d1 h2 d2 h3 d3 h4 d4 h5 d5 h6 d6 h7 d7 h8 d8 h9 d9
      generalize vs 11 = v11 at *
      generalize vs 10 = v10 at *
      go_wp2_with fail
      go_ret
      exact ⟨_, rfl, HX.out⟩
end Go.Proofs.Ytdcjchakgfpgaaa
