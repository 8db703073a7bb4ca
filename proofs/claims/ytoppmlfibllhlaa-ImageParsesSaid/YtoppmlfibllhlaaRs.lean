/- Layer 11: package image's readRuns: what is yielded. -/
import Derived.Test.YtoppmlfibllhlaaRi
import Derived.Test.YtoppmlfibllhlaaKa
import Derived.Laws.Cover3
namespace Go.Proofs.Ytoppmlfibllhlaa
open Go.RowKit Go.Shelf
attribute [local go_sem] Oper.semAt_some
def rAt (F : List Int) (i : Nat) : Int := F.getD i 0
theorem rAt_some {F : List Int} {i : Nat} (h : i < F.length) : F[i]? = some (rAt F i) := by
  unfold rAt; rw [List.getD_eq_getElem?_getD, List.getElem?_eq_getElem h]; rfl
/-- The colour of the run that begins at i. -/
def rCol (F : List Int) (i : Nat) : Col := fun j => rAt F (i + 1 + j)
def BytsAt (w : World) (b o : Nat) (F : List Int) : Prop := ∀ i x, F[i]? = some x → w.cell? ⟨b, o + i, none⟩ = some (.int .u8 x)
theorem BytsAt.keep {S : Nat → Prop} {w w' : World} {b o : Nat} {F : List Int} (h : BytsAt w b o F) (hk : Keep S w w') (hs : S b) (hl : b < w.heap.size) : BytsAt w' b o F := fun i x hx => (hk.cell hs hl).trans (h i x hx)
theorem readRuns_c (ao : Option Addr) (n c : Nat) (w : World) : Calls Try.prog 48 #[.slice ao n c] w fun e w' => e = .returned (.func (.func 65) #[] #[.pointer (some ⟨w.heap.size, 0, none⟩)]) ∧ w.alloc (.cells #[.slice ao n c] 58) = w' := by
  go_enter Try.func48, Try.ntmps48
  go_wp2
  go_ret
  exact ⟨rfl, rfl⟩
set_option maxHeartbeats 4000000 in
set_option maxRecDepth 100000 in
theorem readRuns1_c (bx : Nat) (KS : Nat → Prop) (F : List Int) (ao : Option Addr) (n c : Nat) (hF : F.length = n) (hok : OkB F) (hn : n ≤ 70000) (hc : n ≤ c) (W : World) (hbl : bx < W.heap.size) (hbs : KS bx)
    (hbx : W.cell? ⟨bx, 0, none⟩ = some (.slice ao n c)) (hrow : 0 < n → ∃ b o, ao = some ⟨b, o, none⟩ ∧ KS b ∧ b < W.heap.size ∧ BytsAt W b o F) :
    YieldsAll 65 (.pointer (some ⟨bx, 0, none⟩)) KS (fun i => i + 5 ≤ n) (fun i => (rAt F i + 1, rCol F i)) (fun i => i + 5) W := by
  intro L J Jx hJ hY h0
  have HJ := Lib.hid hJ
  have HY := Lib.hid hY
  have HROW := Lib.hid hrow
  have HF := Lib.hid (And.intro hF hok)
  have HNC := Lib.hid (And.intro hn hc)
  have H0 := Lib.hid h0
  have HB := Lib.hid (And.intro hbl hbs)
  have HBX := Lib.hid hbx
  clear h0 hY hrow hF hJ hbs hbl hok
  refine callsIn_of_wp Try.func65 rfl trivial ?_ rfl
  simp only [Try.ntmps65, List.size_toArray, List.length_cons, List.length_nil, Nat.reduceAdd, Nat.reduceSub, Array.replicate_succ, Array.replicate_zero, List.push_toArray, List.append_toArray, List.nil_append, List.cons_append]
  gi_wp2
  clear hbx hc
  gi_loopw [3] (fun i wr => ∃ k : Nat, k ≤ n ∧ i = .int .i64 k ∧ Hid (J k wr ∧ Keep KS W wr)) (fun i _ => n + 5 - (intOf i).toNat)
  case atStart =>
    exact ⟨0, by omega, rfl, H0.out, Keep.refl _ _⟩
  case round =>
    obtain ⟨k, hk, rfl, hw⟩ := hrel
    have hb1 : wr.cell? ⟨bx, 0, none⟩ = some (.slice ao n c) := by rw [hw.out.2.cell HB.out.2 HB.out.1]; exact HBX.out
    obtain ⟨k5, hk5⟩ : ∃ k5, k + 5 = k5 := ⟨_, rfl⟩
    have ew5 : wrap64 ((k : Int) + 5) = (k5 : Int) := by rw [wrapR _ (by omega) (by omega)]; omega
    by_cases hlt : k5 ≤ n
    · have hd : decide ((k5 : Int) ≤ (n : Int)) = true := by simp; omega
      obtain ⟨k1, hk1⟩ : ∃ k1, k + 1 = k1 := ⟨_, rfl⟩
      have ew1 : wrap64 ((k : Int) + 1) = (k1 : Int) := by rw [wrapR _ (by omega) (by omega)]; omega
      have HW1 : Hid (wrap64 ((k : Int) + 1) = (k1 : Int) ∧ wrap64 ((k : Int) + 5) = (k5 : Int)) := ⟨ew1, ew5⟩
      have HKN : Hid ((k : Int) < (n : Int) ∧ (k1 : Int) ≤ (k5 : Int) ∧ (k5 : Int) ≤ (c : Int) ∧ ¬ k5 = k1 ∧ 4 ≤ k5 - k1 ∧ (k5 : Int) ≤ (n : Int)) := by have := HNC.out; exact ⟨by omega, by omega, by omega, by omega, by omega, by omega⟩
      have HKE : Hid (k + 5 = k5) := hk5
      obtain ⟨b, o, rfl, hbs, hbl, hs⟩ := HROW.out (by omega)
      have hs' := hs.keep hw.out.2 hbs hbl
      obtain ⟨r, hr⟩ : ∃ r, rAt F k = r := ⟨_, rfl⟩
      obtain ⟨x0, hx0⟩ : ∃ x, rAt F (k + 1 + 0) = x := ⟨_, rfl⟩
      obtain ⟨x1, hx1⟩ : ∃ x, rAt F (k + 1 + 1) = x := ⟨_, rfl⟩
      obtain ⟨x2, hx2⟩ : ∃ x, rAt F (k + 1 + 2) = x := ⟨_, rfl⟩
      obtain ⟨x3, hx3⟩ : ∃ x, rAt F (k + 1 + 3) = x := ⟨_, rfl⟩
      obtain ⟨r1, hr1⟩ : ∃ r1, r + 1 = r1 := ⟨_, rfl⟩
      have hlen := HF.out.1
      have hrb : 0 ≤ r ∧ r ≤ 255 := by rw [← hr]; exact HF.out.2 _ (List.mem_of_getElem? (rAt_some (by omega)))
      have HW : Hid (IntKind.i64.wrap r = r ∧ wrap64 (r + 1) = r1) := by
        refine ⟨(wrap_is _).trans (wrapR _ (by omega) (by omega)), ?_⟩
        rw [hr1]; exact wrapR _ (by omega) (by omega)
      have HC : Hid (wr.drew.cell? ⟨b, o + k, none⟩ = some (.int .u8 r) ∧ wr.drew.cell? ⟨b, o + k1, none⟩ = some (.int .u8 x0) ∧ wr.drew.cell? ⟨b, o + k1 + 1, none⟩ = some (.int .u8 x1) ∧ wr.drew.cell? ⟨b, o + k1 + 2, none⟩ = some (.int .u8 x2) ∧ wr.drew.cell? ⟨b, o + k1 + 3, none⟩ = some (.int .u8 x3)) := by
        rw [← hr, ← hx0, ← hx1, ← hx2, ← hx3, ← hk1]
        exact ⟨hs' k _ (rAt_some (by omega)), hs' (k + 1 + 0) _ (rAt_some (by omega)), hs' (k + 1 + 1) _ (rAt_some (by omega)), hs' (k + 1 + 2) _ (rAt_some (by omega)), hs' (k + 1 + 3) _ (rAt_some (by omega))⟩
      have HYK : Hid (YieldAt Fence.wide 7 Try.prog L #[.int .i64 r1, .agg #[.int .u8 x0, .int .u8 x1, .int .u8 x2, .int .u8 x3]] wr.drew fun e B => (e = .returned (.bool true) ∧ J (k + 5) B ∧ Keep KS wr.drew B) ∨ (e = .returned (.bool false) ∧ Jx B ∧ Keep KS wr.drew B)) := by
        have h := HY.out k wr.drew (by omega) (HJ.out _ _ _ hw.out.1 (Keep.drew _ _)) hw.out.2.size
        unfold pairArgs rCol at h
        simp only at h
        rw [hr, hr1, hx0, hx1, hx2, hx3] at h
        exact h
      have HBX1 : Hid (wr.drew.cell? ⟨bx, 0, none⟩ = some (.slice (some ⟨b, o, none⟩) n c)) := hb1
      clear hs hs' hbs hbl hr hr1 hx0 hx1 hx2 hx3 hrb hlen ew1 hk1
      have hlt2 : (k5 : Int) ≤ (n : Int) := by omega
      clear hk hn hk5 hlt
      gi_wp2
      clear hb1 ew5 hlt2 hd
      refine wpIn_region_put2 (by kernel_rfl) (by kernel_rfl) (by kernel_rfl) (fun b' vs w' => (b' 0 = true → vs 0 = .func (.yield L) #[] #[]) ∧ (b' 1 = true → vs 1 = .slice (some ⟨b, o, none⟩) n c) ∧ (b' 2 = true → vs 2 = .int .i64 (k : Int)) ∧ (b' 3 = true → vs 3 = .pointer (some ⟨b, o + k, none⟩)) ∧ (b' 4 = true → vs 4 = .int .u8 r) ∧ (b' 5 = true → vs 5 = .int .i64 r) ∧ (b' 6 = true → vs 6 = .int .i64 r1) ∧ (b' 7 = true → vs 7 = .slice (some ⟨b, o, none⟩) n c) ∧ (b' 8 = true → vs 8 = .int .i64 (k : Int)) ∧ (b' 9 = true → vs 9 = .int .i64 (k1 : Int)) ∧ (b' 10 = true → vs 10 = .int .i64 (k : Int)) ∧ (b' 11 = true → vs 11 = .int .i64 (k5 : Int)) ∧ (b' 12 = true → vs 12 = .slice (some ⟨b, o + k1, none⟩) (k5 - k1) (c - k1)) ∧ (b' 13 = true → vs 13 = .pointer (some ⟨b, o + k1, none⟩)) ∧ (b' 14 = true → vs 14 = .agg #[.int .u8 x0, .int .u8 x1, .int .u8 x2, .int .u8 x3]) ∧ (b' 15 = false → w' = wr.drew) ∧ (b' 15 = true → Hid ((vs 15 = .bool true ∧ J (k + 5) w') ∨ (vs 15 = .bool false ∧ Jx w'))) ∧ (b' 16 = true → b' 15 = true ∧ ∃ x, vs 15 = .bool x ∧ vs 16 = .bool (!x)) ∧ Hid (Keep KS wr w') ∧ Hid (b' 15 = true → b' 0 = true) ∧ Hid (b' 3 = true → b' 1 = true) ∧ Hid (b' 3 = true → b' 2 = true) ∧ Hid (b' 4 = true → b' 3 = true) ∧ Hid (b' 5 = true → b' 4 = true) ∧ Hid (b' 6 = true → b' 5 = true) ∧ Hid (b' 15 = true → b' 6 = true) ∧ Hid (b' 12 = true → b' 7 = true) ∧ Hid (b' 9 = true → b' 8 = true) ∧ Hid (b' 12 = true → b' 9 = true) ∧ Hid (b' 11 = true → b' 10 = true) ∧ Hid (b' 12 = true → b' 11 = true) ∧ Hid (b' 13 = true → b' 12 = true) ∧ Hid (b' 14 = true → b' 13 = true) ∧ Hid (b' 15 = true → b' 14 = true)) ?_ ?_ ?_
      · intro vs hvs
        exact ⟨fun h => Bool.noConfusion h, fun h => Bool.noConfusion h, fun h => Bool.noConfusion h, fun h => Bool.noConfusion h, fun h => Bool.noConfusion h, fun h => Bool.noConfusion h, fun h => Bool.noConfusion h, fun h => Bool.noConfusion h, fun h => Bool.noConfusion h, fun h => Bool.noConfusion h, fun h => Bool.noConfusion h, fun h => Bool.noConfusion h, fun h => Bool.noConfusion h, fun h => Bool.noConfusion h, fun h => Bool.noConfusion h, fun _ => rfl, fun h => Bool.noConfusion h, fun h => Bool.noConfusion h, Lib.hid (Keep.drew _ _), Lib.hid (fun h => Bool.noConfusion h), Lib.hid (fun h => Bool.noConfusion h), Lib.hid (fun h => Bool.noConfusion h), Lib.hid (fun h => Bool.noConfusion h), Lib.hid (fun h => Bool.noConfusion h), Lib.hid (fun h => Bool.noConfusion h), Lib.hid (fun h => Bool.noConfusion h), Lib.hid (fun h => Bool.noConfusion h), Lib.hid (fun h => Bool.noConfusion h), Lib.hid (fun h => Bool.noConfusion h), Lib.hid (fun h => Bool.noConfusion h), Lib.hid (fun h => Bool.noConfusion h), Lib.hid (fun h => Bool.noConfusion h), Lib.hid (fun h => Bool.noConfusion h), Lib.hid (fun h => Bool.noConfusion h)⟩
      · rintro b' vs w' i op hi hun hall ⟨h0, h1, h2, h3, h4, h5, h6, h7, h8, h9, h10, h11, h12, h13, h14, hE, hG, hN, hK, e0, e1, e2, e3, e4, e5, e6, e7, e8, e9, e10, e11, e12, e13, e14⟩
        have hil : i < 17 := (List.getElem?_eq_some_iff.1 hi).1
        rcases i with _ | _ | _ | _ | _ | _ | _ | _ | _ | _ | _ | _ | _ | _ | _ | _ | _ | i
        · obtain rfl := Option.some.inj hi
          refine wpOpIn_step rfl (fun K hK2 => ?_)
          have HKK := Lib.hid hK2; clear hK2
          simp only [putAll, Act.put, List.setIfInBounds_toArray, List.set_cons_zero, List.set_cons_succ]
          go_simp
          exact HKK.out _ _ ⟨_, by simp only [putAll, Act.put, List.setIfInBounds_toArray, List.set_cons_zero, List.set_cons_succ] <;> rfl, fun _ => rfl, h1, h2, h3, h4, h5, h6, h7, h8, h9, h10, h11, h12, h13, h14, hE, hG, hN, hK, Lib.hid (fun _ => rfl), e1, e2, e3, e4, e5, e6, e7, e8, e9, e10, e11, e12, e13, e14⟩
        · obtain rfl := Option.some.inj hi
          have h15 : b' 15 = false := Bool.eq_false_iff.2 (fun h => absurd (((e1.out (e3.out (e4.out (e5.out (e6.out h)))))).symm.trans hun) (by decide))
          have hwr := hE h15
          subst hwr
          have cc := HBX1.out
          refine wpOpIn_step rfl (fun K hK2 => ?_)
          have HKK := Lib.hid hK2; clear hK2
          simp only [putAll, Act.put, List.setIfInBounds_toArray, List.set_cons_zero, List.set_cons_succ]
          go_simp
          exact HKK.out _ _ ⟨_, by simp only [putAll, Act.put, List.setIfInBounds_toArray, List.set_cons_zero, List.set_cons_succ] <;> rfl, h0, fun _ => rfl, h2, h3, h4, h5, h6, h7, h8, h9, h10, h11, h12, h13, h14, hE, hG, hN, hK, e0, Lib.hid (fun _ => rfl), e2, e3, e4, e5, e6, e7, e8, e9, e10, e11, e12, e13, e14⟩
        · obtain rfl := Option.some.inj hi
          refine wpOpIn_step rfl (fun K hK2 => ?_)
          have HKK := Lib.hid hK2; clear hK2
          simp only [putAll, Act.put, List.setIfInBounds_toArray, List.set_cons_zero, List.set_cons_succ]
          go_simp
          exact HKK.out _ _ ⟨_, by simp only [putAll, Act.put, List.setIfInBounds_toArray, List.set_cons_zero, List.set_cons_succ] <;> rfl, h0, h1, fun _ => rfl, h3, h4, h5, h6, h7, h8, h9, h10, h11, h12, h13, h14, hE, hG, hN, hK, e0, e1, Lib.hid (fun _ => rfl), e3, e4, e5, e6, e7, e8, e9, e10, e11, e12, e13, e14⟩
        · obtain rfl := Option.some.inj hi
          have g1 := hall ⟨1, .data⟩ (by simp) rfl
          have g2 := hall ⟨2, .data⟩ (by simp) rfl
          have d1 := h1 g1
          have d2 := h2 g2
          have k0 : (k : Int) < (n : Int) := HKN.out.1
          have k00 : (0 : Int) ≤ (k : Int) := by omega
          refine wpOpIn_step rfl (fun K hK2 => ?_)
          have HKK := Lib.hid hK2; clear hK2
          simp only [putAll, Act.put, List.setIfInBounds_toArray, List.set_cons_zero, List.set_cons_succ, d1, d2]
          go_simp
          exact HKK.out _ _ ⟨_, by simp only [putAll, Act.put, List.setIfInBounds_toArray, List.set_cons_zero, List.set_cons_succ, d1, d2] <;> rfl, h0, h1, h2, fun _ => rfl, h4, h5, h6, h7, h8, h9, h10, h11, h12, h13, h14, hE, hG, hN, hK, e0, Lib.hid (fun _ => g1), Lib.hid (fun _ => g2), Lib.hid (fun _ => rfl), e4, e5, e6, e7, e8, e9, e10, e11, e12, e13, e14⟩
        · obtain rfl := Option.some.inj hi
          have h15 : b' 15 = false := Bool.eq_false_iff.2 (fun h => absurd (((e4.out (e5.out (e6.out h)))).symm.trans hun) (by decide))
          have hwr := hE h15
          subst hwr
          have g3 := hall ⟨3, .data⟩ (by simp) rfl
          have d3 := h3 g3
          have cc := HC.out.1
          refine wpOpIn_step rfl (fun K hK2 => ?_)
          have HKK := Lib.hid hK2; clear hK2
          simp only [putAll, Act.put, List.setIfInBounds_toArray, List.set_cons_zero, List.set_cons_succ, d3]
          go_simp
          exact HKK.out _ _ ⟨_, by simp only [putAll, Act.put, List.setIfInBounds_toArray, List.set_cons_zero, List.set_cons_succ, d3] <;> rfl, h0, h1, h2, h3, fun _ => rfl, h5, h6, h7, h8, h9, h10, h11, h12, h13, h14, hE, hG, hN, hK, e0, e1, e2, Lib.hid (fun _ => g3), Lib.hid (fun _ => rfl), e5, e6, e7, e8, e9, e10, e11, e12, e13, e14⟩
        · obtain rfl := Option.some.inj hi
          have g4 := hall ⟨4, .data⟩ (by simp) rfl
          have d4 := h4 g4
          have ew := HW.out.1
          refine wpOpIn_step rfl (fun K hK2 => ?_)
          have HKK := Lib.hid hK2; clear hK2
          simp only [putAll, Act.put, List.setIfInBounds_toArray, List.set_cons_zero, List.set_cons_succ, d4]
          go_simp
          exact HKK.out _ _ ⟨_, by simp only [putAll, Act.put, List.setIfInBounds_toArray, List.set_cons_zero, List.set_cons_succ, d4] <;> rfl, h0, h1, h2, h3, h4, fun _ => rfl, h6, h7, h8, h9, h10, h11, h12, h13, h14, hE, hG, hN, hK, e0, e1, e2, e3, Lib.hid (fun _ => g4), Lib.hid (fun _ => rfl), e6, e7, e8, e9, e10, e11, e12, e13, e14⟩
        · obtain rfl := Option.some.inj hi
          have g5 := hall ⟨5, .data⟩ (by simp) rfl
          have d5 := h5 g5
          have ew := (wrap_is _).trans HW.out.2
          refine wpOpIn_step rfl (fun K hK2 => ?_)
          have HKK := Lib.hid hK2; clear hK2
          simp only [putAll, Act.put, List.setIfInBounds_toArray, List.set_cons_zero, List.set_cons_succ, d5]
          go_simp
          exact HKK.out _ _ ⟨_, by simp only [putAll, Act.put, List.setIfInBounds_toArray, List.set_cons_zero, List.set_cons_succ, d5] <;> rfl, h0, h1, h2, h3, h4, h5, fun _ => rfl, h7, h8, h9, h10, h11, h12, h13, h14, hE, hG, hN, hK, e0, e1, e2, e3, e4, Lib.hid (fun _ => g5), Lib.hid (fun _ => rfl), e7, e8, e9, e10, e11, e12, e13, e14⟩
        · obtain rfl := Option.some.inj hi
          have h15 : b' 15 = false := Bool.eq_false_iff.2 (fun h => absurd (((e7.out (e12.out (e13.out (e14.out h))))).symm.trans hun) (by decide))
          have hwr := hE h15
          subst hwr
          have cc := HBX1.out
          refine wpOpIn_step rfl (fun K hK2 => ?_)
          have HKK := Lib.hid hK2; clear hK2
          simp only [putAll, Act.put, List.setIfInBounds_toArray, List.set_cons_zero, List.set_cons_succ]
          go_simp
          exact HKK.out _ _ ⟨_, by simp only [putAll, Act.put, List.setIfInBounds_toArray, List.set_cons_zero, List.set_cons_succ] <;> rfl, h0, h1, h2, h3, h4, h5, h6, fun _ => rfl, h8, h9, h10, h11, h12, h13, h14, hE, hG, hN, hK, e0, e1, e2, e3, e4, e5, e6, Lib.hid (fun _ => rfl), e8, e9, e10, e11, e12, e13, e14⟩
        · obtain rfl := Option.some.inj hi
          refine wpOpIn_step rfl (fun K hK2 => ?_)
          have HKK := Lib.hid hK2; clear hK2
          simp only [putAll, Act.put, List.setIfInBounds_toArray, List.set_cons_zero, List.set_cons_succ]
          go_simp
          exact HKK.out _ _ ⟨_, by simp only [putAll, Act.put, List.setIfInBounds_toArray, List.set_cons_zero, List.set_cons_succ] <;> rfl, h0, h1, h2, h3, h4, h5, h6, h7, fun _ => rfl, h9, h10, h11, h12, h13, h14, hE, hG, hN, hK, e0, e1, e2, e3, e4, e5, e6, e7, Lib.hid (fun _ => rfl), e9, e10, e11, e12, e13, e14⟩
        · obtain rfl := Option.some.inj hi
          have g8 := hall ⟨8, .data⟩ (by simp) rfl
          have d8 := h8 g8
          have ew := (wrap_is _).trans HW1.out.1
          refine wpOpIn_step rfl (fun K hK2 => ?_)
          have HKK := Lib.hid hK2; clear hK2
          simp only [putAll, Act.put, List.setIfInBounds_toArray, List.set_cons_zero, List.set_cons_succ, d8]
          go_simp
          exact HKK.out _ _ ⟨_, by simp only [putAll, Act.put, List.setIfInBounds_toArray, List.set_cons_zero, List.set_cons_succ, d8] <;> rfl, h0, h1, h2, h3, h4, h5, h6, h7, h8, fun _ => rfl, h10, h11, h12, h13, h14, hE, hG, hN, hK, e0, e1, e2, e3, e4, e5, e6, e7, Lib.hid (fun _ => g8), Lib.hid (fun _ => rfl), e10, e11, e12, e13, e14⟩
        · obtain rfl := Option.some.inj hi
          refine wpOpIn_step rfl (fun K hK2 => ?_)
          have HKK := Lib.hid hK2; clear hK2
          simp only [putAll, Act.put, List.setIfInBounds_toArray, List.set_cons_zero, List.set_cons_succ]
          go_simp
          exact HKK.out _ _ ⟨_, by simp only [putAll, Act.put, List.setIfInBounds_toArray, List.set_cons_zero, List.set_cons_succ] <;> rfl, h0, h1, h2, h3, h4, h5, h6, h7, h8, h9, fun _ => rfl, h11, h12, h13, h14, hE, hG, hN, hK, e0, e1, e2, e3, e4, e5, e6, e7, e8, e9, Lib.hid (fun _ => rfl), e11, e12, e13, e14⟩
        · obtain rfl := Option.some.inj hi
          have g10 := hall ⟨10, .data⟩ (by simp) rfl
          have d10 := h10 g10
          have ew := (wrap_is _).trans HW1.out.2
          refine wpOpIn_step rfl (fun K hK2 => ?_)
          have HKK := Lib.hid hK2; clear hK2
          simp only [putAll, Act.put, List.setIfInBounds_toArray, List.set_cons_zero, List.set_cons_succ, d10]
          go_simp
          exact HKK.out _ _ ⟨_, by simp only [putAll, Act.put, List.setIfInBounds_toArray, List.set_cons_zero, List.set_cons_succ, d10] <;> rfl, h0, h1, h2, h3, h4, h5, h6, h7, h8, h9, h10, fun _ => rfl, h12, h13, h14, hE, hG, hN, hK, e0, e1, e2, e3, e4, e5, e6, e7, e8, e9, Lib.hid (fun _ => g10), Lib.hid (fun _ => rfl), e12, e13, e14⟩
        · obtain rfl := Option.some.inj hi
          have g7 := hall ⟨7, .data⟩ (by simp) rfl
          have g9 := hall ⟨9, .data⟩ (by simp) rfl
          have g11 := hall ⟨11, .data⟩ (by simp) rfl
          have d7 := h7 g7
          have d9 := h9 g9
          have d11 := h11 g11
          have q0 : (0 : Int) ≤ (k1 : Int) := by omega
          have q1 : (k1 : Int) ≤ (k5 : Int) := HKN.out.2.1
          have q2 : (k5 : Int) ≤ (c : Int) := HKN.out.2.2.1
          have q3 : ¬ k5 = k1 := HKN.out.2.2.2.1
          have q4 : (k5 : Int) ≤ (n : Int) := HKN.out.2.2.2.2.2
          have q7 : ¬ c = k1 := by have := HKN.out; omega
          refine wpOpIn_step rfl (fun K hK2 => ?_)
          have HKK := Lib.hid hK2; clear hK2
          simp only [putAll, Act.put, List.setIfInBounds_toArray, List.set_cons_zero, List.set_cons_succ, d7, d9, d11]
          go_simp
          exact HKK.out _ _ ⟨_, by simp only [putAll, Act.put, List.setIfInBounds_toArray, List.set_cons_zero, List.set_cons_succ, d7, d9, d11] <;> rfl, h0, h1, h2, h3, h4, h5, h6, h7, h8, h9, h10, h11, fun _ => rfl, h13, h14, hE, hG, hN, hK, e0, e1, e2, e3, e4, e5, e6, Lib.hid (fun _ => g7), e8, Lib.hid (fun _ => g9), e10, Lib.hid (fun _ => g11), Lib.hid (fun _ => rfl), e13, e14⟩
        · obtain rfl := Option.some.inj hi
          have g12 := hall ⟨12, .data⟩ (by simp) rfl
          have d12 := h12 g12
          have hat : ∀ w, (Instr.arrayAt 28 (.slice (some ⟨b, o + k1, none⟩) (k5 - k1) (c - k1))).run Try.prog w = .ok (.pointer (some ⟨b, o + k1, none⟩)) w := fun w => run_arrayAt w 28 _ 4 _ (k5 - k1) (c - k1) Try.underlying28 HKN.out.2.2.2.2.1
          refine wpOpIn_step rfl (fun K hK2 => ?_)
          have HKK := Lib.hid hK2; clear hK2
          simp only [putAll, Act.put, List.setIfInBounds_toArray, List.set_cons_zero, List.set_cons_succ, d12]
          go_simp
          exact HKK.out _ _ ⟨_, by simp only [putAll, Act.put, List.setIfInBounds_toArray, List.set_cons_zero, List.set_cons_succ, d12] <;> rfl, h0, h1, h2, h3, h4, h5, h6, h7, h8, h9, h10, h11, h12, fun _ => rfl, h14, hE, hG, hN, hK, e0, e1, e2, e3, e4, e5, e6, e7, e8, e9, e10, e11, Lib.hid (fun _ => g12), Lib.hid (fun _ => rfl), e14⟩
        · obtain rfl := Option.some.inj hi
          have h15 : b' 15 = false := Bool.eq_false_iff.2 (fun h => absurd (((e14.out h)).symm.trans hun) (by decide))
          have hwr := hE h15
          subst hwr
          have g13 := hall ⟨13, .data⟩ (by simp) rfl
          have d13 := h13 g13
          obtain ⟨c0, c1, c2, c3⟩ := HC.out.2
          refine wpOpIn_step rfl (fun K hK2 => ?_)
          have HKK := Lib.hid hK2; clear hK2
          simp only [putAll, Act.put, List.setIfInBounds_toArray, List.set_cons_zero, List.set_cons_succ, d13]
          go_simp
          exact HKK.out _ _ ⟨_, by simp only [putAll, Act.put, List.setIfInBounds_toArray, List.set_cons_zero, List.set_cons_succ, d13] <;> rfl, h0, h1, h2, h3, h4, h5, h6, h7, h8, h9, h10, h11, h12, h13, fun _ => rfl, hE, hG, hN, hK, e0, e1, e2, e3, e4, e5, e6, e7, e8, e9, e10, e11, e12, Lib.hid (fun _ => g13), Lib.hid (fun _ => rfl)⟩
        · obtain rfl := Option.some.inj hi
          have g0 := hall ⟨0, .data⟩ (by simp) rfl
          have g6 := hall ⟨6, .data⟩ (by simp) rfl
          have g14 := hall ⟨14, .data⟩ (by simp) rfl
          have d0 := h0 g0
          have d6 := h6 g6
          have d14 := h14 g14
          have hwr := hE hun
          subst hwr
          obtain ⟨fn, tmps, assign, body, hy, hR⟩ := HYK.out
          have HR := Lib.hid hR
          clear hR
          refine wpOpIn_step rfl (fun K hK2 => ?_)
          have HKK := Lib.hid hK2; clear hK2
          simp only [putAll, Act.put, List.setIfInBounds_toArray, List.set_cons_zero, List.set_cons_succ, d0, d6, d14]
          go_simp
          refine HR.out.mono ?_
          rintro e B (⟨rfl, hj, hkp⟩ | ⟨rfl, hjx, hkp⟩)
          · exact HKK.out _ _ ⟨_, by simp only [putAll, Act.put, List.setIfInBounds_toArray, List.set_cons_zero, List.set_cons_succ, d0, d6, d14] <;> rfl, h0, h1, h2, h3, h4, h5, h6, h7, h8, h9, h10, h11, h12, h13, h14, fun h => Bool.noConfusion h, fun _ => Lib.hid (.inl ⟨rfl, hj⟩), fun h => absurd (hN h).1 (by rw [show b' 15 = false from hun]; decide), Lib.hid (hK.out.trans hkp), Lib.hid (fun _ => g0), e1, e2, e3, e4, e5, Lib.hid (fun _ => g6), e7, e8, e9, e10, e11, e12, e13, Lib.hid (fun _ => g14)⟩
          · exact HKK.out _ _ ⟨_, by simp only [putAll, Act.put, List.setIfInBounds_toArray, List.set_cons_zero, List.set_cons_succ, d0, d6, d14] <;> rfl, h0, h1, h2, h3, h4, h5, h6, h7, h8, h9, h10, h11, h12, h13, h14, fun h => Bool.noConfusion h, fun _ => Lib.hid (.inr ⟨rfl, hjx⟩), fun h => absurd (hN h).1 (by rw [show b' 15 = false from hun]; decide), Lib.hid (hK.out.trans hkp), Lib.hid (fun _ => g0), e1, e2, e3, e4, e5, Lib.hid (fun _ => g6), e7, e8, e9, e10, e11, e12, e13, Lib.hid (fun _ => g14)⟩
        · obtain rfl := Option.some.inj hi
          have g15 := hall ⟨15, .data⟩ (by simp) rfl
          obtain ⟨x, hx⟩ : ∃ x, vs 15 = .bool x := (hG g15).out.elim (fun h => ⟨_, h.1⟩) (fun h => ⟨_, h.1⟩)
          refine wpOpIn_step rfl (fun K hK2 => ?_)
          have HKK := Lib.hid hK2; clear hK2
          simp only [putAll, Act.put, List.setIfInBounds_toArray, List.set_cons_zero, List.set_cons_succ, hx]
          go_simp
          exact HKK.out _ _ ⟨_, by simp only [putAll, Act.put, List.setIfInBounds_toArray, List.set_cons_zero, List.set_cons_succ, hx] <;> rfl, h0, h1, h2, h3, h4, h5, h6, h7, h8, h9, h10, h11, h12, h13, h14, hE, hG, fun _ => ⟨g15, x, hx, rfl⟩, hK, e0, e1, e2, e3, e4, e5, e6, e7, e8, e9, e10, e11, e12, e13, e14⟩
        · exact absurd hil (by omega)
      · rintro b' vs w' hb ⟨h0, h1, h2, h3, h4, h5, h6, h7, h8, h9, h10, h11, h12, h13, h14, hE, hG, hN, hK, e0, e1, e2, e3, e4, e5, e6, e7, e8, e9, e10, e11, e12, e13, e14⟩
        obtain ⟨_, x, e15, e16⟩ := hN (hb 16 (by decide))
        have G := hG (hb 15 (by decide))
        have HKP : Hid (Keep KS W w') := hw.out.2.trans hK.out
        have v0 := h0 (hb 0 (by decide))
        have v1 := h1 (hb 1 (by decide))
        have v2 := h2 (hb 2 (by decide))
        have v3 := h3 (hb 3 (by decide))
        have v4 := h4 (hb 4 (by decide))
        have v5 := h5 (hb 5 (by decide))
        have v6 := h6 (hb 6 (by decide))
        have v7 := h7 (hb 7 (by decide))
        have v8 := h8 (hb 8 (by decide))
        have v9 := h9 (hb 9 (by decide))
        have v10 := h10 (hb 10 (by decide))
        have v11 := h11 (hb 11 (by decide))
        have v12 := h12 (hb 12 (by decide))
        have v13 := h13 (hb 13 (by decide))
        have v14 := h14 (hb 14 (by decide))
        simp only [putAll, Act.put, List.setIfInBounds_toArray, List.set_cons_zero, List.set_cons_succ, v0, v1, v2, v3, v4, v5, v6, v7, v8, v9, v10, v11, v12, v13, v14, e15, e16]
        clear hb h0 h1 h2 h3 h4 h5 h6 h7 h8 h9 h10 h11 h12 h13 h14 hE hG hN hK e0 e1 e2 e3 e4 e5 e6 e7 e8 e9 e10 e11 e12 e13 e14 e16 v0 v1 v2 v3 v4 v5 v6 v7 v8 v9 v10 v11 v12 v13 v14
        rcases G.out with ⟨e, hj⟩ | ⟨e, hj⟩
        · cases e.symm.trans e15
          have HJ1 := Lib.hid hj
          have hkb : k ≤ 70000 := by have := HKN.out; have := HNC.out; omega
          clear hj e e15 G
          gi_wp2
          exact ⟨⟨k + 5, by have := HKN.out; have := HKE.out; omega, by go_num, HJ1.out, HKP.out⟩, by have := HKE.out; have := HKN.out; simp [intOf]; omega⟩
        · cases e.symm.trans e15
          have HJ1 := Lib.hid hj
          clear hj e e15 G
          gi_wp2
          refine bodyPost_ret (results_none rfl _ _ _) rfl ?_
          exact ⟨⟨_, rfl⟩, .inr HJ1.out⟩
    · have hd : decide ((k5 : Int) ≤ (n : Int)) = false := by simp; omega
      have hnn : ¬ (k5 : Int) ≤ (n : Int) := by omega
      have HNO : Hid (¬ k + 5 ≤ n) := by unfold Hid; omega
      clear hk hn hk5 hlt
      gi_wp2
      go_end0
      exact ⟨⟨_, rfl⟩, .inl ⟨k, by have := HNO.out; omega, hw.out.1⟩⟩
end Go.Proofs.Ytoppmlfibllhlaa
