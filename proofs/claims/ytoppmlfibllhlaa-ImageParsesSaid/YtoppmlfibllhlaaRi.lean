/- Layer 11: package image's runs: what is yielded. -/
import Derived.Test.YtoppmlfibllhlaaRh
import Derived.Test.YtoppmlfibllhlaaKc
import Derived.Sort.QuietIn
namespace Go.Proofs.Ytoppmlfibllhlaa
open Go.RowKit Go.Shelf
attribute [local go_sem] Oper.semAt_some
theorem Keep.drewN (S : Nat → Prop) (w : World) (n : Nat) : Keep S w (w.drewN n) := ⟨rfl, rfl, rfl, Nat.le_refl _, fun _ _ _ => rfl⟩
theorem runLen_from1 {l : List Col} {i : Nat} (h : i < l.length) : runLen l i = runTo l i 256 1 := by
  have e0 : runTo l i (256 + 1) 0 = if 0 < 256 ∧ i + 0 < l.length ∧ eqC (cAt l (i + 0)) (cAt l i) = true then runTo l i 256 (0 + 1) else 0 := rfl
  exact e0.trans (if_pos ⟨by omega, by omega, by rw [Nat.add_zero]; exact eqC_self _⟩)
theorem runTo_go {l : List Col} {i f n : Nat} (h : n < 256 ∧ i + n < l.length ∧ eqC (cAt l (i + n)) (cAt l i) = true) : runTo l i (f + 1) n = runTo l i f (n + 1) := by
  rw [runTo, if_pos h]
theorem runTo_stop {l : List Col} {i n : Nat} (h : ¬ (n < 256 ∧ i + n < l.length ∧ eqC (cAt l (i + n)) (cAt l i) = true)) : ∀ f, runTo l i f n = n
  | 0 => rfl
  | f + 1 => by rw [runTo, if_neg h]
theorem runs_c (ao : Option Addr) (n c : Nat) (w : World) : Calls Try.prog 47 #[.slice ao n c] w fun e w' => e = .returned (.func (.func 64) #[] #[.pointer (some ⟨w.heap.size, 0, none⟩)]) ∧ w.alloc (.cells #[.slice ao n c] 22) = w' := by
  go_enter Try.func47, Try.ntmps47
  go_wp2
  go_ret
  exact ⟨rfl, rfl⟩
theorem ColsAt.keep {ik : IntKind} {S : Nat → Prop} {w w' : World} {b o : Nat} {l : List Col} (h : ColsAt ik w b o l) (hk : Keep S w w') (hs : S b) (hl : b < w.heap.size) : ColsAt ik w' b o l := fun i p hp => by
  obtain ⟨h0, h1, h2, h3⟩ := h i p hp
  exact ⟨(hk.cell hs hl).trans h0, (hk.cell hs hl).trans h1, (hk.cell hs hl).trans h2, (hk.cell hs hl).trans h3⟩
set_option maxHeartbeats 4000000 in
set_option maxRecDepth 100000 in
theorem runs1_c (bx : Nat) (KS : Nat → Prop) (l : List Col) (b o n c : Nat) (hl : l.length = n) (hl2 : n ≤ 70000) (W : World) (hbl : bx < W.heap.size) (hbs : KS bx)
    (hbx : W.cell? ⟨bx, 0, none⟩ = some (.slice (some ⟨b, o, none⟩) n c)) (hkb : KS b) (hblt : b < W.heap.size) (hrow : ColsAt .u8 W b o l) :
    YieldsAll 64 (.pointer (some ⟨bx, 0, none⟩)) KS (fun i => i < n) (fun i => ((runLen l i : Int), cAt l i)) (fun i => i + runLen l i) W := by
  intro L J Jx hJ hY h0
  have HJ := Lib.hid hJ
  have HY := Lib.hid hY
  have HROW := Lib.hid (And.intro hkb (And.intro hblt hrow))
  have HL := Lib.hid hl
  have HL2 := Lib.hid hl2
  have H0 := Lib.hid h0
  have HB := Lib.hid (And.intro hbl hbs)
  have HBX := Lib.hid hbx
  clear h0 hY hrow hl hJ hbs hbl hkb hblt
  refine callsIn_of_wp Try.func64 rfl trivial ?_ rfl
  simp only [Try.ntmps64, List.size_toArray, List.length_cons, List.length_nil, Nat.reduceAdd, Nat.reduceSub, Array.replicate_succ, Array.replicate_zero, List.push_toArray, List.append_toArray, List.nil_append, List.cons_append]
  gi_wp2
  clear hbx
  gi_loopw [3] (fun i wr => ∃ k : Nat, k ≤ n ∧ i = .int .i64 k ∧ Hid (J k wr ∧ Keep KS W wr)) (fun i _ => n - (intOf i).toNat)
  case atStart =>
    exact ⟨0, by omega, rfl, H0.out, Keep.refl _ _⟩
  case round =>
    obtain ⟨k, hk, rfl, hw⟩ := hrel
    have hb1 : wr.cell? ⟨bx, 0, none⟩ = some (.slice (some ⟨b, o, none⟩) n c) := by rw [hw.out.2.cell HB.out.2 HB.out.1]; exact HBX.out
    by_cases hlt : k < n
    · have hd : decide ((k : Int) < (n : Int)) = true := by simp; omega
      have HLT := Lib.hid hlt
      obtain ⟨w1, hw1⟩ : ∃ x, x = wr := ⟨_, rfl⟩
      rw [← hw1] at hw hb1 ⊢
      clear hw1
      obtain ⟨rl, hrl⟩ : ∃ r, runLen l k = r := ⟨_, rfl⟩
      have HRL := Lib.hid hrl
      have HRI : Hid (1 ≤ rl ∧ rl ≤ 256 ∧ k + rl ≤ n) := by
        have := runLen_in (l := l) (i := k) (by rw [HL.out]; exact hlt)
        rw [hrl, HL.out] at this; exact this
      obtain ⟨p, hp⟩ : ∃ p, cAt l k = p := ⟨_, rfl⟩
      have HP := Lib.hid hp
      have hpq : l[k]? = some p := by rw [← hp]; exact cAt_some (by rw [HL.out]; exact hlt)
      have HS : Hid (∀ A, Keep KS w1 A → A.cell? ⟨bx, 0, none⟩ = some (.slice (some ⟨b, o, none⟩) n c) ∧ ColsAt .u8 A b o l) := fun A hA => ⟨by rw [hA.cell HB.out.2 (Nat.lt_of_lt_of_le HB.out.1 hw.out.2.size)]; exact hb1, (HROW.out.2.2.keep hw.out.2 HROW.out.1 HROW.out.2.1).keep hA HROW.out.1 (Nat.lt_of_lt_of_le HROW.out.2.1 hw.out.2.size)⟩
      have HPQ := Lib.hid hpq
      clear hrl hp hpq
      gi_wp2
      gi_loopw [4] (fun i wr => ∃ j : Nat, 1 ≤ j ∧ j ≤ 256 ∧ k + j ≤ n ∧ i = .int .i64 j ∧ Hid (runTo l k (257 - j) j = rl ∧ Keep (fun _ => True) w1 wr)) (fun i _ => 256 - (intOf i).toNat)
      case atStart =>
        exact ⟨1, by omega, by omega, by omega, rfl, by rw [← HRL.out, runLen_from1 (by rw [HL.out]; exact hlt)], Keep.refl _ _⟩
      case round =>
        obtain ⟨j, hj1, hj2, hj3, rfl, hv⟩ := hrel
        obtain ⟨hb2, hcs⟩ := HS.out wr (hv.out.2.mono fun _ _ => trivial)
        have hl2 := HL2.out
        have e1 : wrap64 ((k : Int) + (j : Int)) = ((k + j : Nat) : Int) := by rw [wrapR _ (by omega) (by omega)]; omega
        obtain ⟨kj, hkj⟩ : ∃ x, k + j = x := ⟨_, rfl⟩
        rw [hkj] at e1 hj3
        have HKJ := Lib.hid hkj
        have e1' := (wrap_is _).trans e1
        have HJJ := Lib.hid (And.intro hj1 hj2)
        by_cases hg : j < 256 ∧ kj < n
        · have d1 : decide ((j : Int) < 256) = true := by simp; omega
          have d2 : decide ((kj : Int) < (n : Int)) = true := by simp; omega
          obtain ⟨q, hq⟩ : ∃ q, cAt l kj = q := ⟨_, rfl⟩
          obtain ⟨c1, c2, c3, c4⟩ := hcs k p HPQ.out
          obtain ⟨d1', d2', d3', d4'⟩ := hcs kj q (by rw [← hq]; exact cAt_some (by rw [HL.out]; exact hg.2))
          obtain ⟨r, hr⟩ : ∃ r, eqC q p = r := ⟨_, rfl⟩
          have q8 := equal8 q p
          rw [hr] at q8
          have HR : Hid (eqC (cAt l (k + j)) (cAt l k) = r) := by unfold Hid; rw [HKJ.out, HP.out, hq, hr]
          have HG := Lib.hid hg
          have hlk : (k : Int) < (n : Int) := by omega
          have hlj : (kj : Int) < (n : Int) := by omega
          have p0 : (0 : Int) ≤ (k : Int) := by omega
          have p1 : (0 : Int) ≤ (kj : Int) := by omega
          clear hcs hq hr hkj hg
          cases r
          · have HRJ : Hid (j = rl) := by unfold Hid; rw [← hv.out.1]; exact (runTo_stop (fun h => by have := h.2.2; rw [HR.out] at this; cases this) _).symm
            gi_wp2
            gi_quiet (fail)
            clear c1 c2 c3 c4 d1' d2' d3' d4' hb2 q8
            obtain ⟨w2, hw2⟩ : ∃ WW, World.drewN wr nq = WW := ⟨_, rfl⟩
            have K2 : Hid (Keep (fun _ => True) w1 w2) := by rw [← hw2]; exact hv.out.2.trans (Keep.drewN _ _ _)
            rw [hw2]
            clear hw2
            obtain ⟨hb3, hcs3⟩ := HS.out w2 (K2.out.mono fun _ _ => trivial)
            obtain ⟨x1, x2, x3, x4⟩ := hcs3 k p HPQ.out
            obtain ⟨fn, tmps, assign, body, hy, hR⟩ := HY.out k w2 HLT.out (HJ.out _ _ _ hw.out.1 K2.out) (Nat.le_trans hw.out.2.size K2.out.size)
            have hjj : k + runLen l k = kj := by rw [HRL.out, ← HRJ.out, HKJ.out]
            simp only [pairArgs, HRL.out, ← HRJ.out, HP.out] at hy
            have HR2 := Lib.hid hR
            have HJJ2 := Lib.hid hjj
            have hlk : (k : Int) < (n : Int) := by have := HLT.out; omega
            have p0 : (0 : Int) ≤ (k : Int) := by omega
            clear hR hjj hcs3
            gi_wp2
            refine HR2.out.mono ?_
            rintro e B (⟨rfl, hj, hkp⟩ | ⟨rfl, hjx, hkp⟩)
            · have HJ1 : Hid (J kj B) := by unfold Hid; rw [← HJJ2.out]; exact hj
              have KB := Lib.hid hkp
              clear hj hkp hy
              gi_wp2
              exact ⟨⟨kj, by have := HKJ.out; omega, rfl, HJ1.out, (hw.out.2.trans (K2.out.mono fun _ _ => trivial)).trans KB.out⟩, by have := HKJ.out; have := HJJ.out; have := HLT.out; simp [intOf]; omega⟩
            · have HX := Lib.hid hjx
              clear hjx hkp hy
              gi_wp2
              refine bodyPost_ret (results_none rfl _ _ _) rfl ?_
              exact ⟨⟨_, rfl⟩, .inr HX.out⟩
          · gi_wp2
            gi_quiet (fail)
            gi_wp2
            have hg := HG.out
            have h1 := HKJ.out
            refine ⟨⟨j + 1, by omega, by omega, by omega, by go_num, ?_, hv.out.2.trans (Keep.drewN _ _ _)⟩, by simp [intOf]; omega⟩
            rw [← hv.out.1, show 257 - j = (257 - (j + 1)) + 1 by omega]
            exact (runTo_go ⟨hg.1, by rw [h1, HL.out]; exact hg.2, HR.out⟩).symm
        · clear hcs
          by_cases hg1 : j < 256
          · have d1 : decide ((j : Int) < 256) = true := by simp; omega
            have d2 : decide ((kj : Int) < (n : Int)) = false := by simp; omega
            have HRJ : Hid (j = rl) := by unfold Hid; rw [← hv.out.1]; exact (runTo_stop (fun h => hg ⟨h.1, by rw [← HKJ.out, ← HL.out]; exact h.2.1⟩) _).symm
            have hnn : ¬ kj < n := fun h => hg ⟨hg1, h⟩
            have d3 : decide (kj < n) = false := by simpa using hnn
            clear hg hg1 hkj
            gi_wp2
            gi_quiet (fail)
            clear hb2
            obtain ⟨w2, hw2⟩ : ∃ WW, World.drewN wr nq = WW := ⟨_, rfl⟩
            have K2 : Hid (Keep (fun _ => True) w1 w2) := by rw [← hw2]; exact hv.out.2.trans (Keep.drewN _ _ _)
            rw [hw2]
            clear hw2
            obtain ⟨hb3, hcs3⟩ := HS.out w2 (K2.out.mono fun _ _ => trivial)
            obtain ⟨x1, x2, x3, x4⟩ := hcs3 k p HPQ.out
            obtain ⟨fn, tmps, assign, body, hy, hR⟩ := HY.out k w2 HLT.out (HJ.out _ _ _ hw.out.1 K2.out) (Nat.le_trans hw.out.2.size K2.out.size)
            have hjj : k + runLen l k = kj := by rw [HRL.out, ← HRJ.out, HKJ.out]
            simp only [pairArgs, HRL.out, ← HRJ.out, HP.out] at hy
            have HR2 := Lib.hid hR
            have HJJ2 := Lib.hid hjj
            have hlk : (k : Int) < (n : Int) := by have := HLT.out; omega
            have p0 : (0 : Int) ≤ (k : Int) := by omega
            clear hR hjj hcs3
            gi_wp2
            refine HR2.out.mono ?_
            rintro e B (⟨rfl, hj, hkp⟩ | ⟨rfl, hjx, hkp⟩)
            · have HJ1 : Hid (J kj B) := by unfold Hid; rw [← HJJ2.out]; exact hj
              have KB := Lib.hid hkp
              clear hj hkp hy
              gi_wp2
              exact ⟨⟨kj, by have := HKJ.out; omega, rfl, HJ1.out, (hw.out.2.trans (K2.out.mono fun _ _ => trivial)).trans KB.out⟩, by have := HKJ.out; have := HJJ.out; have := HLT.out; simp [intOf]; omega⟩
            · have HX := Lib.hid hjx
              clear hjx hkp hy
              gi_wp2
              refine bodyPost_ret (results_none rfl _ _ _) rfl ?_
              exact ⟨⟨_, rfl⟩, .inr HX.out⟩
          · have d1 : decide ((j : Int) < 256) = false := by simp; omega
            have HRJ : Hid (j = rl) := by unfold Hid; rw [← hv.out.1]; exact (runTo_stop (fun h => hg1 h.1) _).symm
            clear hg hg1 hkj
            gi_wp2
            gi_quiet (fail)
            clear hb2
            obtain ⟨w2, hw2⟩ : ∃ WW, World.drewN wr nq = WW := ⟨_, rfl⟩
            have K2 : Hid (Keep (fun _ => True) w1 w2) := by rw [← hw2]; exact hv.out.2.trans (Keep.drewN _ _ _)
            rw [hw2]
            clear hw2
            obtain ⟨hb3, hcs3⟩ := HS.out w2 (K2.out.mono fun _ _ => trivial)
            obtain ⟨x1, x2, x3, x4⟩ := hcs3 k p HPQ.out
            obtain ⟨fn, tmps, assign, body, hy, hR⟩ := HY.out k w2 HLT.out (HJ.out _ _ _ hw.out.1 K2.out) (Nat.le_trans hw.out.2.size K2.out.size)
            have hjj : k + runLen l k = kj := by rw [HRL.out, ← HRJ.out, HKJ.out]
            simp only [pairArgs, HRL.out, ← HRJ.out, HP.out] at hy
            have HR2 := Lib.hid hR
            have HJJ2 := Lib.hid hjj
            have hlk : (k : Int) < (n : Int) := by have := HLT.out; omega
            have p0 : (0 : Int) ≤ (k : Int) := by omega
            clear hR hjj hcs3
            gi_wp2
            refine HR2.out.mono ?_
            rintro e B (⟨rfl, hj, hkp⟩ | ⟨rfl, hjx, hkp⟩)
            · have HJ1 : Hid (J kj B) := by unfold Hid; rw [← HJJ2.out]; exact hj
              have KB := Lib.hid hkp
              clear hj hkp hy
              gi_wp2
              exact ⟨⟨kj, by have := HKJ.out; omega, rfl, HJ1.out, (hw.out.2.trans (K2.out.mono fun _ _ => trivial)).trans KB.out⟩, by have := HKJ.out; have := HJJ.out; have := HLT.out; simp [intOf]; omega⟩
            · have HX := Lib.hid hjx
              clear hjx hkp hy
              gi_wp2
              refine bodyPost_ret (results_none rfl _ _ _) rfl ?_
              exact ⟨⟨_, rfl⟩, .inr HX.out⟩
    · have hd : decide ((k : Int) < (n : Int)) = false := by simp; omega
      have hkn : Hid (k = n) := by unfold Hid; omega
      gi_wp2
      go_end0
      exact ⟨⟨_, rfl⟩, .inl ⟨k, hlt, hw.out.1⟩⟩
end Go.Proofs.Ytoppmlfibllhlaa
