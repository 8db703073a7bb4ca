/- Layer 6: the document's Flat. -/
import Derived.Test.YtffgpikhahpomaaDoorSn
import Derived.Test.YtffgpikhahpomaaDoorSl
import Derived.Test.YtffgpikhahpomaaDoorY
namespace Go.Proofs.YtffgpikhahpomaaDoor
open Go.RowKit
structure RfI (w : World) (d : Nat) (l : List Sg) (k : Nat) (u : Value) (S : List Sb) (A : World) : Prop where
  below : Below w.heap.size w A
  size : w.heap.size ≤ A.heap.size
  subs : SubsAt A w.heap.size 42 45 u S
  fold : subsI d l = foldI d (aheadL l k) (l.drop k) (S.map Sb.plain)
  one : 0 < k → S ≠ []
  few : ∀ (i : Nat) (x : Sb), S[i]? = some x → x.L.length ≤ 64 * k
  len : S.length ≤ k
theorem subs_cells' {w : World} {base g cap n : Nat} {tS tP : TypeId} {S : List Sb} (h : SubsAt w base tS tP (.slice (some ⟨g, 0, none⟩) n cap) S) {m : Nat} {x : Sb} (hx : S[m]? = some x) : w.cell? ⟨g, m * 2, none⟩ = some x.v ∧ w.cell? ⟨g, m * 2 + 1, none⟩ = some (.bool x.c) := by
  obtain ⟨e0, e1⟩ := cellsB_at S m x hx
  have h0 := h.row.cells (g := g) rfl _ _ e0
  have h1 := h.row.cells (g := g) rfl _ _ e1
  rw [Addr.add_lit, Nat.zero_add] at h0 h1
  exact ⟨h0, h1⟩
theorem infoSubR : (Tryd.prog.info? 42).map (fun i => (i.zero, i.size, i.bytes)) = some (some (.agg #[.slice none 0 0, .bool false]), 2, 32) := by kernel_rfl
set_option maxHeartbeats 8000000 in
set_option maxRecDepth 100000 in
theorem rflat_walk (b o c N d : Nat) (l : List Sg) (w : World) (hn : l.length = N) (hN : N ≤ 60) (hb : b < w.heap.size) (hs : SegsAt w b o l) (hd : d ≤ 6) (hg : Good l) :
    Calls Tryd.prog 17 #[.slice (some ⟨b, o, none⟩) N c, .int .i64 (d : Int)] w fun e w' => ∃ u S, e = .returned u ∧ SubsAt w' w.heap.size 42 45 u S ∧ S.map Sb.plain = subsI d l ∧ Below w.heap.size w w' := by
  have HNL := Lib.hid hn
  have HNN := Lib.hid hN
  have HB := Lib.hid hb
  have HS := Lib.hid hs
  have HD := Lib.hid hd
  have HGOOD := Lib.hid hg
  obtain ⟨i0, hi, hz0, hz1, hz2⟩ := info_parts infoSubR
  have Hi := Lib.hid hi; have Hz0 := Lib.hid hz0; have Hz1 := Lib.hid hz1; have Hz2 := Lib.hid hz2
  clear hn hN hb hs hd hg hi hz0 hz1 hz2
  go_enter Tryd.func17, Tryd.ntmps17
  go_wp2_with fail
  go_loopw [5, 6] (fun u i wr => ∃ k : Nat, k ≤ N ∧ i = .int .i64 k ∧ Hid (∃ S, RfI w d l k u S wr)) (fun _ i _ => N - (intOf i).toNat)
  case atStart => exact ⟨0, by omega, rfl, ⟨[], Below.refl _ _, Nat.le_refl _, SubsAt.nil _ _ _ _, rfl, fun h => absurd h (by omega), fun i x h => (by cases h), Nat.le_refl _⟩⟩
  case round =>
    obtain ⟨K, hk, rfl, S, hw⟩ := hrel
    obtain ⟨w2, rfl⟩ : ∃ x, x = wr := ⟨_, rfl⟩
    by_cases hlt : K < N
    · have hd3 : decide ((K : Int) < (N : Int)) = true := decide_eq_true (by omega)
      have hNN := HNN.out
      have hwK : wrap64 ((K : Int) + 1) = ((K + 1 : Nat) : Int) := by rw [wrapR _ (by omega) (by omega)]; omega
      obtain ⟨s, hq⟩ : ∃ s, l[K]? = some s := ⟨_, List.getElem?_eq_getElem (by rw [HNL.out]; exact hlt)⟩
      obtain ⟨x, hx⟩ : ∃ x, aheadL l K = x := ⟨_, rfl⟩
      have hs' := HS.out.on hw.below HB.out
      have c0 := hs'.c0 hq
      have c1 := hs'.c1 hq
      have c2 := hs'.c2 hq
      have c3 := hs'.c3 hq
      have c4 := hs'.c4 hq
      have c5 := hs'.c5 hq
      have c6 := hs'.c6 hq
      have HQ := Lib.hid hq
      have HX := Lib.hid hx
      have HW := Lib.hid hw
      have HFO := Lib.hid (show _ ∧ _ ∧ _ from ⟨hw.fold, hw.few, hw.len⟩)
      have FN : Hid (Fine x s) := hx ▸ fine_of (HGOOD.out K s hq)
      have FX : Hid (s.k ≠ 1 → 0 < K ∧ l[K - 1]? = some x ∧ 1 ≤ needI x.k ∧ roomP (endI x) = true) := fun h1 => by
        have h5 := FN.out.ahead h1
        cases K with
        | zero => exact absurd (by rw [← HX.out]; rfl) h5
        | succ j =>
          obtain ⟨z, hzz⟩ : ∃ z, l[j]? = some z := ⟨_, List.getElem?_eq_getElem (by have := (List.getElem?_eq_some_iff.1 HQ.out).1; omega)⟩
          have e : z = x := by rw [← HX.out]; exact (aheadL_succ hzz).symm
          have fz := fine_of (HGOOD.out j z hzz)
          rw [e] at fz hzz
          have hp := need_pos fz.kind h5
          exact ⟨by omega, hzz, hp, fz.room _ (endI_mem hp)⟩
      clear hq hx hs' hw
      by_cases h1 : s.k = 1
      · have e1 : (s.k == 1) = true := by simpa using h1
        have HADDI : Hid (addI d x s ([], false) = ([s.p], false)) := by unfold Hid; simp [addI, h1, endI, needI, Sg.pts]
        have T2 : Hid ((S ++ [(⟨.slice none 0 0, [], false⟩ : Sb)]).map Sb.plain = if s.k = 1 then S.map Sb.plain ++ [([], false)] else S.map Sb.plain) := by unfold Hid; rw [if_pos h1]; simp [Sb.plain]
        clear h1
        obtain ⟨a, cu, hu⟩ := subs_shape HW.out.subs
        subst hu
        obtain ⟨q, hq⟩ : ∃ q, S.length = q := ⟨_, rfl⟩
        have HLQ := Lib.hid hq
        obtain ⟨w3, hw3⟩ : ∃ w3, ((w2.alloc (.cells s.cells 60)).alloc (.cells (two s.p) 45)).alloc (.cells #[.slice (some ⟨w2.heap.size + 1, 0, none⟩) 1 1, .bool false] 42) = w3 := ⟨_, rfl⟩
        have HW3 := Lib.hid hw3
        have W3 : Hid (Below w2.heap.size w2 w3 ∧ Own w3 w.heap.size 45 (.slice (some ⟨w2.heap.size + 1, 0, none⟩) 1 1) [s.p] ∧ Blk w3 (w2.heap.size + 2) 42 #[.slice (some ⟨w2.heap.size + 1, 0, none⟩) 1 1, .bool false] ∧ w3.heap.size = w2.heap.size + 3) := by
          rw [← hw3]
          refine ⟨(((Below.refl _ _).alloc (Nat.le_refl _) _).alloc (by simp) _).alloc (by simp; omega) _, ?_, Blk.newAt _ _ _ (by simp), by simp⟩
          have h := Own.made (w2.alloc (.cells s.cells 60)) (base := w.heap.size) (by have := HW.out.size; simp; omega) 45 [s.p] (two s.p) 1 rfl rfl (by decide)
          rw [World.size_alloc] at h
          exact h.grow ((Below.refl _ _).alloc (Nat.le_refl _) _)
        have S3 : Hid (SubsAt w3 w.heap.size 42 45 (.slice a q cu) S) := by have h := HW.out.subs.grow W3.out.1; rw [hq] at h; exact h
        clear hw3
        rw [hq]
        clear hq
        have O3 : Hid (w3.ownsRow w.heap.size 42 2 (.slice a q cu) q (cellsB S)) := by have h := S3.out.row; rw [HLQ.out] at h; exact h
        go_wp2_with (at_builtin; refine wpList_append_own _ rfl _ _ 35 rfl w.heap.size 42 i0 (.agg #[.slice none 0 0, .bool false]) 2 32 Tryd.underlying35 Hi.out Hz0.out Hz1.out Hz2.out rfl (by decide) _ _ _ rfl (HW3.out.symm ▸ O3.out) ⟨w2.heap.size + 2, 0, none⟩ 1 1 [.slice (some ⟨w2.heap.size + 1, 0, none⟩) 1 1, .bool false] rfl rfl ?c1 ?c2 ?c3 ?c4 ?c5 ?_)
        case c1 =>
          intro j v hj
          simp only [Addr.add_lit, Nat.zero_add]
          exact (HW3.out.symm ▸ (W3.out.2.2.1.cell j).trans (by simpa using hj))
        case c2 => intro v hv; simp at hv; rcases hv with rfl | rfl <;> rfl
        case c3 => have := HW.out.len; have := HLQ.out; unfold maxLen; omega
        case c4 => have := HW.out.len; have := HLQ.out; omega
        case c5 => have := HW.out.size; simp; omega
        intro v' w5 hown hgrow _
        have hgr : w3.grownBy w5 (Value.slice a q cu).ownBlock := HW3.out ▸ hgrow
        have S5 := SubsAt.push S3.out (by decide) W3.out.2.1 (fun i y hy => by
          cases hyb : y.v.ownBlock with
          | none => exact .inl hyb
          | some j =>
            right
            rw [hyb]
            have h1 := (Own.lt (HW.out.subs.own i y hy) j hyb).2
            simp [Value.ownBlock]; omega) hgr (by rw [HLQ.out]; exact hown)
        have BN : Hid (Below w.heap.size w w5 ∧ w.heap.size ≤ w5.heap.size) := by
          have h1 : Below w.heap.size w w3 := HW.out.below.trans (W3.out.1.mono HW.out.size)
          have h2 : w.heap.size ≤ w3.heap.size := Nat.le_trans HW.out.size W3.out.1.size
          exact ⟨h1.grown hgr h2 (fun k e => (S3.out.row.lt k e).1), Nat.le_trans h2 hgr.size⟩
        have FN2 := fold_next (m := q) (y := ⟨.slice none 0 0, [], false⟩) (y' := ⟨.slice (some ⟨w2.heap.size + 1, 0, none⟩) 1 1, [s.p], false⟩) HFO.out.1 HFO.out.2.1 HFO.out.2.2 HD.out HQ.out HX.out T2.out (by simp [HLQ.out]) (by rw [← HLQ.out]; simp) (by rw [show Sb.plain ⟨.slice none 0 0, [], false⟩ = (([] : List Pt), false) from rfl, HADDI.out]; rfl)
        have e2 : (S ++ [(⟨.slice none 0 0, [], false⟩ : Sb)]).set q ⟨.slice (some ⟨w2.heap.size + 1, 0, none⟩) 1 1, [s.p], false⟩ = S ++ [⟨.slice (some ⟨w2.heap.size + 1, 0, none⟩) 1 1, [s.p], false⟩] := by rw [← HLQ.out]; simp
        rw [e2] at FN2
        have RR : Hid (∃ S, RfI w d l (K + 1) v' S w5) := ⟨_, BN.out.1, BN.out.2, S5, FN2.1, fun _ => FN2.2.1, FN2.2.2.1, FN2.2.2.2⟩
        clear hown hgrow hgr S5 FN2 e2
        go_wp2_with fail
        exact ⟨⟨K + 1, by omega, by simp, RR.out⟩, by simp [intOf]; omega⟩
      · have e1 : (s.k == 1) = false := by simpa using h1
        have H1 := Lib.hid h1
        obtain ⟨hk0, hqx, hpx, hrx⟩ := FX.out h1
        have HPX := Lib.hid (show l[K - 1]? = some x ∧ 1 ≤ needI x.k ∧ roomP (endI x) = true from ⟨hqx, hpx, hrx⟩)
        have hne := HW.out.one hk0
        have HK0 := Lib.hid hk0
        clear h1 hk0 hqx hpx hrx
        obtain ⟨a, cap, hu⟩ := subs_shape HW.out.subs
        subst hu
        obtain ⟨g, rfl, hg1, hg2, _⟩ := subs_addr HW.out.subs hne
        obtain ⟨m, hm⟩ : ∃ m, S.length = m + 1 := ⟨S.length - 1, by have h := List.length_pos_iff.2 hne; omega⟩
        obtain ⟨y, hy⟩ : ∃ y, S[m]? = some y := ⟨_, List.getElem?_eq_getElem (by omega)⟩
        obtain ⟨M, hM⟩ : ∃ M, S.length = M := ⟨_, rfl⟩
        have HMl := Lib.hid hM
        have HLT : Hid (m < M) := by unfold Hid; omega
        have HGm : Hid (w.heap.size ≤ g) := hg1
        have T2 : Hid (S.map Sb.plain = if s.k = 1 then S.map Sb.plain ++ [([], false)] else S.map Sb.plain) := by unfold Hid; rw [if_neg H1.out]
        have T4 : Hid (S.length = m + 1 ∧ S[m]? = some y) := ⟨hm, hy⟩
        have hM60 : M ≤ 1000 := by have h1 := HW.out.len; omega
        have hw1 : wrap64 ((M : Int) - 1) = (m : Int) := by rw [wrapR _ (by omega) (by omega)]; omega
        have S2 : Hid (SubsAt w2 w.heap.size 42 45 (.slice (some ⟨g, 0, none⟩) M cap) S) := by have h := HW.out.subs; rw [hM] at h; exact h
        obtain ⟨cg0, cg1⟩ := subs_cells' S2.out hy
        have fz : ∀ i, w2.frozen? ⟨g, i, none⟩ = false := fun i => by
          obtain ⟨_, ⟨e, _⟩ | ⟨g', cap', cur, e, _, hgg, _⟩⟩ := S2.out.row
          · cases e
          · cases e; exact Joins.unfrozen_of_block hgg i
        have ho := S2.out.own m y hy
        have HG2 : Hid (y.v.ownBlock ≠ some g) := by
          rcases apart_types ho S2.out.row (by decide) with h | h
          · unfold Hid; rw [h]; simp
          · unfold Hid; simpa [Value.ownBlock] using h
        have HV := Lib.hid (own_shape' ho)
        have HL : Hid (y.L.length ≤ 90000) := by have h1 := HFO.out.2.1 m y hy; unfold Hid; omega
        obtain ⟨wA, hwA⟩ : ∃ wA, w2.alloc (.cells s.cells 60) = wA := ⟨_, rfl⟩
        have BA2 : Hid (Below w2.heap.size w2 wA) := by rw [← hwA]; exact (Below.refl _ _).alloc (Nat.le_refl _) _
        obtain ⟨gb, hgb⟩ : ∃ gb, w2.heap.size = gb := ⟨_, rfl⟩
        have KB : Hid (Blk wA gb 60 s.cells) := by rw [← hwA, ← hgb]; exact Blk.new _ _ _
        have SA : Hid (SubsAt wA w.heap.size 42 45 (.slice (some ⟨g, 0, none⟩) S.length cap) S) := by rw [hM]; exact S2.out.grow BA2.out
        have HG : Hid (g < wA.heap.size ∧ wA.cell? ⟨g, m * 2, none⟩ = some y.v) := ⟨Nat.lt_of_lt_of_le hg2 BA2.out.size, (cell_below BA2.out hg2).trans cg0⟩
        have HF : Hid (wA.frozen? ⟨g, m * 2, none⟩ = false) := (World.frozen?_of_block (BA2.out.block g hg2)).trans (fz _)
        have HOWN : Hid (Own wA w.heap.size 45 y.v y.L) := ho.grow BA2.out
        have BA : Hid (Below w.heap.size w wA ∧ w.heap.size ≤ wA.heap.size) := ⟨HW.out.below.trans (BA2.out.mono HW.out.size), Nat.le_trans HW.out.size BA2.out.size⟩
        have HBASE : Hid (w.heap.size ≤ wA.heap.size) := BA.out.2
        have HWA := Lib.hid hwA
        have HGB := Lib.hid hgb
        have HYP : Hid (y.plain = (y.L, y.c)) := rfl
        have hmM := HLT.out
        rw [hM]
        clear hm hM hM60 hwA hg1 hne ho hgb
        by_cases h5 : s.k = 5
        · have e5 : (s.k == 5) = true := by simpa using h5
          have HADDI : Hid (addI d x s y.plain = (y.L, true)) := by unfold Hid; simp [addI, h5, Sb.plain]
          clear h5 cg0 hwK
          have f5 := fz (m * 2 + 1)
          have S5 : Hid (SubsAt ((w2.setCell ⟨g, m * 2 + 1, none⟩ (.bool true)).alloc (.cells s.cells 60)) w.heap.size 42 45 (.slice (some ⟨g, 0, none⟩) M cap) (S.set m ⟨y.v, y.L, true⟩)) := by
            have h := SubsAt.shut (w := w2) (w' := (w2.setCell ⟨g, m * 2 + 1, none⟩ (.bool true)).alloc (.cells s.cells 60)) (by rw [HMl.out]; exact S2.out) (by decide) hy ((Below.refl _ _).alloc (by simp [World.setCell]) _)
            rw [List.length_set, HMl.out] at h
            exact h
          have BN : Hid (Below w.heap.size w ((w2.setCell ⟨g, m * 2 + 1, none⟩ (.bool true)).alloc (.cells s.cells 60)) ∧ w.heap.size ≤ ((w2.setCell ⟨g, m * 2 + 1, none⟩ (.bool true)).alloc (.cells s.cells 60)).heap.size) :=
            ⟨(HW.out.below.setCell HGm.out _).alloc (by have := HW.out.size; simpa [World.setCell] using this) _, by have := HW.out.size; simp [World.setCell]; omega⟩
          have FN2 := Lib.hid (fold_next HFO.out.1 HFO.out.2.1 HFO.out.2.2 HD.out HQ.out HX.out T2.out T4.out.1 T4.out.2 (y' := ⟨y.v, y.L, true⟩) (by rw [HADDI.out]; rfl))
          have hwK : wrap64 ((K : Int) + 1) = ((K + 1 : Nat) : Int) := by rw [wrapR _ (by omega) (by omega)]; omega
          clear fz hy
          go_wp2_with fail
          exact ⟨⟨K + 1, by omega, by simp, ⟨_, ⟨BN.out.1, BN.out.2, S5.out, FN2.out.1, fun _ => FN2.out.2.1, FN2.out.2.2.1, FN2.out.2.2.2⟩⟩⟩, by simp [intOf]; omega⟩
        have e5 : (s.k == 5) = false := by simpa using h5
        by_cases h2 : s.k = 2
        · have e2 : (s.k == 2) = true := by simpa using h2
          obtain ⟨px, hpx⟩ : ∃ px, s.p.1 = px := ⟨_, rfl⟩
          obtain ⟨py, hpy⟩ : ∃ py, s.p.2 = py := ⟨_, rfl⟩
          have HADDI : Hid (addI d x s y.plain = (y.L ++ [(px, py)], y.c)) := by unfold Hid; rw [← hpx, ← hpy]; simp [addI, h2, Sb.plain, endI, needI, Sg.pts]
          have KB : Hid (Blk wA gb 60 (Sg.mk s.k (px, py) s.q s.r).cells) := by rw [← hpx, ← hpy]; exact KB.out
          clear h2 h5 cg0 cg1 fz hy hg2
          rw [hpx] at c1
          rw [hpy] at c2
          have HWA : Hid (w2.alloc (.cells #[.int .i64 s.k, .int .i64 px, .int .i64 py, .int .i64 s.q.1, .int .i64 s.q.2, .int .i64 s.r.1, .int .i64 s.r.2] 60) = wA) := by rw [← hpx, ← hpy]; exact HWA.out
          clear hpx hpy
          go_wp2_with fail
          rw [HWA.out, HGB.out]
          clear c0 c1 c2 c3 c4 c5 c6
          refine wp_region_put2 (by kernel_rfl) (by kernel_rfl) (by kernel_rfl) (fun b' vs w' => (b' 0 = true → vs 0 = .slice (some ⟨g, 0, none⟩) M cap) ∧ (b' 1 = true → vs 1 = .int .i64 (m : Int)) ∧ (b' 2 = true → vs 2 = .slice (some ⟨g, 0, none⟩) M cap) ∧ (b' 3 = true → vs 3 = .int .i64 (m : Int)) ∧ (b' 4 = true → vs 4 = .pointer (some ⟨g, m * 2, none⟩)) ∧ (b' 5 = true → vs 5 = .pointer (some ⟨g, m * 2, none⟩)) ∧ (b' 6 = true → vs 6 = y.v) ∧ (b' 7 = true → vs 7 = .pointer (some ⟨gb, 1, none⟩)) ∧ (b' 8 = true → vs 8 = .pointer (some ⟨gb, 1, none⟩)) ∧ (b' 9 = true → vs 9 = .agg #[.int .i64 px, .int .i64 py]) ∧ (b' 12 = true → vs 12 = .pointer (some ⟨g, m * 2, none⟩)) ∧ (b' 13 = true → vs 13 = .pointer (some ⟨g, m * 2, none⟩)) ∧ Hid (b' 14 = true → b' 11 = true) ∧ Hid (b' 11 = true → b' 10 = true ∧ b' 6 = true) ∧ Hid (b' 10 = true → b' 9 = true) ∧ Hid (AddG 10 11 14 45 wA g (m * 2) w.heap.size y.v y.L [(px, py)] b' vs w')) ?_ ?_ ?_
          · intro vs hvs
            exact ⟨fun h => Bool.noConfusion h, fun h => Bool.noConfusion h, fun h => Bool.noConfusion h, fun h => Bool.noConfusion h, fun h => Bool.noConfusion h, fun h => Bool.noConfusion h, fun h => Bool.noConfusion h, fun h => Bool.noConfusion h, fun h => Bool.noConfusion h, fun h => Bool.noConfusion h, fun h => Bool.noConfusion h, fun h => Bool.noConfusion h, Lib.hid fun h => Bool.noConfusion h, Lib.hid fun h => Bool.noConfusion h, Lib.hid fun h => Bool.noConfusion h, AddG.start (Below.refl _ _) vs⟩
          · rintro b' vs w' i op hi hun hall ⟨h0, h1, h2, h3, h4, h5, h6, h7, h8, h9, h12, h13, hA, hB, hC, hM⟩
            have hil : i < 15 := (List.getElem?_eq_some_iff.1 hi).1
            rcases i with _ | _ | _ | _ | _ | _ | _ | _ | _ | _ | _ | _ | _ | _ | _ | i
            · obtain rfl := Option.some.inj hi
              refine wpOp_step rfl (fun K hK => ?_)
              have HKK := Lib.hid hK; clear hK
              simp only [putAll, Act.put, List.setIfInBounds_toArray, List.set_cons_zero, List.set_cons_succ]
              go_simp
              exact HKK.out _ _ ⟨_, by simp only [putAll, Act.put, List.setIfInBounds_toArray, List.set_cons_zero, List.set_cons_succ] <;> rfl, fun _ => rfl, h1, h2, h3, h4, h5, h6, h7, h8, h9, h12, h13, hA, hB, hC, AddG.other hM.out 0 _ (by decide) (by decide) (by decide)⟩
            · obtain rfl := Option.some.inj hi
              refine wpOp_step rfl (fun K hK => ?_)
              have HKK := Lib.hid hK; clear hK
              simp only [putAll, Act.put, List.setIfInBounds_toArray, List.set_cons_zero, List.set_cons_succ]
              go_simp
              exact HKK.out _ _ ⟨_, by simp only [putAll, Act.put, List.setIfInBounds_toArray, List.set_cons_zero, List.set_cons_succ] <;> rfl, h0, fun _ => rfl, h2, h3, h4, h5, h6, h7, h8, h9, h12, h13, hA, hB, hC, AddG.other hM.out 1 _ (by decide) (by decide) (by decide)⟩
            · obtain rfl := Option.some.inj hi
              refine wpOp_step rfl (fun K hK => ?_)
              have HKK := Lib.hid hK; clear hK
              simp only [putAll, Act.put, List.setIfInBounds_toArray, List.set_cons_zero, List.set_cons_succ]
              go_simp
              exact HKK.out _ _ ⟨_, by simp only [putAll, Act.put, List.setIfInBounds_toArray, List.set_cons_zero, List.set_cons_succ] <;> rfl, h0, h1, fun _ => rfl, h3, h4, h5, h6, h7, h8, h9, h12, h13, hA, hB, hC, AddG.other hM.out 2 _ (by decide) (by decide) (by decide)⟩
            · obtain rfl := Option.some.inj hi
              refine wpOp_step rfl (fun K hK => ?_)
              have HKK := Lib.hid hK; clear hK
              simp only [putAll, Act.put, List.setIfInBounds_toArray, List.set_cons_zero, List.set_cons_succ]
              go_simp
              exact HKK.out _ _ ⟨_, by simp only [putAll, Act.put, List.setIfInBounds_toArray, List.set_cons_zero, List.set_cons_succ] <;> rfl, h0, h1, h2, fun _ => rfl, h4, h5, h6, h7, h8, h9, h12, h13, hA, hB, hC, AddG.other hM.out 3 _ (by decide) (by decide) (by decide)⟩
            · obtain rfl := Option.some.inj hi
              have d2 := h2 (hall ⟨2, .data⟩ (by simp) rfl)
              have d3 := h3 (hall ⟨3, .data⟩ (by simp) rfl)
              have hmM := HLT.out
              refine wpOp_step rfl (fun K hK => ?_)
              have HKK := Lib.hid hK; clear hK
              simp only [putAll, Act.put, List.setIfInBounds_toArray, List.set_cons_zero, List.set_cons_succ, d2, d3]
              go_simp
              exact HKK.out _ _ ⟨_, by simp only [putAll, Act.put, List.setIfInBounds_toArray, List.set_cons_zero, List.set_cons_succ, d2, d3] <;> rfl, h0, h1, h2, h3, fun _ => rfl, h5, h6, h7, h8, h9, h12, h13, hA, hB, hC, AddG.other hM.out 4 _ (by decide) (by decide) (by decide)⟩
            · obtain rfl := Option.some.inj hi
              have d4 := h4 (hall ⟨4, .data⟩ (by simp) rfl)
              refine wpOp_step rfl (fun K hK => ?_)
              have HKK := Lib.hid hK; clear hK
              simp only [putAll, Act.put, List.setIfInBounds_toArray, List.set_cons_zero, List.set_cons_succ, d4]
              go_simp
              exact HKK.out _ _ ⟨_, by simp only [putAll, Act.put, List.setIfInBounds_toArray, List.set_cons_zero, List.set_cons_succ, d4] <;> rfl, h0, h1, h2, h3, h4, fun _ => rfl, h6, h7, h8, h9, h12, h13, hA, hB, hC, AddG.other hM.out 5 _ (by decide) (by decide) (by decide)⟩
            · obtain rfl := Option.some.inj hi
              have d5 := h5 (hall ⟨5, .data⟩ (by simp) rfl)
              have n6 := hun
              have n11 : b' 11 = false := by
                cases hz : b' 11 with
                | false => rfl
                | true => exact absurd ((hB.out hz).2) (by rw [n6]; simp)
              have hbk := (hM.out.1 n11).1
              have c0 : w'.cell? ⟨g, m * 2, none⟩ = some y.v := (cell_below hbk HG.out.1).trans HG.out.2
              have HCELL := Lib.hid c0; clear c0
              obtain ⟨va, vn, vc, hv⟩ := HV.out
              have c0 := HCELL.out
              rw [hv] at c0
              refine wpOp_step rfl (fun K hK => ?_)
              have HKK := Lib.hid hK; clear hK
              simp only [putAll, Act.put, List.setIfInBounds_toArray, List.set_cons_zero, List.set_cons_succ, d5]
              go_simp
              try rw [← hv]
              exact HKK.out _ _ ⟨_, by simp only [putAll, Act.put, List.setIfInBounds_toArray, List.set_cons_zero, List.set_cons_succ, d5] <;> rfl, h0, h1, h2, h3, h4, h5, fun _ => rfl, h7, h8, h9, h12, h13, hA, Lib.hid (fun h => ⟨(hB.out h).1, rfl⟩), hC, AddG.other hM.out 6 _ (by decide) (by decide) (by decide)⟩
            · obtain rfl := Option.some.inj hi
              refine wpOp_step rfl (fun K hK => ?_)
              have HKK := Lib.hid hK; clear hK
              simp only [putAll, Act.put, List.setIfInBounds_toArray, List.set_cons_zero, List.set_cons_succ]
              go_simp
              exact HKK.out _ _ ⟨_, by simp only [putAll, Act.put, List.setIfInBounds_toArray, List.set_cons_zero, List.set_cons_succ] <;> rfl, h0, h1, h2, h3, h4, h5, h6, fun _ => rfl, h8, h9, h12, h13, hA, hB, hC, AddG.other hM.out 7 _ (by decide) (by decide) (by decide)⟩
            · obtain rfl := Option.some.inj hi
              have d7 := h7 (hall ⟨7, .data⟩ (by simp) rfl)
              refine wpOp_step rfl (fun K hK => ?_)
              have HKK := Lib.hid hK; clear hK
              simp only [putAll, Act.put, List.setIfInBounds_toArray, List.set_cons_zero, List.set_cons_succ, d7]
              go_simp
              exact HKK.out _ _ ⟨_, by simp only [putAll, Act.put, List.setIfInBounds_toArray, List.set_cons_zero, List.set_cons_succ, d7] <;> rfl, h0, h1, h2, h3, h4, h5, h6, h7, fun _ => rfl, h9, h12, h13, hA, hB, hC, AddG.other hM.out 8 _ (by decide) (by decide) (by decide)⟩
            · obtain rfl := Option.some.inj hi
              have d8 := h8 (hall ⟨8, .data⟩ (by simp) rfl)
              have n9 := hun
              have n10 : b' 10 = false := by
                cases hz : b' 10 with
                | false => rfl
                | true => exact absurd (hC.out hz) (by rw [n9]; simp)
              have n11 : b' 11 = false := by
                cases hz : b' 11 with
                | false => rfl
                | true => exact absurd ((hB.out hz).1) (by rw [n10]; simp)
              have kb := KB.out.on (hM.out.1 n11).1 KB.out.lt
              have c1 : w'.cell? ⟨gb, 1, none⟩ = some (.int .i64 px) := kb.s1
              have c2 : w'.cell? ⟨gb, 2, none⟩ = some (.int .i64 py) := kb.s2
              refine wpOp_step rfl (fun K hK => ?_)
              have HKK := Lib.hid hK; clear hK
              simp only [putAll, Act.put, List.setIfInBounds_toArray, List.set_cons_zero, List.set_cons_succ, d8]
              go_simp
              exact HKK.out _ _ ⟨_, by simp only [putAll, Act.put, List.setIfInBounds_toArray, List.set_cons_zero, List.set_cons_succ, d8] <;> rfl, h0, h1, h2, h3, h4, h5, h6, h7, h8, fun _ => rfl, h12, h13, hA, hB, Lib.hid (fun _ => rfl), AddG.other hM.out 9 _ (by decide) (by decide) (by decide)⟩
            · obtain rfl := Option.some.inj hi
              have d9 := h9 (hall ⟨9, .data⟩ (by simp) rfl)
              have n10 := hun
              have n11 : b' 11 = false := by
                cases hz : b' 11 with
                | false => rfl
                | true => exact absurd ((hB.out hz).1) (by rw [n10]; simp)
              have n14 : b' 14 = false := by
                cases hz : b' 14 with
                | false => rfl
                | true => exact absurd (hA.out hz) (by rw [n11]; simp)
              refine wpOp_step rfl (fun K hK => ?_)
              have HKK := Lib.hid hK; clear hK
              simp only [putAll, Act.put, List.setIfInBounds_toArray, List.set_cons_zero, List.set_cons_succ, d9]
              go_simp
              exact HKK.out _ _ ⟨_, by simp only [putAll, Act.put, List.setIfInBounds_toArray, List.set_cons_zero, List.set_cons_succ, d9] <;> rfl, h0, h1, h2, h3, h4, h5, h6, h7, h8, h9, h12, h13, hA, Lib.hid (fun h => ⟨rfl, (hB.out h).2⟩), Lib.hid (fun _ => hall ⟨9, .data⟩ (by simp) rfl), AddG.made hM.out (by decide) (by decide) n11 n14 _ (Own.made w' (base := w'.heap.size) (Nat.le_refl _) 45 [(px, py)] _ 1 rfl rfl (by decide)).row ((Below.refl _ _).alloc (Nat.le_refl _) _)⟩
            · obtain rfl := Option.some.inj hi
              have n11 := hun
              have n14 : b' 14 = false := by
                cases hz : b' 14 with
                | false => rfl
                | true => exact absurd (hA.out hz) (by rw [n11]; simp)
              have b6 := hall ⟨6, .data⟩ (by simp) rfl
              have bi := hall ⟨10, .data⟩ (by simp) rfl
              have d6 := h6 b6
              have hm := hM.out.1 n11
              have r7 := hm.2 bi
              have hbs := hm.1.size
              have hbas := HBASE.out
              have HLEN := HL.out
              have ho4 := HOWN.out.grow hm.1
              refine wpOp_step rfl (fun K hK => ?_)
              have HKK := Lib.hid hK; clear hK
              simp only [putAll, Act.put, List.setIfInBounds_toArray, List.set_cons_zero, List.set_cons_succ]
              refine (if_pos rfl).mpr (wp_append_pts _ _ 40 45 rfl Tryd.underlying40 infoR w.heap.size y.v y.L d6 ho4 _ [(px, py)] rfl r7 (by first | omega | (simp; omega)) (by omega) ?_)
              intro v' w3 ho hg hmv
              exact HKK.out _ _ ⟨_, by simp only [putAll, Act.put, List.setIfInBounds_toArray, List.set_cons_zero, List.set_cons_succ] <;> rfl, h0, h1, h2, h3, h4, h5, h6, h7, h8, h9, h12, h13, Lib.hid (fun h => rfl), Lib.hid (fun _ => ⟨bi, b6⟩), hC, AddG.app hM.out (by decide) n14 _ ⟨⟨w', hm.1, hg, hmv⟩, ho⟩⟩
            · obtain rfl := Option.some.inj hi
              have d0 := h0 (hall ⟨0, .data⟩ (by simp) rfl)
              have d1 := h1 (hall ⟨1, .data⟩ (by simp) rfl)
              have hmM := HLT.out
              refine wpOp_step rfl (fun K hK => ?_)
              have HKK := Lib.hid hK; clear hK
              simp only [putAll, Act.put, List.setIfInBounds_toArray, List.set_cons_zero, List.set_cons_succ, d0, d1]
              go_simp
              exact HKK.out _ _ ⟨_, by simp only [putAll, Act.put, List.setIfInBounds_toArray, List.set_cons_zero, List.set_cons_succ, d0, d1] <;> rfl, h0, h1, h2, h3, h4, h5, h6, h7, h8, h9, fun _ => rfl, h13, hA, hB, hC, AddG.other hM.out 12 _ (by decide) (by decide) (by decide)⟩
            · obtain rfl := Option.some.inj hi
              have d12 := h12 (hall ⟨12, .data⟩ (by simp) rfl)
              refine wpOp_step rfl (fun K hK => ?_)
              have HKK := Lib.hid hK; clear hK
              simp only [putAll, Act.put, List.setIfInBounds_toArray, List.set_cons_zero, List.set_cons_succ, d12]
              go_simp
              exact HKK.out _ _ ⟨_, by simp only [putAll, Act.put, List.setIfInBounds_toArray, List.set_cons_zero, List.set_cons_succ, d12] <;> rfl, h0, h1, h2, h3, h4, h5, h6, h7, h8, h9, h12, fun _ => rfl, hA, hB, hC, AddG.other hM.out 13 _ (by decide) (by decide) (by decide)⟩
            · obtain rfl := Option.some.inj hi
              have d13 := h13 (hall ⟨13, .data⟩ (by simp) rfl)
              have b8 := hall ⟨11, .data⟩ (by simp) rfl
              have n14 := hun
              have d6 := h6 (hB.out b8).2
              obtain ⟨⟨Wm, hm1, hm2, hm3⟩, ho⟩ := hM.out.2.1 b8 n14
              have hgl : g < Wm.heap.size := Nat.lt_of_lt_of_le HG.out.1 hm1.size
              have hgb : w'.heap[g]? = wA.heap[g]? := (hm2.block g hgl (fun e => HG2.out e.symm)).trans (hm1.block g HG.out.1)
              have c0 : w'.cell? ⟨g, m * 2, none⟩ = some y.v := (World.cell?_of_block hgb).trans HG.out.2
              have f0 : w'.frozen? ⟨g, m * 2, none⟩ = false := (World.frozen?_of_block hgb).trans HF.out
              obtain ⟨va, vn, vc, hv⟩ := own_shape' ho
              have hst := fun z => AddG.stored hM.out (by decide) b8 n14 z
              simp only [hv] at hst
              have HST := Lib.hid hst; clear hst
              refine wpOp_step rfl (fun K hK => ?_)
              have HKK := Lib.hid hK; clear hK
              simp only [putAll, Act.put, List.setIfInBounds_toArray, List.set_cons_zero, List.set_cons_succ, d13, d6, hv]
              go_simp
              exact HKK.out _ _ ⟨undef, by simp only [putAll, Act.put, List.setIfInBounds_toArray, List.set_cons_zero, List.set_cons_succ, d13, d6, hv] <;> rfl, h0, h1, h2, h3, h4, h5, h6, h7, h8, h9, h12, h13, Lib.hid (fun _ => b8), hB, hC, HST.out undef⟩
            · exact absurd hil (by omega)
          · rintro b' vs w' hb ⟨h0, h1, h2, h3, h4, h5, h6, h7, h8, h9, h12, h13, hA, hB, hC, hM⟩
            obtain ⟨W1, rfl, hgr⟩ := hM.out.2.2 (hb 14 (by decide))
            have HGR := Lib.hid hgr
            clear h0 h1 h2 h3 h4 h5 h6 h7 h8 h9 h12 h13 hA hB hC hM hgr
            simp only [putAll, Act.put, List.setIfInBounds_toArray, List.set_cons_zero, List.set_cons_succ]
            generalize vs 11 = v8 at HGR ⊢
            obtain ⟨⟨Wm, q1, q2, q3⟩, q4⟩ := HGR.out
            have SN := Lib.hid (SubsAt.longer SA.out (by decide) T4.out.2 q1 q2 q3 q4)
            have BN : Hid (Below w.heap.size w (W1.setCell ⟨g, m * 2, none⟩ v8) ∧ w.heap.size ≤ (W1.setCell ⟨g, m * 2, none⟩ v8).heap.size) := by
              have h1 : Below w.heap.size w Wm := BA.out.1.trans (q1.mono BA.out.2)
              have h2 : w.heap.size ≤ Wm.heap.size := Nat.le_trans BA.out.2 q1.size
              have h3 : Below w.heap.size w W1 := h1.grown q2 h2 (fun k e => (Own.lt HOWN.out k e).1)
              exact ⟨h3.setCell HGm.out _, by have h4 := q2.size; simp [World.setCell]; omega⟩
            have FN2 := Lib.hid (fold_next HFO.out.1 HFO.out.2.1 HFO.out.2.2 HD.out HQ.out HX.out T2.out T4.out.1 T4.out.2 (y' := ⟨v8, y.L ++ [(px, py)], y.c⟩) (by rw [HADDI.out]; rfl))
            clear q1 q2 q3 q4 HGR
            go_wp2_with fail
            exact ⟨⟨K + 1, by omega, by simp, ⟨_, ⟨BN.out.1, BN.out.2, by have h := SN.out; rwa [List.length_set, HMl.out] at h, FN2.out.1, fun _ => FN2.out.2.1, FN2.out.2.2.1, FN2.out.2.2.2⟩⟩⟩, by simp [intOf]; omega⟩
        · have e2 : (s.k == 2) = false := by simpa using h2
          have hk34 : s.k = 3 ∨ s.k = 4 := by
            have h1 := H1.out
            rcases isKind_cases FN.out.kind with h | h | h | h | h
            · exact absurd h h1
            · exact absurd h h2
            · exact .inl h
            · exact .inr h
            · exact absurd h h5
          obtain ⟨F, hF⟩ : ∃ F, flatI d (endI x :: needPts s) = F := ⟨_, rfl⟩
          have HADDI : Hid (addI d x s y.plain = (y.L ++ F, y.c)) := by unfold Hid; rw [← hF]; rcases hk34 with h | h <;> simp [addI, h, Sb.plain]
          have HCV := Lib.hid (curve_ok (x := x) (s := s) hk34 FN.out.room HPX.out.2.2)
          have HFF := Lib.hid hF
          obtain ⟨n, hnk⟩ : ∃ n, needI s.k = n := ⟨_, rfl⟩
          have HNn : Hid (∀ w, Calls Tryd.prog 14 #[.int .i64 s.k] w fun e w' => e = .returned (.int .i64 (n : Nat)) ∧ w = w') := fun w => hnk ▸ refNeed_c s.k w
          have HNK := Lib.hid hnk
          have HN3 : Hid (n ≤ 3) := hnk ▸ needI_le s.k
          have HL : Hid (y.L.length ≤ 90000 ∧ F.length ≤ 5000) := ⟨HL.out, by rw [← hF, flatI_len]; have := pow_le64 HD.out; omega⟩
          clear h2 h5 cg0 cg1 fz hy hg2 hk34 hF hnk
          go_wp2_with fail
          rw [show w2.alloc (.cells #[.int .i64 s.k, .int .i64 s.p.1, .int .i64 s.p.2, .int .i64 s.q.1, .int .i64 s.q.2, .int .i64 s.r.1, .int .i64 s.r.2] 60) = wA from HWA.out, HGB.out]
          clear c0 c1 c2 c3 c4 c5 c6
          refine (from_c x b o c N K l wA HPX.out.1 HNL.out (by have := HNN.out; omega) HK0.out (Nat.lt_of_lt_of_le HB.out BA.out.1.size) (HS.out.on BA.out.1 HB.out) HPX.out.2.1).mono ?_
          rintro e wF ⟨rfl, hbF⟩
          obtain ⟨fx, hfx⟩ : ∃ p, endI x = p := ⟨_, rfl⟩
          rw [hfx] at HCV HFF ⊢
          have HFX := Lib.hid hfx
          clear hfx
          have L0 : Hid (Own (wF.alloc (.cells (two fx) 45)) wA.heap.size 45 (.slice (some ⟨wF.heap.size, 0, none⟩) 1 1) [fx] ∧ Below wA.heap.size wA (wF.alloc (.cells (two fx) 45))) := ⟨Own.made wF hbF.size 45 [fx] (two fx) 1 rfl rfl (by decide), hbF.alloc hbF.size _⟩
          clear hbF
          simp only [two]
          go_wp2_with fail
          go_loopw [9, 10] (fun lv j wr => ∃ i : Nat, i ≤ n ∧ j = .int .i64 i ∧ Hid (Own wr wA.heap.size 45 lv (fx :: s.pts.take i) ∧ Below wA.heap.size wA wr)) (fun _ j _ => n - (intOf j).toNat)
          case atStart => exact ⟨0, by omega, rfl, L0.out⟩
          case round =>
            obtain ⟨i, hi, rfl, hx⟩ := hrel
            have kb := KB.out.on hx.out.2 KB.out.lt
            have d0 := kb.s0
            have KBI := Lib.hid kb
            clear kb
            by_cases hin : i < n
            · have hdi : decide ((i : Int) < (n : Int)) = true := decide_eq_true (by omega)
              have hn3 := HN3.out
              obtain ⟨⟨px, py⟩, hq⟩ : ∃ a, s.pts[i]? = some a := ⟨_, List.getElem?_eq_getElem (by simp [Sg.pts]; omega)⟩
              obtain ⟨p0, p1⟩ := (seven_pts KBI.out) i (px, py) hq
              simp only at p0 p1
              have HPQ := Lib.hid hq
              have hi3 : i < 3 := by omega
              have hwi : wrap64 ((i : Int) + 1) = ((i + 1 : Nat) : Int) := by rw [wrapR _ (by omega) (by omega)]; omega
              have O4 : Hid (Own (wr.alloc (.cells #[.int .i64 px, .int .i64 py] 45)) wA.heap.size 45 u9 (fx :: s.pts.take i)) := hx.out.1.grow ((Below.refl _ _).alloc (Nat.le_refl _) _)
              have Y4 : Hid (Row (wr.alloc (.cells #[.int .i64 px, .int .i64 py] 45)) (.slice (some ⟨wr.heap.size, 0, none⟩) 1 1) [(px, py)]) := (Own.made wr (base := wr.heap.size) (Nat.le_refl _) 45 [(px, py)] _ 1 rfl rfl (by decide)).row
              have B4 := Lib.hid (hx.out.2.alloc hx.out.2.size (.cells #[.int .i64 px, .int .i64 py] 45))
              clear hq
              go_wp2_with fail
              refine (HNn.out _).mono ?_
              rintro e w4 ⟨rfl, rfl⟩
              go_wp2_with (at_builtin; refine wpList_append_pts rfl _ _ 40 45 rfl Tryd.underlying40 infoR wA.heap.size u9 (fx :: s.pts.take i) rfl O4.out _ [(px, py)] rfl Y4.out (by simp; omega) (by have := hx.out.2.size; simp; omega) ?_)
              intro v' w5 hown hgrow _
              have N5 : Hid (Own w5 wA.heap.size 45 v' (fx :: s.pts.take (i + 1)) ∧ Below wA.heap.size wA w5) := by
                refine ⟨?_, own_below O4.out hgrow B4.out (Nat.le_refl _) B4.out.size⟩
                have e : fx :: s.pts.take (i + 1) = (fx :: s.pts.take i) ++ [(px, py)] := by rw [List.take_add_one, HPQ.out]; rfl
                rw [e]; exact hown
              clear hown hgrow
              go_wp2_with fail
              exact ⟨⟨i + 1, by omega, by simp, N5.out⟩, by simp [intOf]; omega⟩
            · have hdi : decide ((i : Int) < (n : Int)) = false := decide_eq_false (by omega)
              have HRL : Hid (Row wr u9 (fx :: needPts s)) := by
                have h := hx.out.1.row
                have e : i = needI s.k := by have := HNK.out; omega
                rw [e] at h
                exact h
              obtain ⟨wB, hwB⟩ : ∃ wB, wr = wB := ⟨_, rfl⟩
              have BAB := Lib.hid hx.out.2
              rw [hwB] at HRL BAB
              have HWB := Lib.hid hwB
              have HIN := Lib.hid hi
              obtain ⟨lv, hlv⟩ : ∃ lv, u9 = lv := ⟨_, rfl⟩
              have HLV := Lib.hid hlv
              rw [hlv] at HRL
              clear hx hwB hlv
              have SA : Hid (SubsAt wB w.heap.size 42 45 (.slice (some ⟨g, 0, none⟩) S.length cap) S) := SA.out.grow BAB.out
              have HF : Hid (wB.frozen? ⟨g, m * 2, none⟩ = false) := (World.frozen?_of_block (BAB.out.block g HG.out.1)).trans HF.out
              have HG : Hid (g < wB.heap.size ∧ wB.cell? ⟨g, m * 2, none⟩ = some y.v) := ⟨Nat.lt_of_lt_of_le HG.out.1 BAB.out.size, (cell_below BAB.out HG.out.1).trans HG.out.2⟩
              have HOWN : Hid (Own wB w.heap.size 45 y.v y.L) := HOWN.out.grow BAB.out
              have BA : Hid (Below w.heap.size w wB ∧ w.heap.size ≤ wB.heap.size) := ⟨BA.out.1.trans (BAB.out.mono BA.out.2), Nat.le_trans BA.out.2 BAB.out.size⟩
              have HBASE : Hid (w.heap.size ≤ wB.heap.size) := BA.out.2
              have HFL : Hid (∀ w', Below wB.heap.size wB w' → Calls Tryd.prog 39 #[lv, .int .i64 (d : Int)] w' fun e w'' => ∃ u, e = .returned u ∧ Own w'' w'.heap.size 45 u F ∧ Below w'.heap.size w' w'') := fun w' hb => HFF.out ▸ refFlat_c d HD.out (fx :: needPts s) HCV.out lv w' (HRL.out.on hb)
              go_wp2_with fail
              refine (HNn.out _).mono ?_
              rintro e w4 ⟨rfl, rfl⟩
              go_wp2_with fail
              rw [HWB.out, HLV.out]
              clear d0
              refine wp_region_put2 (by kernel_rfl) (by kernel_rfl) (by kernel_rfl) (fun b' vs w' => (b' 0 = true → vs 0 = .slice (some ⟨g, 0, none⟩) M cap) ∧ (b' 1 = true → vs 1 = .int .i64 (m : Int)) ∧ (b' 2 = true → vs 2 = .slice (some ⟨g, 0, none⟩) M cap) ∧ (b' 3 = true → vs 3 = .int .i64 (m : Int)) ∧ (b' 4 = true → vs 4 = .pointer (some ⟨g, m * 2, none⟩)) ∧ (b' 5 = true → vs 5 = .pointer (some ⟨g, m * 2, none⟩)) ∧ (b' 6 = true → vs 6 = y.v) ∧ (b' 7 = true → vs 7 = lv) ∧ (b' 8 = true → vs 8 = .int .i64 (d : Int)) ∧ (b' 11 = true → vs 11 = .pointer (some ⟨g, m * 2, none⟩)) ∧ (b' 12 = true → vs 12 = .pointer (some ⟨g, m * 2, none⟩)) ∧ Hid (b' 13 = true → b' 10 = true) ∧ Hid (b' 10 = true → b' 9 = true ∧ b' 6 = true) ∧ Hid (AddG 9 10 13 45 wB g (m * 2) w.heap.size y.v y.L F b' vs w')) ?_ ?_ ?_
              · intro vs hvs
                exact ⟨fun h => Bool.noConfusion h, fun h => Bool.noConfusion h, fun h => Bool.noConfusion h, fun h => Bool.noConfusion h, fun h => Bool.noConfusion h, fun h => Bool.noConfusion h, fun h => Bool.noConfusion h, fun h => Bool.noConfusion h, fun h => Bool.noConfusion h, fun h => Bool.noConfusion h, fun h => Bool.noConfusion h, Lib.hid fun h => Bool.noConfusion h, Lib.hid fun h => Bool.noConfusion h, AddG.start (Below.refl _ _) vs⟩
              · rintro b' vs w' i op hi hun hall ⟨h0, h1, h2, h3, h4, h5, h6, h7, h8, h11, h12, hA, hB, hM⟩
                have hil : i < 14 := (List.getElem?_eq_some_iff.1 hi).1
                rcases i with _ | _ | _ | _ | _ | _ | _ | _ | _ | _ | _ | _ | _ | _ | i
                · obtain rfl := Option.some.inj hi
                  refine wpOp_step rfl (fun K hK => ?_)
                  have HKK := Lib.hid hK; clear hK
                  simp only [putAll, Act.put, List.setIfInBounds_toArray, List.set_cons_zero, List.set_cons_succ]
                  go_simp
                  exact HKK.out _ _ ⟨_, by simp only [putAll, Act.put, List.setIfInBounds_toArray, List.set_cons_zero, List.set_cons_succ] <;> rfl, fun _ => rfl, h1, h2, h3, h4, h5, h6, h7, h8, h11, h12, hA, hB, AddG.other hM.out 0 _ (by decide) (by decide) (by decide)⟩
                · obtain rfl := Option.some.inj hi
                  refine wpOp_step rfl (fun K hK => ?_)
                  have HKK := Lib.hid hK; clear hK
                  simp only [putAll, Act.put, List.setIfInBounds_toArray, List.set_cons_zero, List.set_cons_succ]
                  go_simp
                  exact HKK.out _ _ ⟨_, by simp only [putAll, Act.put, List.setIfInBounds_toArray, List.set_cons_zero, List.set_cons_succ] <;> rfl, h0, fun _ => rfl, h2, h3, h4, h5, h6, h7, h8, h11, h12, hA, hB, AddG.other hM.out 1 _ (by decide) (by decide) (by decide)⟩
                · obtain rfl := Option.some.inj hi
                  refine wpOp_step rfl (fun K hK => ?_)
                  have HKK := Lib.hid hK; clear hK
                  simp only [putAll, Act.put, List.setIfInBounds_toArray, List.set_cons_zero, List.set_cons_succ]
                  go_simp
                  exact HKK.out _ _ ⟨_, by simp only [putAll, Act.put, List.setIfInBounds_toArray, List.set_cons_zero, List.set_cons_succ] <;> rfl, h0, h1, fun _ => rfl, h3, h4, h5, h6, h7, h8, h11, h12, hA, hB, AddG.other hM.out 2 _ (by decide) (by decide) (by decide)⟩
                · obtain rfl := Option.some.inj hi
                  refine wpOp_step rfl (fun K hK => ?_)
                  have HKK := Lib.hid hK; clear hK
                  simp only [putAll, Act.put, List.setIfInBounds_toArray, List.set_cons_zero, List.set_cons_succ]
                  go_simp
                  exact HKK.out _ _ ⟨_, by simp only [putAll, Act.put, List.setIfInBounds_toArray, List.set_cons_zero, List.set_cons_succ] <;> rfl, h0, h1, h2, fun _ => rfl, h4, h5, h6, h7, h8, h11, h12, hA, hB, AddG.other hM.out 3 _ (by decide) (by decide) (by decide)⟩
                · obtain rfl := Option.some.inj hi
                  have d2 := h2 (hall ⟨2, .data⟩ (by simp) rfl)
                  have d3 := h3 (hall ⟨3, .data⟩ (by simp) rfl)
                  have hmM := HLT.out
                  refine wpOp_step rfl (fun K hK => ?_)
                  have HKK := Lib.hid hK; clear hK
                  simp only [putAll, Act.put, List.setIfInBounds_toArray, List.set_cons_zero, List.set_cons_succ, d2, d3]
                  go_simp
                  exact HKK.out _ _ ⟨_, by simp only [putAll, Act.put, List.setIfInBounds_toArray, List.set_cons_zero, List.set_cons_succ, d2, d3] <;> rfl, h0, h1, h2, h3, fun _ => rfl, h5, h6, h7, h8, h11, h12, hA, hB, AddG.other hM.out 4 _ (by decide) (by decide) (by decide)⟩
                · obtain rfl := Option.some.inj hi
                  have d4 := h4 (hall ⟨4, .data⟩ (by simp) rfl)
                  refine wpOp_step rfl (fun K hK => ?_)
                  have HKK := Lib.hid hK; clear hK
                  simp only [putAll, Act.put, List.setIfInBounds_toArray, List.set_cons_zero, List.set_cons_succ, d4]
                  go_simp
                  exact HKK.out _ _ ⟨_, by simp only [putAll, Act.put, List.setIfInBounds_toArray, List.set_cons_zero, List.set_cons_succ, d4] <;> rfl, h0, h1, h2, h3, h4, fun _ => rfl, h6, h7, h8, h11, h12, hA, hB, AddG.other hM.out 5 _ (by decide) (by decide) (by decide)⟩
                · obtain rfl := Option.some.inj hi
                  have d5 := h5 (hall ⟨5, .data⟩ (by simp) rfl)
                  have n6 := hun
                  have n10 : b' 10 = false := by
                    cases hz : b' 10 with
                    | false => rfl
                    | true => exact absurd ((hB.out hz).2) (by rw [n6]; simp)
                  have hbk := (hM.out.1 n10).1
                  have c0 : w'.cell? ⟨g, m * 2, none⟩ = some y.v := (cell_below hbk HG.out.1).trans HG.out.2
                  have HCELL := Lib.hid c0; clear c0
                  obtain ⟨va, vn, vc, hv⟩ := HV.out
                  have c0 := HCELL.out
                  rw [hv] at c0
                  refine wpOp_step rfl (fun K hK => ?_)
                  have HKK := Lib.hid hK; clear hK
                  simp only [putAll, Act.put, List.setIfInBounds_toArray, List.set_cons_zero, List.set_cons_succ, d5]
                  go_simp
                  try rw [← hv]
                  exact HKK.out _ _ ⟨_, by simp only [putAll, Act.put, List.setIfInBounds_toArray, List.set_cons_zero, List.set_cons_succ, d5] <;> rfl, h0, h1, h2, h3, h4, h5, fun _ => rfl, h7, h8, h11, h12, hA, Lib.hid (fun h => ⟨(hB.out h).1, rfl⟩), AddG.other hM.out 6 _ (by decide) (by decide) (by decide)⟩
                · obtain rfl := Option.some.inj hi
                  refine wpOp_step rfl (fun K hK => ?_)
                  have HKK := Lib.hid hK; clear hK
                  simp only [putAll, Act.put, List.setIfInBounds_toArray, List.set_cons_zero, List.set_cons_succ]
                  go_simp
                  exact HKK.out _ _ ⟨_, by simp only [putAll, Act.put, List.setIfInBounds_toArray, List.set_cons_zero, List.set_cons_succ] <;> rfl, h0, h1, h2, h3, h4, h5, h6, fun _ => rfl, h8, h11, h12, hA, hB, AddG.other hM.out 7 _ (by decide) (by decide) (by decide)⟩
                · obtain rfl := Option.some.inj hi
                  refine wpOp_step rfl (fun K hK => ?_)
                  have HKK := Lib.hid hK; clear hK
                  simp only [putAll, Act.put, List.setIfInBounds_toArray, List.set_cons_zero, List.set_cons_succ]
                  go_simp
                  exact HKK.out _ _ ⟨_, by simp only [putAll, Act.put, List.setIfInBounds_toArray, List.set_cons_zero, List.set_cons_succ] <;> rfl, h0, h1, h2, h3, h4, h5, h6, h7, fun _ => rfl, h11, h12, hA, hB, AddG.other hM.out 8 _ (by decide) (by decide) (by decide)⟩
                · obtain rfl := Option.some.inj hi
                  have d7 := h7 (hall ⟨7, .data⟩ (by simp) rfl)
                  have d8 := h8 (hall ⟨8, .data⟩ (by simp) rfl)
                  have n9 := hun
                  have n10 : b' 10 = false := by
                    cases hz : b' 10 with
                    | false => rfl
                    | true => exact absurd ((hB.out hz).1) (by rw [n9]; simp)
                  have n13 : b' 13 = false := by
                    cases hz : b' 13 with
                    | false => rfl
                    | true => exact absurd (hA.out hz) (by rw [n10]; simp)
                  refine wpOp_step rfl (fun K hK => ?_)
                  have HKK := Lib.hid hK; clear hK
                  simp only [putAll, Act.put, List.setIfInBounds_toArray, List.set_cons_zero, List.set_cons_succ, d7, d8]
                  go_simp
                  refine (HFL.out _ ((hM.out.1 n10).1)).mono ?_
                  rintro e w3 ⟨u9, rfl, ho, hb⟩
                  exact HKK.out _ _ ⟨_, by simp only [putAll, Act.put, List.setIfInBounds_toArray, List.set_cons_zero, List.set_cons_succ, d7, d8] <;> rfl, h0, h1, h2, h3, h4, h5, h6, h7, h8, h11, h12, hA, Lib.hid (fun h => ⟨rfl, (hB.out h).2⟩), AddG.made hM.out (by decide) (by decide) n10 n13 u9 ho.row hb⟩
                · obtain rfl := Option.some.inj hi
                  have n10 := hun
                  have n13 : b' 13 = false := by
                    cases hz : b' 13 with
                    | false => rfl
                    | true => exact absurd (hA.out hz) (by rw [n10]; simp)
                  have b6 := hall ⟨6, .data⟩ (by simp) rfl
                  have bi := hall ⟨9, .data⟩ (by simp) rfl
                  have d6 := h6 b6
                  have hm := hM.out.1 n10
                  have r7 := hm.2 bi
                  have hbs := hm.1.size
                  have hbas := HBASE.out
                  have HLEN := HL.out
                  have ho4 := HOWN.out.grow hm.1
                  refine wpOp_step rfl (fun K hK => ?_)
                  have HKK := Lib.hid hK; clear hK
                  simp only [putAll, Act.put, List.setIfInBounds_toArray, List.set_cons_zero, List.set_cons_succ]
                  refine (if_pos rfl).mpr (wp_append_pts _ _ 40 45 rfl Tryd.underlying40 infoR w.heap.size y.v y.L d6 ho4 _ F rfl r7 (by first | omega | (simp; omega)) (by omega) ?_)
                  intro v' w3 ho hg hmv
                  exact HKK.out _ _ ⟨_, by simp only [putAll, Act.put, List.setIfInBounds_toArray, List.set_cons_zero, List.set_cons_succ] <;> rfl, h0, h1, h2, h3, h4, h5, h6, h7, h8, h11, h12, Lib.hid (fun h => rfl), Lib.hid (fun _ => ⟨bi, b6⟩), AddG.app hM.out (by decide) n13 _ ⟨⟨w', hm.1, hg, hmv⟩, ho⟩⟩
                · obtain rfl := Option.some.inj hi
                  have d0 := h0 (hall ⟨0, .data⟩ (by simp) rfl)
                  have d1 := h1 (hall ⟨1, .data⟩ (by simp) rfl)
                  have hmM := HLT.out
                  refine wpOp_step rfl (fun K hK => ?_)
                  have HKK := Lib.hid hK; clear hK
                  simp only [putAll, Act.put, List.setIfInBounds_toArray, List.set_cons_zero, List.set_cons_succ, d0, d1]
                  go_simp
                  exact HKK.out _ _ ⟨_, by simp only [putAll, Act.put, List.setIfInBounds_toArray, List.set_cons_zero, List.set_cons_succ, d0, d1] <;> rfl, h0, h1, h2, h3, h4, h5, h6, h7, h8, fun _ => rfl, h12, hA, hB, AddG.other hM.out 11 _ (by decide) (by decide) (by decide)⟩
                · obtain rfl := Option.some.inj hi
                  have d11 := h11 (hall ⟨11, .data⟩ (by simp) rfl)
                  refine wpOp_step rfl (fun K hK => ?_)
                  have HKK := Lib.hid hK; clear hK
                  simp only [putAll, Act.put, List.setIfInBounds_toArray, List.set_cons_zero, List.set_cons_succ, d11]
                  go_simp
                  exact HKK.out _ _ ⟨_, by simp only [putAll, Act.put, List.setIfInBounds_toArray, List.set_cons_zero, List.set_cons_succ, d11] <;> rfl, h0, h1, h2, h3, h4, h5, h6, h7, h8, h11, fun _ => rfl, hA, hB, AddG.other hM.out 12 _ (by decide) (by decide) (by decide)⟩
                · obtain rfl := Option.some.inj hi
                  have d12 := h12 (hall ⟨12, .data⟩ (by simp) rfl)
                  have b8 := hall ⟨10, .data⟩ (by simp) rfl
                  have n13 := hun
                  have d6 := h6 (hB.out b8).2
                  obtain ⟨⟨Wm, hm1, hm2, hm3⟩, ho⟩ := hM.out.2.1 b8 n13
                  have hgl : g < Wm.heap.size := Nat.lt_of_lt_of_le HG.out.1 hm1.size
                  have hgb : w'.heap[g]? = wB.heap[g]? := (hm2.block g hgl (fun e => HG2.out e.symm)).trans (hm1.block g HG.out.1)
                  have c0 : w'.cell? ⟨g, m * 2, none⟩ = some y.v := (World.cell?_of_block hgb).trans HG.out.2
                  have f0 : w'.frozen? ⟨g, m * 2, none⟩ = false := (World.frozen?_of_block hgb).trans HF.out
                  obtain ⟨va, vn, vc, hv⟩ := own_shape' ho
                  have hst := fun z => AddG.stored hM.out (by decide) b8 n13 z
                  simp only [hv] at hst
                  have HST := Lib.hid hst; clear hst
                  refine wpOp_step rfl (fun K hK => ?_)
                  have HKK := Lib.hid hK; clear hK
                  simp only [putAll, Act.put, List.setIfInBounds_toArray, List.set_cons_zero, List.set_cons_succ, d12, d6, hv]
                  go_simp
                  exact HKK.out _ _ ⟨undef, by simp only [putAll, Act.put, List.setIfInBounds_toArray, List.set_cons_zero, List.set_cons_succ, d12, d6, hv] <;> rfl, h0, h1, h2, h3, h4, h5, h6, h7, h8, h11, h12, Lib.hid (fun _ => b8), hB, HST.out undef⟩
                · exact absurd hil (by omega)
              · rintro b' vs w' hb ⟨h0, h1, h2, h3, h4, h5, h6, h7, h8, h11, h12, hA, hB, hM⟩
                obtain ⟨W1, rfl, hgr⟩ := hM.out.2.2 (hb 13 (by decide))
                have HGR := Lib.hid hgr
                clear h0 h1 h2 h3 h4 h5 h6 h7 h8 h11 h12 hA hB hM hgr
                simp only [putAll, Act.put, List.setIfInBounds_toArray, List.set_cons_zero, List.set_cons_succ]
                generalize vs 10 = v8 at HGR ⊢
                obtain ⟨⟨Wm, q1, q2, q3⟩, q4⟩ := HGR.out
                have SN := Lib.hid (SubsAt.longer SA.out (by decide) T4.out.2 q1 q2 q3 q4)
                have BN : Hid (Below w.heap.size w (W1.setCell ⟨g, m * 2, none⟩ v8) ∧ w.heap.size ≤ (W1.setCell ⟨g, m * 2, none⟩ v8).heap.size) := by
                  have h1 : Below w.heap.size w Wm := BA.out.1.trans (q1.mono BA.out.2)
                  have h2 : w.heap.size ≤ Wm.heap.size := Nat.le_trans BA.out.2 q1.size
                  have h3 : Below w.heap.size w W1 := h1.grown q2 h2 (fun k e => (Own.lt HOWN.out k e).1)
                  exact ⟨h3.setCell HGm.out _, by have h4 := q2.size; simp [World.setCell]; omega⟩
                have FN2 := Lib.hid (fold_next HFO.out.1 HFO.out.2.1 HFO.out.2.2 HD.out HQ.out HX.out T2.out T4.out.1 T4.out.2 (y' := ⟨v8, y.L ++ F, y.c⟩) (by rw [HADDI.out]; rfl))
                clear q1 q2 q3 q4 HGR
                go_wp2_with fail
                exact ⟨⟨K + 1, by omega, by simp, ⟨_, ⟨BN.out.1, BN.out.2, by have h := SN.out; rwa [List.length_set, HMl.out] at h, FN2.out.1, fun _ => FN2.out.2.1, FN2.out.2.2.1, FN2.out.2.2.2⟩⟩⟩, by simp [intOf]; omega⟩
    · have hd3 : decide ((K : Int) < (N : Int)) = false := decide_eq_false (by omega)
      have HK : Hid (S.map Sb.plain = subsI d l) := by unfold Hid; rw [hw.fold, List.drop_of_length_le (by rw [HNL.out]; omega)]; rfl
      go_wp2_with fail
      go_ret
      exact ⟨_, S, rfl, hw.subs, HK.out, hw.below⟩
theorem rflat_zero (ao : Option Addr) (c : Nat) (d : Int) (w : World) : Calls Tryd.prog 17 #[.slice ao 0 c, .int .i64 d] w fun e w' => e = .returned (.slice none 0 0) ∧ Below w.heap.size w w' := by
  go_enter Tryd.func17, Tryd.ntmps17
  go_wp2_with fail
  go_loopw [5, 6] (fun u i wr => u = .slice none 0 0 ∧ i = .int .i64 0 ∧ Hid (wr = w)) (fun _ _ _ => 0)
  case atStart => exact ⟨rfl, rfl, rfl⟩
  case round =>
    obtain ⟨rfl, rfl, hw⟩ := hrel
    go_wp2_with fail
    go_ret
    exact ⟨rfl, by rw [hw.out]; exact Below.refl _ _⟩
theorem rflat_c (v : Value) (l : List Sg) (d : Nat) (w : World) (row : RowS w v l) (hl : l.length ≤ 60) (hd : d ≤ 6) (hg : Good l) :
    Calls Tryd.prog 17 #[v, .int .i64 (d : Int)] w fun e w' => ∃ u S, e = .returned u ∧ SubsAt w' w.heap.size 42 45 u S ∧ S.map Sb.plain = subsI d l ∧ Below w.heap.size w w' := by
  obtain ⟨ao, c, rfl⟩ := row.shape
  by_cases h0 : l.length = 0
  · rw [h0]
    have e : l = [] := List.eq_nil_of_length_eq_zero h0
    subst e
    exact (rflat_zero ao c d w).mono fun e w' ⟨he, hb⟩ => ⟨_, [], he, SubsAt.nil _ _ _ _, rfl, hb⟩
  · obtain ⟨b, o, rfl, hb, hs⟩ := row.addr (k := 0) (by omega)
    exact rflat_walk b o c l.length d l w rfl hl hb hs hd hg
end Go.Proofs.YtffgpikhahpomaaDoor
