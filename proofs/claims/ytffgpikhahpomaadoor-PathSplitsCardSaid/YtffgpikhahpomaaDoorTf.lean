/- Layer 6: the document's Parts: what lies in memory. Layer 6: the document's Parts of a line. Layer 6: the document's Parts of a curve of degree 2. -/
import Derived.Test.YtffgpikhahpomaaDoorTc
import Derived.Test.YtffgpikhahpomaaDoorSn
import Derived.Test.YtffgpikhahpomaaDoorX
import Derived.Test.YtffgpikhahpomaaDoorHs
import Derived.Test.YtffgpikhahpomaaDoorSc
namespace Go.Proofs.YtffgpikhahpomaaDoor
open Go.RowKit
theorem results_parts {fn : Func} {tmps : Array Value} {W : World} {g k : Nat} {x y : Sg} (a b : Nat) (hres : fn.results = #[.cell a 60, .cell b 60]) (ha : tmps[a]? = some (.pointer (some ⟨g, 0, none⟩))) (hb : tmps[b]? = some (.pointer (some ⟨k, 0, none⟩))) (hg : Blk W g 60 x.cells) (hk : Blk W k 60 y.cells) :
    (results fn tmps).run Tryd.prog W = .ok (.tuple #[.agg x.cells, .agg y.cells]) W := by
  have d0 := hg.s0
  have d1 := hg.s1
  have d2 := hg.s2
  have d3 := hg.s3
  have d4 := hg.s4
  have d5 := hg.s5
  have d6 := hg.s6
  have c0 := hk.s0
  have c1 := hk.s1
  have c2 := hk.s2
  have c3 := hk.s3
  have c4 := hk.s4
  have c5 := hk.s5
  have c6 := hk.s6
  simp [results, hres, ha, hb, go_sem, c0, c1, c2, c3, c4, c5, c6, d0, d1, d2, d3, d4, d5, d6, Sg.cells]
/-- The six variables of Parts. -/
structure Six (w W : World) (g6 g7 g8 g9 : Nat) (s a b : Sg) (f : Pt) : Prop where
  below : Below w.heap.size w W
  k4 : Blk W w.heap.size 60 zSg.cells
  k5 : Blk W (w.heap.size + 1) 60 zSg.cells
  k6 : Blk W g6 60 s.cells
  k7 : Blk W g7 45 (two f)
  k8 : Blk W g8 60 a.cells
  k9 : Blk W g9 60 b.cells
/-- They are six. -/
structure Six6 (N g6 g7 g8 g9 : Nat) : Prop where
  l6 : N + 1 < g6
  l7 : N + 1 < g7
  l8 : N + 1 < g8
  l9 : N + 1 < g9
  d67 : g6 ≠ g7
  d68 : g6 ≠ g8
  d69 : g6 ≠ g9
  d78 : g7 ≠ g8
  d79 : g7 ≠ g9
  d89 : g8 ≠ g9
section
variable {w W W' : World} {g6 g7 g8 g9 : Nat} {s a b : Sg} {f : Pt}
theorem Six.grow (h : Six w W g6 g7 g8 g9 s a b f) (hb : Below W.heap.size W W') : Six w W' g6 g7 g8 g9 s a b f :=
  ⟨below_next h.below hb, h.k4.grow hb, h.k5.grow hb, h.k6.grow hb, h.k7.grow hb, h.k8.grow hb, h.k9.grow hb⟩
theorem Six.st8 (h : Six w W g6 g7 g8 g9 s a b f) (d : Six6 w.heap.size g6 g7 g8 g9) (i j : Nat) (u v : Value) (a' : Sg) (hc : (a.cells.setIfInBounds i u).setIfInBounds j v = a'.cells) : Six w ((W.setCell ⟨g8, i, none⟩ u).setCell ⟨g8, j, none⟩ v) g6 g7 g8 g9 s a' b f := by
  have l8 := d.l8
  refine ⟨(h.below.setCell (by dsimp only; omega) _).setCell (by dsimp only; omega) _, (h.k4.other _ _ (by dsimp only; omega)).other _ _ (by dsimp only; omega), (h.k5.other _ _ (by dsimp only; omega)).other _ _ (by dsimp only; omega), (h.k6.other _ _ d.d68).other _ _ d.d68, (h.k7.other _ _ d.d78).other _ _ d.d78, ?_, (h.k9.other _ _ (Ne.symm d.d89)).other _ _ (Ne.symm d.d89)⟩
  rw [← hc]
  exact (h.k8.set i u).set j v
theorem Six.st9 (h : Six w W g6 g7 g8 g9 s a b f) (d : Six6 w.heap.size g6 g7 g8 g9) (i j : Nat) (u v : Value) (b' : Sg) (hc : (b.cells.setIfInBounds i u).setIfInBounds j v = b'.cells) : Six w ((W.setCell ⟨g9, i, none⟩ u).setCell ⟨g9, j, none⟩ v) g6 g7 g8 g9 s a b' f := by
  have l9 := d.l9
  refine ⟨(h.below.setCell (by dsimp only; omega) _).setCell (by dsimp only; omega) _, (h.k4.other _ _ (by dsimp only; omega)).other _ _ (by dsimp only; omega), (h.k5.other _ _ (by dsimp only; omega)).other _ _ (by dsimp only; omega), (h.k6.other _ _ d.d69).other _ _ d.d69, (h.k7.other _ _ d.d79).other _ _ d.d79, (h.k8.other _ _ d.d89).other _ _ d.d89, ?_⟩
  rw [← hc]
  exact (h.k9.set i u).set j v
end
end Go.Proofs.YtffgpikhahpomaaDoor
namespace Go.Proofs.YtffgpikhahpomaaDoor
open Go.RowKit
set_option maxHeartbeats 4000000 in
set_option maxRecDepth 100000 in
theorem parts_line (b o n c I : Nat) (l : List Sg) (s : Sg) (f : Pt) (w : World) (hI : I < n) (HSG : Hid (SegsAt w b o l ∧ b < w.heap.size)) (HQ : Hid (l[I]? = some s))
    (HFROM : Hid (∀ W, Below w.heap.size w W → Calls Tryd.prog 26 #[.slice (some ⟨b, o, none⟩) n c, .int .i64 (I : Int)] W fun e w' => e = .returned (.agg #[.int .i64 f.1, .int .i64 f.2]) ∧ Below W.heap.size W w'))
    (HK : Hid (s.k = 2)) (HMI : Hid (∀ W, Calls Tryd.prog 45 #[.agg #[.int .i64 f.1, .int .i64 f.2], .agg #[.int .i64 s.p.1, .int .i64 s.p.2]] W fun e w' => e = .returned (.agg #[.int .i64 (midI f s.p).1, .int .i64 (midI f s.p).2]) ∧ Below W.heap.size W w')) :
    Calls Tryd.prog 25 #[.slice (some ⟨b, o, none⟩) n c, .int .i64 (I : Int)] w fun e w' => e = .returned (.tuple #[.agg (seven s.k (midI f s.p) s.q s.r), .agg (seven s.k s.p s.q s.r)]) ∧ Below w.heap.size w w' := by
  have hIn : (I : Int) < (n : Int) := by omega
  go_enter Tryd.func25, Tryd.ntmps25
  go_wp2_with fail
  obtain ⟨w1, hw1⟩ : ∃ W, (w.alloc (.cells zSeven 60)).alloc (.cells zSeven 60) = W := ⟨_, rfl⟩
  have B1 : Hid (Below w.heap.size w w1 ∧ Blk w1 w.heap.size 60 zSg.cells ∧ Blk w1 (w.heap.size + 1) 60 zSg.cells) := by
    rw [← hw1]
    exact ⟨((Below.refl _ _).alloc (Nat.le_refl _) _).alloc (by simp) _, (Blk.new _ _ _).alloc _, Blk.newAt _ _ _ (by simp)⟩
  rw [show (w.alloc (.cells zSeven 60)).alloc (.cells zSeven 60) = w1 from hw1]
  clear hw1
  refine wp_region_put2 (by kernel_rfl) (by kernel_rfl) (by kernel_rfl) (fun b' vs w' => (b' 0 = true → vs 0 = .slice (some ⟨b, o, none⟩) n c) ∧ (b' 1 = true → vs 1 = .int .i64 (I : Int)) ∧ (b' 2 = true → vs 2 = .pointer (some ⟨b, o + I * 7, none⟩)) ∧ (b' 3 = true → vs 3 = .agg (seven s.k s.p s.q s.r)) ∧ (b' 4 = true → vs 4 = .slice (some ⟨b, o, none⟩) n c) ∧ (b' 5 = true → vs 5 = .int .i64 (I : Int)) ∧ (b' 6 = true → vs 6 = .agg #[.int .i64 f.1, .int .i64 f.2]) ∧ Hid (LayG w1 [⟨7, 9, 60, zSeven, s.cells⟩, ⟨8, 10, 45, two (0, 0), two (f.1, f.2)⟩] b' vs w')) ?_ ?_ ?_
  · intro vs hvs
    exact ⟨fun h => Bool.noConfusion h, fun h => Bool.noConfusion h, fun h => Bool.noConfusion h, fun h => Bool.noConfusion h, fun h => Bool.noConfusion h, fun h => Bool.noConfusion h, fun h => Bool.noConfusion h, LayG.start vs⟩
  · rintro b' vs w' i op hi hun hall ⟨h0, h1, h2, h3, h4, h5, h6, hM⟩
    have hil : i < 11 := (List.getElem?_eq_some_iff.1 hi).1
    rcases i with _ | _ | _ | _ | _ | _ | _ | _ | _ | _ | _ | i
    · obtain rfl := Option.some.inj hi
      refine wpOp_step rfl (fun K hK => ?_)
      have HKK := Lib.hid hK; clear hK
      simp only [putAll, Act.put, List.setIfInBounds_toArray, List.set_cons_zero, List.set_cons_succ]
      go_simp
      exact HKK.out _ _ ⟨_, by simp only [putAll, Act.put, List.setIfInBounds_toArray, List.set_cons_zero, List.set_cons_succ] <;> rfl, fun _ => rfl, h1, h2, h3, h4, h5, h6, LayG.other hM.out 0 _ rfl⟩
    · obtain rfl := Option.some.inj hi
      refine wpOp_step rfl (fun K hK => ?_)
      have HKK := Lib.hid hK; clear hK
      simp only [putAll, Act.put, List.setIfInBounds_toArray, List.set_cons_zero, List.set_cons_succ]
      go_simp
      exact HKK.out _ _ ⟨_, by simp only [putAll, Act.put, List.setIfInBounds_toArray, List.set_cons_zero, List.set_cons_succ] <;> rfl, h0, fun _ => rfl, h2, h3, h4, h5, h6, LayG.other hM.out 1 _ rfl⟩
    · obtain rfl := Option.some.inj hi
      have d0 := h0 (hall ⟨0, .data⟩ (by simp) rfl)
      have d1 := h1 (hall ⟨1, .data⟩ (by simp) rfl)
      refine wpOp_step rfl (fun K hK => ?_)
      have HKK := Lib.hid hK; clear hK
      simp only [putAll, Act.put, List.setIfInBounds_toArray, List.set_cons_zero, List.set_cons_succ, d0, d1]
      go_simp
      exact HKK.out _ _ ⟨_, by simp only [putAll, Act.put, List.setIfInBounds_toArray, List.set_cons_zero, List.set_cons_succ, d0, d1] <;> rfl, h0, h1, fun _ => rfl, h3, h4, h5, h6, LayG.other hM.out 2 _ rfl⟩
    · obtain rfl := Option.some.inj hi
      have d2 := h2 (hall ⟨2, .data⟩ (by simp) rfl)
      have hs := HSG.out.1.on (below_next B1.out.1 (LayG.below hM.out)) HSG.out.2
      have c0 : w'.cell? ⟨b, o + I * 7, none⟩ = some (.int .i64 s.k) := hs.c0 HQ.out
      have c1 : w'.cell? ⟨b, o + I * 7 + 1, none⟩ = some (.int .i64 s.p.1) := hs.c1 HQ.out
      have c2 : w'.cell? ⟨b, o + I * 7 + 2, none⟩ = some (.int .i64 s.p.2) := hs.c2 HQ.out
      have c3 : w'.cell? ⟨b, o + I * 7 + 3, none⟩ = some (.int .i64 s.q.1) := hs.c3 HQ.out
      have c4 : w'.cell? ⟨b, o + I * 7 + 4, none⟩ = some (.int .i64 s.q.2) := hs.c4 HQ.out
      have c5 : w'.cell? ⟨b, o + I * 7 + 5, none⟩ = some (.int .i64 s.r.1) := hs.c5 HQ.out
      have c6 : w'.cell? ⟨b, o + I * 7 + 6, none⟩ = some (.int .i64 s.r.2) := hs.c6 HQ.out
      clear hs
      refine wpOp_step rfl (fun K hK => ?_)
      have HKK := Lib.hid hK; clear hK
      simp only [putAll, Act.put, List.setIfInBounds_toArray, List.set_cons_zero, List.set_cons_succ, d2]
      go_simp
      exact HKK.out _ _ ⟨_, by simp only [putAll, Act.put, List.setIfInBounds_toArray, List.set_cons_zero, List.set_cons_succ, d2] <;> rfl, h0, h1, h2, fun _ => rfl, h4, h5, h6, LayG.other hM.out 3 _ rfl⟩
    · obtain rfl := Option.some.inj hi
      refine wpOp_step rfl (fun K hK => ?_)
      have HKK := Lib.hid hK; clear hK
      simp only [putAll, Act.put, List.setIfInBounds_toArray, List.set_cons_zero, List.set_cons_succ]
      go_simp
      exact HKK.out _ _ ⟨_, by simp only [putAll, Act.put, List.setIfInBounds_toArray, List.set_cons_zero, List.set_cons_succ] <;> rfl, h0, h1, h2, h3, fun _ => rfl, h5, h6, LayG.other hM.out 4 _ rfl⟩
    · obtain rfl := Option.some.inj hi
      refine wpOp_step rfl (fun K hK => ?_)
      have HKK := Lib.hid hK; clear hK
      simp only [putAll, Act.put, List.setIfInBounds_toArray, List.set_cons_zero, List.set_cons_succ]
      go_simp
      exact HKK.out _ _ ⟨_, by simp only [putAll, Act.put, List.setIfInBounds_toArray, List.set_cons_zero, List.set_cons_succ] <;> rfl, h0, h1, h2, h3, h4, fun _ => rfl, h6, LayG.other hM.out 5 _ rfl⟩
    · obtain rfl := Option.some.inj hi
      have d4 := h4 (hall ⟨4, .data⟩ (by simp) rfl)
      have d5 := h5 (hall ⟨5, .data⟩ (by simp) rfl)
      refine wpOp_step rfl (fun K hK => ?_)
      have HKK := Lib.hid hK; clear hK
      simp only [putAll, Act.put, List.setIfInBounds_toArray, List.set_cons_zero, List.set_cons_succ, d4, d5]
      go_simp
      refine (HFROM.out _ (below_next B1.out.1 (LayG.below hM.out))).mono ?_
      rintro e w9 ⟨rfl, hb9⟩
      exact HKK.out _ _ ⟨_, by simp only [putAll, Act.put, List.setIfInBounds_toArray, List.set_cons_zero, List.set_cons_succ, d4, d5] <;> rfl, h0, h1, h2, h3, h4, h5, fun _ => rfl, (LayG.other hM.out 6 _ rfl).grow hb9⟩
    · obtain rfl := Option.some.inj hi
      refine wpOp_step rfl (fun K hK => ?_)
      have HKK := Lib.hid hK; clear hK
      simp only [putAll, Act.put, List.setIfInBounds_toArray, List.set_cons_zero, List.set_cons_succ]
      go_simp
      exact HKK.out _ _ ⟨_, by simp only [putAll, Act.put, List.setIfInBounds_toArray, List.set_cons_zero, List.set_cons_succ] <;> rfl, h0, h1, h2, h3, h4, h5, h6, LayG.made hM.out rfl ⟨7, 9, 60, zSeven, s.cells⟩ (by simp) hun⟩
    · obtain rfl := Option.some.inj hi
      refine wpOp_step rfl (fun K hK => ?_)
      have HKK := Lib.hid hK; clear hK
      simp only [putAll, Act.put, List.setIfInBounds_toArray, List.set_cons_zero, List.set_cons_succ]
      go_simp
      exact HKK.out _ _ ⟨_, by simp only [putAll, Act.put, List.setIfInBounds_toArray, List.set_cons_zero, List.set_cons_succ] <;> rfl, h0, h1, h2, h3, h4, h5, h6, LayG.made hM.out rfl ⟨8, 10, 45, two (0, 0), two (f.1, f.2)⟩ (by simp) hun⟩
    · obtain rfl := Option.some.inj hi
      have d3 := h3 (hall ⟨3, .data⟩ (by simp) rfl)
      have dal := hall ⟨7, .data⟩ (by simp) rfl
      obtain ⟨g, eg, lg, kg⟩ := LayG.at hM.out ⟨7, 9, 60, zSeven, s.cells⟩ (by simp) dal hun
      have kz : Blk w' g 60 zSg.cells := kg
      have c0 := kz.s0
      have c1 := kz.s1
      have c2 := kz.s2
      have c3 := kz.s3
      have c4 := kz.s4
      have c5 := kz.s5
      have c6 := kz.s6
      have f0 := kg.free 0
      have f1 := kg.free 1
      have f2 := kg.free 2
      have f3 := kg.free 3
      have f4 := kg.free 4
      have f5 := kg.free 5
      have f6 := kg.free 6
      have lgw := kg.lt
      refine wpOp_step rfl (fun K hK => ?_)
      have HKK := Lib.hid hK; clear hK
      simp only [putAll, Act.put, List.setIfInBounds_toArray, List.set_cons_zero, List.set_cons_succ, d3, eg]
      go_simp
      exact HKK.out _ _ ⟨undef, by simp only [putAll, Act.put, List.setIfInBounds_toArray, List.set_cons_zero, List.set_cons_succ, d3, eg] <;> rfl, h0, h1, h2, h3, h4, h5, h6, LayG.stored hM.out rfl ⟨7, 9, 60, zSeven, s.cells⟩ (by simp) undef dal eg (below_seven (LayG.below hM.out) lg _ _ _ _ _ _ _) (kz.setS s) (fun _ _ _ hne k => k.other7 hne _ _ _ _ _ _ _)⟩
    · obtain rfl := Option.some.inj hi
      have d6 := h6 (hall ⟨6, .data⟩ (by simp) rfl)
      have dal := hall ⟨8, .data⟩ (by simp) rfl
      obtain ⟨g, eg, lg, kg⟩ := LayG.at hM.out ⟨8, 10, 45, two (0, 0), two (f.1, f.2)⟩ (by simp) dal hun
      have kz : Blk w' g 45 (two (0, 0)) := kg
      have c0 := kz.p0
      have c1 := kz.p1
      have f0 := kg.free 0
      have f1 := kg.free 1
      have lgw := kg.lt
      refine wpOp_step rfl (fun K hK => ?_)
      have HKK := Lib.hid hK; clear hK
      simp only [putAll, Act.put, List.setIfInBounds_toArray, List.set_cons_zero, List.set_cons_succ, d6, eg]
      go_simp
      exact HKK.out _ _ ⟨undef, by simp only [putAll, Act.put, List.setIfInBounds_toArray, List.set_cons_zero, List.set_cons_succ, d6, eg] <;> rfl, h0, h1, h2, h3, h4, h5, h6, LayG.stored hM.out rfl ⟨8, 10, 45, two (0, 0), two (f.1, f.2)⟩ (by simp) undef dal eg (below_two (LayG.below hM.out) lg _ _) (kz.setP _ _) (fun _ _ _ hne k => k.otherP hne _ _)⟩
    · exact absurd hil (by omega)
  · rintro b' vs w' hb ⟨h0, h1, h2, h3, h4, h5, h6, hM⟩
    obtain ⟨g6, e7, l6, k6⟩ := LayG.done hM.out ⟨7, 9, 60, zSeven, s.cells⟩ (by simp) (hb 7 (by decide)) (hb 9 (by decide))
    obtain ⟨g7, e8, l7, k7⟩ := LayG.done hM.out ⟨8, 10, 45, two (0, 0), two (f.1, f.2)⟩ (by simp) (hb 8 (by decide)) (hb 10 (by decide))
    have hne : g6 ≠ g7 := LayG.ne hM.out ⟨7, 9, 60, zSeven, s.cells⟩ ⟨8, 10, 45, two (0, 0), two (f.1, f.2)⟩ (by simp) (by simp) (show (7 : Nat) ≠ 8 by decide) (hb 7 (by decide)) (hb 8 (by decide)) e7 e8
    have hbw := LayG.below hM.out
    simp only [putAll, Act.put, List.setIfInBounds_toArray, List.set_cons_zero, List.set_cons_succ, e7, e8]
    clear h0 h1 h2 h3 h4 h5 h6 hM hb e7 e8
    generalize vs 0 = r60
    generalize vs 1 = r61
    generalize vs 2 = r62
    generalize vs 3 = r63
    generalize vs 4 = r64
    generalize vs 5 = r65
    generalize vs 6 = r66
    have S2 : Hid (Below w.heap.size w w' ∧ Blk w' w.heap.size 60 zSg.cells ∧ Blk w' (w.heap.size + 1) 60 zSg.cells ∧ Blk w' g6 60 (s).cells ∧ Blk w' g7 45 (two f) ∧ (w.heap.size + 1 < g6 ∧ w.heap.size + 1 < g7 ∧ g6 ≠ g7)) := ⟨below_next B1.out.1 hbw, B1.out.2.1.grow hbw, B1.out.2.2.grow hbw, k6, k7, by have := B1.out.2.2.lt; omega, by have := B1.out.2.2.lt; omega, hne⟩
    clear hbw hne k6 k7 l6 l7
    obtain ⟨w2, hw2⟩ : ∃ W, w' = W := ⟨_, rfl⟩
    rw [hw2] at S2 ⊢
    clear hw2
    go_wp2_with fail
    refine wp_region_put2 (by kernel_rfl) (by kernel_rfl) (by kernel_rfl) (fun b' vs w' => (b' 0 = true → vs 0 = .agg (seven s.k s.p s.q s.r)) ∧ (b' 1 = true → vs 1 = .agg (seven s.k s.p s.q s.r)) ∧ Hid (LayG w2 [⟨2, 4, 60, zSeven, s.cells⟩, ⟨3, 5, 60, zSeven, s.cells⟩] b' vs w')) ?_ ?_ ?_
    · intro vs hvs
      exact ⟨fun h => Bool.noConfusion h, fun h => Bool.noConfusion h, LayG.start vs⟩
    · rintro b' vs w' i op hi hun hall ⟨h0, h1, hM⟩
      have hil : i < 6 := (List.getElem?_eq_some_iff.1 hi).1
      rcases i with _ | _ | _ | _ | _ | _ | i
      · obtain rfl := Option.some.inj hi
        have kk := (LayG.below hM.out)
        have ks : Blk w' g6 60 (s).cells := S2.out.2.2.2.1.grow kk
        have c0 := ks.s0
        have c1 := ks.s1
        have c2 := ks.s2
        have c3 := ks.s3
        have c4 := ks.s4
        have c5 := ks.s5
        have c6 := ks.s6
        clear ks kk
        refine wpOp_step rfl (fun K hK => ?_)
        have HKK := Lib.hid hK; clear hK
        simp only [putAll, Act.put, List.setIfInBounds_toArray, List.set_cons_zero, List.set_cons_succ]
        go_simp
        exact HKK.out _ _ ⟨_, by simp only [putAll, Act.put, List.setIfInBounds_toArray, List.set_cons_zero, List.set_cons_succ] <;> rfl, fun _ => rfl, h1, LayG.other hM.out 0 _ rfl⟩
      · obtain rfl := Option.some.inj hi
        have kk := (LayG.below hM.out)
        have ks : Blk w' g6 60 (s).cells := S2.out.2.2.2.1.grow kk
        have c0 := ks.s0
        have c1 := ks.s1
        have c2 := ks.s2
        have c3 := ks.s3
        have c4 := ks.s4
        have c5 := ks.s5
        have c6 := ks.s6
        clear ks kk
        refine wpOp_step rfl (fun K hK => ?_)
        have HKK := Lib.hid hK; clear hK
        simp only [putAll, Act.put, List.setIfInBounds_toArray, List.set_cons_zero, List.set_cons_succ]
        go_simp
        exact HKK.out _ _ ⟨_, by simp only [putAll, Act.put, List.setIfInBounds_toArray, List.set_cons_zero, List.set_cons_succ] <;> rfl, h0, fun _ => rfl, LayG.other hM.out 1 _ rfl⟩
      · obtain rfl := Option.some.inj hi
        refine wpOp_step rfl (fun K hK => ?_)
        have HKK := Lib.hid hK; clear hK
        simp only [putAll, Act.put, List.setIfInBounds_toArray, List.set_cons_zero, List.set_cons_succ]
        go_simp
        exact HKK.out _ _ ⟨_, by simp only [putAll, Act.put, List.setIfInBounds_toArray, List.set_cons_zero, List.set_cons_succ] <;> rfl, h0, h1, LayG.made hM.out rfl ⟨2, 4, 60, zSeven, s.cells⟩ (by simp) hun⟩
      · obtain rfl := Option.some.inj hi
        refine wpOp_step rfl (fun K hK => ?_)
        have HKK := Lib.hid hK; clear hK
        simp only [putAll, Act.put, List.setIfInBounds_toArray, List.set_cons_zero, List.set_cons_succ]
        go_simp
        exact HKK.out _ _ ⟨_, by simp only [putAll, Act.put, List.setIfInBounds_toArray, List.set_cons_zero, List.set_cons_succ] <;> rfl, h0, h1, LayG.made hM.out rfl ⟨3, 5, 60, zSeven, s.cells⟩ (by simp) hun⟩
      · obtain rfl := Option.some.inj hi
        have d0 := h0 (hall ⟨0, .data⟩ (by simp) rfl)
        have dal := hall ⟨2, .data⟩ (by simp) rfl
        obtain ⟨g, eg, lg, kg⟩ := LayG.at hM.out ⟨2, 4, 60, zSeven, s.cells⟩ (by simp) dal hun
        have kz : Blk w' g 60 zSg.cells := kg
        have c0 := kz.s0
        have c1 := kz.s1
        have c2 := kz.s2
        have c3 := kz.s3
        have c4 := kz.s4
        have c5 := kz.s5
        have c6 := kz.s6
        have f0 := kg.free 0
        have f1 := kg.free 1
        have f2 := kg.free 2
        have f3 := kg.free 3
        have f4 := kg.free 4
        have f5 := kg.free 5
        have f6 := kg.free 6
        have lgw := kg.lt
        refine wpOp_step rfl (fun K hK => ?_)
        have HKK := Lib.hid hK; clear hK
        simp only [putAll, Act.put, List.setIfInBounds_toArray, List.set_cons_zero, List.set_cons_succ, d0, eg]
        go_simp
        exact HKK.out _ _ ⟨undef, by simp only [putAll, Act.put, List.setIfInBounds_toArray, List.set_cons_zero, List.set_cons_succ, d0, eg] <;> rfl, h0, h1, LayG.stored hM.out rfl ⟨2, 4, 60, zSeven, s.cells⟩ (by simp) undef dal eg (below_seven (LayG.below hM.out) lg _ _ _ _ _ _ _) (kz.setS s) (fun _ _ _ hne k => k.other7 hne _ _ _ _ _ _ _)⟩
      · obtain rfl := Option.some.inj hi
        have d1 := h1 (hall ⟨1, .data⟩ (by simp) rfl)
        have dal := hall ⟨3, .data⟩ (by simp) rfl
        obtain ⟨g, eg, lg, kg⟩ := LayG.at hM.out ⟨3, 5, 60, zSeven, s.cells⟩ (by simp) dal hun
        have kz : Blk w' g 60 zSg.cells := kg
        have c0 := kz.s0
        have c1 := kz.s1
        have c2 := kz.s2
        have c3 := kz.s3
        have c4 := kz.s4
        have c5 := kz.s5
        have c6 := kz.s6
        have f0 := kg.free 0
        have f1 := kg.free 1
        have f2 := kg.free 2
        have f3 := kg.free 3
        have f4 := kg.free 4
        have f5 := kg.free 5
        have f6 := kg.free 6
        have lgw := kg.lt
        refine wpOp_step rfl (fun K hK => ?_)
        have HKK := Lib.hid hK; clear hK
        simp only [putAll, Act.put, List.setIfInBounds_toArray, List.set_cons_zero, List.set_cons_succ, d1, eg]
        go_simp
        exact HKK.out _ _ ⟨undef, by simp only [putAll, Act.put, List.setIfInBounds_toArray, List.set_cons_zero, List.set_cons_succ, d1, eg] <;> rfl, h0, h1, LayG.stored hM.out rfl ⟨3, 5, 60, zSeven, s.cells⟩ (by simp) undef dal eg (below_seven (LayG.below hM.out) lg _ _ _ _ _ _ _) (kz.setS s) (fun _ _ _ hne k => k.other7 hne _ _ _ _ _ _ _)⟩
      · exact absurd hil (by omega)
    · rintro b' vs w' hb ⟨h0, h1, hM⟩
      obtain ⟨g8, e2, l8, k8⟩ := LayG.done hM.out ⟨2, 4, 60, zSeven, s.cells⟩ (by simp) (hb 2 (by decide)) (hb 4 (by decide))
      obtain ⟨g9, e3, l9, k9⟩ := LayG.done hM.out ⟨3, 5, 60, zSeven, s.cells⟩ (by simp) (hb 3 (by decide)) (hb 5 (by decide))
      have hne : g8 ≠ g9 := LayG.ne hM.out ⟨2, 4, 60, zSeven, s.cells⟩ ⟨3, 5, 60, zSeven, s.cells⟩ (by simp) (by simp) (show (2 : Nat) ≠ 3 by decide) (hb 2 (by decide)) (hb 3 (by decide)) e2 e3
      have hbw := LayG.below hM.out
      simp only [putAll, Act.put, List.setIfInBounds_toArray, List.set_cons_zero, List.set_cons_succ, e2, e3]
      clear h0 h1 hM hb e2 e3
      generalize vs 0 = r80
      generalize vs 1 = r81
      have S4 : Hid (Six w w' g6 g7 g8 g9 (s) (s) (s) f ∧ Six6 w.heap.size g6 g7 g8 g9) := by
        obtain ⟨hb2, k4, k5, k6, k7, hd⟩ := S2.out
        exact ⟨⟨below_next hb2 hbw, k4.grow hbw, k5.grow hbw, k6.grow hbw, k7.grow hbw, k8, k9⟩, ⟨hd.1, hd.2.1, by have := k5.lt; omega, by have := k5.lt; omega, hd.2.2, by have := k6.lt; omega, by have := k6.lt; omega, by have := k7.lt; omega, by have := k7.lt; omega, hne⟩⟩
      clear hbw hne k8 k9 l8 l9 S2
      have k6 := S4.out.1.k6
      have k7 := S4.out.1.k7
      have c0 := k6.s0
      have c1 := k6.s1
      have c2 := k6.s2
      have c3 := k6.s3
      have c4 := k6.s4
      have c5 := k6.s5
      have c6 := k6.s6
      have m0 : w'.cell? ⟨g7, 0, none⟩ = some (.int .i64 f.1) := k7.cell 0
      have m1 : w'.cell? ⟨g7, 1, none⟩ = some (.int .i64 f.2) := k7.cell 1
      clear k6 k7
      have e2 : (s.k == 2) = true := by have := HK.out; simp [this]
      go_wp2_with fail
      clear e2
      refine (HMI.out _).mono ?_
      rintro e w5 ⟨rfl, hb5⟩
      have S5 := Lib.hid (And.intro (S4.out.1.grow hb5) S4.out.2)
      clear hb5
      have k8 := S5.out.1.k8
      have c1 := k8.s1
      have c2 := k8.s2
      have f1 := k8.free 1
      have f2 := k8.free 2
      have lt8 := k8.lt
      clear k8
      go_wp2_with fail
      obtain ⟨A, hA⟩ : ∃ A : Sg, A = ⟨s.k, midI f s.p, s.q, s.r⟩ := ⟨_, rfl⟩
      have HA := Lib.hid hA
      have SZ : Hid (Six w ((w5.setCell ⟨g8, 1, none⟩ (.int .i64 (midI f s.p).1)).setCell ⟨g8, 2, none⟩ (.int .i64 (midI f s.p).2)) g6 g7 g8 g9 s A s f ∧ Six6 w.heap.size g6 g7 g8 g9) := ⟨S5.out.1.st8 S5.out.2 1 2 _ _ A (by rw [hA]; rfl), S5.out.2⟩
      clear hA
      generalize (w5.setCell ⟨g8, 1, none⟩ (.int .i64 (midI f s.p).1)).setCell ⟨g8, 2, none⟩ (.int .i64 (midI f s.p).2) = w6 at SZ ⊢
      clear S4 S5 c0 c1 c2 c3 c4 c5 c6 m0 m1 f1 f2 lt8
      have ka := SZ.out.1.k8
      have kb := SZ.out.1.k9
      have k4 := SZ.out.1.k4
      have k5 := SZ.out.1.k5
      have a0 := ka.s0
      have a1 := ka.s1
      have a2 := ka.s2
      have a3 := ka.s3
      have a4 := ka.s4
      have a5 := ka.s5
      have a6 := ka.s6
      have b0 := kb.s0
      have b1 := kb.s1
      have b2 := kb.s2
      have b3 := kb.s3
      have b4 := kb.s4
      have b5 := kb.s5
      have b6 := kb.s6
      have p0 := k4.s0
      have p1 := k4.s1
      have p2 := k4.s2
      have p3 := k4.s3
      have p4 := k4.s4
      have p5 := k4.s5
      have p6 := k4.s6
      have q0 := k5.s0
      have q1 := k5.s1
      have q2 := k5.s2
      have q3 := k5.s3
      have q4 := k5.s4
      have q5 := k5.s5
      have q6 := k5.s6
      have pf := fun j => k4.free j
      have qf := fun j => k5.free j
      have pl := k4.lt
      have ql := k5.lt
      have al := ka.lt
      have bl := kb.lt
      have hg8 := SZ.out.2.l8
      have hg9 := SZ.out.2.l9
      have hg8a : g8 ≠ w.heap.size := by omega
      have hg9a : g9 ≠ w.heap.size := by omega
      have hg8b : g8 ≠ w.heap.size + 1 := by omega
      have hg9b : g9 ≠ w.heap.size + 1 := by omega
      clear ka kb k4 k5
      go_wp2_with fail
      go_region
      go_wp2_with fail
      clear a0 a1 a2 a3 a4 a5 a6 b0 b1 b2 b3 b4 b5 b6 p0 p1 p2 p3 p4 p5 p6 q0 q1 q2 q3 q4 q5 q6 pf qf pl ql al bl hg8 hg9 hg8a hg9a hg8b hg9b
      generalize hwf : World.setCell _ _ _ = wf
      have KF : Hid (Blk wf w.heap.size 60 A.cells ∧ Blk wf (w.heap.size + 1) 60 s.cells ∧ Below w.heap.size w wf) := by
        rw [← hwf]
        refine ⟨?_, ?_, ?_⟩
        · iterate 7 refine Blk.other ?_ _ _ (by dsimp only; omega)
          exact Blk.setS (s := zSg) SZ.out.1.k4 A
        · refine Blk.setS (s := zSg) ?_ s
          iterate 7 refine Blk.other ?_ _ _ (by dsimp only; omega)
          exact SZ.out.1.k5
        · have h := SZ.out.1.below
          iterate 14 refine Below.setCell ?_ (by dsimp only; omega) _
          exact h
      clear hwf
      rw [show (Value.tuple #[.agg (seven s.k (midI f s.p) s.q s.r), .agg (seven s.k s.p s.q s.r)]) = .tuple #[.agg A.cells, .agg s.cells] by rw [HA.out]; rfl]
      exact bodyPost_ret (results_parts 4 5 rfl rfl rfl KF.out.1.drew KF.out.2.1.drew) rfl ⟨rfl, below_drewN KF.out.2.2 1⟩
end Go.Proofs.YtffgpikhahpomaaDoor
namespace Go.Proofs.YtffgpikhahpomaaDoor
open Go.RowKit
/-- The first points of a segment put elsewhere. -/
def mixP (s : Sg) (p q r : Pt) : Nat → Sg
  | 0 => s
  | 1 => ⟨s.k, p, s.q, s.r⟩
  | 2 => ⟨s.k, p, q, s.r⟩
  | _ => ⟨s.k, p, q, r⟩
set_option maxHeartbeats 4000000 in
set_option maxRecDepth 100000 in
theorem parts_quad (b o n c I : Nat) (l : List Sg) (s : Sg) (f : Pt) (w : World) (hI : I < n) (HSG : Hid (SegsAt w b o l ∧ b < w.heap.size)) (HQ : Hid (l[I]? = some s))
    (HFROM : Hid (∀ W, Below w.heap.size w W → Calls Tryd.prog 26 #[.slice (some ⟨b, o, none⟩) n c, .int .i64 (I : Int)] W fun e w' => e = .returned (.agg #[.int .i64 f.1, .int .i64 f.2]) ∧ Below W.heap.size W w'))
    (x0 x1 x2 y0 y1 y2 : Pt) (HK : Hid (s.k = 3))
    (HND : Hid (∀ W, Calls Tryd.prog 14 #[.int .i64 s.k] W fun e w' => e = .returned (.int .i64 2) ∧ W = w'))
    (HHA : Hid (∀ W v, Row W v [f, s.p, s.q] → Calls Tryd.prog 46 #[v] W fun e w' => ∃ a b, e = .returned (.tuple #[a, b]) ∧ Own w' W.heap.size 45 a [x0, x1, x2] ∧ Own w' W.heap.size 45 b [y0, y1, y2] ∧ Below W.heap.size W w')) :
    Calls Tryd.prog 25 #[.slice (some ⟨b, o, none⟩) n c, .int .i64 (I : Int)] w fun e w' => e = .returned (.tuple #[.agg (mixP s x1 x2 s.r 2).cells, .agg (mixP s y1 y2 s.r 2).cells]) ∧ Below w.heap.size w w' := by
  have hIn : (I : Int) < (n : Int) := by omega
  go_enter Tryd.func25, Tryd.ntmps25
  go_wp2_with fail
  obtain ⟨w1, hw1⟩ : ∃ W, (w.alloc (.cells zSeven 60)).alloc (.cells zSeven 60) = W := ⟨_, rfl⟩
  have B1 : Hid (Below w.heap.size w w1 ∧ Blk w1 w.heap.size 60 zSg.cells ∧ Blk w1 (w.heap.size + 1) 60 zSg.cells) := by
    rw [← hw1]
    exact ⟨((Below.refl _ _).alloc (Nat.le_refl _) _).alloc (by simp) _, (Blk.new _ _ _).alloc _, Blk.newAt _ _ _ (by simp)⟩
  rw [show (w.alloc (.cells zSeven 60)).alloc (.cells zSeven 60) = w1 from hw1]
  clear hw1
  refine wp_region_put2 (by kernel_rfl) (by kernel_rfl) (by kernel_rfl) (fun b' vs w' => (b' 0 = true → vs 0 = .slice (some ⟨b, o, none⟩) n c) ∧ (b' 1 = true → vs 1 = .int .i64 (I : Int)) ∧ (b' 2 = true → vs 2 = .pointer (some ⟨b, o + I * 7, none⟩)) ∧ (b' 3 = true → vs 3 = .agg (seven s.k s.p s.q s.r)) ∧ (b' 4 = true → vs 4 = .slice (some ⟨b, o, none⟩) n c) ∧ (b' 5 = true → vs 5 = .int .i64 (I : Int)) ∧ (b' 6 = true → vs 6 = .agg #[.int .i64 f.1, .int .i64 f.2]) ∧ Hid (LayG w1 [⟨7, 9, 60, zSeven, s.cells⟩, ⟨8, 10, 45, two (0, 0), two (f.1, f.2)⟩] b' vs w')) ?_ ?_ ?_
  · intro vs hvs
    exact ⟨fun h => Bool.noConfusion h, fun h => Bool.noConfusion h, fun h => Bool.noConfusion h, fun h => Bool.noConfusion h, fun h => Bool.noConfusion h, fun h => Bool.noConfusion h, fun h => Bool.noConfusion h, LayG.start vs⟩
  · rintro b' vs w' i op hi hun hall ⟨h0, h1, h2, h3, h4, h5, h6, hM⟩
    have hil : i < 11 := (List.getElem?_eq_some_iff.1 hi).1
    rcases i with _ | _ | _ | _ | _ | _ | _ | _ | _ | _ | _ | i
    · obtain rfl := Option.some.inj hi
      refine wpOp_step rfl (fun K hK => ?_)
      have HKK := Lib.hid hK; clear hK
      simp only [putAll, Act.put, List.setIfInBounds_toArray, List.set_cons_zero, List.set_cons_succ]
      go_simp
      exact HKK.out _ _ ⟨_, by simp only [putAll, Act.put, List.setIfInBounds_toArray, List.set_cons_zero, List.set_cons_succ] <;> rfl, fun _ => rfl, h1, h2, h3, h4, h5, h6, LayG.other hM.out 0 _ rfl⟩
    · obtain rfl := Option.some.inj hi
      refine wpOp_step rfl (fun K hK => ?_)
      have HKK := Lib.hid hK; clear hK
      simp only [putAll, Act.put, List.setIfInBounds_toArray, List.set_cons_zero, List.set_cons_succ]
      go_simp
      exact HKK.out _ _ ⟨_, by simp only [putAll, Act.put, List.setIfInBounds_toArray, List.set_cons_zero, List.set_cons_succ] <;> rfl, h0, fun _ => rfl, h2, h3, h4, h5, h6, LayG.other hM.out 1 _ rfl⟩
    · obtain rfl := Option.some.inj hi
      have d0 := h0 (hall ⟨0, .data⟩ (by simp) rfl)
      have d1 := h1 (hall ⟨1, .data⟩ (by simp) rfl)
      refine wpOp_step rfl (fun K hK => ?_)
      have HKK := Lib.hid hK; clear hK
      simp only [putAll, Act.put, List.setIfInBounds_toArray, List.set_cons_zero, List.set_cons_succ, d0, d1]
      go_simp
      exact HKK.out _ _ ⟨_, by simp only [putAll, Act.put, List.setIfInBounds_toArray, List.set_cons_zero, List.set_cons_succ, d0, d1] <;> rfl, h0, h1, fun _ => rfl, h3, h4, h5, h6, LayG.other hM.out 2 _ rfl⟩
    · obtain rfl := Option.some.inj hi
      have d2 := h2 (hall ⟨2, .data⟩ (by simp) rfl)
      have hs := HSG.out.1.on (below_next B1.out.1 (LayG.below hM.out)) HSG.out.2
      have c0 : w'.cell? ⟨b, o + I * 7, none⟩ = some (.int .i64 s.k) := hs.c0 HQ.out
      have c1 : w'.cell? ⟨b, o + I * 7 + 1, none⟩ = some (.int .i64 s.p.1) := hs.c1 HQ.out
      have c2 : w'.cell? ⟨b, o + I * 7 + 2, none⟩ = some (.int .i64 s.p.2) := hs.c2 HQ.out
      have c3 : w'.cell? ⟨b, o + I * 7 + 3, none⟩ = some (.int .i64 s.q.1) := hs.c3 HQ.out
      have c4 : w'.cell? ⟨b, o + I * 7 + 4, none⟩ = some (.int .i64 s.q.2) := hs.c4 HQ.out
      have c5 : w'.cell? ⟨b, o + I * 7 + 5, none⟩ = some (.int .i64 s.r.1) := hs.c5 HQ.out
      have c6 : w'.cell? ⟨b, o + I * 7 + 6, none⟩ = some (.int .i64 s.r.2) := hs.c6 HQ.out
      clear hs
      refine wpOp_step rfl (fun K hK => ?_)
      have HKK := Lib.hid hK; clear hK
      simp only [putAll, Act.put, List.setIfInBounds_toArray, List.set_cons_zero, List.set_cons_succ, d2]
      go_simp
      exact HKK.out _ _ ⟨_, by simp only [putAll, Act.put, List.setIfInBounds_toArray, List.set_cons_zero, List.set_cons_succ, d2] <;> rfl, h0, h1, h2, fun _ => rfl, h4, h5, h6, LayG.other hM.out 3 _ rfl⟩
    · obtain rfl := Option.some.inj hi
      refine wpOp_step rfl (fun K hK => ?_)
      have HKK := Lib.hid hK; clear hK
      simp only [putAll, Act.put, List.setIfInBounds_toArray, List.set_cons_zero, List.set_cons_succ]
      go_simp
      exact HKK.out _ _ ⟨_, by simp only [putAll, Act.put, List.setIfInBounds_toArray, List.set_cons_zero, List.set_cons_succ] <;> rfl, h0, h1, h2, h3, fun _ => rfl, h5, h6, LayG.other hM.out 4 _ rfl⟩
    · obtain rfl := Option.some.inj hi
      refine wpOp_step rfl (fun K hK => ?_)
      have HKK := Lib.hid hK; clear hK
      simp only [putAll, Act.put, List.setIfInBounds_toArray, List.set_cons_zero, List.set_cons_succ]
      go_simp
      exact HKK.out _ _ ⟨_, by simp only [putAll, Act.put, List.setIfInBounds_toArray, List.set_cons_zero, List.set_cons_succ] <;> rfl, h0, h1, h2, h3, h4, fun _ => rfl, h6, LayG.other hM.out 5 _ rfl⟩
    · obtain rfl := Option.some.inj hi
      have d4 := h4 (hall ⟨4, .data⟩ (by simp) rfl)
      have d5 := h5 (hall ⟨5, .data⟩ (by simp) rfl)
      refine wpOp_step rfl (fun K hK => ?_)
      have HKK := Lib.hid hK; clear hK
      simp only [putAll, Act.put, List.setIfInBounds_toArray, List.set_cons_zero, List.set_cons_succ, d4, d5]
      go_simp
      refine (HFROM.out _ (below_next B1.out.1 (LayG.below hM.out))).mono ?_
      rintro e w9 ⟨rfl, hb9⟩
      exact HKK.out _ _ ⟨_, by simp only [putAll, Act.put, List.setIfInBounds_toArray, List.set_cons_zero, List.set_cons_succ, d4, d5] <;> rfl, h0, h1, h2, h3, h4, h5, fun _ => rfl, (LayG.other hM.out 6 _ rfl).grow hb9⟩
    · obtain rfl := Option.some.inj hi
      refine wpOp_step rfl (fun K hK => ?_)
      have HKK := Lib.hid hK; clear hK
      simp only [putAll, Act.put, List.setIfInBounds_toArray, List.set_cons_zero, List.set_cons_succ]
      go_simp
      exact HKK.out _ _ ⟨_, by simp only [putAll, Act.put, List.setIfInBounds_toArray, List.set_cons_zero, List.set_cons_succ] <;> rfl, h0, h1, h2, h3, h4, h5, h6, LayG.made hM.out rfl ⟨7, 9, 60, zSeven, s.cells⟩ (by simp) hun⟩
    · obtain rfl := Option.some.inj hi
      refine wpOp_step rfl (fun K hK => ?_)
      have HKK := Lib.hid hK; clear hK
      simp only [putAll, Act.put, List.setIfInBounds_toArray, List.set_cons_zero, List.set_cons_succ]
      go_simp
      exact HKK.out _ _ ⟨_, by simp only [putAll, Act.put, List.setIfInBounds_toArray, List.set_cons_zero, List.set_cons_succ] <;> rfl, h0, h1, h2, h3, h4, h5, h6, LayG.made hM.out rfl ⟨8, 10, 45, two (0, 0), two (f.1, f.2)⟩ (by simp) hun⟩
    · obtain rfl := Option.some.inj hi
      have d3 := h3 (hall ⟨3, .data⟩ (by simp) rfl)
      have dal := hall ⟨7, .data⟩ (by simp) rfl
      obtain ⟨g, eg, lg, kg⟩ := LayG.at hM.out ⟨7, 9, 60, zSeven, s.cells⟩ (by simp) dal hun
      have kz : Blk w' g 60 zSg.cells := kg
      have c0 := kz.s0
      have c1 := kz.s1
      have c2 := kz.s2
      have c3 := kz.s3
      have c4 := kz.s4
      have c5 := kz.s5
      have c6 := kz.s6
      have f0 := kg.free 0
      have f1 := kg.free 1
      have f2 := kg.free 2
      have f3 := kg.free 3
      have f4 := kg.free 4
      have f5 := kg.free 5
      have f6 := kg.free 6
      have lgw := kg.lt
      refine wpOp_step rfl (fun K hK => ?_)
      have HKK := Lib.hid hK; clear hK
      simp only [putAll, Act.put, List.setIfInBounds_toArray, List.set_cons_zero, List.set_cons_succ, d3, eg]
      go_simp
      exact HKK.out _ _ ⟨undef, by simp only [putAll, Act.put, List.setIfInBounds_toArray, List.set_cons_zero, List.set_cons_succ, d3, eg] <;> rfl, h0, h1, h2, h3, h4, h5, h6, LayG.stored hM.out rfl ⟨7, 9, 60, zSeven, s.cells⟩ (by simp) undef dal eg (below_seven (LayG.below hM.out) lg _ _ _ _ _ _ _) (kz.setS s) (fun _ _ _ hne k => k.other7 hne _ _ _ _ _ _ _)⟩
    · obtain rfl := Option.some.inj hi
      have d6 := h6 (hall ⟨6, .data⟩ (by simp) rfl)
      have dal := hall ⟨8, .data⟩ (by simp) rfl
      obtain ⟨g, eg, lg, kg⟩ := LayG.at hM.out ⟨8, 10, 45, two (0, 0), two (f.1, f.2)⟩ (by simp) dal hun
      have kz : Blk w' g 45 (two (0, 0)) := kg
      have c0 := kz.p0
      have c1 := kz.p1
      have f0 := kg.free 0
      have f1 := kg.free 1
      have lgw := kg.lt
      refine wpOp_step rfl (fun K hK => ?_)
      have HKK := Lib.hid hK; clear hK
      simp only [putAll, Act.put, List.setIfInBounds_toArray, List.set_cons_zero, List.set_cons_succ, d6, eg]
      go_simp
      exact HKK.out _ _ ⟨undef, by simp only [putAll, Act.put, List.setIfInBounds_toArray, List.set_cons_zero, List.set_cons_succ, d6, eg] <;> rfl, h0, h1, h2, h3, h4, h5, h6, LayG.stored hM.out rfl ⟨8, 10, 45, two (0, 0), two (f.1, f.2)⟩ (by simp) undef dal eg (below_two (LayG.below hM.out) lg _ _) (kz.setP _ _) (fun _ _ _ hne k => k.otherP hne _ _)⟩
    · exact absurd hil (by omega)
  · rintro b' vs w' hb ⟨h0, h1, h2, h3, h4, h5, h6, hM⟩
    obtain ⟨g6, e7, l6, k6⟩ := LayG.done hM.out ⟨7, 9, 60, zSeven, s.cells⟩ (by simp) (hb 7 (by decide)) (hb 9 (by decide))
    obtain ⟨g7, e8, l7, k7⟩ := LayG.done hM.out ⟨8, 10, 45, two (0, 0), two (f.1, f.2)⟩ (by simp) (hb 8 (by decide)) (hb 10 (by decide))
    have hne : g6 ≠ g7 := LayG.ne hM.out ⟨7, 9, 60, zSeven, s.cells⟩ ⟨8, 10, 45, two (0, 0), two (f.1, f.2)⟩ (by simp) (by simp) (show (7 : Nat) ≠ 8 by decide) (hb 7 (by decide)) (hb 8 (by decide)) e7 e8
    have hbw := LayG.below hM.out
    simp only [putAll, Act.put, List.setIfInBounds_toArray, List.set_cons_zero, List.set_cons_succ, e7, e8]
    clear h0 h1 h2 h3 h4 h5 h6 hM hb e7 e8
    generalize vs 0 = r60
    generalize vs 1 = r61
    generalize vs 2 = r62
    generalize vs 3 = r63
    generalize vs 4 = r64
    generalize vs 5 = r65
    generalize vs 6 = r66
    have S2 : Hid (Below w.heap.size w w' ∧ Blk w' w.heap.size 60 zSg.cells ∧ Blk w' (w.heap.size + 1) 60 zSg.cells ∧ Blk w' g6 60 (s).cells ∧ Blk w' g7 45 (two f) ∧ (w.heap.size + 1 < g6 ∧ w.heap.size + 1 < g7 ∧ g6 ≠ g7)) := ⟨below_next B1.out.1 hbw, B1.out.2.1.grow hbw, B1.out.2.2.grow hbw, k6, k7, by have := B1.out.2.2.lt; omega, by have := B1.out.2.2.lt; omega, hne⟩
    clear hbw hne k6 k7 l6 l7
    obtain ⟨w2, hw2⟩ : ∃ W, w' = W := ⟨_, rfl⟩
    rw [hw2] at S2 ⊢
    clear hw2
    go_wp2_with fail
    refine wp_region_put2 (by kernel_rfl) (by kernel_rfl) (by kernel_rfl) (fun b' vs w' => (b' 0 = true → vs 0 = .agg (seven s.k s.p s.q s.r)) ∧ (b' 1 = true → vs 1 = .agg (seven s.k s.p s.q s.r)) ∧ Hid (LayG w2 [⟨2, 4, 60, zSeven, s.cells⟩, ⟨3, 5, 60, zSeven, s.cells⟩] b' vs w')) ?_ ?_ ?_
    · intro vs hvs
      exact ⟨fun h => Bool.noConfusion h, fun h => Bool.noConfusion h, LayG.start vs⟩
    · rintro b' vs w' i op hi hun hall ⟨h0, h1, hM⟩
      have hil : i < 6 := (List.getElem?_eq_some_iff.1 hi).1
      rcases i with _ | _ | _ | _ | _ | _ | i
      · obtain rfl := Option.some.inj hi
        have kk := (LayG.below hM.out)
        have ks : Blk w' g6 60 (s).cells := S2.out.2.2.2.1.grow kk
        have c0 := ks.s0
        have c1 := ks.s1
        have c2 := ks.s2
        have c3 := ks.s3
        have c4 := ks.s4
        have c5 := ks.s5
        have c6 := ks.s6
        clear ks kk
        refine wpOp_step rfl (fun K hK => ?_)
        have HKK := Lib.hid hK; clear hK
        simp only [putAll, Act.put, List.setIfInBounds_toArray, List.set_cons_zero, List.set_cons_succ]
        go_simp
        exact HKK.out _ _ ⟨_, by simp only [putAll, Act.put, List.setIfInBounds_toArray, List.set_cons_zero, List.set_cons_succ] <;> rfl, fun _ => rfl, h1, LayG.other hM.out 0 _ rfl⟩
      · obtain rfl := Option.some.inj hi
        have kk := (LayG.below hM.out)
        have ks : Blk w' g6 60 (s).cells := S2.out.2.2.2.1.grow kk
        have c0 := ks.s0
        have c1 := ks.s1
        have c2 := ks.s2
        have c3 := ks.s3
        have c4 := ks.s4
        have c5 := ks.s5
        have c6 := ks.s6
        clear ks kk
        refine wpOp_step rfl (fun K hK => ?_)
        have HKK := Lib.hid hK; clear hK
        simp only [putAll, Act.put, List.setIfInBounds_toArray, List.set_cons_zero, List.set_cons_succ]
        go_simp
        exact HKK.out _ _ ⟨_, by simp only [putAll, Act.put, List.setIfInBounds_toArray, List.set_cons_zero, List.set_cons_succ] <;> rfl, h0, fun _ => rfl, LayG.other hM.out 1 _ rfl⟩
      · obtain rfl := Option.some.inj hi
        refine wpOp_step rfl (fun K hK => ?_)
        have HKK := Lib.hid hK; clear hK
        simp only [putAll, Act.put, List.setIfInBounds_toArray, List.set_cons_zero, List.set_cons_succ]
        go_simp
        exact HKK.out _ _ ⟨_, by simp only [putAll, Act.put, List.setIfInBounds_toArray, List.set_cons_zero, List.set_cons_succ] <;> rfl, h0, h1, LayG.made hM.out rfl ⟨2, 4, 60, zSeven, s.cells⟩ (by simp) hun⟩
      · obtain rfl := Option.some.inj hi
        refine wpOp_step rfl (fun K hK => ?_)
        have HKK := Lib.hid hK; clear hK
        simp only [putAll, Act.put, List.setIfInBounds_toArray, List.set_cons_zero, List.set_cons_succ]
        go_simp
        exact HKK.out _ _ ⟨_, by simp only [putAll, Act.put, List.setIfInBounds_toArray, List.set_cons_zero, List.set_cons_succ] <;> rfl, h0, h1, LayG.made hM.out rfl ⟨3, 5, 60, zSeven, s.cells⟩ (by simp) hun⟩
      · obtain rfl := Option.some.inj hi
        have d0 := h0 (hall ⟨0, .data⟩ (by simp) rfl)
        have dal := hall ⟨2, .data⟩ (by simp) rfl
        obtain ⟨g, eg, lg, kg⟩ := LayG.at hM.out ⟨2, 4, 60, zSeven, s.cells⟩ (by simp) dal hun
        have kz : Blk w' g 60 zSg.cells := kg
        have c0 := kz.s0
        have c1 := kz.s1
        have c2 := kz.s2
        have c3 := kz.s3
        have c4 := kz.s4
        have c5 := kz.s5
        have c6 := kz.s6
        have f0 := kg.free 0
        have f1 := kg.free 1
        have f2 := kg.free 2
        have f3 := kg.free 3
        have f4 := kg.free 4
        have f5 := kg.free 5
        have f6 := kg.free 6
        have lgw := kg.lt
        refine wpOp_step rfl (fun K hK => ?_)
        have HKK := Lib.hid hK; clear hK
        simp only [putAll, Act.put, List.setIfInBounds_toArray, List.set_cons_zero, List.set_cons_succ, d0, eg]
        go_simp
        exact HKK.out _ _ ⟨undef, by simp only [putAll, Act.put, List.setIfInBounds_toArray, List.set_cons_zero, List.set_cons_succ, d0, eg] <;> rfl, h0, h1, LayG.stored hM.out rfl ⟨2, 4, 60, zSeven, s.cells⟩ (by simp) undef dal eg (below_seven (LayG.below hM.out) lg _ _ _ _ _ _ _) (kz.setS s) (fun _ _ _ hne k => k.other7 hne _ _ _ _ _ _ _)⟩
      · obtain rfl := Option.some.inj hi
        have d1 := h1 (hall ⟨1, .data⟩ (by simp) rfl)
        have dal := hall ⟨3, .data⟩ (by simp) rfl
        obtain ⟨g, eg, lg, kg⟩ := LayG.at hM.out ⟨3, 5, 60, zSeven, s.cells⟩ (by simp) dal hun
        have kz : Blk w' g 60 zSg.cells := kg
        have c0 := kz.s0
        have c1 := kz.s1
        have c2 := kz.s2
        have c3 := kz.s3
        have c4 := kz.s4
        have c5 := kz.s5
        have c6 := kz.s6
        have f0 := kg.free 0
        have f1 := kg.free 1
        have f2 := kg.free 2
        have f3 := kg.free 3
        have f4 := kg.free 4
        have f5 := kg.free 5
        have f6 := kg.free 6
        have lgw := kg.lt
        refine wpOp_step rfl (fun K hK => ?_)
        have HKK := Lib.hid hK; clear hK
        simp only [putAll, Act.put, List.setIfInBounds_toArray, List.set_cons_zero, List.set_cons_succ, d1, eg]
        go_simp
        exact HKK.out _ _ ⟨undef, by simp only [putAll, Act.put, List.setIfInBounds_toArray, List.set_cons_zero, List.set_cons_succ, d1, eg] <;> rfl, h0, h1, LayG.stored hM.out rfl ⟨3, 5, 60, zSeven, s.cells⟩ (by simp) undef dal eg (below_seven (LayG.below hM.out) lg _ _ _ _ _ _ _) (kz.setS s) (fun _ _ _ hne k => k.other7 hne _ _ _ _ _ _ _)⟩
      · exact absurd hil (by omega)
    · rintro b' vs w' hb ⟨h0, h1, hM⟩
      obtain ⟨g8, e2, l8, k8⟩ := LayG.done hM.out ⟨2, 4, 60, zSeven, s.cells⟩ (by simp) (hb 2 (by decide)) (hb 4 (by decide))
      obtain ⟨g9, e3, l9, k9⟩ := LayG.done hM.out ⟨3, 5, 60, zSeven, s.cells⟩ (by simp) (hb 3 (by decide)) (hb 5 (by decide))
      have hne : g8 ≠ g9 := LayG.ne hM.out ⟨2, 4, 60, zSeven, s.cells⟩ ⟨3, 5, 60, zSeven, s.cells⟩ (by simp) (by simp) (show (2 : Nat) ≠ 3 by decide) (hb 2 (by decide)) (hb 3 (by decide)) e2 e3
      have hbw := LayG.below hM.out
      simp only [putAll, Act.put, List.setIfInBounds_toArray, List.set_cons_zero, List.set_cons_succ, e2, e3]
      clear h0 h1 hM hb e2 e3
      generalize vs 0 = r80
      generalize vs 1 = r81
      have S4 : Hid (Six w w' g6 g7 g8 g9 (s) (s) (s) f ∧ Six6 w.heap.size g6 g7 g8 g9) := by
        obtain ⟨hb2, k4, k5, k6, k7, hd⟩ := S2.out
        exact ⟨⟨below_next hb2 hbw, k4.grow hbw, k5.grow hbw, k6.grow hbw, k7.grow hbw, k8, k9⟩, ⟨hd.1, hd.2.1, by have := k5.lt; omega, by have := k5.lt; omega, hd.2.2, by have := k6.lt; omega, by have := k6.lt; omega, by have := k7.lt; omega, by have := k7.lt; omega, hne⟩⟩
      clear hbw hne k8 k9 l8 l9 S2
      have k6 := S4.out.1.k6
      have k7 := S4.out.1.k7
      have c0 := k6.s0
      have c1 := k6.s1
      have c2 := k6.s2
      have c3 := k6.s3
      have c4 := k6.s4
      have c5 := k6.s5
      have c6 := k6.s6
      have m0 : w'.cell? ⟨g7, 0, none⟩ = some (.int .i64 f.1) := k7.cell 0
      have m1 : w'.cell? ⟨g7, 1, none⟩ = some (.int .i64 f.2) := k7.cell 1
      clear k6 k7
      have e2 : (s.k == 2) = false := by have := HK.out; simp [this]
      have L0 : Hid (Own (w'.alloc (.cells (two f) 45)) w'.heap.size 45 (.slice (some ⟨w'.heap.size, 0, none⟩) 1 1) [f] ∧ Below w'.heap.size w' (w'.alloc (.cells (two f) 45))) := ⟨Own.made w' (Nat.le_refl _) 45 [f] (two f) 1 rfl rfl (by decide), (Below.refl _ _).alloc (Nat.le_refl _) _⟩
      obtain ⟨w4, hw4⟩ : ∃ W, w' = W := ⟨_, rfl⟩
      rw [hw4] at S4 L0 c0 c1 c2 c3 c4 c5 c6 m0 m1 ⊢
      clear hw4
      go_wp2_with fail
      clear e2 c0 c1 c2 c3 c4 c5 c6 m0 m1
      go_loopw [10, 11] (fun lv j wr => ∃ i : Nat, i ≤ 2 ∧ j = .int .i64 i ∧ Hid (Own wr w4.heap.size 45 lv (f :: s.pts.take i) ∧ Below w4.heap.size w4 wr)) (fun _ j _ => 2 - (intOf j).toNat)
      case atStart => exact ⟨0, by omega, rfl, L0.out⟩
      case round =>
        obtain ⟨i, hi, rfl, hx⟩ := hrel
        have kb := S4.out.1.k6.grow hx.out.2
        have d0 := kb.s0
        have KBI := Lib.hid kb
        clear kb
        by_cases hin : i < 2
        · have hdi : decide ((i : Int) < 2) = true := decide_eq_true (by omega)
          obtain ⟨⟨px, py⟩, hq⟩ : ∃ a, s.pts[i]? = some a := ⟨_, List.getElem?_eq_getElem (by simp [Sg.pts]; omega)⟩
          obtain ⟨p0, p1⟩ := (seven_pts KBI.out) i (px, py) hq
          simp only at p0 p1
          have HPQ := Lib.hid hq
          have hi3 : i < 3 := by omega
          have hwi : wrap64 ((i : Int) + 1) = ((i + 1 : Nat) : Int) := by rw [wrapR _ (by omega) (by omega)]; omega
          have O4 : Hid (Own (wr.alloc (.cells #[.int .i64 px, .int .i64 py] 45)) w4.heap.size 45 u10 (f :: s.pts.take i)) := hx.out.1.grow ((Below.refl _ _).alloc (Nat.le_refl _) _)
          have Y4 : Hid (Row (wr.alloc (.cells #[.int .i64 px, .int .i64 py] 45)) (.slice (some ⟨wr.heap.size, 0, none⟩) 1 1) [(px, py)]) := (Own.made wr (base := wr.heap.size) (Nat.le_refl _) 45 [(px, py)] _ 1 rfl rfl (by decide)).row
          have B4 := Lib.hid (hx.out.2.alloc hx.out.2.size (.cells #[.int .i64 px, .int .i64 py] 45))
          clear hq
          go_wp2_with fail
          refine (HND.out _).mono ?_
          rintro e w5 ⟨rfl, rfl⟩
          go_wp2_with (at_builtin; refine wpList_append_pts rfl _ _ 40 45 rfl Tryd.underlying40 infoR w4.heap.size u10 (f :: s.pts.take i) rfl O4.out _ [(px, py)] rfl Y4.out (by simp; omega) (by have := hx.out.2.size; simp; omega) ?_)
          intro v' w6 hown hgrow _
          have N5 : Hid (Own w6 w4.heap.size 45 v' (f :: s.pts.take (i + 1)) ∧ Below w4.heap.size w4 w6) := by
            refine ⟨?_, own_below O4.out hgrow B4.out (Nat.le_refl _) B4.out.size⟩
            have e : f :: s.pts.take (i + 1) = (f :: s.pts.take i) ++ [(px, py)] := by rw [List.take_add_one, HPQ.out]; rfl
            rw [e]; exact hown
          clear hown hgrow
          go_wp2_with fail
          exact ⟨⟨i + 1, by omega, by simp, N5.out⟩, by simp [intOf]; omega⟩
        · obtain rfl : i = 2 := by omega
          have HO : Own wr w4.heap.size 45 u10 [f, s.p, s.q] := hx.out.1
          have HRL := Lib.hid HO.row
          obtain ⟨gl, cl, hlv, _⟩ := own_is HO (by simp)
          have hlv2 : u10 = .slice (some ⟨gl, 0, none⟩) 3 cl := hlv
          clear hlv HO
          subst hlv2
          have S5 := Lib.hid (And.intro (S4.out.1.grow hx.out.2) S4.out.2)
          clear hx hin
          go_wp2_with fail
          refine (HND.out _).mono ?_
          rintro e w5 ⟨rfl, rfl⟩
          go_wp2_with fail
          refine (HHA.out _ _ HRL.out).mono ?_
          rintro e w6 ⟨va, vb, rfl, oa, ob, hb6⟩
          obtain ⟨ga, ca, hva, _, hga, hgla, hca⟩ := own_is oa (by simp)
          obtain ⟨gb, cb, hvb, _, hgb, hglb, hcb⟩ := own_is ob (by simp)
          have hva2 : va = .slice (some ⟨ga, 0, none⟩) 3 ca := hva
          have hvb2 : vb = .slice (some ⟨gb, 0, none⟩) 3 cb := hvb
          have CA : Hid ((w6.cell? ⟨ga, 2, none⟩ = some (.int .i64 x1.1) ∧ w6.cell? ⟨ga, 3, none⟩ = some (.int .i64 x1.2)) ∧ (w6.cell? ⟨ga, 4, none⟩ = some (.int .i64 x2.1) ∧ w6.cell? ⟨ga, 5, none⟩ = some (.int .i64 x2.2))) := ⟨⟨hca 2 _ rfl, hca 3 _ rfl⟩, ⟨hca 4 _ rfl, hca 5 _ rfl⟩⟩
          have CB : Hid ((w6.cell? ⟨gb, 2, none⟩ = some (.int .i64 y1.1) ∧ w6.cell? ⟨gb, 3, none⟩ = some (.int .i64 y1.2)) ∧ (w6.cell? ⟨gb, 4, none⟩ = some (.int .i64 y2.1) ∧ w6.cell? ⟨gb, 5, none⟩ = some (.int .i64 y2.2))) := ⟨⟨hcb 2 _ rfl, hcb 3 _ rfl⟩, ⟨hcb 4 _ rfl, hcb 5 _ rfl⟩⟩
          have S6 := Lib.hid (And.intro (S5.out.1.grow hb6) S5.out.2)
          have HG : Hid (ga < w6.heap.size ∧ gb < w6.heap.size ∧ ga ≠ g8 ∧ ga ≠ g9 ∧ gb ≠ g8 ∧ gb ≠ g9) := by
            have h8 := S5.out.1.k8.lt
            have h9 := S5.out.1.k9.lt
            exact ⟨hgla, hglb, by omega, by omega, by omega, by omega⟩
          clear oa ob hva hvb hga hgla hca hgb hglb hcb hb6
          subst hva2 hvb2
          clear d0
          go_wp2_with fail
          go_loopw [14] (fun k wr => ∃ (j : Nat) (z : Int), j ≤ 2 ∧ z = (j : Int) + 1 ∧ k = .int .i64 z ∧ Hid (Six w wr g6 g7 g8 g9 s (mixP s x1 x2 s.r j) (mixP s y1 y2 s.r j) f ∧ Keep (fun k => k ≠ g8 ∧ k ≠ g9) w6 wr)) (fun k _ => 4 - (intOf k).toNat)
          case atStart => exact ⟨0, 1, by omega, rfl, rfl, S6.out.1, Keep.refl _ _⟩
          case round =>
            obtain ⟨j, z, hj, hz, rfl, hx⟩ := hrel
            have hg89 : g9 ≠ g8 := Ne.symm S6.out.2.d89
            have hg98 : g8 ≠ g9 := S6.out.2.d89
            have hgb8 := HG.out.2.2.2.2.1
            have hgb8' : g8 ≠ gb := Ne.symm hgb8
            rcases (by omega : j = 0 ∨ j = 1 ∨ j = 2) with rfl | rfl | rfl
            · obtain rfl : z = 1 := by omega
              clear hz hj
              have ka := hx.out.1.k8
              have kb := hx.out.1.k9
              have cx0 := (hx.out.2.cell (o := 2) ⟨HG.out.2.2.1, HG.out.2.2.2.1⟩ HG.out.1).trans CA.out.1.1
              have cx1 := (hx.out.2.cell (o := 3) ⟨HG.out.2.2.1, HG.out.2.2.2.1⟩ HG.out.1).trans CA.out.1.2
              have cy0 := (hx.out.2.cell (o := 2) ⟨HG.out.2.2.2.2.1, HG.out.2.2.2.2.2⟩ HG.out.2.1).trans CB.out.1.1
              have cy1 := (hx.out.2.cell (o := 3) ⟨HG.out.2.2.2.2.1, HG.out.2.2.2.2.2⟩ HG.out.2.1).trans CB.out.1.2
              have a0 := ka.s1
              have a1 := ka.s2
              have b0 := kb.s1
              have b1 := kb.s2
              have f0 := ka.free 1
              have f1 := ka.free 2
              have f2 := kb.free 1
              have f3 := kb.free 2
              have l0 := ka.lt
              have l1 := kb.lt
              have NX : Hid (Six w ((((wr.setCell ⟨g8, 1, none⟩ (.int .i64 x1.1)).setCell ⟨g8, 2, none⟩ (.int .i64 x1.2)).setCell ⟨g9, 1, none⟩ (.int .i64 y1.1)).setCell ⟨g9, 2, none⟩ (.int .i64 y1.2)) g6 g7 g8 g9 s (mixP s x1 x2 s.r 1) (mixP s y1 y2 s.r 1) f ∧ Keep (fun k => k ≠ g8 ∧ k ≠ g9) w6 ((((wr.setCell ⟨g8, 1, none⟩ (.int .i64 x1.1)).setCell ⟨g8, 2, none⟩ (.int .i64 x1.2)).setCell ⟨g9, 1, none⟩ (.int .i64 y1.1)).setCell ⟨g9, 2, none⟩ (.int .i64 y1.2))) := ⟨(hx.out.1.st8 S6.out.2 1 2 _ _ (mixP s x1 x2 s.r 1) rfl).st9 S6.out.2 1 2 _ _ (mixP s y1 y2 s.r 1) rfl, (((hx.out.2.trans (Keep.setCell _ _ _ (by simp))).trans (Keep.setCell _ _ _ (by simp))).trans (Keep.setCell _ _ _ (by simp))).trans (Keep.setCell _ _ _ (by simp))⟩
              clear ka kb
              go_wp2_with fail
              exact ⟨⟨1, 2, by omega, by decide, by simp, NX.out⟩, by simp [intOf]⟩
            · obtain rfl : z = 2 := by omega
              clear hz hj
              have ka := hx.out.1.k8
              have kb := hx.out.1.k9
              have cx0 := (hx.out.2.cell (o := 4) ⟨HG.out.2.2.1, HG.out.2.2.2.1⟩ HG.out.1).trans CA.out.2.1
              have cx1 := (hx.out.2.cell (o := 5) ⟨HG.out.2.2.1, HG.out.2.2.2.1⟩ HG.out.1).trans CA.out.2.2
              have cy0 := (hx.out.2.cell (o := 4) ⟨HG.out.2.2.2.2.1, HG.out.2.2.2.2.2⟩ HG.out.2.1).trans CB.out.2.1
              have cy1 := (hx.out.2.cell (o := 5) ⟨HG.out.2.2.2.2.1, HG.out.2.2.2.2.2⟩ HG.out.2.1).trans CB.out.2.2
              have a0 := ka.s3
              have a1 := ka.s4
              have b0 := kb.s3
              have b1 := kb.s4
              have f0 := ka.free 3
              have f1 := ka.free 4
              have f2 := kb.free 3
              have f3 := kb.free 4
              have l0 := ka.lt
              have l1 := kb.lt
              have NX : Hid (Six w ((((wr.setCell ⟨g8, 3, none⟩ (.int .i64 x2.1)).setCell ⟨g8, 4, none⟩ (.int .i64 x2.2)).setCell ⟨g9, 3, none⟩ (.int .i64 y2.1)).setCell ⟨g9, 4, none⟩ (.int .i64 y2.2)) g6 g7 g8 g9 s (mixP s x1 x2 s.r 2) (mixP s y1 y2 s.r 2) f ∧ Keep (fun k => k ≠ g8 ∧ k ≠ g9) w6 ((((wr.setCell ⟨g8, 3, none⟩ (.int .i64 x2.1)).setCell ⟨g8, 4, none⟩ (.int .i64 x2.2)).setCell ⟨g9, 3, none⟩ (.int .i64 y2.1)).setCell ⟨g9, 4, none⟩ (.int .i64 y2.2))) := ⟨(hx.out.1.st8 S6.out.2 3 4 _ _ (mixP s x1 x2 s.r 2) rfl).st9 S6.out.2 3 4 _ _ (mixP s y1 y2 s.r 2) rfl, (((hx.out.2.trans (Keep.setCell _ _ _ (by simp))).trans (Keep.setCell _ _ _ (by simp))).trans (Keep.setCell _ _ _ (by simp))).trans (Keep.setCell _ _ _ (by simp))⟩
              clear ka kb
              go_wp2_with fail
              exact ⟨⟨2, 3, by omega, by decide, by simp, NX.out⟩, by simp [intOf]⟩
            · obtain rfl : z = 3 := by omega
              clear hz hj
              obtain ⟨A, hA⟩ : ∃ A : Sg, mixP s x1 x2 s.r 2 = A := ⟨_, rfl⟩
              obtain ⟨BB, hBB⟩ : ∃ BB : Sg, mixP s y1 y2 s.r 2 = BB := ⟨_, rfl⟩
              have HA := Lib.hid hA
              have HBB := Lib.hid hBB
              rw [hA, hBB] at hx
              have SZ := Lib.hid (And.intro hx.out.1 S6.out.2)
              clear hx hA hBB hg89 hg98 hgb8 hgb8'
              go_wp2_with fail
              have ka := SZ.out.1.k8
              have kb := SZ.out.1.k9
              have k4 := SZ.out.1.k4
              have k5 := SZ.out.1.k5
              have a0 := ka.s0
              have a1 := ka.s1
              have a2 := ka.s2
              have a3 := ka.s3
              have a4 := ka.s4
              have a5 := ka.s5
              have a6 := ka.s6
              have b0 := kb.s0
              have b1 := kb.s1
              have b2 := kb.s2
              have b3 := kb.s3
              have b4 := kb.s4
              have b5 := kb.s5
              have b6 := kb.s6
              have p0 := k4.s0
              have p1 := k4.s1
              have p2 := k4.s2
              have p3 := k4.s3
              have p4 := k4.s4
              have p5 := k4.s5
              have p6 := k4.s6
              have q0 := k5.s0
              have q1 := k5.s1
              have q2 := k5.s2
              have q3 := k5.s3
              have q4 := k5.s4
              have q5 := k5.s5
              have q6 := k5.s6
              have pf := fun j => k4.free j
              have qf := fun j => k5.free j
              have pl := k4.lt
              have ql := k5.lt
              have al := ka.lt
              have bl := kb.lt
              have hg8 := SZ.out.2.l8
              have hg9 := SZ.out.2.l9
              have hg8a : g8 ≠ w.heap.size := by omega
              have hg9a : g9 ≠ w.heap.size := by omega
              have hg8b : g8 ≠ w.heap.size + 1 := by omega
              have hg9b : g9 ≠ w.heap.size + 1 := by omega
              clear ka kb k4 k5
              go_region
              go_wp2_with fail
              clear a0 a1 a2 a3 a4 a5 a6 b0 b1 b2 b3 b4 b5 b6 p0 p1 p2 p3 p4 p5 p6 q0 q1 q2 q3 q4 q5 q6 pf qf pl ql al bl hg8 hg9 hg8a hg9a hg8b hg9b
              generalize hwf : World.setCell _ _ _ = wf
              have KF : Hid (Blk wf w.heap.size 60 A.cells ∧ Blk wf (w.heap.size + 1) 60 BB.cells ∧ Below w.heap.size w wf) := by
                rw [← hwf]
                refine ⟨?_, ?_, ?_⟩
                · iterate 7 refine Blk.other ?_ _ _ (by dsimp only; omega)
                  exact Blk.setS (s := zSg) SZ.out.1.k4 A
                · refine Blk.setS (s := zSg) ?_ BB
                  iterate 7 refine Blk.other ?_ _ _ (by dsimp only; omega)
                  exact SZ.out.1.k5
                · have h := SZ.out.1.below
                  iterate 14 refine Below.setCell ?_ (by dsimp only; omega) _
                  exact h
              clear hwf
              rw [show (Value.tuple #[.agg (mixP s x1 x2 s.r 2).cells, .agg (mixP s y1 y2 s.r 2).cells]) = .tuple #[.agg A.cells, .agg BB.cells] by rw [HA.out, HBB.out]]
              exact bodyPost_ret (results_parts 4 5 rfl rfl rfl KF.out.1.drew KF.out.2.1.drew) rfl ⟨rfl, below_drewN KF.out.2.2 1⟩
end Go.Proofs.YtffgpikhahpomaaDoor
