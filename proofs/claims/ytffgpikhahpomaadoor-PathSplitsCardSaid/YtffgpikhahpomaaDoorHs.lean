/- Layer 6: Seg.halves. Layer 6: Seg.halves of a cubic curve. Layer 6: Seg.halves of a line. Layer 6: Seg.halves of any right segment. -/
import Derived.Test.YtffgpikhahpomaaDoorSw
import Derived.Test.YtffgpikhahpomaaDoorSh
import Derived.Test.YtffgpikhahpomaaDoorR
import Derived.Test.YtffgpikhahpomaaDoorJ
import Derived.Test.YtffgpikhahpomaaDoorK
import Derived.BigRegion
import Derived.Test.YtffgpikhahpomaaDoorC
import Derived.Test.YtffgpikhahpomaaDoorSj
namespace Go.Proofs.YtffgpikhahpomaaDoor
open Go.RowKit
theorem own_is {w : World} {base : Nat} {t : TypeId} {v : Value} {l : List Pt} (h : Own w base t v l) (h0 : 0 < l.length) : ∃ g cap, v = .slice (some ⟨g, 0, none⟩) l.length cap ∧ l.length ≤ cap ∧ base ≤ g ∧ g < w.heap.size ∧ ∀ j u, (flatL l)[j]? = some u → w.cell? ⟨g, j, none⟩ = some u := by
  obtain ⟨h1, ⟨rfl, hz⟩ | ⟨g, cap, cur, rfl, hb, hg, hc, hm, hs, ht⟩⟩ := h
  · omega
  · refine ⟨g, cap, rfl, hc, hb, (Array.getElem?_eq_some_iff.1 hg).1, fun j u hj => ?_⟩
    have hlt : j < l.length * 2 := by have := (List.getElem?_eq_some_iff.1 hj).1; rw [← h1]; exact this
    rw [Joins.cell_of_block hg j, ← hj, ← ht, List.getElem?_take, if_pos hlt]; simp
theorem results_halves {fn : Func} {tmps : Array Value} {W : World} {g k : Nat} {x y : Sg} {u : Value} (a b c : Nat) (hres : fn.results = #[.cell a 48, .cell b 48, .tmp c]) (ha : tmps[a]? = some (.pointer (some ⟨g, 0, none⟩))) (hb : tmps[b]? = some (.pointer (some ⟨k, 0, none⟩))) (hc : tmps[c]? = some u) (hg : Blk W g 48 x.cells) (hk : Blk W k 48 y.cells) :
    (results fn tmps).run Tryd.prog W = .ok (.tuple #[.agg x.cells, .agg y.cells, u]) W := by
  have d0 := hg.s0
  have d1 := hg.s1
  have d2 := hg.s2
  have d3 := hg.s3
  have d4 := hg.s4
  have d5 := hg.s5
  have d6 := hg.s6
  have c0 := hk.s0
  have c1 := hk.s1
  have c2 := hk.s2
  have c3 := hk.s3
  have c4 := hk.s4
  have c5 := hk.s5
  have c6 := hk.s6
  simp [results, hres, ha, hb, hc, go_sem, c0, c1, c2, c3, c4, c5, c6, d0, d1, d2, d3, d4, d5, d6, Sg.cells]
theorem setRow_other (w : World) (g : Nat) (cs : Array Value) (k : Nat) (hk : k ≠ g) : (w.setRow g cs).heap[k]? = w.heap[k]? := by
  unfold World.setRow
  simp [Array.getElem?_modify, Ne.symm hk]
set_option maxHeartbeats 2000000 in
set_option maxRecDepth 100000 in
theorem halves_quad (s : Sg) (f : Pt) (w : World) (hr : Rd w) (hk : s.k = 3) (hc : curveB [f, s.p, s.q] = true) :
    Calls Tryd.prog 43 #[.agg (seven s.k s.p s.q s.r), .agg #[.int .i64 f.1, .int .i64 f.2]] w fun e w' => e = .returned (.tuple #[.agg (seven 3 (halfA f s).p (halfA f s).q s.r), .agg (seven 3 (halfB s).p (halfB s).q s.r), .int .i64 0]) ∧ Below w.heap.size w w' := by
  have hneed : needPts s = [s.p, s.q] := by unfold needPts; rw [hk]; rfl
  have HCU := Lib.hid (fun W hW => curve_c s f.1 f.2 W hW)
  rw [hneed] at HCU
  have HHA := Lib.hid (fun v W row => halves_c v [f, s.p, s.q] W row hc)
  have HK := Lib.hid hk
  have HR := Lib.hid hr
  rw [hk] at HCU ⊢
  clear hk hr hneed hc
  go_enter Tryd.func43, Tryd.ntmps43
  go_wp2_with fail
  go_region
  go_wp2_with fail
  obtain ⟨w5, hw5⟩ : ∃ w5, ((((w.alloc (.cells (seven 3 s.p s.q s.r) 48)).alloc (.cells #[.int .i64 f.1, .int .i64 f.2] 44)).alloc (.cells (seven 3 s.p s.q s.r) 48)).alloc (.cells (seven 3 s.p s.q s.r) 48)).drew = w5 := ⟨_, rfl⟩
  have B5 : Hid (Below w.heap.size w w5) := by rw [← hw5]; exact below_drewN (((((Below.refl _ _).alloc (Nat.le_refl _) _).alloc (by simp) _).alloc (by simp; omega) _).alloc (by simp; omega) _) 1
  have S5 : Hid (w5.heap.size = w.heap.size + 4) := by rw [← hw5]; unfold Hid; simp
  have K5 : Hid (Blk w5 (w.heap.size + 2) 48 (seven 3 s.p s.q s.r) ∧ Blk w5 (w.heap.size + 3) 48 (seven 3 s.p s.q s.r)) := by
    rw [← hw5]
    exact ⟨((Blk.newAt _ _ _ (by simp)).alloc _).drew, (Blk.newAt _ _ _ (by simp)).drew⟩
  rw [show ((((w.alloc (.cells (seven 3 s.p s.q s.r) 48)).alloc (.cells #[.int .i64 f.1, .int .i64 f.2] 44)).alloc (.cells (seven 3 s.p s.q s.r) 48)).alloc (.cells (seven 3 s.p s.q s.r) 48)).drew = w5 from hw5]
  clear hw5
  refine (HCU.out _ (HR.out.on B5.out)).mono ?_
  rintro e w6 ⟨v, rfl, ho, hb⟩
  have H6 := Lib.hid (And.intro ho.row hb); clear ho hb
  go_wp2_with fail
  refine (HHA.out _ _ H6.out.1).mono ?_
  rintro e w7 ⟨a, b, rfl, ha, hb, hb7⟩
  simp only [firstI, secondI] at ha hb
  obtain ⟨ga, ca, rfl, hca, hga, hgl, hcell⟩ := own_is ha (by simp)
  obtain ⟨gb, cb, rfl, hcb, hgb, hgbl, hcellb⟩ := own_is hb (by simp)
  simp only [List.length_cons, List.length_nil, Nat.zero_add] at hca hcb ⊢
  have B7 : Hid (Below w5.heap.size w5 w7) := below_next H6.out.2 hb7
  have K7 : Hid (Blk w7 (w.heap.size + 2) 48 (seven 3 s.p s.q s.r) ∧ Blk w7 (w.heap.size + 3) 48 (seven 3 s.p s.q s.r)) := ⟨K5.out.1.on B7.out K5.out.1.lt, K5.out.2.on B7.out K5.out.2.lt⟩
  have HA := Lib.hid (And.intro hca (And.intro hga (And.intro hgl hcell)))
  have HB := Lib.hid (And.intro hcb (And.intro hgb (And.intro hgbl hcellb)))
  have na : (ca = 1) = False := by simp; omega
  have nb : (cb = 1) = False := by simp; omega
  clear ha hb hb7 hca hga hgl hcell hcb hgb hgbl hcellb
  go_wp2_with fail
  have E8 := run_copy_wide (P := Tryd.prog) w7.drew 37 37 3 44 (w.heap.size + 1 + 1) 1 3 3 ⟨ga, 2, none⟩ 2 (ca - 1) 2 (seven 3 s.p s.q s.r) 48 (flatL [midI f s.p, midI (midI f s.p) (midI s.p s.q)]) Tryd.underlying37 sizeP K7.out.1.drew rfl (fun j u hj => by simp only [Addr.add_lit]; rw [Nat.add_comm]; exact HA.out.2.2.2 (j + 2) u hj) (Nat.le_of_ble_eq_true rfl) (flatL_one _)
  obtain ⟨w8, hw8⟩ : ∃ W, World.setRow w7.drew (w.heap.size + 1 + 1) ((seven 3 s.p s.q s.r).toList.take 1 ++ flatL [midI f s.p, midI (midI f s.p) (midI s.p s.q)] ++ (seven 3 s.p s.q s.r).toList.drop (1 + (flatL [midI f s.p, midI (midI f s.p) (midI s.p s.q)]).length)).toArray = W := ⟨_, rfl⟩
  rw [hw8] at E8
  have K8 : Hid (Blk w8 (w.heap.size + 2) 48 (seven 3 (midI f s.p) (midI (midI f s.p) (midI s.p s.q)) s.r) ∧ Blk w8 (w.heap.size + 3) 48 (seven 3 s.p s.q s.r)) := by
    rw [← hw8]
    exact ⟨Blk.row K7.out.1.drew _, K7.out.2.drew.rowOther (by omega) _⟩
  have BE8 : Hid (∀ k, k ≠ w.heap.size + 2 → w8.heap[k]? = w7.heap[k]?) := by
    intro k hk
    rw [← hw8]
    exact setRow_other _ _ _ k hk
  have B8 : Hid (Below w.heap.size w w8) := by
    rw [← hw8]
    exact below_setRow (below_drewN (below_next B5.out B7.out) 1) (by omega) _
  clear hw8
  go_region
  clear E8
  go_wp2_with fail
  have hgb2 : gb ≠ w.heap.size + 2 := by
    have h1 := HB.out.2.1
    have h2 := H6.out.2.size
    have h3 := S5.out
    omega
  have E9 := run_copy_wide (P := Tryd.prog) w8.drew 37 37 3 44 (w.heap.size + 1 + 1 + 1) 1 3 3 ⟨gb, 2, none⟩ 2 (cb - 1) 2 (seven 3 s.p s.q s.r) 48 (flatL [midI s.p s.q, s.q]) Tryd.underlying37 sizeP K8.out.2.drew rfl (fun j u hj => by simp only [Addr.add_lit]; rw [Nat.add_comm]; exact (World.cell?_of_block (BE8.out gb hgb2)).trans (HB.out.2.2.2 (j + 2) u hj)) (Nat.le_of_ble_eq_true rfl) (flatL_one _)
  obtain ⟨w9, hw9⟩ : ∃ W, World.setRow w8.drew (w.heap.size + 1 + 1 + 1) ((seven 3 s.p s.q s.r).toList.take 1 ++ flatL [midI s.p s.q, s.q] ++ (seven 3 s.p s.q s.r).toList.drop (1 + (flatL [midI s.p s.q, s.q]).length)).toArray = W := ⟨_, rfl⟩
  rw [hw9] at E9
  have K9 : Hid (Blk w9 (w.heap.size + 1 + 1) 48 (seven 3 (midI f s.p) (midI (midI f s.p) (midI s.p s.q)) s.r) ∧ Blk w9 (w.heap.size + 1 + 1 + 1) 48 (seven 3 (midI s.p s.q) s.q s.r)) := by
    rw [← hw9]
    exact ⟨K8.out.1.drew.rowOther (by omega) _, Blk.row K8.out.2.drew _⟩
  have B9 : Hid (Below w.heap.size w w9) := by
    rw [← hw9]
    exact below_setRow (below_drewN B8.out 1) (by omega) _
  clear hw9 hgb2
  go_region
  clear E9
  have ka := K9.out.1
  have kb := K9.out.2
  have d0 := ka.cell 0
  have d1 := ka.cell 1
  have d2 := ka.cell 2
  have d3 := ka.cell 3
  have d4 := ka.cell 4
  have d5 := ka.cell 5
  have d6 := ka.cell 6
  have c0 := kb.cell 0
  have c1 := kb.cell 1
  have c2 := kb.cell 2
  have c3 := kb.cell 3
  have c4 := kb.cell 4
  have c5 := kb.cell 5
  have c6 := kb.cell 6
  simp only [List.getElem?_toArray, List.getElem?_cons_zero, List.getElem?_cons_succ] at c0 c1 c2 c3 c4 c5 c6 d0 d1 d2 d3 d4 d5 d6
  have la := ka.lt
  have lb := kb.lt
  have fa := fun j => ka.free j
  have fb := fun j => kb.free j
  clear ka kb
  go_wp2_with fail
  clear c0 c1 c2 c3 c4 c5 c6 d0 d1 d2 d3 d4 d5 d6 la lb fa fb
  generalize hwf : World.setCell _ _ _ = wf
  have KF : Hid (Blk wf (w.heap.size + 1 + 1) 48 (⟨3, midI f s.p, midI (midI f s.p) (midI s.p s.q), s.r⟩ : Sg).cells ∧ Blk wf (w.heap.size + 1 + 1 + 1) 48 (⟨3, midI s.p s.q, s.q, s.r⟩ : Sg).cells ∧ Below w.heap.size w wf) := by
    rw [← hwf]
    refine ⟨?_, ?_, ?_⟩
    · refine Blk.other ?_ _ _ (by dsimp only; omega)
      refine Blk.other ?_ _ _ (by dsimp only; omega)
      refine Blk.other ?_ _ _ (by dsimp only; omega)
      refine Blk.other ?_ _ _ (by dsimp only; omega)
      refine Blk.other ?_ _ _ (by dsimp only; omega)
      refine Blk.other ?_ _ _ (by dsimp only; omega)
      refine Blk.other ?_ _ _ (by dsimp only; omega)
      exact Blk.setS (s := ⟨3, midI f s.p, midI (midI f s.p) (midI s.p s.q), s.r⟩) K9.out.1 ⟨3, midI f s.p, midI (midI f s.p) (midI s.p s.q), s.r⟩
    · refine Blk.setS (s := ⟨3, midI s.p s.q, s.q, s.r⟩) ?_ ⟨3, midI s.p s.q, s.q, s.r⟩
      refine Blk.other ?_ _ _ (by dsimp only; omega)
      refine Blk.other ?_ _ _ (by dsimp only; omega)
      refine Blk.other ?_ _ _ (by dsimp only; omega)
      refine Blk.other ?_ _ _ (by dsimp only; omega)
      refine Blk.other ?_ _ _ (by dsimp only; omega)
      refine Blk.other ?_ _ _ (by dsimp only; omega)
      refine Blk.other ?_ _ _ (by dsimp only; omega)
      exact K9.out.2
    · have h := B9.out
      iterate 14 refine Below.setCell ?_ (by dsimp only; omega) _
      exact h
  clear hwf
  have hk := HK.out
  have e1 : (halfA f s).p = midI f s.p := by unfold halfA; simp [hk]
  have e2 : (halfA f s).q = midI (midI f s.p) (midI s.p s.q) := by unfold halfA; simp [hk]
  have e3 : (halfB s).p = midI s.p s.q := by unfold halfB; simp [hk]
  have e4 : (halfB s).q = s.q := by unfold halfB; simp [hk]
  rw [e1, e2, e3, e4]
  exact bodyPost_ret (results_halves 4 5 6 rfl rfl rfl rfl KF.out.1 KF.out.2.1) rfl ⟨rfl, KF.out.2.2⟩
end Go.Proofs.YtffgpikhahpomaaDoor
namespace Go.Proofs.YtffgpikhahpomaaDoor
open Go.RowKit
set_option maxHeartbeats 2000000 in
set_option maxRecDepth 100000 in
theorem halves_cubic (s : Sg) (f : Pt) (w : World) (hr : Rd w) (hk : s.k = 4) (hc : curveB [f, s.p, s.q, s.r] = true) :
    Calls Tryd.prog 43 #[.agg (seven s.k s.p s.q s.r), .agg #[.int .i64 f.1, .int .i64 f.2]] w fun e w' => e = .returned (.tuple #[.agg (seven 4 (halfA f s).p (halfA f s).q (halfA f s).r), .agg (seven 4 (halfB s).p (halfB s).q (halfB s).r), .int .i64 0]) ∧ Below w.heap.size w w' := by
  have hneed : needPts s = [s.p, s.q, s.r] := by unfold needPts; rw [hk]; rfl
  have HCU := Lib.hid (fun W hW => curve_c s f.1 f.2 W hW)
  rw [hneed] at HCU
  have HHA := Lib.hid (fun v W row => halves_c v [f, s.p, s.q, s.r] W row hc)
  have HK := Lib.hid hk
  have HR := Lib.hid hr
  rw [hk] at HCU ⊢
  clear hk hr hneed hc
  go_enter Tryd.func43, Tryd.ntmps43
  go_wp2_with fail
  go_region
  go_wp2_with fail
  obtain ⟨w5, hw5⟩ : ∃ w5, ((((w.alloc (.cells (seven 4 s.p s.q s.r) 48)).alloc (.cells #[.int .i64 f.1, .int .i64 f.2] 44)).alloc (.cells (seven 4 s.p s.q s.r) 48)).alloc (.cells (seven 4 s.p s.q s.r) 48)).drew = w5 := ⟨_, rfl⟩
  have B5 : Hid (Below w.heap.size w w5) := by rw [← hw5]; exact below_drewN (((((Below.refl _ _).alloc (Nat.le_refl _) _).alloc (by simp) _).alloc (by simp; omega) _).alloc (by simp; omega) _) 1
  have S5 : Hid (w5.heap.size = w.heap.size + 4) := by rw [← hw5]; unfold Hid; simp
  have K5 : Hid (Blk w5 (w.heap.size + 2) 48 (seven 4 s.p s.q s.r) ∧ Blk w5 (w.heap.size + 3) 48 (seven 4 s.p s.q s.r)) := by
    rw [← hw5]
    exact ⟨((Blk.newAt _ _ _ (by simp)).alloc _).drew, (Blk.newAt _ _ _ (by simp)).drew⟩
  rw [show ((((w.alloc (.cells (seven 4 s.p s.q s.r) 48)).alloc (.cells #[.int .i64 f.1, .int .i64 f.2] 44)).alloc (.cells (seven 4 s.p s.q s.r) 48)).alloc (.cells (seven 4 s.p s.q s.r) 48)).drew = w5 from hw5]
  clear hw5
  refine (HCU.out _ (HR.out.on B5.out)).mono ?_
  rintro e w6 ⟨v, rfl, ho, hb⟩
  have H6 := Lib.hid (And.intro ho.row hb); clear ho hb
  go_wp2_with fail
  refine (HHA.out _ _ H6.out.1).mono ?_
  rintro e w7 ⟨a, b, rfl, ha, hb, hb7⟩
  simp only [firstI, secondI] at ha hb
  obtain ⟨ga, ca, rfl, hca, hga, hgl, hcell⟩ := own_is ha (by simp)
  obtain ⟨gb, cb, rfl, hcb, hgb, hgbl, hcellb⟩ := own_is hb (by simp)
  simp only [List.length_cons, List.length_nil, Nat.zero_add] at hca hcb ⊢
  have B7 : Hid (Below w5.heap.size w5 w7) := below_next H6.out.2 hb7
  have K7 : Hid (Blk w7 (w.heap.size + 2) 48 (seven 4 s.p s.q s.r) ∧ Blk w7 (w.heap.size + 3) 48 (seven 4 s.p s.q s.r)) := ⟨K5.out.1.on B7.out K5.out.1.lt, K5.out.2.on B7.out K5.out.2.lt⟩
  have HA := Lib.hid (And.intro hca (And.intro hga (And.intro hgl hcell)))
  have HB := Lib.hid (And.intro hcb (And.intro hgb (And.intro hgbl hcellb)))
  have na : (ca = 1) = False := by simp; omega
  have nb : (cb = 1) = False := by simp; omega
  clear ha hb hb7 hca hga hgl hcell hcb hgb hgbl hcellb
  go_wp2_with fail
  have E8 := run_copy_wide (P := Tryd.prog) w7.drew 37 37 3 44 (w.heap.size + 1 + 1) 1 3 3 ⟨ga, 2, none⟩ 3 (ca - 1) 2 (seven 4 s.p s.q s.r) 48 (flatL [midI f s.p, midI (midI f s.p) (midI s.p s.q), midI (midI (midI f s.p) (midI s.p s.q)) (midI (midI s.p s.q) (midI s.q s.r))]) Tryd.underlying37 sizeP K7.out.1.drew rfl (fun j u hj => by simp only [Addr.add_lit]; rw [Nat.add_comm]; exact HA.out.2.2.2 (j + 2) u hj) (Nat.le_of_ble_eq_true rfl) (flatL_one _)
  obtain ⟨w8, hw8⟩ : ∃ W, World.setRow w7.drew (w.heap.size + 1 + 1) ((seven 4 s.p s.q s.r).toList.take 1 ++ flatL [midI f s.p, midI (midI f s.p) (midI s.p s.q), midI (midI (midI f s.p) (midI s.p s.q)) (midI (midI s.p s.q) (midI s.q s.r))] ++ (seven 4 s.p s.q s.r).toList.drop (1 + (flatL [midI f s.p, midI (midI f s.p) (midI s.p s.q), midI (midI (midI f s.p) (midI s.p s.q)) (midI (midI s.p s.q) (midI s.q s.r))]).length)).toArray = W := ⟨_, rfl⟩
  rw [hw8] at E8
  have K8 : Hid (Blk w8 (w.heap.size + 2) 48 (seven 4 (midI f s.p) (midI (midI f s.p) (midI s.p s.q)) (midI (midI (midI f s.p) (midI s.p s.q)) (midI (midI s.p s.q) (midI s.q s.r)))) ∧ Blk w8 (w.heap.size + 3) 48 (seven 4 s.p s.q s.r)) := by
    rw [← hw8]
    exact ⟨Blk.row K7.out.1.drew _, K7.out.2.drew.rowOther (by omega) _⟩
  have BE8 : Hid (∀ k, k ≠ w.heap.size + 2 → w8.heap[k]? = w7.heap[k]?) := by
    intro k hk
    rw [← hw8]
    exact setRow_other _ _ _ k hk
  have B8 : Hid (Below w.heap.size w w8) := by
    rw [← hw8]
    exact below_setRow (below_drewN (below_next B5.out B7.out) 1) (by omega) _
  clear hw8
  go_region
  clear E8
  go_wp2_with fail
  have hgb2 : gb ≠ w.heap.size + 2 := by
    have h1 := HB.out.2.1
    have h2 := H6.out.2.size
    have h3 := S5.out
    omega
  have E9 := run_copy_wide (P := Tryd.prog) w8.drew 37 37 3 44 (w.heap.size + 1 + 1 + 1) 1 3 3 ⟨gb, 2, none⟩ 3 (cb - 1) 2 (seven 4 s.p s.q s.r) 48 (flatL [midI (midI s.p s.q) (midI s.q s.r), midI s.q s.r, s.r]) Tryd.underlying37 sizeP K8.out.2.drew rfl (fun j u hj => by simp only [Addr.add_lit]; rw [Nat.add_comm]; exact (World.cell?_of_block (BE8.out gb hgb2)).trans (HB.out.2.2.2 (j + 2) u hj)) (Nat.le_of_ble_eq_true rfl) (flatL_one _)
  obtain ⟨w9, hw9⟩ : ∃ W, World.setRow w8.drew (w.heap.size + 1 + 1 + 1) ((seven 4 s.p s.q s.r).toList.take 1 ++ flatL [midI (midI s.p s.q) (midI s.q s.r), midI s.q s.r, s.r] ++ (seven 4 s.p s.q s.r).toList.drop (1 + (flatL [midI (midI s.p s.q) (midI s.q s.r), midI s.q s.r, s.r]).length)).toArray = W := ⟨_, rfl⟩
  rw [hw9] at E9
  have K9 : Hid (Blk w9 (w.heap.size + 1 + 1) 48 (seven 4 (midI f s.p) (midI (midI f s.p) (midI s.p s.q)) (midI (midI (midI f s.p) (midI s.p s.q)) (midI (midI s.p s.q) (midI s.q s.r)))) ∧ Blk w9 (w.heap.size + 1 + 1 + 1) 48 (seven 4 (midI (midI s.p s.q) (midI s.q s.r)) (midI s.q s.r) s.r)) := by
    rw [← hw9]
    exact ⟨K8.out.1.drew.rowOther (by omega) _, Blk.row K8.out.2.drew _⟩
  have B9 : Hid (Below w.heap.size w w9) := by
    rw [← hw9]
    exact below_setRow (below_drewN B8.out 1) (by omega) _
  clear hw9 hgb2
  go_region
  clear E9
  have ka := K9.out.1
  have kb := K9.out.2
  have d0 := ka.cell 0
  have d1 := ka.cell 1
  have d2 := ka.cell 2
  have d3 := ka.cell 3
  have d4 := ka.cell 4
  have d5 := ka.cell 5
  have d6 := ka.cell 6
  have c0 := kb.cell 0
  have c1 := kb.cell 1
  have c2 := kb.cell 2
  have c3 := kb.cell 3
  have c4 := kb.cell 4
  have c5 := kb.cell 5
  have c6 := kb.cell 6
  simp only [List.getElem?_toArray, List.getElem?_cons_zero, List.getElem?_cons_succ] at c0 c1 c2 c3 c4 c5 c6 d0 d1 d2 d3 d4 d5 d6
  have la := ka.lt
  have lb := kb.lt
  have fa := fun j => ka.free j
  have fb := fun j => kb.free j
  clear ka kb
  go_wp2_with fail
  clear c0 c1 c2 c3 c4 c5 c6 d0 d1 d2 d3 d4 d5 d6 la lb fa fb
  generalize hwf : World.setCell _ _ _ = wf
  have KF : Hid (Blk wf (w.heap.size + 1 + 1) 48 (⟨4, midI f s.p, midI (midI f s.p) (midI s.p s.q), midI (midI (midI f s.p) (midI s.p s.q)) (midI (midI s.p s.q) (midI s.q s.r))⟩ : Sg).cells ∧ Blk wf (w.heap.size + 1 + 1 + 1) 48 (⟨4, midI (midI s.p s.q) (midI s.q s.r), midI s.q s.r, s.r⟩ : Sg).cells ∧ Below w.heap.size w wf) := by
    rw [← hwf]
    refine ⟨?_, ?_, ?_⟩
    · refine Blk.other ?_ _ _ (by dsimp only; omega)
      refine Blk.other ?_ _ _ (by dsimp only; omega)
      refine Blk.other ?_ _ _ (by dsimp only; omega)
      refine Blk.other ?_ _ _ (by dsimp only; omega)
      refine Blk.other ?_ _ _ (by dsimp only; omega)
      refine Blk.other ?_ _ _ (by dsimp only; omega)
      refine Blk.other ?_ _ _ (by dsimp only; omega)
      exact Blk.setS (s := ⟨4, midI f s.p, midI (midI f s.p) (midI s.p s.q), midI (midI (midI f s.p) (midI s.p s.q)) (midI (midI s.p s.q) (midI s.q s.r))⟩) K9.out.1 ⟨4, midI f s.p, midI (midI f s.p) (midI s.p s.q), midI (midI (midI f s.p) (midI s.p s.q)) (midI (midI s.p s.q) (midI s.q s.r))⟩
    · refine Blk.setS (s := ⟨4, midI (midI s.p s.q) (midI s.q s.r), midI s.q s.r, s.r⟩) ?_ ⟨4, midI (midI s.p s.q) (midI s.q s.r), midI s.q s.r, s.r⟩
      refine Blk.other ?_ _ _ (by dsimp only; omega)
      refine Blk.other ?_ _ _ (by dsimp only; omega)
      refine Blk.other ?_ _ _ (by dsimp only; omega)
      refine Blk.other ?_ _ _ (by dsimp only; omega)
      refine Blk.other ?_ _ _ (by dsimp only; omega)
      refine Blk.other ?_ _ _ (by dsimp only; omega)
      refine Blk.other ?_ _ _ (by dsimp only; omega)
      exact K9.out.2
    · have h := B9.out
      iterate 14 refine Below.setCell ?_ (by dsimp only; omega) _
      exact h
  clear hwf
  have hk := HK.out
  have e1 : (halfA f s).p = midI f s.p := by unfold halfA; simp [hk]
  have e2 : (halfA f s).q = midI (midI f s.p) (midI s.p s.q) := by unfold halfA; simp [hk]
  have e3 : (halfB s).p = midI (midI s.p s.q) (midI s.q s.r) := by unfold halfB; simp [hk]
  have e4 : (halfB s).q = midI s.q s.r := by unfold halfB; simp [hk]
  have e5 : (halfA f s).r = midI (midI (midI f s.p) (midI s.p s.q)) (midI (midI s.p s.q) (midI s.q s.r)) := by unfold halfA; simp [hk]
  have e6 : (halfB s).r = s.r := by unfold halfB; simp [hk]
  rw [e1, e2, e3, e4, e5, e6]
  exact bodyPost_ret (results_halves 4 5 6 rfl rfl rfl rfl KF.out.1 KF.out.2.1) rfl ⟨rfl, KF.out.2.2⟩
end Go.Proofs.YtffgpikhahpomaaDoor
namespace Go.Proofs.YtffgpikhahpomaaDoor
open Go.RowKit
/-- What holds in the region that stores the middle. -/
def HlM (w5 : World) (g : Nat) (x y : Int) (b : Nat → Bool) (w' : World) : Prop :=
  (b 6 = false → Below w5.heap.size w5 w') ∧ (b 6 = true → ∃ W1, w' = (W1.setCell ⟨g, 1, none⟩ (.int .i64 x)).setCell ⟨g, 2, none⟩ (.int .i64 y) ∧ Below w5.heap.size w5 W1)
theorem HlM.other {w5 w' w'' : World} {g : Nat} {x y : Int} {b : Nat → Bool} (h : HlM w5 g x y b w') (i : Nat) (hi : 6 ≠ i) (b6 : b 6 = false) (hb : Below w'.heap.size w' w'') : HlM w5 g x y (upd b i true) w'' := by
  unfold HlM
  rw [upd_other _ _ _ _ hi, b6]
  exact ⟨fun _ => below_next (h.1 b6) hb, fun h => Bool.noConfusion h⟩
theorem HlM.keep {w5 w' : World} {g : Nat} {x y : Int} {b : Nat → Bool} (h : HlM w5 g x y b w') (i : Nat) (hi : 6 ≠ i) : HlM w5 g x y (upd b i true) w' := by
  unfold HlM
  rw [upd_other _ _ _ _ hi]
  exact h
theorem HlM.stored {w5 w' : World} {g : Nat} {x y : Int} {b : Nat → Bool} (h : HlM w5 g x y b w') (b6 : b 6 = false) : HlM w5 g x y (upd b 6 true) ((w'.setCell ⟨g, 1, none⟩ (.int .i64 x)).setCell ⟨g, 2, none⟩ (.int .i64 y)) := by
  unfold HlM
  rw [upd_same]
  exact ⟨fun h => Bool.noConfusion h, fun _ => ⟨w', rfl, h.1 b6⟩⟩
set_option maxHeartbeats 4000000 in
set_option maxRecDepth 100000 in
theorem halves_line (s : Sg) (f : Pt) (w : World) (hr : Rd w) (hk : s.k = 2) (hf : roomP f = true) (hp : roomP s.p = true) :
    Calls Tryd.prog 43 #[.agg (seven s.k s.p s.q s.r), .agg #[.int .i64 f.1, .int .i64 f.2]] w fun e w' => e = .returned (.tuple #[.agg (seven 2 (halfA f s).p s.q s.r), .agg (seven 2 s.p s.q s.r), .int .i64 0]) ∧ Below w.heap.size w w' := by
  have HE : Hid (∀ W, Rd W → Calls Tryd.prog 44 #[.agg (seven 2 s.p s.q s.r)] W fun e w' => e = .returned (.agg #[.int .i64 s.p.1, .int .i64 s.p.2]) ∧ Below W.heap.size W w') := fun W hW => end_c2 ⟨2, s.p, s.q, s.r⟩ W hW (Nat.le_of_ble_eq_true rfl)
  have HMI : Hid (∀ W, Calls Tryd.prog 58 #[.agg #[.int .i64 f.1, .int .i64 f.2], .agg #[.int .i64 s.p.1, .int .i64 s.p.2]] W fun e w' => e = .returned (.agg #[.int .i64 (midI f s.p).1, .int .i64 (midI f s.p).2]) ∧ Below W.heap.size W w') := fun W => mid_c f.1 f.2 s.p.1 s.p.2 W hf hp
  have HK := Lib.hid hk
  have HR := Lib.hid hr
  rw [hk]
  clear hk hr hf hp
  go_enter Tryd.func43, Tryd.ntmps43
  go_wp2_with fail
  go_region
  go_wp2_with fail
  obtain ⟨w5, hw5⟩ : ∃ w5, ((((w.alloc (.cells (seven 2 s.p s.q s.r) 48)).alloc (.cells #[.int .i64 f.1, .int .i64 f.2] 44)).alloc (.cells (seven 2 s.p s.q s.r) 48)).alloc (.cells (seven 2 s.p s.q s.r) 48)).drew = w5 := ⟨_, rfl⟩
  have B5 : Hid (Below w.heap.size w w5) := by rw [← hw5]; exact below_drewN (((((Below.refl _ _).alloc (Nat.le_refl _) _).alloc (by simp) _).alloc (by simp; omega) _).alloc (by simp; omega) _) 1
  have K5 : Hid (Blk w5 w.heap.size 48 (⟨2, s.p, s.q, s.r⟩ : Sg).cells ∧ Blk w5 (w.heap.size + 1) 44 (two f) ∧ Blk w5 (w.heap.size + 1 + 1) 48 (⟨2, s.p, s.q, s.r⟩ : Sg).cells ∧ Blk w5 (w.heap.size + 1 + 1 + 1) 48 (⟨2, s.p, s.q, s.r⟩ : Sg).cells) := by
    rw [← hw5]
    exact ⟨((((Blk.new _ _ _).alloc _).alloc _).alloc _).drew, (((Blk.newAt _ _ _ (by simp)).alloc _).alloc _).drew, ((Blk.newAt _ _ _ (by simp)).alloc _).drew, (Blk.newAt _ _ _ (by simp)).drew⟩
  rw [show ((((w.alloc (.cells (seven 2 s.p s.q s.r) 48)).alloc (.cells #[.int .i64 f.1, .int .i64 f.2] 44)).alloc (.cells (seven 2 s.p s.q s.r) 48)).alloc (.cells (seven 2 s.p s.q s.r) 48)).drew = w5 from hw5]
  clear hw5
  refine wp_region_put2 (by kernel_rfl) (by kernel_rfl) (by kernel_rfl) (fun b' vs w' => (b' 0 = true → vs 0 = .agg #[.int .i64 f.1, .int .i64 f.2]) ∧ (b' 1 = true → vs 1 = .agg (seven 2 s.p s.q s.r)) ∧ (b' 2 = true → vs 2 = .agg #[.int .i64 s.p.1, .int .i64 s.p.2]) ∧ (b' 3 = true → vs 3 = .agg #[.int .i64 (midI f s.p).1, .int .i64 (midI f s.p).2]) ∧ (b' 4 = true → vs 4 = .pointer (some ⟨w.heap.size + 1 + 1, 1, none⟩)) ∧ (b' 5 = true → vs 5 = .pointer (some ⟨w.heap.size + 1 + 1, 1, none⟩)) ∧ (b' 6 = true → b' 3 = true ∧ b' 5 = true) ∧ (b' 3 = true → b' 0 = true ∧ b' 2 = true) ∧ (b' 2 = true → b' 1 = true) ∧ Hid (HlM w5 (w.heap.size + 1 + 1) (midI f s.p).1 (midI f s.p).2 b' w')) ?_ ?_ ?_
  · intro vs hvs
    exact ⟨fun h => Bool.noConfusion h, fun h => Bool.noConfusion h, fun h => Bool.noConfusion h, fun h => Bool.noConfusion h, fun h => Bool.noConfusion h, fun h => Bool.noConfusion h, fun h => Bool.noConfusion h, fun h => Bool.noConfusion h, fun h => Bool.noConfusion h, ⟨fun _ => below_drewN (Below.refl _ _) 1, fun h => Bool.noConfusion h⟩⟩
  · rintro b' vs w' i op hi hun hall ⟨h0, h1, h2, h3, h4, h5, h6, hB, hC, hM⟩
    have hil : i < 7 := (List.getElem?_eq_some_iff.1 hi).1
    rcases i with _ | _ | _ | _ | _ | _ | _ | i
    · obtain rfl := Option.some.inj hi
      have n3 : b' 3 = false := by
        cases hz : b' 3 with
        | false => rfl
        | true => exact absurd (hB hz).1 (by rw [hun]; simp)
      have n6 : b' 6 = false := by
        cases hz : b' 6 with
        | false => rfl
        | true => exact absurd (h6 hz).1 (by rw [n3]; simp)
      have kb := K5.out.2.1.on (hM.out.1 n6) K5.out.2.1.lt
      have c0 : w'.cell? ⟨w.heap.size + 1, 0, none⟩ = some (.int .i64 f.1) := kb.cell 0
      have c1 : w'.cell? ⟨w.heap.size + 1, 1, none⟩ = some (.int .i64 f.2) := kb.cell 1
      clear kb
      refine wpOp_step rfl (fun K hK => ?_)
      have HKK := Lib.hid hK; clear hK
      simp only [putAll, Act.put, List.setIfInBounds_toArray, List.set_cons_zero, List.set_cons_succ]
      go_simp
      exact HKK.out _ _ ⟨_, by simp only [putAll, Act.put, List.setIfInBounds_toArray, List.set_cons_zero, List.set_cons_succ] <;> rfl, fun _ => rfl, h1, h2, h3, h4, h5, h6, fun h => ⟨rfl, (hB h).2⟩, hC, HlM.keep hM.out 0 (by decide)⟩
    · obtain rfl := Option.some.inj hi
      have n2 : b' 2 = false := by
        cases hz : b' 2 with
        | false => rfl
        | true => exact absurd (hC hz) (by rw [hun]; simp)
      have n3 : b' 3 = false := by
        cases hz : b' 3 with
        | false => rfl
        | true => exact absurd (hB hz).2 (by rw [n2]; simp)
      have n6 : b' 6 = false := by
        cases hz : b' 6 with
        | false => rfl
        | true => exact absurd (h6 hz).1 (by rw [n3]; simp)
      have kb := K5.out.1.on (hM.out.1 n6) K5.out.1.lt
      have c0 := kb.s0
      have c1 := kb.s1
      have c2 := kb.s2
      have c3 := kb.s3
      have c4 := kb.s4
      have c5 := kb.s5
      have c6 := kb.s6
      clear kb
      refine wpOp_step rfl (fun K hK => ?_)
      have HKK := Lib.hid hK; clear hK
      simp only [putAll, Act.put, List.setIfInBounds_toArray, List.set_cons_zero, List.set_cons_succ]
      go_simp
      exact HKK.out _ _ ⟨_, by simp only [putAll, Act.put, List.setIfInBounds_toArray, List.set_cons_zero, List.set_cons_succ] <;> rfl, h0, fun _ => rfl, h2, h3, h4, h5, h6, hB, fun _ => rfl, HlM.keep hM.out 1 (by decide)⟩
    · obtain rfl := Option.some.inj hi
      have n3 : b' 3 = false := by
        cases hz : b' 3 with
        | false => rfl
        | true => exact absurd (hB hz).2 (by rw [hun]; simp)
      have n6 : b' 6 = false := by
        cases hz : b' 6 with
        | false => rfl
        | true => exact absurd (h6 hz).1 (by rw [n3]; simp)
      have b1 := hall ⟨1, .data⟩ (by simp) rfl
      have d1 := h1 b1
      refine wpOp_step rfl (fun K hK => ?_)
      have HKK := Lib.hid hK; clear hK
      simp only [putAll, Act.put, List.setIfInBounds_toArray, List.set_cons_zero, List.set_cons_succ, d1]
      go_simp
      refine (HE.out _ (HR.out.on (below_next B5.out (hM.out.1 n6)))).mono ?_
      rintro e w9 ⟨rfl, hb⟩
      exact HKK.out _ _ ⟨_, by simp only [putAll, Act.put, List.setIfInBounds_toArray, List.set_cons_zero, List.set_cons_succ, d1] <;> rfl, h0, h1, fun _ => rfl, h3, h4, h5, h6, fun h => ⟨(hB h).1, rfl⟩, fun _ => b1, HlM.other hM.out 2 (by decide) n6 hb⟩
    · obtain rfl := Option.some.inj hi
      have n3 := hun
      have n6 : b' 6 = false := by
        cases hz : b' 6 with
        | false => rfl
        | true => exact absurd (h6 hz).1 (by rw [n3]; simp)
      have b0 := hall ⟨0, .data⟩ (by simp) rfl
      have b2 := hall ⟨2, .data⟩ (by simp) rfl
      have d0 := h0 b0
      have d2 := h2 b2
      have d1 := h1 (hC b2)
      refine wpOp_step rfl (fun K hK => ?_)
      have HKK := Lib.hid hK; clear hK
      simp only [putAll, Act.put, List.setIfInBounds_toArray, List.set_cons_zero, List.set_cons_succ, d0, d1, d2]
      go_simp
      refine (HMI.out _).mono ?_
      rintro e w9 ⟨rfl, hb⟩
      exact HKK.out _ _ ⟨_, by simp only [putAll, Act.put, List.setIfInBounds_toArray, List.set_cons_zero, List.set_cons_succ, d0, d1, d2] <;> rfl, h0, h1, h2, fun _ => rfl, h4, h5, fun h => ⟨rfl, (h6 h).2⟩, fun _ => ⟨b0, b2⟩, hC, HlM.other hM.out 3 (by decide) n6 hb⟩
    · obtain rfl := Option.some.inj hi
      refine wpOp_step rfl (fun K hK => ?_)
      have HKK := Lib.hid hK; clear hK
      simp only [putAll, Act.put, List.setIfInBounds_toArray, List.set_cons_zero, List.set_cons_succ]
      go_simp
      exact HKK.out _ _ ⟨_, by simp only [putAll, Act.put, List.setIfInBounds_toArray, List.set_cons_zero, List.set_cons_succ] <;> rfl, h0, h1, h2, h3, fun _ => rfl, h5, h6, hB, hC, HlM.keep hM.out 4 (by decide)⟩
    · obtain rfl := Option.some.inj hi
      have d4 := h4 (hall ⟨4, .data⟩ (by simp) rfl)
      refine wpOp_step rfl (fun K hK => ?_)
      have HKK := Lib.hid hK; clear hK
      simp only [putAll, Act.put, List.setIfInBounds_toArray, List.set_cons_zero, List.set_cons_succ, d4]
      go_simp
      exact HKK.out _ _ ⟨_, by simp only [putAll, Act.put, List.setIfInBounds_toArray, List.set_cons_zero, List.set_cons_succ, d4] <;> rfl, h0, h1, h2, h3, h4, fun _ => rfl, fun h => ⟨(h6 h).1, rfl⟩, hB, hC, HlM.keep hM.out 5 (by decide)⟩
    · obtain rfl := Option.some.inj hi
      have d3 := h3 (hall ⟨3, .data⟩ (by simp) rfl)
      have d5 := h5 (hall ⟨5, .data⟩ (by simp) rfl)
      have n6 := hun
      have d0 := h0 (hB (hall ⟨3, .data⟩ (by simp) rfl)).1
      have d2 := h2 (hB (hall ⟨3, .data⟩ (by simp) rfl)).2
      have d1 := h1 (hC (hB (hall ⟨3, .data⟩ (by simp) rfl)).2)
      have b3 := hall ⟨3, .data⟩ (by simp) rfl
      have b5 := hall ⟨5, .data⟩ (by simp) rfl
      have kb := K5.out.2.2.1.on (hM.out.1 n6) K5.out.2.2.1.lt
      have c1 := kb.s1
      have c2 := kb.s2
      have f1 := kb.free 1
      have f2 := kb.free 2
      have l1 := kb.lt
      clear kb
      refine wpOp_step rfl (fun K hK => ?_)
      have HKK := Lib.hid hK; clear hK
      simp only [putAll, Act.put, List.setIfInBounds_toArray, List.set_cons_zero, List.set_cons_succ, d3, d5, d0, d1, d2]
      go_simp
      exact HKK.out _ _ ⟨undef, by simp only [putAll, Act.put, List.setIfInBounds_toArray, List.set_cons_zero, List.set_cons_succ, d3, d5, d0, d1, d2] <;> rfl, h0, h1, h2, h3, h4, h5, fun _ => ⟨b3, b5⟩, hB, hC, HlM.stored hM.out n6⟩
    · exact absurd hil (by omega)
  · rintro b' vs w' hb ⟨h0, h1, h2, h3, h4, h5, h6, hB, hC, hM⟩
    obtain ⟨W1, rfl, hbW⟩ := hM.out.2 (hb 6 (by decide))
    have HBW := Lib.hid hbW
    clear h0 h1 h2 h3 h4 h5 h6 hB hC hM hb hbW
    simp only [putAll, Act.put, List.setIfInBounds_toArray, List.set_cons_zero, List.set_cons_succ]
    obtain ⟨w8, hw8⟩ : ∃ W, (W1.setCell ⟨w.heap.size + 1 + 1, 1, none⟩ (.int .i64 (midI f s.p).1)).setCell ⟨w.heap.size + 1 + 1, 2, none⟩ (.int .i64 (midI f s.p).2) = W := ⟨_, rfl⟩
    have K8 : Hid (Blk w8 (w.heap.size + 1 + 1) 48 (⟨2, midI f s.p, s.q, s.r⟩ : Sg).cells ∧ Blk w8 (w.heap.size + 1 + 1 + 1) 48 (⟨2, s.p, s.q, s.r⟩ : Sg).cells ∧ Below w.heap.size w w8) := by
      rw [← hw8]
      have h2 := K5.out.2.2.1.on HBW.out K5.out.2.2.1.lt
      have h3 := K5.out.2.2.2.on HBW.out K5.out.2.2.2.lt
      exact ⟨(h2.put 1 _ (seven 2 ((midI f s.p).1, s.p.2) s.q s.r) rfl).put 2 _ (seven 2 (midI f s.p) s.q s.r) rfl, (h3.other _ _ (by dsimp only; omega)).other _ _ (by dsimp only; omega), ((below_next B5.out HBW.out).setCell (by dsimp only; omega) _).setCell (by dsimp only; omega) _⟩
    rw [hw8]
    clear hw8
    have ka := K8.out.1
    have kb := K8.out.2.1
    have d0 := ka.s0
    have d1 := ka.s1
    have d2 := ka.s2
    have d3 := ka.s3
    have d4 := ka.s4
    have d5 := ka.s5
    have d6 := ka.s6
    have c0 := kb.s0
    have c1 := kb.s1
    have c2 := kb.s2
    have c3 := kb.s3
    have c4 := kb.s4
    have c5 := kb.s5
    have c6 := kb.s6
    have la := ka.lt
    have lb := kb.lt
    have fa := fun j => ka.free j
    have fb := fun j => kb.free j
    clear ka kb
    go_wp2_with fail
    clear c0 c1 c2 c3 c4 c5 c6 d0 d1 d2 d3 d4 d5 d6 la lb fa fb
    generalize hwf : World.setCell _ _ _ = wf
    have KF : Hid (Blk wf (w.heap.size + 1 + 1) 48 (⟨2, midI f s.p, s.q, s.r⟩ : Sg).cells ∧ Blk wf (w.heap.size + 1 + 1 + 1) 48 (⟨2, s.p, s.q, s.r⟩ : Sg).cells ∧ Below w.heap.size w wf) := by
      rw [← hwf]
      refine ⟨?_, ?_, ?_⟩
      · iterate 7 refine Blk.other ?_ _ _ (by dsimp only; omega)
        exact Blk.setS (s := ⟨2, midI f s.p, s.q, s.r⟩) K8.out.1 ⟨2, midI f s.p, s.q, s.r⟩
      · refine Blk.setS (s := ⟨2, s.p, s.q, s.r⟩) ?_ ⟨2, s.p, s.q, s.r⟩
        iterate 7 refine Blk.other ?_ _ _ (by dsimp only; omega)
        exact K8.out.2.1
      · have h := K8.out.2.2
        iterate 14 refine Below.setCell ?_ (by dsimp only; omega) _
        exact h
    clear hwf
    have hk := HK.out
    have e1 : (halfA f s).p = midI f s.p := by unfold halfA; simp [hk]
    rw [e1]
    exact bodyPost_ret (results_halves 4 5 6 rfl rfl rfl rfl KF.out.1 KF.out.2.1) rfl ⟨rfl, KF.out.2.2⟩
end Go.Proofs.YtffgpikhahpomaaDoor
namespace Go.Proofs.YtffgpikhahpomaaDoor
open Go.RowKit
theorem halves_s (s : Sg) (f : Pt) (w : World) (hr : Rd w) (hk : s.k = 2 ∨ s.k = 3 ∨ s.k = 4) (hf : roomP f = true) (hn : ∀ p ∈ needPts s, roomP p = true) :
    Calls Tryd.prog 43 #[.agg (seven s.k s.p s.q s.r), .agg #[.int .i64 f.1, .int .i64 f.2]] w fun e w' => e = .returned (.tuple #[.agg (halfA f s).cells, .agg (halfB s).cells, .int .i64 0]) ∧ Below w.heap.size w w' := by
  rcases hk with hk | hk | hk
  · have hneed : needPts s = [s.p] := by unfold needPts; rw [hk]; rfl
    refine (halves_line s f w hr hk hf (hn s.p (by rw [hneed]; simp))).mono ?_
    rintro e w' ⟨rfl, hb⟩
    refine ⟨?_, hb⟩
    have e1 : (halfA f s).cells = seven 2 (halfA f s).p s.q s.r := by unfold halfA; simp [hk, Sg.cells]
    have e2 : (halfB s).cells = seven 2 s.p s.q s.r := by unfold halfB; simp [hk, Sg.cells]
    rw [e1, e2]
  · have hneed : needPts s = [s.p, s.q] := by unfold needPts; rw [hk]; rfl
    have hc : curveB [f, s.p, s.q] = true := by unfold curveB; simp [hf, hn s.p (by rw [hneed]; simp), hn s.q (by rw [hneed]; simp)]
    refine (halves_quad s f w hr hk hc).mono ?_
    rintro e w' ⟨rfl, hb⟩
    refine ⟨?_, hb⟩
    have e1 : (halfA f s).cells = seven 3 (halfA f s).p (halfA f s).q s.r := by unfold halfA; simp [hk, Sg.cells]
    have e2 : (halfB s).cells = seven 3 (halfB s).p (halfB s).q s.r := by unfold halfB; simp [hk, Sg.cells]
    rw [e1, e2]
  · have hneed : needPts s = [s.p, s.q, s.r] := by unfold needPts; rw [hk]; rfl
    have hc : curveB [f, s.p, s.q, s.r] = true := by unfold curveB; simp [hf, hn s.p (by rw [hneed]; simp), hn s.q (by rw [hneed]; simp), hn s.r (by rw [hneed]; simp)]
    refine (halves_cubic s f w hr hk hc).mono ?_
    rintro e w' ⟨rfl, hb⟩
    refine ⟨?_, hb⟩
    have e1 : (halfA f s).cells = seven 4 (halfA f s).p (halfA f s).q (halfA f s).r := by unfold halfA; simp [hk, Sg.cells]
    have e2 : (halfB s).cells = seven 4 (halfB s).p (halfB s).q (halfB s).r := by unfold halfB; simp [hk, Sg.cells]
    rw [e1, e2]
end Go.Proofs.YtffgpikhahpomaaDoor
