/- Layer 7: the law StrokeReach. -/
import Derived.Test.YtdidbejinfkhbaaDoorTg
import Derived.Test.YtdidbejinfkhbaaDoorL
import Derived.Test.YtdidbejinfkhbaaDoorSh
namespace Go.Proofs.YtdidbejinfkhbaaDoor
open Go.RowKit
/-- What lies in memory: the argument, and the law's own variables. -/
structure LRM (w : World) (b : Bx) (W : World) (g3 g5 : Nat) (ao : Option Addr) (n c : Nat) (cl : Bool) (h cap : Int) : Prop where
  below : Below w.heap.size w W
  arg : Blk W w.heap.size 53 #[.slice ao n c, .bool cl, .int .i64 h, .int .i64 cap, .int .i64 b.x0, .int .i64 b.y0, .int .i64 b.x1, .int .i64 b.y1]
  sub : Blk W g3 39 #[.slice ao n c, .bool cl]
  box : Blk W g5 51 (four b)
theorem LRM.grow {w : World} {b : Bx} {W W' : World} {g3 g5 : Nat} {ao : Option Addr} {n c : Nat} {cl : Bool} {h cap : Int} (k : LRM w b W g3 g5 ao n c cl h cap) (hb : Below W.heap.size W W') : LRM w b W' g3 g5 ao n c cl h cap :=
  ⟨below_next k.below hb, k.arg.grow hb, k.sub.grow hb, k.box.grow hb⟩
theorem own_lim {w : World} {base size n : Nat} {t : TypeId} {v : Value} {xs : List Value} (h : w.ownsRow base t size v n xs) : n ≤ maxLen := by
  obtain ⟨_, ⟨_, rfl⟩ | ⟨g', cap', cur', _, _, _, hc, hM, _, _⟩⟩ := h
  · exact Nat.zero_le _
  · exact Nat.le_trans hc hM
theorem own_len {w : World} {base n c : Nat} {t : TypeId} {a : Option Addr} {L : List Pt} (h : Own w base t (.slice a n c) L) : L.length = n := by
  obtain ⟨_, ⟨e, h0⟩ | ⟨g', cap', cur', e, _⟩⟩ := h
  · cases e; exact h0
  · cases e; rfl
theorem polys_cell {w : World} {base q c k : Nat} {tR tP : TypeId} {a : Option Addr} {S : List (Value × List Pt)} {x : Value × List Pt} (h : Polys w base tR tP (.slice a q c) S) (hq : S.length = q) (hx : S[k]? = some x) :
    ∃ g, a = some ⟨g, 0, none⟩ ∧ g < w.heap.size ∧ w.cell? ⟨g, k, none⟩ = some x.1 := by
  have hrow := h.row
  obtain ⟨h1, ⟨e, h0⟩ | ⟨g', cap', cur', e, _, hg, _⟩⟩ := hrow
  · rw [List.eq_nil_of_length_eq_zero h0] at hx; cases hx
  · cases e
    refine ⟨g', rfl, (Array.getElem?_eq_some_iff.1 hg).1, ?_⟩
    have := h.row.cells (g := g') rfl k x.1 (by rw [List.getElem?_map, hx]; rfl)
    rwa [Addr.add_lit, Nat.zero_add] at this
set_option maxHeartbeats 4000000 in
set_option maxRecDepth 100000 in
theorem reach_many (ao : Option Addr) (n c : Nat) (cl : Bool) (h cap : Int) (b : Bx) (w : World) (HAW : Hid (∀ w, Calls Tryd.prog 10 #[] w fun e w' => e = .returned (.bool true) ∧ Below w.heap.size w w')) (hn : n > 20) :
    Calls Tryd.prog 6 #[.agg #[.slice ao n c, .bool cl, .int .i64 h, .int .i64 cap, .int .i64 b.x0, .int .i64 b.y0, .int .i64 b.x1, .int .i64 b.y1]] w fun e w' => e = .returned (.bool true) ∧ Below w.heap.size w w' := by
  go_enter Tryd.func6, Tryd.ntmps6
  go_wp2_with fail
  obtain ⟨w1, hw1⟩ : ∃ W, w.alloc (.cells #[.slice ao n c, .bool cl, .int .i64 h, .int .i64 cap, .int .i64 b.x0, .int .i64 b.y0, .int .i64 b.x1, .int .i64 b.y1] 53) = W := ⟨_, rfl⟩
  have B1 : Hid (Below w.heap.size w w1 ∧ Blk w1 w.heap.size 53 #[.slice ao n c, .bool cl, .int .i64 h, .int .i64 cap, .int .i64 b.x0, .int .i64 b.y0, .int .i64 b.x1, .int .i64 b.y1]) := by
    rw [← hw1]
    exact ⟨(Below.refl _ _).alloc (Nat.le_refl _) _, Blk.new _ _ _⟩
  rw [hw1]
  clear hw1
  refine wp_region_put2 (by kernel_rfl) (by kernel_rfl) (by kernel_rfl) (fun b' vs w' => (b' 0 = true → vs 0 = .pointer (some ⟨w.heap.size, 0, none⟩)) ∧ (b' 1 = true → vs 1 = .agg #[.slice ao n c, .bool cl]) ∧ (b' 2 = true → vs 2 = .pointer (some ⟨w.heap.size, 2, none⟩)) ∧ (b' 3 = true → vs 3 = .int .i64 h) ∧ (b' 4 = true → vs 4 = .pointer (some ⟨w.heap.size, 4, none⟩)) ∧ (b' 5 = true → vs 5 = .agg #[.int .i64 b.x0, .int .i64 b.y0, .int .i64 b.x1, .int .i64 b.y1]) ∧ (b' 9 = true → vs 9 = .int .i64 h) ∧ Hid (LayG w1 [⟨6, 8, 39, #[.slice none 0 0, .bool false], #[.slice ao n c, .bool cl]⟩, ⟨7, 10, 51, (four ⟨0, 0, 0, 0⟩), (four b)⟩] b' vs w')) ?_ ?_ ?_
  · intro vs hvs
    exact ⟨fun h => Bool.noConfusion h, fun h => Bool.noConfusion h, fun h => Bool.noConfusion h, fun h => Bool.noConfusion h, fun h => Bool.noConfusion h, fun h => Bool.noConfusion h, fun h => Bool.noConfusion h, LayG.start vs⟩
  · rintro b' vs w' i op hi hun hall ⟨h0, h1, h2, h3, h4, h5, h9, hM⟩
    have hil : i < 11 := (List.getElem?_eq_some_iff.1 hi).1
    rcases i with _ | _ | _ | _ | _ | _ | _ | _ | _ | _ | _ | i
    · obtain rfl := Option.some.inj hi
      refine wpOp_step rfl (fun K hK => ?_)
      have HKK := Lib.hid hK; clear hK
      simp only [putAll, Act.put, List.setIfInBounds_toArray, List.set_cons_zero, List.set_cons_succ]
      go_simp
      exact HKK.out _ _ ⟨_, by simp only [putAll, Act.put, List.setIfInBounds_toArray, List.set_cons_zero, List.set_cons_succ] <;> rfl, fun _ => rfl, h1, h2, h3, h4, h5, h9, LayG.other hM.out 0 _ rfl⟩
    · obtain rfl := Option.some.inj hi
      have d0 := h0 (hall ⟨0, .data⟩ (by simp) rfl)
      have kk := B1.out.2.grow (LayG.below hM.out)
      have x0 : w'.cell? ⟨w.heap.size, 0, none⟩ = some (.slice ao n c) := kk.cell 0
      have x1 : w'.cell? ⟨w.heap.size, 1, none⟩ = some (.bool cl) := kk.cell 1
      clear kk
      refine wpOp_step rfl (fun K hK => ?_)
      have HKK := Lib.hid hK; clear hK
      simp only [putAll, Act.put, List.setIfInBounds_toArray, List.set_cons_zero, List.set_cons_succ, d0]
      go_simp
      exact HKK.out _ _ ⟨_, by simp only [putAll, Act.put, List.setIfInBounds_toArray, List.set_cons_zero, List.set_cons_succ, d0] <;> rfl, h0, fun _ => rfl, h2, h3, h4, h5, h9, LayG.other hM.out 1 _ rfl⟩
    · obtain rfl := Option.some.inj hi
      refine wpOp_step rfl (fun K hK => ?_)
      have HKK := Lib.hid hK; clear hK
      simp only [putAll, Act.put, List.setIfInBounds_toArray, List.set_cons_zero, List.set_cons_succ]
      go_simp
      exact HKK.out _ _ ⟨_, by simp only [putAll, Act.put, List.setIfInBounds_toArray, List.set_cons_zero, List.set_cons_succ] <;> rfl, h0, h1, fun _ => rfl, h3, h4, h5, h9, LayG.other hM.out 2 _ rfl⟩
    · obtain rfl := Option.some.inj hi
      have d2 := h2 (hall ⟨2, .data⟩ (by simp) rfl)
      have kk := B1.out.2.grow (LayG.below hM.out)
      have x2 : w'.cell? ⟨w.heap.size, 2, none⟩ = some (.int .i64 h) := kk.cell 2
      clear kk
      refine wpOp_step rfl (fun K hK => ?_)
      have HKK := Lib.hid hK; clear hK
      simp only [putAll, Act.put, List.setIfInBounds_toArray, List.set_cons_zero, List.set_cons_succ, d2]
      go_simp
      exact HKK.out _ _ ⟨_, by simp only [putAll, Act.put, List.setIfInBounds_toArray, List.set_cons_zero, List.set_cons_succ, d2] <;> rfl, h0, h1, h2, fun _ => rfl, h4, h5, h9, LayG.other hM.out 3 _ rfl⟩
    · obtain rfl := Option.some.inj hi
      refine wpOp_step rfl (fun K hK => ?_)
      have HKK := Lib.hid hK; clear hK
      simp only [putAll, Act.put, List.setIfInBounds_toArray, List.set_cons_zero, List.set_cons_succ]
      go_simp
      exact HKK.out _ _ ⟨_, by simp only [putAll, Act.put, List.setIfInBounds_toArray, List.set_cons_zero, List.set_cons_succ] <;> rfl, h0, h1, h2, h3, fun _ => rfl, h5, h9, LayG.other hM.out 4 _ rfl⟩
    · obtain rfl := Option.some.inj hi
      have d4 := h4 (hall ⟨4, .data⟩ (by simp) rfl)
      have kk := B1.out.2.grow (LayG.below hM.out)
      have x4 : w'.cell? ⟨w.heap.size, 4, none⟩ = some (.int .i64 b.x0) := kk.cell 4
      have x5 : w'.cell? ⟨w.heap.size, 5, none⟩ = some (.int .i64 b.y0) := kk.cell 5
      have x6 : w'.cell? ⟨w.heap.size, 6, none⟩ = some (.int .i64 b.x1) := kk.cell 6
      have x7 : w'.cell? ⟨w.heap.size, 7, none⟩ = some (.int .i64 b.y1) := kk.cell 7
      clear kk
      refine wpOp_step rfl (fun K hK => ?_)
      have HKK := Lib.hid hK; clear hK
      simp only [putAll, Act.put, List.setIfInBounds_toArray, List.set_cons_zero, List.set_cons_succ, d4]
      go_simp
      exact HKK.out _ _ ⟨_, by simp only [putAll, Act.put, List.setIfInBounds_toArray, List.set_cons_zero, List.set_cons_succ, d4] <;> rfl, h0, h1, h2, h3, h4, fun _ => rfl, h9, LayG.other hM.out 5 _ rfl⟩
    · obtain rfl := Option.some.inj hi
      refine wpOp_step rfl (fun K hK => ?_)
      have HKK := Lib.hid hK; clear hK
      simp only [putAll, Act.put, List.setIfInBounds_toArray, List.set_cons_zero, List.set_cons_succ]
      go_simp
      exact HKK.out _ _ ⟨_, by simp only [putAll, Act.put, List.setIfInBounds_toArray, List.set_cons_zero, List.set_cons_succ] <;> rfl, h0, h1, h2, h3, h4, h5, h9, LayG.made hM.out rfl ⟨6, 8, 39, #[.slice none 0 0, .bool false], #[.slice ao n c, .bool cl]⟩ (by simp) hun⟩
    · obtain rfl := Option.some.inj hi
      refine wpOp_step rfl (fun K hK => ?_)
      have HKK := Lib.hid hK; clear hK
      simp only [putAll, Act.put, List.setIfInBounds_toArray, List.set_cons_zero, List.set_cons_succ]
      go_simp
      exact HKK.out _ _ ⟨_, by simp only [putAll, Act.put, List.setIfInBounds_toArray, List.set_cons_zero, List.set_cons_succ] <;> rfl, h0, h1, h2, h3, h4, h5, h9, LayG.made hM.out rfl ⟨7, 10, 51, (four ⟨0, 0, 0, 0⟩), (four b)⟩ (by simp) hun⟩
    · obtain rfl := Option.some.inj hi
      have d1 := h1 (hall ⟨1, .data⟩ (by simp) rfl)
      have dal := hall ⟨6, .data⟩ (by simp) rfl
      obtain ⟨g, eg, lg, kg⟩ := LayG.at hM.out ⟨6, 8, 39, #[.slice none 0 0, .bool false], #[.slice ao n c, .bool cl]⟩ (by simp) dal hun
      have kz : Blk w' g 39 #[.slice none 0 0, .bool false] := kg
      have c0 : w'.cell? ⟨g, 0, none⟩ = some (.slice none 0 0) := kz.cell 0
      have c1 : w'.cell? ⟨g, 1, none⟩ = some (.bool false) := kz.cell 1
      have f0 := kg.free 0
      have f1 := kg.free 1
      have lgw := kg.lt
      refine wpOp_step rfl (fun K hK => ?_)
      have HKK := Lib.hid hK; clear hK
      simp only [putAll, Act.put, List.setIfInBounds_toArray, List.set_cons_zero, List.set_cons_succ, d1, eg]
      go_simp
      exact HKK.out _ _ ⟨undef, by simp only [putAll, Act.put, List.setIfInBounds_toArray, List.set_cons_zero, List.set_cons_succ, d1, eg] <;> rfl, h0, h1, h2, h3, h4, h5, h9, LayG.stored hM.out rfl ⟨6, 8, 39, #[.slice none 0 0, .bool false], #[.slice ao n c, .bool cl]⟩ (by simp) undef dal eg (below_cell2 (LayG.below hM.out) lg 0 1 _ _) ((kz.put 0 _ _ rfl).put 1 _ _ rfl) (fun _ _ _ hne k => k.other2 hne 0 1 _ _)⟩
    · obtain rfl := Option.some.inj hi
      have d3 := h3 (hall ⟨3, .data⟩ (by simp) rfl)
      refine wpOp_step rfl (fun K hK => ?_)
      have HKK := Lib.hid hK; clear hK
      simp only [putAll, Act.put, List.setIfInBounds_toArray, List.set_cons_zero, List.set_cons_succ, d3]
      go_simp
      exact HKK.out _ _ ⟨_, by simp only [putAll, Act.put, List.setIfInBounds_toArray, List.set_cons_zero, List.set_cons_succ, d3] <;> rfl, h0, h1, h2, h3, h4, h5, fun _ => rfl, LayG.other hM.out 9 _ rfl⟩
    · obtain rfl := Option.some.inj hi
      have d5 := h5 (hall ⟨5, .data⟩ (by simp) rfl)
      have dal := hall ⟨7, .data⟩ (by simp) rfl
      obtain ⟨g, eg, lg, kg⟩ := LayG.at hM.out ⟨7, 10, 51, (four ⟨0, 0, 0, 0⟩), (four b)⟩ (by simp) dal hun
      have kz : Blk w' g 51 (four ⟨0, 0, 0, 0⟩) := kg
      have c0 := kz.b0
      have c1 := kz.b1
      have c2 := kz.b2
      have c3 := kz.b3
      have f0 := kg.free 0
      have f1 := kg.free 1
      have f2 := kg.free 2
      have f3 := kg.free 3
      have lgw := kg.lt
      refine wpOp_step rfl (fun K hK => ?_)
      have HKK := Lib.hid hK; clear hK
      simp only [putAll, Act.put, List.setIfInBounds_toArray, List.set_cons_zero, List.set_cons_succ, d5, eg]
      go_simp
      exact HKK.out _ _ ⟨undef, by simp only [putAll, Act.put, List.setIfInBounds_toArray, List.set_cons_zero, List.set_cons_succ, d5, eg] <;> rfl, h0, h1, h2, h3, h4, h5, h9, LayG.stored hM.out rfl ⟨7, 10, 51, (four ⟨0, 0, 0, 0⟩), (four b)⟩ (by simp) undef dal eg (below_four (LayG.below hM.out) lg _ _ _ _) (kz.setB b) (fun _ _ _ hne k => k.otherB hne _ _ _ _)⟩
    · exact absurd hil (by omega)
  · rintro b' vs w' hb ⟨h0, h1, h2, h3, h4, h5, h9, hM⟩
    obtain ⟨g3, e6, l3, k3⟩ := LayG.done hM.out ⟨6, 8, 39, #[.slice none 0 0, .bool false], #[.slice ao n c, .bool cl]⟩ (by simp) (hb 6 (by decide)) (hb 8 (by decide))
    obtain ⟨g5, e7, l5, k5⟩ := LayG.done hM.out ⟨7, 10, 51, (four ⟨0, 0, 0, 0⟩), (four b)⟩ (by simp) (hb 7 (by decide)) (hb 10 (by decide))
    have hne : g3 ≠ g5 := LayG.ne hM.out ⟨6, 8, 39, #[.slice none 0 0, .bool false], #[.slice ao n c, .bool cl]⟩ ⟨7, 10, 51, (four ⟨0, 0, 0, 0⟩), (four b)⟩ (by simp) (by simp) (show (6 : Nat) ≠ 7 by decide) (hb 6 (by decide)) (hb 7 (by decide)) e6 e7
    have hbw := LayG.below hM.out
    have v0 := h0 (hb 0 (by decide))
    have v1 := h1 (hb 1 (by decide))
    have v2 := h2 (hb 2 (by decide))
    have v3 := h3 (hb 3 (by decide))
    have v4 := h4 (hb 4 (by decide))
    have v5 := h5 (hb 5 (by decide))
    have v9 := h9 (hb 9 (by decide))
    simp only [putAll, Act.put, List.setIfInBounds_toArray, List.set_cons_zero, List.set_cons_succ, e6, e7, v0, v1, v2, v3, v4, v5, v9]
    clear h0 h1 h2 h3 h4 h5 h9 hM hb e6 e7 v0 v1 v2 v3 v4 v5 v9
    have S2 : Hid (LRM w b w' g3 g5 ao n c cl h cap) := ⟨below_next B1.out.1 hbw, B1.out.2.grow hbw, k3, k5⟩
    clear hbw hne k3 k5 l3 l5 B1
    obtain ⟨w2, hw2⟩ : ∃ W, w' = W := ⟨_, rfl⟩
    rw [hw2] at S2 ⊢
    clear hw2
    have kl := S2.out.sub
    have s0 : w2.cell? ⟨g3, 0, none⟩ = some (.slice ao n c) := kl.cell 0
    have s1 : w2.cell? ⟨g3, 1, none⟩ = some (.bool cl) := kl.cell 1
    clear kl
    go_wp2_with fail
    clear s0 s1
    refine (HAW.out _).mono ?_
    rintro e w9 ⟨rfl, hb9⟩
    have B9 : Hid (Below w.heap.size w w9) := below_next S2.out.below hb9
    clear hb9
    go_wp2_with fail
    go_ret
    exact ⟨rfl, B9.out⟩
set_option maxHeartbeats 4000000 in
set_option maxRecDepth 100000 in
theorem reach_low (ao : Option Addr) (n c : Nat) (cl : Bool) (h cap : Int) (b : Bx) (w : World) (HAW : Hid (∀ w, Calls Tryd.prog 10 #[] w fun e w' => e = .returned (.bool true) ∧ Below w.heap.size w w')) (hn : ¬ n > 20) (h1 : h < 1) :
    Calls Tryd.prog 6 #[.agg #[.slice ao n c, .bool cl, .int .i64 h, .int .i64 cap, .int .i64 b.x0, .int .i64 b.y0, .int .i64 b.x1, .int .i64 b.y1]] w fun e w' => e = .returned (.bool true) ∧ Below w.heap.size w w' := by
  go_enter Tryd.func6, Tryd.ntmps6
  go_wp2_with fail
  obtain ⟨w1, hw1⟩ : ∃ W, w.alloc (.cells #[.slice ao n c, .bool cl, .int .i64 h, .int .i64 cap, .int .i64 b.x0, .int .i64 b.y0, .int .i64 b.x1, .int .i64 b.y1] 53) = W := ⟨_, rfl⟩
  have B1 : Hid (Below w.heap.size w w1 ∧ Blk w1 w.heap.size 53 #[.slice ao n c, .bool cl, .int .i64 h, .int .i64 cap, .int .i64 b.x0, .int .i64 b.y0, .int .i64 b.x1, .int .i64 b.y1]) := by
    rw [← hw1]
    exact ⟨(Below.refl _ _).alloc (Nat.le_refl _) _, Blk.new _ _ _⟩
  rw [hw1]
  clear hw1
  refine wp_region_put2 (by kernel_rfl) (by kernel_rfl) (by kernel_rfl) (fun b' vs w' => (b' 0 = true → vs 0 = .pointer (some ⟨w.heap.size, 0, none⟩)) ∧ (b' 1 = true → vs 1 = .agg #[.slice ao n c, .bool cl]) ∧ (b' 2 = true → vs 2 = .pointer (some ⟨w.heap.size, 2, none⟩)) ∧ (b' 3 = true → vs 3 = .int .i64 h) ∧ (b' 4 = true → vs 4 = .pointer (some ⟨w.heap.size, 4, none⟩)) ∧ (b' 5 = true → vs 5 = .agg #[.int .i64 b.x0, .int .i64 b.y0, .int .i64 b.x1, .int .i64 b.y1]) ∧ (b' 9 = true → vs 9 = .int .i64 h) ∧ Hid (LayG w1 [⟨6, 8, 39, #[.slice none 0 0, .bool false], #[.slice ao n c, .bool cl]⟩, ⟨7, 10, 51, (four ⟨0, 0, 0, 0⟩), (four b)⟩] b' vs w')) ?_ ?_ ?_
  · intro vs hvs
    exact ⟨fun h => Bool.noConfusion h, fun h => Bool.noConfusion h, fun h => Bool.noConfusion h, fun h => Bool.noConfusion h, fun h => Bool.noConfusion h, fun h => Bool.noConfusion h, fun h => Bool.noConfusion h, LayG.start vs⟩
  · rintro b' vs w' i op hi hun hall ⟨h0, h1, h2, h3, h4, h5, h9, hM⟩
    have hil : i < 11 := (List.getElem?_eq_some_iff.1 hi).1
    rcases i with _ | _ | _ | _ | _ | _ | _ | _ | _ | _ | _ | i
    · obtain rfl := Option.some.inj hi
      refine wpOp_step rfl (fun K hK => ?_)
      have HKK := Lib.hid hK; clear hK
      simp only [putAll, Act.put, List.setIfInBounds_toArray, List.set_cons_zero, List.set_cons_succ]
      go_simp
      exact HKK.out _ _ ⟨_, by simp only [putAll, Act.put, List.setIfInBounds_toArray, List.set_cons_zero, List.set_cons_succ] <;> rfl, fun _ => rfl, h1, h2, h3, h4, h5, h9, LayG.other hM.out 0 _ rfl⟩
    · obtain rfl := Option.some.inj hi
      have d0 := h0 (hall ⟨0, .data⟩ (by simp) rfl)
      have kk := B1.out.2.grow (LayG.below hM.out)
      have x0 : w'.cell? ⟨w.heap.size, 0, none⟩ = some (.slice ao n c) := kk.cell 0
      have x1 : w'.cell? ⟨w.heap.size, 1, none⟩ = some (.bool cl) := kk.cell 1
      clear kk
      refine wpOp_step rfl (fun K hK => ?_)
      have HKK := Lib.hid hK; clear hK
      simp only [putAll, Act.put, List.setIfInBounds_toArray, List.set_cons_zero, List.set_cons_succ, d0]
      go_simp
      exact HKK.out _ _ ⟨_, by simp only [putAll, Act.put, List.setIfInBounds_toArray, List.set_cons_zero, List.set_cons_succ, d0] <;> rfl, h0, fun _ => rfl, h2, h3, h4, h5, h9, LayG.other hM.out 1 _ rfl⟩
    · obtain rfl := Option.some.inj hi
      refine wpOp_step rfl (fun K hK => ?_)
      have HKK := Lib.hid hK; clear hK
      simp only [putAll, Act.put, List.setIfInBounds_toArray, List.set_cons_zero, List.set_cons_succ]
      go_simp
      exact HKK.out _ _ ⟨_, by simp only [putAll, Act.put, List.setIfInBounds_toArray, List.set_cons_zero, List.set_cons_succ] <;> rfl, h0, h1, fun _ => rfl, h3, h4, h5, h9, LayG.other hM.out 2 _ rfl⟩
    · obtain rfl := Option.some.inj hi
      have d2 := h2 (hall ⟨2, .data⟩ (by simp) rfl)
      have kk := B1.out.2.grow (LayG.below hM.out)
      have x2 : w'.cell? ⟨w.heap.size, 2, none⟩ = some (.int .i64 h) := kk.cell 2
      clear kk
      refine wpOp_step rfl (fun K hK => ?_)
      have HKK := Lib.hid hK; clear hK
      simp only [putAll, Act.put, List.setIfInBounds_toArray, List.set_cons_zero, List.set_cons_succ, d2]
      go_simp
      exact HKK.out _ _ ⟨_, by simp only [putAll, Act.put, List.setIfInBounds_toArray, List.set_cons_zero, List.set_cons_succ, d2] <;> rfl, h0, h1, h2, fun _ => rfl, h4, h5, h9, LayG.other hM.out 3 _ rfl⟩
    · obtain rfl := Option.some.inj hi
      refine wpOp_step rfl (fun K hK => ?_)
      have HKK := Lib.hid hK; clear hK
      simp only [putAll, Act.put, List.setIfInBounds_toArray, List.set_cons_zero, List.set_cons_succ]
      go_simp
      exact HKK.out _ _ ⟨_, by simp only [putAll, Act.put, List.setIfInBounds_toArray, List.set_cons_zero, List.set_cons_succ] <;> rfl, h0, h1, h2, h3, fun _ => rfl, h5, h9, LayG.other hM.out 4 _ rfl⟩
    · obtain rfl := Option.some.inj hi
      have d4 := h4 (hall ⟨4, .data⟩ (by simp) rfl)
      have kk := B1.out.2.grow (LayG.below hM.out)
      have x4 : w'.cell? ⟨w.heap.size, 4, none⟩ = some (.int .i64 b.x0) := kk.cell 4
      have x5 : w'.cell? ⟨w.heap.size, 5, none⟩ = some (.int .i64 b.y0) := kk.cell 5
      have x6 : w'.cell? ⟨w.heap.size, 6, none⟩ = some (.int .i64 b.x1) := kk.cell 6
      have x7 : w'.cell? ⟨w.heap.size, 7, none⟩ = some (.int .i64 b.y1) := kk.cell 7
      clear kk
      refine wpOp_step rfl (fun K hK => ?_)
      have HKK := Lib.hid hK; clear hK
      simp only [putAll, Act.put, List.setIfInBounds_toArray, List.set_cons_zero, List.set_cons_succ, d4]
      go_simp
      exact HKK.out _ _ ⟨_, by simp only [putAll, Act.put, List.setIfInBounds_toArray, List.set_cons_zero, List.set_cons_succ, d4] <;> rfl, h0, h1, h2, h3, h4, fun _ => rfl, h9, LayG.other hM.out 5 _ rfl⟩
    · obtain rfl := Option.some.inj hi
      refine wpOp_step rfl (fun K hK => ?_)
      have HKK := Lib.hid hK; clear hK
      simp only [putAll, Act.put, List.setIfInBounds_toArray, List.set_cons_zero, List.set_cons_succ]
      go_simp
      exact HKK.out _ _ ⟨_, by simp only [putAll, Act.put, List.setIfInBounds_toArray, List.set_cons_zero, List.set_cons_succ] <;> rfl, h0, h1, h2, h3, h4, h5, h9, LayG.made hM.out rfl ⟨6, 8, 39, #[.slice none 0 0, .bool false], #[.slice ao n c, .bool cl]⟩ (by simp) hun⟩
    · obtain rfl := Option.some.inj hi
      refine wpOp_step rfl (fun K hK => ?_)
      have HKK := Lib.hid hK; clear hK
      simp only [putAll, Act.put, List.setIfInBounds_toArray, List.set_cons_zero, List.set_cons_succ]
      go_simp
      exact HKK.out _ _ ⟨_, by simp only [putAll, Act.put, List.setIfInBounds_toArray, List.set_cons_zero, List.set_cons_succ] <;> rfl, h0, h1, h2, h3, h4, h5, h9, LayG.made hM.out rfl ⟨7, 10, 51, (four ⟨0, 0, 0, 0⟩), (four b)⟩ (by simp) hun⟩
    · obtain rfl := Option.some.inj hi
      have d1 := h1 (hall ⟨1, .data⟩ (by simp) rfl)
      have dal := hall ⟨6, .data⟩ (by simp) rfl
      obtain ⟨g, eg, lg, kg⟩ := LayG.at hM.out ⟨6, 8, 39, #[.slice none 0 0, .bool false], #[.slice ao n c, .bool cl]⟩ (by simp) dal hun
      have kz : Blk w' g 39 #[.slice none 0 0, .bool false] := kg
      have c0 : w'.cell? ⟨g, 0, none⟩ = some (.slice none 0 0) := kz.cell 0
      have c1 : w'.cell? ⟨g, 1, none⟩ = some (.bool false) := kz.cell 1
      have f0 := kg.free 0
      have f1 := kg.free 1
      have lgw := kg.lt
      refine wpOp_step rfl (fun K hK => ?_)
      have HKK := Lib.hid hK; clear hK
      simp only [putAll, Act.put, List.setIfInBounds_toArray, List.set_cons_zero, List.set_cons_succ, d1, eg]
      go_simp
      exact HKK.out _ _ ⟨undef, by simp only [putAll, Act.put, List.setIfInBounds_toArray, List.set_cons_zero, List.set_cons_succ, d1, eg] <;> rfl, h0, h1, h2, h3, h4, h5, h9, LayG.stored hM.out rfl ⟨6, 8, 39, #[.slice none 0 0, .bool false], #[.slice ao n c, .bool cl]⟩ (by simp) undef dal eg (below_cell2 (LayG.below hM.out) lg 0 1 _ _) ((kz.put 0 _ _ rfl).put 1 _ _ rfl) (fun _ _ _ hne k => k.other2 hne 0 1 _ _)⟩
    · obtain rfl := Option.some.inj hi
      have d3 := h3 (hall ⟨3, .data⟩ (by simp) rfl)
      refine wpOp_step rfl (fun K hK => ?_)
      have HKK := Lib.hid hK; clear hK
      simp only [putAll, Act.put, List.setIfInBounds_toArray, List.set_cons_zero, List.set_cons_succ, d3]
      go_simp
      exact HKK.out _ _ ⟨_, by simp only [putAll, Act.put, List.setIfInBounds_toArray, List.set_cons_zero, List.set_cons_succ, d3] <;> rfl, h0, h1, h2, h3, h4, h5, fun _ => rfl, LayG.other hM.out 9 _ rfl⟩
    · obtain rfl := Option.some.inj hi
      have d5 := h5 (hall ⟨5, .data⟩ (by simp) rfl)
      have dal := hall ⟨7, .data⟩ (by simp) rfl
      obtain ⟨g, eg, lg, kg⟩ := LayG.at hM.out ⟨7, 10, 51, (four ⟨0, 0, 0, 0⟩), (four b)⟩ (by simp) dal hun
      have kz : Blk w' g 51 (four ⟨0, 0, 0, 0⟩) := kg
      have c0 := kz.b0
      have c1 := kz.b1
      have c2 := kz.b2
      have c3 := kz.b3
      have f0 := kg.free 0
      have f1 := kg.free 1
      have f2 := kg.free 2
      have f3 := kg.free 3
      have lgw := kg.lt
      refine wpOp_step rfl (fun K hK => ?_)
      have HKK := Lib.hid hK; clear hK
      simp only [putAll, Act.put, List.setIfInBounds_toArray, List.set_cons_zero, List.set_cons_succ, d5, eg]
      go_simp
      exact HKK.out _ _ ⟨undef, by simp only [putAll, Act.put, List.setIfInBounds_toArray, List.set_cons_zero, List.set_cons_succ, d5, eg] <;> rfl, h0, h1, h2, h3, h4, h5, h9, LayG.stored hM.out rfl ⟨7, 10, 51, (four ⟨0, 0, 0, 0⟩), (four b)⟩ (by simp) undef dal eg (below_four (LayG.below hM.out) lg _ _ _ _) (kz.setB b) (fun _ _ _ hne k => k.otherB hne _ _ _ _)⟩
    · exact absurd hil (by omega)
  · rintro b' vs w' hb ⟨h0, h1, h2, h3, h4, h5, h9, hM⟩
    obtain ⟨g3, e6, l3, k3⟩ := LayG.done hM.out ⟨6, 8, 39, #[.slice none 0 0, .bool false], #[.slice ao n c, .bool cl]⟩ (by simp) (hb 6 (by decide)) (hb 8 (by decide))
    obtain ⟨g5, e7, l5, k5⟩ := LayG.done hM.out ⟨7, 10, 51, (four ⟨0, 0, 0, 0⟩), (four b)⟩ (by simp) (hb 7 (by decide)) (hb 10 (by decide))
    have hne : g3 ≠ g5 := LayG.ne hM.out ⟨6, 8, 39, #[.slice none 0 0, .bool false], #[.slice ao n c, .bool cl]⟩ ⟨7, 10, 51, (four ⟨0, 0, 0, 0⟩), (four b)⟩ (by simp) (by simp) (show (6 : Nat) ≠ 7 by decide) (hb 6 (by decide)) (hb 7 (by decide)) e6 e7
    have hbw := LayG.below hM.out
    have v0 := h0 (hb 0 (by decide))
    have v1 := h1 (hb 1 (by decide))
    have v2 := h2 (hb 2 (by decide))
    have v3 := h3 (hb 3 (by decide))
    have v4 := h4 (hb 4 (by decide))
    have v5 := h5 (hb 5 (by decide))
    have v9 := h9 (hb 9 (by decide))
    simp only [putAll, Act.put, List.setIfInBounds_toArray, List.set_cons_zero, List.set_cons_succ, e6, e7, v0, v1, v2, v3, v4, v5, v9]
    clear h0 h1 h2 h3 h4 h5 h9 hM hb e6 e7 v0 v1 v2 v3 v4 v5 v9
    have S2 : Hid (LRM w b w' g3 g5 ao n c cl h cap) := ⟨below_next B1.out.1 hbw, B1.out.2.grow hbw, k3, k5⟩
    clear hbw hne k3 k5 l3 l5 B1
    obtain ⟨w2, hw2⟩ : ∃ W, w' = W := ⟨_, rfl⟩
    rw [hw2] at S2 ⊢
    clear hw2
    have kl := S2.out.sub
    have s0 : w2.cell? ⟨g3, 0, none⟩ = some (.slice ao n c) := kl.cell 0
    have s1 : w2.cell? ⟨g3, 1, none⟩ = some (.bool cl) := kl.cell 1
    clear kl
    go_wp2_with fail
    clear s0 s1
    refine (HAW.out _).mono ?_
    rintro e w9 ⟨rfl, hb9⟩
    have B9 : Hid (Below w.heap.size w w9) := below_next S2.out.below hb9
    clear hb9
    go_wp2_with fail
    go_ret
    exact ⟨rfl, B9.out⟩
set_option maxHeartbeats 4000000 in
set_option maxRecDepth 100000 in
theorem reach_high (ao : Option Addr) (n c : Nat) (cl : Bool) (h cap : Int) (b : Bx) (w : World) (HAW : Hid (∀ w, Calls Tryd.prog 10 #[] w fun e w' => e = .returned (.bool true) ∧ Below w.heap.size w w')) (hn : ¬ n > 20) (h1 : ¬ h < 1) (h2 : h > 32768) :
    Calls Tryd.prog 6 #[.agg #[.slice ao n c, .bool cl, .int .i64 h, .int .i64 cap, .int .i64 b.x0, .int .i64 b.y0, .int .i64 b.x1, .int .i64 b.y1]] w fun e w' => e = .returned (.bool true) ∧ Below w.heap.size w w' := by
  go_enter Tryd.func6, Tryd.ntmps6
  go_wp2_with fail
  obtain ⟨w1, hw1⟩ : ∃ W, w.alloc (.cells #[.slice ao n c, .bool cl, .int .i64 h, .int .i64 cap, .int .i64 b.x0, .int .i64 b.y0, .int .i64 b.x1, .int .i64 b.y1] 53) = W := ⟨_, rfl⟩
  have B1 : Hid (Below w.heap.size w w1 ∧ Blk w1 w.heap.size 53 #[.slice ao n c, .bool cl, .int .i64 h, .int .i64 cap, .int .i64 b.x0, .int .i64 b.y0, .int .i64 b.x1, .int .i64 b.y1]) := by
    rw [← hw1]
    exact ⟨(Below.refl _ _).alloc (Nat.le_refl _) _, Blk.new _ _ _⟩
  rw [hw1]
  clear hw1
  refine wp_region_put2 (by kernel_rfl) (by kernel_rfl) (by kernel_rfl) (fun b' vs w' => (b' 0 = true → vs 0 = .pointer (some ⟨w.heap.size, 0, none⟩)) ∧ (b' 1 = true → vs 1 = .agg #[.slice ao n c, .bool cl]) ∧ (b' 2 = true → vs 2 = .pointer (some ⟨w.heap.size, 2, none⟩)) ∧ (b' 3 = true → vs 3 = .int .i64 h) ∧ (b' 4 = true → vs 4 = .pointer (some ⟨w.heap.size, 4, none⟩)) ∧ (b' 5 = true → vs 5 = .agg #[.int .i64 b.x0, .int .i64 b.y0, .int .i64 b.x1, .int .i64 b.y1]) ∧ (b' 9 = true → vs 9 = .int .i64 h) ∧ Hid (LayG w1 [⟨6, 8, 39, #[.slice none 0 0, .bool false], #[.slice ao n c, .bool cl]⟩, ⟨7, 10, 51, (four ⟨0, 0, 0, 0⟩), (four b)⟩] b' vs w')) ?_ ?_ ?_
  · intro vs hvs
    exact ⟨fun h => Bool.noConfusion h, fun h => Bool.noConfusion h, fun h => Bool.noConfusion h, fun h => Bool.noConfusion h, fun h => Bool.noConfusion h, fun h => Bool.noConfusion h, fun h => Bool.noConfusion h, LayG.start vs⟩
  · rintro b' vs w' i op hi hun hall ⟨h0, h1, h2, h3, h4, h5, h9, hM⟩
    have hil : i < 11 := (List.getElem?_eq_some_iff.1 hi).1
    rcases i with _ | _ | _ | _ | _ | _ | _ | _ | _ | _ | _ | i
    · obtain rfl := Option.some.inj hi
      refine wpOp_step rfl (fun K hK => ?_)
      have HKK := Lib.hid hK; clear hK
      simp only [putAll, Act.put, List.setIfInBounds_toArray, List.set_cons_zero, List.set_cons_succ]
      go_simp
      exact HKK.out _ _ ⟨_, by simp only [putAll, Act.put, List.setIfInBounds_toArray, List.set_cons_zero, List.set_cons_succ] <;> rfl, fun _ => rfl, h1, h2, h3, h4, h5, h9, LayG.other hM.out 0 _ rfl⟩
    · obtain rfl := Option.some.inj hi
      have d0 := h0 (hall ⟨0, .data⟩ (by simp) rfl)
      have kk := B1.out.2.grow (LayG.below hM.out)
      have x0 : w'.cell? ⟨w.heap.size, 0, none⟩ = some (.slice ao n c) := kk.cell 0
      have x1 : w'.cell? ⟨w.heap.size, 1, none⟩ = some (.bool cl) := kk.cell 1
      clear kk
      refine wpOp_step rfl (fun K hK => ?_)
      have HKK := Lib.hid hK; clear hK
      simp only [putAll, Act.put, List.setIfInBounds_toArray, List.set_cons_zero, List.set_cons_succ, d0]
      go_simp
      exact HKK.out _ _ ⟨_, by simp only [putAll, Act.put, List.setIfInBounds_toArray, List.set_cons_zero, List.set_cons_succ, d0] <;> rfl, h0, fun _ => rfl, h2, h3, h4, h5, h9, LayG.other hM.out 1 _ rfl⟩
    · obtain rfl := Option.some.inj hi
      refine wpOp_step rfl (fun K hK => ?_)
      have HKK := Lib.hid hK; clear hK
      simp only [putAll, Act.put, List.setIfInBounds_toArray, List.set_cons_zero, List.set_cons_succ]
      go_simp
      exact HKK.out _ _ ⟨_, by simp only [putAll, Act.put, List.setIfInBounds_toArray, List.set_cons_zero, List.set_cons_succ] <;> rfl, h0, h1, fun _ => rfl, h3, h4, h5, h9, LayG.other hM.out 2 _ rfl⟩
    · obtain rfl := Option.some.inj hi
      have d2 := h2 (hall ⟨2, .data⟩ (by simp) rfl)
      have kk := B1.out.2.grow (LayG.below hM.out)
      have x2 : w'.cell? ⟨w.heap.size, 2, none⟩ = some (.int .i64 h) := kk.cell 2
      clear kk
      refine wpOp_step rfl (fun K hK => ?_)
      have HKK := Lib.hid hK; clear hK
      simp only [putAll, Act.put, List.setIfInBounds_toArray, List.set_cons_zero, List.set_cons_succ, d2]
      go_simp
      exact HKK.out _ _ ⟨_, by simp only [putAll, Act.put, List.setIfInBounds_toArray, List.set_cons_zero, List.set_cons_succ, d2] <;> rfl, h0, h1, h2, fun _ => rfl, h4, h5, h9, LayG.other hM.out 3 _ rfl⟩
    · obtain rfl := Option.some.inj hi
      refine wpOp_step rfl (fun K hK => ?_)
      have HKK := Lib.hid hK; clear hK
      simp only [putAll, Act.put, List.setIfInBounds_toArray, List.set_cons_zero, List.set_cons_succ]
      go_simp
      exact HKK.out _ _ ⟨_, by simp only [putAll, Act.put, List.setIfInBounds_toArray, List.set_cons_zero, List.set_cons_succ] <;> rfl, h0, h1, h2, h3, fun _ => rfl, h5, h9, LayG.other hM.out 4 _ rfl⟩
    · obtain rfl := Option.some.inj hi
      have d4 := h4 (hall ⟨4, .data⟩ (by simp) rfl)
      have kk := B1.out.2.grow (LayG.below hM.out)
      have x4 : w'.cell? ⟨w.heap.size, 4, none⟩ = some (.int .i64 b.x0) := kk.cell 4
      have x5 : w'.cell? ⟨w.heap.size, 5, none⟩ = some (.int .i64 b.y0) := kk.cell 5
      have x6 : w'.cell? ⟨w.heap.size, 6, none⟩ = some (.int .i64 b.x1) := kk.cell 6
      have x7 : w'.cell? ⟨w.heap.size, 7, none⟩ = some (.int .i64 b.y1) := kk.cell 7
      clear kk
      refine wpOp_step rfl (fun K hK => ?_)
      have HKK := Lib.hid hK; clear hK
      simp only [putAll, Act.put, List.setIfInBounds_toArray, List.set_cons_zero, List.set_cons_succ, d4]
      go_simp
      exact HKK.out _ _ ⟨_, by simp only [putAll, Act.put, List.setIfInBounds_toArray, List.set_cons_zero, List.set_cons_succ, d4] <;> rfl, h0, h1, h2, h3, h4, fun _ => rfl, h9, LayG.other hM.out 5 _ rfl⟩
    · obtain rfl := Option.some.inj hi
      refine wpOp_step rfl (fun K hK => ?_)
      have HKK := Lib.hid hK; clear hK
      simp only [putAll, Act.put, List.setIfInBounds_toArray, List.set_cons_zero, List.set_cons_succ]
      go_simp
      exact HKK.out _ _ ⟨_, by simp only [putAll, Act.put, List.setIfInBounds_toArray, List.set_cons_zero, List.set_cons_succ] <;> rfl, h0, h1, h2, h3, h4, h5, h9, LayG.made hM.out rfl ⟨6, 8, 39, #[.slice none 0 0, .bool false], #[.slice ao n c, .bool cl]⟩ (by simp) hun⟩
    · obtain rfl := Option.some.inj hi
      refine wpOp_step rfl (fun K hK => ?_)
      have HKK := Lib.hid hK; clear hK
      simp only [putAll, Act.put, List.setIfInBounds_toArray, List.set_cons_zero, List.set_cons_succ]
      go_simp
      exact HKK.out _ _ ⟨_, by simp only [putAll, Act.put, List.setIfInBounds_toArray, List.set_cons_zero, List.set_cons_succ] <;> rfl, h0, h1, h2, h3, h4, h5, h9, LayG.made hM.out rfl ⟨7, 10, 51, (four ⟨0, 0, 0, 0⟩), (four b)⟩ (by simp) hun⟩
    · obtain rfl := Option.some.inj hi
      have d1 := h1 (hall ⟨1, .data⟩ (by simp) rfl)
      have dal := hall ⟨6, .data⟩ (by simp) rfl
      obtain ⟨g, eg, lg, kg⟩ := LayG.at hM.out ⟨6, 8, 39, #[.slice none 0 0, .bool false], #[.slice ao n c, .bool cl]⟩ (by simp) dal hun
      have kz : Blk w' g 39 #[.slice none 0 0, .bool false] := kg
      have c0 : w'.cell? ⟨g, 0, none⟩ = some (.slice none 0 0) := kz.cell 0
      have c1 : w'.cell? ⟨g, 1, none⟩ = some (.bool false) := kz.cell 1
      have f0 := kg.free 0
      have f1 := kg.free 1
      have lgw := kg.lt
      refine wpOp_step rfl (fun K hK => ?_)
      have HKK := Lib.hid hK; clear hK
      simp only [putAll, Act.put, List.setIfInBounds_toArray, List.set_cons_zero, List.set_cons_succ, d1, eg]
      go_simp
      exact HKK.out _ _ ⟨undef, by simp only [putAll, Act.put, List.setIfInBounds_toArray, List.set_cons_zero, List.set_cons_succ, d1, eg] <;> rfl, h0, h1, h2, h3, h4, h5, h9, LayG.stored hM.out rfl ⟨6, 8, 39, #[.slice none 0 0, .bool false], #[.slice ao n c, .bool cl]⟩ (by simp) undef dal eg (below_cell2 (LayG.below hM.out) lg 0 1 _ _) ((kz.put 0 _ _ rfl).put 1 _ _ rfl) (fun _ _ _ hne k => k.other2 hne 0 1 _ _)⟩
    · obtain rfl := Option.some.inj hi
      have d3 := h3 (hall ⟨3, .data⟩ (by simp) rfl)
      refine wpOp_step rfl (fun K hK => ?_)
      have HKK := Lib.hid hK; clear hK
      simp only [putAll, Act.put, List.setIfInBounds_toArray, List.set_cons_zero, List.set_cons_succ, d3]
      go_simp
      exact HKK.out _ _ ⟨_, by simp only [putAll, Act.put, List.setIfInBounds_toArray, List.set_cons_zero, List.set_cons_succ, d3] <;> rfl, h0, h1, h2, h3, h4, h5, fun _ => rfl, LayG.other hM.out 9 _ rfl⟩
    · obtain rfl := Option.some.inj hi
      have d5 := h5 (hall ⟨5, .data⟩ (by simp) rfl)
      have dal := hall ⟨7, .data⟩ (by simp) rfl
      obtain ⟨g, eg, lg, kg⟩ := LayG.at hM.out ⟨7, 10, 51, (four ⟨0, 0, 0, 0⟩), (four b)⟩ (by simp) dal hun
      have kz : Blk w' g 51 (four ⟨0, 0, 0, 0⟩) := kg
      have c0 := kz.b0
      have c1 := kz.b1
      have c2 := kz.b2
      have c3 := kz.b3
      have f0 := kg.free 0
      have f1 := kg.free 1
      have f2 := kg.free 2
      have f3 := kg.free 3
      have lgw := kg.lt
      refine wpOp_step rfl (fun K hK => ?_)
      have HKK := Lib.hid hK; clear hK
      simp only [putAll, Act.put, List.setIfInBounds_toArray, List.set_cons_zero, List.set_cons_succ, d5, eg]
      go_simp
      exact HKK.out _ _ ⟨undef, by simp only [putAll, Act.put, List.setIfInBounds_toArray, List.set_cons_zero, List.set_cons_succ, d5, eg] <;> rfl, h0, h1, h2, h3, h4, h5, h9, LayG.stored hM.out rfl ⟨7, 10, 51, (four ⟨0, 0, 0, 0⟩), (four b)⟩ (by simp) undef dal eg (below_four (LayG.below hM.out) lg _ _ _ _) (kz.setB b) (fun _ _ _ hne k => k.otherB hne _ _ _ _)⟩
    · exact absurd hil (by omega)
  · rintro b' vs w' hb ⟨h0, h1, h2, h3, h4, h5, h9, hM⟩
    obtain ⟨g3, e6, l3, k3⟩ := LayG.done hM.out ⟨6, 8, 39, #[.slice none 0 0, .bool false], #[.slice ao n c, .bool cl]⟩ (by simp) (hb 6 (by decide)) (hb 8 (by decide))
    obtain ⟨g5, e7, l5, k5⟩ := LayG.done hM.out ⟨7, 10, 51, (four ⟨0, 0, 0, 0⟩), (four b)⟩ (by simp) (hb 7 (by decide)) (hb 10 (by decide))
    have hne : g3 ≠ g5 := LayG.ne hM.out ⟨6, 8, 39, #[.slice none 0 0, .bool false], #[.slice ao n c, .bool cl]⟩ ⟨7, 10, 51, (four ⟨0, 0, 0, 0⟩), (four b)⟩ (by simp) (by simp) (show (6 : Nat) ≠ 7 by decide) (hb 6 (by decide)) (hb 7 (by decide)) e6 e7
    have hbw := LayG.below hM.out
    have v0 := h0 (hb 0 (by decide))
    have v1 := h1 (hb 1 (by decide))
    have v2 := h2 (hb 2 (by decide))
    have v3 := h3 (hb 3 (by decide))
    have v4 := h4 (hb 4 (by decide))
    have v5 := h5 (hb 5 (by decide))
    have v9 := h9 (hb 9 (by decide))
    simp only [putAll, Act.put, List.setIfInBounds_toArray, List.set_cons_zero, List.set_cons_succ, e6, e7, v0, v1, v2, v3, v4, v5, v9]
    clear h0 h1 h2 h3 h4 h5 h9 hM hb e6 e7 v0 v1 v2 v3 v4 v5 v9
    have S2 : Hid (LRM w b w' g3 g5 ao n c cl h cap) := ⟨below_next B1.out.1 hbw, B1.out.2.grow hbw, k3, k5⟩
    clear hbw hne k3 k5 l3 l5 B1
    obtain ⟨w2, hw2⟩ : ∃ W, w' = W := ⟨_, rfl⟩
    rw [hw2] at S2 ⊢
    clear hw2
    have kl := S2.out.sub
    have s0 : w2.cell? ⟨g3, 0, none⟩ = some (.slice ao n c) := kl.cell 0
    have s1 : w2.cell? ⟨g3, 1, none⟩ = some (.bool cl) := kl.cell 1
    clear kl
    go_wp2_with fail
    clear s0 s1
    refine (HAW.out _).mono ?_
    rintro e w9 ⟨rfl, hb9⟩
    have B9 : Hid (Below w.heap.size w w9) := below_next S2.out.below hb9
    clear hb9
    go_wp2_with fail
    go_ret
    exact ⟨rfl, B9.out⟩
set_option maxHeartbeats 4000000 in
set_option maxRecDepth 100000 in
theorem reach_main (ao : Option Addr) (n c : Nat) (cl : Bool) (h cap : Int) (b : Bx) (w : World) (HAW : Hid (∀ w, Calls Tryd.prog 10 #[] w fun e w' => e = .returned (.bool true) ∧ Below w.heap.size w w')) (hn : ¬ n > 20) (h1 : ¬ h < 1) (h2 : ¬ h > 32768) (em sm : Bool) (bd : Bx) (HEM : Hid (em = emptyI b)) (HSM : Hid (sm = (((decide (b.x0 ≥ -1099511627776) && decide (b.y0 ≥ -1099511627776)) && decide (b.x1 ≤ 1099511627776)) && decide (b.y1 ≤ 1099511627776))))
    (HR0 : Hid (em = true → ∀ w, Calls Tryd.prog 20 #[.agg #[.int .i64 b.x0, .int .i64 b.y0, .int .i64 b.x1, .int .i64 b.y1], .int .i64 h] w fun e w' => e = .returned (.agg #[.int .i64 0, .int .i64 0, .int .i64 0, .int .i64 0]) ∧ Below w.heap.size w w')) (z1 z2 z3 z4 d : Int)
    (HR1 : Hid (em = false → sm = true → Hid (∀ w, Calls Tryd.prog 20 #[.agg #[.int .i64 b.x0, .int .i64 b.y0, .int .i64 b.x1, .int .i64 b.y1], .int .i64 h] w fun e w' => e = .returned (.agg #[.int .i64 z1, .int .i64 z2, .int .i64 z3, .int .i64 z4]) ∧ Below w.heap.size w w') ∧ Hid (IntKind.i64.wrap (2 * h) = d) ∧ Hid (wrap64 (2 * h) = d) ∧ Hid (wrap64 (b.x0 - d) = z1) ∧ Hid (wrap64 (b.y0 - d) = z2) ∧ Hid (wrap64 (b.x1 + d) = z3) ∧ Hid (wrap64 (b.y1 + d) = z4)))
    (z : Int) (PP : List (List Pt)) (r : Bx) (l : List Pt)
    (HST : Hid (∀ w', Below w.heap.size w w' → Calls Tryd.prog 17 #[.agg #[.slice ao n c, .bool cl], .int .i64 h, .int .i64 cap] w' (ToldQ w'.heap.size w' (z, PP))))
    (HPP : Hid (z = 0 → l.all roomP = true ∧ ∀ L ∈ PP, ∀ p ∈ L, hasI r p.1 p.2 = true))
    (HBD : Hid (l.all roomP = true → ∀ w', Below w.heap.size w w' → Calls Tryd.prog 21 #[.slice ao n c] w' fun e w'' => e = .returned (.agg (four bd)) ∧ Below w'.heap.size w' w''))
    (HRB : Hid (l.all roomP = true → ∀ w', Calls Tryd.prog 20 #[.agg #[.int .i64 bd.x0, .int .i64 bd.y0, .int .i64 bd.x1, .int .i64 bd.y1], .int .i64 h] w' fun e w'' => e = .returned (.agg (four r)) ∧ Below w'.heap.size w' w'')) :
    Calls Tryd.prog 6 #[.agg #[.slice ao n c, .bool cl, .int .i64 h, .int .i64 cap, .int .i64 b.x0, .int .i64 b.y0, .int .i64 b.x1, .int .i64 b.y1]] w fun e w' => e = .returned (.bool true) ∧ Below w.heap.size w w' := by
  go_enter Tryd.func6, Tryd.ntmps6
  go_wp2_with fail
  obtain ⟨w1, hw1⟩ : ∃ W, w.alloc (.cells #[.slice ao n c, .bool cl, .int .i64 h, .int .i64 cap, .int .i64 b.x0, .int .i64 b.y0, .int .i64 b.x1, .int .i64 b.y1] 53) = W := ⟨_, rfl⟩
  have B1 : Hid (Below w.heap.size w w1 ∧ Blk w1 w.heap.size 53 #[.slice ao n c, .bool cl, .int .i64 h, .int .i64 cap, .int .i64 b.x0, .int .i64 b.y0, .int .i64 b.x1, .int .i64 b.y1]) := by
    rw [← hw1]
    exact ⟨(Below.refl _ _).alloc (Nat.le_refl _) _, Blk.new _ _ _⟩
  rw [hw1]
  clear hw1
  refine wp_region_put2 (by kernel_rfl) (by kernel_rfl) (by kernel_rfl) (fun b' vs w' => (b' 0 = true → vs 0 = .pointer (some ⟨w.heap.size, 0, none⟩)) ∧ (b' 1 = true → vs 1 = .agg #[.slice ao n c, .bool cl]) ∧ (b' 2 = true → vs 2 = .pointer (some ⟨w.heap.size, 2, none⟩)) ∧ (b' 3 = true → vs 3 = .int .i64 h) ∧ (b' 4 = true → vs 4 = .pointer (some ⟨w.heap.size, 4, none⟩)) ∧ (b' 5 = true → vs 5 = .agg #[.int .i64 b.x0, .int .i64 b.y0, .int .i64 b.x1, .int .i64 b.y1]) ∧ (b' 9 = true → vs 9 = .int .i64 h) ∧ Hid (LayG w1 [⟨6, 8, 39, #[.slice none 0 0, .bool false], #[.slice ao n c, .bool cl]⟩, ⟨7, 10, 51, (four ⟨0, 0, 0, 0⟩), (four b)⟩] b' vs w')) ?_ ?_ ?_
  · intro vs hvs
    exact ⟨fun h => Bool.noConfusion h, fun h => Bool.noConfusion h, fun h => Bool.noConfusion h, fun h => Bool.noConfusion h, fun h => Bool.noConfusion h, fun h => Bool.noConfusion h, fun h => Bool.noConfusion h, LayG.start vs⟩
  · rintro b' vs w' i op hi hun hall ⟨h0, h1, h2, h3, h4, h5, h9, hM⟩
    have hil : i < 11 := (List.getElem?_eq_some_iff.1 hi).1
    rcases i with _ | _ | _ | _ | _ | _ | _ | _ | _ | _ | _ | i
    · obtain rfl := Option.some.inj hi
      refine wpOp_step rfl (fun K hK => ?_)
      have HKK := Lib.hid hK; clear hK
      simp only [putAll, Act.put, List.setIfInBounds_toArray, List.set_cons_zero, List.set_cons_succ]
      go_simp
      exact HKK.out _ _ ⟨_, by simp only [putAll, Act.put, List.setIfInBounds_toArray, List.set_cons_zero, List.set_cons_succ] <;> rfl, fun _ => rfl, h1, h2, h3, h4, h5, h9, LayG.other hM.out 0 _ rfl⟩
    · obtain rfl := Option.some.inj hi
      have d0 := h0 (hall ⟨0, .data⟩ (by simp) rfl)
      have kk := B1.out.2.grow (LayG.below hM.out)
      have x0 : w'.cell? ⟨w.heap.size, 0, none⟩ = some (.slice ao n c) := kk.cell 0
      have x1 : w'.cell? ⟨w.heap.size, 1, none⟩ = some (.bool cl) := kk.cell 1
      clear kk
      refine wpOp_step rfl (fun K hK => ?_)
      have HKK := Lib.hid hK; clear hK
      simp only [putAll, Act.put, List.setIfInBounds_toArray, List.set_cons_zero, List.set_cons_succ, d0]
      go_simp
      exact HKK.out _ _ ⟨_, by simp only [putAll, Act.put, List.setIfInBounds_toArray, List.set_cons_zero, List.set_cons_succ, d0] <;> rfl, h0, fun _ => rfl, h2, h3, h4, h5, h9, LayG.other hM.out 1 _ rfl⟩
    · obtain rfl := Option.some.inj hi
      refine wpOp_step rfl (fun K hK => ?_)
      have HKK := Lib.hid hK; clear hK
      simp only [putAll, Act.put, List.setIfInBounds_toArray, List.set_cons_zero, List.set_cons_succ]
      go_simp
      exact HKK.out _ _ ⟨_, by simp only [putAll, Act.put, List.setIfInBounds_toArray, List.set_cons_zero, List.set_cons_succ] <;> rfl, h0, h1, fun _ => rfl, h3, h4, h5, h9, LayG.other hM.out 2 _ rfl⟩
    · obtain rfl := Option.some.inj hi
      have d2 := h2 (hall ⟨2, .data⟩ (by simp) rfl)
      have kk := B1.out.2.grow (LayG.below hM.out)
      have x2 : w'.cell? ⟨w.heap.size, 2, none⟩ = some (.int .i64 h) := kk.cell 2
      clear kk
      refine wpOp_step rfl (fun K hK => ?_)
      have HKK := Lib.hid hK; clear hK
      simp only [putAll, Act.put, List.setIfInBounds_toArray, List.set_cons_zero, List.set_cons_succ, d2]
      go_simp
      exact HKK.out _ _ ⟨_, by simp only [putAll, Act.put, List.setIfInBounds_toArray, List.set_cons_zero, List.set_cons_succ, d2] <;> rfl, h0, h1, h2, fun _ => rfl, h4, h5, h9, LayG.other hM.out 3 _ rfl⟩
    · obtain rfl := Option.some.inj hi
      refine wpOp_step rfl (fun K hK => ?_)
      have HKK := Lib.hid hK; clear hK
      simp only [putAll, Act.put, List.setIfInBounds_toArray, List.set_cons_zero, List.set_cons_succ]
      go_simp
      exact HKK.out _ _ ⟨_, by simp only [putAll, Act.put, List.setIfInBounds_toArray, List.set_cons_zero, List.set_cons_succ] <;> rfl, h0, h1, h2, h3, fun _ => rfl, h5, h9, LayG.other hM.out 4 _ rfl⟩
    · obtain rfl := Option.some.inj hi
      have d4 := h4 (hall ⟨4, .data⟩ (by simp) rfl)
      have kk := B1.out.2.grow (LayG.below hM.out)
      have x4 : w'.cell? ⟨w.heap.size, 4, none⟩ = some (.int .i64 b.x0) := kk.cell 4
      have x5 : w'.cell? ⟨w.heap.size, 5, none⟩ = some (.int .i64 b.y0) := kk.cell 5
      have x6 : w'.cell? ⟨w.heap.size, 6, none⟩ = some (.int .i64 b.x1) := kk.cell 6
      have x7 : w'.cell? ⟨w.heap.size, 7, none⟩ = some (.int .i64 b.y1) := kk.cell 7
      clear kk
      refine wpOp_step rfl (fun K hK => ?_)
      have HKK := Lib.hid hK; clear hK
      simp only [putAll, Act.put, List.setIfInBounds_toArray, List.set_cons_zero, List.set_cons_succ, d4]
      go_simp
      exact HKK.out _ _ ⟨_, by simp only [putAll, Act.put, List.setIfInBounds_toArray, List.set_cons_zero, List.set_cons_succ, d4] <;> rfl, h0, h1, h2, h3, h4, fun _ => rfl, h9, LayG.other hM.out 5 _ rfl⟩
    · obtain rfl := Option.some.inj hi
      refine wpOp_step rfl (fun K hK => ?_)
      have HKK := Lib.hid hK; clear hK
      simp only [putAll, Act.put, List.setIfInBounds_toArray, List.set_cons_zero, List.set_cons_succ]
      go_simp
      exact HKK.out _ _ ⟨_, by simp only [putAll, Act.put, List.setIfInBounds_toArray, List.set_cons_zero, List.set_cons_succ] <;> rfl, h0, h1, h2, h3, h4, h5, h9, LayG.made hM.out rfl ⟨6, 8, 39, #[.slice none 0 0, .bool false], #[.slice ao n c, .bool cl]⟩ (by simp) hun⟩
    · obtain rfl := Option.some.inj hi
      refine wpOp_step rfl (fun K hK => ?_)
      have HKK := Lib.hid hK; clear hK
      simp only [putAll, Act.put, List.setIfInBounds_toArray, List.set_cons_zero, List.set_cons_succ]
      go_simp
      exact HKK.out _ _ ⟨_, by simp only [putAll, Act.put, List.setIfInBounds_toArray, List.set_cons_zero, List.set_cons_succ] <;> rfl, h0, h1, h2, h3, h4, h5, h9, LayG.made hM.out rfl ⟨7, 10, 51, (four ⟨0, 0, 0, 0⟩), (four b)⟩ (by simp) hun⟩
    · obtain rfl := Option.some.inj hi
      have d1 := h1 (hall ⟨1, .data⟩ (by simp) rfl)
      have dal := hall ⟨6, .data⟩ (by simp) rfl
      obtain ⟨g, eg, lg, kg⟩ := LayG.at hM.out ⟨6, 8, 39, #[.slice none 0 0, .bool false], #[.slice ao n c, .bool cl]⟩ (by simp) dal hun
      have kz : Blk w' g 39 #[.slice none 0 0, .bool false] := kg
      have c0 : w'.cell? ⟨g, 0, none⟩ = some (.slice none 0 0) := kz.cell 0
      have c1 : w'.cell? ⟨g, 1, none⟩ = some (.bool false) := kz.cell 1
      have f0 := kg.free 0
      have f1 := kg.free 1
      have lgw := kg.lt
      refine wpOp_step rfl (fun K hK => ?_)
      have HKK := Lib.hid hK; clear hK
      simp only [putAll, Act.put, List.setIfInBounds_toArray, List.set_cons_zero, List.set_cons_succ, d1, eg]
      go_simp
      exact HKK.out _ _ ⟨undef, by simp only [putAll, Act.put, List.setIfInBounds_toArray, List.set_cons_zero, List.set_cons_succ, d1, eg] <;> rfl, h0, h1, h2, h3, h4, h5, h9, LayG.stored hM.out rfl ⟨6, 8, 39, #[.slice none 0 0, .bool false], #[.slice ao n c, .bool cl]⟩ (by simp) undef dal eg (below_cell2 (LayG.below hM.out) lg 0 1 _ _) ((kz.put 0 _ _ rfl).put 1 _ _ rfl) (fun _ _ _ hne k => k.other2 hne 0 1 _ _)⟩
    · obtain rfl := Option.some.inj hi
      have d3 := h3 (hall ⟨3, .data⟩ (by simp) rfl)
      refine wpOp_step rfl (fun K hK => ?_)
      have HKK := Lib.hid hK; clear hK
      simp only [putAll, Act.put, List.setIfInBounds_toArray, List.set_cons_zero, List.set_cons_succ, d3]
      go_simp
      exact HKK.out _ _ ⟨_, by simp only [putAll, Act.put, List.setIfInBounds_toArray, List.set_cons_zero, List.set_cons_succ, d3] <;> rfl, h0, h1, h2, h3, h4, h5, fun _ => rfl, LayG.other hM.out 9 _ rfl⟩
    · obtain rfl := Option.some.inj hi
      have d5 := h5 (hall ⟨5, .data⟩ (by simp) rfl)
      have dal := hall ⟨7, .data⟩ (by simp) rfl
      obtain ⟨g, eg, lg, kg⟩ := LayG.at hM.out ⟨7, 10, 51, (four ⟨0, 0, 0, 0⟩), (four b)⟩ (by simp) dal hun
      have kz : Blk w' g 51 (four ⟨0, 0, 0, 0⟩) := kg
      have c0 := kz.b0
      have c1 := kz.b1
      have c2 := kz.b2
      have c3 := kz.b3
      have f0 := kg.free 0
      have f1 := kg.free 1
      have f2 := kg.free 2
      have f3 := kg.free 3
      have lgw := kg.lt
      refine wpOp_step rfl (fun K hK => ?_)
      have HKK := Lib.hid hK; clear hK
      simp only [putAll, Act.put, List.setIfInBounds_toArray, List.set_cons_zero, List.set_cons_succ, d5, eg]
      go_simp
      exact HKK.out _ _ ⟨undef, by simp only [putAll, Act.put, List.setIfInBounds_toArray, List.set_cons_zero, List.set_cons_succ, d5, eg] <;> rfl, h0, h1, h2, h3, h4, h5, h9, LayG.stored hM.out rfl ⟨7, 10, 51, (four ⟨0, 0, 0, 0⟩), (four b)⟩ (by simp) undef dal eg (below_four (LayG.below hM.out) lg _ _ _ _) (kz.setB b) (fun _ _ _ hne k => k.otherB hne _ _ _ _)⟩
    · exact absurd hil (by omega)
  · rintro b' vs w' hb ⟨h0, h1, h2, h3, h4, h5, h9, hM⟩
    obtain ⟨g3, e6, l3, k3⟩ := LayG.done hM.out ⟨6, 8, 39, #[.slice none 0 0, .bool false], #[.slice ao n c, .bool cl]⟩ (by simp) (hb 6 (by decide)) (hb 8 (by decide))
    obtain ⟨g5, e7, l5, k5⟩ := LayG.done hM.out ⟨7, 10, 51, (four ⟨0, 0, 0, 0⟩), (four b)⟩ (by simp) (hb 7 (by decide)) (hb 10 (by decide))
    have hne : g3 ≠ g5 := LayG.ne hM.out ⟨6, 8, 39, #[.slice none 0 0, .bool false], #[.slice ao n c, .bool cl]⟩ ⟨7, 10, 51, (four ⟨0, 0, 0, 0⟩), (four b)⟩ (by simp) (by simp) (show (6 : Nat) ≠ 7 by decide) (hb 6 (by decide)) (hb 7 (by decide)) e6 e7
    have hbw := LayG.below hM.out
    have v0 := h0 (hb 0 (by decide))
    have v1 := h1 (hb 1 (by decide))
    have v2 := h2 (hb 2 (by decide))
    have v3 := h3 (hb 3 (by decide))
    have v4 := h4 (hb 4 (by decide))
    have v5 := h5 (hb 5 (by decide))
    have v9 := h9 (hb 9 (by decide))
    simp only [putAll, Act.put, List.setIfInBounds_toArray, List.set_cons_zero, List.set_cons_succ, e6, e7, v0, v1, v2, v3, v4, v5, v9]
    clear h0 h1 h2 h3 h4 h5 h9 hM hb e6 e7 v0 v1 v2 v3 v4 v5 v9
    have S2 : Hid (LRM w b w' g3 g5 ao n c cl h cap) := ⟨below_next B1.out.1 hbw, B1.out.2.grow hbw, k3, k5⟩
    clear hbw hne k3 k5 l3 l5 B1
    obtain ⟨w2, hw2⟩ : ∃ W, w' = W := ⟨_, rfl⟩
    rw [hw2] at S2 ⊢
    clear hw2
    have kl := S2.out.sub
    have s0 : w2.cell? ⟨g3, 0, none⟩ = some (.slice ao n c) := kl.cell 0
    have s1 : w2.cell? ⟨g3, 1, none⟩ = some (.bool cl) := kl.cell 1
    clear kl
    go_upto_region 4 with fail
    clear s0 s1
    have kb := S2.out.box
    have y0 := kb.b0
    have y1 := kb.b1
    have y2 := kb.b2
    have y3 := kb.b3
    clear kb
    go_cut [6] (fun c6 wx => c6 = .bool sm ∧ wx = w2)
    case first =>
      by_cases q0 : b.x0 ≥ -1099511627776
      · skip
        by_cases q1 : b.y0 ≥ -1099511627776
        · skip
          by_cases q2 : b.x1 ≤ 1099511627776
          · skip
            by_cases q3 : b.y1 ≤ 1099511627776
            · skip
              go_wp2_with fail
              go_meet
              exact ⟨by rw [HSM.out]; simp <;> omega, rfl⟩
            · skip
              go_wp2_with fail
              go_meet
              exact ⟨by rw [HSM.out]; simp <;> omega, rfl⟩
          · skip
            go_wp2_with fail
            go_meet
            exact ⟨by rw [HSM.out]; simp <;> omega, rfl⟩
        · skip
          go_wp2_with fail
          go_meet
          exact ⟨by rw [HSM.out]; simp <;> omega, rfl⟩
      · skip
        go_wp2_with fail
        go_meet
        exact ⟨by rw [HSM.out]; simp <;> omega, rfl⟩
    case rest =>
      obtain ⟨rfl, rfl⟩ := hcut
      obtain ⟨w2, rfl⟩ : ∃ x, x = wc := ⟨_, rfl⟩
      go_upto_region 5 with fail
      go_cut [7] (fun c7 wx => c7 = .bool em ∧ wx = w2)
      case first =>
        by_cases q0 : b.x0 ≥ b.x1
        · skip
          go_wp2_with fail
          go_meet
          exact ⟨by rw [HEM.out]; unfold emptyI; simp <;> omega, rfl⟩
        · skip
          by_cases q1 : b.y0 ≥ b.y1
          · skip
            go_wp2_with fail
            go_meet
            exact ⟨by rw [HEM.out]; unfold emptyI; simp <;> omega, rfl⟩
          · skip
            go_wp2_with fail
            go_meet
            exact ⟨by rw [HEM.out]; unfold emptyI; simp <;> omega, rfl⟩
      case rest =>
        obtain ⟨rfl, rfl⟩ := hcut
        obtain ⟨w2, rfl⟩ : ∃ x, x = wc := ⟨_, rfl⟩
        clear y0 y1 y2 y3
        go_upto_region 6 with fail
        go_cut [105] (fun c9 wx => c9 = .bool false ∧ LRM w b wx g3 g5 ao n c cl h cap)
        case first =>
          cases em
          · cases sm
            · skip
              refine wp_region_put3 (by kernel_rfl) (by kernel_rfl) (by kernel_rfl) (fun b' vs w' => (b' 0 = true → vs 0 = .bool false) ∧ (b' 1 = true → vs 1 = .bool false) ∧ (b' 2 = true → vs 2 = undef) ∧ (b' 3 = true → vs 3 = undef) ∧ (b' 4 = true → vs 4 = undef) ∧ (b' 5 = true → vs 5 = undef) ∧ (b' 6 = true → vs 6 = undef) ∧ (b' 7 = true → vs 7 = .bool false) ∧ (b' 8 = true → vs 8 = .bool false) ∧ (b' 9 = true → vs 9 = .bool false) ∧ (b' 10 = true → vs 10 = .bool true) ∧ (b' 11 = true → vs 11 = .bool true) ∧ (b' 12 = true → vs 12 = .bool false) ∧ (b' 13 = true → vs 13 = .bool false) ∧ (b' 14 = true → vs 14 = .bool false) ∧ (b' 15 = true → vs 15 = undef) ∧ (b' 16 = true → vs 16 = undef) ∧ (b' 17 = true → vs 17 = undef) ∧ (b' 18 = true → vs 18 = undef) ∧ (b' 19 = true → vs 19 = undef) ∧ (b' 20 = true → vs 20 = undef) ∧ (b' 21 = true → vs 21 = undef) ∧ (b' 22 = true → vs 22 = undef) ∧ (b' 23 = true → vs 23 = undef) ∧ (b' 24 = true → vs 24 = undef) ∧ (b' 25 = true → vs 25 = undef) ∧ (b' 26 = true → vs 26 = undef) ∧ (b' 27 = true → vs 27 = undef) ∧ (b' 28 = true → vs 28 = undef) ∧ (b' 29 = true → vs 29 = undef) ∧ (b' 30 = true → vs 30 = undef) ∧ (b' 31 = true → vs 31 = undef) ∧ (b' 32 = true → vs 32 = undef) ∧ (b' 33 = true → vs 33 = undef) ∧ (b' 34 = true → vs 34 = undef) ∧ (b' 35 = true → vs 35 = undef) ∧ (b' 36 = true → vs 36 = undef) ∧ (b' 37 = true → vs 37 = undef) ∧ (b' 38 = true → vs 38 = undef) ∧ (b' 39 = true → vs 39 = undef) ∧ (b' 40 = true → vs 40 = .bool false) ∧ (b' 41 = true → vs 41 = .bool false) ∧ (Hid (Below w2.heap.size w2 w' ∧ w2.heap.size ≤ w'.heap.size)) ∧ (Hid (LRM w b w' g3 g5 ao n c cl h cap))) ?_ ?_ ?_
              · intro vs
                exact ⟨fun h => Bool.noConfusion h, fun h => Bool.noConfusion h, fun h => Bool.noConfusion h, fun h => Bool.noConfusion h, fun h => Bool.noConfusion h, fun h => Bool.noConfusion h, fun h => Bool.noConfusion h, fun h => Bool.noConfusion h, fun h => Bool.noConfusion h, fun h => Bool.noConfusion h, fun h => Bool.noConfusion h, fun h => Bool.noConfusion h, fun h => Bool.noConfusion h, fun h => Bool.noConfusion h, fun h => Bool.noConfusion h, fun h => Bool.noConfusion h, fun h => Bool.noConfusion h, fun h => Bool.noConfusion h, fun h => Bool.noConfusion h, fun h => Bool.noConfusion h, fun h => Bool.noConfusion h, fun h => Bool.noConfusion h, fun h => Bool.noConfusion h, fun h => Bool.noConfusion h, fun h => Bool.noConfusion h, fun h => Bool.noConfusion h, fun h => Bool.noConfusion h, fun h => Bool.noConfusion h, fun h => Bool.noConfusion h, fun h => Bool.noConfusion h, fun h => Bool.noConfusion h, fun h => Bool.noConfusion h, fun h => Bool.noConfusion h, fun h => Bool.noConfusion h, fun h => Bool.noConfusion h, fun h => Bool.noConfusion h, fun h => Bool.noConfusion h, fun h => Bool.noConfusion h, fun h => Bool.noConfusion h, fun h => Bool.noConfusion h, fun h => Bool.noConfusion h, fun h => Bool.noConfusion h, Lib.hid ⟨below_drewN (Below.refl _ _) 1, Nat.le_refl _⟩, Lib.hid (S2.out.grow ⟨rfl, rfl, rfl, Nat.le_refl _, fun _ _ => rfl⟩)⟩
              · rintro b' vs w' i op hi hun hall ⟨h0, h1, h2, h3, h4, h5, h6, h7, h8, h9, h10, h11, h12, h13, h14, h15, h16, h17, h18, h19, h20, h21, h22, h23, h24, h25, h26, h27, h28, h29, h30, h31, h32, h33, h34, h35, h36, h37, h38, h39, h40, h41, hB, hF⟩
                have hil : i < 42 := (List.getElem?_eq_some_iff.1 hi).1
                rcases i with _ | _ | _ | _ | _ | _ | _ | _ | _ | _ | _ | _ | _ | _ | _ | _ | _ | _ | _ | _ | _ | _ | _ | _ | _ | _ | _ | _ | _ | _ | _ | _ | _ | _ | _ | _ | _ | _ | _ | _ | _ | _ | i
                · obtain rfl := Option.some.inj hi
                  clear hi hil
                  refine StepOk.plain rfl (fun K hK => ?_)
                  have HKK := Lib.hid hK; clear hK
                  simp only [putAll, Act.put, List.setIfInBounds_toArray, List.set_cons_zero, List.set_cons_succ]
                  go_simp
                  exact HKK.out _ _ ⟨_, by simp only [putAll, Act.put, List.setIfInBounds_toArray, List.set_cons_zero, List.set_cons_succ] <;> rfl, fun _ => rfl, h1, h2, h3, h4, h5, h6, h7, h8, h9, h10, h11, h12, h13, h14, h15, h16, h17, h18, h19, h20, h21, h22, h23, h24, h25, h26, h27, h28, h29, h30, h31, h32, h33, h34, h35, h36, h37, h38, h39, h40, h41, hB, hF⟩
                · obtain rfl := Option.some.inj hi
                  clear hi hil
                  have d0 := h0 (hall ⟨0, .data⟩ (by simp) rfl)
                  refine StepOk.plain rfl (fun K hK => ?_)
                  have HKK := Lib.hid hK; clear hK
                  simp only [putAll, Act.put, List.setIfInBounds_toArray, List.set_cons_zero, List.set_cons_succ]
                  go_simp
                  exact HKK.out _ _ ⟨_, by simp only [putAll, Act.put, List.setIfInBounds_toArray, List.set_cons_zero, List.set_cons_succ, d0] <;> rfl, h0, fun _ => rfl, h2, h3, h4, h5, h6, h7, h8, h9, h10, h11, h12, h13, h14, h15, h16, h17, h18, h19, h20, h21, h22, h23, h24, h25, h26, h27, h28, h29, h30, h31, h32, h33, h34, h35, h36, h37, h38, h39, h40, h41, hB, hF⟩
                · obtain rfl := Option.some.inj hi
                  clear hi hil
                  have d1 := h1 (hall ⟨1, .guard⟩ (by simp) rfl)
                  refine StepOk.off 1 true rfl rfl d1 ?_
                  exact ⟨undef, rfl, h0, h1, fun _ => rfl, h3, h4, h5, h6, h7, h8, h9, h10, h11, h12, h13, h14, h15, h16, h17, h18, h19, h20, h21, h22, h23, h24, h25, h26, h27, h28, h29, h30, h31, h32, h33, h34, h35, h36, h37, h38, h39, h40, h41, hB, hF⟩
                · obtain rfl := Option.some.inj hi
                  clear hi hil
                  have d1 := h1 (hall ⟨1, .guard⟩ (by simp) rfl)
                  refine StepOk.off 1 true rfl rfl d1 ?_
                  exact ⟨undef, rfl, h0, h1, h2, fun _ => rfl, h4, h5, h6, h7, h8, h9, h10, h11, h12, h13, h14, h15, h16, h17, h18, h19, h20, h21, h22, h23, h24, h25, h26, h27, h28, h29, h30, h31, h32, h33, h34, h35, h36, h37, h38, h39, h40, h41, hB, hF⟩
                · obtain rfl := Option.some.inj hi
                  clear hi hil
                  have d1 := h1 (hall ⟨1, .guard⟩ (by simp) rfl)
                  refine StepOk.off 1 true rfl rfl d1 ?_
                  exact ⟨undef, rfl, h0, h1, h2, h3, fun _ => rfl, h5, h6, h7, h8, h9, h10, h11, h12, h13, h14, h15, h16, h17, h18, h19, h20, h21, h22, h23, h24, h25, h26, h27, h28, h29, h30, h31, h32, h33, h34, h35, h36, h37, h38, h39, h40, h41, hB, hF⟩
                · obtain rfl := Option.some.inj hi
                  clear hi hil
                  have d1 := h1 (hall ⟨1, .guard⟩ (by simp) rfl)
                  refine StepOk.off 1 true rfl rfl d1 ?_
                  exact ⟨undef, rfl, h0, h1, h2, h3, h4, fun _ => rfl, h6, h7, h8, h9, h10, h11, h12, h13, h14, h15, h16, h17, h18, h19, h20, h21, h22, h23, h24, h25, h26, h27, h28, h29, h30, h31, h32, h33, h34, h35, h36, h37, h38, h39, h40, h41, hB, hF⟩
                · obtain rfl := Option.some.inj hi
                  clear hi hil
                  have d1 := h1 (hall ⟨1, .guard⟩ (by simp) rfl)
                  refine StepOk.off 1 true rfl rfl d1 ?_
                  exact ⟨undef, rfl, h0, h1, h2, h3, h4, h5, fun _ => rfl, h7, h8, h9, h10, h11, h12, h13, h14, h15, h16, h17, h18, h19, h20, h21, h22, h23, h24, h25, h26, h27, h28, h29, h30, h31, h32, h33, h34, h35, h36, h37, h38, h39, h40, h41, hB, hF⟩
                · obtain rfl := Option.some.inj hi
                  clear hi hil
                  have d1 := h1 (hall ⟨1, .data⟩ (by simp) rfl)
                  have d6 := h6 (hall ⟨6, .data⟩ (by simp) rfl)
                  refine StepOk.plain rfl (fun K hK => ?_)
                  have HKK := Lib.hid hK; clear hK
                  simp only [putAll, Act.put, List.setIfInBounds_toArray, List.set_cons_zero, List.set_cons_succ]
                  go_simp
                  exact HKK.out _ _ ⟨_, by simp only [putAll, Act.put, List.setIfInBounds_toArray, List.set_cons_zero, List.set_cons_succ, d1, d6] <;> rfl, h0, h1, h2, h3, h4, h5, h6, fun _ => rfl, h8, h9, h10, h11, h12, h13, h14, h15, h16, h17, h18, h19, h20, h21, h22, h23, h24, h25, h26, h27, h28, h29, h30, h31, h32, h33, h34, h35, h36, h37, h38, h39, h40, h41, hB, hF⟩
                · obtain rfl := Option.some.inj hi
                  clear hi hil
                  have d7 := h7 (hall ⟨7, .data⟩ (by simp) rfl)
                  refine StepOk.plain rfl (fun K hK => ?_)
                  have HKK := Lib.hid hK; clear hK
                  simp only [putAll, Act.put, List.setIfInBounds_toArray, List.set_cons_zero, List.set_cons_succ]
                  go_simp
                  exact HKK.out _ _ ⟨_, by simp only [putAll, Act.put, List.setIfInBounds_toArray, List.set_cons_zero, List.set_cons_succ, d7] <;> rfl, h0, h1, h2, h3, h4, h5, h6, h7, fun _ => rfl, h9, h10, h11, h12, h13, h14, h15, h16, h17, h18, h19, h20, h21, h22, h23, h24, h25, h26, h27, h28, h29, h30, h31, h32, h33, h34, h35, h36, h37, h38, h39, h40, h41, hB, hF⟩
                · obtain rfl := Option.some.inj hi
                  clear hi hil
                  have d8 := h8 (hall ⟨8, .guard⟩ (by simp) rfl)
                  refine StepOk.on 8 false rfl rfl d8 (fun K hK => ?_)
                  have HKK := Lib.hid hK; clear hK
                  simp only [putAll, Act.put, List.setIfInBounds_toArray, List.set_cons_zero, List.set_cons_succ]
                  go_simp
                  exact HKK.out _ _ ⟨_, by simp only [putAll, Act.put, List.setIfInBounds_toArray, List.set_cons_zero, List.set_cons_succ, d8] <;> rfl, h0, h1, h2, h3, h4, h5, h6, h7, h8, fun _ => rfl, h10, h11, h12, h13, h14, h15, h16, h17, h18, h19, h20, h21, h22, h23, h24, h25, h26, h27, h28, h29, h30, h31, h32, h33, h34, h35, h36, h37, h38, h39, h40, h41, hB, hF⟩
                · obtain rfl := Option.some.inj hi
                  clear hi hil
                  have d9 := h9 (hall ⟨9, .data⟩ (by simp) rfl)
                  have d8 := h8 (hall ⟨8, .guard⟩ (by simp) rfl)
                  refine StepOk.on 8 false rfl rfl d8 (fun K hK => ?_)
                  have HKK := Lib.hid hK; clear hK
                  simp only [putAll, Act.put, List.setIfInBounds_toArray, List.set_cons_zero, List.set_cons_succ]
                  go_simp
                  exact HKK.out _ _ ⟨_, by simp only [putAll, Act.put, List.setIfInBounds_toArray, List.set_cons_zero, List.set_cons_succ, d9, d8] <;> rfl, h0, h1, h2, h3, h4, h5, h6, h7, h8, h9, fun _ => rfl, h11, h12, h13, h14, h15, h16, h17, h18, h19, h20, h21, h22, h23, h24, h25, h26, h27, h28, h29, h30, h31, h32, h33, h34, h35, h36, h37, h38, h39, h40, h41, hB, hF⟩
                · obtain rfl := Option.some.inj hi
                  clear hi hil
                  have d10 := h10 (hall ⟨10, .data⟩ (by simp) rfl)
                  have d8 := h8 (hall ⟨8, .guard⟩ (by simp) rfl)
                  refine StepOk.on 8 false rfl rfl d8 (fun K hK => ?_)
                  have HKK := Lib.hid hK; clear hK
                  simp only [putAll, Act.put, List.setIfInBounds_toArray, List.set_cons_zero, List.set_cons_succ]
                  go_simp
                  exact HKK.out _ _ ⟨_, by simp only [putAll, Act.put, List.setIfInBounds_toArray, List.set_cons_zero, List.set_cons_succ, d10, d8] <;> rfl, h0, h1, h2, h3, h4, h5, h6, h7, h8, h9, h10, fun _ => rfl, h12, h13, h14, h15, h16, h17, h18, h19, h20, h21, h22, h23, h24, h25, h26, h27, h28, h29, h30, h31, h32, h33, h34, h35, h36, h37, h38, h39, h40, h41, hB, hF⟩
                · obtain rfl := Option.some.inj hi
                  clear hi hil
                  have d11 := h11 (hall ⟨11, .guard⟩ (by simp) rfl)
                  refine StepOk.on 11 true rfl rfl d11 (fun K hK => ?_)
                  have HKK := Lib.hid hK; clear hK
                  simp only [putAll, Act.put, List.setIfInBounds_toArray, List.set_cons_zero, List.set_cons_succ]
                  go_simp
                  exact HKK.out _ _ ⟨_, by simp only [putAll, Act.put, List.setIfInBounds_toArray, List.set_cons_zero, List.set_cons_succ, d11] <;> rfl, h0, h1, h2, h3, h4, h5, h6, h7, h8, h9, h10, h11, fun _ => rfl, h13, h14, h15, h16, h17, h18, h19, h20, h21, h22, h23, h24, h25, h26, h27, h28, h29, h30, h31, h32, h33, h34, h35, h36, h37, h38, h39, h40, h41, hB, hF⟩
                · obtain rfl := Option.some.inj hi
                  clear hi hil
                  have d11 := h11 (hall ⟨11, .data⟩ (by simp) rfl)
                  have d12 := h12 (hall ⟨12, .data⟩ (by simp) rfl)
                  have d8 := h8 (hall ⟨8, .guard⟩ (by simp) rfl)
                  refine StepOk.on 8 false rfl rfl d8 (fun K hK => ?_)
                  have HKK := Lib.hid hK; clear hK
                  simp only [putAll, Act.put, List.setIfInBounds_toArray, List.set_cons_zero, List.set_cons_succ]
                  go_simp
                  exact HKK.out _ _ ⟨_, by simp only [putAll, Act.put, List.setIfInBounds_toArray, List.set_cons_zero, List.set_cons_succ, d11, d12, d8] <;> rfl, h0, h1, h2, h3, h4, h5, h6, h7, h8, h9, h10, h11, h12, fun _ => rfl, h14, h15, h16, h17, h18, h19, h20, h21, h22, h23, h24, h25, h26, h27, h28, h29, h30, h31, h32, h33, h34, h35, h36, h37, h38, h39, h40, h41, hB, hF⟩
                · obtain rfl := Option.some.inj hi
                  clear hi hil
                  have d13 := h13 (hall ⟨13, .data⟩ (by simp) rfl)
                  have d8 := h8 (hall ⟨8, .guard⟩ (by simp) rfl)
                  refine StepOk.on 8 false rfl rfl d8 (fun K hK => ?_)
                  have HKK := Lib.hid hK; clear hK
                  simp only [putAll, Act.put, List.setIfInBounds_toArray, List.set_cons_zero, List.set_cons_succ]
                  go_simp
                  exact HKK.out _ _ ⟨_, by simp only [putAll, Act.put, List.setIfInBounds_toArray, List.set_cons_zero, List.set_cons_succ, d13, d8] <;> rfl, h0, h1, h2, h3, h4, h5, h6, h7, h8, h9, h10, h11, h12, h13, fun _ => rfl, h15, h16, h17, h18, h19, h20, h21, h22, h23, h24, h25, h26, h27, h28, h29, h30, h31, h32, h33, h34, h35, h36, h37, h38, h39, h40, h41, hB, hF⟩
                · obtain rfl := Option.some.inj hi
                  clear hi hil
                  have d14 := h14 (hall ⟨14, .guard⟩ (by simp) rfl)
                  refine StepOk.off 14 true rfl rfl d14 ?_
                  exact ⟨undef, rfl, h0, h1, h2, h3, h4, h5, h6, h7, h8, h9, h10, h11, h12, h13, h14, fun _ => rfl, h16, h17, h18, h19, h20, h21, h22, h23, h24, h25, h26, h27, h28, h29, h30, h31, h32, h33, h34, h35, h36, h37, h38, h39, h40, h41, hB, hF⟩
                · obtain rfl := Option.some.inj hi
                  clear hi hil
                  have d14 := h14 (hall ⟨14, .guard⟩ (by simp) rfl)
                  refine StepOk.off 14 true rfl rfl d14 ?_
                  exact ⟨undef, rfl, h0, h1, h2, h3, h4, h5, h6, h7, h8, h9, h10, h11, h12, h13, h14, h15, fun _ => rfl, h17, h18, h19, h20, h21, h22, h23, h24, h25, h26, h27, h28, h29, h30, h31, h32, h33, h34, h35, h36, h37, h38, h39, h40, h41, hB, hF⟩
                · obtain rfl := Option.some.inj hi
                  clear hi hil
                  have d14 := h14 (hall ⟨14, .guard⟩ (by simp) rfl)
                  refine StepOk.off 14 true rfl rfl d14 ?_
                  exact ⟨undef, rfl, h0, h1, h2, h3, h4, h5, h6, h7, h8, h9, h10, h11, h12, h13, h14, h15, h16, fun _ => rfl, h18, h19, h20, h21, h22, h23, h24, h25, h26, h27, h28, h29, h30, h31, h32, h33, h34, h35, h36, h37, h38, h39, h40, h41, hB, hF⟩
                · obtain rfl := Option.some.inj hi
                  clear hi hil
                  have d14 := h14 (hall ⟨14, .guard⟩ (by simp) rfl)
                  refine StepOk.off 14 true rfl rfl d14 ?_
                  exact ⟨undef, rfl, h0, h1, h2, h3, h4, h5, h6, h7, h8, h9, h10, h11, h12, h13, h14, h15, h16, h17, fun _ => rfl, h19, h20, h21, h22, h23, h24, h25, h26, h27, h28, h29, h30, h31, h32, h33, h34, h35, h36, h37, h38, h39, h40, h41, hB, hF⟩
                · obtain rfl := Option.some.inj hi
                  clear hi hil
                  have d14 := h14 (hall ⟨14, .guard⟩ (by simp) rfl)
                  refine StepOk.off 14 true rfl rfl d14 ?_
                  exact ⟨undef, rfl, h0, h1, h2, h3, h4, h5, h6, h7, h8, h9, h10, h11, h12, h13, h14, h15, h16, h17, h18, fun _ => rfl, h20, h21, h22, h23, h24, h25, h26, h27, h28, h29, h30, h31, h32, h33, h34, h35, h36, h37, h38, h39, h40, h41, hB, hF⟩
                · obtain rfl := Option.some.inj hi
                  clear hi hil
                  have d14 := h14 (hall ⟨14, .guard⟩ (by simp) rfl)
                  refine StepOk.off 14 true rfl rfl d14 ?_
                  exact ⟨undef, rfl, h0, h1, h2, h3, h4, h5, h6, h7, h8, h9, h10, h11, h12, h13, h14, h15, h16, h17, h18, h19, fun _ => rfl, h21, h22, h23, h24, h25, h26, h27, h28, h29, h30, h31, h32, h33, h34, h35, h36, h37, h38, h39, h40, h41, hB, hF⟩
                · obtain rfl := Option.some.inj hi
                  clear hi hil
                  have d14 := h14 (hall ⟨14, .guard⟩ (by simp) rfl)
                  refine StepOk.off 14 true rfl rfl d14 ?_
                  exact ⟨undef, rfl, h0, h1, h2, h3, h4, h5, h6, h7, h8, h9, h10, h11, h12, h13, h14, h15, h16, h17, h18, h19, h20, fun _ => rfl, h22, h23, h24, h25, h26, h27, h28, h29, h30, h31, h32, h33, h34, h35, h36, h37, h38, h39, h40, h41, hB, hF⟩
                · obtain rfl := Option.some.inj hi
                  clear hi hil
                  have d14 := h14 (hall ⟨14, .guard⟩ (by simp) rfl)
                  refine StepOk.off 14 true rfl rfl d14 ?_
                  exact ⟨undef, rfl, h0, h1, h2, h3, h4, h5, h6, h7, h8, h9, h10, h11, h12, h13, h14, h15, h16, h17, h18, h19, h20, h21, fun _ => rfl, h23, h24, h25, h26, h27, h28, h29, h30, h31, h32, h33, h34, h35, h36, h37, h38, h39, h40, h41, hB, hF⟩
                · obtain rfl := Option.some.inj hi
                  clear hi hil
                  have d14 := h14 (hall ⟨14, .guard⟩ (by simp) rfl)
                  refine StepOk.off 14 true rfl rfl d14 ?_
                  exact ⟨undef, rfl, h0, h1, h2, h3, h4, h5, h6, h7, h8, h9, h10, h11, h12, h13, h14, h15, h16, h17, h18, h19, h20, h21, h22, fun _ => rfl, h24, h25, h26, h27, h28, h29, h30, h31, h32, h33, h34, h35, h36, h37, h38, h39, h40, h41, hB, hF⟩
                · obtain rfl := Option.some.inj hi
                  clear hi hil
                  have d14 := h14 (hall ⟨14, .guard⟩ (by simp) rfl)
                  refine StepOk.off 14 true rfl rfl d14 ?_
                  exact ⟨undef, rfl, h0, h1, h2, h3, h4, h5, h6, h7, h8, h9, h10, h11, h12, h13, h14, h15, h16, h17, h18, h19, h20, h21, h22, h23, fun _ => rfl, h25, h26, h27, h28, h29, h30, h31, h32, h33, h34, h35, h36, h37, h38, h39, h40, h41, hB, hF⟩
                · obtain rfl := Option.some.inj hi
                  clear hi hil
                  have d14 := h14 (hall ⟨14, .guard⟩ (by simp) rfl)
                  refine StepOk.off 14 true rfl rfl d14 ?_
                  exact ⟨undef, rfl, h0, h1, h2, h3, h4, h5, h6, h7, h8, h9, h10, h11, h12, h13, h14, h15, h16, h17, h18, h19, h20, h21, h22, h23, h24, fun _ => rfl, h26, h27, h28, h29, h30, h31, h32, h33, h34, h35, h36, h37, h38, h39, h40, h41, hB, hF⟩
                · obtain rfl := Option.some.inj hi
                  clear hi hil
                  have d14 := h14 (hall ⟨14, .guard⟩ (by simp) rfl)
                  refine StepOk.off 14 true rfl rfl d14 ?_
                  exact ⟨undef, rfl, h0, h1, h2, h3, h4, h5, h6, h7, h8, h9, h10, h11, h12, h13, h14, h15, h16, h17, h18, h19, h20, h21, h22, h23, h24, h25, fun _ => rfl, h27, h28, h29, h30, h31, h32, h33, h34, h35, h36, h37, h38, h39, h40, h41, hB, hF⟩
                · obtain rfl := Option.some.inj hi
                  clear hi hil
                  have d14 := h14 (hall ⟨14, .guard⟩ (by simp) rfl)
                  refine StepOk.off 14 true rfl rfl d14 ?_
                  exact ⟨undef, rfl, h0, h1, h2, h3, h4, h5, h6, h7, h8, h9, h10, h11, h12, h13, h14, h15, h16, h17, h18, h19, h20, h21, h22, h23, h24, h25, h26, fun _ => rfl, h28, h29, h30, h31, h32, h33, h34, h35, h36, h37, h38, h39, h40, h41, hB, hF⟩
                · obtain rfl := Option.some.inj hi
                  clear hi hil
                  have d14 := h14 (hall ⟨14, .guard⟩ (by simp) rfl)
                  refine StepOk.off 14 true rfl rfl d14 ?_
                  exact ⟨undef, rfl, h0, h1, h2, h3, h4, h5, h6, h7, h8, h9, h10, h11, h12, h13, h14, h15, h16, h17, h18, h19, h20, h21, h22, h23, h24, h25, h26, h27, fun _ => rfl, h29, h30, h31, h32, h33, h34, h35, h36, h37, h38, h39, h40, h41, hB, hF⟩
                · obtain rfl := Option.some.inj hi
                  clear hi hil
                  have d14 := h14 (hall ⟨14, .guard⟩ (by simp) rfl)
                  refine StepOk.off 14 true rfl rfl d14 ?_
                  exact ⟨undef, rfl, h0, h1, h2, h3, h4, h5, h6, h7, h8, h9, h10, h11, h12, h13, h14, h15, h16, h17, h18, h19, h20, h21, h22, h23, h24, h25, h26, h27, h28, fun _ => rfl, h30, h31, h32, h33, h34, h35, h36, h37, h38, h39, h40, h41, hB, hF⟩
                · obtain rfl := Option.some.inj hi
                  clear hi hil
                  have d14 := h14 (hall ⟨14, .guard⟩ (by simp) rfl)
                  refine StepOk.off 14 true rfl rfl d14 ?_
                  exact ⟨undef, rfl, h0, h1, h2, h3, h4, h5, h6, h7, h8, h9, h10, h11, h12, h13, h14, h15, h16, h17, h18, h19, h20, h21, h22, h23, h24, h25, h26, h27, h28, h29, fun _ => rfl, h31, h32, h33, h34, h35, h36, h37, h38, h39, h40, h41, hB, hF⟩
                · obtain rfl := Option.some.inj hi
                  clear hi hil
                  have d14 := h14 (hall ⟨14, .guard⟩ (by simp) rfl)
                  refine StepOk.off 14 true rfl rfl d14 ?_
                  exact ⟨undef, rfl, h0, h1, h2, h3, h4, h5, h6, h7, h8, h9, h10, h11, h12, h13, h14, h15, h16, h17, h18, h19, h20, h21, h22, h23, h24, h25, h26, h27, h28, h29, h30, fun _ => rfl, h32, h33, h34, h35, h36, h37, h38, h39, h40, h41, hB, hF⟩
                · obtain rfl := Option.some.inj hi
                  clear hi hil
                  have d14 := h14 (hall ⟨14, .guard⟩ (by simp) rfl)
                  refine StepOk.off 14 true rfl rfl d14 ?_
                  exact ⟨undef, rfl, h0, h1, h2, h3, h4, h5, h6, h7, h8, h9, h10, h11, h12, h13, h14, h15, h16, h17, h18, h19, h20, h21, h22, h23, h24, h25, h26, h27, h28, h29, h30, h31, fun _ => rfl, h33, h34, h35, h36, h37, h38, h39, h40, h41, hB, hF⟩
                · obtain rfl := Option.some.inj hi
                  clear hi hil
                  have d14 := h14 (hall ⟨14, .guard⟩ (by simp) rfl)
                  refine StepOk.off 14 true rfl rfl d14 ?_
                  exact ⟨undef, rfl, h0, h1, h2, h3, h4, h5, h6, h7, h8, h9, h10, h11, h12, h13, h14, h15, h16, h17, h18, h19, h20, h21, h22, h23, h24, h25, h26, h27, h28, h29, h30, h31, h32, fun _ => rfl, h34, h35, h36, h37, h38, h39, h40, h41, hB, hF⟩
                · obtain rfl := Option.some.inj hi
                  clear hi hil
                  have d14 := h14 (hall ⟨14, .guard⟩ (by simp) rfl)
                  refine StepOk.off 14 true rfl rfl d14 ?_
                  exact ⟨undef, rfl, h0, h1, h2, h3, h4, h5, h6, h7, h8, h9, h10, h11, h12, h13, h14, h15, h16, h17, h18, h19, h20, h21, h22, h23, h24, h25, h26, h27, h28, h29, h30, h31, h32, h33, fun _ => rfl, h35, h36, h37, h38, h39, h40, h41, hB, hF⟩
                · obtain rfl := Option.some.inj hi
                  clear hi hil
                  have d14 := h14 (hall ⟨14, .guard⟩ (by simp) rfl)
                  refine StepOk.off 14 true rfl rfl d14 ?_
                  exact ⟨undef, rfl, h0, h1, h2, h3, h4, h5, h6, h7, h8, h9, h10, h11, h12, h13, h14, h15, h16, h17, h18, h19, h20, h21, h22, h23, h24, h25, h26, h27, h28, h29, h30, h31, h32, h33, h34, fun _ => rfl, h36, h37, h38, h39, h40, h41, hB, hF⟩
                · obtain rfl := Option.some.inj hi
                  clear hi hil
                  have d14 := h14 (hall ⟨14, .guard⟩ (by simp) rfl)
                  refine StepOk.off 14 true rfl rfl d14 ?_
                  exact ⟨undef, rfl, h0, h1, h2, h3, h4, h5, h6, h7, h8, h9, h10, h11, h12, h13, h14, h15, h16, h17, h18, h19, h20, h21, h22, h23, h24, h25, h26, h27, h28, h29, h30, h31, h32, h33, h34, h35, fun _ => rfl, h37, h38, h39, h40, h41, hB, hF⟩
                · obtain rfl := Option.some.inj hi
                  clear hi hil
                  have d14 := h14 (hall ⟨14, .guard⟩ (by simp) rfl)
                  refine StepOk.off 14 true rfl rfl d14 ?_
                  exact ⟨undef, rfl, h0, h1, h2, h3, h4, h5, h6, h7, h8, h9, h10, h11, h12, h13, h14, h15, h16, h17, h18, h19, h20, h21, h22, h23, h24, h25, h26, h27, h28, h29, h30, h31, h32, h33, h34, h35, h36, fun _ => rfl, h38, h39, h40, h41, hB, hF⟩
                · obtain rfl := Option.some.inj hi
                  clear hi hil
                  have d14 := h14 (hall ⟨14, .guard⟩ (by simp) rfl)
                  refine StepOk.off 14 true rfl rfl d14 ?_
                  exact ⟨undef, rfl, h0, h1, h2, h3, h4, h5, h6, h7, h8, h9, h10, h11, h12, h13, h14, h15, h16, h17, h18, h19, h20, h21, h22, h23, h24, h25, h26, h27, h28, h29, h30, h31, h32, h33, h34, h35, h36, h37, fun _ => rfl, h39, h40, h41, hB, hF⟩
                · obtain rfl := Option.some.inj hi
                  clear hi hil
                  have d14 := h14 (hall ⟨14, .guard⟩ (by simp) rfl)
                  refine StepOk.off 14 true rfl rfl d14 ?_
                  exact ⟨undef, rfl, h0, h1, h2, h3, h4, h5, h6, h7, h8, h9, h10, h11, h12, h13, h14, h15, h16, h17, h18, h19, h20, h21, h22, h23, h24, h25, h26, h27, h28, h29, h30, h31, h32, h33, h34, h35, h36, h37, h38, fun _ => rfl, h40, h41, hB, hF⟩
                · obtain rfl := Option.some.inj hi
                  clear hi hil
                  have d14 := h14 (hall ⟨14, .data⟩ (by simp) rfl)
                  have d39 := h39 (hall ⟨39, .data⟩ (by simp) rfl)
                  have d8 := h8 (hall ⟨8, .guard⟩ (by simp) rfl)
                  refine StepOk.on 8 false rfl rfl d8 (fun K hK => ?_)
                  have HKK := Lib.hid hK; clear hK
                  simp only [putAll, Act.put, List.setIfInBounds_toArray, List.set_cons_zero, List.set_cons_succ]
                  go_simp
                  exact HKK.out _ _ ⟨_, by simp only [putAll, Act.put, List.setIfInBounds_toArray, List.set_cons_zero, List.set_cons_succ, d14, d39, d8] <;> rfl, h0, h1, h2, h3, h4, h5, h6, h7, h8, h9, h10, h11, h12, h13, h14, h15, h16, h17, h18, h19, h20, h21, h22, h23, h24, h25, h26, h27, h28, h29, h30, h31, h32, h33, h34, h35, h36, h37, h38, h39, fun _ => rfl, h41, hB, hF⟩
                · obtain rfl := Option.some.inj hi
                  clear hi hil
                  have d8 := h8 (hall ⟨8, .data⟩ (by simp) rfl)
                  have d40 := h40 (hall ⟨40, .data⟩ (by simp) rfl)
                  refine StepOk.plain rfl (fun K hK => ?_)
                  have HKK := Lib.hid hK; clear hK
                  simp only [putAll, Act.put, List.setIfInBounds_toArray, List.set_cons_zero, List.set_cons_succ]
                  go_simp
                  exact HKK.out _ _ ⟨_, by simp only [putAll, Act.put, List.setIfInBounds_toArray, List.set_cons_zero, List.set_cons_succ, d8, d40] <;> rfl, h0, h1, h2, h3, h4, h5, h6, h7, h8, h9, h10, h11, h12, h13, h14, h15, h16, h17, h18, h19, h20, h21, h22, h23, h24, h25, h26, h27, h28, h29, h30, h31, h32, h33, h34, h35, h36, h37, h38, h39, h40, fun _ => rfl, hB, hF⟩
                · omega
              · rintro b' vs w2 hall ⟨h0, h1, h2, h3, h4, h5, h6, h7, h8, h9, h10, h11, h12, h13, h14, h15, h16, h17, h18, h19, h20, h21, h22, h23, h24, h25, h26, h27, h28, h29, h30, h31, h32, h33, h34, h35, h36, h37, h38, h39, h40, h41, hB, hF⟩
                have d0 := h0 (hall 0 (by simp))
                have d1 := h1 (hall 1 (by simp))
                have d2 := h2 (hall 2 (by simp))
                have d3 := h3 (hall 3 (by simp))
                have d4 := h4 (hall 4 (by simp))
                have d5 := h5 (hall 5 (by simp))
                have d6 := h6 (hall 6 (by simp))
                have d7 := h7 (hall 7 (by simp))
                have d8 := h8 (hall 8 (by simp))
                have d9 := h9 (hall 9 (by simp))
                have d10 := h10 (hall 10 (by simp))
                have d11 := h11 (hall 11 (by simp))
                have d12 := h12 (hall 12 (by simp))
                have d13 := h13 (hall 13 (by simp))
                have d14 := h14 (hall 14 (by simp))
                have d15 := h15 (hall 15 (by simp))
                have d16 := h16 (hall 16 (by simp))
                have d17 := h17 (hall 17 (by simp))
                have d18 := h18 (hall 18 (by simp))
                have d19 := h19 (hall 19 (by simp))
                have d20 := h20 (hall 20 (by simp))
                have d21 := h21 (hall 21 (by simp))
                have d22 := h22 (hall 22 (by simp))
                have d23 := h23 (hall 23 (by simp))
                have d24 := h24 (hall 24 (by simp))
                have d25 := h25 (hall 25 (by simp))
                have d26 := h26 (hall 26 (by simp))
                have d27 := h27 (hall 27 (by simp))
                have d28 := h28 (hall 28 (by simp))
                have d29 := h29 (hall 29 (by simp))
                have d30 := h30 (hall 30 (by simp))
                have d31 := h31 (hall 31 (by simp))
                have d32 := h32 (hall 32 (by simp))
                have d33 := h33 (hall 33 (by simp))
                have d34 := h34 (hall 34 (by simp))
                have d35 := h35 (hall 35 (by simp))
                have d36 := h36 (hall 36 (by simp))
                have d37 := h37 (hall 37 (by simp))
                have d38 := h38 (hall 38 (by simp))
                have d39 := h39 (hall 39 (by simp))
                have d40 := h40 (hall 40 (by simp))
                have d41 := h41 (hall 41 (by simp))
                have BB := hB
                have FF := hF
                simp only [putAll, Act.put, List.setIfInBounds_toArray, List.set_cons_zero, List.set_cons_succ, d0, d1, d2, d3, d4, d5, d6, d7, d8, d9, d10, d11, d12, d13, d14, d15, d16, d17, d18, d19, d20, d21, d22, d23, d24, d25, d26, d27, d28, d29, d30, d31, d32, d33, d34, d35, d36, d37, d38, d39, d40, d41]
                clear hall h0 d0 h1 d1 h2 d2 h3 d3 h4 d4 h5 d5 h6 d6 h7 d7 h8 d8 h9 d9 h10 d10 h11 d11 h12 d12 h13 d13 h14 d14 h15 d15 h16 d16 h17 d17 h18 d18 h19 d19 h20 d20 h21 d21 h22 d22 h23 d23 h24 d24 h25 d25 h26 d26 h27 d27 h28 d28 h29 d29 h30 d30 h31 d31 h32 d32 h33 d33 h34 d34 h35 d35 h36 d36 h37 d37 h38 d38 h39 d39 h40 d40 h41 d41 hB hF
                go_wp2_with fail
                go_meet
                exact ⟨rfl, FF.out⟩
            · obtain ⟨HRE, HE1, HE1b, HZ1, HZ2, HZ3, HZ4⟩ := HR1.out rfl rfl
              refine wp_region_put3 (by kernel_rfl) (by kernel_rfl) (by kernel_rfl) (fun b' vs w' => (b' 0 = true → vs 0 = .bool false) ∧ (b' 1 = true → vs 1 = .bool false) ∧ (b' 2 = true → vs 2 = undef) ∧ (b' 3 = true → vs 3 = undef) ∧ (b' 4 = true → vs 4 = undef) ∧ (b' 5 = true → vs 5 = undef) ∧ (b' 6 = true → vs 6 = undef) ∧ (b' 7 = true → vs 7 = .bool false) ∧ (b' 8 = true → vs 8 = .bool false) ∧ (b' 9 = true → vs 9 = .bool false) ∧ (b' 10 = true → vs 10 = .bool true) ∧ (b' 11 = true → vs 11 = .bool true) ∧ (b' 12 = true → vs 12 = .bool true) ∧ (b' 13 = true → vs 13 = .bool true) ∧ (b' 14 = true → vs 14 = .bool true) ∧ (b' 15 = true → vs 15 = .agg #[.int .i64 b.x0, .int .i64 b.y0, .int .i64 b.x1, .int .i64 b.y1]) ∧ (b' 16 = true → vs 16 = .int .i64 h) ∧ (b' 17 = true → vs 17 = .agg #[.int .i64 z1, .int .i64 z2, .int .i64 z3, .int .i64 z4]) ∧ (b' 18 = true → vs 18 = .pointer (some ⟨g5, 0, none⟩)) ∧ (b' 19 = true → vs 19 = .int .i64 b.x0) ∧ (b' 20 = true → vs 20 = .int .i64 h) ∧ (b' 21 = true → vs 21 = .int .i64 d) ∧ (b' 22 = true → vs 22 = .int .i64 z1) ∧ (b' 23 = true → vs 23 = .pointer (some ⟨g5, 1, none⟩)) ∧ (b' 24 = true → vs 24 = .int .i64 b.y0) ∧ (b' 25 = true → vs 25 = .int .i64 h) ∧ (b' 26 = true → vs 26 = .int .i64 d) ∧ (b' 27 = true → vs 27 = .int .i64 z2) ∧ (b' 28 = true → vs 28 = .pointer (some ⟨g5, 2, none⟩)) ∧ (b' 29 = true → vs 29 = .int .i64 b.x1) ∧ (b' 30 = true → vs 30 = .int .i64 h) ∧ (b' 31 = true → vs 31 = .int .i64 d) ∧ (b' 32 = true → vs 32 = .int .i64 z3) ∧ (b' 33 = true → vs 33 = .pointer (some ⟨g5, 3, none⟩)) ∧ (b' 34 = true → vs 34 = .int .i64 b.y1) ∧ (b' 35 = true → vs 35 = .int .i64 h) ∧ (b' 36 = true → vs 36 = .int .i64 d) ∧ (b' 37 = true → vs 37 = .int .i64 z4) ∧ (b' 38 = true → vs 38 = .agg #[.int .i64 z1, .int .i64 z2, .int .i64 z3, .int .i64 z4]) ∧ (b' 39 = true → vs 39 = .bool false) ∧ (b' 40 = true → vs 40 = .bool false) ∧ (b' 41 = true → vs 41 = .bool false) ∧ (Hid (Below w2.heap.size w2 w' ∧ w2.heap.size ≤ w'.heap.size)) ∧ (Hid (LRM w b w' g3 g5 ao n c cl h cap))) ?_ ?_ ?_
              · intro vs
                exact ⟨fun h => Bool.noConfusion h, fun h => Bool.noConfusion h, fun h => Bool.noConfusion h, fun h => Bool.noConfusion h, fun h => Bool.noConfusion h, fun h => Bool.noConfusion h, fun h => Bool.noConfusion h, fun h => Bool.noConfusion h, fun h => Bool.noConfusion h, fun h => Bool.noConfusion h, fun h => Bool.noConfusion h, fun h => Bool.noConfusion h, fun h => Bool.noConfusion h, fun h => Bool.noConfusion h, fun h => Bool.noConfusion h, fun h => Bool.noConfusion h, fun h => Bool.noConfusion h, fun h => Bool.noConfusion h, fun h => Bool.noConfusion h, fun h => Bool.noConfusion h, fun h => Bool.noConfusion h, fun h => Bool.noConfusion h, fun h => Bool.noConfusion h, fun h => Bool.noConfusion h, fun h => Bool.noConfusion h, fun h => Bool.noConfusion h, fun h => Bool.noConfusion h, fun h => Bool.noConfusion h, fun h => Bool.noConfusion h, fun h => Bool.noConfusion h, fun h => Bool.noConfusion h, fun h => Bool.noConfusion h, fun h => Bool.noConfusion h, fun h => Bool.noConfusion h, fun h => Bool.noConfusion h, fun h => Bool.noConfusion h, fun h => Bool.noConfusion h, fun h => Bool.noConfusion h, fun h => Bool.noConfusion h, fun h => Bool.noConfusion h, fun h => Bool.noConfusion h, fun h => Bool.noConfusion h, Lib.hid ⟨below_drewN (Below.refl _ _) 1, Nat.le_refl _⟩, Lib.hid (S2.out.grow ⟨rfl, rfl, rfl, Nat.le_refl _, fun _ _ => rfl⟩)⟩
              · rintro b' vs w' i op hi hun hall ⟨h0, h1, h2, h3, h4, h5, h6, h7, h8, h9, h10, h11, h12, h13, h14, h15, h16, h17, h18, h19, h20, h21, h22, h23, h24, h25, h26, h27, h28, h29, h30, h31, h32, h33, h34, h35, h36, h37, h38, h39, h40, h41, hB, hF⟩
                have hil : i < 42 := (List.getElem?_eq_some_iff.1 hi).1
                rcases i with _ | _ | _ | _ | _ | _ | _ | _ | _ | _ | _ | _ | _ | _ | _ | _ | _ | _ | _ | _ | _ | _ | _ | _ | _ | _ | _ | _ | _ | _ | _ | _ | _ | _ | _ | _ | _ | _ | _ | _ | _ | _ | i
                · obtain rfl := Option.some.inj hi
                  clear hi hil
                  refine StepOk.plain rfl (fun K hK => ?_)
                  have HKK := Lib.hid hK; clear hK
                  simp only [putAll, Act.put, List.setIfInBounds_toArray, List.set_cons_zero, List.set_cons_succ]
                  go_simp
                  exact HKK.out _ _ ⟨_, by simp only [putAll, Act.put, List.setIfInBounds_toArray, List.set_cons_zero, List.set_cons_succ] <;> rfl, fun _ => rfl, h1, h2, h3, h4, h5, h6, h7, h8, h9, h10, h11, h12, h13, h14, h15, h16, h17, h18, h19, h20, h21, h22, h23, h24, h25, h26, h27, h28, h29, h30, h31, h32, h33, h34, h35, h36, h37, h38, h39, h40, h41, hB, hF⟩
                · obtain rfl := Option.some.inj hi
                  clear hi hil
                  have d0 := h0 (hall ⟨0, .data⟩ (by simp) rfl)
                  refine StepOk.plain rfl (fun K hK => ?_)
                  have HKK := Lib.hid hK; clear hK
                  simp only [putAll, Act.put, List.setIfInBounds_toArray, List.set_cons_zero, List.set_cons_succ]
                  go_simp
                  exact HKK.out _ _ ⟨_, by simp only [putAll, Act.put, List.setIfInBounds_toArray, List.set_cons_zero, List.set_cons_succ, d0] <;> rfl, h0, fun _ => rfl, h2, h3, h4, h5, h6, h7, h8, h9, h10, h11, h12, h13, h14, h15, h16, h17, h18, h19, h20, h21, h22, h23, h24, h25, h26, h27, h28, h29, h30, h31, h32, h33, h34, h35, h36, h37, h38, h39, h40, h41, hB, hF⟩
                · obtain rfl := Option.some.inj hi
                  clear hi hil
                  have d1 := h1 (hall ⟨1, .guard⟩ (by simp) rfl)
                  refine StepOk.off 1 true rfl rfl d1 ?_
                  exact ⟨undef, rfl, h0, h1, fun _ => rfl, h3, h4, h5, h6, h7, h8, h9, h10, h11, h12, h13, h14, h15, h16, h17, h18, h19, h20, h21, h22, h23, h24, h25, h26, h27, h28, h29, h30, h31, h32, h33, h34, h35, h36, h37, h38, h39, h40, h41, hB, hF⟩
                · obtain rfl := Option.some.inj hi
                  clear hi hil
                  have d1 := h1 (hall ⟨1, .guard⟩ (by simp) rfl)
                  refine StepOk.off 1 true rfl rfl d1 ?_
                  exact ⟨undef, rfl, h0, h1, h2, fun _ => rfl, h4, h5, h6, h7, h8, h9, h10, h11, h12, h13, h14, h15, h16, h17, h18, h19, h20, h21, h22, h23, h24, h25, h26, h27, h28, h29, h30, h31, h32, h33, h34, h35, h36, h37, h38, h39, h40, h41, hB, hF⟩
                · obtain rfl := Option.some.inj hi
                  clear hi hil
                  have d1 := h1 (hall ⟨1, .guard⟩ (by simp) rfl)
                  refine StepOk.off 1 true rfl rfl d1 ?_
                  exact ⟨undef, rfl, h0, h1, h2, h3, fun _ => rfl, h5, h6, h7, h8, h9, h10, h11, h12, h13, h14, h15, h16, h17, h18, h19, h20, h21, h22, h23, h24, h25, h26, h27, h28, h29, h30, h31, h32, h33, h34, h35, h36, h37, h38, h39, h40, h41, hB, hF⟩
                · obtain rfl := Option.some.inj hi
                  clear hi hil
                  have d1 := h1 (hall ⟨1, .guard⟩ (by simp) rfl)
                  refine StepOk.off 1 true rfl rfl d1 ?_
                  exact ⟨undef, rfl, h0, h1, h2, h3, h4, fun _ => rfl, h6, h7, h8, h9, h10, h11, h12, h13, h14, h15, h16, h17, h18, h19, h20, h21, h22, h23, h24, h25, h26, h27, h28, h29, h30, h31, h32, h33, h34, h35, h36, h37, h38, h39, h40, h41, hB, hF⟩
                · obtain rfl := Option.some.inj hi
                  clear hi hil
                  have d1 := h1 (hall ⟨1, .guard⟩ (by simp) rfl)
                  refine StepOk.off 1 true rfl rfl d1 ?_
                  exact ⟨undef, rfl, h0, h1, h2, h3, h4, h5, fun _ => rfl, h7, h8, h9, h10, h11, h12, h13, h14, h15, h16, h17, h18, h19, h20, h21, h22, h23, h24, h25, h26, h27, h28, h29, h30, h31, h32, h33, h34, h35, h36, h37, h38, h39, h40, h41, hB, hF⟩
                · obtain rfl := Option.some.inj hi
                  clear hi hil
                  have d1 := h1 (hall ⟨1, .data⟩ (by simp) rfl)
                  have d6 := h6 (hall ⟨6, .data⟩ (by simp) rfl)
                  refine StepOk.plain rfl (fun K hK => ?_)
                  have HKK := Lib.hid hK; clear hK
                  simp only [putAll, Act.put, List.setIfInBounds_toArray, List.set_cons_zero, List.set_cons_succ]
                  go_simp
                  exact HKK.out _ _ ⟨_, by simp only [putAll, Act.put, List.setIfInBounds_toArray, List.set_cons_zero, List.set_cons_succ, d1, d6] <;> rfl, h0, h1, h2, h3, h4, h5, h6, fun _ => rfl, h8, h9, h10, h11, h12, h13, h14, h15, h16, h17, h18, h19, h20, h21, h22, h23, h24, h25, h26, h27, h28, h29, h30, h31, h32, h33, h34, h35, h36, h37, h38, h39, h40, h41, hB, hF⟩
                · obtain rfl := Option.some.inj hi
                  clear hi hil
                  have d7 := h7 (hall ⟨7, .data⟩ (by simp) rfl)
                  refine StepOk.plain rfl (fun K hK => ?_)
                  have HKK := Lib.hid hK; clear hK
                  simp only [putAll, Act.put, List.setIfInBounds_toArray, List.set_cons_zero, List.set_cons_succ]
                  go_simp
                  exact HKK.out _ _ ⟨_, by simp only [putAll, Act.put, List.setIfInBounds_toArray, List.set_cons_zero, List.set_cons_succ, d7] <;> rfl, h0, h1, h2, h3, h4, h5, h6, h7, fun _ => rfl, h9, h10, h11, h12, h13, h14, h15, h16, h17, h18, h19, h20, h21, h22, h23, h24, h25, h26, h27, h28, h29, h30, h31, h32, h33, h34, h35, h36, h37, h38, h39, h40, h41, hB, hF⟩
                · obtain rfl := Option.some.inj hi
                  clear hi hil
                  have d8 := h8 (hall ⟨8, .guard⟩ (by simp) rfl)
                  refine StepOk.on 8 false rfl rfl d8 (fun K hK => ?_)
                  have HKK := Lib.hid hK; clear hK
                  simp only [putAll, Act.put, List.setIfInBounds_toArray, List.set_cons_zero, List.set_cons_succ]
                  go_simp
                  exact HKK.out _ _ ⟨_, by simp only [putAll, Act.put, List.setIfInBounds_toArray, List.set_cons_zero, List.set_cons_succ, d8] <;> rfl, h0, h1, h2, h3, h4, h5, h6, h7, h8, fun _ => rfl, h10, h11, h12, h13, h14, h15, h16, h17, h18, h19, h20, h21, h22, h23, h24, h25, h26, h27, h28, h29, h30, h31, h32, h33, h34, h35, h36, h37, h38, h39, h40, h41, hB, hF⟩
                · obtain rfl := Option.some.inj hi
                  clear hi hil
                  have d9 := h9 (hall ⟨9, .data⟩ (by simp) rfl)
                  have d8 := h8 (hall ⟨8, .guard⟩ (by simp) rfl)
                  refine StepOk.on 8 false rfl rfl d8 (fun K hK => ?_)
                  have HKK := Lib.hid hK; clear hK
                  simp only [putAll, Act.put, List.setIfInBounds_toArray, List.set_cons_zero, List.set_cons_succ]
                  go_simp
                  exact HKK.out _ _ ⟨_, by simp only [putAll, Act.put, List.setIfInBounds_toArray, List.set_cons_zero, List.set_cons_succ, d9, d8] <;> rfl, h0, h1, h2, h3, h4, h5, h6, h7, h8, h9, fun _ => rfl, h11, h12, h13, h14, h15, h16, h17, h18, h19, h20, h21, h22, h23, h24, h25, h26, h27, h28, h29, h30, h31, h32, h33, h34, h35, h36, h37, h38, h39, h40, h41, hB, hF⟩
                · obtain rfl := Option.some.inj hi
                  clear hi hil
                  have d10 := h10 (hall ⟨10, .data⟩ (by simp) rfl)
                  have d8 := h8 (hall ⟨8, .guard⟩ (by simp) rfl)
                  refine StepOk.on 8 false rfl rfl d8 (fun K hK => ?_)
                  have HKK := Lib.hid hK; clear hK
                  simp only [putAll, Act.put, List.setIfInBounds_toArray, List.set_cons_zero, List.set_cons_succ]
                  go_simp
                  exact HKK.out _ _ ⟨_, by simp only [putAll, Act.put, List.setIfInBounds_toArray, List.set_cons_zero, List.set_cons_succ, d10, d8] <;> rfl, h0, h1, h2, h3, h4, h5, h6, h7, h8, h9, h10, fun _ => rfl, h12, h13, h14, h15, h16, h17, h18, h19, h20, h21, h22, h23, h24, h25, h26, h27, h28, h29, h30, h31, h32, h33, h34, h35, h36, h37, h38, h39, h40, h41, hB, hF⟩
                · obtain rfl := Option.some.inj hi
                  clear hi hil
                  have d11 := h11 (hall ⟨11, .guard⟩ (by simp) rfl)
                  refine StepOk.on 11 true rfl rfl d11 (fun K hK => ?_)
                  have HKK := Lib.hid hK; clear hK
                  simp only [putAll, Act.put, List.setIfInBounds_toArray, List.set_cons_zero, List.set_cons_succ]
                  go_simp
                  exact HKK.out _ _ ⟨_, by simp only [putAll, Act.put, List.setIfInBounds_toArray, List.set_cons_zero, List.set_cons_succ, d11] <;> rfl, h0, h1, h2, h3, h4, h5, h6, h7, h8, h9, h10, h11, fun _ => rfl, h13, h14, h15, h16, h17, h18, h19, h20, h21, h22, h23, h24, h25, h26, h27, h28, h29, h30, h31, h32, h33, h34, h35, h36, h37, h38, h39, h40, h41, hB, hF⟩
                · obtain rfl := Option.some.inj hi
                  clear hi hil
                  have d11 := h11 (hall ⟨11, .data⟩ (by simp) rfl)
                  have d12 := h12 (hall ⟨12, .data⟩ (by simp) rfl)
                  have d8 := h8 (hall ⟨8, .guard⟩ (by simp) rfl)
                  refine StepOk.on 8 false rfl rfl d8 (fun K hK => ?_)
                  have HKK := Lib.hid hK; clear hK
                  simp only [putAll, Act.put, List.setIfInBounds_toArray, List.set_cons_zero, List.set_cons_succ]
                  go_simp
                  exact HKK.out _ _ ⟨_, by simp only [putAll, Act.put, List.setIfInBounds_toArray, List.set_cons_zero, List.set_cons_succ, d11, d12, d8] <;> rfl, h0, h1, h2, h3, h4, h5, h6, h7, h8, h9, h10, h11, h12, fun _ => rfl, h14, h15, h16, h17, h18, h19, h20, h21, h22, h23, h24, h25, h26, h27, h28, h29, h30, h31, h32, h33, h34, h35, h36, h37, h38, h39, h40, h41, hB, hF⟩
                · obtain rfl := Option.some.inj hi
                  clear hi hil
                  have d13 := h13 (hall ⟨13, .data⟩ (by simp) rfl)
                  have d8 := h8 (hall ⟨8, .guard⟩ (by simp) rfl)
                  refine StepOk.on 8 false rfl rfl d8 (fun K hK => ?_)
                  have HKK := Lib.hid hK; clear hK
                  simp only [putAll, Act.put, List.setIfInBounds_toArray, List.set_cons_zero, List.set_cons_succ]
                  go_simp
                  exact HKK.out _ _ ⟨_, by simp only [putAll, Act.put, List.setIfInBounds_toArray, List.set_cons_zero, List.set_cons_succ, d13, d8] <;> rfl, h0, h1, h2, h3, h4, h5, h6, h7, h8, h9, h10, h11, h12, h13, fun _ => rfl, h15, h16, h17, h18, h19, h20, h21, h22, h23, h24, h25, h26, h27, h28, h29, h30, h31, h32, h33, h34, h35, h36, h37, h38, h39, h40, h41, hB, hF⟩
                · obtain rfl := Option.some.inj hi
                  clear hi hil
                  have d14 := h14 (hall ⟨14, .guard⟩ (by simp) rfl)
                  have kb := hF.out.box
                  have y0 := kb.b0
                  have y1 := kb.b1
                  have y2 := kb.b2
                  have y3 := kb.b3
                  clear kb
                  refine StepOk.on 14 true rfl rfl d14 (fun K hK => ?_)
                  have HKK := Lib.hid hK; clear hK
                  simp only [putAll, Act.put, List.setIfInBounds_toArray, List.set_cons_zero, List.set_cons_succ]
                  go_simp
                  exact HKK.out _ _ ⟨_, by simp only [putAll, Act.put, List.setIfInBounds_toArray, List.set_cons_zero, List.set_cons_succ, d14] <;> rfl, h0, h1, h2, h3, h4, h5, h6, h7, h8, h9, h10, h11, h12, h13, h14, fun _ => rfl, h16, h17, h18, h19, h20, h21, h22, h23, h24, h25, h26, h27, h28, h29, h30, h31, h32, h33, h34, h35, h36, h37, h38, h39, h40, h41, hB, hF⟩
                · obtain rfl := Option.some.inj hi
                  clear hi hil
                  have d14 := h14 (hall ⟨14, .guard⟩ (by simp) rfl)
                  refine StepOk.on 14 true rfl rfl d14 (fun K hK => ?_)
                  have HKK := Lib.hid hK; clear hK
                  simp only [putAll, Act.put, List.setIfInBounds_toArray, List.set_cons_zero, List.set_cons_succ]
                  go_simp
                  exact HKK.out _ _ ⟨_, by simp only [putAll, Act.put, List.setIfInBounds_toArray, List.set_cons_zero, List.set_cons_succ, d14] <;> rfl, h0, h1, h2, h3, h4, h5, h6, h7, h8, h9, h10, h11, h12, h13, h14, h15, fun _ => rfl, h17, h18, h19, h20, h21, h22, h23, h24, h25, h26, h27, h28, h29, h30, h31, h32, h33, h34, h35, h36, h37, h38, h39, h40, h41, hB, hF⟩
                · obtain rfl := Option.some.inj hi
                  clear hi hil
                  have d15 := h15 (hall ⟨15, .data⟩ (by simp) rfl)
                  have d16 := h16 (hall ⟨16, .data⟩ (by simp) rfl)
                  have d14 := h14 (hall ⟨14, .guard⟩ (by simp) rfl)
                  refine StepOk.on 14 true rfl rfl d14 (fun K hK => ?_)
                  have HKK := Lib.hid hK; clear hK
                  simp only [putAll, Act.put, List.setIfInBounds_toArray, List.set_cons_zero, List.set_cons_succ]
                  go_simp
                  refine (HRE.out w').mono ?_
                  rintro e w2 ⟨rfl, hb2⟩
                  exact HKK.out _ _ ⟨_, by simp only [putAll, Act.put, List.setIfInBounds_toArray, List.set_cons_zero, List.set_cons_succ, d15, d16, d14] <;> rfl, h0, h1, h2, h3, h4, h5, h6, h7, h8, h9, h10, h11, h12, h13, h14, h15, h16, fun _ => rfl, h18, h19, h20, h21, h22, h23, h24, h25, h26, h27, h28, h29, h30, h31, h32, h33, h34, h35, h36, h37, h38, h39, h40, h41, Lib.hid ⟨(hB).out.1.trans (hb2.mono (hB).out.2), Nat.le_trans (hB).out.2 hb2.size⟩, Lib.hid ((hF).out.grow hb2)⟩
                · obtain rfl := Option.some.inj hi
                  clear hi hil
                  have d14 := h14 (hall ⟨14, .guard⟩ (by simp) rfl)
                  refine StepOk.on 14 true rfl rfl d14 (fun K hK => ?_)
                  have HKK := Lib.hid hK; clear hK
                  simp only [putAll, Act.put, List.setIfInBounds_toArray, List.set_cons_zero, List.set_cons_succ]
                  go_simp
                  exact HKK.out _ _ ⟨_, by simp only [putAll, Act.put, List.setIfInBounds_toArray, List.set_cons_zero, List.set_cons_succ, d14] <;> rfl, h0, h1, h2, h3, h4, h5, h6, h7, h8, h9, h10, h11, h12, h13, h14, h15, h16, h17, fun _ => rfl, h19, h20, h21, h22, h23, h24, h25, h26, h27, h28, h29, h30, h31, h32, h33, h34, h35, h36, h37, h38, h39, h40, h41, hB, hF⟩
                · obtain rfl := Option.some.inj hi
                  clear hi hil
                  have d18 := h18 (hall ⟨18, .data⟩ (by simp) rfl)
                  have d14 := h14 (hall ⟨14, .guard⟩ (by simp) rfl)
                  have kb := hF.out.box
                  have y0 := kb.b0
                  clear kb
                  refine StepOk.on 14 true rfl rfl d14 (fun K hK => ?_)
                  have HKK := Lib.hid hK; clear hK
                  simp only [putAll, Act.put, List.setIfInBounds_toArray, List.set_cons_zero, List.set_cons_succ]
                  go_simp
                  exact HKK.out _ _ ⟨_, by simp only [putAll, Act.put, List.setIfInBounds_toArray, List.set_cons_zero, List.set_cons_succ, d18, d14] <;> rfl, h0, h1, h2, h3, h4, h5, h6, h7, h8, h9, h10, h11, h12, h13, h14, h15, h16, h17, h18, fun _ => rfl, h20, h21, h22, h23, h24, h25, h26, h27, h28, h29, h30, h31, h32, h33, h34, h35, h36, h37, h38, h39, h40, h41, hB, hF⟩
                · obtain rfl := Option.some.inj hi
                  clear hi hil
                  have d14 := h14 (hall ⟨14, .guard⟩ (by simp) rfl)
                  refine StepOk.on 14 true rfl rfl d14 (fun K hK => ?_)
                  have HKK := Lib.hid hK; clear hK
                  simp only [putAll, Act.put, List.setIfInBounds_toArray, List.set_cons_zero, List.set_cons_succ]
                  go_simp
                  exact HKK.out _ _ ⟨_, by simp only [putAll, Act.put, List.setIfInBounds_toArray, List.set_cons_zero, List.set_cons_succ, d14] <;> rfl, h0, h1, h2, h3, h4, h5, h6, h7, h8, h9, h10, h11, h12, h13, h14, h15, h16, h17, h18, h19, fun _ => rfl, h21, h22, h23, h24, h25, h26, h27, h28, h29, h30, h31, h32, h33, h34, h35, h36, h37, h38, h39, h40, h41, hB, hF⟩
                · obtain rfl := Option.some.inj hi
                  clear hi hil
                  have d20 := h20 (hall ⟨20, .data⟩ (by simp) rfl)
                  have d14 := h14 (hall ⟨14, .guard⟩ (by simp) rfl)
                  have e1 := HE1.out
                  have e2 := HE1b.out
                  refine StepOk.on 14 true rfl rfl d14 (fun K hK => ?_)
                  have HKK := Lib.hid hK; clear hK
                  simp only [putAll, Act.put, List.setIfInBounds_toArray, List.set_cons_zero, List.set_cons_succ]
                  go_simp
                  exact HKK.out _ _ ⟨_, by simp only [putAll, Act.put, List.setIfInBounds_toArray, List.set_cons_zero, List.set_cons_succ, d20, d14] <;> rfl, h0, h1, h2, h3, h4, h5, h6, h7, h8, h9, h10, h11, h12, h13, h14, h15, h16, h17, h18, h19, h20, fun _ => rfl, h22, h23, h24, h25, h26, h27, h28, h29, h30, h31, h32, h33, h34, h35, h36, h37, h38, h39, h40, h41, hB, hF⟩
                · obtain rfl := Option.some.inj hi
                  clear hi hil
                  have d19 := h19 (hall ⟨19, .data⟩ (by simp) rfl)
                  have d21 := h21 (hall ⟨21, .data⟩ (by simp) rfl)
                  have d14 := h14 (hall ⟨14, .guard⟩ (by simp) rfl)
                  have e1 := HZ1.out
                  have e2 : IntKind.i64.wrap (b.x0 - d) = z1 := by rw [wrap_is]; exact e1
                  refine StepOk.on 14 true rfl rfl d14 (fun K hK => ?_)
                  have HKK := Lib.hid hK; clear hK
                  simp only [putAll, Act.put, List.setIfInBounds_toArray, List.set_cons_zero, List.set_cons_succ]
                  go_simp
                  exact HKK.out _ _ ⟨_, by simp only [putAll, Act.put, List.setIfInBounds_toArray, List.set_cons_zero, List.set_cons_succ, d19, d21, d14] <;> rfl, h0, h1, h2, h3, h4, h5, h6, h7, h8, h9, h10, h11, h12, h13, h14, h15, h16, h17, h18, h19, h20, h21, fun _ => rfl, h23, h24, h25, h26, h27, h28, h29, h30, h31, h32, h33, h34, h35, h36, h37, h38, h39, h40, h41, hB, hF⟩
                · obtain rfl := Option.some.inj hi
                  clear hi hil
                  have d14 := h14 (hall ⟨14, .guard⟩ (by simp) rfl)
                  refine StepOk.on 14 true rfl rfl d14 (fun K hK => ?_)
                  have HKK := Lib.hid hK; clear hK
                  simp only [putAll, Act.put, List.setIfInBounds_toArray, List.set_cons_zero, List.set_cons_succ]
                  go_simp
                  exact HKK.out _ _ ⟨_, by simp only [putAll, Act.put, List.setIfInBounds_toArray, List.set_cons_zero, List.set_cons_succ, d14] <;> rfl, h0, h1, h2, h3, h4, h5, h6, h7, h8, h9, h10, h11, h12, h13, h14, h15, h16, h17, h18, h19, h20, h21, h22, fun _ => rfl, h24, h25, h26, h27, h28, h29, h30, h31, h32, h33, h34, h35, h36, h37, h38, h39, h40, h41, hB, hF⟩
                · obtain rfl := Option.some.inj hi
                  clear hi hil
                  have d23 := h23 (hall ⟨23, .data⟩ (by simp) rfl)
                  have d14 := h14 (hall ⟨14, .guard⟩ (by simp) rfl)
                  have kb := hF.out.box
                  have y0 := kb.b1
                  clear kb
                  refine StepOk.on 14 true rfl rfl d14 (fun K hK => ?_)
                  have HKK := Lib.hid hK; clear hK
                  simp only [putAll, Act.put, List.setIfInBounds_toArray, List.set_cons_zero, List.set_cons_succ]
                  go_simp
                  exact HKK.out _ _ ⟨_, by simp only [putAll, Act.put, List.setIfInBounds_toArray, List.set_cons_zero, List.set_cons_succ, d23, d14] <;> rfl, h0, h1, h2, h3, h4, h5, h6, h7, h8, h9, h10, h11, h12, h13, h14, h15, h16, h17, h18, h19, h20, h21, h22, h23, fun _ => rfl, h25, h26, h27, h28, h29, h30, h31, h32, h33, h34, h35, h36, h37, h38, h39, h40, h41, hB, hF⟩
                · obtain rfl := Option.some.inj hi
                  clear hi hil
                  have d14 := h14 (hall ⟨14, .guard⟩ (by simp) rfl)
                  refine StepOk.on 14 true rfl rfl d14 (fun K hK => ?_)
                  have HKK := Lib.hid hK; clear hK
                  simp only [putAll, Act.put, List.setIfInBounds_toArray, List.set_cons_zero, List.set_cons_succ]
                  go_simp
                  exact HKK.out _ _ ⟨_, by simp only [putAll, Act.put, List.setIfInBounds_toArray, List.set_cons_zero, List.set_cons_succ, d14] <;> rfl, h0, h1, h2, h3, h4, h5, h6, h7, h8, h9, h10, h11, h12, h13, h14, h15, h16, h17, h18, h19, h20, h21, h22, h23, h24, fun _ => rfl, h26, h27, h28, h29, h30, h31, h32, h33, h34, h35, h36, h37, h38, h39, h40, h41, hB, hF⟩
                · obtain rfl := Option.some.inj hi
                  clear hi hil
                  have d25 := h25 (hall ⟨25, .data⟩ (by simp) rfl)
                  have d14 := h14 (hall ⟨14, .guard⟩ (by simp) rfl)
                  have e1 := HE1.out
                  have e2 := HE1b.out
                  refine StepOk.on 14 true rfl rfl d14 (fun K hK => ?_)
                  have HKK := Lib.hid hK; clear hK
                  simp only [putAll, Act.put, List.setIfInBounds_toArray, List.set_cons_zero, List.set_cons_succ]
                  go_simp
                  exact HKK.out _ _ ⟨_, by simp only [putAll, Act.put, List.setIfInBounds_toArray, List.set_cons_zero, List.set_cons_succ, d25, d14] <;> rfl, h0, h1, h2, h3, h4, h5, h6, h7, h8, h9, h10, h11, h12, h13, h14, h15, h16, h17, h18, h19, h20, h21, h22, h23, h24, h25, fun _ => rfl, h27, h28, h29, h30, h31, h32, h33, h34, h35, h36, h37, h38, h39, h40, h41, hB, hF⟩
                · obtain rfl := Option.some.inj hi
                  clear hi hil
                  have d24 := h24 (hall ⟨24, .data⟩ (by simp) rfl)
                  have d26 := h26 (hall ⟨26, .data⟩ (by simp) rfl)
                  have d14 := h14 (hall ⟨14, .guard⟩ (by simp) rfl)
                  have e1 := HZ2.out
                  have e2 : IntKind.i64.wrap (b.y0 - d) = z2 := by rw [wrap_is]; exact e1
                  refine StepOk.on 14 true rfl rfl d14 (fun K hK => ?_)
                  have HKK := Lib.hid hK; clear hK
                  simp only [putAll, Act.put, List.setIfInBounds_toArray, List.set_cons_zero, List.set_cons_succ]
                  go_simp
                  exact HKK.out _ _ ⟨_, by simp only [putAll, Act.put, List.setIfInBounds_toArray, List.set_cons_zero, List.set_cons_succ, d24, d26, d14] <;> rfl, h0, h1, h2, h3, h4, h5, h6, h7, h8, h9, h10, h11, h12, h13, h14, h15, h16, h17, h18, h19, h20, h21, h22, h23, h24, h25, h26, fun _ => rfl, h28, h29, h30, h31, h32, h33, h34, h35, h36, h37, h38, h39, h40, h41, hB, hF⟩
                · obtain rfl := Option.some.inj hi
                  clear hi hil
                  have d14 := h14 (hall ⟨14, .guard⟩ (by simp) rfl)
                  refine StepOk.on 14 true rfl rfl d14 (fun K hK => ?_)
                  have HKK := Lib.hid hK; clear hK
                  simp only [putAll, Act.put, List.setIfInBounds_toArray, List.set_cons_zero, List.set_cons_succ]
                  go_simp
                  exact HKK.out _ _ ⟨_, by simp only [putAll, Act.put, List.setIfInBounds_toArray, List.set_cons_zero, List.set_cons_succ, d14] <;> rfl, h0, h1, h2, h3, h4, h5, h6, h7, h8, h9, h10, h11, h12, h13, h14, h15, h16, h17, h18, h19, h20, h21, h22, h23, h24, h25, h26, h27, fun _ => rfl, h29, h30, h31, h32, h33, h34, h35, h36, h37, h38, h39, h40, h41, hB, hF⟩
                · obtain rfl := Option.some.inj hi
                  clear hi hil
                  have d28 := h28 (hall ⟨28, .data⟩ (by simp) rfl)
                  have d14 := h14 (hall ⟨14, .guard⟩ (by simp) rfl)
                  have kb := hF.out.box
                  have y0 := kb.b2
                  clear kb
                  refine StepOk.on 14 true rfl rfl d14 (fun K hK => ?_)
                  have HKK := Lib.hid hK; clear hK
                  simp only [putAll, Act.put, List.setIfInBounds_toArray, List.set_cons_zero, List.set_cons_succ]
                  go_simp
                  exact HKK.out _ _ ⟨_, by simp only [putAll, Act.put, List.setIfInBounds_toArray, List.set_cons_zero, List.set_cons_succ, d28, d14] <;> rfl, h0, h1, h2, h3, h4, h5, h6, h7, h8, h9, h10, h11, h12, h13, h14, h15, h16, h17, h18, h19, h20, h21, h22, h23, h24, h25, h26, h27, h28, fun _ => rfl, h30, h31, h32, h33, h34, h35, h36, h37, h38, h39, h40, h41, hB, hF⟩
                · obtain rfl := Option.some.inj hi
                  clear hi hil
                  have d14 := h14 (hall ⟨14, .guard⟩ (by simp) rfl)
                  refine StepOk.on 14 true rfl rfl d14 (fun K hK => ?_)
                  have HKK := Lib.hid hK; clear hK
                  simp only [putAll, Act.put, List.setIfInBounds_toArray, List.set_cons_zero, List.set_cons_succ]
                  go_simp
                  exact HKK.out _ _ ⟨_, by simp only [putAll, Act.put, List.setIfInBounds_toArray, List.set_cons_zero, List.set_cons_succ, d14] <;> rfl, h0, h1, h2, h3, h4, h5, h6, h7, h8, h9, h10, h11, h12, h13, h14, h15, h16, h17, h18, h19, h20, h21, h22, h23, h24, h25, h26, h27, h28, h29, fun _ => rfl, h31, h32, h33, h34, h35, h36, h37, h38, h39, h40, h41, hB, hF⟩
                · obtain rfl := Option.some.inj hi
                  clear hi hil
                  have d30 := h30 (hall ⟨30, .data⟩ (by simp) rfl)
                  have d14 := h14 (hall ⟨14, .guard⟩ (by simp) rfl)
                  have e1 := HE1.out
                  have e2 := HE1b.out
                  refine StepOk.on 14 true rfl rfl d14 (fun K hK => ?_)
                  have HKK := Lib.hid hK; clear hK
                  simp only [putAll, Act.put, List.setIfInBounds_toArray, List.set_cons_zero, List.set_cons_succ]
                  go_simp
                  exact HKK.out _ _ ⟨_, by simp only [putAll, Act.put, List.setIfInBounds_toArray, List.set_cons_zero, List.set_cons_succ, d30, d14] <;> rfl, h0, h1, h2, h3, h4, h5, h6, h7, h8, h9, h10, h11, h12, h13, h14, h15, h16, h17, h18, h19, h20, h21, h22, h23, h24, h25, h26, h27, h28, h29, h30, fun _ => rfl, h32, h33, h34, h35, h36, h37, h38, h39, h40, h41, hB, hF⟩
                · obtain rfl := Option.some.inj hi
                  clear hi hil
                  have d29 := h29 (hall ⟨29, .data⟩ (by simp) rfl)
                  have d31 := h31 (hall ⟨31, .data⟩ (by simp) rfl)
                  have d14 := h14 (hall ⟨14, .guard⟩ (by simp) rfl)
                  have e1 := HZ3.out
                  have e2 : IntKind.i64.wrap (b.x1 + d) = z3 := by rw [wrap_is]; exact e1
                  refine StepOk.on 14 true rfl rfl d14 (fun K hK => ?_)
                  have HKK := Lib.hid hK; clear hK
                  simp only [putAll, Act.put, List.setIfInBounds_toArray, List.set_cons_zero, List.set_cons_succ]
                  go_simp
                  exact HKK.out _ _ ⟨_, by simp only [putAll, Act.put, List.setIfInBounds_toArray, List.set_cons_zero, List.set_cons_succ, d29, d31, d14] <;> rfl, h0, h1, h2, h3, h4, h5, h6, h7, h8, h9, h10, h11, h12, h13, h14, h15, h16, h17, h18, h19, h20, h21, h22, h23, h24, h25, h26, h27, h28, h29, h30, h31, fun _ => rfl, h33, h34, h35, h36, h37, h38, h39, h40, h41, hB, hF⟩
                · obtain rfl := Option.some.inj hi
                  clear hi hil
                  have d14 := h14 (hall ⟨14, .guard⟩ (by simp) rfl)
                  refine StepOk.on 14 true rfl rfl d14 (fun K hK => ?_)
                  have HKK := Lib.hid hK; clear hK
                  simp only [putAll, Act.put, List.setIfInBounds_toArray, List.set_cons_zero, List.set_cons_succ]
                  go_simp
                  exact HKK.out _ _ ⟨_, by simp only [putAll, Act.put, List.setIfInBounds_toArray, List.set_cons_zero, List.set_cons_succ, d14] <;> rfl, h0, h1, h2, h3, h4, h5, h6, h7, h8, h9, h10, h11, h12, h13, h14, h15, h16, h17, h18, h19, h20, h21, h22, h23, h24, h25, h26, h27, h28, h29, h30, h31, h32, fun _ => rfl, h34, h35, h36, h37, h38, h39, h40, h41, hB, hF⟩
                · obtain rfl := Option.some.inj hi
                  clear hi hil
                  have d33 := h33 (hall ⟨33, .data⟩ (by simp) rfl)
                  have d14 := h14 (hall ⟨14, .guard⟩ (by simp) rfl)
                  have kb := hF.out.box
                  have y0 := kb.b3
                  clear kb
                  refine StepOk.on 14 true rfl rfl d14 (fun K hK => ?_)
                  have HKK := Lib.hid hK; clear hK
                  simp only [putAll, Act.put, List.setIfInBounds_toArray, List.set_cons_zero, List.set_cons_succ]
                  go_simp
                  exact HKK.out _ _ ⟨_, by simp only [putAll, Act.put, List.setIfInBounds_toArray, List.set_cons_zero, List.set_cons_succ, d33, d14] <;> rfl, h0, h1, h2, h3, h4, h5, h6, h7, h8, h9, h10, h11, h12, h13, h14, h15, h16, h17, h18, h19, h20, h21, h22, h23, h24, h25, h26, h27, h28, h29, h30, h31, h32, h33, fun _ => rfl, h35, h36, h37, h38, h39, h40, h41, hB, hF⟩
                · obtain rfl := Option.some.inj hi
                  clear hi hil
                  have d14 := h14 (hall ⟨14, .guard⟩ (by simp) rfl)
                  refine StepOk.on 14 true rfl rfl d14 (fun K hK => ?_)
                  have HKK := Lib.hid hK; clear hK
                  simp only [putAll, Act.put, List.setIfInBounds_toArray, List.set_cons_zero, List.set_cons_succ]
                  go_simp
                  exact HKK.out _ _ ⟨_, by simp only [putAll, Act.put, List.setIfInBounds_toArray, List.set_cons_zero, List.set_cons_succ, d14] <;> rfl, h0, h1, h2, h3, h4, h5, h6, h7, h8, h9, h10, h11, h12, h13, h14, h15, h16, h17, h18, h19, h20, h21, h22, h23, h24, h25, h26, h27, h28, h29, h30, h31, h32, h33, h34, fun _ => rfl, h36, h37, h38, h39, h40, h41, hB, hF⟩
                · obtain rfl := Option.some.inj hi
                  clear hi hil
                  have d35 := h35 (hall ⟨35, .data⟩ (by simp) rfl)
                  have d14 := h14 (hall ⟨14, .guard⟩ (by simp) rfl)
                  have e1 := HE1.out
                  have e2 := HE1b.out
                  refine StepOk.on 14 true rfl rfl d14 (fun K hK => ?_)
                  have HKK := Lib.hid hK; clear hK
                  simp only [putAll, Act.put, List.setIfInBounds_toArray, List.set_cons_zero, List.set_cons_succ]
                  go_simp
                  exact HKK.out _ _ ⟨_, by simp only [putAll, Act.put, List.setIfInBounds_toArray, List.set_cons_zero, List.set_cons_succ, d35, d14] <;> rfl, h0, h1, h2, h3, h4, h5, h6, h7, h8, h9, h10, h11, h12, h13, h14, h15, h16, h17, h18, h19, h20, h21, h22, h23, h24, h25, h26, h27, h28, h29, h30, h31, h32, h33, h34, h35, fun _ => rfl, h37, h38, h39, h40, h41, hB, hF⟩
                · obtain rfl := Option.some.inj hi
                  clear hi hil
                  have d34 := h34 (hall ⟨34, .data⟩ (by simp) rfl)
                  have d36 := h36 (hall ⟨36, .data⟩ (by simp) rfl)
                  have d14 := h14 (hall ⟨14, .guard⟩ (by simp) rfl)
                  have e1 := HZ4.out
                  have e2 : IntKind.i64.wrap (b.y1 + d) = z4 := by rw [wrap_is]; exact e1
                  refine StepOk.on 14 true rfl rfl d14 (fun K hK => ?_)
                  have HKK := Lib.hid hK; clear hK
                  simp only [putAll, Act.put, List.setIfInBounds_toArray, List.set_cons_zero, List.set_cons_succ]
                  go_simp
                  exact HKK.out _ _ ⟨_, by simp only [putAll, Act.put, List.setIfInBounds_toArray, List.set_cons_zero, List.set_cons_succ, d34, d36, d14] <;> rfl, h0, h1, h2, h3, h4, h5, h6, h7, h8, h9, h10, h11, h12, h13, h14, h15, h16, h17, h18, h19, h20, h21, h22, h23, h24, h25, h26, h27, h28, h29, h30, h31, h32, h33, h34, h35, h36, fun _ => rfl, h38, h39, h40, h41, hB, hF⟩
                · obtain rfl := Option.some.inj hi
                  clear hi hil
                  have d22 := h22 (hall ⟨22, .data⟩ (by simp) rfl)
                  have d27 := h27 (hall ⟨27, .data⟩ (by simp) rfl)
                  have d32 := h32 (hall ⟨32, .data⟩ (by simp) rfl)
                  have d37 := h37 (hall ⟨37, .data⟩ (by simp) rfl)
                  have d14 := h14 (hall ⟨14, .guard⟩ (by simp) rfl)
                  refine StepOk.on 14 true rfl rfl d14 (fun K hK => ?_)
                  have HKK := Lib.hid hK; clear hK
                  simp only [putAll, Act.put, List.setIfInBounds_toArray, List.set_cons_zero, List.set_cons_succ]
                  go_simp
                  exact HKK.out _ _ ⟨_, by simp only [putAll, Act.put, List.setIfInBounds_toArray, List.set_cons_zero, List.set_cons_succ, d22, d27, d32, d37, d14] <;> rfl, h0, h1, h2, h3, h4, h5, h6, h7, h8, h9, h10, h11, h12, h13, h14, h15, h16, h17, h18, h19, h20, h21, h22, h23, h24, h25, h26, h27, h28, h29, h30, h31, h32, h33, h34, h35, h36, h37, fun _ => rfl, h39, h40, h41, hB, hF⟩
                · obtain rfl := Option.some.inj hi
                  clear hi hil
                  have d17 := h17 (hall ⟨17, .data⟩ (by simp) rfl)
                  have d38 := h38 (hall ⟨38, .data⟩ (by simp) rfl)
                  have d14 := h14 (hall ⟨14, .guard⟩ (by simp) rfl)
                  refine StepOk.on 14 true rfl rfl d14 (fun K hK => ?_)
                  have HKK := Lib.hid hK; clear hK
                  simp only [putAll, Act.put, List.setIfInBounds_toArray, List.set_cons_zero, List.set_cons_succ]
                  go_simp
                  exact HKK.out _ _ ⟨_, by simp only [putAll, Act.put, List.setIfInBounds_toArray, List.set_cons_zero, List.set_cons_succ, d17, d38, d14] <;> rfl, h0, h1, h2, h3, h4, h5, h6, h7, h8, h9, h10, h11, h12, h13, h14, h15, h16, h17, h18, h19, h20, h21, h22, h23, h24, h25, h26, h27, h28, h29, h30, h31, h32, h33, h34, h35, h36, h37, h38, fun _ => rfl, h40, h41, hB, hF⟩
                · obtain rfl := Option.some.inj hi
                  clear hi hil
                  have d14 := h14 (hall ⟨14, .data⟩ (by simp) rfl)
                  have d39 := h39 (hall ⟨39, .data⟩ (by simp) rfl)
                  have d8 := h8 (hall ⟨8, .guard⟩ (by simp) rfl)
                  refine StepOk.on 8 false rfl rfl d8 (fun K hK => ?_)
                  have HKK := Lib.hid hK; clear hK
                  simp only [putAll, Act.put, List.setIfInBounds_toArray, List.set_cons_zero, List.set_cons_succ]
                  go_simp
                  exact HKK.out _ _ ⟨_, by simp only [putAll, Act.put, List.setIfInBounds_toArray, List.set_cons_zero, List.set_cons_succ, d14, d39, d8] <;> rfl, h0, h1, h2, h3, h4, h5, h6, h7, h8, h9, h10, h11, h12, h13, h14, h15, h16, h17, h18, h19, h20, h21, h22, h23, h24, h25, h26, h27, h28, h29, h30, h31, h32, h33, h34, h35, h36, h37, h38, h39, fun _ => rfl, h41, hB, hF⟩
                · obtain rfl := Option.some.inj hi
                  clear hi hil
                  have d8 := h8 (hall ⟨8, .data⟩ (by simp) rfl)
                  have d40 := h40 (hall ⟨40, .data⟩ (by simp) rfl)
                  refine StepOk.plain rfl (fun K hK => ?_)
                  have HKK := Lib.hid hK; clear hK
                  simp only [putAll, Act.put, List.setIfInBounds_toArray, List.set_cons_zero, List.set_cons_succ]
                  go_simp
                  exact HKK.out _ _ ⟨_, by simp only [putAll, Act.put, List.setIfInBounds_toArray, List.set_cons_zero, List.set_cons_succ, d8, d40] <;> rfl, h0, h1, h2, h3, h4, h5, h6, h7, h8, h9, h10, h11, h12, h13, h14, h15, h16, h17, h18, h19, h20, h21, h22, h23, h24, h25, h26, h27, h28, h29, h30, h31, h32, h33, h34, h35, h36, h37, h38, h39, h40, fun _ => rfl, hB, hF⟩
                · omega
              · rintro b' vs w2 hall ⟨h0, h1, h2, h3, h4, h5, h6, h7, h8, h9, h10, h11, h12, h13, h14, h15, h16, h17, h18, h19, h20, h21, h22, h23, h24, h25, h26, h27, h28, h29, h30, h31, h32, h33, h34, h35, h36, h37, h38, h39, h40, h41, hB, hF⟩
                have d0 := h0 (hall 0 (by simp))
                have d1 := h1 (hall 1 (by simp))
                have d2 := h2 (hall 2 (by simp))
                have d3 := h3 (hall 3 (by simp))
                have d4 := h4 (hall 4 (by simp))
                have d5 := h5 (hall 5 (by simp))
                have d6 := h6 (hall 6 (by simp))
                have d7 := h7 (hall 7 (by simp))
                have d8 := h8 (hall 8 (by simp))
                have d9 := h9 (hall 9 (by simp))
                have d10 := h10 (hall 10 (by simp))
                have d11 := h11 (hall 11 (by simp))
                have d12 := h12 (hall 12 (by simp))
                have d13 := h13 (hall 13 (by simp))
                have d14 := h14 (hall 14 (by simp))
                have d15 := h15 (hall 15 (by simp))
                have d16 := h16 (hall 16 (by simp))
                have d17 := h17 (hall 17 (by simp))
                have d18 := h18 (hall 18 (by simp))
                have d19 := h19 (hall 19 (by simp))
                have d20 := h20 (hall 20 (by simp))
                have d21 := h21 (hall 21 (by simp))
                have d22 := h22 (hall 22 (by simp))
                have d23 := h23 (hall 23 (by simp))
                have d24 := h24 (hall 24 (by simp))
                have d25 := h25 (hall 25 (by simp))
                have d26 := h26 (hall 26 (by simp))
                have d27 := h27 (hall 27 (by simp))
                have d28 := h28 (hall 28 (by simp))
                have d29 := h29 (hall 29 (by simp))
                have d30 := h30 (hall 30 (by simp))
                have d31 := h31 (hall 31 (by simp))
                have d32 := h32 (hall 32 (by simp))
                have d33 := h33 (hall 33 (by simp))
                have d34 := h34 (hall 34 (by simp))
                have d35 := h35 (hall 35 (by simp))
                have d36 := h36 (hall 36 (by simp))
                have d37 := h37 (hall 37 (by simp))
                have d38 := h38 (hall 38 (by simp))
                have d39 := h39 (hall 39 (by simp))
                have d40 := h40 (hall 40 (by simp))
                have d41 := h41 (hall 41 (by simp))
                have BB := hB
                have FF := hF
                simp only [putAll, Act.put, List.setIfInBounds_toArray, List.set_cons_zero, List.set_cons_succ, d0, d1, d2, d3, d4, d5, d6, d7, d8, d9, d10, d11, d12, d13, d14, d15, d16, d17, d18, d19, d20, d21, d22, d23, d24, d25, d26, d27, d28, d29, d30, d31, d32, d33, d34, d35, d36, d37, d38, d39, d40, d41]
                clear hall h0 d0 h1 d1 h2 d2 h3 d3 h4 d4 h5 d5 h6 d6 h7 d7 h8 d8 h9 d9 h10 d10 h11 d11 h12 d12 h13 d13 h14 d14 h15 d15 h16 d16 h17 d17 h18 d18 h19 d19 h20 d20 h21 d21 h22 d22 h23 d23 h24 d24 h25 d25 h26 d26 h27 d27 h28 d28 h29 d29 h30 d30 h31 d31 h32 d32 h33 d33 h34 d34 h35 d35 h36 d36 h37 d37 h38 d38 h39 d39 h40 d40 h41 d41 hB hF
                go_wp2_with fail
                go_meet
                exact ⟨rfl, FF.out⟩
          · have HRE := Lib.hid (HR0.out rfl)
            refine wp_region_put3 (by kernel_rfl) (by kernel_rfl) (by kernel_rfl) (fun b' vs w' => (b' 0 = true → vs 0 = .bool true) ∧ (b' 1 = true → vs 1 = .bool true) ∧ (b' 2 = true → vs 2 = .agg #[.int .i64 b.x0, .int .i64 b.y0, .int .i64 b.x1, .int .i64 b.y1]) ∧ (b' 3 = true → vs 3 = .int .i64 h) ∧ (b' 4 = true → vs 4 = .agg #[.int .i64 0, .int .i64 0, .int .i64 0, .int .i64 0]) ∧ (b' 5 = true → vs 5 = .agg #[.int .i64 0, .int .i64 0, .int .i64 0, .int .i64 0]) ∧ (b' 6 = true → vs 6 = .bool false) ∧ (b' 7 = true → vs 7 = .bool false) ∧ (b' 8 = true → vs 8 = .bool false) ∧ (b' 9 = true → vs 9 = .bool true) ∧ (b' 10 = true → vs 10 = .bool false) ∧ (b' 11 = true → vs 11 = .bool false) ∧ (b' 12 = true → vs 12 = undef) ∧ (b' 13 = true → vs 13 = .bool false) ∧ (b' 14 = true → vs 14 = .bool false) ∧ (b' 15 = true → vs 15 = undef) ∧ (b' 16 = true → vs 16 = undef) ∧ (b' 17 = true → vs 17 = undef) ∧ (b' 18 = true → vs 18 = undef) ∧ (b' 19 = true → vs 19 = undef) ∧ (b' 20 = true → vs 20 = undef) ∧ (b' 21 = true → vs 21 = undef) ∧ (b' 22 = true → vs 22 = undef) ∧ (b' 23 = true → vs 23 = undef) ∧ (b' 24 = true → vs 24 = undef) ∧ (b' 25 = true → vs 25 = undef) ∧ (b' 26 = true → vs 26 = undef) ∧ (b' 27 = true → vs 27 = undef) ∧ (b' 28 = true → vs 28 = undef) ∧ (b' 29 = true → vs 29 = undef) ∧ (b' 30 = true → vs 30 = undef) ∧ (b' 31 = true → vs 31 = undef) ∧ (b' 32 = true → vs 32 = undef) ∧ (b' 33 = true → vs 33 = undef) ∧ (b' 34 = true → vs 34 = undef) ∧ (b' 35 = true → vs 35 = undef) ∧ (b' 36 = true → vs 36 = undef) ∧ (b' 37 = true → vs 37 = undef) ∧ (b' 38 = true → vs 38 = undef) ∧ (b' 39 = true → vs 39 = undef) ∧ (b' 40 = true → vs 40 = .bool false) ∧ (b' 41 = true → vs 41 = .bool false) ∧ (Hid (Below w2.heap.size w2 w' ∧ w2.heap.size ≤ w'.heap.size)) ∧ (Hid (LRM w b w' g3 g5 ao n c cl h cap))) ?_ ?_ ?_
            · intro vs
              exact ⟨fun h => Bool.noConfusion h, fun h => Bool.noConfusion h, fun h => Bool.noConfusion h, fun h => Bool.noConfusion h, fun h => Bool.noConfusion h, fun h => Bool.noConfusion h, fun h => Bool.noConfusion h, fun h => Bool.noConfusion h, fun h => Bool.noConfusion h, fun h => Bool.noConfusion h, fun h => Bool.noConfusion h, fun h => Bool.noConfusion h, fun h => Bool.noConfusion h, fun h => Bool.noConfusion h, fun h => Bool.noConfusion h, fun h => Bool.noConfusion h, fun h => Bool.noConfusion h, fun h => Bool.noConfusion h, fun h => Bool.noConfusion h, fun h => Bool.noConfusion h, fun h => Bool.noConfusion h, fun h => Bool.noConfusion h, fun h => Bool.noConfusion h, fun h => Bool.noConfusion h, fun h => Bool.noConfusion h, fun h => Bool.noConfusion h, fun h => Bool.noConfusion h, fun h => Bool.noConfusion h, fun h => Bool.noConfusion h, fun h => Bool.noConfusion h, fun h => Bool.noConfusion h, fun h => Bool.noConfusion h, fun h => Bool.noConfusion h, fun h => Bool.noConfusion h, fun h => Bool.noConfusion h, fun h => Bool.noConfusion h, fun h => Bool.noConfusion h, fun h => Bool.noConfusion h, fun h => Bool.noConfusion h, fun h => Bool.noConfusion h, fun h => Bool.noConfusion h, fun h => Bool.noConfusion h, Lib.hid ⟨below_drewN (Below.refl _ _) 1, Nat.le_refl _⟩, Lib.hid (S2.out.grow ⟨rfl, rfl, rfl, Nat.le_refl _, fun _ _ => rfl⟩)⟩
            · rintro b' vs w' i op hi hun hall ⟨h0, h1, h2, h3, h4, h5, h6, h7, h8, h9, h10, h11, h12, h13, h14, h15, h16, h17, h18, h19, h20, h21, h22, h23, h24, h25, h26, h27, h28, h29, h30, h31, h32, h33, h34, h35, h36, h37, h38, h39, h40, h41, hB, hF⟩
              have hil : i < 42 := (List.getElem?_eq_some_iff.1 hi).1
              rcases i with _ | _ | _ | _ | _ | _ | _ | _ | _ | _ | _ | _ | _ | _ | _ | _ | _ | _ | _ | _ | _ | _ | _ | _ | _ | _ | _ | _ | _ | _ | _ | _ | _ | _ | _ | _ | _ | _ | _ | _ | _ | _ | i
              · obtain rfl := Option.some.inj hi
                clear hi hil
                refine StepOk.plain rfl (fun K hK => ?_)
                have HKK := Lib.hid hK; clear hK
                simp only [putAll, Act.put, List.setIfInBounds_toArray, List.set_cons_zero, List.set_cons_succ]
                go_simp
                exact HKK.out _ _ ⟨_, by simp only [putAll, Act.put, List.setIfInBounds_toArray, List.set_cons_zero, List.set_cons_succ] <;> rfl, fun _ => rfl, h1, h2, h3, h4, h5, h6, h7, h8, h9, h10, h11, h12, h13, h14, h15, h16, h17, h18, h19, h20, h21, h22, h23, h24, h25, h26, h27, h28, h29, h30, h31, h32, h33, h34, h35, h36, h37, h38, h39, h40, h41, hB, hF⟩
              · obtain rfl := Option.some.inj hi
                clear hi hil
                have d0 := h0 (hall ⟨0, .data⟩ (by simp) rfl)
                refine StepOk.plain rfl (fun K hK => ?_)
                have HKK := Lib.hid hK; clear hK
                simp only [putAll, Act.put, List.setIfInBounds_toArray, List.set_cons_zero, List.set_cons_succ]
                go_simp
                exact HKK.out _ _ ⟨_, by simp only [putAll, Act.put, List.setIfInBounds_toArray, List.set_cons_zero, List.set_cons_succ, d0] <;> rfl, h0, fun _ => rfl, h2, h3, h4, h5, h6, h7, h8, h9, h10, h11, h12, h13, h14, h15, h16, h17, h18, h19, h20, h21, h22, h23, h24, h25, h26, h27, h28, h29, h30, h31, h32, h33, h34, h35, h36, h37, h38, h39, h40, h41, hB, hF⟩
              · obtain rfl := Option.some.inj hi
                clear hi hil
                have d1 := h1 (hall ⟨1, .guard⟩ (by simp) rfl)
                have kb := hF.out.box
                have y0 := kb.b0
                have y1 := kb.b1
                have y2 := kb.b2
                have y3 := kb.b3
                clear kb
                refine StepOk.on 1 true rfl rfl d1 (fun K hK => ?_)
                have HKK := Lib.hid hK; clear hK
                simp only [putAll, Act.put, List.setIfInBounds_toArray, List.set_cons_zero, List.set_cons_succ]
                go_simp
                exact HKK.out _ _ ⟨_, by simp only [putAll, Act.put, List.setIfInBounds_toArray, List.set_cons_zero, List.set_cons_succ, d1] <;> rfl, h0, h1, fun _ => rfl, h3, h4, h5, h6, h7, h8, h9, h10, h11, h12, h13, h14, h15, h16, h17, h18, h19, h20, h21, h22, h23, h24, h25, h26, h27, h28, h29, h30, h31, h32, h33, h34, h35, h36, h37, h38, h39, h40, h41, hB, hF⟩
              · obtain rfl := Option.some.inj hi
                clear hi hil
                have d1 := h1 (hall ⟨1, .guard⟩ (by simp) rfl)
                refine StepOk.on 1 true rfl rfl d1 (fun K hK => ?_)
                have HKK := Lib.hid hK; clear hK
                simp only [putAll, Act.put, List.setIfInBounds_toArray, List.set_cons_zero, List.set_cons_succ]
                go_simp
                exact HKK.out _ _ ⟨_, by simp only [putAll, Act.put, List.setIfInBounds_toArray, List.set_cons_zero, List.set_cons_succ, d1] <;> rfl, h0, h1, h2, fun _ => rfl, h4, h5, h6, h7, h8, h9, h10, h11, h12, h13, h14, h15, h16, h17, h18, h19, h20, h21, h22, h23, h24, h25, h26, h27, h28, h29, h30, h31, h32, h33, h34, h35, h36, h37, h38, h39, h40, h41, hB, hF⟩
              · obtain rfl := Option.some.inj hi
                clear hi hil
                have d2 := h2 (hall ⟨2, .data⟩ (by simp) rfl)
                have d3 := h3 (hall ⟨3, .data⟩ (by simp) rfl)
                have d1 := h1 (hall ⟨1, .guard⟩ (by simp) rfl)
                refine StepOk.on 1 true rfl rfl d1 (fun K hK => ?_)
                have HKK := Lib.hid hK; clear hK
                simp only [putAll, Act.put, List.setIfInBounds_toArray, List.set_cons_zero, List.set_cons_succ]
                go_simp
                refine (HRE.out w').mono ?_
                rintro e w2 ⟨rfl, hb2⟩
                exact HKK.out _ _ ⟨_, by simp only [putAll, Act.put, List.setIfInBounds_toArray, List.set_cons_zero, List.set_cons_succ, d2, d3, d1] <;> rfl, h0, h1, h2, h3, fun _ => rfl, h5, h6, h7, h8, h9, h10, h11, h12, h13, h14, h15, h16, h17, h18, h19, h20, h21, h22, h23, h24, h25, h26, h27, h28, h29, h30, h31, h32, h33, h34, h35, h36, h37, h38, h39, h40, h41, Lib.hid ⟨(hB).out.1.trans (hb2.mono (hB).out.2), Nat.le_trans (hB).out.2 hb2.size⟩, Lib.hid ((hF).out.grow hb2)⟩
              · obtain rfl := Option.some.inj hi
                clear hi hil
                have d1 := h1 (hall ⟨1, .guard⟩ (by simp) rfl)
                refine StepOk.on 1 true rfl rfl d1 (fun K hK => ?_)
                have HKK := Lib.hid hK; clear hK
                simp only [putAll, Act.put, List.setIfInBounds_toArray, List.set_cons_zero, List.set_cons_succ]
                go_simp
                exact HKK.out _ _ ⟨_, by simp only [putAll, Act.put, List.setIfInBounds_toArray, List.set_cons_zero, List.set_cons_succ, d1] <;> rfl, h0, h1, h2, h3, h4, fun _ => rfl, h6, h7, h8, h9, h10, h11, h12, h13, h14, h15, h16, h17, h18, h19, h20, h21, h22, h23, h24, h25, h26, h27, h28, h29, h30, h31, h32, h33, h34, h35, h36, h37, h38, h39, h40, h41, hB, hF⟩
              · obtain rfl := Option.some.inj hi
                clear hi hil
                have d4 := h4 (hall ⟨4, .data⟩ (by simp) rfl)
                have d5 := h5 (hall ⟨5, .data⟩ (by simp) rfl)
                have d1 := h1 (hall ⟨1, .guard⟩ (by simp) rfl)
                refine StepOk.on 1 true rfl rfl d1 (fun K hK => ?_)
                have HKK := Lib.hid hK; clear hK
                simp only [putAll, Act.put, List.setIfInBounds_toArray, List.set_cons_zero, List.set_cons_succ]
                go_simp
                exact HKK.out _ _ ⟨_, by simp only [putAll, Act.put, List.setIfInBounds_toArray, List.set_cons_zero, List.set_cons_succ, d4, d5, d1] <;> rfl, h0, h1, h2, h3, h4, h5, fun _ => rfl, h7, h8, h9, h10, h11, h12, h13, h14, h15, h16, h17, h18, h19, h20, h21, h22, h23, h24, h25, h26, h27, h28, h29, h30, h31, h32, h33, h34, h35, h36, h37, h38, h39, h40, h41, hB, hF⟩
              · obtain rfl := Option.some.inj hi
                clear hi hil
                have d1 := h1 (hall ⟨1, .data⟩ (by simp) rfl)
                have d6 := h6 (hall ⟨6, .data⟩ (by simp) rfl)
                refine StepOk.plain rfl (fun K hK => ?_)
                have HKK := Lib.hid hK; clear hK
                simp only [putAll, Act.put, List.setIfInBounds_toArray, List.set_cons_zero, List.set_cons_succ]
                go_simp
                exact HKK.out _ _ ⟨_, by simp only [putAll, Act.put, List.setIfInBounds_toArray, List.set_cons_zero, List.set_cons_succ, d1, d6] <;> rfl, h0, h1, h2, h3, h4, h5, h6, fun _ => rfl, h8, h9, h10, h11, h12, h13, h14, h15, h16, h17, h18, h19, h20, h21, h22, h23, h24, h25, h26, h27, h28, h29, h30, h31, h32, h33, h34, h35, h36, h37, h38, h39, h40, h41, hB, hF⟩
              · obtain rfl := Option.some.inj hi
                clear hi hil
                have d7 := h7 (hall ⟨7, .data⟩ (by simp) rfl)
                refine StepOk.plain rfl (fun K hK => ?_)
                have HKK := Lib.hid hK; clear hK
                simp only [putAll, Act.put, List.setIfInBounds_toArray, List.set_cons_zero, List.set_cons_succ]
                go_simp
                exact HKK.out _ _ ⟨_, by simp only [putAll, Act.put, List.setIfInBounds_toArray, List.set_cons_zero, List.set_cons_succ, d7] <;> rfl, h0, h1, h2, h3, h4, h5, h6, h7, fun _ => rfl, h9, h10, h11, h12, h13, h14, h15, h16, h17, h18, h19, h20, h21, h22, h23, h24, h25, h26, h27, h28, h29, h30, h31, h32, h33, h34, h35, h36, h37, h38, h39, h40, h41, hB, hF⟩
              · obtain rfl := Option.some.inj hi
                clear hi hil
                have d8 := h8 (hall ⟨8, .guard⟩ (by simp) rfl)
                refine StepOk.on 8 false rfl rfl d8 (fun K hK => ?_)
                have HKK := Lib.hid hK; clear hK
                simp only [putAll, Act.put, List.setIfInBounds_toArray, List.set_cons_zero, List.set_cons_succ]
                go_simp
                exact HKK.out _ _ ⟨_, by simp only [putAll, Act.put, List.setIfInBounds_toArray, List.set_cons_zero, List.set_cons_succ, d8] <;> rfl, h0, h1, h2, h3, h4, h5, h6, h7, h8, fun _ => rfl, h10, h11, h12, h13, h14, h15, h16, h17, h18, h19, h20, h21, h22, h23, h24, h25, h26, h27, h28, h29, h30, h31, h32, h33, h34, h35, h36, h37, h38, h39, h40, h41, hB, hF⟩
              · obtain rfl := Option.some.inj hi
                clear hi hil
                have d9 := h9 (hall ⟨9, .data⟩ (by simp) rfl)
                have d8 := h8 (hall ⟨8, .guard⟩ (by simp) rfl)
                refine StepOk.on 8 false rfl rfl d8 (fun K hK => ?_)
                have HKK := Lib.hid hK; clear hK
                simp only [putAll, Act.put, List.setIfInBounds_toArray, List.set_cons_zero, List.set_cons_succ]
                go_simp
                exact HKK.out _ _ ⟨_, by simp only [putAll, Act.put, List.setIfInBounds_toArray, List.set_cons_zero, List.set_cons_succ, d9, d8] <;> rfl, h0, h1, h2, h3, h4, h5, h6, h7, h8, h9, fun _ => rfl, h11, h12, h13, h14, h15, h16, h17, h18, h19, h20, h21, h22, h23, h24, h25, h26, h27, h28, h29, h30, h31, h32, h33, h34, h35, h36, h37, h38, h39, h40, h41, hB, hF⟩
              · obtain rfl := Option.some.inj hi
                clear hi hil
                have d10 := h10 (hall ⟨10, .data⟩ (by simp) rfl)
                have d8 := h8 (hall ⟨8, .guard⟩ (by simp) rfl)
                refine StepOk.on 8 false rfl rfl d8 (fun K hK => ?_)
                have HKK := Lib.hid hK; clear hK
                simp only [putAll, Act.put, List.setIfInBounds_toArray, List.set_cons_zero, List.set_cons_succ]
                go_simp
                exact HKK.out _ _ ⟨_, by simp only [putAll, Act.put, List.setIfInBounds_toArray, List.set_cons_zero, List.set_cons_succ, d10, d8] <;> rfl, h0, h1, h2, h3, h4, h5, h6, h7, h8, h9, h10, fun _ => rfl, h12, h13, h14, h15, h16, h17, h18, h19, h20, h21, h22, h23, h24, h25, h26, h27, h28, h29, h30, h31, h32, h33, h34, h35, h36, h37, h38, h39, h40, h41, hB, hF⟩
              · obtain rfl := Option.some.inj hi
                clear hi hil
                have d11 := h11 (hall ⟨11, .guard⟩ (by simp) rfl)
                refine StepOk.off 11 true rfl rfl d11 ?_
                exact ⟨undef, rfl, h0, h1, h2, h3, h4, h5, h6, h7, h8, h9, h10, h11, fun _ => rfl, h13, h14, h15, h16, h17, h18, h19, h20, h21, h22, h23, h24, h25, h26, h27, h28, h29, h30, h31, h32, h33, h34, h35, h36, h37, h38, h39, h40, h41, hB, hF⟩
              · obtain rfl := Option.some.inj hi
                clear hi hil
                have d11 := h11 (hall ⟨11, .data⟩ (by simp) rfl)
                have d12 := h12 (hall ⟨12, .data⟩ (by simp) rfl)
                have d8 := h8 (hall ⟨8, .guard⟩ (by simp) rfl)
                refine StepOk.on 8 false rfl rfl d8 (fun K hK => ?_)
                have HKK := Lib.hid hK; clear hK
                simp only [putAll, Act.put, List.setIfInBounds_toArray, List.set_cons_zero, List.set_cons_succ]
                go_simp
                exact HKK.out _ _ ⟨_, by simp only [putAll, Act.put, List.setIfInBounds_toArray, List.set_cons_zero, List.set_cons_succ, d11, d12, d8] <;> rfl, h0, h1, h2, h3, h4, h5, h6, h7, h8, h9, h10, h11, h12, fun _ => rfl, h14, h15, h16, h17, h18, h19, h20, h21, h22, h23, h24, h25, h26, h27, h28, h29, h30, h31, h32, h33, h34, h35, h36, h37, h38, h39, h40, h41, hB, hF⟩
              · obtain rfl := Option.some.inj hi
                clear hi hil
                have d13 := h13 (hall ⟨13, .data⟩ (by simp) rfl)
                have d8 := h8 (hall ⟨8, .guard⟩ (by simp) rfl)
                refine StepOk.on 8 false rfl rfl d8 (fun K hK => ?_)
                have HKK := Lib.hid hK; clear hK
                simp only [putAll, Act.put, List.setIfInBounds_toArray, List.set_cons_zero, List.set_cons_succ]
                go_simp
                exact HKK.out _ _ ⟨_, by simp only [putAll, Act.put, List.setIfInBounds_toArray, List.set_cons_zero, List.set_cons_succ, d13, d8] <;> rfl, h0, h1, h2, h3, h4, h5, h6, h7, h8, h9, h10, h11, h12, h13, fun _ => rfl, h15, h16, h17, h18, h19, h20, h21, h22, h23, h24, h25, h26, h27, h28, h29, h30, h31, h32, h33, h34, h35, h36, h37, h38, h39, h40, h41, hB, hF⟩
              · obtain rfl := Option.some.inj hi
                clear hi hil
                have d14 := h14 (hall ⟨14, .guard⟩ (by simp) rfl)
                refine StepOk.off 14 true rfl rfl d14 ?_
                exact ⟨undef, rfl, h0, h1, h2, h3, h4, h5, h6, h7, h8, h9, h10, h11, h12, h13, h14, fun _ => rfl, h16, h17, h18, h19, h20, h21, h22, h23, h24, h25, h26, h27, h28, h29, h30, h31, h32, h33, h34, h35, h36, h37, h38, h39, h40, h41, hB, hF⟩
              · obtain rfl := Option.some.inj hi
                clear hi hil
                have d14 := h14 (hall ⟨14, .guard⟩ (by simp) rfl)
                refine StepOk.off 14 true rfl rfl d14 ?_
                exact ⟨undef, rfl, h0, h1, h2, h3, h4, h5, h6, h7, h8, h9, h10, h11, h12, h13, h14, h15, fun _ => rfl, h17, h18, h19, h20, h21, h22, h23, h24, h25, h26, h27, h28, h29, h30, h31, h32, h33, h34, h35, h36, h37, h38, h39, h40, h41, hB, hF⟩
              · obtain rfl := Option.some.inj hi
                clear hi hil
                have d14 := h14 (hall ⟨14, .guard⟩ (by simp) rfl)
                refine StepOk.off 14 true rfl rfl d14 ?_
                exact ⟨undef, rfl, h0, h1, h2, h3, h4, h5, h6, h7, h8, h9, h10, h11, h12, h13, h14, h15, h16, fun _ => rfl, h18, h19, h20, h21, h22, h23, h24, h25, h26, h27, h28, h29, h30, h31, h32, h33, h34, h35, h36, h37, h38, h39, h40, h41, hB, hF⟩
              · obtain rfl := Option.some.inj hi
                clear hi hil
                have d14 := h14 (hall ⟨14, .guard⟩ (by simp) rfl)
                refine StepOk.off 14 true rfl rfl d14 ?_
                exact ⟨undef, rfl, h0, h1, h2, h3, h4, h5, h6, h7, h8, h9, h10, h11, h12, h13, h14, h15, h16, h17, fun _ => rfl, h19, h20, h21, h22, h23, h24, h25, h26, h27, h28, h29, h30, h31, h32, h33, h34, h35, h36, h37, h38, h39, h40, h41, hB, hF⟩
              · obtain rfl := Option.some.inj hi
                clear hi hil
                have d14 := h14 (hall ⟨14, .guard⟩ (by simp) rfl)
                refine StepOk.off 14 true rfl rfl d14 ?_
                exact ⟨undef, rfl, h0, h1, h2, h3, h4, h5, h6, h7, h8, h9, h10, h11, h12, h13, h14, h15, h16, h17, h18, fun _ => rfl, h20, h21, h22, h23, h24, h25, h26, h27, h28, h29, h30, h31, h32, h33, h34, h35, h36, h37, h38, h39, h40, h41, hB, hF⟩
              · obtain rfl := Option.some.inj hi
                clear hi hil
                have d14 := h14 (hall ⟨14, .guard⟩ (by simp) rfl)
                refine StepOk.off 14 true rfl rfl d14 ?_
                exact ⟨undef, rfl, h0, h1, h2, h3, h4, h5, h6, h7, h8, h9, h10, h11, h12, h13, h14, h15, h16, h17, h18, h19, fun _ => rfl, h21, h22, h23, h24, h25, h26, h27, h28, h29, h30, h31, h32, h33, h34, h35, h36, h37, h38, h39, h40, h41, hB, hF⟩
              · obtain rfl := Option.some.inj hi
                clear hi hil
                have d14 := h14 (hall ⟨14, .guard⟩ (by simp) rfl)
                refine StepOk.off 14 true rfl rfl d14 ?_
                exact ⟨undef, rfl, h0, h1, h2, h3, h4, h5, h6, h7, h8, h9, h10, h11, h12, h13, h14, h15, h16, h17, h18, h19, h20, fun _ => rfl, h22, h23, h24, h25, h26, h27, h28, h29, h30, h31, h32, h33, h34, h35, h36, h37, h38, h39, h40, h41, hB, hF⟩
              · obtain rfl := Option.some.inj hi
                clear hi hil
                have d14 := h14 (hall ⟨14, .guard⟩ (by simp) rfl)
                refine StepOk.off 14 true rfl rfl d14 ?_
                exact ⟨undef, rfl, h0, h1, h2, h3, h4, h5, h6, h7, h8, h9, h10, h11, h12, h13, h14, h15, h16, h17, h18, h19, h20, h21, fun _ => rfl, h23, h24, h25, h26, h27, h28, h29, h30, h31, h32, h33, h34, h35, h36, h37, h38, h39, h40, h41, hB, hF⟩
              · obtain rfl := Option.some.inj hi
                clear hi hil
                have d14 := h14 (hall ⟨14, .guard⟩ (by simp) rfl)
                refine StepOk.off 14 true rfl rfl d14 ?_
                exact ⟨undef, rfl, h0, h1, h2, h3, h4, h5, h6, h7, h8, h9, h10, h11, h12, h13, h14, h15, h16, h17, h18, h19, h20, h21, h22, fun _ => rfl, h24, h25, h26, h27, h28, h29, h30, h31, h32, h33, h34, h35, h36, h37, h38, h39, h40, h41, hB, hF⟩
              · obtain rfl := Option.some.inj hi
                clear hi hil
                have d14 := h14 (hall ⟨14, .guard⟩ (by simp) rfl)
                refine StepOk.off 14 true rfl rfl d14 ?_
                exact ⟨undef, rfl, h0, h1, h2, h3, h4, h5, h6, h7, h8, h9, h10, h11, h12, h13, h14, h15, h16, h17, h18, h19, h20, h21, h22, h23, fun _ => rfl, h25, h26, h27, h28, h29, h30, h31, h32, h33, h34, h35, h36, h37, h38, h39, h40, h41, hB, hF⟩
              · obtain rfl := Option.some.inj hi
                clear hi hil
                have d14 := h14 (hall ⟨14, .guard⟩ (by simp) rfl)
                refine StepOk.off 14 true rfl rfl d14 ?_
                exact ⟨undef, rfl, h0, h1, h2, h3, h4, h5, h6, h7, h8, h9, h10, h11, h12, h13, h14, h15, h16, h17, h18, h19, h20, h21, h22, h23, h24, fun _ => rfl, h26, h27, h28, h29, h30, h31, h32, h33, h34, h35, h36, h37, h38, h39, h40, h41, hB, hF⟩
              · obtain rfl := Option.some.inj hi
                clear hi hil
                have d14 := h14 (hall ⟨14, .guard⟩ (by simp) rfl)
                refine StepOk.off 14 true rfl rfl d14 ?_
                exact ⟨undef, rfl, h0, h1, h2, h3, h4, h5, h6, h7, h8, h9, h10, h11, h12, h13, h14, h15, h16, h17, h18, h19, h20, h21, h22, h23, h24, h25, fun _ => rfl, h27, h28, h29, h30, h31, h32, h33, h34, h35, h36, h37, h38, h39, h40, h41, hB, hF⟩
              · obtain rfl := Option.some.inj hi
                clear hi hil
                have d14 := h14 (hall ⟨14, .guard⟩ (by simp) rfl)
                refine StepOk.off 14 true rfl rfl d14 ?_
                exact ⟨undef, rfl, h0, h1, h2, h3, h4, h5, h6, h7, h8, h9, h10, h11, h12, h13, h14, h15, h16, h17, h18, h19, h20, h21, h22, h23, h24, h25, h26, fun _ => rfl, h28, h29, h30, h31, h32, h33, h34, h35, h36, h37, h38, h39, h40, h41, hB, hF⟩
              · obtain rfl := Option.some.inj hi
                clear hi hil
                have d14 := h14 (hall ⟨14, .guard⟩ (by simp) rfl)
                refine StepOk.off 14 true rfl rfl d14 ?_
                exact ⟨undef, rfl, h0, h1, h2, h3, h4, h5, h6, h7, h8, h9, h10, h11, h12, h13, h14, h15, h16, h17, h18, h19, h20, h21, h22, h23, h24, h25, h26, h27, fun _ => rfl, h29, h30, h31, h32, h33, h34, h35, h36, h37, h38, h39, h40, h41, hB, hF⟩
              · obtain rfl := Option.some.inj hi
                clear hi hil
                have d14 := h14 (hall ⟨14, .guard⟩ (by simp) rfl)
                refine StepOk.off 14 true rfl rfl d14 ?_
                exact ⟨undef, rfl, h0, h1, h2, h3, h4, h5, h6, h7, h8, h9, h10, h11, h12, h13, h14, h15, h16, h17, h18, h19, h20, h21, h22, h23, h24, h25, h26, h27, h28, fun _ => rfl, h30, h31, h32, h33, h34, h35, h36, h37, h38, h39, h40, h41, hB, hF⟩
              · obtain rfl := Option.some.inj hi
                clear hi hil
                have d14 := h14 (hall ⟨14, .guard⟩ (by simp) rfl)
                refine StepOk.off 14 true rfl rfl d14 ?_
                exact ⟨undef, rfl, h0, h1, h2, h3, h4, h5, h6, h7, h8, h9, h10, h11, h12, h13, h14, h15, h16, h17, h18, h19, h20, h21, h22, h23, h24, h25, h26, h27, h28, h29, fun _ => rfl, h31, h32, h33, h34, h35, h36, h37, h38, h39, h40, h41, hB, hF⟩
              · obtain rfl := Option.some.inj hi
                clear hi hil
                have d14 := h14 (hall ⟨14, .guard⟩ (by simp) rfl)
                refine StepOk.off 14 true rfl rfl d14 ?_
                exact ⟨undef, rfl, h0, h1, h2, h3, h4, h5, h6, h7, h8, h9, h10, h11, h12, h13, h14, h15, h16, h17, h18, h19, h20, h21, h22, h23, h24, h25, h26, h27, h28, h29, h30, fun _ => rfl, h32, h33, h34, h35, h36, h37, h38, h39, h40, h41, hB, hF⟩
              · obtain rfl := Option.some.inj hi
                clear hi hil
                have d14 := h14 (hall ⟨14, .guard⟩ (by simp) rfl)
                refine StepOk.off 14 true rfl rfl d14 ?_
                exact ⟨undef, rfl, h0, h1, h2, h3, h4, h5, h6, h7, h8, h9, h10, h11, h12, h13, h14, h15, h16, h17, h18, h19, h20, h21, h22, h23, h24, h25, h26, h27, h28, h29, h30, h31, fun _ => rfl, h33, h34, h35, h36, h37, h38, h39, h40, h41, hB, hF⟩
              · obtain rfl := Option.some.inj hi
                clear hi hil
                have d14 := h14 (hall ⟨14, .guard⟩ (by simp) rfl)
                refine StepOk.off 14 true rfl rfl d14 ?_
                exact ⟨undef, rfl, h0, h1, h2, h3, h4, h5, h6, h7, h8, h9, h10, h11, h12, h13, h14, h15, h16, h17, h18, h19, h20, h21, h22, h23, h24, h25, h26, h27, h28, h29, h30, h31, h32, fun _ => rfl, h34, h35, h36, h37, h38, h39, h40, h41, hB, hF⟩
              · obtain rfl := Option.some.inj hi
                clear hi hil
                have d14 := h14 (hall ⟨14, .guard⟩ (by simp) rfl)
                refine StepOk.off 14 true rfl rfl d14 ?_
                exact ⟨undef, rfl, h0, h1, h2, h3, h4, h5, h6, h7, h8, h9, h10, h11, h12, h13, h14, h15, h16, h17, h18, h19, h20, h21, h22, h23, h24, h25, h26, h27, h28, h29, h30, h31, h32, h33, fun _ => rfl, h35, h36, h37, h38, h39, h40, h41, hB, hF⟩
              · obtain rfl := Option.some.inj hi
                clear hi hil
                have d14 := h14 (hall ⟨14, .guard⟩ (by simp) rfl)
                refine StepOk.off 14 true rfl rfl d14 ?_
                exact ⟨undef, rfl, h0, h1, h2, h3, h4, h5, h6, h7, h8, h9, h10, h11, h12, h13, h14, h15, h16, h17, h18, h19, h20, h21, h22, h23, h24, h25, h26, h27, h28, h29, h30, h31, h32, h33, h34, fun _ => rfl, h36, h37, h38, h39, h40, h41, hB, hF⟩
              · obtain rfl := Option.some.inj hi
                clear hi hil
                have d14 := h14 (hall ⟨14, .guard⟩ (by simp) rfl)
                refine StepOk.off 14 true rfl rfl d14 ?_
                exact ⟨undef, rfl, h0, h1, h2, h3, h4, h5, h6, h7, h8, h9, h10, h11, h12, h13, h14, h15, h16, h17, h18, h19, h20, h21, h22, h23, h24, h25, h26, h27, h28, h29, h30, h31, h32, h33, h34, h35, fun _ => rfl, h37, h38, h39, h40, h41, hB, hF⟩
              · obtain rfl := Option.some.inj hi
                clear hi hil
                have d14 := h14 (hall ⟨14, .guard⟩ (by simp) rfl)
                refine StepOk.off 14 true rfl rfl d14 ?_
                exact ⟨undef, rfl, h0, h1, h2, h3, h4, h5, h6, h7, h8, h9, h10, h11, h12, h13, h14, h15, h16, h17, h18, h19, h20, h21, h22, h23, h24, h25, h26, h27, h28, h29, h30, h31, h32, h33, h34, h35, h36, fun _ => rfl, h38, h39, h40, h41, hB, hF⟩
              · obtain rfl := Option.some.inj hi
                clear hi hil
                have d14 := h14 (hall ⟨14, .guard⟩ (by simp) rfl)
                refine StepOk.off 14 true rfl rfl d14 ?_
                exact ⟨undef, rfl, h0, h1, h2, h3, h4, h5, h6, h7, h8, h9, h10, h11, h12, h13, h14, h15, h16, h17, h18, h19, h20, h21, h22, h23, h24, h25, h26, h27, h28, h29, h30, h31, h32, h33, h34, h35, h36, h37, fun _ => rfl, h39, h40, h41, hB, hF⟩
              · obtain rfl := Option.some.inj hi
                clear hi hil
                have d14 := h14 (hall ⟨14, .guard⟩ (by simp) rfl)
                refine StepOk.off 14 true rfl rfl d14 ?_
                exact ⟨undef, rfl, h0, h1, h2, h3, h4, h5, h6, h7, h8, h9, h10, h11, h12, h13, h14, h15, h16, h17, h18, h19, h20, h21, h22, h23, h24, h25, h26, h27, h28, h29, h30, h31, h32, h33, h34, h35, h36, h37, h38, fun _ => rfl, h40, h41, hB, hF⟩
              · obtain rfl := Option.some.inj hi
                clear hi hil
                have d14 := h14 (hall ⟨14, .data⟩ (by simp) rfl)
                have d39 := h39 (hall ⟨39, .data⟩ (by simp) rfl)
                have d8 := h8 (hall ⟨8, .guard⟩ (by simp) rfl)
                refine StepOk.on 8 false rfl rfl d8 (fun K hK => ?_)
                have HKK := Lib.hid hK; clear hK
                simp only [putAll, Act.put, List.setIfInBounds_toArray, List.set_cons_zero, List.set_cons_succ]
                go_simp
                exact HKK.out _ _ ⟨_, by simp only [putAll, Act.put, List.setIfInBounds_toArray, List.set_cons_zero, List.set_cons_succ, d14, d39, d8] <;> rfl, h0, h1, h2, h3, h4, h5, h6, h7, h8, h9, h10, h11, h12, h13, h14, h15, h16, h17, h18, h19, h20, h21, h22, h23, h24, h25, h26, h27, h28, h29, h30, h31, h32, h33, h34, h35, h36, h37, h38, h39, fun _ => rfl, h41, hB, hF⟩
              · obtain rfl := Option.some.inj hi
                clear hi hil
                have d8 := h8 (hall ⟨8, .data⟩ (by simp) rfl)
                have d40 := h40 (hall ⟨40, .data⟩ (by simp) rfl)
                refine StepOk.plain rfl (fun K hK => ?_)
                have HKK := Lib.hid hK; clear hK
                simp only [putAll, Act.put, List.setIfInBounds_toArray, List.set_cons_zero, List.set_cons_succ]
                go_simp
                exact HKK.out _ _ ⟨_, by simp only [putAll, Act.put, List.setIfInBounds_toArray, List.set_cons_zero, List.set_cons_succ, d8, d40] <;> rfl, h0, h1, h2, h3, h4, h5, h6, h7, h8, h9, h10, h11, h12, h13, h14, h15, h16, h17, h18, h19, h20, h21, h22, h23, h24, h25, h26, h27, h28, h29, h30, h31, h32, h33, h34, h35, h36, h37, h38, h39, h40, fun _ => rfl, hB, hF⟩
              · omega
            · rintro b' vs w2 hall ⟨h0, h1, h2, h3, h4, h5, h6, h7, h8, h9, h10, h11, h12, h13, h14, h15, h16, h17, h18, h19, h20, h21, h22, h23, h24, h25, h26, h27, h28, h29, h30, h31, h32, h33, h34, h35, h36, h37, h38, h39, h40, h41, hB, hF⟩
              have d0 := h0 (hall 0 (by simp))
              have d1 := h1 (hall 1 (by simp))
              have d2 := h2 (hall 2 (by simp))
              have d3 := h3 (hall 3 (by simp))
              have d4 := h4 (hall 4 (by simp))
              have d5 := h5 (hall 5 (by simp))
              have d6 := h6 (hall 6 (by simp))
              have d7 := h7 (hall 7 (by simp))
              have d8 := h8 (hall 8 (by simp))
              have d9 := h9 (hall 9 (by simp))
              have d10 := h10 (hall 10 (by simp))
              have d11 := h11 (hall 11 (by simp))
              have d12 := h12 (hall 12 (by simp))
              have d13 := h13 (hall 13 (by simp))
              have d14 := h14 (hall 14 (by simp))
              have d15 := h15 (hall 15 (by simp))
              have d16 := h16 (hall 16 (by simp))
              have d17 := h17 (hall 17 (by simp))
              have d18 := h18 (hall 18 (by simp))
              have d19 := h19 (hall 19 (by simp))
              have d20 := h20 (hall 20 (by simp))
              have d21 := h21 (hall 21 (by simp))
              have d22 := h22 (hall 22 (by simp))
              have d23 := h23 (hall 23 (by simp))
              have d24 := h24 (hall 24 (by simp))
              have d25 := h25 (hall 25 (by simp))
              have d26 := h26 (hall 26 (by simp))
              have d27 := h27 (hall 27 (by simp))
              have d28 := h28 (hall 28 (by simp))
              have d29 := h29 (hall 29 (by simp))
              have d30 := h30 (hall 30 (by simp))
              have d31 := h31 (hall 31 (by simp))
              have d32 := h32 (hall 32 (by simp))
              have d33 := h33 (hall 33 (by simp))
              have d34 := h34 (hall 34 (by simp))
              have d35 := h35 (hall 35 (by simp))
              have d36 := h36 (hall 36 (by simp))
              have d37 := h37 (hall 37 (by simp))
              have d38 := h38 (hall 38 (by simp))
              have d39 := h39 (hall 39 (by simp))
              have d40 := h40 (hall 40 (by simp))
              have d41 := h41 (hall 41 (by simp))
              have BB := hB
              have FF := hF
              simp only [putAll, Act.put, List.setIfInBounds_toArray, List.set_cons_zero, List.set_cons_succ, d0, d1, d2, d3, d4, d5, d6, d7, d8, d9, d10, d11, d12, d13, d14, d15, d16, d17, d18, d19, d20, d21, d22, d23, d24, d25, d26, d27, d28, d29, d30, d31, d32, d33, d34, d35, d36, d37, d38, d39, d40, d41]
              clear hall h0 d0 h1 d1 h2 d2 h3 d3 h4 d4 h5 d5 h6 d6 h7 d7 h8 d8 h9 d9 h10 d10 h11 d11 h12 d12 h13 d13 h14 d14 h15 d15 h16 d16 h17 d17 h18 d18 h19 d19 h20 d20 h21 d21 h22 d22 h23 d23 h24 d24 h25 d25 h26 d26 h27 d27 h28 d28 h29 d29 h30 d30 h31 d31 h32 d32 h33 d33 h34 d34 h35 d35 h36 d36 h37 d37 h38 d38 h39 d39 h40 d40 h41 d41 hB hF
              go_wp2_with fail
              go_meet
              exact ⟨rfl, FF.out⟩
        case rest =>
          obtain ⟨rfl, hL⟩ := hcut
          have S3 : Hid (LRM w b wc g3 g5 ao n c cl h cap) := hL
          have kl := S3.out.sub
          have s0 : wc.cell? ⟨g3, 0, none⟩ = some (.slice ao n c) := kl.cell 0
          have s1 : wc.cell? ⟨g3, 1, none⟩ = some (.bool cl) := kl.cell 1
          have a3 : wc.cell? ⟨w.heap.size, 3, none⟩ = some (.int .i64 cap) := S3.out.arg.cell 3
          clear hL kl
          go_wp2_with fail
          refine (HST.out _ S3.out.below).mono ?_
          rintro e w4 ⟨v4, S, rfl, p4, e4, b4⟩
          have P4 := Lib.hid p4
          have E4 := Lib.hid e4
          have S4 : Hid (LRM w b w4 g3 g5 ao n c cl h cap) := S3.out.grow b4
          obtain ⟨q, hq⟩ : ∃ q, S.length = q := ⟨_, rfl⟩
          have HQ := Lib.hid hq
          obtain ⟨a4, c4, rfl⟩ : ∃ a c, v4 = .slice a q c := by rw [← hq]; exact polys_shape p4
          clear p4 e4 b4 s0 s1 a3 hq
          by_cases hz : z = 0
          · subst hz
            have HALL := Lib.hid (HPP.out rfl)
            have kl := S4.out.sub
            have s0 : w4.cell? ⟨g3, 0, none⟩ = some (.slice ao n c) := kl.cell 0
            clear kl
            have HB1 := Lib.hid (HBD.out HALL.out.1 w4 S4.out.below)
            go_wp2_with fail
            refine HB1.out.mono ?_
            rintro e w5 ⟨rfl, hb5⟩
            have B5 := Lib.hid hb5
            clear hb5 s0
            go_wp2_with fail
            refine ((HRB.out HALL.out.1) w5).mono ?_
            rintro e w6 ⟨rfl, hb6⟩
            have B6 : Hid (Below w4.heap.size w4 w6) := below_next B5.out hb6
            clear hb6
            go_wp2_with fail
            obtain ⟨g10, hg10⟩ : ∃ g, w6.heap.size = g := ⟨_, rfl⟩
            obtain ⟨W, hW⟩ : ∃ W, w6.alloc (.cells #[.int .i64 r.x0, .int .i64 r.y0, .int .i64 r.x1, .int .i64 r.y1] 51) = W := ⟨_, rfl⟩
            have BW : Hid (Below w4.heap.size w4 W) := by rw [← hW]; exact below_next B6.out ((Below.refl _ _).alloc (Nat.le_refl _) _)
            have KW : Hid (Blk W g10 51 (four r)) := by rw [← hW]; exact Blk.newAt _ _ _ hg10
            have PW := Lib.hid (P4.out.grow BW.out)
            have BBW : Hid (Below w.heap.size w W) := below_next S4.out.below BW.out
            rw [hW, hg10]
            clear hW hg10
            have hq3 : q ≤ 9223372036854775807 := by have := (own_lim P4.out.row); have := HQ.out; unfold maxLen at *; omega
            go_loopw [124] (fun i wr => ∃ k : Nat, k ≤ q ∧ i = .int .i64 k ∧ Hid (Below W.heap.size W wr)) (fun i _ => q - (intOf i).toNat)
            case atStart => exact ⟨0, by omega, rfl, Below.refl _ _⟩
            case round =>
              obtain ⟨k, hk, rfl, hw⟩ := hrel
              by_cases hlt : k < q
              · have hd : decide ((k : Int) < (q : Int)) = true := by simp; omega
                obtain ⟨⟨vk, Lk⟩, hx⟩ : ∃ x, S[k]? = some x := ⟨_, List.getElem?_eq_getElem (by rw [HQ.out]; exact hlt)⟩
                have PR := Lib.hid (PW.out.grow hw.out)
                have OK := Lib.hid (PR.out.own _ (List.mem_of_getElem? hx))
                have HX := Lib.hid (HALL.out.2 Lk (by rw [← E4.out]; exact List.mem_map.2 ⟨_, List.mem_of_getElem? hx, rfl⟩))
                obtain ⟨g4, rfl, hg4, c0⟩ := polys_cell PR.out (HQ.out) hx
                simp only at OK c0
                obtain ⟨ak, nk, ck, rfl⟩ := own_shape' OK.out
                have RK := Lib.hid (OK.out.row)
                have hnk : Hid (Lk.length = nk) := own_len OK.out
                have hlk : Hid (nk ≤ 9223372036854775807) := by have := own_lim OK.out; have := hnk.out; unfold maxLen at *; unfold Hid; omega
                clear hx
                have hnk2 := hlk.out
                obtain ⟨wx, rfl⟩ : ∃ x, x = wr := ⟨_, rfl⟩
                go_wp2_with fail
                go_loopw [130] (fun i wr => ∃ m : Nat, m ≤ nk ∧ i = .int .i64 m ∧ Hid (Below wx.heap.size wx wr)) (fun i _ => nk - (intOf i).toNat)
                case atStart => exact ⟨0, by omega, rfl, Below.refl _ _⟩
                case round =>
                  obtain ⟨m, hm, rfl, hv⟩ := hrel
                  by_cases hlt2 : m < nk
                  · have hd2 : decide ((m : Int) < (nk : Int)) = true := by simp; omega
                    have hne : Lk ≠ [] := fun e => by have := hnk.out; rw [e] at this; simp at this; omega
                    obtain ⟨bk, ok, ck', hbe⟩ := RK.out.some hne
                    cases hbe
                    obtain ⟨⟨px, py⟩, hp⟩ : ∃ p, Lk[m]? = some p := ⟨_, List.getElem?_eq_getElem (by rw [hnk.out]; exact hlt2)⟩
                    obtain ⟨x0, x1⟩ := (RK.out.on hv.out).pts hp
                    have HH := Lib.hid (has_c r px py)
                    rw [HX.out (px, py) (List.mem_of_getElem? hp)] at HH
                    have kr := KW.out.grow (below_next hw.out hv.out)
                    have t0 := kr.b0
                    have t1 := kr.b1
                    have t2 := kr.b2
                    have t3 := kr.b3
                    have t4 := kr.lt
                    simp only at x0 x1
                    clear hp hne kr
                    go_wp2_with fail
                    refine (HH.out _).mono ?_
                    rintro e w8 ⟨rfl, hb8⟩
                    have B8 : Hid (Below wx.heap.size wx w8) := below_next hv.out (below_next ((Below.refl _ _).alloc (Nat.le_refl _) _) hb8)
                    clear hb8 t0 t1 t2 t3 t4 x0 x1
                    go_wp2_with fail
                    exact ⟨⟨m + 1, by omega, by go_num, B8.out⟩, by simp [intOf]; omega⟩
                  · have hd2 : decide ((m : Int) < (nk : Int)) = false := by simp; omega
                    go_wp2_with fail
                    exact ⟨⟨k + 1, by omega, by go_num, below_next hw.out hv.out⟩, by simp [intOf]; omega⟩
              · have hd : decide ((k : Int) < (q : Int)) = false := by simp; omega
                go_wp2_with fail
                refine (HAW.out _).mono ?_
                rintro e w9 ⟨rfl, hb9⟩
                have B9 : Hid (Below w.heap.size w w9) := below_next (below_next BBW.out hw.out) hb9
                clear hb9
                go_wp2_with fail
                go_ret
                exact ⟨rfl, B9.out⟩
          · go_wp2_with fail
            refine (HAW.out _).mono ?_
            rintro e w9 ⟨rfl, hb9⟩
            have B9 : Hid (Below w.heap.size w w9) := below_next S4.out.below hb9
            clear hb9
            go_wp2_with fail
            go_ret
            exact ⟨rfl, B9.out⟩
theorem row_len {w : World} {ao : Option Addr} {n c : Nat} {l : List Pt} (h : Row w (.slice ao n c) l) : l.length = n := by
  rcases h with ⟨e, rfl⟩ | ⟨a, c', e, rfl⟩ | ⟨b, o, c', e, _, _⟩
  · cases e; rfl
  · cases e; rfl
  · cases e; rfl
theorem strokeOut_zero {l : List Pt} {cl : Bool} {h cap : Int} (hz : (strokeOut l cl h cap).1 = 0) : penB h = true ∧ l.all roomP = true := by
  unfold strokeOut at hz
  split at hz
  · rename_i hc
    simp only [Bool.and_eq_true] at hc
    exact ⟨hc.1.1, hc.2⟩
  · cases hz
theorem bound_I64 {l : List Pt} (hr : l.all roomP = true) : I64 (boundI l).x0 ∧ I64 (boundI l).y0 ∧ I64 (boundI l).x1 ∧ I64 (boundI l).y1 := by
  by_cases hne : l = []
  · subst hne
    refine ⟨?_, ?_, ?_, ?_⟩ <;> exact ⟨by decide, by decide⟩
  · have T := tight_bound l hne
    obtain ⟨p0, m0, e0⟩ := T.s0
    obtain ⟨p1, m1, e1⟩ := T.s1
    obtain ⟨p2, m2, e2⟩ := T.s2
    obtain ⟨p3, m3, e3⟩ := T.s3
    have r : ∀ q ∈ l, roomP q = true := fun q hq => List.all_eq_true.1 hr q hq
    have r0 := roomP_iff.1 (r p0 m0)
    have r1 := roomP_iff.1 (r p1 m1)
    have r2 := roomP_iff.1 (r p2 m2)
    have r3 := roomP_iff.1 (r p3 m3)
    exact ⟨⟨by omega, by omega⟩, ⟨by omega, by omega⟩, ⟨by omega, by omega⟩, ⟨by omega, by omega⟩⟩
theorem strokeReach_c (ao : Option Addr) (n c : Nat) (l : List Pt) (cl : Bool) (h cap x0 y0 x1 y1 : Int) (w : World) (hr : Rd w) (hrow : Row w (.slice ao n c) l ∧ n ≤ c) (hI : I64 x0 ∧ I64 y0 ∧ I64 x1 ∧ I64 y1) :
    Calls Tryd.prog 6 #[.agg #[.slice ao n c, .bool cl, .int .i64 h, .int .i64 cap, .int .i64 x0, .int .i64 y0, .int .i64 x1, .int .i64 y1]] w fun e w' => e = .returned (.bool true) ∧ Below w.heap.size w w' := by
  have HAW := Lib.hid (fun w => awake_c w)
  have row := hrow.1
  have hlen := row_len row
  obtain ⟨hx0, hy0, hx1, hy1⟩ := hI
  by_cases hn : n > 20
  · exact reach_many ao n c cl h cap ⟨x0, y0, x1, y1⟩ w HAW hn
  by_cases h1 : h < 1
  · exact reach_low ao n c cl h cap ⟨x0, y0, x1, y1⟩ w HAW hn h1
  by_cases h2 : h > 32768
  · exact reach_high ao n c cl h cap ⟨x0, y0, x1, y1⟩ w HAW hn h1 h2
  have hh : 1 ≤ h ∧ h ≤ 32768 := by omega
  have nid : ∀ x : Int, -9223372036854775808 ≤ x → x ≤ 9223372036854775807 → nearI x = x := fun x a b => by unfold nearI; rw [if_pos (fits_iff.2 ⟨a, b⟩)]
  refine reach_main ao n c cl h cap ⟨x0, y0, x1, y1⟩ w HAW hn h1 h2 (emptyI ⟨x0, y0, x1, y1⟩) _ (boundI l) rfl rfl (Lib.hid ?_) (x0 - 2 * h) (y0 - 2 * h) (x1 + 2 * h) (y1 + 2 * h) (2 * h) (Lib.hid ?_) (strokeOut l cl h cap).1 (strokeOut l cl h cap).2 (reachI (boundI l) h) l (Lib.hid fun w' hb => ?_) (Lib.hid fun hz => ?_) (Lib.hid fun ha w' hb => ?_) (Lib.hid fun ha w' => ?_)
  · intro he w'
    have k := reach_c ⟨x0, y0, x1, y1⟩ h hh hx0 hy0 hx1 hy1 w'
    unfold reachI at k
    rw [if_pos he] at k
    exact k
  · intro he hs
    have k := reach_c ⟨x0, y0, x1, y1⟩ h hh hx0 hy0 hx1 hy1
    unfold reachI at k
    rw [if_neg (by rw [he]; decide)] at k
    have he2 : ¬ x0 ≥ x1 ∧ ¬ y0 ≥ y1 := by
      simp only [emptyI, Bool.or_eq_false_iff, decide_eq_false_iff_not] at he
      exact he
    simp only [Bool.and_eq_true, decide_eq_true_eq] at hs
    simp only at k
    rw [nid _ (by omega) (by omega), nid _ (by omega) (by omega), nid _ (by omega) (by omega), nid _ (by omega) (by omega)] at k
    exact ⟨k, by unfold Hid; rw [wrap_is]; exact wrapR _ (by omega) (by omega), wrapR _ (by omega) (by omega), wrapR _ (by simp only; omega) (by simp only; omega), wrapR _ (by simp only; omega) (by simp only; omega), wrapR _ (by simp only; omega) (by simp only; omega), wrapR _ (by simp only; omega) (by simp only; omega)⟩
  · exact stroke_c _ l cl h cap w' (row.on hb) (hr.on hb) (by omega)
  · obtain ⟨_, ha⟩ := strokeOut_zero hz
    exact ⟨ha, reach_all hh ha⟩
  · exact bound_c _ l w' (by omega) (row.on hb) ha
  · obtain ⟨i1, i2, i3, i4⟩ := bound_I64 ha
    exact reach_c (boundI l) h hh i1 i2 i3 i4 w'
end Go.Proofs.YtdidbejinfkhbaaDoor
