/- Layer 14: package store: save. -/
import Derived.Test.YtdcjchakgfpgaaaMi
namespace Go.Proofs.Ytdcjchakgfpgaaa
open Go.RowKit
/-- A store and its disk changed: nothing else, but for new memory. -/
structure ToS (T : Nat → Prop) (a : Nat) (w : World) (T' : Nat → Prop) (w' : World) : Prop where
  keep : Keep (fun k => ¬ T k ∧ k ≠ a) w w'
  new : ∀ k, T' k → T k ∨ w.heap.size ≤ k
theorem ToS.of_below {T : Nat → Prop} {a : Nat} {w w' : World} (hb : Below w.heap.size w w') : ToS T a w T w' := ⟨Keep.of_below hb, fun _ h => .inl h⟩
theorem ToS.of_to {T T' : Nat → Prop} {a : Nat} {w w' : World} (h : To T w T' w') : ToS T a w T' w' := ⟨h.keep.mono fun _ hk => hk.1, h.new⟩
theorem ToS.trans {T T' T'' : Nat → Prop} {a : Nat} {w w' w'' : World} (h : ToS T a w T' w') (k : ToS T' a w' T'' w'') : ToS T a w T'' w'' := by
  refine ⟨⟨k.keep.os.trans h.keep.os, k.keep.tape.trans h.keep.tape, k.keep.output.trans h.keep.output, Nat.le_trans h.keep.size k.keep.size, fun q hq hl => ?_⟩, fun q hq => ?_⟩
  · rw [k.keep.block q ⟨fun hT => (h.new q hT).elim hq.1 (fun h2 => by omega), hq.2⟩ (Nat.lt_of_lt_of_le hl h.keep.size), h.keep.block q hq hl]
  · rcases k.new q hq with h1 | h1
    · exact h.new q h1
    · exact .inr (Nat.le_trans h.keep.size h1)
theorem blk_far {w : World} {g a : Nat} {T : Nat → Prop} {t : TypeId} {cs : Array Value} (_h : Blk w a t cs) (hn : ¬ T a) (hg : T g) : a ≠ g := fun e => hn (e ▸ hg)
/-- What is no part of the disk is none behind a change of it. -/
theorem To.off {T T' : Nat → Prop} {w w' : World} (h : To T w T' w') {k : Nat} (hk : ¬ T k) (hl : k < w.heap.size) : ¬ T' k := fun hT => (h.new k hT).elim hk (fun h2 => by omega)
theorem SAt.to {T T' : Nat → Prop} {w w' : World} {a g : Nat} {h : Hd} {sv : Value} {D : List Int} {f : Bool} (s : SAt T w a g h sv D f) (ht : To T w T' w') : SAt T' w' a g h sv D f :=
  ⟨ht.keep.blk s.blk s.offA, owns_keep s.all ht.keep s.offS, ht.off s.offA s.blk.lt, fun k e => ht.off (s.offS k e) (World.ownsRow.lt s.all k e).2⟩
theorem own_to {T T' : Nat → Prop} {w w' : World} {sv : Value} {D : List Int} (own : OwnB w 0 sv D) (off : ∀ k, sv.ownBlock = some k → ¬ T k) (ht : To T w T' w') : OwnB w' 0 sv D ∧ ∀ k, sv.ownBlock = some k → ¬ T' k :=
  ⟨owns_keep own ht.keep off, fun k e => ht.off (off k e) (World.ownsRow.lt own k e).2⟩
/-- The struct's cells written, all else as it was. -/
theorem SAt.write {T : Nat → Prop} {w w' : World} {a g : Nat} {h h' : Hd} {sv sv' : Value} {D D' : List Int} {f f' : Bool} (s : SAt T w a g h sv D f) (hb : Blk w' a 73 (cellsS g h' sv' f')) (hk : Keep (fun k => k ≠ a) w w') (own : OwnB w 0 sv' D') (off : ∀ k, sv'.ownBlock = some k → ¬ T k) : SAt T w' a g h' sv' D' f' :=
  ⟨hb, owns_keep own hk fun k e => fun he => owns_off own s.blk (by decide) (he ▸ e), s.offA, off⟩
theorem Blk.fail {w : World} {a g : Nat} {h : Hd} {sv : Value} {f : Bool} (b : Blk w a 73 (cellsS g h sv f)) : Blk (w.setCell ⟨a, 6, none⟩ (.bool true)) a 73 (cellsS g h sv true) := b.set 6 _
theorem Blk.saved {w : World} {a g : Nat} {h : Hd} {sv : Value} {f : Bool} (b : Blk w a 73 (cellsS g h sv f)) (h' : Hd) (sv' : Value) : Blk (((((w.setCell ⟨a, 1, none⟩ (.int .i64 h'.gen)).setCell ⟨a, 2, none⟩ (.int .i64 h'.half)).setCell ⟨a, 3, none⟩ (.int .i64 h'.snap)).setCell ⟨a, 4, none⟩ (.int .i64 h'.log)).setCell ⟨a, 5, none⟩ sv') a 73 (cellsS g h' sv' f) := ((((b.set 1 _).set 2 _).set 3 _).set 4 _).set 5 _
theorem keep_saved (w : World) (a : Nat) (x y z t u : Value) : Keep (fun k => k ≠ a) w (((((w.setCell ⟨a, 1, none⟩ x).setCell ⟨a, 2, none⟩ y).setCell ⟨a, 3, none⟩ z).setCell ⟨a, 4, none⟩ t).setCell ⟨a, 5, none⟩ u) :=
  ((((Keep.setCell _ _ _ (by simp)).trans (Keep.setCell _ _ _ (by simp))).trans (Keep.setCell _ _ _ (by simp))).trans (Keep.setCell _ _ _ (by simp))).trans (Keep.setCell _ _ _ (by simp))
set_option maxHeartbeats 4000000 in
set_option maxRecDepth 100000 in
theorem ssave_down {T : Nat → Prop} {w : World} {a g : Nat} {h0 : Hd} {sv0 : Value} {D0 : List Int} (h : Hd) (sv : Value) (i0 : Int) (s : SAt T w a g h0 sv0 D0 true) : Calls Try.prog 38 #[ptrD a, hdV h, sv, .int .i64 i0] w fun e w' => e = .returned (.int .i64 40) ∧ Below w.heap.size w w' := by
  obtain ⟨w1, hw1⟩ : ∃ WW, w.alloc (.cells (hdC h) 23) = WW := ⟨_, rfl⟩
  have H1 : Hid (Below w.heap.size w w1) := (hd_cells (h := h) hw1).1
  obtain ⟨c0, c1, c2, c3, c4, c5, c6⟩ := (s.blk.grow H1.out).s7
  clear s
  go_enter Try.func38, Try.ntmps38
  go_upto_region 1 with fail
  try rw [hw1]
  clear hw1
  go_wp2_with fail
  go_ret
  exact ⟨rfl, H1.out⟩
set_option maxHeartbeats 4000000 in
set_option maxRecDepth 100000 in
theorem ssave_c (T : Nat → Prop) (w : World) (a g : Nat) (d : DM) (h0 : Hd) (sv0 : Value) (D0 : List Int) (h : Hd) (sv : Value) (D : List Int) (i0 n : Nat) (m : Int) (hd : At12 T w g d) (ok : OkD d m) (hm : m + n + 3 ≤ 1000) (s : SAt T w a g h0 sv0 D0 false) (own : OwnB w 0 sv D) (off : ∀ k, sv.ownBlock = some k → ¬ T k)
    (h4 : 4 ≤ d.sectors) (h32 : 32 ≤ d.size) (hD : OkB D) (hl : D.length ≤ 31000) (hg : 0 ≤ h.gen ∧ h.gen ≤ 1000000) (hh : 0 ≤ h.half ∧ h.half ≤ 1) (hs : 0 ≤ h.snap ∧ h.snap ≤ 2000000) (hlg : 0 ≤ h.log ∧ h.log ≤ 2000000)
    (hi0 : i0 * d.size.toNat ≤ D.length) (hn1 : ∀ k, k < n → (i0 + k) * d.size.toNat < D.length) (hn2 : D.length ≤ (i0 + n) * d.size.toNat) (r : DM × Int) (hr : writeM d ⟨h.gen + 1, h.half, h.snap, h.log⟩ D i0 n = r) :
    Calls Try.prog 38 #[ptrD a, hdV h, sv, .int .i64 (i0 : Int)] w fun e w' => ∃ T', e = .returned (.int .i64 r.2) ∧ At12 T' w' g r.1 ∧ ToS T a w T' w' ∧ (r.2 = 0 → SAt T' w' a g ⟨h.gen + 1, h.half, h.snap, h.log⟩ sv D false) ∧ (r.2 ≠ 0 → SAt T' w' a g h0 sv0 D0 true) := by
  obtain ⟨so, sc, hsv⟩ := own.shape
  obtain ⟨L, hL⟩ : ∃ L, D.length = L := ⟨_, rfl⟩
  rw [hL] at hsv
  subst hsv
  obtain ⟨G, hG⟩ : ∃ G, w.heap.size = G := ⟨_, rfl⟩
  obtain ⟨w1, hw1⟩ : ∃ WW, w.alloc (.cells (hdC h) 23) = WW := ⟨_, rfl⟩
  have H1 : Hid (Below w.heap.size w w1 ∧ Blk w1 G 23 (hdC h)) := by rw [← hG]; exact hd_cells (h := h) hw1
  have HAG : Hid (a ≠ G ∧ ¬ T G ∧ ∀ k, (Value.slice so L sc).ownBlock = some k → k ≠ G) := by
    rw [← hG]
    exact ⟨Nat.ne_of_lt s.blk.lt, fun hT => Nat.lt_irrefl _ (at_lt hd hT), fun k e => Nat.ne_of_lt (World.ownsRow.lt own k e).2⟩
  obtain ⟨c0, c1, c2, c3, c4, c5, c6⟩ := (s.blk.grow H1.out.1).s7
  have b0 : w1.cell? ⟨G, 0, none⟩ = some (.int .i64 h.gen) := H1.out.2.cell 0
  have f0 := H1.out.2.free 0
  have hlt := H1.out.2.lt
  obtain ⟨g1, hg1⟩ : ∃ x, h.gen + 1 = x := ⟨_, rfl⟩
  have hgw : wrap64 (h.gen + 1) = g1 := by rw [← hg1]; exact wrapR _ (by omega) (by omega)
  rw [hg1] at hr ⊢
  have H2 : Hid (Below w.heap.size w (w1.setCell ⟨G, 0, none⟩ (.int .i64 g1)) ∧ Blk (w1.setCell ⟨G, 0, none⟩ (.int .i64 g1)) G 23 (hdC ⟨g1, h.half, h.snap, h.log⟩)) := ⟨H1.out.1.setCell (by rw [hG]; exact Nat.le_refl _) _, H1.out.2.set 0 _⟩
  have HH := Lib.hid (And.intro hd (And.intro s (And.intro own off)))
  have HALT : Hid (a < w.heap.size) := s.blk.lt
  have HWR0 : Hid (∀ W, Below w.heap.size w W → Calls Try.prog 48 #[ptrD g, hdV ⟨g1, h.half, h.snap, h.log⟩, (Value.slice so L sc), .int .i64 (i0 : Int)] W fun e w' => ∃ T', e = .returned (.int .i64 r.2) ∧ At12 T' w' g r.1 ∧ To T W T' w') := fun W hW => by
    rw [← hr]
    exact swrite_c T W g d ⟨g1, h.half, h.snap, h.log⟩ (Value.slice so L sc) D i0 n m (at_grow HH.out.1 hW) ok hm (HH.out.2.2.1.grow hW) HH.out.2.2.2 h4 h32 hD hl ⟨by dsimp only; omega, by dsimp only; omega⟩ hh hs hlg hi0 hn1 hn2
  have HGX : Hid (g1 = g1) := rfl
  clear hd ok hm s own off h4 h32 hD hl hg hh hs hlg hi0 hn1 hn2 hr hg1
  go_enter Try.func38, Try.ntmps38
  go_upto_region 1 with fail
  try rw [hw1]
  try rw [hG]
  clear hw1 hG
  go_upto_region 4 with fail
  obtain ⟨w2, hw2⟩ : ∃ WW, w1.setCell ⟨G, 0, none⟩ (.int .i64 g1) = WW := ⟨_, rfl⟩
  rw [hw2] at H2 ⊢
  clear hw2 c0 c1 c2 c3 c4 c5 c6 b0 f0 hlt hgw
  have HBX : Hid (∀ W, Below w2.heap.size w2 W → W.cell? ⟨a, 0, none⟩ = some (ptrD g) ∧ W.cell? ⟨G, 0, none⟩ = some (.int .i64 g1) ∧ W.cell? ⟨G, 1, none⟩ = some (.int .i64 h.half) ∧ W.cell? ⟨G, 2, none⟩ = some (.int .i64 h.snap) ∧ W.cell? ⟨G, 3, none⟩ = some (.int .i64 h.log)) := fun W hW => ⟨((HH.out.2.1.blk.grow H2.out.1).grow hW).s7.1, (H2.out.2.grow hW).cell 0, (H2.out.2.grow hW).cell 1, (H2.out.2.grow hW).cell 2, (H2.out.2.grow hW).cell 3⟩
  have HWR : Hid (∀ W, Below w2.heap.size w2 W → Calls Try.prog 48 #[ptrD g, hdV ⟨g1, h.half, h.snap, h.log⟩, (Value.slice so L sc), .int .i64 (i0 : Int)] W fun e w' => ∃ T', e = .returned (.int .i64 r.2) ∧ At12 T' w' g r.1 ∧ To T w2 T' w') := fun W hW => by
    refine (HWR0.out W (H2.out.1.trans (hW.mono H2.out.1.size))).mono ?_
    rintro e w' ⟨T', he, ha, ht⟩
    exact ⟨T', he, ha, (To.below hW).trans ht⟩
  refine wp_region_put (by kernel_rfl) (by kernel_rfl) (by kernel_rfl) (fun b' vs w' => (b' 0 = true → vs 0 = .pointer (some ⟨a, 0, none⟩)) ∧ (b' 1 = true → vs 1 = .pointer (some ⟨a, 0, none⟩)) ∧ (b' 2 = true → vs 2 = .pointer (some ⟨a, 0, none⟩)) ∧ (b' 3 = true → vs 3 = ptrD g) ∧ (b' 4 = true → vs 4 = hdV ⟨g1, h.half, h.snap, h.log⟩) ∧ (b' 5 = true → vs 5 = .slice so L sc) ∧ (b' 6 = true → vs 6 = .int .i64 (i0 : Int)) ∧ (b' 7 = false → Hid (Below w2.heap.size w2 w' ∧ w2.heap.size ≤ w'.heap.size)) ∧ (b' 7 = true → Hid (∃ T3, (vs 7) = .int .i64 r.2 ∧ At12 T3 w' g r.1 ∧ To T w2 T3 w')) ∧ (b' 7 = true → b' 3 = true) ∧ (b' 7 = true → b' 4 = true) ∧ (b' 8 = true → b' 7 = true ∧ vs 8 = vs 7)) ?_ ?_ ?_
  · intro vs
    exact ⟨fun h => Bool.noConfusion h, fun h => Bool.noConfusion h, fun h => Bool.noConfusion h, fun h => Bool.noConfusion h, fun h => Bool.noConfusion h, fun h => Bool.noConfusion h, fun h => Bool.noConfusion h, fun _ => Lib.hid ⟨below_drewN (Below.refl _ _) 1, Nat.le_refl _⟩, fun h => Bool.noConfusion h, fun h => Bool.noConfusion h, fun h => Bool.noConfusion h, fun h => Bool.noConfusion h⟩
  · rintro b' vs w' i op hi hun hall ⟨h0, h1, h2, h3, h4, h5, h6, hB, hG, hW3, hW4, hA⟩
    have hil : i < 9 := (List.getElem?_eq_some_iff.1 hi).1
    rcases i with _ | _ | _ | _ | _ | _ | _ | _ | _ | i
    · obtain rfl := Option.some.inj hi
      clear hi hil
      refine wpOp_step rfl (fun K hK => ?_)
      have HKK := Lib.hid hK; clear hK
      simp only [putAll, Act.put, List.setIfInBounds_toArray, List.set_cons_zero, List.set_cons_succ]
      go_simp
      exact HKK.out _ _ ⟨_, by simp only [putAll, Act.put, List.setIfInBounds_toArray, List.set_cons_zero, List.set_cons_succ] <;> rfl, fun _ => rfl, h1, h2, h3, h4, h5, h6, hB, hG, hW3, hW4, hA⟩
    · obtain rfl := Option.some.inj hi
      clear hi hil
      have d0 := h0 (hall ⟨0, .data⟩ (by simp) rfl)
      refine wpOp_step rfl (fun K hK => ?_)
      have HKK := Lib.hid hK; clear hK
      simp only [putAll, Act.put, List.setIfInBounds_toArray, List.set_cons_zero, List.set_cons_succ]
      go_simp
      exact HKK.out _ _ ⟨_, by simp only [putAll, Act.put, List.setIfInBounds_toArray, List.set_cons_zero, List.set_cons_succ, d0] <;> rfl, h0, fun _ => rfl, h2, h3, h4, h5, h6, hB, hG, hW3, hW4, hA⟩
    · obtain rfl := Option.some.inj hi
      clear hi hil
      have d1 := h1 (hall ⟨1, .data⟩ (by simp) rfl)
      refine wpOp_step rfl (fun K hK => ?_)
      have HKK := Lib.hid hK; clear hK
      simp only [putAll, Act.put, List.setIfInBounds_toArray, List.set_cons_zero, List.set_cons_succ]
      go_simp
      exact HKK.out _ _ ⟨_, by simp only [putAll, Act.put, List.setIfInBounds_toArray, List.set_cons_zero, List.set_cons_succ, d1] <;> rfl, h0, h1, fun _ => rfl, h3, h4, h5, h6, hB, hG, hW3, hW4, hA⟩
    · obtain rfl := Option.some.inj hi
      clear hi hil
      have hap : b' 7 = false := by
        cases hz : b' 7 with
        | false => rfl
        | true => exact absurd (hW3 hz) (by rw [hun]; decide)
      have d2 := h2 (hall ⟨2, .data⟩ (by simp) rfl)
      obtain ⟨b0, b1, b2, b3, b4⟩ := HBX.out w' (hB hap).out.1
      refine wpOp_step rfl (fun K hK => ?_)
      have HKK := Lib.hid hK; clear hK
      simp only [putAll, Act.put, List.setIfInBounds_toArray, List.set_cons_zero, List.set_cons_succ]
      go_simp
      exact HKK.out _ _ ⟨_, by simp only [putAll, Act.put, List.setIfInBounds_toArray, List.set_cons_zero, List.set_cons_succ, d2] <;> rfl, h0, h1, h2, fun _ => rfl, h4, h5, h6, hB, hG, fun _ => rfl, hW4, hA⟩
    · obtain rfl := Option.some.inj hi
      clear hi hil
      have hap : b' 7 = false := by
        cases hz : b' 7 with
        | false => rfl
        | true => exact absurd (hW4 hz) (by rw [hun]; decide)
      obtain ⟨b0, b1, b2, b3, b4⟩ := HBX.out w' (hB hap).out.1
      refine wpOp_step rfl (fun K hK => ?_)
      have HKK := Lib.hid hK; clear hK
      simp only [putAll, Act.put, List.setIfInBounds_toArray, List.set_cons_zero, List.set_cons_succ]
      go_simp
      exact HKK.out _ _ ⟨_, by simp only [putAll, Act.put, List.setIfInBounds_toArray, List.set_cons_zero, List.set_cons_succ] <;> rfl, h0, h1, h2, h3, fun _ => rfl, h5, h6, hB, hG, hW3, fun _ => rfl, hA⟩
    · obtain rfl := Option.some.inj hi
      clear hi hil
      refine wpOp_step rfl (fun K hK => ?_)
      have HKK := Lib.hid hK; clear hK
      simp only [putAll, Act.put, List.setIfInBounds_toArray, List.set_cons_zero, List.set_cons_succ]
      go_simp
      exact HKK.out _ _ ⟨_, by simp only [putAll, Act.put, List.setIfInBounds_toArray, List.set_cons_zero, List.set_cons_succ] <;> rfl, h0, h1, h2, h3, h4, fun _ => rfl, h6, hB, hG, hW3, hW4, hA⟩
    · obtain rfl := Option.some.inj hi
      clear hi hil
      refine wpOp_step rfl (fun K hK => ?_)
      have HKK := Lib.hid hK; clear hK
      simp only [putAll, Act.put, List.setIfInBounds_toArray, List.set_cons_zero, List.set_cons_succ]
      go_simp
      exact HKK.out _ _ ⟨_, by simp only [putAll, Act.put, List.setIfInBounds_toArray, List.set_cons_zero, List.set_cons_succ] <;> rfl, h0, h1, h2, h3, h4, h5, fun _ => rfl, hB, hG, hW3, hW4, hA⟩
    · obtain rfl := Option.some.inj hi
      clear hi hil
      have hap : b' 7 = false := hun
      have d3 := h3 (hall ⟨3, .data⟩ (by simp) rfl)
      have d4 := h4 (hall ⟨4, .data⟩ (by simp) rfl)
      have d5 := h5 (hall ⟨5, .data⟩ (by simp) rfl)
      have d6 := h6 (hall ⟨6, .data⟩ (by simp) rfl)
      refine wpOp_step rfl (fun K hK => ?_)
      have HKK := Lib.hid hK; clear hK
      simp only [putAll, Act.put, List.setIfInBounds_toArray, List.set_cons_zero, List.set_cons_succ]
      go_simp
      refine (HWR.out w' (hB hap).out.1).mono ?_
      rintro e w2' ⟨T3, rfl, ha3, hto3⟩
      exact HKK.out _ _ ⟨_, by simp only [putAll, Act.put, List.setIfInBounds_toArray, List.set_cons_zero, List.set_cons_succ, d3, d4, d5, d6] <;> rfl, h0, h1, h2, h3, h4, h5, h6, fun h => Bool.noConfusion h, fun _ => Lib.hid (⟨T3, rfl, ha3, hto3⟩), fun _ => hall ⟨3, .data⟩ (by simp) rfl, fun _ => hall ⟨4, .data⟩ (by simp) rfl, fun hq => absurd (hA hq).1 (by rw [hun]; decide)⟩
    · obtain rfl := Option.some.inj hi
      clear hi hil
      have gB := hG (hall ⟨7, .data⟩ (by simp) rfl)
      refine wpOp_step rfl (fun K hK => ?_)
      have HKK := Lib.hid hK; clear hK
      simp only [putAll, Act.put, List.setIfInBounds_toArray, List.set_cons_zero, List.set_cons_succ]
      go_simp
      exact HKK.out _ _ ⟨_, by simp only [putAll, Act.put, List.setIfInBounds_toArray, List.set_cons_zero, List.set_cons_succ] <;> rfl, h0, h1, h2, h3, h4, h5, h6, hB, hG, hW3, hW4, fun _ => ⟨hall ⟨7, .data⟩ (by simp) rfl, rfl⟩⟩
    · omega
  rintro b' vs wz hall ⟨h0, h1, h2, h3, h4, h5, h6, hB, hG, hW3, hW4, hA⟩
  have d0 := h0 (hall 0 (by simp))
  have d1 := h1 (hall 1 (by simp))
  have d2 := h2 (hall 2 (by simp))
  have d3 := h3 (hall 3 (by simp))
  have d4 := h4 (hall 4 (by simp))
  have d5 := h5 (hall 5 (by simp))
  have d6 := h6 (hall 6 (by simp))
  have GG := hG (hall 7 (by simp))
  have dA := (hA (hall 8 (by simp))).2
  simp only [putAll, Act.put, List.setIfInBounds_toArray, List.set_cons_zero, List.set_cons_succ, d0, d1, d2, d3, d4, d5, d6, dA]
  clear hall h0 d0 h1 d1 h2 d2 h3 d3 h4 d4 h5 d5 h6 d6 hB hG hW3 hW4 hA dA
  generalize vs 7 = va at *
  obtain ⟨T3, e3, ha3, ht3⟩ := GG.out
  subst e3
  have H3 : Hid (At12 T3 wz g r.1 ∧ To T w2 T3 wz) := ⟨ha3, ht3⟩
  clear GG ha3 ht3 HWR HBX
  obtain ⟨rd, re⟩ := r
  have HS3 : Hid (SAt T3 wz a g h0 sv0 D0 false ∧ OwnB wz 0 (Value.slice so L sc) D ∧ (∀ k, (Value.slice so L sc).ownBlock = some k → ¬ T3 k) ∧ ToS T a w T3 wz ∧ Blk wz G 23 (hdC ⟨g1, h.half, h.snap, h.log⟩)) := by
    have hs2 := HH.out.2.1.grow H2.out.1
    have ho := own_to (HH.out.2.2.1.grow H2.out.1) HH.out.2.2.2 H3.out.2
    exact ⟨hs2.to H3.out.2, ho.1, ho.2, ToS.of_to ((To.below H2.out.1).trans H3.out.2), H3.out.2.keep.blk H2.out.2 HAG.out.2.1⟩
  obtain ⟨c0, c1, c2, c3, c4, c5, c6⟩ := HS3.out.1.blk.s7
  have k1 := HS3.out.1.blk.free 1
  have k2 := HS3.out.1.blk.free 2
  have k3 := HS3.out.1.blk.free 3
  have k4 := HS3.out.1.blk.free 4
  have k5 := HS3.out.1.blk.free 5
  have k6 := HS3.out.1.blk.free 6
  have klt := HS3.out.1.blk.lt
  obtain ⟨b0, b1, b2, b3⟩ := HS3.out.2.2.2.2.hd4c
  have hTS : ∀ W, Keep (fun k => k ≠ a) wz W → ToS T a w T3 W := fun W hk => ⟨HS3.out.2.2.2.1.keep.trans (hk.mono fun _ h => h.2), HS3.out.2.2.2.1.new⟩
  have HTS := Lib.hid hTS
  have HAT : Hid (∀ W, Keep (fun k => k ≠ a) wz W → At12 T3 W g rd) := fun W hk => at_keep H3.out.1 (hk.mono fun k hT e => HS3.out.1.offA (e ▸ hT))
  clear hTS HWR0
  by_cases hre : re = 0
  · subst hre
    clear k6
    go_wp2_with fail
    go_ret
    have hk := keep_saved wz a (.int .i64 g1) (.int .i64 h.half) (.int .i64 h.snap) (.int .i64 h.log) (Value.slice so L sc)
    have hb := HS3.out.1.blk.saved ⟨g1, h.half, h.snap, h.log⟩ (Value.slice so L sc)
    first | exact ⟨rfl, T3, HAT.out _ hk, HTS.out _ hk, HS3.out.1.write hb hk HS3.out.2.1 HS3.out.2.2.1⟩ | exact ⟨T3, rfl, HAT.out _ hk, HTS.out _ hk, fun _ => HS3.out.1.write hb hk HS3.out.2.1 HS3.out.2.2.1, fun h => absurd rfl h⟩ | exact ⟨rfl, T3, HAT.out _ hk, HTS.out _ hk, fun _ => HS3.out.1.write hb hk HS3.out.2.1 HS3.out.2.2.1, fun h => absurd rfl h⟩
  · have hd0 : decide (re = 0) = false := decide_eq_false hre
    have HRE := Lib.hid hre
    clear k1 k2 k3 k4 k5
    go_wp2_with fail
    go_ret
    have hk : Keep (fun k => k ≠ a) wz (wz.setCell ⟨a, 6, none⟩ (.bool true)) := Keep.setCell _ _ _ (by simp)
    have hb := HS3.out.1.blk.fail
    first | exact ⟨rfl, T3, HAT.out _ hk, HTS.out _ hk, HS3.out.1.write hb hk HS3.out.1.all HS3.out.1.offS⟩ | exact ⟨T3, rfl, HAT.out _ hk, HTS.out _ hk, fun h => absurd h HRE.out, fun _ => HS3.out.1.write hb hk HS3.out.1.all HS3.out.1.offS⟩ | exact ⟨rfl, T3, HAT.out _ hk, HTS.out _ hk, fun h => absurd h HRE.out, fun _ => HS3.out.1.write hb hk HS3.out.1.all HS3.out.1.offS⟩
end Go.Proofs.Ytdcjchakgfpgaaa
