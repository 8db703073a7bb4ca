/- Layer 15: package pathtext: a segment that is whole. -/
import Derived.Test.YtbnbglngpgikfaaGreatDoorQh
namespace Go.Proofs.YtbnbglngpgikfaaGreatDoor
open Go.RowKit Go.Shelf
attribute [local go_sem] Oper.semAt_some
/-- The segment that is at hand, as a row of its own. -/
def NewS1 (s : Sg) (v : Value) (w : World) : Prop := ∃ q, v = .slice (some ⟨q, 0, none⟩) 1 1 ∧ Blk w q 53 s.cells
theorem NewS1.grow {s : Sg} {v : Value} {w w' : World} (h : NewS1 s v w) (hb : Below w.heap.size w w') : NewS1 s v w' := by
  obtain ⟨q, e, hq⟩ := h
  exact ⟨q, e, hq.grow hb⟩
/-- A segment has been appended, and is not yet stored. -/
structure AppR (N g : Nat) (st : Rs) (v : Value) (w0 : World) (u : Value) (w2 w' : World) : Prop where
  at' : RdAt N g st v w2
  below : Below w0.heap.size w0 w2
  grown : w2.grownBy w' v.ownBlock
  row : OwnS w' N 53 u (st.l ++ [st.s])
  moved : Moved w2 v u
theorem AppR.blk {N g : Nat} {st : Rs} {v u : Value} {w0 w2 w' : World} (h : AppR N g st v w0 u w2 w') : Blk w' g 59 (cellsR st v) :=
  (Keep.of_grown h.grown).blk h.at'.blk h.at'.ne
theorem AppR.done {N g : Nat} {st : Rs} {v u : Value} {w0 w2 w' : World} (h : AppR N g st v w0 u w2 w') : RdAt N g { st with l := st.l ++ [st.s] } u (w'.setCell ⟨g, 0, none⟩ u) ∧ Keep (fun j => j ≠ g ∧ v.ownBlock ≠ some j) w0 (w'.setCell ⟨g, 0, none⟩ u) ∧ Moved w0 v u := by
  have hK := Keep.of_grown h.grown
  have hs : Keep (fun k => k ≠ g) w' (w'.setCell ⟨g, 0, none⟩ u) := Keep.setCell _ _ _ (by simp)
  have hug : ∀ k, u.ownBlock = some k → k ≠ g := fun k e hg => owns_off h.row h.blk (by decide) (hg ▸ e)
  refine ⟨⟨?_, owns_keep h.row hs hug, Nat.le_trans h.at'.hb (Nat.le_trans hK.size hs.size), h.at'.ge⟩, ?_, ?_⟩
  · have h0 := h.blk.set 0 u
    simpa [cellsR] using h0
  · exact ((Keep.of_below h.below).trans (hK.mono fun j hj => hj.2)).trans (hs.mono fun j hj => hj.1)
  · rcases h.moved with e | ⟨k, e, hk⟩
    · exact .inl e
    · exact .inr ⟨k, e, Nat.le_trans h.below.size hk⟩
/-- Behind a step that goes on. -/
def StepQ (N g : Nat) (st' : Rs) (v : Value) (w w' : World) : Prop := ∃ v', RdAt N g st' v' w' ∧ Keep (fun j => j ≠ g ∧ v.ownBlock ≠ some j) w w' ∧ Moved w v v'
theorem Moved.refl (w : World) (v : Value) : Moved w v v := .inl rfl
theorem StepQ.cell {N g : Nat} {st st2 : Rs} {v : Value} {w A : World} (h : StepQ N g st v w A) {B : World} (hk : Keep (fun j => j ≠ g) A B) (hb : ∀ v', Blk A g 59 (cellsR st v') → Blk B g 59 (cellsR st2 v')) (hl : st2.l = st.l) : StepQ N g st2 v w B := by
  obtain ⟨v', h1, h2, h3⟩ := h
  exact ⟨v', h1.turn hk (hb v' h1.blk) hl, h2.trans (hk.mono fun j hj => hj.1), h3⟩
set_option maxHeartbeats 4000000 in
set_option maxRecDepth 100000 in
theorem finish_move (N g : Nat) (st : Rs) (v : Value) (w : World) (h : RdAt N g st v w) (hl : st.l.length + 1 ≤ 100000) (hk : st.s.k = 1) : Calls Tryz.prog 62 #[ptrR g] w fun e w' => (∃ u, e = .returned u) ∧ StepQ N g (finR st) v w w' := by
  obtain ⟨va, vc, rfl⟩ := h.row.row.shape
  obtain ⟨vn, hvn⟩ : ∃ n, st.l.length = n := ⟨_, rfl⟩
  rw [hvn] at h
  have H := Lib.hid h
  have HLL := Lib.hid hl
  have HKI := Lib.hid hk
  rw [hvn]
  clear h hl hvn hk
  go_enter Tryz.func62, Tryz.ntmps62
  go_upto_region 0 with fail
  refine wp_region_put (by kernel_rfl) (by kernel_rfl) (by kernel_rfl) (fun b' vs w' => (b' 0 = true → vs 0 = ptrR g) ∧ (b' 1 = true → vs 1 = ptrR g) ∧ (b' 2 = true → vs 2 = .pointer (some ⟨g, 0, none⟩)) ∧ (b' 3 = true → vs 3 = .pointer (some ⟨g, 0, none⟩)) ∧ (b' 4 = true → vs 4 = .slice va vn vc) ∧ (b' 5 = true → vs 5 = ptrR g) ∧ (b' 6 = true → vs 6 = .pointer (some ⟨g, 0, none⟩)) ∧ (b' 7 = true → vs 7 = .pointer (some ⟨g, 1, none⟩)) ∧ (b' 8 = true → vs 8 = .agg #[.int .i64 st.s.k, .int .i64 st.s.p.1, .int .i64 st.s.p.2, .int .i64 st.s.q.1, .int .i64 st.s.q.2, .int .i64 st.s.r.1, .int .i64 st.s.r.2]) ∧ (b' 11 = true → vs 11 = .pointer (some ⟨g, 0, none⟩)) ∧ (b' 12 = true → vs 12 = .pointer (some ⟨g, 0, none⟩)) ∧ (b' 9 = true → b' 10 = false → Hid (NewS1 st.s (vs 9) w')) ∧ (b' 10 = false → Hid (RdAt N g st (.slice va vn vc) w' ∧ Below w.heap.size w w')) ∧ (b' 10 = true → b' 13 = false → Hid (∃ w2, AppR N g st (.slice va vn vc) w (vs 10) w2 w')) ∧ (b' 13 = true → Hid (∃ v' w2 w3, AppR N g st (.slice va vn vc) w v' w2 w3 ∧ w' = w3.setCell ⟨g, 0, none⟩ v')) ∧ (b' 9 = true → b' 8 = true) ∧ (b' 10 = true → b' 4 = true) ∧ (b' 10 = true → b' 8 = true) ∧ (b' 10 = true → b' 9 = true) ∧ (b' 13 = true → b' 10 = true)) ?_ ?_ ?_
  · intro vs
    exact ⟨fun h => Bool.noConfusion h, fun h => Bool.noConfusion h, fun h => Bool.noConfusion h, fun h => Bool.noConfusion h, fun h => Bool.noConfusion h, fun h => Bool.noConfusion h, fun h => Bool.noConfusion h, fun h => Bool.noConfusion h, fun h => Bool.noConfusion h, fun h => Bool.noConfusion h, fun h => Bool.noConfusion h, fun h => Bool.noConfusion h, fun _ => Lib.hid (⟨H.out.grow (below_drewN (Below.refl _ _) 1), below_drewN (Below.refl _ _) 1⟩), fun h => Bool.noConfusion h, fun h => Bool.noConfusion h, fun h => Bool.noConfusion h, fun h => Bool.noConfusion h, fun h => Bool.noConfusion h, fun h => Bool.noConfusion h, fun h => Bool.noConfusion h⟩
  · rintro b' vs w' i op hi hun hall ⟨h0, h1, h2, h3, h4, h5, h6, h7, h8, h11, h12, y9, hF, yA, yS, hE9_8, hW4, hW8, hW9, hX⟩
    have hil : i < 14 := (List.getElem?_eq_some_iff.1 hi).1
    rcases i with _ | _ | _ | _ | _ | _ | _ | _ | _ | _ | _ | _ | _ | _ | i
    · obtain rfl := Option.some.inj hi
      clear hi hil
      refine wpOp_step rfl (fun K hK => ?_)
      have HKK := Lib.hid hK; clear hK
      simp only [putAll, Act.put, List.setIfInBounds_toArray, List.set_cons_zero, List.set_cons_succ]
      go_simp
      exact HKK.out _ _ ⟨_, by simp only [putAll, Act.put, List.setIfInBounds_toArray, List.set_cons_zero, List.set_cons_succ] <;> rfl, fun _ => rfl, h1, h2, h3, h4, h5, h6, h7, h8, h11, h12, y9, hF, yA, yS, hE9_8, hW4, hW8, hW9, hX⟩
    · obtain rfl := Option.some.inj hi
      clear hi hil
      refine wpOp_step rfl (fun K hK => ?_)
      have HKK := Lib.hid hK; clear hK
      simp only [putAll, Act.put, List.setIfInBounds_toArray, List.set_cons_zero, List.set_cons_succ]
      go_simp
      exact HKK.out _ _ ⟨_, by simp only [putAll, Act.put, List.setIfInBounds_toArray, List.set_cons_zero, List.set_cons_succ] <;> rfl, h0, fun _ => rfl, h2, h3, h4, h5, h6, h7, h8, h11, h12, y9, hF, yA, yS, hE9_8, hW4, hW8, hW9, hX⟩
    · obtain rfl := Option.some.inj hi
      clear hi hil
      have d1 := h1 (hall ⟨1, .data⟩ (by simp) rfl)
      refine wpOp_step rfl (fun K hK => ?_)
      have HKK := Lib.hid hK; clear hK
      simp only [putAll, Act.put, List.setIfInBounds_toArray, List.set_cons_zero, List.set_cons_succ]
      go_simp
      exact HKK.out _ _ ⟨_, by simp only [putAll, Act.put, List.setIfInBounds_toArray, List.set_cons_zero, List.set_cons_succ, d1] <;> rfl, h0, h1, fun _ => rfl, h3, h4, h5, h6, h7, h8, h11, h12, y9, hF, yA, yS, hE9_8, hW4, hW8, hW9, hX⟩
    · obtain rfl := Option.some.inj hi
      clear hi hil
      have d2 := h2 (hall ⟨2, .data⟩ (by simp) rfl)
      refine wpOp_step rfl (fun K hK => ?_)
      have HKK := Lib.hid hK; clear hK
      simp only [putAll, Act.put, List.setIfInBounds_toArray, List.set_cons_zero, List.set_cons_succ]
      go_simp
      exact HKK.out _ _ ⟨_, by simp only [putAll, Act.put, List.setIfInBounds_toArray, List.set_cons_zero, List.set_cons_succ, d2] <;> rfl, h0, h1, h2, fun _ => rfl, h4, h5, h6, h7, h8, h11, h12, y9, hF, yA, yS, hE9_8, hW4, hW8, hW9, hX⟩
    · obtain rfl := Option.some.inj hi
      clear hi hil
      have d3 := h3 (hall ⟨3, .data⟩ (by simp) rfl)
      have na : b' 10 = false := by
        cases hz : b' 10 with
        | false => rfl
        | true => exact absurd (hW4 hz) (by rw [hun]; decide)
      have hS := hF na
      have k0 := hS.out.1.c0
      refine wpOp_step rfl (fun K hK => ?_)
      have HKK := Lib.hid hK; clear hK
      simp only [putAll, Act.put, List.setIfInBounds_toArray, List.set_cons_zero, List.set_cons_succ]
      go_simp
      exact HKK.out _ _ ⟨_, by simp only [putAll, Act.put, List.setIfInBounds_toArray, List.set_cons_zero, List.set_cons_succ, d3] <;> rfl, h0, h1, h2, h3, fun _ => rfl, h5, h6, h7, h8, h11, h12, y9, hF, yA, yS, hE9_8, fun _ => rfl, hW8, hW9, hX⟩
    · obtain rfl := Option.some.inj hi
      clear hi hil
      refine wpOp_step rfl (fun K hK => ?_)
      have HKK := Lib.hid hK; clear hK
      simp only [putAll, Act.put, List.setIfInBounds_toArray, List.set_cons_zero, List.set_cons_succ]
      go_simp
      exact HKK.out _ _ ⟨_, by simp only [putAll, Act.put, List.setIfInBounds_toArray, List.set_cons_zero, List.set_cons_succ] <;> rfl, h0, h1, h2, h3, h4, fun _ => rfl, h6, h7, h8, h11, h12, y9, hF, yA, yS, hE9_8, hW4, hW8, hW9, hX⟩
    · obtain rfl := Option.some.inj hi
      clear hi hil
      have d5 := h5 (hall ⟨5, .data⟩ (by simp) rfl)
      refine wpOp_step rfl (fun K hK => ?_)
      have HKK := Lib.hid hK; clear hK
      simp only [putAll, Act.put, List.setIfInBounds_toArray, List.set_cons_zero, List.set_cons_succ]
      go_simp
      exact HKK.out _ _ ⟨_, by simp only [putAll, Act.put, List.setIfInBounds_toArray, List.set_cons_zero, List.set_cons_succ, d5] <;> rfl, h0, h1, h2, h3, h4, h5, fun _ => rfl, h7, h8, h11, h12, y9, hF, yA, yS, hE9_8, hW4, hW8, hW9, hX⟩
    · obtain rfl := Option.some.inj hi
      clear hi hil
      have d6 := h6 (hall ⟨6, .data⟩ (by simp) rfl)
      refine wpOp_step rfl (fun K hK => ?_)
      have HKK := Lib.hid hK; clear hK
      simp only [putAll, Act.put, List.setIfInBounds_toArray, List.set_cons_zero, List.set_cons_succ]
      go_simp
      exact HKK.out _ _ ⟨_, by simp only [putAll, Act.put, List.setIfInBounds_toArray, List.set_cons_zero, List.set_cons_succ, d6] <;> rfl, h0, h1, h2, h3, h4, h5, h6, fun _ => rfl, h8, h11, h12, y9, hF, yA, yS, hE9_8, hW4, hW8, hW9, hX⟩
    · obtain rfl := Option.some.inj hi
      clear hi hil
      have d7 := h7 (hall ⟨7, .data⟩ (by simp) rfl)
      have na : b' 10 = false := by
        cases hz : b' 10 with
        | false => rfl
        | true => exact absurd (hW8 hz) (by rw [hun]; decide)
      have hS := hF na
      have k1 := hS.out.1.ck
      have k2 := hS.out.1.c2
      have k3 := hS.out.1.c3
      have k4 := hS.out.1.c4
      have k5 := hS.out.1.c5
      have k6 := hS.out.1.c6
      have k7 := hS.out.1.c7
      refine wpOp_step rfl (fun K hK => ?_)
      have HKK := Lib.hid hK; clear hK
      simp only [putAll, Act.put, List.setIfInBounds_toArray, List.set_cons_zero, List.set_cons_succ]
      go_simp
      exact HKK.out _ _ ⟨_, by simp only [putAll, Act.put, List.setIfInBounds_toArray, List.set_cons_zero, List.set_cons_succ, d7] <;> rfl, h0, h1, h2, h3, h4, h5, h6, h7, fun _ => rfl, h11, h12, y9, hF, yA, yS, fun _ => rfl, hW4, fun _ => rfl, hW9, hX⟩
    · obtain rfl := Option.some.inj hi
      clear hi hil
      have d8 := h8 (hall ⟨8, .data⟩ (by simp) rfl)
      have na : b' 10 = false := by
        cases hz : b' 10 with
        | false => rfl
        | true => exact absurd (hW9 hz) (by rw [hun]; decide)
      have hS := hF na
      refine wpOp_step rfl (fun K hK => ?_)
      have HKK := Lib.hid hK; clear hK
      simp only [putAll, Act.put, List.setIfInBounds_toArray, List.set_cons_zero, List.set_cons_succ]
      go_simp
      have hb2 : Below w'.heap.size w' (w'.alloc (.cells #[.int .i64 st.s.k, .int .i64 st.s.p.1, .int .i64 st.s.p.2, .int .i64 st.s.q.1, .int .i64 st.s.q.2, .int .i64 st.s.r.1, .int .i64 st.s.r.2] 53)) := (Below.refl _ _).alloc (Nat.le_refl _) _
      exact HKK.out _ _ ⟨_, by simp only [putAll, Act.put, List.setIfInBounds_toArray, List.set_cons_zero, List.set_cons_succ, d8] <;> rfl, h0, h1, h2, h3, h4, h5, h6, h7, h8, h11, h12, fun _ _ => Lib.hid (⟨_, rfl, Blk.new _ _ _⟩), fun ha => Lib.hid (⟨hS.out.1.grow hb2, hS.out.2.trans (hb2.mono hS.out.2.size)⟩), fun h => absurd (show b' 10 = true from h) (by rw [na]; decide), fun h => absurd (hX (show b' 13 = true from h)) (by rw [na]; decide), fun _ => hall ⟨8, .data⟩ (by simp) rfl, hW4, hW8, fun _ => rfl, hX⟩
    · obtain rfl := Option.some.inj hi
      clear hi hil
      have d4 := h4 (hall ⟨4, .data⟩ (by simp) rfl)
      have hS := hF hun
      have o9 := y9 (hall ⟨9, .data⟩ (by simp) rfl) hun
      obtain ⟨q, e9, hq⟩ := o9.out
      refine wpOp_step rfl (fun K hK => ?_)
      have HKK := Lib.hid hK; clear hK
      simp only [putAll, Act.put, List.setIfInBounds_toArray, List.set_cons_zero, List.set_cons_succ]
      refine (if_pos rfl).mpr (wp_append_sg _ _ 22 53 rfl Tryz.underlying22 infoS N (.slice va vn vc) st.l st.s d4 hS.out.1.row q e9 (fun j u hj => (hq.cell j).trans hj) HLL.out hS.out.1.hb ?_)
      intro v' w2 ho2 hg2 hm2
      exact HKK.out _ _ ⟨_, by simp only [putAll, Act.put, List.setIfInBounds_toArray, List.set_cons_zero, List.set_cons_succ, d4] <;> rfl, h0, h1, h2, h3, h4, h5, h6, h7, h8, h11, h12, fun _ h => Bool.noConfusion h, fun h => Bool.noConfusion h, fun _ _ => Lib.hid (⟨_, hS.out.1, hS.out.2, hg2, ho2, hm2⟩), fun h => absurd (hX (show b' 13 = true from h)) (by rw [hun]; decide), hE9_8, fun _ => hall ⟨4, .data⟩ (by simp) rfl, fun _ => hE9_8 (hall ⟨9, .data⟩ (by simp) rfl), fun _ => hall ⟨9, .data⟩ (by simp) rfl, fun _ => rfl⟩
    · obtain rfl := Option.some.inj hi
      clear hi hil
      have d0 := h0 (hall ⟨0, .data⟩ (by simp) rfl)
      refine wpOp_step rfl (fun K hK => ?_)
      have HKK := Lib.hid hK; clear hK
      simp only [putAll, Act.put, List.setIfInBounds_toArray, List.set_cons_zero, List.set_cons_succ]
      go_simp
      exact HKK.out _ _ ⟨_, by simp only [putAll, Act.put, List.setIfInBounds_toArray, List.set_cons_zero, List.set_cons_succ, d0] <;> rfl, h0, h1, h2, h3, h4, h5, h6, h7, h8, fun _ => rfl, h12, y9, hF, yA, yS, hE9_8, hW4, hW8, hW9, hX⟩
    · obtain rfl := Option.some.inj hi
      clear hi hil
      have d11 := h11 (hall ⟨11, .data⟩ (by simp) rfl)
      refine wpOp_step rfl (fun K hK => ?_)
      have HKK := Lib.hid hK; clear hK
      simp only [putAll, Act.put, List.setIfInBounds_toArray, List.set_cons_zero, List.set_cons_succ]
      go_simp
      exact HKK.out _ _ ⟨_, by simp only [putAll, Act.put, List.setIfInBounds_toArray, List.set_cons_zero, List.set_cons_succ, d11] <;> rfl, h0, h1, h2, h3, h4, h5, h6, h7, h8, h11, fun _ => rfl, y9, hF, yA, yS, hE9_8, hW4, hW8, hW9, hX⟩
    · obtain rfl := Option.some.inj hi
      clear hi hil
      have d12 := h12 (hall ⟨12, .data⟩ (by simp) rfl)
      have ta : b' 10 = true := hall ⟨10, .data⟩ (by simp) rfl
      have oA := yA ta hun
      have q4 := h4 (hW4 ta)
      have q8 := h8 (hW8 ta)
      obtain ⟨w2, hA⟩ := oA.out
      have k0 := hA.blk.cell 0
      simp only [cellsR, List.getElem?_toArray, List.getElem?_cons_zero] at k0
      have f0 := hA.blk.free 0
      have lg := hA.blk.lt
      have hsl := hA.row.row.shape
      obtain ⟨ra, rc, e10⟩ := hsl
      simp only [List.length_append, List.length_cons, List.length_nil, Nat.zero_add] at e10
      refine wpOp_step rfl (fun K hK => ?_)
      have HKK := Lib.hid hK; clear hK
      simp only [putAll, Act.put, List.setIfInBounds_toArray, List.set_cons_zero, List.set_cons_succ]
      go_simp
      exact HKK.out _ _ ⟨undef, by simp only [putAll, Act.put, List.setIfInBounds_toArray, List.set_cons_zero, List.set_cons_succ, d12, e10, q4, q8] <;> rfl, h0, h1, h2, h3, h4, h5, h6, h7, h8, h11, h12, fun _ h => absurd (show b' 10 = false from h) (by rw [ta]; decide), fun h => absurd (show b' 10 = false from h) (by rw [ta]; decide), fun _ h => Bool.noConfusion h, fun _ => Lib.hid (⟨_, _, _, hA, by rw [e10]⟩), hE9_8, hW4, hW8, hW9, fun _ => ta⟩
    · omega
  · rintro b' vs w2 hall ⟨h0, h1, h2, h3, h4, h5, h6, h7, h8, h11, h12, y9, hF, yA, yS, hE9_8, hW4, hW8, hW9, hX⟩
    have d0 := h0 (hall 0 (by simp))
    have d1 := h1 (hall 1 (by simp))
    have d2 := h2 (hall 2 (by simp))
    have d3 := h3 (hall 3 (by simp))
    have d4 := h4 (hall 4 (by simp))
    have d5 := h5 (hall 5 (by simp))
    have d6 := h6 (hall 6 (by simp))
    have d7 := h7 (hall 7 (by simp))
    have d8 := h8 (hall 8 (by simp))
    have d11 := h11 (hall 11 (by simp))
    have d12 := h12 (hall 12 (by simp))
    have PP := yS (hall 13 (by simp))
    simp only [putAll, Act.put, List.setIfInBounds_toArray, List.set_cons_zero, List.set_cons_succ, d0, d1, d2, d3, d4, d5, d6, d7, d8, d11, d12]
    clear hall h0 d0 h1 d1 h2 d2 h3 d3 h4 d4 h5 d5 h6 d6 h7 d7 h8 d8 h11 d11 h12 d12 y9 hF yA yS hE9_8 hW4 hW8 hW9 hX
    generalize vs 9 = vM9 at *
    generalize vs 10 = vM10 at *
    obtain ⟨v', w2', w3', hA, rfl⟩ := PP.out
    obtain ⟨q1, q2, q3⟩ := hA.done
    have H2 := Lib.hid (And.intro q1 (And.intro q2 q3))
    clear PP hA q1 q2 q3
    generalize w3'.setCell ⟨g, 0, none⟩ v' = w4 at *
    obtain ⟨hA, hkA, hmA⟩ := H2.out
    have HA := Lib.hid hA
    have HQ : Hid (StepQ N g { st with l := st.l ++ [st.s] } (.slice va vn vc) w w4) := ⟨v', hA, hkA, hmA⟩
    have c1 := hA.ck
    have c2 := hA.c2; have c3 := hA.c3; have c4 := hA.c4; have c5 := hA.c5; have c6 := hA.c6; have c7 := hA.c7
    have co := hA.co; have cb1 := hA.cb1; have cb2 := hA.cb2; have ce1 := hA.ce1; have ce2 := hA.ce2
    have f1 := hA.blk.free 1; have f10 := hA.blk.free 10; have f11 := hA.blk.free 11; have f12 := hA.blk.free 12; have f13 := hA.blk.free 13; have f14 := hA.blk.free 14
    have lA := hA.blk.lt
    simp only [HKI.out] at c1
    clear hA hkA hmA
    go_wp2_with fail
    go_end0
    refine ⟨⟨_, rfl⟩, HQ.out.cell ((((((Keep.setCell _ _ _ (by simp)).trans (Keep.setCell _ _ _ (by simp))).trans (Keep.setCell _ _ _ (by simp))).trans (Keep.setCell _ _ _ (by simp))).trans (Keep.setCell _ _ _ (by simp))).trans (Keep.setCell _ _ _ (by simp))) (fun v2 hb => ?_) ?_⟩
    · have hb2 := ((((((hb.set 10 (.bool true)).set 11 (.int .i64 st.s.p.1)).set 12 (.int .i64 st.s.p.2)).set 13 (.int .i64 st.s.p.1)).set 14 (.int .i64 st.s.p.2)).set 1 (.int .i64 2))
      unfold finR
      rw [if_pos HKI.out]
      simpa [cellsR] using hb2
    · unfold finR
      rw [if_pos HKI.out]
set_option maxHeartbeats 4000000 in
set_option maxRecDepth 100000 in
theorem finish_shut (N g : Nat) (st : Rs) (v : Value) (w : World) (h : RdAt N g st v w) (hl : st.l.length + 1 ≤ 100000) (hk : st.s.k = 5) : Calls Tryz.prog 62 #[ptrR g] w fun e w' => (∃ u, e = .returned u) ∧ StepQ N g (finR st) v w w' := by
  obtain ⟨va, vc, rfl⟩ := h.row.row.shape
  obtain ⟨vn, hvn⟩ : ∃ n, st.l.length = n := ⟨_, rfl⟩
  rw [hvn] at h
  have H := Lib.hid h
  have HLL := Lib.hid hl
  have HKI := Lib.hid hk
  rw [hvn]
  clear h hl hvn hk
  go_enter Tryz.func62, Tryz.ntmps62
  go_upto_region 0 with fail
  refine wp_region_put (by kernel_rfl) (by kernel_rfl) (by kernel_rfl) (fun b' vs w' => (b' 0 = true → vs 0 = ptrR g) ∧ (b' 1 = true → vs 1 = ptrR g) ∧ (b' 2 = true → vs 2 = .pointer (some ⟨g, 0, none⟩)) ∧ (b' 3 = true → vs 3 = .pointer (some ⟨g, 0, none⟩)) ∧ (b' 4 = true → vs 4 = .slice va vn vc) ∧ (b' 5 = true → vs 5 = ptrR g) ∧ (b' 6 = true → vs 6 = .pointer (some ⟨g, 0, none⟩)) ∧ (b' 7 = true → vs 7 = .pointer (some ⟨g, 1, none⟩)) ∧ (b' 8 = true → vs 8 = .agg #[.int .i64 st.s.k, .int .i64 st.s.p.1, .int .i64 st.s.p.2, .int .i64 st.s.q.1, .int .i64 st.s.q.2, .int .i64 st.s.r.1, .int .i64 st.s.r.2]) ∧ (b' 11 = true → vs 11 = .pointer (some ⟨g, 0, none⟩)) ∧ (b' 12 = true → vs 12 = .pointer (some ⟨g, 0, none⟩)) ∧ (b' 9 = true → b' 10 = false → Hid (NewS1 st.s (vs 9) w')) ∧ (b' 10 = false → Hid (RdAt N g st (.slice va vn vc) w' ∧ Below w.heap.size w w')) ∧ (b' 10 = true → b' 13 = false → Hid (∃ w2, AppR N g st (.slice va vn vc) w (vs 10) w2 w')) ∧ (b' 13 = true → Hid (∃ v' w2 w3, AppR N g st (.slice va vn vc) w v' w2 w3 ∧ w' = w3.setCell ⟨g, 0, none⟩ v')) ∧ (b' 9 = true → b' 8 = true) ∧ (b' 10 = true → b' 4 = true) ∧ (b' 10 = true → b' 8 = true) ∧ (b' 10 = true → b' 9 = true) ∧ (b' 13 = true → b' 10 = true)) ?_ ?_ ?_
  · intro vs
    exact ⟨fun h => Bool.noConfusion h, fun h => Bool.noConfusion h, fun h => Bool.noConfusion h, fun h => Bool.noConfusion h, fun h => Bool.noConfusion h, fun h => Bool.noConfusion h, fun h => Bool.noConfusion h, fun h => Bool.noConfusion h, fun h => Bool.noConfusion h, fun h => Bool.noConfusion h, fun h => Bool.noConfusion h, fun h => Bool.noConfusion h, fun _ => Lib.hid (⟨H.out.grow (below_drewN (Below.refl _ _) 1), below_drewN (Below.refl _ _) 1⟩), fun h => Bool.noConfusion h, fun h => Bool.noConfusion h, fun h => Bool.noConfusion h, fun h => Bool.noConfusion h, fun h => Bool.noConfusion h, fun h => Bool.noConfusion h, fun h => Bool.noConfusion h⟩
  · rintro b' vs w' i op hi hun hall ⟨h0, h1, h2, h3, h4, h5, h6, h7, h8, h11, h12, y9, hF, yA, yS, hE9_8, hW4, hW8, hW9, hX⟩
    have hil : i < 14 := (List.getElem?_eq_some_iff.1 hi).1
    rcases i with _ | _ | _ | _ | _ | _ | _ | _ | _ | _ | _ | _ | _ | _ | i
    · obtain rfl := Option.some.inj hi
      clear hi hil
      refine wpOp_step rfl (fun K hK => ?_)
      have HKK := Lib.hid hK; clear hK
      simp only [putAll, Act.put, List.setIfInBounds_toArray, List.set_cons_zero, List.set_cons_succ]
      go_simp
      exact HKK.out _ _ ⟨_, by simp only [putAll, Act.put, List.setIfInBounds_toArray, List.set_cons_zero, List.set_cons_succ] <;> rfl, fun _ => rfl, h1, h2, h3, h4, h5, h6, h7, h8, h11, h12, y9, hF, yA, yS, hE9_8, hW4, hW8, hW9, hX⟩
    · obtain rfl := Option.some.inj hi
      clear hi hil
      refine wpOp_step rfl (fun K hK => ?_)
      have HKK := Lib.hid hK; clear hK
      simp only [putAll, Act.put, List.setIfInBounds_toArray, List.set_cons_zero, List.set_cons_succ]
      go_simp
      exact HKK.out _ _ ⟨_, by simp only [putAll, Act.put, List.setIfInBounds_toArray, List.set_cons_zero, List.set_cons_succ] <;> rfl, h0, fun _ => rfl, h2, h3, h4, h5, h6, h7, h8, h11, h12, y9, hF, yA, yS, hE9_8, hW4, hW8, hW9, hX⟩
    · obtain rfl := Option.some.inj hi
      clear hi hil
      have d1 := h1 (hall ⟨1, .data⟩ (by simp) rfl)
      refine wpOp_step rfl (fun K hK => ?_)
      have HKK := Lib.hid hK; clear hK
      simp only [putAll, Act.put, List.setIfInBounds_toArray, List.set_cons_zero, List.set_cons_succ]
      go_simp
      exact HKK.out _ _ ⟨_, by simp only [putAll, Act.put, List.setIfInBounds_toArray, List.set_cons_zero, List.set_cons_succ, d1] <;> rfl, h0, h1, fun _ => rfl, h3, h4, h5, h6, h7, h8, h11, h12, y9, hF, yA, yS, hE9_8, hW4, hW8, hW9, hX⟩
    · obtain rfl := Option.some.inj hi
      clear hi hil
      have d2 := h2 (hall ⟨2, .data⟩ (by simp) rfl)
      refine wpOp_step rfl (fun K hK => ?_)
      have HKK := Lib.hid hK; clear hK
      simp only [putAll, Act.put, List.setIfInBounds_toArray, List.set_cons_zero, List.set_cons_succ]
      go_simp
      exact HKK.out _ _ ⟨_, by simp only [putAll, Act.put, List.setIfInBounds_toArray, List.set_cons_zero, List.set_cons_succ, d2] <;> rfl, h0, h1, h2, fun _ => rfl, h4, h5, h6, h7, h8, h11, h12, y9, hF, yA, yS, hE9_8, hW4, hW8, hW9, hX⟩
    · obtain rfl := Option.some.inj hi
      clear hi hil
      have d3 := h3 (hall ⟨3, .data⟩ (by simp) rfl)
      have na : b' 10 = false := by
        cases hz : b' 10 with
        | false => rfl
        | true => exact absurd (hW4 hz) (by rw [hun]; decide)
      have hS := hF na
      have k0 := hS.out.1.c0
      refine wpOp_step rfl (fun K hK => ?_)
      have HKK := Lib.hid hK; clear hK
      simp only [putAll, Act.put, List.setIfInBounds_toArray, List.set_cons_zero, List.set_cons_succ]
      go_simp
      exact HKK.out _ _ ⟨_, by simp only [putAll, Act.put, List.setIfInBounds_toArray, List.set_cons_zero, List.set_cons_succ, d3] <;> rfl, h0, h1, h2, h3, fun _ => rfl, h5, h6, h7, h8, h11, h12, y9, hF, yA, yS, hE9_8, fun _ => rfl, hW8, hW9, hX⟩
    · obtain rfl := Option.some.inj hi
      clear hi hil
      refine wpOp_step rfl (fun K hK => ?_)
      have HKK := Lib.hid hK; clear hK
      simp only [putAll, Act.put, List.setIfInBounds_toArray, List.set_cons_zero, List.set_cons_succ]
      go_simp
      exact HKK.out _ _ ⟨_, by simp only [putAll, Act.put, List.setIfInBounds_toArray, List.set_cons_zero, List.set_cons_succ] <;> rfl, h0, h1, h2, h3, h4, fun _ => rfl, h6, h7, h8, h11, h12, y9, hF, yA, yS, hE9_8, hW4, hW8, hW9, hX⟩
    · obtain rfl := Option.some.inj hi
      clear hi hil
      have d5 := h5 (hall ⟨5, .data⟩ (by simp) rfl)
      refine wpOp_step rfl (fun K hK => ?_)
      have HKK := Lib.hid hK; clear hK
      simp only [putAll, Act.put, List.setIfInBounds_toArray, List.set_cons_zero, List.set_cons_succ]
      go_simp
      exact HKK.out _ _ ⟨_, by simp only [putAll, Act.put, List.setIfInBounds_toArray, List.set_cons_zero, List.set_cons_succ, d5] <;> rfl, h0, h1, h2, h3, h4, h5, fun _ => rfl, h7, h8, h11, h12, y9, hF, yA, yS, hE9_8, hW4, hW8, hW9, hX⟩
    · obtain rfl := Option.some.inj hi
      clear hi hil
      have d6 := h6 (hall ⟨6, .data⟩ (by simp) rfl)
      refine wpOp_step rfl (fun K hK => ?_)
      have HKK := Lib.hid hK; clear hK
      simp only [putAll, Act.put, List.setIfInBounds_toArray, List.set_cons_zero, List.set_cons_succ]
      go_simp
      exact HKK.out _ _ ⟨_, by simp only [putAll, Act.put, List.setIfInBounds_toArray, List.set_cons_zero, List.set_cons_succ, d6] <;> rfl, h0, h1, h2, h3, h4, h5, h6, fun _ => rfl, h8, h11, h12, y9, hF, yA, yS, hE9_8, hW4, hW8, hW9, hX⟩
    · obtain rfl := Option.some.inj hi
      clear hi hil
      have d7 := h7 (hall ⟨7, .data⟩ (by simp) rfl)
      have na : b' 10 = false := by
        cases hz : b' 10 with
        | false => rfl
        | true => exact absurd (hW8 hz) (by rw [hun]; decide)
      have hS := hF na
      have k1 := hS.out.1.ck
      have k2 := hS.out.1.c2
      have k3 := hS.out.1.c3
      have k4 := hS.out.1.c4
      have k5 := hS.out.1.c5
      have k6 := hS.out.1.c6
      have k7 := hS.out.1.c7
      refine wpOp_step rfl (fun K hK => ?_)
      have HKK := Lib.hid hK; clear hK
      simp only [putAll, Act.put, List.setIfInBounds_toArray, List.set_cons_zero, List.set_cons_succ]
      go_simp
      exact HKK.out _ _ ⟨_, by simp only [putAll, Act.put, List.setIfInBounds_toArray, List.set_cons_zero, List.set_cons_succ, d7] <;> rfl, h0, h1, h2, h3, h4, h5, h6, h7, fun _ => rfl, h11, h12, y9, hF, yA, yS, fun _ => rfl, hW4, fun _ => rfl, hW9, hX⟩
    · obtain rfl := Option.some.inj hi
      clear hi hil
      have d8 := h8 (hall ⟨8, .data⟩ (by simp) rfl)
      have na : b' 10 = false := by
        cases hz : b' 10 with
        | false => rfl
        | true => exact absurd (hW9 hz) (by rw [hun]; decide)
      have hS := hF na
      refine wpOp_step rfl (fun K hK => ?_)
      have HKK := Lib.hid hK; clear hK
      simp only [putAll, Act.put, List.setIfInBounds_toArray, List.set_cons_zero, List.set_cons_succ]
      go_simp
      have hb2 : Below w'.heap.size w' (w'.alloc (.cells #[.int .i64 st.s.k, .int .i64 st.s.p.1, .int .i64 st.s.p.2, .int .i64 st.s.q.1, .int .i64 st.s.q.2, .int .i64 st.s.r.1, .int .i64 st.s.r.2] 53)) := (Below.refl _ _).alloc (Nat.le_refl _) _
      exact HKK.out _ _ ⟨_, by simp only [putAll, Act.put, List.setIfInBounds_toArray, List.set_cons_zero, List.set_cons_succ, d8] <;> rfl, h0, h1, h2, h3, h4, h5, h6, h7, h8, h11, h12, fun _ _ => Lib.hid (⟨_, rfl, Blk.new _ _ _⟩), fun ha => Lib.hid (⟨hS.out.1.grow hb2, hS.out.2.trans (hb2.mono hS.out.2.size)⟩), fun h => absurd (show b' 10 = true from h) (by rw [na]; decide), fun h => absurd (hX (show b' 13 = true from h)) (by rw [na]; decide), fun _ => hall ⟨8, .data⟩ (by simp) rfl, hW4, hW8, fun _ => rfl, hX⟩
    · obtain rfl := Option.some.inj hi
      clear hi hil
      have d4 := h4 (hall ⟨4, .data⟩ (by simp) rfl)
      have hS := hF hun
      have o9 := y9 (hall ⟨9, .data⟩ (by simp) rfl) hun
      obtain ⟨q, e9, hq⟩ := o9.out
      refine wpOp_step rfl (fun K hK => ?_)
      have HKK := Lib.hid hK; clear hK
      simp only [putAll, Act.put, List.setIfInBounds_toArray, List.set_cons_zero, List.set_cons_succ]
      refine (if_pos rfl).mpr (wp_append_sg _ _ 22 53 rfl Tryz.underlying22 infoS N (.slice va vn vc) st.l st.s d4 hS.out.1.row q e9 (fun j u hj => (hq.cell j).trans hj) HLL.out hS.out.1.hb ?_)
      intro v' w2 ho2 hg2 hm2
      exact HKK.out _ _ ⟨_, by simp only [putAll, Act.put, List.setIfInBounds_toArray, List.set_cons_zero, List.set_cons_succ, d4] <;> rfl, h0, h1, h2, h3, h4, h5, h6, h7, h8, h11, h12, fun _ h => Bool.noConfusion h, fun h => Bool.noConfusion h, fun _ _ => Lib.hid (⟨_, hS.out.1, hS.out.2, hg2, ho2, hm2⟩), fun h => absurd (hX (show b' 13 = true from h)) (by rw [hun]; decide), hE9_8, fun _ => hall ⟨4, .data⟩ (by simp) rfl, fun _ => hE9_8 (hall ⟨9, .data⟩ (by simp) rfl), fun _ => hall ⟨9, .data⟩ (by simp) rfl, fun _ => rfl⟩
    · obtain rfl := Option.some.inj hi
      clear hi hil
      have d0 := h0 (hall ⟨0, .data⟩ (by simp) rfl)
      refine wpOp_step rfl (fun K hK => ?_)
      have HKK := Lib.hid hK; clear hK
      simp only [putAll, Act.put, List.setIfInBounds_toArray, List.set_cons_zero, List.set_cons_succ]
      go_simp
      exact HKK.out _ _ ⟨_, by simp only [putAll, Act.put, List.setIfInBounds_toArray, List.set_cons_zero, List.set_cons_succ, d0] <;> rfl, h0, h1, h2, h3, h4, h5, h6, h7, h8, fun _ => rfl, h12, y9, hF, yA, yS, hE9_8, hW4, hW8, hW9, hX⟩
    · obtain rfl := Option.some.inj hi
      clear hi hil
      have d11 := h11 (hall ⟨11, .data⟩ (by simp) rfl)
      refine wpOp_step rfl (fun K hK => ?_)
      have HKK := Lib.hid hK; clear hK
      simp only [putAll, Act.put, List.setIfInBounds_toArray, List.set_cons_zero, List.set_cons_succ]
      go_simp
      exact HKK.out _ _ ⟨_, by simp only [putAll, Act.put, List.setIfInBounds_toArray, List.set_cons_zero, List.set_cons_succ, d11] <;> rfl, h0, h1, h2, h3, h4, h5, h6, h7, h8, h11, fun _ => rfl, y9, hF, yA, yS, hE9_8, hW4, hW8, hW9, hX⟩
    · obtain rfl := Option.some.inj hi
      clear hi hil
      have d12 := h12 (hall ⟨12, .data⟩ (by simp) rfl)
      have ta : b' 10 = true := hall ⟨10, .data⟩ (by simp) rfl
      have oA := yA ta hun
      have q4 := h4 (hW4 ta)
      have q8 := h8 (hW8 ta)
      obtain ⟨w2, hA⟩ := oA.out
      have k0 := hA.blk.cell 0
      simp only [cellsR, List.getElem?_toArray, List.getElem?_cons_zero] at k0
      have f0 := hA.blk.free 0
      have lg := hA.blk.lt
      have hsl := hA.row.row.shape
      obtain ⟨ra, rc, e10⟩ := hsl
      simp only [List.length_append, List.length_cons, List.length_nil, Nat.zero_add] at e10
      refine wpOp_step rfl (fun K hK => ?_)
      have HKK := Lib.hid hK; clear hK
      simp only [putAll, Act.put, List.setIfInBounds_toArray, List.set_cons_zero, List.set_cons_succ]
      go_simp
      exact HKK.out _ _ ⟨undef, by simp only [putAll, Act.put, List.setIfInBounds_toArray, List.set_cons_zero, List.set_cons_succ, d12, e10, q4, q8] <;> rfl, h0, h1, h2, h3, h4, h5, h6, h7, h8, h11, h12, fun _ h => absurd (show b' 10 = false from h) (by rw [ta]; decide), fun h => absurd (show b' 10 = false from h) (by rw [ta]; decide), fun _ h => Bool.noConfusion h, fun _ => Lib.hid (⟨_, _, _, hA, by rw [e10]⟩), hE9_8, hW4, hW8, hW9, fun _ => ta⟩
    · omega
  · rintro b' vs w2 hall ⟨h0, h1, h2, h3, h4, h5, h6, h7, h8, h11, h12, y9, hF, yA, yS, hE9_8, hW4, hW8, hW9, hX⟩
    have d0 := h0 (hall 0 (by simp))
    have d1 := h1 (hall 1 (by simp))
    have d2 := h2 (hall 2 (by simp))
    have d3 := h3 (hall 3 (by simp))
    have d4 := h4 (hall 4 (by simp))
    have d5 := h5 (hall 5 (by simp))
    have d6 := h6 (hall 6 (by simp))
    have d7 := h7 (hall 7 (by simp))
    have d8 := h8 (hall 8 (by simp))
    have d11 := h11 (hall 11 (by simp))
    have d12 := h12 (hall 12 (by simp))
    have PP := yS (hall 13 (by simp))
    simp only [putAll, Act.put, List.setIfInBounds_toArray, List.set_cons_zero, List.set_cons_succ, d0, d1, d2, d3, d4, d5, d6, d7, d8, d11, d12]
    clear hall h0 d0 h1 d1 h2 d2 h3 d3 h4 d4 h5 d5 h6 d6 h7 d7 h8 d8 h11 d11 h12 d12 y9 hF yA yS hE9_8 hW4 hW8 hW9 hX
    generalize vs 9 = vM9 at *
    generalize vs 10 = vM10 at *
    obtain ⟨v', w2', w3', hA, rfl⟩ := PP.out
    obtain ⟨q1, q2, q3⟩ := hA.done
    have H2 := Lib.hid (And.intro q1 (And.intro q2 q3))
    clear PP hA q1 q2 q3
    generalize w3'.setCell ⟨g, 0, none⟩ v' = w4 at *
    obtain ⟨hA, hkA, hmA⟩ := H2.out
    have HA := Lib.hid hA
    have HQ : Hid (StepQ N g { st with l := st.l ++ [st.s] } (.slice va vn vc) w w4) := ⟨v', hA, hkA, hmA⟩
    have c1 := hA.ck
    have c2 := hA.c2; have c3 := hA.c3; have c4 := hA.c4; have c5 := hA.c5; have c6 := hA.c6; have c7 := hA.c7
    have co := hA.co; have cb1 := hA.cb1; have cb2 := hA.cb2; have ce1 := hA.ce1; have ce2 := hA.ce2
    have f1 := hA.blk.free 1; have f10 := hA.blk.free 10; have f11 := hA.blk.free 11; have f12 := hA.blk.free 12; have f13 := hA.blk.free 13; have f14 := hA.blk.free 14
    have lA := hA.blk.lt
    simp only [HKI.out] at c1
    clear hA hkA hmA
    go_wp2_with fail
    go_end0
    refine ⟨⟨_, rfl⟩, HQ.out.cell (((Keep.setCell _ _ _ (by simp)).trans (Keep.setCell _ _ _ (by simp))).trans (Keep.setCell _ _ _ (by simp))) (fun v2 hb => ?_) ?_⟩
    · have hb2 := (((hb.set 10 (.bool false)).set 13 (.int .i64 st.b.1)).set 14 (.int .i64 st.b.2))
      unfold finR
      rw [if_neg (by rw [HKI.out]; decide), if_pos HKI.out]
      simpa [cellsR] using hb2
    · unfold finR
      rw [if_neg (by rw [HKI.out]; decide), if_pos HKI.out]
end Go.Proofs.YtbnbglngpgikfaaGreatDoor
