/- Layer 12: package disk: Read, where it is done. -/
import Derived.Test.YtdcjchakgfpgaaaCk
import Derived.Test.YtdcjchakgfpgaaaCj
namespace Go.Proofs.Ytdcjchakgfpgaaa
open Go.RowKit
open Go.Shelf
attribute [local go_sem] Oper.semAt_some
theorem OwnI.store {w : World} {g n c q : Nat} {R : List Int} (h : OwnI w 0 (.slice (some ⟨g, 0, none⟩) n c) R) (hn : R.length = n) (hq : q < n) (r : Int) : OwnI (w.setCell ⟨g, q, none⟩ (.int .i64 r)) 0 (.slice (some ⟨g, 0, none⟩) n c) (R.set q r) := by
  unfold OwnI at *
  rw [List.length_set, List.map_set, hn]
  rw [hn] at h
  exact owns_set h (by omega) _
theorem OwnI.at' {w : World} {g n c q : Nat} {R : List Int} (h : OwnI w 0 (.slice (some ⟨g, 0, none⟩) n c) R) (hn : R.length = n) (hq : q < n) : w.cell? ⟨g, q, none⟩ = some (.int .i64 (R.getD q 0)) ∧ w.frozen? ⟨g, q, none⟩ = false ∧ g < w.heap.size := by
  have key := World.ownsRow.cells h (g := g) rfl q (.int .i64 (R.getD q 0)) (by rw [List.getElem?_map, List.getElem?_eq_getElem (by omega), List.getD_eq_getElem?_getD, List.getElem?_eq_getElem (by omega)]; rfl)
  rw [show (⟨g, 0, none⟩ : Addr).add q = ⟨g, 0 + q, none⟩ from Addr.add_lit .., Nat.zero_add] at key
  refine ⟨key, ?_, (World.ownsRow.lt h g rfl).2⟩
  obtain ⟨_, ⟨e, _⟩ | ⟨g', cap', cur, e, hb, hg, _⟩⟩ := h
  · cases e
  · cases e; exact Joins.unfrozen_of_block hg _
theorem OwnB.mid {w : World} {base g n c : Nat} {A : List Int} (h : OwnB w base (.slice (some ⟨g, 0, none⟩) n c) A) (o z : Nat) (hz : o + z ≤ n) : RowB w (.slice (some ⟨g, o, none⟩) z (c - o)) ((A.drop o).take z) ∧ ((A.drop o).take z).length = z := by
  obtain ⟨a, c', e⟩ := h.shape
  have hn : A.length = n := by cases e; rfl
  have hl : ((A.drop o).take z).length = z := by simp; omega
  refine ⟨?_, hl⟩
  rcases h.row with ⟨e, _⟩ | ⟨a, c, e, hA⟩ | ⟨b', o', c, e, hb, hc⟩
  · cases e
  · have : A.length = 0 := by rw [hA]; rfl
    have hz0 : z = 0 := by omega
    subst hz0
    exact .inr (.inl ⟨_, _, rfl, by simp⟩)
  · cases e
    refine .inr (.inr ⟨g, o, _, by rw [hl], hb, fun k x hx => ?_⟩)
    rw [List.getElem?_take] at hx
    split at hx
    · rw [List.getElem?_drop] at hx
      have := hc (o + k) x hx
      rwa [Nat.zero_add] at this
    · cases hx
/-- Inside Read: the disk, the call's own variables. -/
structure ReadS (T : Nat → Prop) (w : World) (g : Nat) (x : Kd) (i : Int) (A : World) : Prop where
  at' : KAt T A g x
  keep : Keep (fun j => ¬ T j) w A
  vi : Blk A w.heap.size 3 #[.int .i64 i]
  vb : Blk A (w.heap.size + 1) 24 #[.slice none 0 0]
  ve : Blk A (w.heap.size + 1 + 1) 41 #[.int .i64 0]
  sz : w.heap.size + 3 ≤ A.heap.size
theorem ReadS.keepS {T : Nat → Prop} {w A B : World} {g : Nat} {x : Kd} {i : Int} (h : ReadS T w g x i A) {S : Nat → Prop} (hk : Keep S A B) (hS : ∀ k, k < A.heap.size → S k) (hT : ∀ k, T k → k < A.heap.size) : ReadS T w g x i B := by
  refine ⟨h.at'.keep (hk.mono fun k e => hS k (hT k e)), ⟨hk.os.trans h.keep.os, hk.tape.trans h.keep.tape, hk.output.trans h.keep.output, Nat.le_trans h.keep.size hk.size, fun k e hl => ?_⟩, hk.blk h.vi (hS _ (by have := h.sz; omega)), hk.blk h.vb (hS _ (by have := h.sz; omega)), hk.blk h.ve (hS _ (by have := h.sz; omega)), Nat.le_trans h.sz hk.size⟩
  have hl2 : k < A.heap.size := Nat.lt_of_lt_of_le hl h.keep.size
  exact (hk.block k (hS k hl2) hl2).trans (h.keep.block k e hl)
set_option maxHeartbeats 4000000 in
set_option maxRecDepth 100000 in
theorem readQ_fin {T : Nat → Prop} {w W : World} {g N : Nat} {x : Kd} {fn : Func} {tmps : Array Value} {a : Option Addr} {n c : Nat} {E : List Int} (hN : w.heap.size + 3 ≤ N) (hT : ∀ k, T k → k < w.heap.size) (hres : fn.results = #[.cell 4 24, .cell 5 41]) (hb : tmps[4]? = some (.pointer (some ⟨w.heap.size + 1, 0, none⟩))) (he : tmps[5]? = some (.pointer (some ⟨w.heap.size + 1 + 1, 0, none⟩)))
    (h : KAt T W g x ∧ Keep (fun j => ¬ T j) w W ∧ Blk W (w.heap.size + 1) 24 #[.slice a n c] ∧ Blk W (w.heap.size + 1 + 1) 41 #[.int .i64 0] ∧ OwnB W w.heap.size (.slice a n c) E ∧ W.heap[N]? = some (.deferred (some []))) :
    bodyPostM Fence.wide 9 Try.prog fn (ReadQ T w g x E 0) .ret { tmps := tmps, defers := [{ target := .collected N, args := #[] }] } W := by
  obtain ⟨h1, h2, h3, h4, h5, h6⟩ := h
  have hk : Keep (fun k => k ≠ N) W (W.putObj N (.deferred none)) := Keep.putObj _ _ _ _ (by simp)
  refine postM_ret _ h6 (results_read hres hb he ((h3.putOther _ (by omega)).cell 0) ((h4.putOther _ (by omega)).cell 0) ⟨_, _, _, rfl⟩) ?_
  refine ⟨_, rfl, h1.keep (hk.mono fun k e => by have := hT k e; omega), ⟨hk.os.trans h2.os, hk.tape.trans h2.tape, hk.output.trans h2.output, Nat.le_trans h2.size hk.size, fun k e hl => (hk.block k (by omega) (Nat.lt_of_lt_of_le hl h2.size)).trans (h2.block k e hl)⟩, owns_keep h5 hk fun k e e2 => ?_⟩
  have hl := (World.ownsRow.lt h5 k e).2
  obtain ⟨_, ⟨q, _⟩ | ⟨g', cap, cur, q, _, hg, _⟩⟩ := h5
  · rw [q] at e; cases e
  · rw [q] at e
    cases e
    subst e2
    rw [h6] at hg
    cases hg
set_option maxHeartbeats 4000000 in
set_option maxRecDepth 100000 in
theorem readK_ok (T : Nat → Prop) (w : World) (g : Nat) (x : Kd) (i z : Nat) (h : KAt T w g x) (hz : OkL x z) (hd : x.down = false) (hi : i < x.R.length) (hr : x.R.getD i 0 < 9223372036854775807) (hr0 : 0 ≤ x.R.getD i 0) :
    Calls Try.prog 49 #[ptrD g, .int .i64 (i : Int)] w (ReadQ T w g { x with R := x.R.set i (x.R.getD i 0 + 1) } (secZ z i (nowK x.size x.A x.L x.L.length)) 0) := by
  have HX := Lib.hid h
  have HXT := Lib.hid h.lt
  have HZ := Lib.hid hz
  obtain ⟨w3, hw3⟩ : ∃ WW, ((w.alloc (.cells #[.int .i64 (i : Int)] 3)).alloc (.cells #[.slice none 0 0] 24)).alloc (.cells #[.int .i64 0] 41) = WW := ⟨_, rfl⟩
  have H3 : Hid (VarsR w (i : Int) w3) := by rw [← hw3]; exact VarsR.start w i
  have HH := Lib.hid (kHas_c w3 g x (i : Int) (h.grow H3.out.1).blk h.reads.shape)
  have hhi : hasK x.R.length (i : Int) = true := by unfold hasK; simp; omega
  rw [hhi] at HH
  obtain ⟨m, hm⟩ : ∃ m, x.A.length = m := ⟨_, rfl⟩
  obtain ⟨rn, hrn⟩ : ∃ m, x.R.length = m := ⟨_, rfl⟩
  obtain ⟨ga, ca, hsv, hga⟩ := h.all_form hz.pos
  obtain ⟨gr, cr, hrv, hgr⟩ := h.reads_form hz.rlen.1
  have HMM := Lib.hid hm
  have HRN := Lib.hid hrn
  have HTR := Lib.hid hgr
  have HSV : Hid (x.sv = .slice (some ⟨ga, 0, none⟩) m ca) := by rw [hsv, hm]; exact rfl
  have HRV : Hid (x.rv = .slice (some ⟨gr, 0, none⟩) rn cr) := by rw [hrv, hrn]; exact rfl
  obtain ⟨r, hrr⟩ : ∃ r, x.R.getD i 0 = r := ⟨_, rfl⟩
  have HRR := Lib.hid hrr
  rw [hrr] at hr hr0 ⊢
  have e1 : wrap64 (r + 1) = r + 1 := wrapR _ (by omega) (by omega)
  have ER : Hid (IntKind.i64.wrap (r + 1) = r + 1) := (wrap_is _).trans e1
  have HIR : Hid (i < rn) := by rw [← hrn]; exact hi
  have QI : Hid ((0 : Int) ≤ (i : Int) ∧ (i : Int) < (rn : Int)) := ⟨by omega, by have := HIR.out; omega⟩
  have hgrl := h.lt gr hgr
  have HGRN : Hid (w.heap.size ≠ gr ∧ w.heap.size + 1 ≠ gr ∧ w.heap.size + 1 + 1 ≠ gr) := ⟨by omega, by omega, by omega⟩
  -- the bytes of the sector
  obtain ⟨a, ha⟩ : ∃ a, i * z = a := ⟨_, rfl⟩
  obtain ⟨b, hb0⟩ : ∃ b, (i + 1) * z = b := ⟨_, rfl⟩
  obtain ⟨i1, hi1⟩ : ∃ b, i + 1 = b := ⟨_, rfl⟩
  have hab : b = a + z := by rw [← hb0, ← ha, Nat.add_mul, Nat.one_mul]
  have hbm : b ≤ m := by
    rw [← hb0, ← hm, ← hz.rlen.2]
    exact Nat.mul_le_mul_right z hi
  have hca : m ≤ ca := by
    have := h.all
    rw [HSV.out] at this
    exact this.cap _ _ _ rfl
  have hmz := hz.len
  rw [hm] at hmz
  have hz1 := hz.z1
  have HAZ : Hid (a + z ≤ m ∧ i * z = a) := ⟨by omega, ha⟩
  have haz : (i : Int) * (z : Int) = (a : Int) := by rw [← ha]; simp
  have hbz : (i1 : Int) * (z : Int) = (b : Int) := by rw [← hb0, ← hi1]; simp
  have EA : Hid (IntKind.i64.wrap ((i : Int) * (z : Int)) = (a : Int) ∧ IntKind.i64.wrap ((i : Int) + 1) = (i1 : Int) ∧ IntKind.i64.wrap ((i1 : Int) * (z : Int)) = (b : Int)) := by
    have hil : i ≤ 31000 := by have := hz.rlen.2; have := Nat.mul_le_mul_left x.R.length (show 1 ≤ z by omega); omega
    refine ⟨?_, ?_, ?_⟩
    · rw [wrap_is, haz]; exact wrapR _ (by omega) (by omega)
    · rw [wrap_is, wrapR _ (by omega) (by omega)]; omega
    · rw [wrap_is, hbz]; exact wrapR _ (by omega) (by omega)
  have QS : Hid ((0 : Int) ≤ (a : Int) ∧ (a : Int) ≤ (b : Int) ∧ (b : Int) ≤ (ca : Int) ∧ b - a = z ∧ a ≤ b ∧ ¬ ca = a) := ⟨by omega, by omega, by omega, by omega, by omega, by omega⟩
  obtain ⟨d0, d1, d2, d3, d4, d5, d6⟩ := (h.grow H3.out.1).blk.k7
  rw [hd] at d6
  have c3 : w3.cell? ⟨w.heap.size, 0, none⟩ = some (.int .i64 (i : Int)) := H3.out.2.1.cell 0
  clear h hd hi hz hhi hm hrn hga hgr hsv hrv hrr hr hr0 hgrl ha hb0 hi1 hab hbm hca hmz hz1 haz hbz
  refine callsIn_wide.1 (callsIn_of_wp_marks (n := 9) Try.func49 rfl trivial (wpIn_wide.2 ?_))
  simp only [Try.ntmps49, List.size_toArray, List.length_cons, List.length_nil, Nat.reduceAdd, Nat.reduceSub, Array.replicate_succ, Array.replicate_zero, List.push_toArray, List.append_toArray, List.nil_append, List.cons_append]
  go_upto_region 1 with fail
  try rw [hw3]
  clear hw3
  go_wp2_with fail
  refine (HH.out).mono ?_
  rintro e w4 ⟨rfl, hb⟩
  have H4 : Hid (ReadS T w g x (i : Int) w4) := ⟨(HX.out.grow H3.out.1).grow hb, (Keep.of_below H3.out.1).trans (Keep.of_below hb), H3.out.2.1.grow hb, H3.out.2.2.1.grow hb, H3.out.2.2.2.1.grow hb, by have := H3.out.2.2.2.2; have := hb.size; omega⟩
  have HC9 : Hid (∀ W, Below w4.heap.size w4 W → W.cell? ⟨w.heap.size, 0, none⟩ = some (.int .i64 (i : Int)) ∧ W.cell? ⟨g, 3, none⟩ = some (.slice (some ⟨gr, 0, none⟩) rn cr) ∧ W.cell? ⟨gr, i, none⟩ = some (.int .i64 r) ∧ W.frozen? ⟨gr, i, none⟩ = false ∧ gr < W.heap.size) := fun W hW => by
    have own := (H4.out.at'.grow hW).reads
    rw [HRV.out] at own
    obtain ⟨k1, k2, k3⟩ := own.at' HRN.out HIR.out
    rw [HRR.out] at k1
    have q3 := ((H4.out.at'.grow hW).blk.k7).2.2.2.1
    rw [HRV.out] at q3
    exact ⟨(H4.out.vi.grow hW).cell 0, q3, k1, k2, k3⟩
  clear hb d0 d1 d2 d3 d4 d5 d6 c3
  go_upto_region 5 with fail
  refine wp_region_put (by kernel_rfl) (by kernel_rfl) (by kernel_rfl) (fun b' vs w' => (b' 0 = true → vs 0 = .pointer (some ⟨g, 0, none⟩)) ∧ (b' 1 = true → vs 1 = .pointer (some ⟨g, 0, none⟩)) ∧ (b' 2 = true → vs 2 = .pointer (some ⟨g, 3, none⟩)) ∧ (b' 3 = true → vs 3 = .slice (some ⟨gr, 0, none⟩) rn cr) ∧ (b' 4 = true → vs 4 = .int .i64 (i : Int)) ∧ (b' 5 = true → vs 5 = .pointer (some ⟨gr, i, none⟩)) ∧ (b' 6 = true → vs 6 = .int .i64 r) ∧ (b' 7 = true → vs 7 = .int .i64 (r + 1)) ∧ (b' 8 = true → vs 8 = .pointer (some ⟨gr, i, none⟩)) ∧ (b' 9 = false → Hid (Below w4.heap.size w4 w' ∧ w4.heap.size ≤ w'.heap.size)) ∧ (b' 9 = true → Hid (∃ A, w' = A.setCell ⟨gr, i, none⟩ (.int .i64 (r + 1)) ∧ Below w4.heap.size w4 A)) ∧ (b' 8 = true → b' 3 = true) ∧ (b' 8 = true → b' 4 = true) ∧ (b' 7 = true → b' 6 = true) ∧ (b' 9 = true → b' 3 = true) ∧ (b' 9 = true → b' 4 = true) ∧ (b' 9 = true → b' 6 = true)) ?_ ?_ ?_
  · intro vs
    exact ⟨fun h => Bool.noConfusion h, fun h => Bool.noConfusion h, fun h => Bool.noConfusion h, fun h => Bool.noConfusion h, fun h => Bool.noConfusion h, fun h => Bool.noConfusion h, fun h => Bool.noConfusion h, fun h => Bool.noConfusion h, fun h => Bool.noConfusion h, fun _ => Lib.hid ⟨below_drewN (Below.refl _ _) 1, Nat.le_refl _⟩, fun h => Bool.noConfusion h, fun h => Bool.noConfusion h, fun h => Bool.noConfusion h, fun h => Bool.noConfusion h, fun h => Bool.noConfusion h, fun h => Bool.noConfusion h, fun h => Bool.noConfusion h⟩
  · rintro b' vs w' i op hi hun hall ⟨h0, h1, h2, h3, h4, h5, h6, h7, h8, hB, hG, hE8_3, hE8_4, hE7_6, hW3, hW4, hW6⟩
    have hil : i < 10 := (List.getElem?_eq_some_iff.1 hi).1
    rcases i with _ | _ | _ | _ | _ | _ | _ | _ | _ | _ | i
    · obtain rfl := Option.some.inj hi
      clear hi hil
      refine wpOp_step rfl (fun K hK => ?_)
      have HKK := Lib.hid hK; clear hK
      simp only [putAll, Act.put, List.setIfInBounds_toArray, List.set_cons_zero, List.set_cons_succ]
      go_simp
      exact HKK.out _ _ ⟨_, by simp only [putAll, Act.put, List.setIfInBounds_toArray, List.set_cons_zero, List.set_cons_succ] <;> rfl, fun _ => rfl, h1, h2, h3, h4, h5, h6, h7, h8, hB, hG, hE8_3, hE8_4, hE7_6, hW3, hW4, hW6⟩
    · obtain rfl := Option.some.inj hi
      clear hi hil
      have d0 := h0 (hall ⟨0, .data⟩ (by simp) rfl)
      refine wpOp_step rfl (fun K hK => ?_)
      have HKK := Lib.hid hK; clear hK
      simp only [putAll, Act.put, List.setIfInBounds_toArray, List.set_cons_zero, List.set_cons_succ]
      go_simp
      exact HKK.out _ _ ⟨_, by simp only [putAll, Act.put, List.setIfInBounds_toArray, List.set_cons_zero, List.set_cons_succ, d0] <;> rfl, h0, fun _ => rfl, h2, h3, h4, h5, h6, h7, h8, hB, hG, hE8_3, hE8_4, hE7_6, hW3, hW4, hW6⟩
    · obtain rfl := Option.some.inj hi
      clear hi hil
      have d1 := h1 (hall ⟨1, .data⟩ (by simp) rfl)
      refine wpOp_step rfl (fun K hK => ?_)
      have HKK := Lib.hid hK; clear hK
      simp only [putAll, Act.put, List.setIfInBounds_toArray, List.set_cons_zero, List.set_cons_succ]
      go_simp
      exact HKK.out _ _ ⟨_, by simp only [putAll, Act.put, List.setIfInBounds_toArray, List.set_cons_zero, List.set_cons_succ, d1] <;> rfl, h0, h1, fun _ => rfl, h3, h4, h5, h6, h7, h8, hB, hG, hE8_3, hE8_4, hE7_6, hW3, hW4, hW6⟩
    · obtain rfl := Option.some.inj hi
      clear hi hil
      have hap : b' 9 = false := by
        cases hz : b' 9 with
        | false => rfl
        | true => exact absurd (hW3 hz) (by rw [hun]; decide)
      have d2 := h2 (hall ⟨2, .data⟩ (by simp) rfl)
      have m1 := (HC9.out w' (hB hap).out.1).2.1
      refine wpOp_step rfl (fun K hK => ?_)
      have HKK := Lib.hid hK; clear hK
      simp only [putAll, Act.put, List.setIfInBounds_toArray, List.set_cons_zero, List.set_cons_succ]
      go_simp
      exact HKK.out _ _ ⟨_, by simp only [putAll, Act.put, List.setIfInBounds_toArray, List.set_cons_zero, List.set_cons_succ, d2] <;> rfl, h0, h1, h2, fun _ => rfl, h4, h5, h6, h7, h8, hB, hG, fun _ => rfl, hE8_4, hE7_6, fun _ => rfl, hW4, hW6⟩
    · obtain rfl := Option.some.inj hi
      clear hi hil
      have hap : b' 9 = false := by
        cases hz : b' 9 with
        | false => rfl
        | true => exact absurd (hW4 hz) (by rw [hun]; decide)
      have m0 := (HC9.out w' (hB hap).out.1).1
      refine wpOp_step rfl (fun K hK => ?_)
      have HKK := Lib.hid hK; clear hK
      simp only [putAll, Act.put, List.setIfInBounds_toArray, List.set_cons_zero, List.set_cons_succ]
      go_simp
      exact HKK.out _ _ ⟨_, by simp only [putAll, Act.put, List.setIfInBounds_toArray, List.set_cons_zero, List.set_cons_succ] <;> rfl, h0, h1, h2, h3, fun _ => rfl, h5, h6, h7, h8, hB, hG, hE8_3, fun _ => rfl, hE7_6, hW3, fun _ => rfl, hW6⟩
    · obtain rfl := Option.some.inj hi
      clear hi hil
      have d3 := h3 (hall ⟨3, .data⟩ (by simp) rfl)
      have d4 := h4 (hall ⟨4, .data⟩ (by simp) rfl)
      obtain ⟨q0, q1⟩ := QI.out
      refine wpOp_step rfl (fun K hK => ?_)
      have HKK := Lib.hid hK; clear hK
      simp only [putAll, Act.put, List.setIfInBounds_toArray, List.set_cons_zero, List.set_cons_succ]
      go_simp
      exact HKK.out _ _ ⟨_, by simp only [putAll, Act.put, List.setIfInBounds_toArray, List.set_cons_zero, List.set_cons_succ, d3, d4] <;> rfl, h0, h1, h2, h3, h4, fun _ => rfl, h6, h7, h8, hB, hG, hE8_3, hE8_4, hE7_6, hW3, hW4, hW6⟩
    · obtain rfl := Option.some.inj hi
      clear hi hil
      have hap : b' 9 = false := by
        cases hz : b' 9 with
        | false => rfl
        | true => exact absurd (hW6 hz) (by rw [hun]; decide)
      have d5 := h5 (hall ⟨5, .data⟩ (by simp) rfl)
      have m2 := (HC9.out w' (hB hap).out.1).2.2.1
      refine wpOp_step rfl (fun K hK => ?_)
      have HKK := Lib.hid hK; clear hK
      simp only [putAll, Act.put, List.setIfInBounds_toArray, List.set_cons_zero, List.set_cons_succ]
      go_simp
      exact HKK.out _ _ ⟨_, by simp only [putAll, Act.put, List.setIfInBounds_toArray, List.set_cons_zero, List.set_cons_succ, d5] <;> rfl, h0, h1, h2, h3, h4, h5, fun _ => rfl, h7, h8, hB, hG, hE8_3, hE8_4, fun _ => rfl, hW3, hW4, fun _ => rfl⟩
    · obtain rfl := Option.some.inj hi
      clear hi hil
      have d6 := h6 (hall ⟨6, .data⟩ (by simp) rfl)
      refine wpOp_step rfl (fun K hK => ?_)
      have HKK := Lib.hid hK; clear hK
      simp only [putAll, Act.put, List.setIfInBounds_toArray, List.set_cons_zero, List.set_cons_succ]
      go_simp
      exact HKK.out _ _ ⟨_, by simp only [putAll, Act.put, List.setIfInBounds_toArray, List.set_cons_zero, List.set_cons_succ, d6, ER.out] <;> rfl, h0, h1, h2, h3, h4, h5, h6, fun _ => rfl, h8, hB, hG, hE8_3, hE8_4, fun _ => hall ⟨6, .data⟩ (by simp) rfl, hW3, hW4, hW6⟩
    · obtain rfl := Option.some.inj hi
      clear hi hil
      have d3 := h3 (hall ⟨3, .data⟩ (by simp) rfl)
      have d4 := h4 (hall ⟨4, .data⟩ (by simp) rfl)
      obtain ⟨q0, q1⟩ := QI.out
      refine wpOp_step rfl (fun K hK => ?_)
      have HKK := Lib.hid hK; clear hK
      simp only [putAll, Act.put, List.setIfInBounds_toArray, List.set_cons_zero, List.set_cons_succ]
      go_simp
      exact HKK.out _ _ ⟨_, by simp only [putAll, Act.put, List.setIfInBounds_toArray, List.set_cons_zero, List.set_cons_succ, d3, d4] <;> rfl, h0, h1, h2, h3, h4, h5, h6, h7, fun _ => rfl, hB, hG, fun _ => hall ⟨3, .data⟩ (by simp) rfl, fun _ => hall ⟨4, .data⟩ (by simp) rfl, hE7_6, hW3, hW4, hW6⟩
    · obtain rfl := Option.some.inj hi
      clear hi hil
      have hap : b' 9 = false := hun
      have d8 := h8 (hall ⟨8, .data⟩ (by simp) rfl)
      have d7 := h7 (hall ⟨7, .data⟩ (by simp) rfl)
      obtain ⟨_, _, m2, mf, ml⟩ := HC9.out w' (hB hap).out.1
      refine wpOp_step rfl (fun K hK => ?_)
      have HKK := Lib.hid hK; clear hK
      simp only [putAll, Act.put, List.setIfInBounds_toArray, List.set_cons_zero, List.set_cons_succ]
      go_simp
      exact HKK.out _ _ ⟨undef, by simp only [putAll, Act.put, List.setIfInBounds_toArray, List.set_cons_zero, List.set_cons_succ, d8, d7] <;> rfl, h0, h1, h2, h3, h4, h5, h6, h7, h8, fun h => Bool.noConfusion h, fun _ => Lib.hid (⟨_, rfl, (hB hap).out.1⟩), hE8_3, hE8_4, hE7_6, fun _ => hE8_3 (hall ⟨8, .data⟩ (by simp) rfl), fun _ => hE8_4 (hall ⟨8, .data⟩ (by simp) rfl), fun _ => hE7_6 (hall ⟨7, .data⟩ (by simp) rfl)⟩
    · omega
  · rintro b' vs wz hall ⟨h0, h1, h2, h3, h4, h5, h6, h7, h8, hB, hG, hE8_3, hE8_4, hE7_6, hW3, hW4, hW6⟩
    have d0 := h0 (hall 0 (by simp))
    have d1 := h1 (hall 1 (by simp))
    have d2 := h2 (hall 2 (by simp))
    have d3 := h3 (hall 3 (by simp))
    have d4 := h4 (hall 4 (by simp))
    have d5 := h5 (hall 5 (by simp))
    have d6 := h6 (hall 6 (by simp))
    have d7 := h7 (hall 7 (by simp))
    have d8 := h8 (hall 8 (by simp))
    have GG := hG (hall 9 (by simp))
    simp only [putAll, Act.put, List.setIfInBounds_toArray, List.set_cons_zero, List.set_cons_succ, d0, d1, d2, d3, d4, d5, d6, d7, d8]
    clear hall h0 d0 h1 d1 h2 d2 h3 d3 h4 d4 h5 d5 h6 d6 h7 d7 h8 d8 hB hG hE8_3 hE8_4 hE7_6 hW3 hW4 hW6
    obtain ⟨A4, hA4, hb4⟩ := GG.out
    have H5 : Hid (ReadS T w g { x with R := x.R.set i (r + 1) } (i : Int) wz) := by
      rw [hA4]
      have own := ((H4.out.at'.grow hb4).reads)
      rw [HRV.out] at own
      have hk4 : Keep (fun k => k ≠ gr) A4 (A4.setCell ⟨gr, i, none⟩ (.int .i64 (r + 1))) := Keep.setCell _ _ _ (by simp)
      refine ⟨(H4.out.at'.grow hb4).rds (R := x.R.set i (r + 1)) ?_ (hk4.mono fun k hk e => hk (by rw [HRV.out, e]; rfl)), (H4.out.keep.trans (Keep.of_below hb4)).trans (Keep.setCell _ _ _ (by simpa using HTR.out)), (H4.out.vi.grow hb4).other _ _ (HGRN.out.1), (H4.out.vb.grow hb4).other _ _ (HGRN.out.2.1), (H4.out.ve.grow hb4).other _ _ (HGRN.out.2.2), by have := H4.out.sz; have := hb4.size; simp [World.setCell]; omega⟩
      rw [HRV.out]
      exact own.store HRN.out HIR.out _
    clear GG HC9 hA4 hb4
    go_wp2_with fail
    refine (last_c g wz).mono ?_
    rintro e w6 ⟨rfl, hw6⟩
    have H6 : Hid (ReadS T w g { x with R := x.R.set i (r + 1) } (i : Int) w6 ∧ Blk w6 wz.heap.size 38 #[ptrD g] ∧ w6.heap.size = wz.heap.size + 1 ∧ w.heap.size + 3 ≤ wz.heap.size) := by
      rw [← hw6]
      exact ⟨H5.out.keepS (Keep.alloc (fun _ => True) _ _) (fun _ _ => trivial) (fun k hk => H5.out.at'.lt k hk), Blk.new _ _ _, by simp, H5.out.sz⟩
    clear hw6 H5
    obtain ⟨w5, hw5⟩ : ∃ WW, wz = WW := ⟨_, rfl⟩
    rw [hw5] at H6 ⊢
    clear hw5
    obtain ⟨N, hN⟩ : ∃ N, w6.heap.size = N := ⟨_, rfl⟩
    have HN := Lib.hid hN
    have HNN : Hid (w.heap.size + 3 ≤ N) := by unfold Hid; have := H6.out.2.2.1; have := H6.out.2.2.2; omega
    go_wp2_with fail
    refine wp_writes (fnum := 52) (pv := .pointer (some ⟨w5.heap.size, 0, none⟩)) (ok := fun p => p < x.L.length) (it := itW x.L) (nx := fun p => p + 1) (fun k => T k ∨ k = w5.heap.size) rfl rfl ?ks (fun _ _ => by simp [go_sem]) ?it
      (fun p A => Keep (fun j => j < N) w6 A ∧ (∀ q y, x.L.length ≤ q + p → x.L[q]? = some y → y.1 ≠ (i : Int)) ∧ p ≤ x.L.length) ?hI
      (fun A => ∃ ua uc, KAt T A g { x with R := x.R.set i (r + 1) } ∧ Keep (fun j => ¬ T j) w A ∧ Blk A (w.heap.size + 1) 24 #[.slice ua z uc] ∧ Blk A (w.heap.size + 1 + 1) 41 #[.int .i64 0] ∧ OwnB A (N + 2) (.slice ua z uc) (secZ z i (nowK x.size x.A x.L x.L.length)) ∧ N + 2 ≤ A.heap.size) ?hIx ?h0
      (fun y gg => #[ptrD g, .int .i64 (i : Int), undef, .pointer (some ⟨w.heap.size, 0, none⟩), .pointer (some ⟨w.heap.size + 1, 0, none⟩), .pointer (some ⟨w.heap.size + 1 + 1, 0, none⟩), .pointer (some ⟨gg, 0, none⟩), ptrD g, .pointer (some ⟨g, 0, none⟩), .pointer (some ⟨g, 6, none⟩), .bool false, ptrD g, .int .i64 (i : Int), .bool true, .bool false, ptrD g, .pointer (some ⟨g, 0, none⟩), .pointer (some ⟨g, 3, none⟩), .slice (some ⟨gr, 0, none⟩) rn cr, .int .i64 (i : Int), .pointer (some ⟨gr, i, none⟩), .int .i64 r, .int .i64 (r + 1), .pointer (some ⟨gr, i, none⟩), ptrD g, .func (.func 52) #[] #[.pointer (some ⟨w5.heap.size, 0, none⟩)], .agg #[.int .i64 y.1, .slice y.2.1 y.2.2.1 y.2.2.2], undef, undef, undef, undef, undef, undef, undef, undef, undef, undef, undef, undef, undef, undef, undef, undef, undef, undef, undef, undef, undef, undef, undef, undef, undef, undef]) (fun y A => A.alloc (.cells #[.int .i64 y.1, .slice y.2.1 y.2.2.1 y.2.2.2] 81)) (fun _ _ => Keep.alloc _ _ _) ?assign ?body ?done ?stop
    case ks =>
      rintro j (hj | hj)
      · exact H6.out.1.at'.lt j hj
      · have := H6.out.2.2.1; omega
    case it =>
      intro D hk
      exact last1_c T w5.heap.size g _ { x with R := x.R.set i (r + 1) } D (H6.out.1.at'.keep (hk.mono fun _ _ => trivial)) ((hk.blk H6.out.2.1 trivial).lt) (.inr rfl) (fun k h => .inl h) ((hk.blk H6.out.2.1 trivial).cell 0) (by have := HZ.out.few; show x.L.length ≤ 1001; omega)
    case hI =>
      rintro p A B ⟨h1, h2, h3⟩ hk
      exact ⟨h1.trans (hk.mono fun j hj => by have := HN.out; omega), h2, h3⟩
    case hIx =>
      rintro A B ⟨ua, uc, h1, h2, h3, h4, h5, h6⟩ hk
      have hN9 := HN.out
      refine ⟨ua, uc, h1.keep (hk.mono fun j hj => by have := HXT.out j hj; have := HNN.out; omega), ⟨hk.os.trans h2.os, hk.tape.trans h2.tape, hk.output.trans h2.output, Nat.le_trans h2.size hk.size, fun k e hl => (hk.block k (by have := HNN.out; omega) (Nat.lt_of_lt_of_le hl h2.size)).trans (h2.block k e hl)⟩, hk.blk h3 (by have := HNN.out; omega), hk.blk h4 (by have := HNN.out; omega), owns_keep h5 hk (fun k e => by have := (World.ownsRow.lt h5 k e).1; omega), Nat.le_trans h6 hk.size⟩
    case h0 =>
      exact ⟨Keep.refl _ _, fun q y hq hy => by have := (List.getElem?_eq_some_iff.1 hy).1; omega, Nat.zero_le _⟩
    case assign =>
      intro L y A K hK
      simp only [wrArgs]
      gi_wp2
      exact hK
    case stop =>
      rintro D ⟨ua, uc, h1, h2, h3, h4, h5, h6⟩ hD
      rw [HN.out] at hD
      have hq := readQ_fin (fn := Try.f49) (tmps := #[ptrD g, .int .i64 (i : Int), undef, .pointer (some ⟨w.heap.size, 0, none⟩), .pointer (some ⟨w.heap.size + 1, 0, none⟩), .pointer (some ⟨w.heap.size + 1 + 1, 0, none⟩), undef, ptrD g, .pointer (some ⟨g, 0, none⟩), .pointer (some ⟨g, 6, none⟩), .bool false, ptrD g, .int .i64 (i : Int), .bool true, .bool false, ptrD g, .pointer (some ⟨g, 0, none⟩), .pointer (some ⟨g, 3, none⟩), .slice (some ⟨gr, 0, none⟩) rn cr, .int .i64 (i : Int), .pointer (some ⟨gr, i, none⟩), .int .i64 r, .int .i64 (r + 1), .pointer (some ⟨gr, i, none⟩), ptrD g, .func (.func 52) #[] #[.pointer (some ⟨w5.heap.size, 0, none⟩)], undef, undef, undef, undef, undef, undef, undef, undef, undef, undef, undef, undef, undef, undef, undef, undef, undef, undef, undef, undef, undef, undef, undef, undef, undef, undef, undef]) HNN.out HXT.out rfl rfl rfl ⟨h1, h2, h3, h4, owns_base h5 (by have := HNN.out; omega), hD⟩
      rw [HN.out]
      exact hq
    case done =>
      rintro p D hni ⟨h1, h2, h3⟩ hD
      have hno : ∀ y ∈ x.L, y.1 ≠ (i : Int) := fun y hy => by
        obtain ⟨q, hq⟩ := List.mem_iff_getElem?.1 hy
        exact h2 q y (by have := (List.getElem?_eq_some_iff.1 hq).1; omega) hq
      have HSEC : Hid (secZ z i (nowK x.size x.A x.L x.L.length) = secZ z i x.A) := by
        unfold Hid nowK
        rw [List.take_length, HZ.out.size, secZ_skip x.L x.A (fun y hy => by obtain ⟨j, e1, _, e2⟩ := HZ.out.each y hy; exact ⟨j, e1, e2⟩) hno]
      have HDS : Hid (ReadS T w g { x with R := x.R.set i (r + 1) } (i : Int) D) := H6.out.1.keepS h1 (fun k hk => by rw [← HN.out]; exact hk) (fun k hk => H6.out.1.at'.lt k hk)
      rw [HN.out] at hD
      have HDD := Lib.hid hD
      have HCL : Hid (∀ W, Below D.heap.size D W → Calls Try.prog 43 #[.slice (some ⟨ga, a, none⟩) z (ca - a)] W fun e w' => ∃ u, e = .returned u ∧ NewB D.heap.size z (secZ z i x.A) u w' ∧ Below W.heap.size W w') := fun W hW => by
        have hsec : secZ z i x.A = (x.A.drop a).take z := by unfold secZ; rw [HAZ.out.2]
        rw [hsec]
        have own : OwnB W 0 x.sv x.A := ((HDS.out.at'.grow hW).all)
        rw [HSV.out] at own
        obtain ⟨hm1, hm2⟩ := own.mid a z HAZ.out.1
        refine (clone_c _ _ W hm1 (by rw [hm2]; have := HZ.out.z2; omega)).mono ?_
        rintro e w' ⟨u, rfl, ho, hb'⟩
        obtain ⟨ua, uc, e⟩ := ho.shape
        rw [hm2] at e
        have ho2 := owns_base ho hW.size
        rw [e] at ho2
        exact ⟨u, rfl, ⟨ua, uc, e, ho2⟩, hb'⟩
      have HC10 : Hid (∀ W, Below D.heap.size D W → W.cell? ⟨w.heap.size, 0, none⟩ = some (.int .i64 (i : Int)) ∧ W.cell? ⟨g, 1, none⟩ = some (.slice (some ⟨ga, 0, none⟩) m ca) ∧ W.cell? ⟨g, 0, none⟩ = some (.int .i64 (z : Int)) ∧ Blk W (w.heap.size + 1) 24 #[.slice none 0 0] ∧ Blk W (w.heap.size + 1 + 1) 41 #[.int .i64 0]) := fun W hW => by
        obtain ⟨q0, q1, q2, q3, q4, q5, q6⟩ := (HDS.out.at'.grow hW).blk.k7
        have q0' : W.cell? ⟨g, 0, none⟩ = some (.int .i64 x.size) := q0
        have q1' : W.cell? ⟨g, 1, none⟩ = some x.sv := q1
        rw [HZ.out.size] at q0'
        rw [HSV.out] at q1'
        exact ⟨(HDS.out.vi.grow hW).cell 0, q1', q0', HDS.out.vb.grow hW, HDS.out.ve.grow hW⟩
      clear hni h1 h2 h3 hno hD
      dsimp only
      rw [hN]
      go_upto_region 10 with fail
      refine wp_region_put (by kernel_rfl) (by kernel_rfl) (by kernel_rfl) (fun b' vs w' => (b' 0 = true → vs 0 = ptrD g) ∧ (b' 1 = true → vs 1 = .pointer (some ⟨g, 0, none⟩)) ∧ (b' 2 = true → vs 2 = .pointer (some ⟨g, 1, none⟩)) ∧ (b' 3 = true → vs 3 = .slice (some ⟨ga, 0, none⟩) m ca) ∧ (b' 4 = true → vs 4 = .int .i64 (i : Int)) ∧ (b' 5 = true → vs 5 = ptrD g) ∧ (b' 6 = true → vs 6 = .pointer (some ⟨g, 0, none⟩)) ∧ (b' 7 = true → vs 7 = .pointer (some ⟨g, 0, none⟩)) ∧ (b' 8 = true → vs 8 = .int .i64 (z : Int)) ∧ (b' 9 = true → vs 9 = .int .i64 (a : Int)) ∧ (b' 10 = true → vs 10 = .int .i64 (i : Int)) ∧ (b' 11 = true → vs 11 = .int .i64 (i1 : Int)) ∧ (b' 12 = true → vs 12 = ptrD g) ∧ (b' 13 = true → vs 13 = .pointer (some ⟨g, 0, none⟩)) ∧ (b' 14 = true → vs 14 = .pointer (some ⟨g, 0, none⟩)) ∧ (b' 15 = true → vs 15 = .int .i64 (z : Int)) ∧ (b' 16 = true → vs 16 = .int .i64 (b : Int)) ∧ (b' 17 = true → vs 17 = .slice (some ⟨ga, a, none⟩) z (ca - a)) ∧ (b' 18 = true → b' 19 = false → Hid (NewB D.heap.size z (secZ z i x.A) (vs 18) w')) ∧ (b' 19 = false → Hid (Below D.heap.size D w')) ∧ (b' 19 = true → b' 20 = false → Hid (∃ (W0 : World) (ua : Option Addr) (uc : Nat), vs 18 = Value.slice ua z uc ∧ Below D.heap.size D W0 ∧ OwnB W0 D.heap.size (.slice ua z uc) (secZ z i x.A) ∧ w' = W0.setCell ⟨w.heap.size + 1, 0, none⟩ (.slice ua z uc))) ∧ (b' 20 = true → Hid (∃ (W0 : World) (u : Value) (ua : Option Addr) (uc : Nat), u = Value.slice ua z uc ∧ Below D.heap.size D W0 ∧ OwnB W0 D.heap.size (.slice ua z uc) (secZ z i x.A) ∧ w' = (W0.setCell ⟨w.heap.size + 1, 0, none⟩ (.slice ua z uc)).setCell ⟨w.heap.size + 1 + 1, 0, none⟩ (.int .i64 0))) ∧ (b' 18 = true → b' 17 = true) ∧ (b' 17 = true → b' 3 = true) ∧ (b' 17 = true → b' 9 = true) ∧ (b' 9 = true → b' 4 = true) ∧ (b' 9 = true → b' 8 = true) ∧ (b' 17 = true → b' 16 = true) ∧ (b' 16 = true → b' 11 = true) ∧ (b' 11 = true → b' 10 = true) ∧ (b' 16 = true → b' 15 = true) ∧ (b' 19 = true → b' 3 = true) ∧ (b' 19 = true → b' 4 = true) ∧ (b' 19 = true → b' 8 = true) ∧ (b' 19 = true → b' 10 = true) ∧ (b' 19 = true → b' 15 = true) ∧ (b' 19 = true → b' 18 = true) ∧ (b' 20 = true → b' 19 = true)) ?_ ?_ ?_
      · intro vs
        exact ⟨fun h => Bool.noConfusion h, fun h => Bool.noConfusion h, fun h => Bool.noConfusion h, fun h => Bool.noConfusion h, fun h => Bool.noConfusion h, fun h => Bool.noConfusion h, fun h => Bool.noConfusion h, fun h => Bool.noConfusion h, fun h => Bool.noConfusion h, fun h => Bool.noConfusion h, fun h => Bool.noConfusion h, fun h => Bool.noConfusion h, fun h => Bool.noConfusion h, fun h => Bool.noConfusion h, fun h => Bool.noConfusion h, fun h => Bool.noConfusion h, fun h => Bool.noConfusion h, fun h => Bool.noConfusion h, fun h => Bool.noConfusion h, fun _ => Lib.hid (below_drewN (Below.refl _ _) 1), fun h => Bool.noConfusion h, fun h => Bool.noConfusion h, fun h => Bool.noConfusion h, fun h => Bool.noConfusion h, fun h => Bool.noConfusion h, fun h => Bool.noConfusion h, fun h => Bool.noConfusion h, fun h => Bool.noConfusion h, fun h => Bool.noConfusion h, fun h => Bool.noConfusion h, fun h => Bool.noConfusion h, fun h => Bool.noConfusion h, fun h => Bool.noConfusion h, fun h => Bool.noConfusion h, fun h => Bool.noConfusion h, fun h => Bool.noConfusion h, fun h => Bool.noConfusion h, fun h => Bool.noConfusion h⟩
      · rintro b' vs w' i op hi hun hall ⟨h0, h1, h2, h3, h4, h5, h6, h7, h8, h9, h10, h11, h12, h13, h14, h15, h16, h17, y18, hF, yA, yS, hE18_17, hE17_3, hE17_9, hE9_4, hE9_8, hE17_16, hE16_11, hE11_10, hE16_15, hW3, hW4, hW8, hW10, hW15, hW18, hX⟩
        have hil : i < 21 := (List.getElem?_eq_some_iff.1 hi).1
        rcases i with _ | _ | _ | _ | _ | _ | _ | _ | _ | _ | _ | _ | _ | _ | _ | _ | _ | _ | _ | _ | _ | i
        · obtain rfl := Option.some.inj hi
          clear hi hil
          refine wpOp_step rfl (fun K hK => ?_)
          have HKK := Lib.hid hK; clear hK
          simp only [putAll, Act.put, List.setIfInBounds_toArray, List.set_cons_zero, List.set_cons_succ]
          go_simp
          exact HKK.out _ _ ⟨_, by simp only [putAll, Act.put, List.setIfInBounds_toArray, List.set_cons_zero, List.set_cons_succ] <;> rfl, fun _ => rfl, h1, h2, h3, h4, h5, h6, h7, h8, h9, h10, h11, h12, h13, h14, h15, h16, h17, y18, hF, yA, yS, hE18_17, hE17_3, hE17_9, hE9_4, hE9_8, hE17_16, hE16_11, hE11_10, hE16_15, hW3, hW4, hW8, hW10, hW15, hW18, hX⟩
        · obtain rfl := Option.some.inj hi
          clear hi hil
          have d0 := h0 (hall ⟨0, .data⟩ (by simp) rfl)
          refine wpOp_step rfl (fun K hK => ?_)
          have HKK := Lib.hid hK; clear hK
          simp only [putAll, Act.put, List.setIfInBounds_toArray, List.set_cons_zero, List.set_cons_succ]
          go_simp
          exact HKK.out _ _ ⟨_, by simp only [putAll, Act.put, List.setIfInBounds_toArray, List.set_cons_zero, List.set_cons_succ, d0] <;> rfl, h0, fun _ => rfl, h2, h3, h4, h5, h6, h7, h8, h9, h10, h11, h12, h13, h14, h15, h16, h17, y18, hF, yA, yS, hE18_17, hE17_3, hE17_9, hE9_4, hE9_8, hE17_16, hE16_11, hE11_10, hE16_15, hW3, hW4, hW8, hW10, hW15, hW18, hX⟩
        · obtain rfl := Option.some.inj hi
          clear hi hil
          have d1 := h1 (hall ⟨1, .data⟩ (by simp) rfl)
          refine wpOp_step rfl (fun K hK => ?_)
          have HKK := Lib.hid hK; clear hK
          simp only [putAll, Act.put, List.setIfInBounds_toArray, List.set_cons_zero, List.set_cons_succ]
          go_simp
          exact HKK.out _ _ ⟨_, by simp only [putAll, Act.put, List.setIfInBounds_toArray, List.set_cons_zero, List.set_cons_succ, d1] <;> rfl, h0, h1, fun _ => rfl, h3, h4, h5, h6, h7, h8, h9, h10, h11, h12, h13, h14, h15, h16, h17, y18, hF, yA, yS, hE18_17, hE17_3, hE17_9, hE9_4, hE9_8, hE17_16, hE16_11, hE11_10, hE16_15, hW3, hW4, hW8, hW10, hW15, hW18, hX⟩
        · obtain rfl := Option.some.inj hi
          clear hi hil
          have d2 := h2 (hall ⟨2, .data⟩ (by simp) rfl)
          have na : b' 19 = false := by
            cases hz : b' 19 with
            | false => rfl
            | true => exact absurd (hW3 hz) (by rw [hun]; decide)
          have hS := hF na
          have kk := (HC10.out w' hS.out)
          have k1 := kk.2.1
          refine wpOp_step rfl (fun K hK => ?_)
          have HKK := Lib.hid hK; clear hK
          simp only [putAll, Act.put, List.setIfInBounds_toArray, List.set_cons_zero, List.set_cons_succ]
          go_simp
          exact HKK.out _ _ ⟨_, by simp only [putAll, Act.put, List.setIfInBounds_toArray, List.set_cons_zero, List.set_cons_succ, d2] <;> rfl, h0, h1, h2, fun _ => rfl, h4, h5, h6, h7, h8, h9, h10, h11, h12, h13, h14, h15, h16, h17, y18, hF, yA, yS, hE18_17, fun _ => rfl, hE17_9, hE9_4, hE9_8, hE17_16, hE16_11, hE11_10, hE16_15, fun _ => rfl, hW4, hW8, hW10, hW15, hW18, hX⟩
        · obtain rfl := Option.some.inj hi
          clear hi hil
          have na : b' 19 = false := by
            cases hz : b' 19 with
            | false => rfl
            | true => exact absurd (hW4 hz) (by rw [hun]; decide)
          have hS := hF na
          have kk := (HC10.out w' hS.out)
          have k0 := kk.1
          refine wpOp_step rfl (fun K hK => ?_)
          have HKK := Lib.hid hK; clear hK
          simp only [putAll, Act.put, List.setIfInBounds_toArray, List.set_cons_zero, List.set_cons_succ]
          go_simp
          exact HKK.out _ _ ⟨_, by simp only [putAll, Act.put, List.setIfInBounds_toArray, List.set_cons_zero, List.set_cons_succ] <;> rfl, h0, h1, h2, h3, fun _ => rfl, h5, h6, h7, h8, h9, h10, h11, h12, h13, h14, h15, h16, h17, y18, hF, yA, yS, hE18_17, hE17_3, hE17_9, fun _ => rfl, hE9_8, hE17_16, hE16_11, hE11_10, hE16_15, hW3, fun _ => rfl, hW8, hW10, hW15, hW18, hX⟩
        · obtain rfl := Option.some.inj hi
          clear hi hil
          refine wpOp_step rfl (fun K hK => ?_)
          have HKK := Lib.hid hK; clear hK
          simp only [putAll, Act.put, List.setIfInBounds_toArray, List.set_cons_zero, List.set_cons_succ]
          go_simp
          exact HKK.out _ _ ⟨_, by simp only [putAll, Act.put, List.setIfInBounds_toArray, List.set_cons_zero, List.set_cons_succ] <;> rfl, h0, h1, h2, h3, h4, fun _ => rfl, h6, h7, h8, h9, h10, h11, h12, h13, h14, h15, h16, h17, y18, hF, yA, yS, hE18_17, hE17_3, hE17_9, hE9_4, hE9_8, hE17_16, hE16_11, hE11_10, hE16_15, hW3, hW4, hW8, hW10, hW15, hW18, hX⟩
        · obtain rfl := Option.some.inj hi
          clear hi hil
          have d5 := h5 (hall ⟨5, .data⟩ (by simp) rfl)
          refine wpOp_step rfl (fun K hK => ?_)
          have HKK := Lib.hid hK; clear hK
          simp only [putAll, Act.put, List.setIfInBounds_toArray, List.set_cons_zero, List.set_cons_succ]
          go_simp
          exact HKK.out _ _ ⟨_, by simp only [putAll, Act.put, List.setIfInBounds_toArray, List.set_cons_zero, List.set_cons_succ, d5] <;> rfl, h0, h1, h2, h3, h4, h5, fun _ => rfl, h7, h8, h9, h10, h11, h12, h13, h14, h15, h16, h17, y18, hF, yA, yS, hE18_17, hE17_3, hE17_9, hE9_4, hE9_8, hE17_16, hE16_11, hE11_10, hE16_15, hW3, hW4, hW8, hW10, hW15, hW18, hX⟩
        · obtain rfl := Option.some.inj hi
          clear hi hil
          have d6 := h6 (hall ⟨6, .data⟩ (by simp) rfl)
          refine wpOp_step rfl (fun K hK => ?_)
          have HKK := Lib.hid hK; clear hK
          simp only [putAll, Act.put, List.setIfInBounds_toArray, List.set_cons_zero, List.set_cons_succ]
          go_simp
          exact HKK.out _ _ ⟨_, by simp only [putAll, Act.put, List.setIfInBounds_toArray, List.set_cons_zero, List.set_cons_succ, d6] <;> rfl, h0, h1, h2, h3, h4, h5, h6, fun _ => rfl, h8, h9, h10, h11, h12, h13, h14, h15, h16, h17, y18, hF, yA, yS, hE18_17, hE17_3, hE17_9, hE9_4, hE9_8, hE17_16, hE16_11, hE11_10, hE16_15, hW3, hW4, hW8, hW10, hW15, hW18, hX⟩
        · obtain rfl := Option.some.inj hi
          clear hi hil
          have d7 := h7 (hall ⟨7, .data⟩ (by simp) rfl)
          have na : b' 19 = false := by
            cases hz : b' 19 with
            | false => rfl
            | true => exact absurd (hW8 hz) (by rw [hun]; decide)
          have hS := hF na
          have kk := (HC10.out w' hS.out)
          have k2 := kk.2.2.1
          refine wpOp_step rfl (fun K hK => ?_)
          have HKK := Lib.hid hK; clear hK
          simp only [putAll, Act.put, List.setIfInBounds_toArray, List.set_cons_zero, List.set_cons_succ]
          go_simp
          exact HKK.out _ _ ⟨_, by simp only [putAll, Act.put, List.setIfInBounds_toArray, List.set_cons_zero, List.set_cons_succ, d7] <;> rfl, h0, h1, h2, h3, h4, h5, h6, h7, fun _ => rfl, h9, h10, h11, h12, h13, h14, h15, h16, h17, y18, hF, yA, yS, hE18_17, hE17_3, hE17_9, hE9_4, fun _ => rfl, hE17_16, hE16_11, hE11_10, hE16_15, hW3, hW4, fun _ => rfl, hW10, hW15, hW18, hX⟩
        · obtain rfl := Option.some.inj hi
          clear hi hil
          have d4 := h4 (hall ⟨4, .data⟩ (by simp) rfl)
          have d8 := h8 (hall ⟨8, .data⟩ (by simp) rfl)
          refine wpOp_step rfl (fun K hK => ?_)
          have HKK := Lib.hid hK; clear hK
          simp only [putAll, Act.put, List.setIfInBounds_toArray, List.set_cons_zero, List.set_cons_succ]
          go_simp
          exact HKK.out _ _ ⟨_, by simp only [putAll, Act.put, List.setIfInBounds_toArray, List.set_cons_zero, List.set_cons_succ, d4, d8, EA.out.1] <;> rfl, h0, h1, h2, h3, h4, h5, h6, h7, h8, fun _ => rfl, h10, h11, h12, h13, h14, h15, h16, h17, y18, hF, yA, yS, hE18_17, hE17_3, fun _ => rfl, fun _ => hall ⟨4, .data⟩ (by simp) rfl, fun _ => hall ⟨8, .data⟩ (by simp) rfl, hE17_16, hE16_11, hE11_10, hE16_15, hW3, hW4, hW8, hW10, hW15, hW18, hX⟩
        · obtain rfl := Option.some.inj hi
          clear hi hil
          have na : b' 19 = false := by
            cases hz : b' 19 with
            | false => rfl
            | true => exact absurd (hW10 hz) (by rw [hun]; decide)
          have hS := hF na
          have kk := (HC10.out w' hS.out)
          have k0 := kk.1
          refine wpOp_step rfl (fun K hK => ?_)
          have HKK := Lib.hid hK; clear hK
          simp only [putAll, Act.put, List.setIfInBounds_toArray, List.set_cons_zero, List.set_cons_succ]
          go_simp
          exact HKK.out _ _ ⟨_, by simp only [putAll, Act.put, List.setIfInBounds_toArray, List.set_cons_zero, List.set_cons_succ] <;> rfl, h0, h1, h2, h3, h4, h5, h6, h7, h8, h9, fun _ => rfl, h11, h12, h13, h14, h15, h16, h17, y18, hF, yA, yS, hE18_17, hE17_3, hE17_9, hE9_4, hE9_8, hE17_16, hE16_11, fun _ => rfl, hE16_15, hW3, hW4, hW8, fun _ => rfl, hW15, hW18, hX⟩
        · obtain rfl := Option.some.inj hi
          clear hi hil
          have d10 := h10 (hall ⟨10, .data⟩ (by simp) rfl)
          refine wpOp_step rfl (fun K hK => ?_)
          have HKK := Lib.hid hK; clear hK
          simp only [putAll, Act.put, List.setIfInBounds_toArray, List.set_cons_zero, List.set_cons_succ]
          go_simp
          exact HKK.out _ _ ⟨_, by simp only [putAll, Act.put, List.setIfInBounds_toArray, List.set_cons_zero, List.set_cons_succ, d10, EA.out.2.1] <;> rfl, h0, h1, h2, h3, h4, h5, h6, h7, h8, h9, h10, fun _ => rfl, h12, h13, h14, h15, h16, h17, y18, hF, yA, yS, hE18_17, hE17_3, hE17_9, hE9_4, hE9_8, hE17_16, fun _ => rfl, fun _ => hall ⟨10, .data⟩ (by simp) rfl, hE16_15, hW3, hW4, hW8, hW10, hW15, hW18, hX⟩
        · obtain rfl := Option.some.inj hi
          clear hi hil
          refine wpOp_step rfl (fun K hK => ?_)
          have HKK := Lib.hid hK; clear hK
          simp only [putAll, Act.put, List.setIfInBounds_toArray, List.set_cons_zero, List.set_cons_succ]
          go_simp
          exact HKK.out _ _ ⟨_, by simp only [putAll, Act.put, List.setIfInBounds_toArray, List.set_cons_zero, List.set_cons_succ] <;> rfl, h0, h1, h2, h3, h4, h5, h6, h7, h8, h9, h10, h11, fun _ => rfl, h13, h14, h15, h16, h17, y18, hF, yA, yS, hE18_17, hE17_3, hE17_9, hE9_4, hE9_8, hE17_16, hE16_11, hE11_10, hE16_15, hW3, hW4, hW8, hW10, hW15, hW18, hX⟩
        · obtain rfl := Option.some.inj hi
          clear hi hil
          have d12 := h12 (hall ⟨12, .data⟩ (by simp) rfl)
          refine wpOp_step rfl (fun K hK => ?_)
          have HKK := Lib.hid hK; clear hK
          simp only [putAll, Act.put, List.setIfInBounds_toArray, List.set_cons_zero, List.set_cons_succ]
          go_simp
          exact HKK.out _ _ ⟨_, by simp only [putAll, Act.put, List.setIfInBounds_toArray, List.set_cons_zero, List.set_cons_succ, d12] <;> rfl, h0, h1, h2, h3, h4, h5, h6, h7, h8, h9, h10, h11, h12, fun _ => rfl, h14, h15, h16, h17, y18, hF, yA, yS, hE18_17, hE17_3, hE17_9, hE9_4, hE9_8, hE17_16, hE16_11, hE11_10, hE16_15, hW3, hW4, hW8, hW10, hW15, hW18, hX⟩
        · obtain rfl := Option.some.inj hi
          clear hi hil
          have d13 := h13 (hall ⟨13, .data⟩ (by simp) rfl)
          refine wpOp_step rfl (fun K hK => ?_)
          have HKK := Lib.hid hK; clear hK
          simp only [putAll, Act.put, List.setIfInBounds_toArray, List.set_cons_zero, List.set_cons_succ]
          go_simp
          exact HKK.out _ _ ⟨_, by simp only [putAll, Act.put, List.setIfInBounds_toArray, List.set_cons_zero, List.set_cons_succ, d13] <;> rfl, h0, h1, h2, h3, h4, h5, h6, h7, h8, h9, h10, h11, h12, h13, fun _ => rfl, h15, h16, h17, y18, hF, yA, yS, hE18_17, hE17_3, hE17_9, hE9_4, hE9_8, hE17_16, hE16_11, hE11_10, hE16_15, hW3, hW4, hW8, hW10, hW15, hW18, hX⟩
        · obtain rfl := Option.some.inj hi
          clear hi hil
          have d14 := h14 (hall ⟨14, .data⟩ (by simp) rfl)
          have na : b' 19 = false := by
            cases hz : b' 19 with
            | false => rfl
            | true => exact absurd (hW15 hz) (by rw [hun]; decide)
          have hS := hF na
          have kk := (HC10.out w' hS.out)
          have k2 := kk.2.2.1
          refine wpOp_step rfl (fun K hK => ?_)
          have HKK := Lib.hid hK; clear hK
          simp only [putAll, Act.put, List.setIfInBounds_toArray, List.set_cons_zero, List.set_cons_succ]
          go_simp
          exact HKK.out _ _ ⟨_, by simp only [putAll, Act.put, List.setIfInBounds_toArray, List.set_cons_zero, List.set_cons_succ, d14] <;> rfl, h0, h1, h2, h3, h4, h5, h6, h7, h8, h9, h10, h11, h12, h13, h14, fun _ => rfl, h16, h17, y18, hF, yA, yS, hE18_17, hE17_3, hE17_9, hE9_4, hE9_8, hE17_16, hE16_11, hE11_10, fun _ => rfl, hW3, hW4, hW8, hW10, fun _ => rfl, hW18, hX⟩
        · obtain rfl := Option.some.inj hi
          clear hi hil
          have d11 := h11 (hall ⟨11, .data⟩ (by simp) rfl)
          have d15 := h15 (hall ⟨15, .data⟩ (by simp) rfl)
          refine wpOp_step rfl (fun K hK => ?_)
          have HKK := Lib.hid hK; clear hK
          simp only [putAll, Act.put, List.setIfInBounds_toArray, List.set_cons_zero, List.set_cons_succ]
          go_simp
          exact HKK.out _ _ ⟨_, by simp only [putAll, Act.put, List.setIfInBounds_toArray, List.set_cons_zero, List.set_cons_succ, d11, d15, EA.out.2.2] <;> rfl, h0, h1, h2, h3, h4, h5, h6, h7, h8, h9, h10, h11, h12, h13, h14, h15, fun _ => rfl, h17, y18, hF, yA, yS, hE18_17, hE17_3, hE17_9, hE9_4, hE9_8, fun _ => rfl, fun _ => hall ⟨11, .data⟩ (by simp) rfl, hE11_10, fun _ => hall ⟨15, .data⟩ (by simp) rfl, hW3, hW4, hW8, hW10, hW15, hW18, hX⟩
        · obtain rfl := Option.some.inj hi
          clear hi hil
          have d3 := h3 (hall ⟨3, .data⟩ (by simp) rfl)
          have d9 := h9 (hall ⟨9, .data⟩ (by simp) rfl)
          have d16 := h16 (hall ⟨16, .data⟩ (by simp) rfl)
          obtain ⟨q0, q1, q2, q3, q4, q5⟩ := QS.out
          refine wpOp_step rfl (fun K hK => ?_)
          have HKK := Lib.hid hK; clear hK
          simp only [putAll, Act.put, List.setIfInBounds_toArray, List.set_cons_zero, List.set_cons_succ]
          go_simp
          exact HKK.out _ _ ⟨_, by simp only [putAll, Act.put, List.setIfInBounds_toArray, List.set_cons_zero, List.set_cons_succ, d3, d9, d16] <;> rfl, h0, h1, h2, h3, h4, h5, h6, h7, h8, h9, h10, h11, h12, h13, h14, h15, h16, fun _ => rfl, y18, hF, yA, yS, fun _ => rfl, fun _ => hall ⟨3, .data⟩ (by simp) rfl, fun _ => hall ⟨9, .data⟩ (by simp) rfl, hE9_4, hE9_8, fun _ => hall ⟨16, .data⟩ (by simp) rfl, hE16_11, hE11_10, hE16_15, hW3, hW4, hW8, hW10, hW15, hW18, hX⟩
        · obtain rfl := Option.some.inj hi
          clear hi hil
          have d17 := h17 (hall ⟨17, .data⟩ (by simp) rfl)
          have na : b' 19 = false := by
            cases hz : b' 19 with
            | false => rfl
            | true => exact absurd (hW18 hz) (by rw [hun]; decide)
          have hS := hF na
          refine wpOp_step rfl (fun K hK => ?_)
          have HKK := Lib.hid hK; clear hK
          simp only [putAll, Act.put, List.setIfInBounds_toArray, List.set_cons_zero, List.set_cons_succ]
          go_simp
          refine (HCL.out w' hS.out).mono ?_
          rintro e w2 ⟨u2, rfl, ho2, hb2⟩
          exact HKK.out _ _ ⟨_, by simp only [putAll, Act.put, List.setIfInBounds_toArray, List.set_cons_zero, List.set_cons_succ, d17] <;> rfl, h0, h1, h2, h3, h4, h5, h6, h7, h8, h9, h10, h11, h12, h13, h14, h15, h16, h17, fun _ _ => Lib.hid (ho2), fun ha => Lib.hid (hS.out.trans (hb2.mono hS.out.size)), fun h => absurd (show b' 19 = true from h) (by rw [na]; decide), fun h => absurd (hX (show b' 20 = true from h)) (by rw [na]; decide), fun _ => hall ⟨17, .data⟩ (by simp) rfl, hE17_3, hE17_9, hE9_4, hE9_8, hE17_16, hE16_11, hE11_10, hE16_15, hW3, hW4, hW8, hW10, hW15, fun _ => rfl, hX⟩
        · obtain rfl := Option.some.inj hi
          clear hi hil
          have hS := hF hun
          have o18 := y18 (hall ⟨18, .data⟩ (by simp) rfl) hun
          obtain ⟨ua, uc, e18, ho18⟩ := o18.out
          have kk := HC10.out w' hS.out
          have c4 := kk.2.2.2.1.cell 0
          have f4 := kk.2.2.2.1.free 0
          have l4 := kk.2.2.2.1.lt
          refine wpOp_step rfl (fun K hK => ?_)
          have HKK := Lib.hid hK; clear hK
          simp only [putAll, Act.put, List.setIfInBounds_toArray, List.set_cons_zero, List.set_cons_succ]
          go_simp
          exact HKK.out _ _ ⟨undef, by simp only [putAll, Act.put, List.setIfInBounds_toArray, List.set_cons_zero, List.set_cons_succ, e18] <;> rfl, h0, h1, h2, h3, h4, h5, h6, h7, h8, h9, h10, h11, h12, h13, h14, h15, h16, h17, fun _ h => Bool.noConfusion h, fun h => Bool.noConfusion h, fun _ _ => Lib.hid (⟨_, _, _, e18, hS.out, ho18, rfl⟩), fun h => absurd (hX (show b' 20 = true from h)) (by rw [hun]; decide), hE18_17, hE17_3, hE17_9, hE9_4, hE9_8, hE17_16, hE16_11, hE11_10, hE16_15, fun _ => hE17_3 (hE18_17 (hall ⟨18, .data⟩ (by simp) rfl)), fun _ => hE9_4 (hE17_9 (hE18_17 (hall ⟨18, .data⟩ (by simp) rfl))), fun _ => hE9_8 (hE17_9 (hE18_17 (hall ⟨18, .data⟩ (by simp) rfl))), fun _ => hE11_10 (hE16_11 (hE17_16 (hE18_17 (hall ⟨18, .data⟩ (by simp) rfl)))), fun _ => hE16_15 (hE17_16 (hE18_17 (hall ⟨18, .data⟩ (by simp) rfl))), fun _ => hall ⟨18, .data⟩ (by simp) rfl, fun _ => rfl⟩
        · obtain rfl := Option.some.inj hi
          clear hi hil
          have ta : b' 19 = true := hall ⟨19, .chain⟩ (by simp) rfl
          have oA := yA ta hun
          have q3 := h3 (hW3 ta)
          have q4 := h4 (hW4 ta)
          have q8 := h8 (hW8 ta)
          have q10 := h10 (hW10 ta)
          have q15 := h15 (hW15 ta)
          obtain ⟨W0, ua, uc, e18, hbW, ho18, hw'⟩ := oA.out
          have kk := HC10.out W0 hbW
          have b5 := kk.2.2.2.2.other ⟨w.heap.size + 1, 0, none⟩ (.slice ua z uc) (by simp)
          rw [← hw'] at b5
          have c5 := b5.cell 0
          have f5 := b5.free 0
          have l5 := b5.lt
          have c6 := kk.2.2.2.2.cell 0
          have f6 := kk.2.2.2.2.free 0
          have l6 := kk.2.2.2.2.lt
          refine wpOp_step rfl (fun K hK => ?_)
          have HKK := Lib.hid hK; clear hK
          simp only [putAll, Act.put, List.setIfInBounds_toArray, List.set_cons_zero, List.set_cons_succ]
          go_simp
          exact HKK.out _ _ ⟨undef, by simp only [putAll, Act.put, List.setIfInBounds_toArray, List.set_cons_zero, List.set_cons_succ, e18, q3, q4, q8, q10, q15] <;> rfl, h0, h1, h2, h3, h4, h5, h6, h7, h8, h9, h10, h11, h12, h13, h14, h15, h16, h17, fun _ h => absurd (show b' 19 = false from h) (by rw [ta]; decide), fun h => absurd (show b' 19 = false from h) (by rw [ta]; decide), fun _ h => Bool.noConfusion h, fun _ => Lib.hid (⟨W0, _, ua, uc, e18, hbW, ho18, rfl⟩), hE18_17, hE17_3, hE17_9, hE9_4, hE9_8, hE17_16, hE16_11, hE11_10, hE16_15, hW3, hW4, hW8, hW10, hW15, hW18, fun _ => ta⟩
        · omega
      · rintro b' vs w9 hall ⟨h0, h1, h2, h3, h4, h5, h6, h7, h8, h9, h10, h11, h12, h13, h14, h15, h16, h17, y18, hF, yA, yS, hE18_17, hE17_3, hE17_9, hE9_4, hE9_8, hE17_16, hE16_11, hE11_10, hE16_15, hW3, hW4, hW8, hW10, hW15, hW18, hX⟩
        have d0 := h0 (hall 0 (by simp))
        have d1 := h1 (hall 1 (by simp))
        have d2 := h2 (hall 2 (by simp))
        have d3 := h3 (hall 3 (by simp))
        have d4 := h4 (hall 4 (by simp))
        have d5 := h5 (hall 5 (by simp))
        have d6 := h6 (hall 6 (by simp))
        have d7 := h7 (hall 7 (by simp))
        have d8 := h8 (hall 8 (by simp))
        have d9 := h9 (hall 9 (by simp))
        have d10 := h10 (hall 10 (by simp))
        have d11 := h11 (hall 11 (by simp))
        have d12 := h12 (hall 12 (by simp))
        have d13 := h13 (hall 13 (by simp))
        have d14 := h14 (hall 14 (by simp))
        have d15 := h15 (hall 15 (by simp))
        have d16 := h16 (hall 16 (by simp))
        have d17 := h17 (hall 17 (by simp))
        have PP := yS (hall 20 (by simp))
        simp only [putAll, Act.put, List.setIfInBounds_toArray, List.set_cons_zero, List.set_cons_succ, d0, d1, d2, d3, d4, d5, d6, d7, d8, d9, d10, d11, d12, d13, d14, d15, d16, d17]
        clear hall h0 d0 h1 d1 h2 d2 h3 d3 h4 d4 h5 d5 h6 d6 h7 d7 h8 d8 h9 d9 h10 d10 h11 d11 h12 d12 h13 d13 h14 d14 h15 d15 h16 d16 h17 d17 y18 hF yA yS hE18_17 hE17_3 hE17_9 hE9_4 hE9_8 hE17_16 hE16_11 hE11_10 hE16_15 hW3 hW4 hW8 hW10 hW15 hW18 hX
        generalize vs 18 = vM18 at *
        generalize vs 19 = vM19 at *
        obtain ⟨W0, u0, ua, uc, e18, hbW, ho18, hw'⟩ := PP.out
        have hRS := HDS.out.keepS (Keep.of_below (S := fun _ => True) hbW) (fun _ _ => trivial) (fun k hk => HDS.out.at'.lt k hk)
        obtain ⟨q1, q2, q3, q4, q5⟩ := vars_done HXT.out hRS.at' hRS.keep hRS.vb hRS.ve (.slice ua z uc) 0 _ (owns_base ho18 (Nat.le_trans (by have := HDS.out.sz; omega) (Nat.le_refl D.heap.size)))
        rw [← hw'] at q1 q2 q3 q4 q5
        have hdf : w9.heap[N]? = some (.deferred (some [])) := by
          have hlt := (Array.getElem?_eq_some_iff.1 HDD.out).1
          have e1 := (hbW.block N hlt).trans HDD.out
          rw [hw']
          exact ((Keep.setCell (S := fun k => k ≠ w.heap.size + 1 ∧ k ≠ w.heap.size + 1 + 1) W0 ⟨w.heap.size + 1, 0, none⟩ _ (by simp)).trans (Keep.setCell _ ⟨w.heap.size + 1 + 1, 0, none⟩ _ (by simp))).block N (by have := HNN.out; omega) (by have := hbW.size; omega) |>.trans e1
        have HQ := Lib.hid (And.intro q1 (And.intro q2 (And.intro q3 (And.intro q4 (And.intro q5 hdf)))))
        clear PP e18 hbW ho18 hw' hRS q1 q2 q3 q4 q5 hdf
        go_wp2_with fail
        rw [HSEC.out]
        exact readQ_fin HNN.out HXT.out rfl rfl rfl HQ.out

    case body =>
      rintro L p A o B hp ⟨h1, h2, h3⟩ hN2 hB
      obtain ⟨q, hq⟩ : ∃ q, x.L.length - 1 - p = q := ⟨_, rfl⟩
      obtain ⟨y, hy⟩ : ∃ y, x.L[q]? = some y := ⟨_, List.getElem?_eq_getElem (by omega)⟩
      have hmem := List.mem_of_getElem? hy
      rw [HN.out] at hB hN2
      obtain ⟨j, hj, _, hjl⟩ := HZ.out.each y hmem
      have hkA : ReadS T w g { x with R := x.R.set i (r + 1) } (i : Int) A := H6.out.1.keepS h1 (fun k hk => by rw [← HN.out]; exact hk) (fun k hk => H6.out.1.at'.lt k hk)
      obtain ⟨bo, bc, hbv⟩ := ((hkA.at'.byts y hmem).1.row).shape
      have hit : itW x.L p = (y.1, bo, y.2.2.length, bc) := itW_at hq hy hbv
      rw [hit] at hB ⊢
      rw [hjl] at hB hbv ⊢
      dsimp only at hB ⊢
      have kAB : Keep (fun k => k ≠ N + 1) A B := by rw [hB]; exact (Keep.alloc _ _ _).trans (Keep.putObj _ _ _ _ (by simp))
      have bv : Blk B A.heap.size 81 #[.int .i64 y.1, .slice bo z bc] := by rw [hB]; exact (Blk.new _ _ _).putOther _ (by omega)
      have k6B : Keep (fun j => j < N) w6 B := h1.trans (kAB.mono fun j hj => by omega)
      have hRB : ReadS T w g { x with R := x.R.set i (r + 1) } (i : Int) B := H6.out.1.keepS k6B (fun k hk => by rw [← HN.out]; exact hk) (fun k hk => H6.out.1.at'.lt k hk)
      have HRB := Lib.hid hRB
      have K6B := Lib.hid k6B
      have HNB : Hid (N + 2 ≤ B.heap.size) := Nat.le_trans hN2 kAB.size
      have HI2 := Lib.hid (And.intro h2 h3)
      have HY := Lib.hid (And.intro hy (And.intro hq hp))
      have hrb : RowB B (.slice bo z bc) y.2.2 := by rw [← hbv]; exact ((hRB.at'.byts y hmem).1.row)
      have HCB := Lib.hid (clone_c _ y.2.2 B hrb (by have := HZ.out.z2; omega))
      have HW5 : Hid (w6.heap.size = w5.heap.size + 1 ∧ w.heap.size + 3 ≤ w5.heap.size) := H6.out.2.2
      have c0 : B.cell? ⟨A.heap.size, 0, none⟩ = some (.int .i64 y.1) := bv.cell 0
      have c1 : B.cell? ⟨A.heap.size, 1, none⟩ = some (.slice bo z bc) := bv.cell 1
      have c3 : B.cell? ⟨w.heap.size, 0, none⟩ = some (.int .i64 (i : Int)) := hRB.vi.cell 0
      have HLEN : Hid (y.2.2.length = z) := hjl
      have HEW : Hid (EachW z x.L) := fun y hy => by obtain ⟨j, e1, _, e2⟩ := HZ.out.each y hy; exact ⟨j, e1, e2⟩
      by_cases he : y.1 = (i : Int)
      · have hee : (y.1 == (i : Int)) = true := by simpa using he
        have HE := Lib.hid he
        have HSEC : Hid (secZ z i (nowK x.size x.A x.L x.L.length) = y.2.2) := by
          unfold Hid nowK
          rw [List.take_length, HZ.out.size]
          exact secZ_found HEW.out HY.out.1 HE.out (by have := HAZ.out; have := HMM.out; omega) (fun p' y' hp' hy' => HI2.out.1 p' y' (by have := HY.out.2.1; omega) hy')
        rw [HSEC.out]
        have HKS : Hid (∀ k, (T k ∨ k = w5.heap.size) ∨ k = N ∨ k = N + 1 → k ≠ w.heap.size + 1 ∧ k ≠ w.heap.size + 1 + 1 ∧ k < B.heap.size) := fun k hk => by
          have hw5 := HW5.out
          have hnn := HN.out
          have hnb := HNB.out
          rcases hk with (hk | hk) | hk | hk
          · have := HXT.out k hk; omega
          · omega
          · omega
          · omega
        clear hj hjl hkA hbv hit hB kAB bv k6B hRB hrb h1 h2 h3 hN2 hq hy hp hmem he
        generalize y.1 = yi at *
        gi_wp2_with fail
        refine ⟨trivial, (CallsIn.inRound L (callsIn_wide.2 HCB.out)).mono ?_⟩
        rintro e w8 ⟨u, rfl, ho, hb⟩
        have B4 := HRB.out.vb.grow hb
        have B5 := HRB.out.ve.grow hb
        have c4 : w8.cell? ⟨w.heap.size + 1, 0, none⟩ = some (.slice none 0 0) := B4.cell 0
        have c5 : w8.cell? ⟨w.heap.size + 1 + 1, 0, none⟩ = some (.int .i64 0) := B5.cell 0
        have f4 := B4.free 0
        have f5 := B5.free 0
        have l4 := B4.lt
        have l5 := B5.lt
        have H8 : Hid (OwnB w8 B.heap.size u y.2.2 ∧ Below B.heap.size B w8 ∧ Blk w8 (w.heap.size + 1) 24 #[.slice none 0 0] ∧ Blk w8 (w.heap.size + 1 + 1) 41 #[.int .i64 0]) := ⟨ho, hb, B4, B5⟩
        obtain ⟨ua, uc, e8⟩ := ho.shape
        rw [HLEN.out] at e8
        subst e8
        clear ho hb B4 B5 c0 c1 c3 hee
        gi_wp2_with fail
        have hwB : w.heap.size ≤ B.heap.size := by have := HRB.out.sz; omega
        obtain ⟨q1, q2, q3, q4, q5⟩ := vars_done HXT.out (HRB.out.at'.grow H8.out.2.1) (HRB.out.keep.trans (Keep.of_below H8.out.2.1)) H8.out.2.2.1 H8.out.2.2.2 (.slice ua z uc) 0 _ (owns_base H8.out.1 hwB)
        refine ⟨?_, ua, uc, q1, q2, q3, q4, owns_base (owns_raise (owns_base q5 (Nat.zero_le _)) H8.out.1) HNB.out, ?_⟩
        · have hs : Keep (fun k => k ≠ w.heap.size + 1 ∧ k ≠ w.heap.size + 1 + 1) w8 ((w8.setCell ⟨w.heap.size + 1, 0, none⟩ (.slice ua z uc)).setCell ⟨w.heap.size + 1 + 1, 0, none⟩ (.int .i64 0)) := (Keep.setCell _ _ _ (by simp)).trans (Keep.setCell _ _ _ (by simp))
          exact (Keep.of_below H8.out.2.1).trans (hs.mono fun k hk => by have := HKS.out k (by rw [← HN.out]; exact hk); exact ⟨this.1, this.2.1⟩)
        · have := H8.out.2.1.size
          have := HNB.out
          simp [World.setCell]
          omega
      · have hee : (y.1 == (i : Int)) = false := by simpa using he
        have HE := Lib.hid he
        clear hj hjl hkA hbv hit hB kAB bv k6B hRB hrb h1 h2 h3 hN2 hq hy hp hmem he
        generalize hyi : y.1 = yi at *
        have HYI := Lib.hid hyi
        clear hyi
        gi_wp2_with fail
        refine ⟨Keep.refl _ _, K6B.out, fun q' y' hq' hy' => ?_, by have := HY.out.2.2; omega⟩
        by_cases e : q' = q
        · subst e
          rw [HY.out.1] at hy'
          obtain rfl := Option.some.inj hy'
          rw [HYI.out]
          exact HE.out
        · exact HI2.out.1 q' y' (by have := HY.out.2; omega) (hy')
end Go.Proofs.Ytdcjchakgfpgaaa
