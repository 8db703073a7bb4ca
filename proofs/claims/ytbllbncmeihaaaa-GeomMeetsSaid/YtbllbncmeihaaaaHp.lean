/- The law on stretches. -/
import Derived.Test.YtbllbncmeihaaaaHn
import Derived.Test.YtbllbncmeihaaaaHo
namespace Go.Proofs.Ytbllbncmeihaaaa
open Go.RowKit
/-- Four points in four blocks. -/
def Four (w : World) (g0 g1 g2 g3 : Nat) (a b c d : Pt) : Prop := Blk w g0 23 (two a) ∧ Blk w g1 23 (two b) ∧ Blk w g2 23 (two c) ∧ Blk w g3 23 (two d)
theorem Four.grow {w w' : World} {g0 g1 g2 g3 : Nat} {a b c d : Pt} (h : Four w g0 g1 g2 g3 a b c d) (hb : Below w.heap.size w w') : Four w' g0 g1 g2 g3 a b c d := ⟨h.1.grow hb, h.2.1.grow hb, h.2.2.1.grow hb, h.2.2.2.grow hb⟩
theorem Four.cells {w : World} {g0 g1 g2 g3 : Nat} {ax ay bx bY cx cy dx dy : Int} (h : Four w g0 g1 g2 g3 (ax, ay) (bx, bY) (cx, cy) (dx, dy)) :
    (w.cell? ⟨g0, 0, none⟩ = some (.int .i64 ax) ∧ w.cell? ⟨g0, 1, none⟩ = some (.int .i64 ay)) ∧ (w.cell? ⟨g1, 0, none⟩ = some (.int .i64 bx) ∧ w.cell? ⟨g1, 1, none⟩ = some (.int .i64 bY)) ∧
    (w.cell? ⟨g2, 0, none⟩ = some (.int .i64 cx) ∧ w.cell? ⟨g2, 1, none⟩ = some (.int .i64 cy)) ∧ w.cell? ⟨g3, 0, none⟩ = some (.int .i64 dx) ∧ w.cell? ⟨g3, 1, none⟩ = some (.int .i64 dy) :=
  ⟨⟨h.1.p0, h.1.p1⟩, ⟨h.2.1.p0, h.2.1.p1⟩, ⟨h.2.2.1.p0, h.2.2.1.p1⟩, h.2.2.2.p0, h.2.2.2.p1⟩
theorem below_m {m : Nat} {w a b : World} (h : Below m w a) (k : Below a.heap.size a b) (hm : m ≤ a.heap.size) : Below m w b := h.trans (k.mono hm)
def eight (ax ay bx bY cx cy dx dy : Int) : Array Value := #[.int .i64 ax, .int .i64 ay, .int .i64 bx, .int .i64 bY, .int .i64 cx, .int .i64 cy, .int .i64 dx, .int .i64 dy]
set_option maxHeartbeats 4000000 in
set_option maxRecDepth 100000 in
theorem meets_law (ax ay bx bY cx cy dx dy : Int) (w : World) : Calls Try.prog 6 #[.agg #[.int .i64 ax, .int .i64 ay, .int .i64 bx, .int .i64 bY, .int .i64 cx, .int .i64 cy, .int .i64 dx, .int .i64 dy]] w fun e w' => e = .returned (.bool true) ∧ Below w.heap.size w w' := by
  have HAW := Lib.hid awake_c
  have HIN := Lib.hid (fun s w h => in_c s [(ax, ay), (bx, bY), (cx, cy), (dx, dy)] w (by simp) h)
  go_enter Try.func6, Try.ntmps6
  go_wp2_with fail
  obtain ⟨W, hW⟩ : ∃ W, w.alloc (.cells (eight ax ay bx bY cx cy dx dy) 37) = W := ⟨_, rfl⟩
  have hE : Blk W w.heap.size 37 (eight ax ay bx bY cx cy dx dy) := by rw [← hW]; exact Blk.new _ _ _
  have hB : Below w.heap.size w W := by rw [← hW]; exact (Below.refl _ _).alloc (Nat.le_refl _) _
  have hW' : w.alloc (.cells #[.int .i64 ax, .int .i64 ay, .int .i64 bx, .int .i64 bY, .int .i64 cx, .int .i64 cy, .int .i64 dx, .int .i64 dy] 37) = W := hW
  rw [hW']
  clear hW hW'
  obtain ⟨n, hn⟩ : ∃ n, w.heap.size = n := ⟨_, rfl⟩
  simp only [hn] at hE hB ⊢
  have HF : Hid (∀ w', Below W.heap.size W w' → w'.cell? ⟨n, 0, none⟩ = some (.int .i64 ax) ∧ w'.cell? ⟨n, 1, none⟩ = some (.int .i64 ay) ∧ w'.cell? ⟨n, 2, none⟩ = some (.int .i64 bx) ∧ w'.cell? ⟨n, 3, none⟩ = some (.int .i64 bY) ∧ w'.cell? ⟨n, 4, none⟩ = some (.int .i64 cx) ∧ w'.cell? ⟨n, 5, none⟩ = some (.int .i64 cy) ∧ w'.cell? ⟨n, 6, none⟩ = some (.int .i64 dx) ∧ w'.cell? ⟨n, 7, none⟩ = some (.int .i64 dy)) := fun w' h => by
    have k := hE.grow h
    exact ⟨k.cell 0, k.cell 1, k.cell 2, k.cell 3, k.cell 4, k.cell 5, k.cell 6, k.cell 7⟩
  have HB := Lib.hid hB; have Hn := Lib.hid hn
  have hnW : n < W.heap.size := hE.lt
  clear hE hB hn
  refine wp_region_put (by kernel_rfl) (by kernel_rfl) (by kernel_rfl) (fun b' vs w' => (b' 0 = true → vs 0 = .pointer (some ⟨n, 0, none⟩)) ∧ (b' 1 = true → vs 1 = .agg #[.int .i64 ax, .int .i64 ay]) ∧ (b' 2 = true → vs 2 = .pointer (some ⟨n, 2, none⟩)) ∧ (b' 3 = true → vs 3 = .agg #[.int .i64 bx, .int .i64 bY]) ∧ (b' 4 = true → vs 4 = .pointer (some ⟨n, 4, none⟩)) ∧ (b' 5 = true → vs 5 = .agg #[.int .i64 cx, .int .i64 cy]) ∧ (b' 6 = true → vs 6 = .pointer (some ⟨n, 6, none⟩)) ∧ (b' 7 = true → vs 7 = .agg #[.int .i64 dx, .int .i64 dy]) ∧ Hid (LayM W 23 (two (0, 0)) [⟨8, 12, two (ax, ay)⟩, ⟨9, 13, two (bx, bY)⟩, ⟨10, 14, two (cx, cy)⟩, ⟨11, 15, two (dx, dy)⟩] b' vs w')) ?_ ?_ ?_
  · intro vs
    exact ⟨fun h => Bool.noConfusion h, fun h => Bool.noConfusion h, fun h => Bool.noConfusion h, fun h => Bool.noConfusion h, fun h => Bool.noConfusion h, fun h => Bool.noConfusion h, fun h => Bool.noConfusion h, fun h => Bool.noConfusion h, LayM.start vs⟩
  · rintro b' vs w' i op hi hun hall ⟨h0, h1, h2, h3, h4, h5, h6, h7, hM⟩
    have hil : i < 16 := (List.getElem?_eq_some_iff.1 hi).1
    have hbelow := LayM.below hM.out
    rcases i with _ | _ | _ | _ | _ | _ | _ | _ | _ | _ | _ | _ | _ | _ | _ | _ | i
    · obtain rfl := Option.some.inj hi
      refine wpOp_step rfl (fun K hK => ?_)
      have HKK := Lib.hid hK; clear hK
      simp only [putAll, Act.put, List.setIfInBounds_toArray, List.set_cons_zero, List.set_cons_succ]
      go_simp
      exact HKK.out _ _ ⟨_, by simp only [putAll, Act.put, List.setIfInBounds_toArray, List.set_cons_zero, List.set_cons_succ] <;> rfl, fun _ => rfl, h1, h2, h3, h4, h5, h6, h7, LayM.other hM.out 0 _ rfl⟩
    · obtain rfl := Option.some.inj hi
      have d0 := h0 (hall ⟨0, .data⟩ (by simp) rfl)
      obtain ⟨c0, c1, c2, c3, c4, c5, c6, c7⟩ := HF.out _ hbelow
      refine wpOp_step rfl (fun K hK => ?_)
      have HKK := Lib.hid hK; clear hK
      simp only [putAll, Act.put, List.setIfInBounds_toArray, List.set_cons_zero, List.set_cons_succ]
      go_simp
      exact HKK.out _ _ ⟨_, by simp only [putAll, Act.put, List.setIfInBounds_toArray, List.set_cons_zero, List.set_cons_succ, d0] <;> rfl, h0, fun _ => rfl, h2, h3, h4, h5, h6, h7, LayM.other hM.out 1 _ rfl⟩
    · obtain rfl := Option.some.inj hi
      refine wpOp_step rfl (fun K hK => ?_)
      have HKK := Lib.hid hK; clear hK
      simp only [putAll, Act.put, List.setIfInBounds_toArray, List.set_cons_zero, List.set_cons_succ]
      go_simp
      exact HKK.out _ _ ⟨_, by simp only [putAll, Act.put, List.setIfInBounds_toArray, List.set_cons_zero, List.set_cons_succ] <;> rfl, h0, h1, fun _ => rfl, h3, h4, h5, h6, h7, LayM.other hM.out 2 _ rfl⟩
    · obtain rfl := Option.some.inj hi
      have d2 := h2 (hall ⟨2, .data⟩ (by simp) rfl)
      obtain ⟨c0, c1, c2, c3, c4, c5, c6, c7⟩ := HF.out _ hbelow
      refine wpOp_step rfl (fun K hK => ?_)
      have HKK := Lib.hid hK; clear hK
      simp only [putAll, Act.put, List.setIfInBounds_toArray, List.set_cons_zero, List.set_cons_succ]
      go_simp
      exact HKK.out _ _ ⟨_, by simp only [putAll, Act.put, List.setIfInBounds_toArray, List.set_cons_zero, List.set_cons_succ, d2] <;> rfl, h0, h1, h2, fun _ => rfl, h4, h5, h6, h7, LayM.other hM.out 3 _ rfl⟩
    · obtain rfl := Option.some.inj hi
      refine wpOp_step rfl (fun K hK => ?_)
      have HKK := Lib.hid hK; clear hK
      simp only [putAll, Act.put, List.setIfInBounds_toArray, List.set_cons_zero, List.set_cons_succ]
      go_simp
      exact HKK.out _ _ ⟨_, by simp only [putAll, Act.put, List.setIfInBounds_toArray, List.set_cons_zero, List.set_cons_succ] <;> rfl, h0, h1, h2, h3, fun _ => rfl, h5, h6, h7, LayM.other hM.out 4 _ rfl⟩
    · obtain rfl := Option.some.inj hi
      have d4 := h4 (hall ⟨4, .data⟩ (by simp) rfl)
      obtain ⟨c0, c1, c2, c3, c4, c5, c6, c7⟩ := HF.out _ hbelow
      refine wpOp_step rfl (fun K hK => ?_)
      have HKK := Lib.hid hK; clear hK
      simp only [putAll, Act.put, List.setIfInBounds_toArray, List.set_cons_zero, List.set_cons_succ]
      go_simp
      exact HKK.out _ _ ⟨_, by simp only [putAll, Act.put, List.setIfInBounds_toArray, List.set_cons_zero, List.set_cons_succ, d4] <;> rfl, h0, h1, h2, h3, h4, fun _ => rfl, h6, h7, LayM.other hM.out 5 _ rfl⟩
    · obtain rfl := Option.some.inj hi
      refine wpOp_step rfl (fun K hK => ?_)
      have HKK := Lib.hid hK; clear hK
      simp only [putAll, Act.put, List.setIfInBounds_toArray, List.set_cons_zero, List.set_cons_succ]
      go_simp
      exact HKK.out _ _ ⟨_, by simp only [putAll, Act.put, List.setIfInBounds_toArray, List.set_cons_zero, List.set_cons_succ] <;> rfl, h0, h1, h2, h3, h4, h5, fun _ => rfl, h7, LayM.other hM.out 6 _ rfl⟩
    · obtain rfl := Option.some.inj hi
      have d6 := h6 (hall ⟨6, .data⟩ (by simp) rfl)
      obtain ⟨c0, c1, c2, c3, c4, c5, c6, c7⟩ := HF.out _ hbelow
      refine wpOp_step rfl (fun K hK => ?_)
      have HKK := Lib.hid hK; clear hK
      simp only [putAll, Act.put, List.setIfInBounds_toArray, List.set_cons_zero, List.set_cons_succ]
      go_simp
      exact HKK.out _ _ ⟨_, by simp only [putAll, Act.put, List.setIfInBounds_toArray, List.set_cons_zero, List.set_cons_succ, d6] <;> rfl, h0, h1, h2, h3, h4, h5, h6, fun _ => rfl, LayM.other hM.out 7 _ rfl⟩
    · obtain rfl := Option.some.inj hi
      refine wpOp_step rfl (fun K hK => ?_)
      have HKK := Lib.hid hK; clear hK
      simp only [putAll, Act.put, List.setIfInBounds_toArray, List.set_cons_zero, List.set_cons_succ]
      go_simp
      exact HKK.out _ _ ⟨_, by simp only [putAll, Act.put, List.setIfInBounds_toArray, List.set_cons_zero, List.set_cons_succ] <;> rfl, h0, h1, h2, h3, h4, h5, h6, h7, LayM.made hM.out rfl ⟨8, 12, two (ax, ay)⟩ (by simp) hun⟩
    · obtain rfl := Option.some.inj hi
      refine wpOp_step rfl (fun K hK => ?_)
      have HKK := Lib.hid hK; clear hK
      simp only [putAll, Act.put, List.setIfInBounds_toArray, List.set_cons_zero, List.set_cons_succ]
      go_simp
      exact HKK.out _ _ ⟨_, by simp only [putAll, Act.put, List.setIfInBounds_toArray, List.set_cons_zero, List.set_cons_succ] <;> rfl, h0, h1, h2, h3, h4, h5, h6, h7, LayM.made hM.out rfl ⟨9, 13, two (bx, bY)⟩ (by simp) hun⟩
    · obtain rfl := Option.some.inj hi
      refine wpOp_step rfl (fun K hK => ?_)
      have HKK := Lib.hid hK; clear hK
      simp only [putAll, Act.put, List.setIfInBounds_toArray, List.set_cons_zero, List.set_cons_succ]
      go_simp
      exact HKK.out _ _ ⟨_, by simp only [putAll, Act.put, List.setIfInBounds_toArray, List.set_cons_zero, List.set_cons_succ] <;> rfl, h0, h1, h2, h3, h4, h5, h6, h7, LayM.made hM.out rfl ⟨10, 14, two (cx, cy)⟩ (by simp) hun⟩
    · obtain rfl := Option.some.inj hi
      refine wpOp_step rfl (fun K hK => ?_)
      have HKK := Lib.hid hK; clear hK
      simp only [putAll, Act.put, List.setIfInBounds_toArray, List.set_cons_zero, List.set_cons_succ]
      go_simp
      exact HKK.out _ _ ⟨_, by simp only [putAll, Act.put, List.setIfInBounds_toArray, List.set_cons_zero, List.set_cons_succ] <;> rfl, h0, h1, h2, h3, h4, h5, h6, h7, LayM.made hM.out rfl ⟨11, 15, two (dx, dy)⟩ (by simp) hun⟩
    · obtain rfl := Option.some.inj hi
      have d1 := h1 (hall ⟨1, .data⟩ (by simp) rfl)
      have dal := hall ⟨8, .data⟩ (by simp) rfl
      obtain ⟨g, eg, lg, kg⟩ := LayM.at hM.out ⟨8, 12, two (ax, ay)⟩ (by simp) dal hun
      have c0 := kg.p0
      have c1 := kg.p1
      have f0 := kg.free 0
      have f1 := kg.free 1
      have lgw := kg.lt
      refine wpOp_step rfl (fun K hK => ?_)
      have HKK := Lib.hid hK; clear hK
      simp only [putAll, Act.put, List.setIfInBounds_toArray, List.set_cons_zero, List.set_cons_succ]
      go_simp
      exact HKK.out _ _ ⟨_, by simp only [putAll, Act.put, List.setIfInBounds_toArray, List.set_cons_zero, List.set_cons_succ, d1, eg] <;> rfl, h0, h1, h2, h3, h4, h5, h6, h7, LayM.stored hM.out rfl ⟨8, 12, two (ax, ay)⟩ (by simp) undef dal eg (below_two hbelow lg _ _) (kg.setP _ _) (fun g' cs hne k => k.otherP hne _ _)⟩
    · obtain rfl := Option.some.inj hi
      have d3 := h3 (hall ⟨3, .data⟩ (by simp) rfl)
      have dal := hall ⟨9, .data⟩ (by simp) rfl
      obtain ⟨g, eg, lg, kg⟩ := LayM.at hM.out ⟨9, 13, two (bx, bY)⟩ (by simp) dal hun
      have c0 := kg.p0
      have c1 := kg.p1
      have f0 := kg.free 0
      have f1 := kg.free 1
      have lgw := kg.lt
      refine wpOp_step rfl (fun K hK => ?_)
      have HKK := Lib.hid hK; clear hK
      simp only [putAll, Act.put, List.setIfInBounds_toArray, List.set_cons_zero, List.set_cons_succ]
      go_simp
      exact HKK.out _ _ ⟨_, by simp only [putAll, Act.put, List.setIfInBounds_toArray, List.set_cons_zero, List.set_cons_succ, d3, eg] <;> rfl, h0, h1, h2, h3, h4, h5, h6, h7, LayM.stored hM.out rfl ⟨9, 13, two (bx, bY)⟩ (by simp) undef dal eg (below_two hbelow lg _ _) (kg.setP _ _) (fun g' cs hne k => k.otherP hne _ _)⟩
    · obtain rfl := Option.some.inj hi
      have d5 := h5 (hall ⟨5, .data⟩ (by simp) rfl)
      have dal := hall ⟨10, .data⟩ (by simp) rfl
      obtain ⟨g, eg, lg, kg⟩ := LayM.at hM.out ⟨10, 14, two (cx, cy)⟩ (by simp) dal hun
      have c0 := kg.p0
      have c1 := kg.p1
      have f0 := kg.free 0
      have f1 := kg.free 1
      have lgw := kg.lt
      refine wpOp_step rfl (fun K hK => ?_)
      have HKK := Lib.hid hK; clear hK
      simp only [putAll, Act.put, List.setIfInBounds_toArray, List.set_cons_zero, List.set_cons_succ]
      go_simp
      exact HKK.out _ _ ⟨_, by simp only [putAll, Act.put, List.setIfInBounds_toArray, List.set_cons_zero, List.set_cons_succ, d5, eg] <;> rfl, h0, h1, h2, h3, h4, h5, h6, h7, LayM.stored hM.out rfl ⟨10, 14, two (cx, cy)⟩ (by simp) undef dal eg (below_two hbelow lg _ _) (kg.setP _ _) (fun g' cs hne k => k.otherP hne _ _)⟩
    · obtain rfl := Option.some.inj hi
      have d7 := h7 (hall ⟨7, .data⟩ (by simp) rfl)
      have dal := hall ⟨11, .data⟩ (by simp) rfl
      obtain ⟨g, eg, lg, kg⟩ := LayM.at hM.out ⟨11, 15, two (dx, dy)⟩ (by simp) dal hun
      have c0 := kg.p0
      have c1 := kg.p1
      have f0 := kg.free 0
      have f1 := kg.free 1
      have lgw := kg.lt
      refine wpOp_step rfl (fun K hK => ?_)
      have HKK := Lib.hid hK; clear hK
      simp only [putAll, Act.put, List.setIfInBounds_toArray, List.set_cons_zero, List.set_cons_succ]
      go_simp
      exact HKK.out _ _ ⟨_, by simp only [putAll, Act.put, List.setIfInBounds_toArray, List.set_cons_zero, List.set_cons_succ, d7, eg] <;> rfl, h0, h1, h2, h3, h4, h5, h6, h7, LayM.stored hM.out rfl ⟨11, 15, two (dx, dy)⟩ (by simp) undef dal eg (below_two hbelow lg _ _) (kg.setP _ _) (fun g' cs hne k => k.otherP hne _ _)⟩
    · omega
  · rintro b' vs w1 hall ⟨h0, h1, h2, h3, h4, h5, h6, h7, hM⟩
    have d0 := h0 (hall 0 (by simp)); have d1 := h1 (hall 1 (by simp)); have d2 := h2 (hall 2 (by simp)); have d3 := h3 (hall 3 (by simp)); have d4 := h4 (hall 4 (by simp)); have d5 := h5 (hall 5 (by simp)); have d6 := h6 (hall 6 (by simp)); have d7 := h7 (hall 7 (by simp))
    obtain ⟨g0, e0, _, k0⟩ := LayM.done hM.out ⟨8, 12, two (ax, ay)⟩ (by simp) (hall 8 (by simp)) (hall 12 (by simp))
    obtain ⟨g1, e1, _, k1⟩ := LayM.done hM.out ⟨9, 13, two (bx, bY)⟩ (by simp) (hall 9 (by simp)) (hall 13 (by simp))
    obtain ⟨g2, e2, _, k2⟩ := LayM.done hM.out ⟨10, 14, two (cx, cy)⟩ (by simp) (hall 10 (by simp)) (hall 14 (by simp))
    obtain ⟨g3, e3, _, k3⟩ := LayM.done hM.out ⟨11, 15, two (dx, dy)⟩ (by simp) (hall 11 (by simp)) (hall 15 (by simp))
    have hb := LayM.below hM.out
    have F1 : Hid (Four w1 g0 g1 g2 g3 (ax, ay) (bx, bY) (cx, cy) (dx, dy)) := ⟨k0, k1, k2, k3⟩
    have B1 : Hid (Below n w w1) := HB.out.trans (hb.mono (by omega))
    simp only [putAll, Act.put, List.setIfInBounds_toArray, List.set_cons_zero, List.set_cons_succ, d0, d1, d2, d3, d4, d5, d6, d7, e0, e1, e2, e3]
    clear h0 h1 h2 h3 h4 h5 h6 h7 hM hb hall e0 e1 e2 e3 k0 k1 k2 k3 d0 d1 d2 d3 d4 d5 d6 d7
    obtain ⟨⟨c0, c1⟩, ⟨c2, c3⟩, ⟨c4, c5⟩, c6, c7⟩ := F1.out.cells
    have hm1 : n ≤ w1.heap.size := by have := F1.out.1.lt; omega
    go_wp2_with fail
    refine (HIN.out _ _ (Row.new w1 [(ax, ay), (bx, bY), (cx, cy), (dx, dy)] _ _ 4 rfl rfl)).mono ?_
    rintro e w2 ⟨rfl, hb2⟩
    have hb12 : Below w1.heap.size w1 w2 := below_next ((Below.refl _ _).alloc (Nat.le_refl _) _) hb2
    have B2 : Hid (Below n w w2) := below_m B1.out hb12 (by omega)
    have F2 : Hid (Four w2 g0 g1 g2 g3 (ax, ay) (bx, bY) (cx, cy) (dx, dy)) := F1.out.grow hb12
    have hm2 : n ≤ w2.heap.size := by have := F2.out.1.lt; omega
    clear hb2 hb12 c0 c1 c2 c3 c4 c5 c6 c7
    cases hall : [((ax, ay) : Pt), (bx, bY), (cx, cy), (dx, dy)].all roomP
    · go_wp2_with fail
      refine (HAW.out _).mono ?_
      rintro e w3 ⟨rfl, hb3⟩
      have B3 : Hid (Below n w w3) := below_m B2.out hb3 (by omega)
      clear hb3
      go_wp2_with fail
      go_ret
      exact ⟨rfl, by rw [Hn.out]; exact B3.out⟩
    · have hr : room ax = true ∧ room ay = true ∧ room bx = true ∧ room bY = true ∧ room cx = true ∧ room cy = true ∧ room dx = true ∧ room dy = true := by
        simpa [roomP, and_assoc] using hall
      have HM0 := Lib.hid (fun w => meets_c ax ay bx bY cx cy dx dy w hr)
      have HPA := Lib.hid (fun w => parted_c ax ay bx bY cx cy dx dy w hr)
      have HM1 := Lib.hid (fun w => meets_c bx bY ax ay cx cy dx dy w ⟨hr.2.2.1, hr.2.2.2.1, hr.1, hr.2.1, hr.2.2.2.2⟩)
      have HM2 := Lib.hid (fun w => meets_c cx cy dx dy ax ay bx bY w ⟨hr.2.2.2.2.1, hr.2.2.2.2.2.1, hr.2.2.2.2.2.2.1, hr.2.2.2.2.2.2.2, hr.1, hr.2.1, hr.2.2.1, hr.2.2.2.1⟩)
      have HM3 := Lib.hid (fun w => meets_c ax ay bx bY ax ay bx bY w ⟨hr.1, hr.2.1, hr.2.2.1, hr.2.2.2.1, hr.1, hr.2.1, hr.2.2.1, hr.2.2.2.1⟩)
      have HM4 := Lib.hid (fun w => meets_c ax ay bx bY bx bY bx bY w ⟨hr.1, hr.2.1, hr.2.2.1, hr.2.2.2.1, hr.2.2.1, hr.2.2.2.1, hr.2.2.1, hr.2.2.2.1⟩)
      have HM5 := Lib.hid (fun w => meets_c ax ay ax ay ax ay bx bY w ⟨hr.1, hr.2.1, hr.1, hr.2.1, hr.1, hr.2.1, hr.2.2.1, hr.2.2.2.1⟩)
      have hpm : partedI (ax, ay) (bx, bY) (cx, cy) (dx, dy) = !meetsI (ax, ay) (bx, bY) (cx, cy) (dx, dy) := by rw [meets_parted, Bool.not_not]; rfl
      rw [hpm] at HPA
      rw [meets_swap] at HM1
      rw [meets_turn] at HM2
      rw [meets_abab] at HM3
      rw [meets_abbb] at HM4
      rw [meets_aaab] at HM5
      generalize meetsI (ax, ay) (bx, bY) (cx, cy) (dx, dy) = mm at *
      clear hall hr hpm
      obtain ⟨⟨c0, c1⟩, ⟨c2, c3⟩, ⟨c4, c5⟩, c6, c7⟩ := F2.out.cells
      go_wp2_with fail
      refine (HM0.out _).mono ?_
      rintro e w3 ⟨rfl, hb3⟩
      have B3 : Hid (Below n w w3) := below_m B2.out hb3 (by omega)
      have F3 : Hid (Four w3 g0 g1 g2 g3 (ax, ay) (bx, bY) (cx, cy) (dx, dy)) := F2.out.grow hb3
      clear hb3; try clear c0 c1 c2 c3 c4 c5 c6 c7
      obtain ⟨⟨c0, c1⟩, ⟨c2, c3⟩, ⟨c4, c5⟩, c6, c7⟩ := F3.out.cells
      have hm3 : n ≤ w3.heap.size := by have := F3.out.1.lt; omega
      go_wp2_with fail
      refine (HPA.out _).mono ?_
      rintro e w4 ⟨rfl, hb4⟩
      have B4 : Hid (Below n w w4) := below_m B3.out hb4 (by omega)
      have F4 : Hid (Four w4 g0 g1 g2 g3 (ax, ay) (bx, bY) (cx, cy) (dx, dy)) := F3.out.grow hb4
      clear hb4; try clear c0 c1 c2 c3 c4 c5 c6 c7
      obtain ⟨⟨c0, c1⟩, ⟨c2, c3⟩, ⟨c4, c5⟩, c6, c7⟩ := F4.out.cells
      have hm4 : n ≤ w4.heap.size := by have := F4.out.1.lt; omega
      go_wp2_with fail
      refine (HM1.out _).mono ?_
      rintro e w5 ⟨rfl, hb5⟩
      have B5 : Hid (Below n w w5) := below_m B4.out hb5 (by omega)
      have F5 : Hid (Four w5 g0 g1 g2 g3 (ax, ay) (bx, bY) (cx, cy) (dx, dy)) := F4.out.grow hb5
      clear hb5; try clear c0 c1 c2 c3 c4 c5 c6 c7
      obtain ⟨⟨c0, c1⟩, ⟨c2, c3⟩, ⟨c4, c5⟩, c6, c7⟩ := F5.out.cells
      have hm5 : n ≤ w5.heap.size := by have := F5.out.1.lt; omega
      go_wp2_with fail
      refine (HM2.out _).mono ?_
      rintro e w6 ⟨rfl, hb6⟩
      have B6 : Hid (Below n w w6) := below_m B5.out hb6 (by omega)
      have F6 : Hid (Four w6 g0 g1 g2 g3 (ax, ay) (bx, bY) (cx, cy) (dx, dy)) := F5.out.grow hb6
      clear hb6; try clear c0 c1 c2 c3 c4 c5 c6 c7
      obtain ⟨⟨c0, c1⟩, ⟨c2, c3⟩, ⟨c4, c5⟩, c6, c7⟩ := F6.out.cells
      have hm6 : n ≤ w6.heap.size := by have := F6.out.1.lt; omega
      go_wp2_with fail
      refine (HM3.out _).mono ?_
      rintro e w7 ⟨rfl, hb7⟩
      have B7 : Hid (Below n w w7) := below_m B6.out hb7 (by omega)
      have F7 : Hid (Four w7 g0 g1 g2 g3 (ax, ay) (bx, bY) (cx, cy) (dx, dy)) := F6.out.grow hb7
      clear hb7; try clear c0 c1 c2 c3 c4 c5 c6 c7
      obtain ⟨⟨c0, c1⟩, ⟨c2, c3⟩, ⟨c4, c5⟩, c6, c7⟩ := F7.out.cells
      have hm7 : n ≤ w7.heap.size := by have := F7.out.1.lt; omega
      go_wp2_with fail
      refine (HM4.out _).mono ?_
      rintro e w8 ⟨rfl, hb8⟩
      have B8 : Hid (Below n w w8) := below_m B7.out hb8 (by omega)
      have F8 : Hid (Four w8 g0 g1 g2 g3 (ax, ay) (bx, bY) (cx, cy) (dx, dy)) := F7.out.grow hb8
      clear hb8; try clear c0 c1 c2 c3 c4 c5 c6 c7
      obtain ⟨⟨c0, c1⟩, ⟨c2, c3⟩, ⟨c4, c5⟩, c6, c7⟩ := F8.out.cells
      have hm8 : n ≤ w8.heap.size := by have := F8.out.1.lt; omega
      go_wp2_with fail
      refine (HM5.out _).mono ?_
      rintro e w9 ⟨rfl, hb9⟩
      have B9 : Hid (Below n w w9) := below_m B8.out hb9 (by omega)
      have F9 : Hid (Four w9 g0 g1 g2 g3 (ax, ay) (bx, bY) (cx, cy) (dx, dy)) := F8.out.grow hb9
      clear hb9; try clear c0 c1 c2 c3 c4 c5 c6 c7
      obtain ⟨⟨c0, c1⟩, ⟨c2, c3⟩, ⟨c4, c5⟩, c6, c7⟩ := F9.out.cells
      have hm9 : n ≤ w9.heap.size := by have := F9.out.1.lt; omega
      go_wp2_with fail
      refine (HAW.out _).mono ?_
      rintro e w10 ⟨rfl, hb10⟩
      have B10 : Hid (Below n w w10) := below_m B9.out hb10 (by omega)
      have F10 : Hid (Four w10 g0 g1 g2 g3 (ax, ay) (bx, bY) (cx, cy) (dx, dy)) := F9.out.grow hb10
      clear hb10; try clear c0 c1 c2 c3 c4 c5 c6 c7
      obtain ⟨⟨c0, c1⟩, ⟨c2, c3⟩, ⟨c4, c5⟩, c6, c7⟩ := F10.out.cells
      have hm10 : n ≤ w10.heap.size := by have := F10.out.1.lt; omega
      go_wp2_with fail
      go_ret
      exact ⟨rfl, by rw [Hn.out]; exact B10.out⟩
end Go.Proofs.Ytbllbncmeihaaaa
