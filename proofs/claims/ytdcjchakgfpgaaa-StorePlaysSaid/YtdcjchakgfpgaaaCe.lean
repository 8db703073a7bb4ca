/- Layer 12: package disk: Sync. -/
import Derived.Test.YtdcjchakgfpgaaaCd
namespace Go.Proofs.Ytdcjchakgfpgaaa
open Go.RowKit
/-- Nothing waits any more. -/
theorem KAt.drop {T : Nat → Prop} {w : World} {g : Nat} {x : Kd} (h : KAt T w g x) : KAt T (w.setCell ⟨g, 2, none⟩ (.slice none 0 0)) g { x with L := [], wv := .slice none 0 0 } := by
  have hk : Keep (fun k => k ≠ g) w (w.setCell ⟨g, 2, none⟩ (.slice none 0 0)) := Keep.setCell _ _ _ (by simp)
  exact ⟨h.tg, fun k hT => Nat.lt_of_lt_of_le (h.lt k hT) hk.size, h.blk.set 2 (.slice none 0 0), owns_keep h.all hk fun k e => fun hg => owns_off h.all h.blk (by decide) (hg ▸ e), h.ts, World.ownsRow_nil _ _ _ _, fun k e => (by cases e), fun y hy => (by cases hy), owns_keep h.reads hk fun k e => fun hg => owns_off h.reads h.blk (by decide) (hg ▸ e), h.tr⟩
theorem KAt.all_form {T : Nat → Prop} {w : World} {g : Nat} {x : Kd} (h : KAt T w g x) (h0 : 0 < x.A.length) : ∃ ga ca, x.sv = .slice (some ⟨ga, 0, none⟩) x.A.length ca ∧ T ga := by
  obtain ⟨ga, ca, hv, _, _⟩ := h.all.form h0
  exact ⟨ga, ca, hv, h.ts ga (by rw [hv]; rfl)⟩
theorem To.trans {T T' T'' : Nat → Prop} {w w' w'' : World} (h : To T w T' w') (k : To T' w' T'' w'') : To T w T'' w'' :=
  ⟨⟨k.keep.os.trans h.keep.os, k.keep.tape.trans h.keep.tape, k.keep.output.trans h.keep.output, Nat.le_trans h.keep.size k.keep.size, fun j hj hl2 => by
      have h1 := h.keep.block j hj hl2
      rw [← h1]
      refine k.keep.block j (fun hT' => ?_) (Nat.lt_of_lt_of_le hl2 h.keep.size)
      exact (h.new j hT').elim hj (fun q => by omega)⟩,
    fun j hj => (k.new j hj).elim (h.new j) (fun q => .inr (Nat.le_trans h.keep.size q))⟩
set_option maxHeartbeats 4000000 in
set_option maxRecDepth 100000 in
theorem syncK_down (w : World) (g : Nat) (x : Kd) (h : Blk w g 69 x.cells) (hd : x.down = true) : Calls Try.prog 37 #[ptrD g] w fun e w' => e = .returned (.int .i64 40) ∧ Below w.heap.size w w' := by
  obtain ⟨d0, d1, d2, d3, d4, d5, d6⟩ := h.k7
  rw [hd] at d6
  clear h hd
  go_enter Try.func37, Try.ntmps37
  go_wp2_with fail
  go_ret
  exact ⟨rfl, Below.refl _ _⟩
set_option maxHeartbeats 4000000 in
set_option maxRecDepth 100000 in
theorem syncK_stop (w : World) (g : Nat) (x : Kd) (h : Blk w g 69 x.cells) (hd : x.down = false) (hn : 0 ≤ x.done ∧ x.done ≤ 1000000) (hl : rngI x.left) (hc : cmdE x.left = 40) : Calls Try.prog 37 #[ptrD g] w fun e w' => e = .returned (.int .i64 40) ∧ Blk w' g 69 (cmdK x).cells ∧ Keep (fun k => k ≠ g) w w' := by
  have HC := Lib.hid (kCommand_c w g x h hn hl)
  rw [hc] at HC
  obtain ⟨d0, d1, d2, d3, d4, d5, d6⟩ := h.k7
  rw [hd] at d6
  clear h hd hn hl hc
  go_enter Try.func37, Try.ntmps37
  go_wp2_with fail
  refine (HC.out).mono ?_
  rintro e w1 ⟨rfl, hb, hk⟩
  have H1 := Lib.hid (And.intro hb hk)
  clear hb hk d0 d1 d2 d3 d4 d5 d6
  go_wp2_with fail
  go_ret
  exact ⟨rfl, H1.out⟩
set_option maxHeartbeats 4000000 in
set_option maxRecDepth 100000 in
theorem syncK_ok (T : Nat → Prop) (w : World) (g : Nat) (x0 : Kd) (z : Nat) (h : KAt T w g x0) (hd : x0.down = false) (hdn : 0 ≤ x0.done ∧ x0.done ≤ 1000000) (hl : rngI x0.left) (hc : cmdE x0.left = 0) (hz : OkL x0 z) :
    Calls Try.prog 37 #[ptrD g] w fun e w' => e = .returned (.int .i64 0) ∧ KAt T w' g { cmdK x0 with A := nowK x0.size x0.A x0.L x0.L.length, L := [], wv := .slice none 0 0 } ∧ Keep (fun j => ¬ T j) w w' := by
  have HC := Lib.hid (kCommand_c w g x0 h.blk hdn hl)
  rw [hc] at HC
  have HX0 := Lib.hid h
  obtain ⟨x, hx⟩ : ∃ x, cmdK x0 = x := ⟨_, rfl⟩
  have hsame : x.size = x0.size ∧ x.A = x0.A ∧ x.L = x0.L ∧ x.R = x0.R := by
    rw [← hx]; unfold cmdK
    split
    · exact ⟨rfl, rfl, rfl, rfl⟩
    · split <;> exact ⟨rfl, rfl, rfl, rfl⟩
  have HCMD : Hid (∀ W, Blk W g 69 x.cells → Keep (fun k => k ≠ g) w W → KAt T W g x) := fun W hb hk => by
    rw [← hx] at hb ⊢
    exact h.cmd hb hk
  have hz2 : OkL x z := ⟨by rw [hsame.1]; exact hz.size, hz.z1, hz.z2, by rw [hsame.2.1]; exact hz.len, by rw [hsame.2.2.1]; exact hz.few, by rw [hsame.2.1]; exact hz.pos, by rw [hsame.2.1, hsame.2.2.1]; exact hz.each, by rw [hsame.2.1, hsame.2.2.2]; exact hz.rlen⟩
  have HZ := Lib.hid hz2
  rw [← hsame.1, ← hsame.2.1, ← hsame.2.2.1]
  rw [hx] at HC ⊢
  obtain ⟨n, hn⟩ : ∃ n, x.L.length = n := ⟨_, rfl⟩
  have HN := Lib.hid hn
  rw [hn]
  obtain ⟨d0, d1, d2, d3, d4, d5, d6⟩ := h.blk.k7
  rw [hd] at d6
  have HTG0 : Hid (T g) := h.tg
  clear h hd hdn hl hc hz hz2 hsame hx hn
  go_enter Try.func37, Try.ntmps37
  go_wp2_with fail
  refine (HC.out).mono ?_
  rintro e w1 ⟨rfl, hb, hk⟩
  have H1 : Hid (KAt T w1 g x ∧ Keep (fun j => ¬ T j) w w1) := ⟨HCMD.out w1 hb hk, hk.mono fun j hj e => hj (e ▸ HTG0.out)⟩
  clear hb hk d0 d1 d2 d3 d4 d5 d6
  have hn := HN.out
  obtain ⟨m, hm⟩ : ∃ m, x.A.length = m := ⟨_, rfl⟩
  obtain ⟨wo, wc, hwv⟩ := H1.out.1.wait.row.shape
  obtain ⟨ga, ca, hsv, hga⟩ := H1.out.1.all_form HZ.out.pos
  have HM := Lib.hid hm
  have HTG := Lib.hid hga
  have HW : Hid (x.wv = .slice wo n wc) := by rw [hwv, hn]; exact rfl
  have HSV : Hid (x.sv = .slice (some ⟨ga, 0, none⟩) m ca) := by rw [hsv, hm]; exact rfl
  obtain ⟨d0, d1, d2, d3, d4, d5, d6⟩ := H1.out.1.blk.k7
  rw [HW.out] at d2
  clear hwv hsv hga hn hm
  go_wp2_with fail
  go_loopw [20] (fun s20 wr => ∃ k : Nat, k ≤ n ∧ s20 = .int .i64 (k : Int) ∧ Hid (KAt T wr g { x with A := nowK x.size x.A x.L k } ∧ Keep (fun j => ¬ T j) w1 wr)) (fun s20 _ => n - (intOf s20).toNat)
  case atStart => exact ⟨0, by omega, rfl, H1.out.1, Keep.refl _ _⟩
  case round =>
    obtain ⟨k, hk, rfl, hw⟩ := hrel
    clear d0 d1 d2 d3 d4 d5 d6
    obtain ⟨d0, d1, d2, d3, d4, d5, d6⟩ := hw.out.1.blk.k7
    by_cases hlt : k < n
    · have hd : decide ((k : Int) < (n : Int)) = true := by simp; omega
      have hki : (k : Int) < (n : Int) := by omega
      obtain ⟨y, hy⟩ : ∃ y, x.L[k]? = some y := ⟨_, List.getElem?_eq_getElem (by rw [HN.out]; exact hlt)⟩
      have hmem := List.mem_of_getElem? hy
      have hkat := hw.out.1
      have hrow : RowW wr x.wv x.L := hkat.wait.row
      rw [HW.out] at hrow
      obtain ⟨wb, wof, rfl, hwb, hwc⟩ := RowW.addr hrow (by rw [HN.out]; omega)
      obtain ⟨c0, c1⟩ := hwc k y hy
      obtain ⟨i, hi, hfit, hbl⟩ := HZ.out.each y hmem
      have hz1 := HZ.out.z1
      have hbn := hkat.byts y hmem
      have hby := hbn.1
      obtain ⟨b, bc, hbv, _, hbz⟩ := hby.form (by omega)
      rw [hbl] at hbv
      rw [hi] at c0
      rw [hbv] at c1 hby
      obtain ⟨B, hB⟩ : ∃ B, y.2.2 = B := ⟨_, rfl⟩
      rw [hB] at hby hbl
      obtain ⟨w2, hw2⟩ : ∃ WW, wr.alloc (.cells #[.int .i64 (i : Int), .slice (some ⟨b, 0, none⟩) z bc] 81) = WW := ⟨_, rfl⟩
      obtain ⟨g2, hg2⟩ : ∃ G, wr.heap.size = G := ⟨_, rfl⟩
      have H2 : Hid (Below wr.heap.size wr w2 ∧ Blk w2 g2 81 #[.int .i64 (i : Int), .slice (some ⟨b, 0, none⟩) z bc] ∧ OwnB w2 0 (.slice (some ⟨b, 0, none⟩) z bc) B) := by
        rw [← hw2]
        exact ⟨(Below.refl _ _).alloc (Nat.le_refl _) _, by rw [← hg2]; exact Blk.new _ _ _, hby.grow ((Below.refl _ _).alloc (Nat.le_refl _) _)⟩
      have HB1 : Hid (B.take z = B) := by unfold Hid; rw [← hbl, List.take_length]
      have HNX : Hid (nowK x.size x.A x.L (k + 1) = layB (nowK x.size x.A x.L k) B ((i * z : Nat) : Int)) := by
        have e := nowK_succ (size := x.size) (A := x.A) hy
        rw [hi, hB, HZ.out.size] at e
        rw [Hid, HZ.out.size, e]
        simp
      have hown : OwnB wr 0 x.sv (nowK x.size x.A x.L k) := hkat.all
      rw [HSV.out] at hown
      have hkw : Hid (KAt T w2 g { x with A := nowK x.size x.A x.L k }) := hkat.grow H2.out.1
      have HLAY : Hid (∀ W, Below w2.heap.size w2 W → Calls Try.prog 45 #[.agg #[.int .i64 (i : Int), .slice (some ⟨b, 0, none⟩) z bc], .slice (some ⟨ga, 0, none⟩) m ca, .int .i64 (z : Int)] W fun e w' => e = .returned (.tuple #[]) ∧ OwnB w' 0 (.slice (some ⟨ga, 0, none⟩) m ca) (layB (nowK x.size x.A x.L k) (B.take z) ((i * z : Nat) : Int)) ∧ Keep (fun k => k ≠ ga) W w') := fun W hW => layK_c W ga m ca _ ((hown.grow H2.out.1).grow hW) b z bc B (H2.out.2.2.grow hW) i z (by omega) (by rw [← HM.out]; exact hfit) (by have := HZ.out.len; rw [HM.out] at this; omega) (Nat.le_refl _)
      have HC9 : Hid (∀ W, Below w2.heap.size w2 W → Blk W g2 81 #[.int .i64 (i : Int), .slice (some ⟨b, 0, none⟩) z bc] ∧ W.cell? ⟨g, 0, none⟩ = some (.int .i64 (z : Int)) ∧ W.cell? ⟨g, 1, none⟩ = some (.slice (some ⟨ga, 0, none⟩) m ca)) := fun W hW => by
        obtain ⟨q0, q1, q2, q3, q4, q5, q6⟩ := ((hkw.out.blk).grow hW).k7
        have q0' : W.cell? ⟨g, 0, none⟩ = some (.int .i64 x.size) := q0
        have q1' : W.cell? ⟨g, 1, none⟩ = some x.sv := q1
        rw [HZ.out.size] at q0'
        rw [HSV.out] at q1'
        exact ⟨H2.out.2.1.grow hW, q0', q1'⟩
      clear hkat hrow hwb hwc hy hmem hi hfit hbl hz1 hbn hby hbv hbz hB hown
      go_upto_region 9 with fail
      clear c0 c1 hw2 hg2 d0 d1 d2 d3 d4 d5 d6
      refine wp_region_put (by kernel_rfl) (by kernel_rfl) (by kernel_rfl) (fun b' vs w' => (b' 0 = true → vs 0 = .agg #[.int .i64 (i : Int), .slice (some ⟨b, 0, none⟩) z bc]) ∧ (b' 1 = true → vs 1 = .pointer (some ⟨g, 0, none⟩)) ∧ (b' 2 = true → vs 2 = .pointer (some ⟨g, 0, none⟩)) ∧ (b' 3 = true → vs 3 = .pointer (some ⟨g, 1, none⟩)) ∧ (b' 4 = true → vs 4 = .slice (some ⟨ga, 0, none⟩) m ca) ∧ (b' 5 = true → vs 5 = .pointer (some ⟨g, 0, none⟩)) ∧ (b' 6 = true → vs 6 = .pointer (some ⟨g, 0, none⟩)) ∧ (b' 7 = true → vs 7 = .pointer (some ⟨g, 0, none⟩)) ∧ (b' 8 = true → vs 8 = .int .i64 (z : Int)) ∧ (b' 9 = false → Hid (Below w2.heap.size w2 w' ∧ w2.heap.size ≤ w'.heap.size)) ∧ (b' 9 = true → Hid (OwnB w' 0 x.sv (nowK x.size x.A x.L (k + 1)) ∧ Keep (fun k => k ≠ ga) w2 w')) ∧ (b' 9 = true → b' 0 = true) ∧ (b' 9 = true → b' 4 = true) ∧ (b' 9 = true → b' 8 = true)) ?_ ?_ ?_
      · intro vs
        exact ⟨fun h => Bool.noConfusion h, fun h => Bool.noConfusion h, fun h => Bool.noConfusion h, fun h => Bool.noConfusion h, fun h => Bool.noConfusion h, fun h => Bool.noConfusion h, fun h => Bool.noConfusion h, fun h => Bool.noConfusion h, fun h => Bool.noConfusion h, fun _ => Lib.hid ⟨below_drewN (Below.refl _ _) 1, Nat.le_refl _⟩, fun h => Bool.noConfusion h, fun h => Bool.noConfusion h, fun h => Bool.noConfusion h, fun h => Bool.noConfusion h⟩
      · rintro b' vs w' i op hi hun hall ⟨h0, h1, h2, h3, h4, h5, h6, h7, h8, hB, hG, hW0, hW4, hW8⟩
        have hil : i < 10 := (List.getElem?_eq_some_iff.1 hi).1
        rcases i with _ | _ | _ | _ | _ | _ | _ | _ | _ | _ | i
        · obtain rfl := Option.some.inj hi
          clear hi hil
          have hap : b' 9 = false := by
            cases hz : b' 9 with
            | false => rfl
            | true => exact absurd (hW0 hz) (by rw [hun]; decide)
          have m0 := (HC9.out w' (hB hap).out.1).1.cell 0
          have m1 := (HC9.out w' (hB hap).out.1).1.cell 1
          refine wpOp_step rfl (fun K hK => ?_)
          have HKK := Lib.hid hK; clear hK
          simp only [putAll, Act.put, List.setIfInBounds_toArray, List.set_cons_zero, List.set_cons_succ]
          go_simp
          exact HKK.out _ _ ⟨_, by simp only [putAll, Act.put, List.setIfInBounds_toArray, List.set_cons_zero, List.set_cons_succ] <;> rfl, fun _ => rfl, h1, h2, h3, h4, h5, h6, h7, h8, hB, hG, fun _ => rfl, hW4, hW8⟩
        · obtain rfl := Option.some.inj hi
          clear hi hil
          refine wpOp_step rfl (fun K hK => ?_)
          have HKK := Lib.hid hK; clear hK
          simp only [putAll, Act.put, List.setIfInBounds_toArray, List.set_cons_zero, List.set_cons_succ]
          go_simp
          exact HKK.out _ _ ⟨_, by simp only [putAll, Act.put, List.setIfInBounds_toArray, List.set_cons_zero, List.set_cons_succ] <;> rfl, h0, fun _ => rfl, h2, h3, h4, h5, h6, h7, h8, hB, hG, hW0, hW4, hW8⟩
        · obtain rfl := Option.some.inj hi
          clear hi hil
          have d1 := h1 (hall ⟨1, .data⟩ (by simp) rfl)
          refine wpOp_step rfl (fun K hK => ?_)
          have HKK := Lib.hid hK; clear hK
          simp only [putAll, Act.put, List.setIfInBounds_toArray, List.set_cons_zero, List.set_cons_succ]
          go_simp
          exact HKK.out _ _ ⟨_, by simp only [putAll, Act.put, List.setIfInBounds_toArray, List.set_cons_zero, List.set_cons_succ, d1] <;> rfl, h0, h1, fun _ => rfl, h3, h4, h5, h6, h7, h8, hB, hG, hW0, hW4, hW8⟩
        · obtain rfl := Option.some.inj hi
          clear hi hil
          have d2 := h2 (hall ⟨2, .data⟩ (by simp) rfl)
          refine wpOp_step rfl (fun K hK => ?_)
          have HKK := Lib.hid hK; clear hK
          simp only [putAll, Act.put, List.setIfInBounds_toArray, List.set_cons_zero, List.set_cons_succ]
          go_simp
          exact HKK.out _ _ ⟨_, by simp only [putAll, Act.put, List.setIfInBounds_toArray, List.set_cons_zero, List.set_cons_succ, d2] <;> rfl, h0, h1, h2, fun _ => rfl, h4, h5, h6, h7, h8, hB, hG, hW0, hW4, hW8⟩
        · obtain rfl := Option.some.inj hi
          clear hi hil
          have hap : b' 9 = false := by
            cases hz : b' 9 with
            | false => rfl
            | true => exact absurd (hW4 hz) (by rw [hun]; decide)
          have d3 := h3 (hall ⟨3, .data⟩ (by simp) rfl)
          have m3 := (HC9.out w' (hB hap).out.1).2.2
          refine wpOp_step rfl (fun K hK => ?_)
          have HKK := Lib.hid hK; clear hK
          simp only [putAll, Act.put, List.setIfInBounds_toArray, List.set_cons_zero, List.set_cons_succ]
          go_simp
          exact HKK.out _ _ ⟨_, by simp only [putAll, Act.put, List.setIfInBounds_toArray, List.set_cons_zero, List.set_cons_succ, d3] <;> rfl, h0, h1, h2, h3, fun _ => rfl, h5, h6, h7, h8, hB, hG, hW0, fun _ => rfl, hW8⟩
        · obtain rfl := Option.some.inj hi
          clear hi hil
          refine wpOp_step rfl (fun K hK => ?_)
          have HKK := Lib.hid hK; clear hK
          simp only [putAll, Act.put, List.setIfInBounds_toArray, List.set_cons_zero, List.set_cons_succ]
          go_simp
          exact HKK.out _ _ ⟨_, by simp only [putAll, Act.put, List.setIfInBounds_toArray, List.set_cons_zero, List.set_cons_succ] <;> rfl, h0, h1, h2, h3, h4, fun _ => rfl, h6, h7, h8, hB, hG, hW0, hW4, hW8⟩
        · obtain rfl := Option.some.inj hi
          clear hi hil
          have d5 := h5 (hall ⟨5, .data⟩ (by simp) rfl)
          refine wpOp_step rfl (fun K hK => ?_)
          have HKK := Lib.hid hK; clear hK
          simp only [putAll, Act.put, List.setIfInBounds_toArray, List.set_cons_zero, List.set_cons_succ]
          go_simp
          exact HKK.out _ _ ⟨_, by simp only [putAll, Act.put, List.setIfInBounds_toArray, List.set_cons_zero, List.set_cons_succ, d5] <;> rfl, h0, h1, h2, h3, h4, h5, fun _ => rfl, h7, h8, hB, hG, hW0, hW4, hW8⟩
        · obtain rfl := Option.some.inj hi
          clear hi hil
          have d6 := h6 (hall ⟨6, .data⟩ (by simp) rfl)
          refine wpOp_step rfl (fun K hK => ?_)
          have HKK := Lib.hid hK; clear hK
          simp only [putAll, Act.put, List.setIfInBounds_toArray, List.set_cons_zero, List.set_cons_succ]
          go_simp
          exact HKK.out _ _ ⟨_, by simp only [putAll, Act.put, List.setIfInBounds_toArray, List.set_cons_zero, List.set_cons_succ, d6] <;> rfl, h0, h1, h2, h3, h4, h5, h6, fun _ => rfl, h8, hB, hG, hW0, hW4, hW8⟩
        · obtain rfl := Option.some.inj hi
          clear hi hil
          have hap : b' 9 = false := by
            cases hz : b' 9 with
            | false => rfl
            | true => exact absurd (hW8 hz) (by rw [hun]; decide)
          have d7 := h7 (hall ⟨7, .data⟩ (by simp) rfl)
          have m2 := (HC9.out w' (hB hap).out.1).2.1
          refine wpOp_step rfl (fun K hK => ?_)
          have HKK := Lib.hid hK; clear hK
          simp only [putAll, Act.put, List.setIfInBounds_toArray, List.set_cons_zero, List.set_cons_succ]
          go_simp
          exact HKK.out _ _ ⟨_, by simp only [putAll, Act.put, List.setIfInBounds_toArray, List.set_cons_zero, List.set_cons_succ, d7] <;> rfl, h0, h1, h2, h3, h4, h5, h6, h7, fun _ => rfl, hB, hG, hW0, hW4, fun _ => rfl⟩
        · obtain rfl := Option.some.inj hi
          clear hi hil
          have hap : b' 9 = false := hun
          have d0 := h0 (hall ⟨0, .data⟩ (by simp) rfl)
          have d4 := h4 (hall ⟨4, .data⟩ (by simp) rfl)
          have d8 := h8 (hall ⟨8, .data⟩ (by simp) rfl)
          refine wpOp_step rfl (fun K hK => ?_)
          have HKK := Lib.hid hK; clear hK
          simp only [putAll, Act.put, List.setIfInBounds_toArray, List.set_cons_zero, List.set_cons_succ]
          go_simp
          refine (HLAY.out w' (hB hap).out.1).mono ?_
          rintro e w2' ⟨rfl, ho2, hk2⟩
          exact HKK.out _ _ ⟨_, by simp only [putAll, Act.put, List.setIfInBounds_toArray, List.set_cons_zero, List.set_cons_succ, d0, d4, d8] <;> rfl, h0, h1, h2, h3, h4, h5, h6, h7, h8, fun h => Bool.noConfusion h, fun _ => Lib.hid (⟨by rw [HSV.out, HNX.out]; rw [HB1.out] at ho2; exact ho2, (Keep.of_below (hB hap).out.1).trans hk2⟩), fun _ => hall ⟨0, .data⟩ (by simp) rfl, fun _ => hall ⟨4, .data⟩ (by simp) rfl, fun _ => hall ⟨8, .data⟩ (by simp) rfl⟩
        · omega
      · rintro b' vs wz hall ⟨h0, h1, h2, h3, h4, h5, h6, h7, h8, hB, hG, hW0, hW4, hW8⟩
        have d0 := h0 (hall 0 (by simp))
        have d1 := h1 (hall 1 (by simp))
        have d2 := h2 (hall 2 (by simp))
        have d3 := h3 (hall 3 (by simp))
        have d4 := h4 (hall 4 (by simp))
        have d5 := h5 (hall 5 (by simp))
        have d6 := h6 (hall 6 (by simp))
        have d7 := h7 (hall 7 (by simp))
        have d8 := h8 (hall 8 (by simp))
        have GG := hG (hall 9 (by simp))
        simp only [putAll, Act.put, List.setIfInBounds_toArray, List.set_cons_zero, List.set_cons_succ, d0, d1, d2, d3, d4, d5, d6, d7, d8]
        clear hall h0 d0 h1 d1 h2 d2 h3 d3 h4 d4 h5 d5 h6 d6 h7 d7 h8 d8 hB hG hW0 hW4 hW8
        have HS : Hid (KAt T wz g { x with A := nowK x.size x.A x.L (k + 1) } ∧ Keep (fun j => ¬ T j) w1 wz) := by
          refine ⟨(hkw.out).lay GG.out.1 (GG.out.2.mono fun k hk e => hk (by rw [e, HSV.out]; rfl)), (hw.out.2.trans (Keep.of_below H2.out.1)).trans (GG.out.2.mono fun k hk e => hk (by rw [e]; exact HTG.out))⟩
        clear GG HC9 HLAY hkw
        have hn9 := HZ.out.few
        rw [HN.out] at hn9
        go_wp2_with fail
        exact ⟨⟨k + 1, by omega, by go_num, HS.out⟩, by simp [intOf]; omega⟩
    · have hd : decide ((k : Int) < (n : Int)) = false := by simp; omega
      have hkn : k = n := by omega
      rw [hkn] at hw
      clear hkn
      have f2 := hw.out.1.blk.free 2
      have lg := hw.out.1.blk.lt
      go_wp2_with fail
      go_ret
      exact ⟨rfl, hw.out.1.drop, (H1.out.2.trans hw.out.2).trans (Keep.setCell _ _ _ (by simpa using HTG0.out))⟩
theorem kSync_c (T : Nat → Prop) (w : World) (g : Nat) (d : DM) (h : At12 T w g d) (ok : OkD d 1000) : Calls Try.prog 37 #[ptrD g] w fun e w' => ∃ T', e = .returned (.int .i64 (syncD d).2) ∧ At12 T' w' g (syncD d).1 ∧ To T w T' w' := by
  obtain ⟨x, hx, hr⟩ := h
  obtain ⟨z, hz⟩ := hr.okL ok
  have hdn : 0 ≤ x.done ∧ x.done ≤ 1000000 := by have := ok.done; have := hr.done; omega
  unfold syncD
  cases hd : d.down
  · rw [if_neg (by simp)]
    obtain ⟨hrc, hce⟩ := hr.cmd ok.left
    by_cases hc : (cmdD d).2 = 0
    · rw [if_pos hc]
      refine (syncK_ok T w g x z hx (by rw [hr.down]; exact hd) hdn hr.rng (by rw [hce]; exact hc) hz).mono ?_
      rintro e w' ⟨rfl, hk, hkp⟩
      refine ⟨T, rfl, ⟨_, hk, ?_⟩, hkp, fun _ h => .inl h⟩
      exact ⟨hrc.size, nowK_all hr, rfl, hrc.reads, hrc.done, hrc.down, hrc.armed, hrc.free, hrc.rng⟩
    · rw [if_neg hc]
      have h40 : (cmdD d).2 = 40 := by
        rw [← hce] at hc ⊢
        unfold cmdE at *
        split at hc
        · rename_i q; rw [if_pos q]
        · exact absurd rfl hc
      refine (syncK_stop w g x hx.blk (by rw [hr.down]; exact hd) hdn hr.rng (by rw [hce]; exact h40)).mono ?_
      rintro e w' ⟨rfl, hb, hk⟩
      exact ⟨T, by rw [h40], ⟨_, hx.cmd hb hk, hrc⟩, To.cell hx.tg hk⟩
  · rw [if_pos rfl]
    refine (syncK_down w g x hx.blk (by rw [hr.down]; exact hd)).mono ?_
    rintro e w' ⟨rfl, hb⟩
    exact ⟨T, rfl, ⟨x, hx.grow hb, hr⟩, To.below hb⟩
end Go.Proofs.Ytdcjchakgfpgaaa
