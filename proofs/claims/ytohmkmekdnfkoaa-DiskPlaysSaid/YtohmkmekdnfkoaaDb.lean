/- Layer 12: the document's Crash. -/
import Derived.Test.YtohmkmekdnfkoaaDa
import Derived.Lib.MinMax
namespace Go.Proofs.Ytohmkmekdnfkoaa
open Go.RowKit
/-- What a disk of the document that was made rightly has in memory. -/
structure OkX (x : Rx) (z : Nat) : Prop where
  size : x.size = (z : Int)
  z1 : 16 ≤ z
  z2 : z ≤ 512
  len : x.safe.length ≤ 1000
  few : x.L.length ≤ 1000
  pos : 0 < x.safe.length
  each : ∀ y ∈ x.L, ∃ i : Nat, y.1 = (i : Int) ∧ i * z + z ≤ x.safe.length ∧ y.2.2.length = z
theorem RX.put {T T' : Nat → Prop} {w : World} {g : Nat} {x : Rx} (h : RX T w g x) {v : Value} {S : List Int} (ho : OwnB w 0 v S) (ht : ∀ k, T k → T' k) (hv : ∀ k, v.ownBlock = some k → T' k) : RX T' (w.setCell ⟨g, 0, none⟩ v) g { x with safe := S, sv := v } := by
  have hs : Keep (fun k => k ≠ g) w (w.setCell ⟨g, 0, none⟩ v) := Keep.setCell _ _ _ (by simp)
  exact ⟨ht _ h.tg, h.blk.set 0 v, owns_keep ho hs fun k e => fun hg => owns_off ho h.blk (by decide) (hg ▸ e), hv, owns_keep h.wait hs fun k e => fun hg => owns_off h.wait h.blk (by decide) (hg ▸ e), fun k e => ht k (h.tw k e), fun y hy => ⟨owns_keep (h.byts y hy).1 hs fun k e => fun hg => owns_off (h.byts y hy).1 h.blk (by decide) (hg ▸ e), fun k e => ht k ((h.byts y hy).2 k e)⟩⟩
set_option maxHeartbeats 4000000 in
set_option maxRecDepth 100000 in
theorem refCrash_c (T : Nat → Prop) (w : World) (g : Nat) (x : Rx) (z : Nat) (v : Value) (keep : List Bool) (torn cut : Int) (h : RX T w g x) (hz : OkX x z) (hv : RowT w v keep) (hvT : keep.length ≠ 0 → ∀ k, v.ownBlock = some k → ¬ T k) (hcut : rngI cut) (_hkl : keep.length ≤ 1000) :
    Calls Try.prog 28 #[ptrD g, v, .int .i64 torn, .int .i64 cut] w fun e w' => ∃ T' sv', e = .returned (.tuple #[]) ∧ RX T' w' g { x with safe := crashK keep torn cut x.size x.safe x.L x.L.length, L := [], armed := false, down := false, sv := sv', wv := .slice none 0 0 } ∧ To T w T' w' ∧ ((∀ k, T k → k < w.heap.size) → ∀ k, T' k → k < w'.heap.size) := by
  obtain ⟨n, hn⟩ : ∃ n, x.L.length = n := ⟨_, rfl⟩
  obtain ⟨m, hm⟩ : ∃ m, x.safe.length = m := ⟨_, rfl⟩
  obtain ⟨wo, wc, hwv⟩ := h.wait.row.shape
  obtain ⟨vo, vc, rfl⟩ := hv.shape
  obtain ⟨vn, hvn⟩ : ∃ m, keep.length = m := ⟨_, rfl⟩
  rw [hvn] at hv hvT
  have H1 : Hid (RX T w g x) := h
  have HV := Lib.hid (And.intro hv hvT)
  have HVN := Lib.hid hvn
  have HZ := Lib.hid hz
  have HN := Lib.hid hn
  have HM := Lib.hid hm
  have HCT := Lib.hid hcut
  have HTG0 : Hid (T g) := h.tg
  have HW : Hid (x.wv = .slice wo n wc) := by rw [hwv, hn]; exact rfl
  obtain ⟨d0, d1, d2, d3, d4, d5, d6⟩ := h.blk.d7
  rw [HW.out] at d2
  rw [hn, hvn]
  clear hwv hn hm h hz hv hvT hvn hcut
  go_enter Try.func28, Try.ntmps28
  go_wp2_with fail
  go_loopw [8, 3] (fun s8 s3 wr => ∃ (k : Nat) (cc : Int) (sv' : Value), k ≤ n ∧ s8 = .int .i64 (k : Int) ∧ s3 = .int .i64 cc ∧ (rngI cc ∧ ((k : Int) ≤ torn → cc = cut)) ∧ Hid (RX (fun j => T j ∨ (w.heap.size ≤ j ∧ j < wr.heap.size)) wr g { x with safe := crashK keep torn cut x.size x.safe x.L k, sv := sv' } ∧ Keep (fun j => ¬ T j) w wr)) (fun s8 _ _ => n - (intOf s8).toNat)
  case atStart => exact ⟨0, cut, x.sv, by omega, rfl, rfl, ⟨HCT.out, fun _ => rfl⟩, H1.out.wide fun k hk => .inl hk, Keep.refl _ _⟩
  case round =>
    obtain ⟨k, cc, sv', hk, rfl, rfl, hcc, hw⟩ := hrel
    clear d0 d1 d2 d3 d4 d5 d6
    obtain ⟨d0, d1, d2, d3, d4, d5, d6⟩ := hw.out.1.blk.d7
    have d2' : wr.cell? ⟨g, 2, none⟩ = some x.wv := d2
    rw [HW.out] at d2'
    clear d2
    have d2 := d2'
    clear d2'
    by_cases hlt : k < n
    · have hd : decide ((k : Int) < (n : Int)) = true := by simp; omega
      have hki : (k : Int) < (n : Int) := by omega
      obtain ⟨y, hy⟩ : ∃ y, x.L[k]? = some y := ⟨_, List.getElem?_eq_getElem (by rw [HN.out]; exact hlt)⟩
      have hmem := List.mem_of_getElem? hy
      have hkat := hw.out.1
      have hrow : RowW wr x.wv x.L := hkat.wait.row
      rw [HW.out] at hrow
      obtain ⟨wb, wof, rfl, hwb, hwc⟩ := RowW.addr hrow (by rw [HN.out]; omega)
      obtain ⟨c0, c1⟩ := hwc k y hy
      obtain ⟨i, hi, hfit, hbl⟩ := HZ.out.each y hmem
      have hz1 := HZ.out.z1
      have hby := (hkat.byts y hmem).1
      obtain ⟨b, bc, hbv, hbz, _⟩ := hby.form (by omega)
      rw [hbl] at hbv hbz
      rw [hi] at c0
      rw [hbv] at c1 hby
      obtain ⟨B, hB⟩ : ∃ B, y.2.2 = B := ⟨_, rfl⟩
      rw [hB] at hby hbl
      obtain ⟨w2, hw2⟩ : ∃ WW, wr.alloc (.cells #[.int .i64 (i : Int), .slice (some ⟨b, 0, none⟩) z bc] 41) = WW := ⟨_, rfl⟩
      obtain ⟨g2, hg2⟩ : ∃ G, wr.heap.size = G := ⟨_, rfl⟩
      have H2 : Hid (Below wr.heap.size wr w2 ∧ Blk w2 g2 41 #[.int .i64 (i : Int), .slice (some ⟨b, 0, none⟩) z bc] ∧ OwnB w2 0 (.slice (some ⟨b, 0, none⟩) z bc) B) := by
        rw [← hw2]
        exact ⟨(Below.refl _ _).alloc (Nat.le_refl _) _, by rw [← hg2]; exact Blk.new _ _ _, hby.grow ((Below.refl _ _).alloc (Nat.le_refl _) _)⟩
      have v1 : w2.cell? ⟨g2, 1, none⟩ = some (.slice (some ⟨b, 0, none⟩) z bc) := H2.out.2.1.cell 1
      obtain ⟨q, hq⟩ : ∃ q : Nat, i * z = q := ⟨_, rfl⟩
      have hqz : (i : Int) * (z : Int) = (q : Int) := by rw [← hq]; simp
      have hqm : q ≤ 1000 := by have := HZ.out.len; omega
      have E2 : Hid (IntKind.i64.wrap ((i : Int) * (z : Int)) = (q : Int)) := by rw [Hid, wrap_is, hqz]; exact wrapR _ (by omega) (by omega)
      have HQM : Hid (q ≤ 1000) := hqm
      have HSTEP : Hid (crashK keep torn cut x.size x.safe x.L (k + 1) = layB (crashK keep torn cut x.size x.safe x.L k) (tornB keep torn cut k B) (q : Int)) := by
        have e := crashK_succ (keep := keep) (torn := torn) (cut := cut) (size := x.size) (A := x.safe) hy
        rw [hi, hB, HZ.out.size, hqz] at e
        rw [Hid, HZ.out.size]
        exact e
      have hkw : Hid (RX (fun j => T j ∨ (w.heap.size ≤ j ∧ j < wr.heap.size)) w2 g { x with safe := crashK keep torn cut x.size x.safe x.L k, sv := sv' }) := hkat.grow H2.out.1
      obtain ⟨sa, sc, hsv⟩ := OwnB.shape hkat.safe
      have hsv2 : sv' = .slice sa m sc := by
        have e : (crashK keep torn cut x.size x.safe x.L k).length = m := by unfold crashK; rw [crashM_len]; exact HM.out
        rw [← e]; exact hsv
      subst hsv2
      have HC9 : Hid (∀ W, Below w2.heap.size w2 W → Blk W g2 41 #[.int .i64 (i : Int), .slice (some ⟨b, 0, none⟩) z bc] ∧ Blk W g 31 (cellsD (.slice sa m sc) (z : Int) x.wv x.left x.done x.armed x.down)) := fun W hW => by
        have hb := ((hkw.out.blk).grow hW)
        rw [← HZ.out.size]
        exact ⟨H2.out.2.1.grow hW, hb⟩
      have HBL : Hid (B.length = z ∧ z ≤ bc) := ⟨hbl, hbz⟩
      have HLAY : Hid (∀ (xo : Option Addr) (xn xc : Nat) (C : List Int), RowB w2 (.slice xo xn xc) C → C.length ≤ 1000 → C = tornB keep torn cut k B → ∀ W, Below w2.heap.size w2 W → Calls Try.prog 31 #[.slice sa m sc, .int .i64 (q : Int), .slice xo xn xc] W fun e w' => ∃ u, e = .returned u ∧ NewB w2.heap.size m (crashK keep torn cut x.size x.safe x.L (k + 1)) u w' ∧ Below W.heap.size W w') := fun xo xn xc C hr hl he W hW => by
        have hlen : (crashK keep torn cut x.size x.safe x.L k).length = m := by unfold crashK; rw [crashM_len]; exact HM.out
        have hmm := HZ.out.len
        rw [HM.out] at hmm
        refine (lay_c _ _ (crashK keep torn cut x.size x.safe x.L k) C (q : Int) W ((hkw.out.safe.grow hW).row) (hr.on hW) (by omega) (by omega) (by have := HQM.out; omega)).mono ?_
        rintro e w' ⟨u, rfl, ho, hb'⟩
        rw [he, ← HSTEP.out] at ho
        obtain ⟨a, c, e⟩ := ho.shape
        have hlen2 : (crashK keep torn cut x.size x.safe x.L (k + 1)).length = m := by unfold crashK; rw [crashM_len]; exact HM.out
        rw [hlen2] at e
        exact ⟨u, rfl, ⟨a, c, e, by rw [← e]; exact owns_base ho hW.size⟩, hb'⟩
      clear hkat hrow hwb hwc hy hmem hi hfit hbl hz1 hby hbv hbz hB hq hqz hqm hsv
      by_cases ht : (k : Int) = torn
      · have hte : ((k : Int) == torn) = true := by simpa using ht
        have hcut : cc = cut := hcc.2 (by omega)
        have HTT : Hid (∀ q : Int, (((k + 1 : Nat) : Int) ≤ torn → q = cut)) := fun q hq => by omega
        have HRC : Hid (rngI cc) := hcc.1
        clear hcc
        by_cases hc0 : cc < 0
        · have dc0 : decide (cc < 0) = true := by simpa using hc0
          have dc1 : decide ((0 : Int) > (z : Int)) = false := by simp
          have HROW : Hid (RowB w2 (.slice (some ⟨b, 0, none⟩) 0 bc) (B.take 0) ∧ (B.take 0).length ≤ 1000 ∧ B.take 0 = tornB keep torn cut k B) := by
            obtain ⟨r1, r2⟩ := H2.out.2.2.cut0 0 (by omega)
            rw [r1] at r2
            refine ⟨r2, by rw [r1]; have := HZ.out.z2; omega, ?_⟩
            unfold tornB
            rw [if_pos ht]
            rw [show cut.toNat = 0 by omega]
          have p0 : (0 : Int) ≤ (bc : Int) := by omega
          have p1 : ¬ bc = 0 := by have := HBL.out; have := HZ.out.z1; omega
          clear ht hc0 hcut
          go_upto_region 13 with fail
          clear c0 c1 hw2 hg2 d0 d1 d2 d3 d4 d5 d6 v1
          refine wp_region_put (by kernel_rfl) (by kernel_rfl) (by kernel_rfl) (fun b' vs w' => (b' 0 = true → vs 0 = .pointer (some ⟨g, 0, none⟩)) ∧ (b' 1 = true → vs 1 = .pointer (some ⟨g, 0, none⟩)) ∧ (b' 2 = true → vs 2 = .pointer (some ⟨g, 0, none⟩)) ∧ (b' 3 = true → vs 3 = .pointer (some ⟨g, 0, none⟩)) ∧ (b' 4 = true → vs 4 = .slice sa m sc) ∧ (b' 5 = true → vs 5 = .pointer (some ⟨g2, 0, none⟩)) ∧ (b' 6 = true → vs 6 = .int .i64 (i : Int)) ∧ (b' 7 = true → vs 7 = .pointer (some ⟨g, 0, none⟩)) ∧ (b' 8 = true → vs 8 = .pointer (some ⟨g, 0, none⟩)) ∧ (b' 9 = true → vs 9 = .pointer (some ⟨g, 1, none⟩)) ∧ (b' 10 = true → vs 10 = .int .i64 (z : Int)) ∧ (b' 11 = true → vs 11 = .int .i64 (q : Int)) ∧ (b' 12 = true → vs 12 = .slice (some ⟨b, 0, none⟩) 0 bc) ∧ (b' 14 = true → vs 14 = .pointer (some ⟨g, 0, none⟩)) ∧ (b' 15 = true → vs 15 = .pointer (some ⟨g, 0, none⟩)) ∧ (b' 13 = true → b' 16 = false → Hid (NewB w2.heap.size m (crashK keep torn cut x.size x.safe x.L (k + 1)) (vs 13) w')) ∧ (b' 16 = false → Hid (Below w2.heap.size w2 w' ∧ w2.heap.size ≤ w'.heap.size)) ∧ (b' 16 = true → Hid (∃ A ua uc, w' = A.setCell ⟨g, 0, none⟩ (.slice ua m uc) ∧ Below w2.heap.size w2 A ∧ OwnB A w2.heap.size (.slice ua m uc) (crashK keep torn cut x.size x.safe x.L (k + 1)))) ∧ (b' 13 = true → b' 4 = true) ∧ (b' 13 = true → b' 11 = true) ∧ (b' 11 = true → b' 6 = true) ∧ (b' 11 = true → b' 10 = true) ∧ (b' 16 = true → b' 4 = true) ∧ (b' 16 = true → b' 6 = true) ∧ (b' 16 = true → b' 10 = true) ∧ (b' 16 = true → b' 13 = true)) ?_ ?_ ?_
          · intro vs
            exact ⟨fun h => Bool.noConfusion h, fun h => Bool.noConfusion h, fun h => Bool.noConfusion h, fun h => Bool.noConfusion h, fun h => Bool.noConfusion h, fun h => Bool.noConfusion h, fun h => Bool.noConfusion h, fun h => Bool.noConfusion h, fun h => Bool.noConfusion h, fun h => Bool.noConfusion h, fun h => Bool.noConfusion h, fun h => Bool.noConfusion h, fun h => Bool.noConfusion h, fun h => Bool.noConfusion h, fun h => Bool.noConfusion h, fun h => Bool.noConfusion h, fun _ => Lib.hid ⟨below_drewN (Below.refl _ _) 1, Nat.le_refl _⟩, fun h => Bool.noConfusion h, fun h => Bool.noConfusion h, fun h => Bool.noConfusion h, fun h => Bool.noConfusion h, fun h => Bool.noConfusion h, fun h => Bool.noConfusion h, fun h => Bool.noConfusion h, fun h => Bool.noConfusion h, fun h => Bool.noConfusion h⟩
          · rintro b' vs w' i op hi hun hall ⟨h0, h1, h2, h3, h4, h5, h6, h7, h8, h9, h10, h11, h12, h14, h15, y13, hB, hG, hE13_4, hE13_11, hE11_6, hE11_10, hW4, hW6, hW10, hW13⟩
            have hil : i < 17 := (List.getElem?_eq_some_iff.1 hi).1
            rcases i with _ | _ | _ | _ | _ | _ | _ | _ | _ | _ | _ | _ | _ | _ | _ | _ | _ | i
            · obtain rfl := Option.some.inj hi
              clear hi hil
              refine wpOp_step rfl (fun K hK => ?_)
              have HKK := Lib.hid hK; clear hK
              simp only [putAll, Act.put, List.setIfInBounds_toArray, List.set_cons_zero, List.set_cons_succ]
              go_simp
              exact HKK.out _ _ ⟨_, by simp only [putAll, Act.put, List.setIfInBounds_toArray, List.set_cons_zero, List.set_cons_succ] <;> rfl, fun _ => rfl, h1, h2, h3, h4, h5, h6, h7, h8, h9, h10, h11, h12, h14, h15, y13, hB, hG, hE13_4, hE13_11, hE11_6, hE11_10, hW4, hW6, hW10, hW13⟩
            · obtain rfl := Option.some.inj hi
              clear hi hil
              refine wpOp_step rfl (fun K hK => ?_)
              have HKK := Lib.hid hK; clear hK
              simp only [putAll, Act.put, List.setIfInBounds_toArray, List.set_cons_zero, List.set_cons_succ]
              go_simp
              exact HKK.out _ _ ⟨_, by simp only [putAll, Act.put, List.setIfInBounds_toArray, List.set_cons_zero, List.set_cons_succ] <;> rfl, h0, fun _ => rfl, h2, h3, h4, h5, h6, h7, h8, h9, h10, h11, h12, h14, h15, y13, hB, hG, hE13_4, hE13_11, hE11_6, hE11_10, hW4, hW6, hW10, hW13⟩
            · obtain rfl := Option.some.inj hi
              clear hi hil
              have d1 := h1 (hall ⟨1, .data⟩ (by simp) rfl)
              refine wpOp_step rfl (fun K hK => ?_)
              have HKK := Lib.hid hK; clear hK
              simp only [putAll, Act.put, List.setIfInBounds_toArray, List.set_cons_zero, List.set_cons_succ]
              go_simp
              exact HKK.out _ _ ⟨_, by simp only [putAll, Act.put, List.setIfInBounds_toArray, List.set_cons_zero, List.set_cons_succ, d1] <;> rfl, h0, h1, fun _ => rfl, h3, h4, h5, h6, h7, h8, h9, h10, h11, h12, h14, h15, y13, hB, hG, hE13_4, hE13_11, hE11_6, hE11_10, hW4, hW6, hW10, hW13⟩
            · obtain rfl := Option.some.inj hi
              clear hi hil
              have d2 := h2 (hall ⟨2, .data⟩ (by simp) rfl)
              refine wpOp_step rfl (fun K hK => ?_)
              have HKK := Lib.hid hK; clear hK
              simp only [putAll, Act.put, List.setIfInBounds_toArray, List.set_cons_zero, List.set_cons_succ]
              go_simp
              exact HKK.out _ _ ⟨_, by simp only [putAll, Act.put, List.setIfInBounds_toArray, List.set_cons_zero, List.set_cons_succ, d2] <;> rfl, h0, h1, h2, fun _ => rfl, h4, h5, h6, h7, h8, h9, h10, h11, h12, h14, h15, y13, hB, hG, hE13_4, hE13_11, hE11_6, hE11_10, hW4, hW6, hW10, hW13⟩
            · obtain rfl := Option.some.inj hi
              clear hi hil
              have hap : b' 16 = false := by
                cases hz : b' 16 with
                | false => rfl
                | true => exact absurd (hW4 hz) (by rw [hun]; decide)
              have d3 := h3 (hall ⟨3, .data⟩ (by simp) rfl)
              obtain ⟨k0, k1, k2, k3, k4, k5, k6⟩ := (HC9.out w' (hB hap).out.1).2.d7
              refine wpOp_step rfl (fun K hK => ?_)
              have HKK := Lib.hid hK; clear hK
              simp only [putAll, Act.put, List.setIfInBounds_toArray, List.set_cons_zero, List.set_cons_succ]
              go_simp
              exact HKK.out _ _ ⟨_, by simp only [putAll, Act.put, List.setIfInBounds_toArray, List.set_cons_zero, List.set_cons_succ, d3] <;> rfl, h0, h1, h2, h3, fun _ => rfl, h5, h6, h7, h8, h9, h10, h11, h12, h14, h15, y13, hB, hG, fun _ => rfl, hE13_11, hE11_6, hE11_10, fun _ => rfl, hW6, hW10, hW13⟩
            · obtain rfl := Option.some.inj hi
              clear hi hil
              refine wpOp_step rfl (fun K hK => ?_)
              have HKK := Lib.hid hK; clear hK
              simp only [putAll, Act.put, List.setIfInBounds_toArray, List.set_cons_zero, List.set_cons_succ]
              go_simp
              exact HKK.out _ _ ⟨_, by simp only [putAll, Act.put, List.setIfInBounds_toArray, List.set_cons_zero, List.set_cons_succ] <;> rfl, h0, h1, h2, h3, h4, fun _ => rfl, h6, h7, h8, h9, h10, h11, h12, h14, h15, y13, hB, hG, hE13_4, hE13_11, hE11_6, hE11_10, hW4, hW6, hW10, hW13⟩
            · obtain rfl := Option.some.inj hi
              clear hi hil
              have hap : b' 16 = false := by
                cases hz : b' 16 with
                | false => rfl
                | true => exact absurd (hW6 hz) (by rw [hun]; decide)
              have d5 := h5 (hall ⟨5, .data⟩ (by simp) rfl)
              have m0 := (HC9.out w' (hB hap).out.1).1.cell 0
              refine wpOp_step rfl (fun K hK => ?_)
              have HKK := Lib.hid hK; clear hK
              simp only [putAll, Act.put, List.setIfInBounds_toArray, List.set_cons_zero, List.set_cons_succ]
              go_simp
              exact HKK.out _ _ ⟨_, by simp only [putAll, Act.put, List.setIfInBounds_toArray, List.set_cons_zero, List.set_cons_succ, d5] <;> rfl, h0, h1, h2, h3, h4, h5, fun _ => rfl, h7, h8, h9, h10, h11, h12, h14, h15, y13, hB, hG, hE13_4, hE13_11, fun _ => rfl, hE11_10, hW4, fun _ => rfl, hW10, hW13⟩
            · obtain rfl := Option.some.inj hi
              clear hi hil
              refine wpOp_step rfl (fun K hK => ?_)
              have HKK := Lib.hid hK; clear hK
              simp only [putAll, Act.put, List.setIfInBounds_toArray, List.set_cons_zero, List.set_cons_succ]
              go_simp
              exact HKK.out _ _ ⟨_, by simp only [putAll, Act.put, List.setIfInBounds_toArray, List.set_cons_zero, List.set_cons_succ] <;> rfl, h0, h1, h2, h3, h4, h5, h6, fun _ => rfl, h8, h9, h10, h11, h12, h14, h15, y13, hB, hG, hE13_4, hE13_11, hE11_6, hE11_10, hW4, hW6, hW10, hW13⟩
            · obtain rfl := Option.some.inj hi
              clear hi hil
              have d7 := h7 (hall ⟨7, .data⟩ (by simp) rfl)
              refine wpOp_step rfl (fun K hK => ?_)
              have HKK := Lib.hid hK; clear hK
              simp only [putAll, Act.put, List.setIfInBounds_toArray, List.set_cons_zero, List.set_cons_succ]
              go_simp
              exact HKK.out _ _ ⟨_, by simp only [putAll, Act.put, List.setIfInBounds_toArray, List.set_cons_zero, List.set_cons_succ, d7] <;> rfl, h0, h1, h2, h3, h4, h5, h6, h7, fun _ => rfl, h9, h10, h11, h12, h14, h15, y13, hB, hG, hE13_4, hE13_11, hE11_6, hE11_10, hW4, hW6, hW10, hW13⟩
            · obtain rfl := Option.some.inj hi
              clear hi hil
              have d8 := h8 (hall ⟨8, .data⟩ (by simp) rfl)
              refine wpOp_step rfl (fun K hK => ?_)
              have HKK := Lib.hid hK; clear hK
              simp only [putAll, Act.put, List.setIfInBounds_toArray, List.set_cons_zero, List.set_cons_succ]
              go_simp
              exact HKK.out _ _ ⟨_, by simp only [putAll, Act.put, List.setIfInBounds_toArray, List.set_cons_zero, List.set_cons_succ, d8] <;> rfl, h0, h1, h2, h3, h4, h5, h6, h7, h8, fun _ => rfl, h10, h11, h12, h14, h15, y13, hB, hG, hE13_4, hE13_11, hE11_6, hE11_10, hW4, hW6, hW10, hW13⟩
            · obtain rfl := Option.some.inj hi
              clear hi hil
              have hap : b' 16 = false := by
                cases hz : b' 16 with
                | false => rfl
                | true => exact absurd (hW10 hz) (by rw [hun]; decide)
              have d9 := h9 (hall ⟨9, .data⟩ (by simp) rfl)
              obtain ⟨k0, k1, k2, k3, k4, k5, k6⟩ := (HC9.out w' (hB hap).out.1).2.d7
              refine wpOp_step rfl (fun K hK => ?_)
              have HKK := Lib.hid hK; clear hK
              simp only [putAll, Act.put, List.setIfInBounds_toArray, List.set_cons_zero, List.set_cons_succ]
              go_simp
              exact HKK.out _ _ ⟨_, by simp only [putAll, Act.put, List.setIfInBounds_toArray, List.set_cons_zero, List.set_cons_succ, d9] <;> rfl, h0, h1, h2, h3, h4, h5, h6, h7, h8, h9, fun _ => rfl, h11, h12, h14, h15, y13, hB, hG, hE13_4, hE13_11, hE11_6, fun _ => rfl, hW4, hW6, fun _ => rfl, hW13⟩
            · obtain rfl := Option.some.inj hi
              clear hi hil
              have d6 := h6 (hall ⟨6, .data⟩ (by simp) rfl)
              have d10 := h10 (hall ⟨10, .data⟩ (by simp) rfl)
              refine wpOp_step rfl (fun K hK => ?_)
              have HKK := Lib.hid hK; clear hK
              simp only [putAll, Act.put, List.setIfInBounds_toArray, List.set_cons_zero, List.set_cons_succ]
              go_simp
              exact HKK.out _ _ ⟨_, by simp only [putAll, Act.put, List.setIfInBounds_toArray, List.set_cons_zero, List.set_cons_succ, d6, d10, E2.out] <;> rfl, h0, h1, h2, h3, h4, h5, h6, h7, h8, h9, h10, fun _ => rfl, h12, h14, h15, y13, hB, hG, hE13_4, fun _ => rfl, fun _ => hall ⟨6, .data⟩ (by simp) rfl, fun _ => hall ⟨10, .data⟩ (by simp) rfl, hW4, hW6, hW10, hW13⟩
            · obtain rfl := Option.some.inj hi
              clear hi hil
              refine wpOp_step rfl (fun K hK => ?_)
              have HKK := Lib.hid hK; clear hK
              simp only [putAll, Act.put, List.setIfInBounds_toArray, List.set_cons_zero, List.set_cons_succ]
              go_simp
              exact HKK.out _ _ ⟨_, by simp only [putAll, Act.put, List.setIfInBounds_toArray, List.set_cons_zero, List.set_cons_succ] <;> rfl, h0, h1, h2, h3, h4, h5, h6, h7, h8, h9, h10, h11, fun _ => rfl, h14, h15, y13, hB, hG, hE13_4, hE13_11, hE11_6, hE11_10, hW4, hW6, hW10, hW13⟩
            · obtain rfl := Option.some.inj hi
              clear hi hil
              have hap : b' 16 = false := by
                cases hz : b' 16 with
                | false => rfl
                | true => exact absurd (hW13 hz) (by rw [hun]; decide)
              have d4 := h4 (hall ⟨4, .data⟩ (by simp) rfl)
              have d11 := h11 (hall ⟨11, .data⟩ (by simp) rfl)
              have d12 := h12 (hall ⟨12, .data⟩ (by simp) rfl)
              refine wpOp_step rfl (fun K hK => ?_)
              have HKK := Lib.hid hK; clear hK
              simp only [putAll, Act.put, List.setIfInBounds_toArray, List.set_cons_zero, List.set_cons_succ]
              go_simp
              refine (HLAY.out _ _ _ _ HROW.out.1 HROW.out.2.1 HROW.out.2.2 w' (hB hap).out.1).mono ?_
              rintro e w2' ⟨u2, rfl, ho2, hb2⟩
              exact HKK.out _ _ ⟨_, by simp only [putAll, Act.put, List.setIfInBounds_toArray, List.set_cons_zero, List.set_cons_succ, d4, d11, d12] <;> rfl, h0, h1, h2, h3, h4, h5, h6, h7, h8, h9, h10, h11, h12, h14, h15, fun _ _ => Lib.hid (ho2), fun ha => Lib.hid ⟨(hB ha).out.1.trans (hb2.mono (hB ha).out.2), Nat.le_trans (hB ha).out.2 hb2.size⟩, fun h => absurd (show b' 16 = true from h) (by rw [hap]; decide), fun _ => hall ⟨4, .data⟩ (by simp) rfl, fun _ => hall ⟨11, .data⟩ (by simp) rfl, hE11_6, hE11_10, hW4, hW6, hW10, fun _ => rfl⟩
            · obtain rfl := Option.some.inj hi
              clear hi hil
              have d0 := h0 (hall ⟨0, .data⟩ (by simp) rfl)
              refine wpOp_step rfl (fun K hK => ?_)
              have HKK := Lib.hid hK; clear hK
              simp only [putAll, Act.put, List.setIfInBounds_toArray, List.set_cons_zero, List.set_cons_succ]
              go_simp
              exact HKK.out _ _ ⟨_, by simp only [putAll, Act.put, List.setIfInBounds_toArray, List.set_cons_zero, List.set_cons_succ, d0] <;> rfl, h0, h1, h2, h3, h4, h5, h6, h7, h8, h9, h10, h11, h12, fun _ => rfl, h15, y13, hB, hG, hE13_4, hE13_11, hE11_6, hE11_10, hW4, hW6, hW10, hW13⟩
            · obtain rfl := Option.some.inj hi
              clear hi hil
              have d14 := h14 (hall ⟨14, .data⟩ (by simp) rfl)
              refine wpOp_step rfl (fun K hK => ?_)
              have HKK := Lib.hid hK; clear hK
              simp only [putAll, Act.put, List.setIfInBounds_toArray, List.set_cons_zero, List.set_cons_succ]
              go_simp
              exact HKK.out _ _ ⟨_, by simp only [putAll, Act.put, List.setIfInBounds_toArray, List.set_cons_zero, List.set_cons_succ, d14] <;> rfl, h0, h1, h2, h3, h4, h5, h6, h7, h8, h9, h10, h11, h12, h14, fun _ => rfl, y13, hB, hG, hE13_4, hE13_11, hE11_6, hE11_10, hW4, hW6, hW10, hW13⟩
            · obtain rfl := Option.some.inj hi
              clear hi hil
              have hap : b' 16 = false := hun
              have o13 := y13 (hall ⟨13, .data⟩ (by simp) rfl) hap
              have d15 := h15 (hall ⟨15, .data⟩ (by simp) rfl)
              obtain ⟨ua, uc, e13, ho13⟩ := o13.out
              have hbk := (HC9.out w' (hB hap).out.1).2
              obtain ⟨k0, k1, k2, k3, k4, k5, k6⟩ := hbk.d7
              have f0 := hbk.free 0
              have lg := hbk.lt
              refine wpOp_step rfl (fun K hK => ?_)
              have HKK := Lib.hid hK; clear hK
              simp only [putAll, Act.put, List.setIfInBounds_toArray, List.set_cons_zero, List.set_cons_succ]
              go_simp
              exact HKK.out _ _ ⟨undef, by simp only [putAll, Act.put, List.setIfInBounds_toArray, List.set_cons_zero, List.set_cons_succ, d15, e13] <;> rfl, h0, h1, h2, h3, h4, h5, h6, h7, h8, h9, h10, h11, h12, h14, h15, fun _ h => Bool.noConfusion h, fun h => Bool.noConfusion h, fun _ => Lib.hid (⟨_, ua, uc, rfl, (hB hap).out.1, ho13⟩), hE13_4, hE13_11, hE11_6, hE11_10, fun _ => hE13_4 (hall ⟨13, .data⟩ (by simp) rfl), fun _ => hE11_6 (hE13_11 (hall ⟨13, .data⟩ (by simp) rfl)), fun _ => hE11_10 (hE13_11 (hall ⟨13, .data⟩ (by simp) rfl)), fun _ => hall ⟨13, .data⟩ (by simp) rfl⟩
            · omega
          · rintro b' vs wz hall ⟨h0, h1, h2, h3, h4, h5, h6, h7, h8, h9, h10, h11, h12, h14, h15, y13, hB, hG, hE13_4, hE13_11, hE11_6, hE11_10, hW4, hW6, hW10, hW13⟩
            have d0 := h0 (hall 0 (by simp))
            have d1 := h1 (hall 1 (by simp))
            have d2 := h2 (hall 2 (by simp))
            have d3 := h3 (hall 3 (by simp))
            have d4 := h4 (hall 4 (by simp))
            have d5 := h5 (hall 5 (by simp))
            have d6 := h6 (hall 6 (by simp))
            have d7 := h7 (hall 7 (by simp))
            have d8 := h8 (hall 8 (by simp))
            have d9 := h9 (hall 9 (by simp))
            have d10 := h10 (hall 10 (by simp))
            have d11 := h11 (hall 11 (by simp))
            have d12 := h12 (hall 12 (by simp))
            have d14 := h14 (hall 14 (by simp))
            have d15 := h15 (hall 15 (by simp))
            have GG := hG (hall 16 (by simp))
            simp only [putAll, Act.put, List.setIfInBounds_toArray, List.set_cons_zero, List.set_cons_succ, d0, d1, d2, d3, d4, d5, d6, d7, d8, d9, d10, d11, d12, d14, d15]
            clear hall h0 d0 h1 d1 h2 d2 h3 d3 h4 d4 h5 d5 h6 d6 h7 d7 h8 d8 h9 d9 h10 d10 h11 d11 h12 d12 h14 d14 h15 d15 y13 hB hG hE13_4 hE13_11 hE11_6 hE11_10 hW4 hW6 hW10 hW13
            obtain ⟨A, ua, uc, hA, hbA, hoA⟩ := GG.out
            have HS : Hid (∃ sv2, RX (fun j => T j ∨ (w.heap.size ≤ j ∧ j < wz.heap.size)) wz g { x with safe := crashK keep torn cut x.size x.safe x.L (k + 1), sv := sv2 } ∧ Keep (fun j => ¬ T j) w wz) := by
              have hsz : wr.heap.size ≤ wz.heap.size := by rw [hA]; have := H2.out.1.size; have := hbA.size; simp [World.setCell]; omega
              have hwz : w.heap.size ≤ w2.heap.size := Nat.le_trans hw.out.2.size H2.out.1.size
              refine ⟨.slice ua m uc, ?_, ?_⟩
              · rw [hA]
                refine RX.put (x := { x with safe := crashK keep torn cut x.size x.safe x.L k, sv := .slice sa m sc }) (hkw.out.grow hbA) (owns_base hoA (Nat.zero_le _)) (fun k hk => hk.imp id fun h => ⟨h.1, by rw [← hA]; omega⟩) (fun k e => .inr ?_)
                have hl := World.ownsRow.lt hoA k e
                exact ⟨Nat.le_trans hwz hl.1, by simpa [World.setCell] using hl.2⟩
              · rw [hA]
                exact ((hw.out.2.trans (Keep.of_below H2.out.1)).trans (Keep.of_below hbA)).trans (Keep.setCell _ _ _ (by simpa using HTG0.out))
            clear GG HC9 HLAY hkw hA hbA hoA
            have hn9 := HZ.out.few
            rw [HN.out] at hn9
            go_wp2_with fail
            obtain ⟨sv2, hs1, hs2⟩ := HS.out
            exact ⟨⟨k + 1, 0, sv2, by omega, by go_num, rfl, ⟨⟨by omega, by omega⟩, HTT.out 0⟩, hs1, hs2⟩, by simp [intOf]; omega⟩
        · have dc0 : decide (cc < 0) = false := by simpa using hc0
          obtain ⟨cn, rfl⟩ : ∃ cn : Nat, cc = (cn : Int) := ⟨cc.toNat, by omega⟩
          by_cases hc1 : cn > z
          · have dc1 : decide ((cn : Int) > (z : Int)) = true := by simp; omega
            have dc2 : decide (z < cn) = true := by simpa using hc1
            have HROW : Hid (RowB w2 (.slice (some ⟨b, 0, none⟩) z bc) (B.take z) ∧ (B.take z).length ≤ 1000 ∧ B.take z = tornB keep torn cut k B) := by
              obtain ⟨r1, r2⟩ := H2.out.2.2.cut0 z (by omega)
              rw [r1] at r2
              refine ⟨r2, by rw [r1]; have := HZ.out.z2; omega, ?_⟩
              unfold tornB
              rw [if_pos ht]
              rw [← hcut, Int.toNat_natCast, List.take_of_length_le (show B.length ≤ cn by have := HBL.out; omega), List.take_of_length_le (by have := HBL.out; omega)]
            have p0 : (0 : Int) ≤ (z : Int) := by omega
            have p2 : (z : Int) ≤ (bc : Int) := by have := HBL.out; omega
            have p3 : z ≤ bc := by have := HBL.out; omega
            have p1 : ¬ bc = 0 := by have := HBL.out; have := HZ.out.z1; omega
            have HZR : Hid (rngI (z : Int)) := by have := HZ.out.z2; unfold Hid rngI; omega
            clear ht hc0 hc1 hcut
            go_upto_region 13 with fail
            clear c0 c1 hw2 hg2 d0 d1 d2 d3 d4 d5 d6 v1
            refine wp_region_put (by kernel_rfl) (by kernel_rfl) (by kernel_rfl) (fun b' vs w' => (b' 0 = true → vs 0 = .pointer (some ⟨g, 0, none⟩)) ∧ (b' 1 = true → vs 1 = .pointer (some ⟨g, 0, none⟩)) ∧ (b' 2 = true → vs 2 = .pointer (some ⟨g, 0, none⟩)) ∧ (b' 3 = true → vs 3 = .pointer (some ⟨g, 0, none⟩)) ∧ (b' 4 = true → vs 4 = .slice sa m sc) ∧ (b' 5 = true → vs 5 = .pointer (some ⟨g2, 0, none⟩)) ∧ (b' 6 = true → vs 6 = .int .i64 (i : Int)) ∧ (b' 7 = true → vs 7 = .pointer (some ⟨g, 0, none⟩)) ∧ (b' 8 = true → vs 8 = .pointer (some ⟨g, 0, none⟩)) ∧ (b' 9 = true → vs 9 = .pointer (some ⟨g, 1, none⟩)) ∧ (b' 10 = true → vs 10 = .int .i64 (z : Int)) ∧ (b' 11 = true → vs 11 = .int .i64 (q : Int)) ∧ (b' 12 = true → vs 12 = .slice (some ⟨b, 0, none⟩) z bc) ∧ (b' 14 = true → vs 14 = .pointer (some ⟨g, 0, none⟩)) ∧ (b' 15 = true → vs 15 = .pointer (some ⟨g, 0, none⟩)) ∧ (b' 13 = true → b' 16 = false → Hid (NewB w2.heap.size m (crashK keep torn cut x.size x.safe x.L (k + 1)) (vs 13) w')) ∧ (b' 16 = false → Hid (Below w2.heap.size w2 w' ∧ w2.heap.size ≤ w'.heap.size)) ∧ (b' 16 = true → Hid (∃ A ua uc, w' = A.setCell ⟨g, 0, none⟩ (.slice ua m uc) ∧ Below w2.heap.size w2 A ∧ OwnB A w2.heap.size (.slice ua m uc) (crashK keep torn cut x.size x.safe x.L (k + 1)))) ∧ (b' 13 = true → b' 4 = true) ∧ (b' 13 = true → b' 11 = true) ∧ (b' 11 = true → b' 6 = true) ∧ (b' 11 = true → b' 10 = true) ∧ (b' 16 = true → b' 4 = true) ∧ (b' 16 = true → b' 6 = true) ∧ (b' 16 = true → b' 10 = true) ∧ (b' 16 = true → b' 13 = true)) ?_ ?_ ?_
            · intro vs
              exact ⟨fun h => Bool.noConfusion h, fun h => Bool.noConfusion h, fun h => Bool.noConfusion h, fun h => Bool.noConfusion h, fun h => Bool.noConfusion h, fun h => Bool.noConfusion h, fun h => Bool.noConfusion h, fun h => Bool.noConfusion h, fun h => Bool.noConfusion h, fun h => Bool.noConfusion h, fun h => Bool.noConfusion h, fun h => Bool.noConfusion h, fun h => Bool.noConfusion h, fun h => Bool.noConfusion h, fun h => Bool.noConfusion h, fun h => Bool.noConfusion h, fun _ => Lib.hid ⟨below_drewN (Below.refl _ _) 1, Nat.le_refl _⟩, fun h => Bool.noConfusion h, fun h => Bool.noConfusion h, fun h => Bool.noConfusion h, fun h => Bool.noConfusion h, fun h => Bool.noConfusion h, fun h => Bool.noConfusion h, fun h => Bool.noConfusion h, fun h => Bool.noConfusion h, fun h => Bool.noConfusion h⟩
            · rintro b' vs w' i op hi hun hall ⟨h0, h1, h2, h3, h4, h5, h6, h7, h8, h9, h10, h11, h12, h14, h15, y13, hB, hG, hE13_4, hE13_11, hE11_6, hE11_10, hW4, hW6, hW10, hW13⟩
              have hil : i < 17 := (List.getElem?_eq_some_iff.1 hi).1
              rcases i with _ | _ | _ | _ | _ | _ | _ | _ | _ | _ | _ | _ | _ | _ | _ | _ | _ | i
              · obtain rfl := Option.some.inj hi
                clear hi hil
                refine wpOp_step rfl (fun K hK => ?_)
                have HKK := Lib.hid hK; clear hK
                simp only [putAll, Act.put, List.setIfInBounds_toArray, List.set_cons_zero, List.set_cons_succ]
                go_simp
                exact HKK.out _ _ ⟨_, by simp only [putAll, Act.put, List.setIfInBounds_toArray, List.set_cons_zero, List.set_cons_succ] <;> rfl, fun _ => rfl, h1, h2, h3, h4, h5, h6, h7, h8, h9, h10, h11, h12, h14, h15, y13, hB, hG, hE13_4, hE13_11, hE11_6, hE11_10, hW4, hW6, hW10, hW13⟩
              · obtain rfl := Option.some.inj hi
                clear hi hil
                refine wpOp_step rfl (fun K hK => ?_)
                have HKK := Lib.hid hK; clear hK
                simp only [putAll, Act.put, List.setIfInBounds_toArray, List.set_cons_zero, List.set_cons_succ]
                go_simp
                exact HKK.out _ _ ⟨_, by simp only [putAll, Act.put, List.setIfInBounds_toArray, List.set_cons_zero, List.set_cons_succ] <;> rfl, h0, fun _ => rfl, h2, h3, h4, h5, h6, h7, h8, h9, h10, h11, h12, h14, h15, y13, hB, hG, hE13_4, hE13_11, hE11_6, hE11_10, hW4, hW6, hW10, hW13⟩
              · obtain rfl := Option.some.inj hi
                clear hi hil
                have d1 := h1 (hall ⟨1, .data⟩ (by simp) rfl)
                refine wpOp_step rfl (fun K hK => ?_)
                have HKK := Lib.hid hK; clear hK
                simp only [putAll, Act.put, List.setIfInBounds_toArray, List.set_cons_zero, List.set_cons_succ]
                go_simp
                exact HKK.out _ _ ⟨_, by simp only [putAll, Act.put, List.setIfInBounds_toArray, List.set_cons_zero, List.set_cons_succ, d1] <;> rfl, h0, h1, fun _ => rfl, h3, h4, h5, h6, h7, h8, h9, h10, h11, h12, h14, h15, y13, hB, hG, hE13_4, hE13_11, hE11_6, hE11_10, hW4, hW6, hW10, hW13⟩
              · obtain rfl := Option.some.inj hi
                clear hi hil
                have d2 := h2 (hall ⟨2, .data⟩ (by simp) rfl)
                refine wpOp_step rfl (fun K hK => ?_)
                have HKK := Lib.hid hK; clear hK
                simp only [putAll, Act.put, List.setIfInBounds_toArray, List.set_cons_zero, List.set_cons_succ]
                go_simp
                exact HKK.out _ _ ⟨_, by simp only [putAll, Act.put, List.setIfInBounds_toArray, List.set_cons_zero, List.set_cons_succ, d2] <;> rfl, h0, h1, h2, fun _ => rfl, h4, h5, h6, h7, h8, h9, h10, h11, h12, h14, h15, y13, hB, hG, hE13_4, hE13_11, hE11_6, hE11_10, hW4, hW6, hW10, hW13⟩
              · obtain rfl := Option.some.inj hi
                clear hi hil
                have hap : b' 16 = false := by
                  cases hz : b' 16 with
                  | false => rfl
                  | true => exact absurd (hW4 hz) (by rw [hun]; decide)
                have d3 := h3 (hall ⟨3, .data⟩ (by simp) rfl)
                obtain ⟨k0, k1, k2, k3, k4, k5, k6⟩ := (HC9.out w' (hB hap).out.1).2.d7
                refine wpOp_step rfl (fun K hK => ?_)
                have HKK := Lib.hid hK; clear hK
                simp only [putAll, Act.put, List.setIfInBounds_toArray, List.set_cons_zero, List.set_cons_succ]
                go_simp
                exact HKK.out _ _ ⟨_, by simp only [putAll, Act.put, List.setIfInBounds_toArray, List.set_cons_zero, List.set_cons_succ, d3] <;> rfl, h0, h1, h2, h3, fun _ => rfl, h5, h6, h7, h8, h9, h10, h11, h12, h14, h15, y13, hB, hG, fun _ => rfl, hE13_11, hE11_6, hE11_10, fun _ => rfl, hW6, hW10, hW13⟩
              · obtain rfl := Option.some.inj hi
                clear hi hil
                refine wpOp_step rfl (fun K hK => ?_)
                have HKK := Lib.hid hK; clear hK
                simp only [putAll, Act.put, List.setIfInBounds_toArray, List.set_cons_zero, List.set_cons_succ]
                go_simp
                exact HKK.out _ _ ⟨_, by simp only [putAll, Act.put, List.setIfInBounds_toArray, List.set_cons_zero, List.set_cons_succ] <;> rfl, h0, h1, h2, h3, h4, fun _ => rfl, h6, h7, h8, h9, h10, h11, h12, h14, h15, y13, hB, hG, hE13_4, hE13_11, hE11_6, hE11_10, hW4, hW6, hW10, hW13⟩
              · obtain rfl := Option.some.inj hi
                clear hi hil
                have hap : b' 16 = false := by
                  cases hz : b' 16 with
                  | false => rfl
                  | true => exact absurd (hW6 hz) (by rw [hun]; decide)
                have d5 := h5 (hall ⟨5, .data⟩ (by simp) rfl)
                have m0 := (HC9.out w' (hB hap).out.1).1.cell 0
                refine wpOp_step rfl (fun K hK => ?_)
                have HKK := Lib.hid hK; clear hK
                simp only [putAll, Act.put, List.setIfInBounds_toArray, List.set_cons_zero, List.set_cons_succ]
                go_simp
                exact HKK.out _ _ ⟨_, by simp only [putAll, Act.put, List.setIfInBounds_toArray, List.set_cons_zero, List.set_cons_succ, d5] <;> rfl, h0, h1, h2, h3, h4, h5, fun _ => rfl, h7, h8, h9, h10, h11, h12, h14, h15, y13, hB, hG, hE13_4, hE13_11, fun _ => rfl, hE11_10, hW4, fun _ => rfl, hW10, hW13⟩
              · obtain rfl := Option.some.inj hi
                clear hi hil
                refine wpOp_step rfl (fun K hK => ?_)
                have HKK := Lib.hid hK; clear hK
                simp only [putAll, Act.put, List.setIfInBounds_toArray, List.set_cons_zero, List.set_cons_succ]
                go_simp
                exact HKK.out _ _ ⟨_, by simp only [putAll, Act.put, List.setIfInBounds_toArray, List.set_cons_zero, List.set_cons_succ] <;> rfl, h0, h1, h2, h3, h4, h5, h6, fun _ => rfl, h8, h9, h10, h11, h12, h14, h15, y13, hB, hG, hE13_4, hE13_11, hE11_6, hE11_10, hW4, hW6, hW10, hW13⟩
              · obtain rfl := Option.some.inj hi
                clear hi hil
                have d7 := h7 (hall ⟨7, .data⟩ (by simp) rfl)
                refine wpOp_step rfl (fun K hK => ?_)
                have HKK := Lib.hid hK; clear hK
                simp only [putAll, Act.put, List.setIfInBounds_toArray, List.set_cons_zero, List.set_cons_succ]
                go_simp
                exact HKK.out _ _ ⟨_, by simp only [putAll, Act.put, List.setIfInBounds_toArray, List.set_cons_zero, List.set_cons_succ, d7] <;> rfl, h0, h1, h2, h3, h4, h5, h6, h7, fun _ => rfl, h9, h10, h11, h12, h14, h15, y13, hB, hG, hE13_4, hE13_11, hE11_6, hE11_10, hW4, hW6, hW10, hW13⟩
              · obtain rfl := Option.some.inj hi
                clear hi hil
                have d8 := h8 (hall ⟨8, .data⟩ (by simp) rfl)
                refine wpOp_step rfl (fun K hK => ?_)
                have HKK := Lib.hid hK; clear hK
                simp only [putAll, Act.put, List.setIfInBounds_toArray, List.set_cons_zero, List.set_cons_succ]
                go_simp
                exact HKK.out _ _ ⟨_, by simp only [putAll, Act.put, List.setIfInBounds_toArray, List.set_cons_zero, List.set_cons_succ, d8] <;> rfl, h0, h1, h2, h3, h4, h5, h6, h7, h8, fun _ => rfl, h10, h11, h12, h14, h15, y13, hB, hG, hE13_4, hE13_11, hE11_6, hE11_10, hW4, hW6, hW10, hW13⟩
              · obtain rfl := Option.some.inj hi
                clear hi hil
                have hap : b' 16 = false := by
                  cases hz : b' 16 with
                  | false => rfl
                  | true => exact absurd (hW10 hz) (by rw [hun]; decide)
                have d9 := h9 (hall ⟨9, .data⟩ (by simp) rfl)
                obtain ⟨k0, k1, k2, k3, k4, k5, k6⟩ := (HC9.out w' (hB hap).out.1).2.d7
                refine wpOp_step rfl (fun K hK => ?_)
                have HKK := Lib.hid hK; clear hK
                simp only [putAll, Act.put, List.setIfInBounds_toArray, List.set_cons_zero, List.set_cons_succ]
                go_simp
                exact HKK.out _ _ ⟨_, by simp only [putAll, Act.put, List.setIfInBounds_toArray, List.set_cons_zero, List.set_cons_succ, d9] <;> rfl, h0, h1, h2, h3, h4, h5, h6, h7, h8, h9, fun _ => rfl, h11, h12, h14, h15, y13, hB, hG, hE13_4, hE13_11, hE11_6, fun _ => rfl, hW4, hW6, fun _ => rfl, hW13⟩
              · obtain rfl := Option.some.inj hi
                clear hi hil
                have d6 := h6 (hall ⟨6, .data⟩ (by simp) rfl)
                have d10 := h10 (hall ⟨10, .data⟩ (by simp) rfl)
                refine wpOp_step rfl (fun K hK => ?_)
                have HKK := Lib.hid hK; clear hK
                simp only [putAll, Act.put, List.setIfInBounds_toArray, List.set_cons_zero, List.set_cons_succ]
                go_simp
                exact HKK.out _ _ ⟨_, by simp only [putAll, Act.put, List.setIfInBounds_toArray, List.set_cons_zero, List.set_cons_succ, d6, d10, E2.out] <;> rfl, h0, h1, h2, h3, h4, h5, h6, h7, h8, h9, h10, fun _ => rfl, h12, h14, h15, y13, hB, hG, hE13_4, fun _ => rfl, fun _ => hall ⟨6, .data⟩ (by simp) rfl, fun _ => hall ⟨10, .data⟩ (by simp) rfl, hW4, hW6, hW10, hW13⟩
              · obtain rfl := Option.some.inj hi
                clear hi hil
                refine wpOp_step rfl (fun K hK => ?_)
                have HKK := Lib.hid hK; clear hK
                simp only [putAll, Act.put, List.setIfInBounds_toArray, List.set_cons_zero, List.set_cons_succ]
                go_simp
                exact HKK.out _ _ ⟨_, by simp only [putAll, Act.put, List.setIfInBounds_toArray, List.set_cons_zero, List.set_cons_succ] <;> rfl, h0, h1, h2, h3, h4, h5, h6, h7, h8, h9, h10, h11, fun _ => rfl, h14, h15, y13, hB, hG, hE13_4, hE13_11, hE11_6, hE11_10, hW4, hW6, hW10, hW13⟩
              · obtain rfl := Option.some.inj hi
                clear hi hil
                have hap : b' 16 = false := by
                  cases hz : b' 16 with
                  | false => rfl
                  | true => exact absurd (hW13 hz) (by rw [hun]; decide)
                have d4 := h4 (hall ⟨4, .data⟩ (by simp) rfl)
                have d11 := h11 (hall ⟨11, .data⟩ (by simp) rfl)
                have d12 := h12 (hall ⟨12, .data⟩ (by simp) rfl)
                refine wpOp_step rfl (fun K hK => ?_)
                have HKK := Lib.hid hK; clear hK
                simp only [putAll, Act.put, List.setIfInBounds_toArray, List.set_cons_zero, List.set_cons_succ]
                go_simp
                refine (HLAY.out _ _ _ _ HROW.out.1 HROW.out.2.1 HROW.out.2.2 w' (hB hap).out.1).mono ?_
                rintro e w2' ⟨u2, rfl, ho2, hb2⟩
                exact HKK.out _ _ ⟨_, by simp only [putAll, Act.put, List.setIfInBounds_toArray, List.set_cons_zero, List.set_cons_succ, d4, d11, d12] <;> rfl, h0, h1, h2, h3, h4, h5, h6, h7, h8, h9, h10, h11, h12, h14, h15, fun _ _ => Lib.hid (ho2), fun ha => Lib.hid ⟨(hB ha).out.1.trans (hb2.mono (hB ha).out.2), Nat.le_trans (hB ha).out.2 hb2.size⟩, fun h => absurd (show b' 16 = true from h) (by rw [hap]; decide), fun _ => hall ⟨4, .data⟩ (by simp) rfl, fun _ => hall ⟨11, .data⟩ (by simp) rfl, hE11_6, hE11_10, hW4, hW6, hW10, fun _ => rfl⟩
              · obtain rfl := Option.some.inj hi
                clear hi hil
                have d0 := h0 (hall ⟨0, .data⟩ (by simp) rfl)
                refine wpOp_step rfl (fun K hK => ?_)
                have HKK := Lib.hid hK; clear hK
                simp only [putAll, Act.put, List.setIfInBounds_toArray, List.set_cons_zero, List.set_cons_succ]
                go_simp
                exact HKK.out _ _ ⟨_, by simp only [putAll, Act.put, List.setIfInBounds_toArray, List.set_cons_zero, List.set_cons_succ, d0] <;> rfl, h0, h1, h2, h3, h4, h5, h6, h7, h8, h9, h10, h11, h12, fun _ => rfl, h15, y13, hB, hG, hE13_4, hE13_11, hE11_6, hE11_10, hW4, hW6, hW10, hW13⟩
              · obtain rfl := Option.some.inj hi
                clear hi hil
                have d14 := h14 (hall ⟨14, .data⟩ (by simp) rfl)
                refine wpOp_step rfl (fun K hK => ?_)
                have HKK := Lib.hid hK; clear hK
                simp only [putAll, Act.put, List.setIfInBounds_toArray, List.set_cons_zero, List.set_cons_succ]
                go_simp
                exact HKK.out _ _ ⟨_, by simp only [putAll, Act.put, List.setIfInBounds_toArray, List.set_cons_zero, List.set_cons_succ, d14] <;> rfl, h0, h1, h2, h3, h4, h5, h6, h7, h8, h9, h10, h11, h12, h14, fun _ => rfl, y13, hB, hG, hE13_4, hE13_11, hE11_6, hE11_10, hW4, hW6, hW10, hW13⟩
              · obtain rfl := Option.some.inj hi
                clear hi hil
                have hap : b' 16 = false := hun
                have o13 := y13 (hall ⟨13, .data⟩ (by simp) rfl) hap
                have d15 := h15 (hall ⟨15, .data⟩ (by simp) rfl)
                obtain ⟨ua, uc, e13, ho13⟩ := o13.out
                have hbk := (HC9.out w' (hB hap).out.1).2
                obtain ⟨k0, k1, k2, k3, k4, k5, k6⟩ := hbk.d7
                have f0 := hbk.free 0
                have lg := hbk.lt
                refine wpOp_step rfl (fun K hK => ?_)
                have HKK := Lib.hid hK; clear hK
                simp only [putAll, Act.put, List.setIfInBounds_toArray, List.set_cons_zero, List.set_cons_succ]
                go_simp
                exact HKK.out _ _ ⟨undef, by simp only [putAll, Act.put, List.setIfInBounds_toArray, List.set_cons_zero, List.set_cons_succ, d15, e13] <;> rfl, h0, h1, h2, h3, h4, h5, h6, h7, h8, h9, h10, h11, h12, h14, h15, fun _ h => Bool.noConfusion h, fun h => Bool.noConfusion h, fun _ => Lib.hid (⟨_, ua, uc, rfl, (hB hap).out.1, ho13⟩), hE13_4, hE13_11, hE11_6, hE11_10, fun _ => hE13_4 (hall ⟨13, .data⟩ (by simp) rfl), fun _ => hE11_6 (hE13_11 (hall ⟨13, .data⟩ (by simp) rfl)), fun _ => hE11_10 (hE13_11 (hall ⟨13, .data⟩ (by simp) rfl)), fun _ => hall ⟨13, .data⟩ (by simp) rfl⟩
              · omega
            · rintro b' vs wz hall ⟨h0, h1, h2, h3, h4, h5, h6, h7, h8, h9, h10, h11, h12, h14, h15, y13, hB, hG, hE13_4, hE13_11, hE11_6, hE11_10, hW4, hW6, hW10, hW13⟩
              have d0 := h0 (hall 0 (by simp))
              have d1 := h1 (hall 1 (by simp))
              have d2 := h2 (hall 2 (by simp))
              have d3 := h3 (hall 3 (by simp))
              have d4 := h4 (hall 4 (by simp))
              have d5 := h5 (hall 5 (by simp))
              have d6 := h6 (hall 6 (by simp))
              have d7 := h7 (hall 7 (by simp))
              have d8 := h8 (hall 8 (by simp))
              have d9 := h9 (hall 9 (by simp))
              have d10 := h10 (hall 10 (by simp))
              have d11 := h11 (hall 11 (by simp))
              have d12 := h12 (hall 12 (by simp))
              have d14 := h14 (hall 14 (by simp))
              have d15 := h15 (hall 15 (by simp))
              have GG := hG (hall 16 (by simp))
              simp only [putAll, Act.put, List.setIfInBounds_toArray, List.set_cons_zero, List.set_cons_succ, d0, d1, d2, d3, d4, d5, d6, d7, d8, d9, d10, d11, d12, d14, d15]
              clear hall h0 d0 h1 d1 h2 d2 h3 d3 h4 d4 h5 d5 h6 d6 h7 d7 h8 d8 h9 d9 h10 d10 h11 d11 h12 d12 h14 d14 h15 d15 y13 hB hG hE13_4 hE13_11 hE11_6 hE11_10 hW4 hW6 hW10 hW13
              obtain ⟨A, ua, uc, hA, hbA, hoA⟩ := GG.out
              have HS : Hid (∃ sv2, RX (fun j => T j ∨ (w.heap.size ≤ j ∧ j < wz.heap.size)) wz g { x with safe := crashK keep torn cut x.size x.safe x.L (k + 1), sv := sv2 } ∧ Keep (fun j => ¬ T j) w wz) := by
                have hsz : wr.heap.size ≤ wz.heap.size := by rw [hA]; have := H2.out.1.size; have := hbA.size; simp [World.setCell]; omega
                have hwz : w.heap.size ≤ w2.heap.size := Nat.le_trans hw.out.2.size H2.out.1.size
                refine ⟨.slice ua m uc, ?_, ?_⟩
                · rw [hA]
                  refine RX.put (x := { x with safe := crashK keep torn cut x.size x.safe x.L k, sv := .slice sa m sc }) (hkw.out.grow hbA) (owns_base hoA (Nat.zero_le _)) (fun k hk => hk.imp id fun h => ⟨h.1, by rw [← hA]; omega⟩) (fun k e => .inr ?_)
                  have hl := World.ownsRow.lt hoA k e
                  exact ⟨Nat.le_trans hwz hl.1, by simpa [World.setCell] using hl.2⟩
                · rw [hA]
                  exact ((hw.out.2.trans (Keep.of_below H2.out.1)).trans (Keep.of_below hbA)).trans (Keep.setCell _ _ _ (by simpa using HTG0.out))
              clear GG HC9 HLAY hkw hA hbA hoA
              have hn9 := HZ.out.few
              rw [HN.out] at hn9
              go_wp2_with fail
              obtain ⟨sv2, hs1, hs2⟩ := HS.out
              exact ⟨⟨k + 1, (z : Int), sv2, by omega, by go_num, rfl, ⟨HZR.out, HTT.out _⟩, hs1, hs2⟩, by simp [intOf]; omega⟩
          · have dc1 : decide ((cn : Int) > (z : Int)) = false := by simp; omega
            have dc2 : decide (z < cn) = false := by simpa using hc1
            have HROW : Hid (RowB w2 (.slice (some ⟨b, 0, none⟩) cn bc) (B.take cn) ∧ (B.take cn).length ≤ 1000 ∧ B.take cn = tornB keep torn cut k B) := by
              obtain ⟨r1, r2⟩ := H2.out.2.2.cut0 cn (by omega)
              rw [r1] at r2
              refine ⟨r2, by rw [r1]; have := HZ.out.z2; omega, ?_⟩
              unfold tornB
              rw [if_pos ht]
              rw [← hcut, Int.toNat_natCast]
            have p0 : (0 : Int) ≤ (cn : Int) := by omega
            have p2 : (cn : Int) ≤ (bc : Int) := by have := HBL.out; omega
            have p3 : cn ≤ bc := by have := HBL.out; omega
            have p1 : ¬ bc = 0 := by have := HBL.out; have := HZ.out.z1; omega
            clear ht hc0 hc1 hcut
            go_upto_region 13 with fail
            clear c0 c1 hw2 hg2 d0 d1 d2 d3 d4 d5 d6 v1
            refine wp_region_put (by kernel_rfl) (by kernel_rfl) (by kernel_rfl) (fun b' vs w' => (b' 0 = true → vs 0 = .pointer (some ⟨g, 0, none⟩)) ∧ (b' 1 = true → vs 1 = .pointer (some ⟨g, 0, none⟩)) ∧ (b' 2 = true → vs 2 = .pointer (some ⟨g, 0, none⟩)) ∧ (b' 3 = true → vs 3 = .pointer (some ⟨g, 0, none⟩)) ∧ (b' 4 = true → vs 4 = .slice sa m sc) ∧ (b' 5 = true → vs 5 = .pointer (some ⟨g2, 0, none⟩)) ∧ (b' 6 = true → vs 6 = .int .i64 (i : Int)) ∧ (b' 7 = true → vs 7 = .pointer (some ⟨g, 0, none⟩)) ∧ (b' 8 = true → vs 8 = .pointer (some ⟨g, 0, none⟩)) ∧ (b' 9 = true → vs 9 = .pointer (some ⟨g, 1, none⟩)) ∧ (b' 10 = true → vs 10 = .int .i64 (z : Int)) ∧ (b' 11 = true → vs 11 = .int .i64 (q : Int)) ∧ (b' 12 = true → vs 12 = .slice (some ⟨b, 0, none⟩) cn bc) ∧ (b' 14 = true → vs 14 = .pointer (some ⟨g, 0, none⟩)) ∧ (b' 15 = true → vs 15 = .pointer (some ⟨g, 0, none⟩)) ∧ (b' 13 = true → b' 16 = false → Hid (NewB w2.heap.size m (crashK keep torn cut x.size x.safe x.L (k + 1)) (vs 13) w')) ∧ (b' 16 = false → Hid (Below w2.heap.size w2 w' ∧ w2.heap.size ≤ w'.heap.size)) ∧ (b' 16 = true → Hid (∃ A ua uc, w' = A.setCell ⟨g, 0, none⟩ (.slice ua m uc) ∧ Below w2.heap.size w2 A ∧ OwnB A w2.heap.size (.slice ua m uc) (crashK keep torn cut x.size x.safe x.L (k + 1)))) ∧ (b' 13 = true → b' 4 = true) ∧ (b' 13 = true → b' 11 = true) ∧ (b' 11 = true → b' 6 = true) ∧ (b' 11 = true → b' 10 = true) ∧ (b' 16 = true → b' 4 = true) ∧ (b' 16 = true → b' 6 = true) ∧ (b' 16 = true → b' 10 = true) ∧ (b' 16 = true → b' 13 = true)) ?_ ?_ ?_
            · intro vs
              exact ⟨fun h => Bool.noConfusion h, fun h => Bool.noConfusion h, fun h => Bool.noConfusion h, fun h => Bool.noConfusion h, fun h => Bool.noConfusion h, fun h => Bool.noConfusion h, fun h => Bool.noConfusion h, fun h => Bool.noConfusion h, fun h => Bool.noConfusion h, fun h => Bool.noConfusion h, fun h => Bool.noConfusion h, fun h => Bool.noConfusion h, fun h => Bool.noConfusion h, fun h => Bool.noConfusion h, fun h => Bool.noConfusion h, fun h => Bool.noConfusion h, fun _ => Lib.hid ⟨below_drewN (Below.refl _ _) 1, Nat.le_refl _⟩, fun h => Bool.noConfusion h, fun h => Bool.noConfusion h, fun h => Bool.noConfusion h, fun h => Bool.noConfusion h, fun h => Bool.noConfusion h, fun h => Bool.noConfusion h, fun h => Bool.noConfusion h, fun h => Bool.noConfusion h, fun h => Bool.noConfusion h⟩
            · rintro b' vs w' i op hi hun hall ⟨h0, h1, h2, h3, h4, h5, h6, h7, h8, h9, h10, h11, h12, h14, h15, y13, hB, hG, hE13_4, hE13_11, hE11_6, hE11_10, hW4, hW6, hW10, hW13⟩
              have hil : i < 17 := (List.getElem?_eq_some_iff.1 hi).1
              rcases i with _ | _ | _ | _ | _ | _ | _ | _ | _ | _ | _ | _ | _ | _ | _ | _ | _ | i
              · obtain rfl := Option.some.inj hi
                clear hi hil
                refine wpOp_step rfl (fun K hK => ?_)
                have HKK := Lib.hid hK; clear hK
                simp only [putAll, Act.put, List.setIfInBounds_toArray, List.set_cons_zero, List.set_cons_succ]
                go_simp
                exact HKK.out _ _ ⟨_, by simp only [putAll, Act.put, List.setIfInBounds_toArray, List.set_cons_zero, List.set_cons_succ] <;> rfl, fun _ => rfl, h1, h2, h3, h4, h5, h6, h7, h8, h9, h10, h11, h12, h14, h15, y13, hB, hG, hE13_4, hE13_11, hE11_6, hE11_10, hW4, hW6, hW10, hW13⟩
              · obtain rfl := Option.some.inj hi
                clear hi hil
                refine wpOp_step rfl (fun K hK => ?_)
                have HKK := Lib.hid hK; clear hK
                simp only [putAll, Act.put, List.setIfInBounds_toArray, List.set_cons_zero, List.set_cons_succ]
                go_simp
                exact HKK.out _ _ ⟨_, by simp only [putAll, Act.put, List.setIfInBounds_toArray, List.set_cons_zero, List.set_cons_succ] <;> rfl, h0, fun _ => rfl, h2, h3, h4, h5, h6, h7, h8, h9, h10, h11, h12, h14, h15, y13, hB, hG, hE13_4, hE13_11, hE11_6, hE11_10, hW4, hW6, hW10, hW13⟩
              · obtain rfl := Option.some.inj hi
                clear hi hil
                have d1 := h1 (hall ⟨1, .data⟩ (by simp) rfl)
                refine wpOp_step rfl (fun K hK => ?_)
                have HKK := Lib.hid hK; clear hK
                simp only [putAll, Act.put, List.setIfInBounds_toArray, List.set_cons_zero, List.set_cons_succ]
                go_simp
                exact HKK.out _ _ ⟨_, by simp only [putAll, Act.put, List.setIfInBounds_toArray, List.set_cons_zero, List.set_cons_succ, d1] <;> rfl, h0, h1, fun _ => rfl, h3, h4, h5, h6, h7, h8, h9, h10, h11, h12, h14, h15, y13, hB, hG, hE13_4, hE13_11, hE11_6, hE11_10, hW4, hW6, hW10, hW13⟩
              · obtain rfl := Option.some.inj hi
                clear hi hil
                have d2 := h2 (hall ⟨2, .data⟩ (by simp) rfl)
                refine wpOp_step rfl (fun K hK => ?_)
                have HKK := Lib.hid hK; clear hK
                simp only [putAll, Act.put, List.setIfInBounds_toArray, List.set_cons_zero, List.set_cons_succ]
                go_simp
                exact HKK.out _ _ ⟨_, by simp only [putAll, Act.put, List.setIfInBounds_toArray, List.set_cons_zero, List.set_cons_succ, d2] <;> rfl, h0, h1, h2, fun _ => rfl, h4, h5, h6, h7, h8, h9, h10, h11, h12, h14, h15, y13, hB, hG, hE13_4, hE13_11, hE11_6, hE11_10, hW4, hW6, hW10, hW13⟩
              · obtain rfl := Option.some.inj hi
                clear hi hil
                have hap : b' 16 = false := by
                  cases hz : b' 16 with
                  | false => rfl
                  | true => exact absurd (hW4 hz) (by rw [hun]; decide)
                have d3 := h3 (hall ⟨3, .data⟩ (by simp) rfl)
                obtain ⟨k0, k1, k2, k3, k4, k5, k6⟩ := (HC9.out w' (hB hap).out.1).2.d7
                refine wpOp_step rfl (fun K hK => ?_)
                have HKK := Lib.hid hK; clear hK
                simp only [putAll, Act.put, List.setIfInBounds_toArray, List.set_cons_zero, List.set_cons_succ]
                go_simp
                exact HKK.out _ _ ⟨_, by simp only [putAll, Act.put, List.setIfInBounds_toArray, List.set_cons_zero, List.set_cons_succ, d3] <;> rfl, h0, h1, h2, h3, fun _ => rfl, h5, h6, h7, h8, h9, h10, h11, h12, h14, h15, y13, hB, hG, fun _ => rfl, hE13_11, hE11_6, hE11_10, fun _ => rfl, hW6, hW10, hW13⟩
              · obtain rfl := Option.some.inj hi
                clear hi hil
                refine wpOp_step rfl (fun K hK => ?_)
                have HKK := Lib.hid hK; clear hK
                simp only [putAll, Act.put, List.setIfInBounds_toArray, List.set_cons_zero, List.set_cons_succ]
                go_simp
                exact HKK.out _ _ ⟨_, by simp only [putAll, Act.put, List.setIfInBounds_toArray, List.set_cons_zero, List.set_cons_succ] <;> rfl, h0, h1, h2, h3, h4, fun _ => rfl, h6, h7, h8, h9, h10, h11, h12, h14, h15, y13, hB, hG, hE13_4, hE13_11, hE11_6, hE11_10, hW4, hW6, hW10, hW13⟩
              · obtain rfl := Option.some.inj hi
                clear hi hil
                have hap : b' 16 = false := by
                  cases hz : b' 16 with
                  | false => rfl
                  | true => exact absurd (hW6 hz) (by rw [hun]; decide)
                have d5 := h5 (hall ⟨5, .data⟩ (by simp) rfl)
                have m0 := (HC9.out w' (hB hap).out.1).1.cell 0
                refine wpOp_step rfl (fun K hK => ?_)
                have HKK := Lib.hid hK; clear hK
                simp only [putAll, Act.put, List.setIfInBounds_toArray, List.set_cons_zero, List.set_cons_succ]
                go_simp
                exact HKK.out _ _ ⟨_, by simp only [putAll, Act.put, List.setIfInBounds_toArray, List.set_cons_zero, List.set_cons_succ, d5] <;> rfl, h0, h1, h2, h3, h4, h5, fun _ => rfl, h7, h8, h9, h10, h11, h12, h14, h15, y13, hB, hG, hE13_4, hE13_11, fun _ => rfl, hE11_10, hW4, fun _ => rfl, hW10, hW13⟩
              · obtain rfl := Option.some.inj hi
                clear hi hil
                refine wpOp_step rfl (fun K hK => ?_)
                have HKK := Lib.hid hK; clear hK
                simp only [putAll, Act.put, List.setIfInBounds_toArray, List.set_cons_zero, List.set_cons_succ]
                go_simp
                exact HKK.out _ _ ⟨_, by simp only [putAll, Act.put, List.setIfInBounds_toArray, List.set_cons_zero, List.set_cons_succ] <;> rfl, h0, h1, h2, h3, h4, h5, h6, fun _ => rfl, h8, h9, h10, h11, h12, h14, h15, y13, hB, hG, hE13_4, hE13_11, hE11_6, hE11_10, hW4, hW6, hW10, hW13⟩
              · obtain rfl := Option.some.inj hi
                clear hi hil
                have d7 := h7 (hall ⟨7, .data⟩ (by simp) rfl)
                refine wpOp_step rfl (fun K hK => ?_)
                have HKK := Lib.hid hK; clear hK
                simp only [putAll, Act.put, List.setIfInBounds_toArray, List.set_cons_zero, List.set_cons_succ]
                go_simp
                exact HKK.out _ _ ⟨_, by simp only [putAll, Act.put, List.setIfInBounds_toArray, List.set_cons_zero, List.set_cons_succ, d7] <;> rfl, h0, h1, h2, h3, h4, h5, h6, h7, fun _ => rfl, h9, h10, h11, h12, h14, h15, y13, hB, hG, hE13_4, hE13_11, hE11_6, hE11_10, hW4, hW6, hW10, hW13⟩
              · obtain rfl := Option.some.inj hi
                clear hi hil
                have d8 := h8 (hall ⟨8, .data⟩ (by simp) rfl)
                refine wpOp_step rfl (fun K hK => ?_)
                have HKK := Lib.hid hK; clear hK
                simp only [putAll, Act.put, List.setIfInBounds_toArray, List.set_cons_zero, List.set_cons_succ]
                go_simp
                exact HKK.out _ _ ⟨_, by simp only [putAll, Act.put, List.setIfInBounds_toArray, List.set_cons_zero, List.set_cons_succ, d8] <;> rfl, h0, h1, h2, h3, h4, h5, h6, h7, h8, fun _ => rfl, h10, h11, h12, h14, h15, y13, hB, hG, hE13_4, hE13_11, hE11_6, hE11_10, hW4, hW6, hW10, hW13⟩
              · obtain rfl := Option.some.inj hi
                clear hi hil
                have hap : b' 16 = false := by
                  cases hz : b' 16 with
                  | false => rfl
                  | true => exact absurd (hW10 hz) (by rw [hun]; decide)
                have d9 := h9 (hall ⟨9, .data⟩ (by simp) rfl)
                obtain ⟨k0, k1, k2, k3, k4, k5, k6⟩ := (HC9.out w' (hB hap).out.1).2.d7
                refine wpOp_step rfl (fun K hK => ?_)
                have HKK := Lib.hid hK; clear hK
                simp only [putAll, Act.put, List.setIfInBounds_toArray, List.set_cons_zero, List.set_cons_succ]
                go_simp
                exact HKK.out _ _ ⟨_, by simp only [putAll, Act.put, List.setIfInBounds_toArray, List.set_cons_zero, List.set_cons_succ, d9] <;> rfl, h0, h1, h2, h3, h4, h5, h6, h7, h8, h9, fun _ => rfl, h11, h12, h14, h15, y13, hB, hG, hE13_4, hE13_11, hE11_6, fun _ => rfl, hW4, hW6, fun _ => rfl, hW13⟩
              · obtain rfl := Option.some.inj hi
                clear hi hil
                have d6 := h6 (hall ⟨6, .data⟩ (by simp) rfl)
                have d10 := h10 (hall ⟨10, .data⟩ (by simp) rfl)
                refine wpOp_step rfl (fun K hK => ?_)
                have HKK := Lib.hid hK; clear hK
                simp only [putAll, Act.put, List.setIfInBounds_toArray, List.set_cons_zero, List.set_cons_succ]
                go_simp
                exact HKK.out _ _ ⟨_, by simp only [putAll, Act.put, List.setIfInBounds_toArray, List.set_cons_zero, List.set_cons_succ, d6, d10, E2.out] <;> rfl, h0, h1, h2, h3, h4, h5, h6, h7, h8, h9, h10, fun _ => rfl, h12, h14, h15, y13, hB, hG, hE13_4, fun _ => rfl, fun _ => hall ⟨6, .data⟩ (by simp) rfl, fun _ => hall ⟨10, .data⟩ (by simp) rfl, hW4, hW6, hW10, hW13⟩
              · obtain rfl := Option.some.inj hi
                clear hi hil
                refine wpOp_step rfl (fun K hK => ?_)
                have HKK := Lib.hid hK; clear hK
                simp only [putAll, Act.put, List.setIfInBounds_toArray, List.set_cons_zero, List.set_cons_succ]
                go_simp
                exact HKK.out _ _ ⟨_, by simp only [putAll, Act.put, List.setIfInBounds_toArray, List.set_cons_zero, List.set_cons_succ] <;> rfl, h0, h1, h2, h3, h4, h5, h6, h7, h8, h9, h10, h11, fun _ => rfl, h14, h15, y13, hB, hG, hE13_4, hE13_11, hE11_6, hE11_10, hW4, hW6, hW10, hW13⟩
              · obtain rfl := Option.some.inj hi
                clear hi hil
                have hap : b' 16 = false := by
                  cases hz : b' 16 with
                  | false => rfl
                  | true => exact absurd (hW13 hz) (by rw [hun]; decide)
                have d4 := h4 (hall ⟨4, .data⟩ (by simp) rfl)
                have d11 := h11 (hall ⟨11, .data⟩ (by simp) rfl)
                have d12 := h12 (hall ⟨12, .data⟩ (by simp) rfl)
                refine wpOp_step rfl (fun K hK => ?_)
                have HKK := Lib.hid hK; clear hK
                simp only [putAll, Act.put, List.setIfInBounds_toArray, List.set_cons_zero, List.set_cons_succ]
                go_simp
                refine (HLAY.out _ _ _ _ HROW.out.1 HROW.out.2.1 HROW.out.2.2 w' (hB hap).out.1).mono ?_
                rintro e w2' ⟨u2, rfl, ho2, hb2⟩
                exact HKK.out _ _ ⟨_, by simp only [putAll, Act.put, List.setIfInBounds_toArray, List.set_cons_zero, List.set_cons_succ, d4, d11, d12] <;> rfl, h0, h1, h2, h3, h4, h5, h6, h7, h8, h9, h10, h11, h12, h14, h15, fun _ _ => Lib.hid (ho2), fun ha => Lib.hid ⟨(hB ha).out.1.trans (hb2.mono (hB ha).out.2), Nat.le_trans (hB ha).out.2 hb2.size⟩, fun h => absurd (show b' 16 = true from h) (by rw [hap]; decide), fun _ => hall ⟨4, .data⟩ (by simp) rfl, fun _ => hall ⟨11, .data⟩ (by simp) rfl, hE11_6, hE11_10, hW4, hW6, hW10, fun _ => rfl⟩
              · obtain rfl := Option.some.inj hi
                clear hi hil
                have d0 := h0 (hall ⟨0, .data⟩ (by simp) rfl)
                refine wpOp_step rfl (fun K hK => ?_)
                have HKK := Lib.hid hK; clear hK
                simp only [putAll, Act.put, List.setIfInBounds_toArray, List.set_cons_zero, List.set_cons_succ]
                go_simp
                exact HKK.out _ _ ⟨_, by simp only [putAll, Act.put, List.setIfInBounds_toArray, List.set_cons_zero, List.set_cons_succ, d0] <;> rfl, h0, h1, h2, h3, h4, h5, h6, h7, h8, h9, h10, h11, h12, fun _ => rfl, h15, y13, hB, hG, hE13_4, hE13_11, hE11_6, hE11_10, hW4, hW6, hW10, hW13⟩
              · obtain rfl := Option.some.inj hi
                clear hi hil
                have d14 := h14 (hall ⟨14, .data⟩ (by simp) rfl)
                refine wpOp_step rfl (fun K hK => ?_)
                have HKK := Lib.hid hK; clear hK
                simp only [putAll, Act.put, List.setIfInBounds_toArray, List.set_cons_zero, List.set_cons_succ]
                go_simp
                exact HKK.out _ _ ⟨_, by simp only [putAll, Act.put, List.setIfInBounds_toArray, List.set_cons_zero, List.set_cons_succ, d14] <;> rfl, h0, h1, h2, h3, h4, h5, h6, h7, h8, h9, h10, h11, h12, h14, fun _ => rfl, y13, hB, hG, hE13_4, hE13_11, hE11_6, hE11_10, hW4, hW6, hW10, hW13⟩
              · obtain rfl := Option.some.inj hi
                clear hi hil
                have hap : b' 16 = false := hun
                have o13 := y13 (hall ⟨13, .data⟩ (by simp) rfl) hap
                have d15 := h15 (hall ⟨15, .data⟩ (by simp) rfl)
                obtain ⟨ua, uc, e13, ho13⟩ := o13.out
                have hbk := (HC9.out w' (hB hap).out.1).2
                obtain ⟨k0, k1, k2, k3, k4, k5, k6⟩ := hbk.d7
                have f0 := hbk.free 0
                have lg := hbk.lt
                refine wpOp_step rfl (fun K hK => ?_)
                have HKK := Lib.hid hK; clear hK
                simp only [putAll, Act.put, List.setIfInBounds_toArray, List.set_cons_zero, List.set_cons_succ]
                go_simp
                exact HKK.out _ _ ⟨undef, by simp only [putAll, Act.put, List.setIfInBounds_toArray, List.set_cons_zero, List.set_cons_succ, d15, e13] <;> rfl, h0, h1, h2, h3, h4, h5, h6, h7, h8, h9, h10, h11, h12, h14, h15, fun _ h => Bool.noConfusion h, fun h => Bool.noConfusion h, fun _ => Lib.hid (⟨_, ua, uc, rfl, (hB hap).out.1, ho13⟩), hE13_4, hE13_11, hE11_6, hE11_10, fun _ => hE13_4 (hall ⟨13, .data⟩ (by simp) rfl), fun _ => hE11_6 (hE13_11 (hall ⟨13, .data⟩ (by simp) rfl)), fun _ => hE11_10 (hE13_11 (hall ⟨13, .data⟩ (by simp) rfl)), fun _ => hall ⟨13, .data⟩ (by simp) rfl⟩
              · omega
            · rintro b' vs wz hall ⟨h0, h1, h2, h3, h4, h5, h6, h7, h8, h9, h10, h11, h12, h14, h15, y13, hB, hG, hE13_4, hE13_11, hE11_6, hE11_10, hW4, hW6, hW10, hW13⟩
              have d0 := h0 (hall 0 (by simp))
              have d1 := h1 (hall 1 (by simp))
              have d2 := h2 (hall 2 (by simp))
              have d3 := h3 (hall 3 (by simp))
              have d4 := h4 (hall 4 (by simp))
              have d5 := h5 (hall 5 (by simp))
              have d6 := h6 (hall 6 (by simp))
              have d7 := h7 (hall 7 (by simp))
              have d8 := h8 (hall 8 (by simp))
              have d9 := h9 (hall 9 (by simp))
              have d10 := h10 (hall 10 (by simp))
              have d11 := h11 (hall 11 (by simp))
              have d12 := h12 (hall 12 (by simp))
              have d14 := h14 (hall 14 (by simp))
              have d15 := h15 (hall 15 (by simp))
              have GG := hG (hall 16 (by simp))
              simp only [putAll, Act.put, List.setIfInBounds_toArray, List.set_cons_zero, List.set_cons_succ, d0, d1, d2, d3, d4, d5, d6, d7, d8, d9, d10, d11, d12, d14, d15]
              clear hall h0 d0 h1 d1 h2 d2 h3 d3 h4 d4 h5 d5 h6 d6 h7 d7 h8 d8 h9 d9 h10 d10 h11 d11 h12 d12 h14 d14 h15 d15 y13 hB hG hE13_4 hE13_11 hE11_6 hE11_10 hW4 hW6 hW10 hW13
              obtain ⟨A, ua, uc, hA, hbA, hoA⟩ := GG.out
              have HS : Hid (∃ sv2, RX (fun j => T j ∨ (w.heap.size ≤ j ∧ j < wz.heap.size)) wz g { x with safe := crashK keep torn cut x.size x.safe x.L (k + 1), sv := sv2 } ∧ Keep (fun j => ¬ T j) w wz) := by
                have hsz : wr.heap.size ≤ wz.heap.size := by rw [hA]; have := H2.out.1.size; have := hbA.size; simp [World.setCell]; omega
                have hwz : w.heap.size ≤ w2.heap.size := Nat.le_trans hw.out.2.size H2.out.1.size
                refine ⟨.slice ua m uc, ?_, ?_⟩
                · rw [hA]
                  refine RX.put (x := { x with safe := crashK keep torn cut x.size x.safe x.L k, sv := .slice sa m sc }) (hkw.out.grow hbA) (owns_base hoA (Nat.zero_le _)) (fun k hk => hk.imp id fun h => ⟨h.1, by rw [← hA]; omega⟩) (fun k e => .inr ?_)
                  have hl := World.ownsRow.lt hoA k e
                  exact ⟨Nat.le_trans hwz hl.1, by simpa [World.setCell] using hl.2⟩
                · rw [hA]
                  exact ((hw.out.2.trans (Keep.of_below H2.out.1)).trans (Keep.of_below hbA)).trans (Keep.setCell _ _ _ (by simpa using HTG0.out))
              clear GG HC9 HLAY hkw hA hbA hoA
              have hn9 := HZ.out.few
              rw [HN.out] at hn9
              go_wp2_with fail
              obtain ⟨sv2, hs1, hs2⟩ := HS.out
              exact ⟨⟨k + 1, (cn : Int), sv2, by omega, by go_num, rfl, ⟨HRC.out, HTT.out _⟩, hs1, hs2⟩, by simp [intOf]; omega⟩
      · have hte : ((k : Int) == torn) = false := by simpa using ht
        have HCC : Hid (rngI cc ∧ (((k + 1 : Nat) : Int) ≤ torn → cc = cut)) := ⟨hcc.1, fun hq => hcc.2 (by omega)⟩
        clear hcc
        by_cases hkl : k < vn
        · have hdk : decide ((k : Int) ≥ (vn : Int)) = false := by simp; omega
          have hdk2 : decide (vn ≤ k) = false := by simp; omega
          have hkv : (k : Int) < (vn : Int) := by omega
          have hvr : RowT wr _ keep := HV.out.1.keepK hw.out.2 (HV.out.2 (by omega))
          obtain ⟨vb, vof, rfl, hvb, hvc⟩ := hvr.addr (by rw [HVN.out]; omega)
          cases hkk : keep.getD k false with
          | true =>
            have cv0 : wr.cell? ⟨vb, vof + k, none⟩ = some (.bool true) := hvc k true (by rw [← hkk, List.getD_eq_getElem?_getD, List.getElem?_eq_getElem (by rw [HVN.out]; exact hkl)]; rfl)
            have cv : w2.cell? ⟨vb, vof + k, none⟩ = some (.bool true) := (cell_below H2.out.1 hvb).trans cv0
            have HROW : Hid (RowB w2 (.slice (some ⟨b, 0, none⟩) z bc) B ∧ B.length ≤ 1000 ∧ B = tornB keep torn cut k B) := by
              refine ⟨H2.out.2.2.row, by have := HBL.out; have := HZ.out.z2; omega, ?_⟩
              unfold tornB
              rw [if_neg ht, if_pos hkk]
            clear ht hkk hvr hvb hvc cv0
            go_upto_region 13 with fail
            clear c0 c1 hw2 hg2 d0 d1 d2 d3 d4 d5 d6 v1 cv
            refine wp_region_put (by kernel_rfl) (by kernel_rfl) (by kernel_rfl) (fun b' vs w' => (b' 0 = true → vs 0 = .pointer (some ⟨g, 0, none⟩)) ∧ (b' 1 = true → vs 1 = .pointer (some ⟨g, 0, none⟩)) ∧ (b' 2 = true → vs 2 = .pointer (some ⟨g, 0, none⟩)) ∧ (b' 3 = true → vs 3 = .pointer (some ⟨g, 0, none⟩)) ∧ (b' 4 = true → vs 4 = .slice sa m sc) ∧ (b' 5 = true → vs 5 = .pointer (some ⟨g2, 0, none⟩)) ∧ (b' 6 = true → vs 6 = .int .i64 (i : Int)) ∧ (b' 7 = true → vs 7 = .pointer (some ⟨g, 0, none⟩)) ∧ (b' 8 = true → vs 8 = .pointer (some ⟨g, 0, none⟩)) ∧ (b' 9 = true → vs 9 = .pointer (some ⟨g, 1, none⟩)) ∧ (b' 10 = true → vs 10 = .int .i64 (z : Int)) ∧ (b' 11 = true → vs 11 = .int .i64 (q : Int)) ∧ (b' 12 = true → vs 12 = .slice (some ⟨b, 0, none⟩) z bc) ∧ (b' 14 = true → vs 14 = .pointer (some ⟨g, 0, none⟩)) ∧ (b' 15 = true → vs 15 = .pointer (some ⟨g, 0, none⟩)) ∧ (b' 13 = true → b' 16 = false → Hid (NewB w2.heap.size m (crashK keep torn cut x.size x.safe x.L (k + 1)) (vs 13) w')) ∧ (b' 16 = false → Hid (Below w2.heap.size w2 w' ∧ w2.heap.size ≤ w'.heap.size)) ∧ (b' 16 = true → Hid (∃ A ua uc, w' = A.setCell ⟨g, 0, none⟩ (.slice ua m uc) ∧ Below w2.heap.size w2 A ∧ OwnB A w2.heap.size (.slice ua m uc) (crashK keep torn cut x.size x.safe x.L (k + 1)))) ∧ (b' 13 = true → b' 4 = true) ∧ (b' 13 = true → b' 11 = true) ∧ (b' 11 = true → b' 6 = true) ∧ (b' 11 = true → b' 10 = true) ∧ (b' 16 = true → b' 4 = true) ∧ (b' 16 = true → b' 6 = true) ∧ (b' 16 = true → b' 10 = true) ∧ (b' 16 = true → b' 13 = true)) ?_ ?_ ?_
            · intro vs
              exact ⟨fun h => Bool.noConfusion h, fun h => Bool.noConfusion h, fun h => Bool.noConfusion h, fun h => Bool.noConfusion h, fun h => Bool.noConfusion h, fun h => Bool.noConfusion h, fun h => Bool.noConfusion h, fun h => Bool.noConfusion h, fun h => Bool.noConfusion h, fun h => Bool.noConfusion h, fun h => Bool.noConfusion h, fun h => Bool.noConfusion h, fun h => Bool.noConfusion h, fun h => Bool.noConfusion h, fun h => Bool.noConfusion h, fun h => Bool.noConfusion h, fun _ => Lib.hid ⟨below_drewN (Below.refl _ _) 1, Nat.le_refl _⟩, fun h => Bool.noConfusion h, fun h => Bool.noConfusion h, fun h => Bool.noConfusion h, fun h => Bool.noConfusion h, fun h => Bool.noConfusion h, fun h => Bool.noConfusion h, fun h => Bool.noConfusion h, fun h => Bool.noConfusion h, fun h => Bool.noConfusion h⟩
            · rintro b' vs w' i op hi hun hall ⟨h0, h1, h2, h3, h4, h5, h6, h7, h8, h9, h10, h11, h12, h14, h15, y13, hB, hG, hE13_4, hE13_11, hE11_6, hE11_10, hW4, hW6, hW10, hW13⟩
              have hil : i < 17 := (List.getElem?_eq_some_iff.1 hi).1
              rcases i with _ | _ | _ | _ | _ | _ | _ | _ | _ | _ | _ | _ | _ | _ | _ | _ | _ | i
              · obtain rfl := Option.some.inj hi
                clear hi hil
                refine wpOp_step rfl (fun K hK => ?_)
                have HKK := Lib.hid hK; clear hK
                simp only [putAll, Act.put, List.setIfInBounds_toArray, List.set_cons_zero, List.set_cons_succ]
                go_simp
                exact HKK.out _ _ ⟨_, by simp only [putAll, Act.put, List.setIfInBounds_toArray, List.set_cons_zero, List.set_cons_succ] <;> rfl, fun _ => rfl, h1, h2, h3, h4, h5, h6, h7, h8, h9, h10, h11, h12, h14, h15, y13, hB, hG, hE13_4, hE13_11, hE11_6, hE11_10, hW4, hW6, hW10, hW13⟩
              · obtain rfl := Option.some.inj hi
                clear hi hil
                refine wpOp_step rfl (fun K hK => ?_)
                have HKK := Lib.hid hK; clear hK
                simp only [putAll, Act.put, List.setIfInBounds_toArray, List.set_cons_zero, List.set_cons_succ]
                go_simp
                exact HKK.out _ _ ⟨_, by simp only [putAll, Act.put, List.setIfInBounds_toArray, List.set_cons_zero, List.set_cons_succ] <;> rfl, h0, fun _ => rfl, h2, h3, h4, h5, h6, h7, h8, h9, h10, h11, h12, h14, h15, y13, hB, hG, hE13_4, hE13_11, hE11_6, hE11_10, hW4, hW6, hW10, hW13⟩
              · obtain rfl := Option.some.inj hi
                clear hi hil
                have d1 := h1 (hall ⟨1, .data⟩ (by simp) rfl)
                refine wpOp_step rfl (fun K hK => ?_)
                have HKK := Lib.hid hK; clear hK
                simp only [putAll, Act.put, List.setIfInBounds_toArray, List.set_cons_zero, List.set_cons_succ]
                go_simp
                exact HKK.out _ _ ⟨_, by simp only [putAll, Act.put, List.setIfInBounds_toArray, List.set_cons_zero, List.set_cons_succ, d1] <;> rfl, h0, h1, fun _ => rfl, h3, h4, h5, h6, h7, h8, h9, h10, h11, h12, h14, h15, y13, hB, hG, hE13_4, hE13_11, hE11_6, hE11_10, hW4, hW6, hW10, hW13⟩
              · obtain rfl := Option.some.inj hi
                clear hi hil
                have d2 := h2 (hall ⟨2, .data⟩ (by simp) rfl)
                refine wpOp_step rfl (fun K hK => ?_)
                have HKK := Lib.hid hK; clear hK
                simp only [putAll, Act.put, List.setIfInBounds_toArray, List.set_cons_zero, List.set_cons_succ]
                go_simp
                exact HKK.out _ _ ⟨_, by simp only [putAll, Act.put, List.setIfInBounds_toArray, List.set_cons_zero, List.set_cons_succ, d2] <;> rfl, h0, h1, h2, fun _ => rfl, h4, h5, h6, h7, h8, h9, h10, h11, h12, h14, h15, y13, hB, hG, hE13_4, hE13_11, hE11_6, hE11_10, hW4, hW6, hW10, hW13⟩
              · obtain rfl := Option.some.inj hi
                clear hi hil
                have hap : b' 16 = false := by
                  cases hz : b' 16 with
                  | false => rfl
                  | true => exact absurd (hW4 hz) (by rw [hun]; decide)
                have d3 := h3 (hall ⟨3, .data⟩ (by simp) rfl)
                obtain ⟨k0, k1, k2, k3, k4, k5, k6⟩ := (HC9.out w' (hB hap).out.1).2.d7
                refine wpOp_step rfl (fun K hK => ?_)
                have HKK := Lib.hid hK; clear hK
                simp only [putAll, Act.put, List.setIfInBounds_toArray, List.set_cons_zero, List.set_cons_succ]
                go_simp
                exact HKK.out _ _ ⟨_, by simp only [putAll, Act.put, List.setIfInBounds_toArray, List.set_cons_zero, List.set_cons_succ, d3] <;> rfl, h0, h1, h2, h3, fun _ => rfl, h5, h6, h7, h8, h9, h10, h11, h12, h14, h15, y13, hB, hG, fun _ => rfl, hE13_11, hE11_6, hE11_10, fun _ => rfl, hW6, hW10, hW13⟩
              · obtain rfl := Option.some.inj hi
                clear hi hil
                refine wpOp_step rfl (fun K hK => ?_)
                have HKK := Lib.hid hK; clear hK
                simp only [putAll, Act.put, List.setIfInBounds_toArray, List.set_cons_zero, List.set_cons_succ]
                go_simp
                exact HKK.out _ _ ⟨_, by simp only [putAll, Act.put, List.setIfInBounds_toArray, List.set_cons_zero, List.set_cons_succ] <;> rfl, h0, h1, h2, h3, h4, fun _ => rfl, h6, h7, h8, h9, h10, h11, h12, h14, h15, y13, hB, hG, hE13_4, hE13_11, hE11_6, hE11_10, hW4, hW6, hW10, hW13⟩
              · obtain rfl := Option.some.inj hi
                clear hi hil
                have hap : b' 16 = false := by
                  cases hz : b' 16 with
                  | false => rfl
                  | true => exact absurd (hW6 hz) (by rw [hun]; decide)
                have d5 := h5 (hall ⟨5, .data⟩ (by simp) rfl)
                have m0 := (HC9.out w' (hB hap).out.1).1.cell 0
                refine wpOp_step rfl (fun K hK => ?_)
                have HKK := Lib.hid hK; clear hK
                simp only [putAll, Act.put, List.setIfInBounds_toArray, List.set_cons_zero, List.set_cons_succ]
                go_simp
                exact HKK.out _ _ ⟨_, by simp only [putAll, Act.put, List.setIfInBounds_toArray, List.set_cons_zero, List.set_cons_succ, d5] <;> rfl, h0, h1, h2, h3, h4, h5, fun _ => rfl, h7, h8, h9, h10, h11, h12, h14, h15, y13, hB, hG, hE13_4, hE13_11, fun _ => rfl, hE11_10, hW4, fun _ => rfl, hW10, hW13⟩
              · obtain rfl := Option.some.inj hi
                clear hi hil
                refine wpOp_step rfl (fun K hK => ?_)
                have HKK := Lib.hid hK; clear hK
                simp only [putAll, Act.put, List.setIfInBounds_toArray, List.set_cons_zero, List.set_cons_succ]
                go_simp
                exact HKK.out _ _ ⟨_, by simp only [putAll, Act.put, List.setIfInBounds_toArray, List.set_cons_zero, List.set_cons_succ] <;> rfl, h0, h1, h2, h3, h4, h5, h6, fun _ => rfl, h8, h9, h10, h11, h12, h14, h15, y13, hB, hG, hE13_4, hE13_11, hE11_6, hE11_10, hW4, hW6, hW10, hW13⟩
              · obtain rfl := Option.some.inj hi
                clear hi hil
                have d7 := h7 (hall ⟨7, .data⟩ (by simp) rfl)
                refine wpOp_step rfl (fun K hK => ?_)
                have HKK := Lib.hid hK; clear hK
                simp only [putAll, Act.put, List.setIfInBounds_toArray, List.set_cons_zero, List.set_cons_succ]
                go_simp
                exact HKK.out _ _ ⟨_, by simp only [putAll, Act.put, List.setIfInBounds_toArray, List.set_cons_zero, List.set_cons_succ, d7] <;> rfl, h0, h1, h2, h3, h4, h5, h6, h7, fun _ => rfl, h9, h10, h11, h12, h14, h15, y13, hB, hG, hE13_4, hE13_11, hE11_6, hE11_10, hW4, hW6, hW10, hW13⟩
              · obtain rfl := Option.some.inj hi
                clear hi hil
                have d8 := h8 (hall ⟨8, .data⟩ (by simp) rfl)
                refine wpOp_step rfl (fun K hK => ?_)
                have HKK := Lib.hid hK; clear hK
                simp only [putAll, Act.put, List.setIfInBounds_toArray, List.set_cons_zero, List.set_cons_succ]
                go_simp
                exact HKK.out _ _ ⟨_, by simp only [putAll, Act.put, List.setIfInBounds_toArray, List.set_cons_zero, List.set_cons_succ, d8] <;> rfl, h0, h1, h2, h3, h4, h5, h6, h7, h8, fun _ => rfl, h10, h11, h12, h14, h15, y13, hB, hG, hE13_4, hE13_11, hE11_6, hE11_10, hW4, hW6, hW10, hW13⟩
              · obtain rfl := Option.some.inj hi
                clear hi hil
                have hap : b' 16 = false := by
                  cases hz : b' 16 with
                  | false => rfl
                  | true => exact absurd (hW10 hz) (by rw [hun]; decide)
                have d9 := h9 (hall ⟨9, .data⟩ (by simp) rfl)
                obtain ⟨k0, k1, k2, k3, k4, k5, k6⟩ := (HC9.out w' (hB hap).out.1).2.d7
                refine wpOp_step rfl (fun K hK => ?_)
                have HKK := Lib.hid hK; clear hK
                simp only [putAll, Act.put, List.setIfInBounds_toArray, List.set_cons_zero, List.set_cons_succ]
                go_simp
                exact HKK.out _ _ ⟨_, by simp only [putAll, Act.put, List.setIfInBounds_toArray, List.set_cons_zero, List.set_cons_succ, d9] <;> rfl, h0, h1, h2, h3, h4, h5, h6, h7, h8, h9, fun _ => rfl, h11, h12, h14, h15, y13, hB, hG, hE13_4, hE13_11, hE11_6, fun _ => rfl, hW4, hW6, fun _ => rfl, hW13⟩
              · obtain rfl := Option.some.inj hi
                clear hi hil
                have d6 := h6 (hall ⟨6, .data⟩ (by simp) rfl)
                have d10 := h10 (hall ⟨10, .data⟩ (by simp) rfl)
                refine wpOp_step rfl (fun K hK => ?_)
                have HKK := Lib.hid hK; clear hK
                simp only [putAll, Act.put, List.setIfInBounds_toArray, List.set_cons_zero, List.set_cons_succ]
                go_simp
                exact HKK.out _ _ ⟨_, by simp only [putAll, Act.put, List.setIfInBounds_toArray, List.set_cons_zero, List.set_cons_succ, d6, d10, E2.out] <;> rfl, h0, h1, h2, h3, h4, h5, h6, h7, h8, h9, h10, fun _ => rfl, h12, h14, h15, y13, hB, hG, hE13_4, fun _ => rfl, fun _ => hall ⟨6, .data⟩ (by simp) rfl, fun _ => hall ⟨10, .data⟩ (by simp) rfl, hW4, hW6, hW10, hW13⟩
              · obtain rfl := Option.some.inj hi
                clear hi hil
                refine wpOp_step rfl (fun K hK => ?_)
                have HKK := Lib.hid hK; clear hK
                simp only [putAll, Act.put, List.setIfInBounds_toArray, List.set_cons_zero, List.set_cons_succ]
                go_simp
                exact HKK.out _ _ ⟨_, by simp only [putAll, Act.put, List.setIfInBounds_toArray, List.set_cons_zero, List.set_cons_succ] <;> rfl, h0, h1, h2, h3, h4, h5, h6, h7, h8, h9, h10, h11, fun _ => rfl, h14, h15, y13, hB, hG, hE13_4, hE13_11, hE11_6, hE11_10, hW4, hW6, hW10, hW13⟩
              · obtain rfl := Option.some.inj hi
                clear hi hil
                have hap : b' 16 = false := by
                  cases hz : b' 16 with
                  | false => rfl
                  | true => exact absurd (hW13 hz) (by rw [hun]; decide)
                have d4 := h4 (hall ⟨4, .data⟩ (by simp) rfl)
                have d11 := h11 (hall ⟨11, .data⟩ (by simp) rfl)
                have d12 := h12 (hall ⟨12, .data⟩ (by simp) rfl)
                refine wpOp_step rfl (fun K hK => ?_)
                have HKK := Lib.hid hK; clear hK
                simp only [putAll, Act.put, List.setIfInBounds_toArray, List.set_cons_zero, List.set_cons_succ]
                go_simp
                refine (HLAY.out _ _ _ _ HROW.out.1 HROW.out.2.1 HROW.out.2.2 w' (hB hap).out.1).mono ?_
                rintro e w2' ⟨u2, rfl, ho2, hb2⟩
                exact HKK.out _ _ ⟨_, by simp only [putAll, Act.put, List.setIfInBounds_toArray, List.set_cons_zero, List.set_cons_succ, d4, d11, d12] <;> rfl, h0, h1, h2, h3, h4, h5, h6, h7, h8, h9, h10, h11, h12, h14, h15, fun _ _ => Lib.hid (ho2), fun ha => Lib.hid ⟨(hB ha).out.1.trans (hb2.mono (hB ha).out.2), Nat.le_trans (hB ha).out.2 hb2.size⟩, fun h => absurd (show b' 16 = true from h) (by rw [hap]; decide), fun _ => hall ⟨4, .data⟩ (by simp) rfl, fun _ => hall ⟨11, .data⟩ (by simp) rfl, hE11_6, hE11_10, hW4, hW6, hW10, fun _ => rfl⟩
              · obtain rfl := Option.some.inj hi
                clear hi hil
                have d0 := h0 (hall ⟨0, .data⟩ (by simp) rfl)
                refine wpOp_step rfl (fun K hK => ?_)
                have HKK := Lib.hid hK; clear hK
                simp only [putAll, Act.put, List.setIfInBounds_toArray, List.set_cons_zero, List.set_cons_succ]
                go_simp
                exact HKK.out _ _ ⟨_, by simp only [putAll, Act.put, List.setIfInBounds_toArray, List.set_cons_zero, List.set_cons_succ, d0] <;> rfl, h0, h1, h2, h3, h4, h5, h6, h7, h8, h9, h10, h11, h12, fun _ => rfl, h15, y13, hB, hG, hE13_4, hE13_11, hE11_6, hE11_10, hW4, hW6, hW10, hW13⟩
              · obtain rfl := Option.some.inj hi
                clear hi hil
                have d14 := h14 (hall ⟨14, .data⟩ (by simp) rfl)
                refine wpOp_step rfl (fun K hK => ?_)
                have HKK := Lib.hid hK; clear hK
                simp only [putAll, Act.put, List.setIfInBounds_toArray, List.set_cons_zero, List.set_cons_succ]
                go_simp
                exact HKK.out _ _ ⟨_, by simp only [putAll, Act.put, List.setIfInBounds_toArray, List.set_cons_zero, List.set_cons_succ, d14] <;> rfl, h0, h1, h2, h3, h4, h5, h6, h7, h8, h9, h10, h11, h12, h14, fun _ => rfl, y13, hB, hG, hE13_4, hE13_11, hE11_6, hE11_10, hW4, hW6, hW10, hW13⟩
              · obtain rfl := Option.some.inj hi
                clear hi hil
                have hap : b' 16 = false := hun
                have o13 := y13 (hall ⟨13, .data⟩ (by simp) rfl) hap
                have d15 := h15 (hall ⟨15, .data⟩ (by simp) rfl)
                obtain ⟨ua, uc, e13, ho13⟩ := o13.out
                have hbk := (HC9.out w' (hB hap).out.1).2
                obtain ⟨k0, k1, k2, k3, k4, k5, k6⟩ := hbk.d7
                have f0 := hbk.free 0
                have lg := hbk.lt
                refine wpOp_step rfl (fun K hK => ?_)
                have HKK := Lib.hid hK; clear hK
                simp only [putAll, Act.put, List.setIfInBounds_toArray, List.set_cons_zero, List.set_cons_succ]
                go_simp
                exact HKK.out _ _ ⟨undef, by simp only [putAll, Act.put, List.setIfInBounds_toArray, List.set_cons_zero, List.set_cons_succ, d15, e13] <;> rfl, h0, h1, h2, h3, h4, h5, h6, h7, h8, h9, h10, h11, h12, h14, h15, fun _ h => Bool.noConfusion h, fun h => Bool.noConfusion h, fun _ => Lib.hid (⟨_, ua, uc, rfl, (hB hap).out.1, ho13⟩), hE13_4, hE13_11, hE11_6, hE11_10, fun _ => hE13_4 (hall ⟨13, .data⟩ (by simp) rfl), fun _ => hE11_6 (hE13_11 (hall ⟨13, .data⟩ (by simp) rfl)), fun _ => hE11_10 (hE13_11 (hall ⟨13, .data⟩ (by simp) rfl)), fun _ => hall ⟨13, .data⟩ (by simp) rfl⟩
              · omega
            · rintro b' vs wz hall ⟨h0, h1, h2, h3, h4, h5, h6, h7, h8, h9, h10, h11, h12, h14, h15, y13, hB, hG, hE13_4, hE13_11, hE11_6, hE11_10, hW4, hW6, hW10, hW13⟩
              have d0 := h0 (hall 0 (by simp))
              have d1 := h1 (hall 1 (by simp))
              have d2 := h2 (hall 2 (by simp))
              have d3 := h3 (hall 3 (by simp))
              have d4 := h4 (hall 4 (by simp))
              have d5 := h5 (hall 5 (by simp))
              have d6 := h6 (hall 6 (by simp))
              have d7 := h7 (hall 7 (by simp))
              have d8 := h8 (hall 8 (by simp))
              have d9 := h9 (hall 9 (by simp))
              have d10 := h10 (hall 10 (by simp))
              have d11 := h11 (hall 11 (by simp))
              have d12 := h12 (hall 12 (by simp))
              have d14 := h14 (hall 14 (by simp))
              have d15 := h15 (hall 15 (by simp))
              have GG := hG (hall 16 (by simp))
              simp only [putAll, Act.put, List.setIfInBounds_toArray, List.set_cons_zero, List.set_cons_succ, d0, d1, d2, d3, d4, d5, d6, d7, d8, d9, d10, d11, d12, d14, d15]
              clear hall h0 d0 h1 d1 h2 d2 h3 d3 h4 d4 h5 d5 h6 d6 h7 d7 h8 d8 h9 d9 h10 d10 h11 d11 h12 d12 h14 d14 h15 d15 y13 hB hG hE13_4 hE13_11 hE11_6 hE11_10 hW4 hW6 hW10 hW13
              obtain ⟨A, ua, uc, hA, hbA, hoA⟩ := GG.out
              have HS : Hid (∃ sv2, RX (fun j => T j ∨ (w.heap.size ≤ j ∧ j < wz.heap.size)) wz g { x with safe := crashK keep torn cut x.size x.safe x.L (k + 1), sv := sv2 } ∧ Keep (fun j => ¬ T j) w wz) := by
                have hsz : wr.heap.size ≤ wz.heap.size := by rw [hA]; have := H2.out.1.size; have := hbA.size; simp [World.setCell]; omega
                have hwz : w.heap.size ≤ w2.heap.size := Nat.le_trans hw.out.2.size H2.out.1.size
                refine ⟨.slice ua m uc, ?_, ?_⟩
                · rw [hA]
                  refine RX.put (x := { x with safe := crashK keep torn cut x.size x.safe x.L k, sv := .slice sa m sc }) (hkw.out.grow hbA) (owns_base hoA (Nat.zero_le _)) (fun k hk => hk.imp id fun h => ⟨h.1, by rw [← hA]; omega⟩) (fun k e => .inr ?_)
                  have hl := World.ownsRow.lt hoA k e
                  exact ⟨Nat.le_trans hwz hl.1, by simpa [World.setCell] using hl.2⟩
                · rw [hA]
                  exact ((hw.out.2.trans (Keep.of_below H2.out.1)).trans (Keep.of_below hbA)).trans (Keep.setCell _ _ _ (by simpa using HTG0.out))
              clear GG HC9 HLAY hkw hA hbA hoA
              have hn9 := HZ.out.few
              rw [HN.out] at hn9
              go_wp2_with fail
              obtain ⟨sv2, hs1, hs2⟩ := HS.out
              exact ⟨⟨k + 1, cc, sv2, by omega, by go_num, rfl, HCC.out, hs1, hs2⟩, by simp [intOf]; omega⟩
          | false =>
            have cv0 : wr.cell? ⟨vb, vof + k, none⟩ = some (.bool false) := hvc k false (by rw [← hkk, List.getD_eq_getElem?_getD, List.getElem?_eq_getElem (by rw [HVN.out]; exact hkl)]; rfl)
            have cv : w2.cell? ⟨vb, vof + k, none⟩ = some (.bool false) := (cell_below H2.out.1 hvb).trans cv0
            have HROW : Hid (RowB w2 (.slice none 0 0) [] ∧ ([] : List Int).length ≤ 1000 ∧ [] = tornB keep torn cut k B) := by
              refine ⟨.inl ⟨rfl, rfl⟩, by simp, ?_⟩
              unfold tornB
              rw [if_neg ht, hkk, if_neg (by simp)]
            clear ht hkk hvr hvb hvc cv0
            go_upto_region 13 with fail
            clear c0 c1 hw2 hg2 d0 d1 d2 d3 d4 d5 d6 v1 cv
            refine wp_region_put (by kernel_rfl) (by kernel_rfl) (by kernel_rfl) (fun b' vs w' => (b' 0 = true → vs 0 = .pointer (some ⟨g, 0, none⟩)) ∧ (b' 1 = true → vs 1 = .pointer (some ⟨g, 0, none⟩)) ∧ (b' 2 = true → vs 2 = .pointer (some ⟨g, 0, none⟩)) ∧ (b' 3 = true → vs 3 = .pointer (some ⟨g, 0, none⟩)) ∧ (b' 4 = true → vs 4 = .slice sa m sc) ∧ (b' 5 = true → vs 5 = .pointer (some ⟨g2, 0, none⟩)) ∧ (b' 6 = true → vs 6 = .int .i64 (i : Int)) ∧ (b' 7 = true → vs 7 = .pointer (some ⟨g, 0, none⟩)) ∧ (b' 8 = true → vs 8 = .pointer (some ⟨g, 0, none⟩)) ∧ (b' 9 = true → vs 9 = .pointer (some ⟨g, 1, none⟩)) ∧ (b' 10 = true → vs 10 = .int .i64 (z : Int)) ∧ (b' 11 = true → vs 11 = .int .i64 (q : Int)) ∧ (b' 12 = true → vs 12 = .slice none 0 0) ∧ (b' 14 = true → vs 14 = .pointer (some ⟨g, 0, none⟩)) ∧ (b' 15 = true → vs 15 = .pointer (some ⟨g, 0, none⟩)) ∧ (b' 13 = true → b' 16 = false → Hid (NewB w2.heap.size m (crashK keep torn cut x.size x.safe x.L (k + 1)) (vs 13) w')) ∧ (b' 16 = false → Hid (Below w2.heap.size w2 w' ∧ w2.heap.size ≤ w'.heap.size)) ∧ (b' 16 = true → Hid (∃ A ua uc, w' = A.setCell ⟨g, 0, none⟩ (.slice ua m uc) ∧ Below w2.heap.size w2 A ∧ OwnB A w2.heap.size (.slice ua m uc) (crashK keep torn cut x.size x.safe x.L (k + 1)))) ∧ (b' 13 = true → b' 4 = true) ∧ (b' 13 = true → b' 11 = true) ∧ (b' 11 = true → b' 6 = true) ∧ (b' 11 = true → b' 10 = true) ∧ (b' 16 = true → b' 4 = true) ∧ (b' 16 = true → b' 6 = true) ∧ (b' 16 = true → b' 10 = true) ∧ (b' 16 = true → b' 13 = true)) ?_ ?_ ?_
            · intro vs
              exact ⟨fun h => Bool.noConfusion h, fun h => Bool.noConfusion h, fun h => Bool.noConfusion h, fun h => Bool.noConfusion h, fun h => Bool.noConfusion h, fun h => Bool.noConfusion h, fun h => Bool.noConfusion h, fun h => Bool.noConfusion h, fun h => Bool.noConfusion h, fun h => Bool.noConfusion h, fun h => Bool.noConfusion h, fun h => Bool.noConfusion h, fun h => Bool.noConfusion h, fun h => Bool.noConfusion h, fun h => Bool.noConfusion h, fun h => Bool.noConfusion h, fun _ => Lib.hid ⟨below_drewN (Below.refl _ _) 1, Nat.le_refl _⟩, fun h => Bool.noConfusion h, fun h => Bool.noConfusion h, fun h => Bool.noConfusion h, fun h => Bool.noConfusion h, fun h => Bool.noConfusion h, fun h => Bool.noConfusion h, fun h => Bool.noConfusion h, fun h => Bool.noConfusion h, fun h => Bool.noConfusion h⟩
            · rintro b' vs w' i op hi hun hall ⟨h0, h1, h2, h3, h4, h5, h6, h7, h8, h9, h10, h11, h12, h14, h15, y13, hB, hG, hE13_4, hE13_11, hE11_6, hE11_10, hW4, hW6, hW10, hW13⟩
              have hil : i < 17 := (List.getElem?_eq_some_iff.1 hi).1
              rcases i with _ | _ | _ | _ | _ | _ | _ | _ | _ | _ | _ | _ | _ | _ | _ | _ | _ | i
              · obtain rfl := Option.some.inj hi
                clear hi hil
                refine wpOp_step rfl (fun K hK => ?_)
                have HKK := Lib.hid hK; clear hK
                simp only [putAll, Act.put, List.setIfInBounds_toArray, List.set_cons_zero, List.set_cons_succ]
                go_simp
                exact HKK.out _ _ ⟨_, by simp only [putAll, Act.put, List.setIfInBounds_toArray, List.set_cons_zero, List.set_cons_succ] <;> rfl, fun _ => rfl, h1, h2, h3, h4, h5, h6, h7, h8, h9, h10, h11, h12, h14, h15, y13, hB, hG, hE13_4, hE13_11, hE11_6, hE11_10, hW4, hW6, hW10, hW13⟩
              · obtain rfl := Option.some.inj hi
                clear hi hil
                refine wpOp_step rfl (fun K hK => ?_)
                have HKK := Lib.hid hK; clear hK
                simp only [putAll, Act.put, List.setIfInBounds_toArray, List.set_cons_zero, List.set_cons_succ]
                go_simp
                exact HKK.out _ _ ⟨_, by simp only [putAll, Act.put, List.setIfInBounds_toArray, List.set_cons_zero, List.set_cons_succ] <;> rfl, h0, fun _ => rfl, h2, h3, h4, h5, h6, h7, h8, h9, h10, h11, h12, h14, h15, y13, hB, hG, hE13_4, hE13_11, hE11_6, hE11_10, hW4, hW6, hW10, hW13⟩
              · obtain rfl := Option.some.inj hi
                clear hi hil
                have d1 := h1 (hall ⟨1, .data⟩ (by simp) rfl)
                refine wpOp_step rfl (fun K hK => ?_)
                have HKK := Lib.hid hK; clear hK
                simp only [putAll, Act.put, List.setIfInBounds_toArray, List.set_cons_zero, List.set_cons_succ]
                go_simp
                exact HKK.out _ _ ⟨_, by simp only [putAll, Act.put, List.setIfInBounds_toArray, List.set_cons_zero, List.set_cons_succ, d1] <;> rfl, h0, h1, fun _ => rfl, h3, h4, h5, h6, h7, h8, h9, h10, h11, h12, h14, h15, y13, hB, hG, hE13_4, hE13_11, hE11_6, hE11_10, hW4, hW6, hW10, hW13⟩
              · obtain rfl := Option.some.inj hi
                clear hi hil
                have d2 := h2 (hall ⟨2, .data⟩ (by simp) rfl)
                refine wpOp_step rfl (fun K hK => ?_)
                have HKK := Lib.hid hK; clear hK
                simp only [putAll, Act.put, List.setIfInBounds_toArray, List.set_cons_zero, List.set_cons_succ]
                go_simp
                exact HKK.out _ _ ⟨_, by simp only [putAll, Act.put, List.setIfInBounds_toArray, List.set_cons_zero, List.set_cons_succ, d2] <;> rfl, h0, h1, h2, fun _ => rfl, h4, h5, h6, h7, h8, h9, h10, h11, h12, h14, h15, y13, hB, hG, hE13_4, hE13_11, hE11_6, hE11_10, hW4, hW6, hW10, hW13⟩
              · obtain rfl := Option.some.inj hi
                clear hi hil
                have hap : b' 16 = false := by
                  cases hz : b' 16 with
                  | false => rfl
                  | true => exact absurd (hW4 hz) (by rw [hun]; decide)
                have d3 := h3 (hall ⟨3, .data⟩ (by simp) rfl)
                obtain ⟨k0, k1, k2, k3, k4, k5, k6⟩ := (HC9.out w' (hB hap).out.1).2.d7
                refine wpOp_step rfl (fun K hK => ?_)
                have HKK := Lib.hid hK; clear hK
                simp only [putAll, Act.put, List.setIfInBounds_toArray, List.set_cons_zero, List.set_cons_succ]
                go_simp
                exact HKK.out _ _ ⟨_, by simp only [putAll, Act.put, List.setIfInBounds_toArray, List.set_cons_zero, List.set_cons_succ, d3] <;> rfl, h0, h1, h2, h3, fun _ => rfl, h5, h6, h7, h8, h9, h10, h11, h12, h14, h15, y13, hB, hG, fun _ => rfl, hE13_11, hE11_6, hE11_10, fun _ => rfl, hW6, hW10, hW13⟩
              · obtain rfl := Option.some.inj hi
                clear hi hil
                refine wpOp_step rfl (fun K hK => ?_)
                have HKK := Lib.hid hK; clear hK
                simp only [putAll, Act.put, List.setIfInBounds_toArray, List.set_cons_zero, List.set_cons_succ]
                go_simp
                exact HKK.out _ _ ⟨_, by simp only [putAll, Act.put, List.setIfInBounds_toArray, List.set_cons_zero, List.set_cons_succ] <;> rfl, h0, h1, h2, h3, h4, fun _ => rfl, h6, h7, h8, h9, h10, h11, h12, h14, h15, y13, hB, hG, hE13_4, hE13_11, hE11_6, hE11_10, hW4, hW6, hW10, hW13⟩
              · obtain rfl := Option.some.inj hi
                clear hi hil
                have hap : b' 16 = false := by
                  cases hz : b' 16 with
                  | false => rfl
                  | true => exact absurd (hW6 hz) (by rw [hun]; decide)
                have d5 := h5 (hall ⟨5, .data⟩ (by simp) rfl)
                have m0 := (HC9.out w' (hB hap).out.1).1.cell 0
                refine wpOp_step rfl (fun K hK => ?_)
                have HKK := Lib.hid hK; clear hK
                simp only [putAll, Act.put, List.setIfInBounds_toArray, List.set_cons_zero, List.set_cons_succ]
                go_simp
                exact HKK.out _ _ ⟨_, by simp only [putAll, Act.put, List.setIfInBounds_toArray, List.set_cons_zero, List.set_cons_succ, d5] <;> rfl, h0, h1, h2, h3, h4, h5, fun _ => rfl, h7, h8, h9, h10, h11, h12, h14, h15, y13, hB, hG, hE13_4, hE13_11, fun _ => rfl, hE11_10, hW4, fun _ => rfl, hW10, hW13⟩
              · obtain rfl := Option.some.inj hi
                clear hi hil
                refine wpOp_step rfl (fun K hK => ?_)
                have HKK := Lib.hid hK; clear hK
                simp only [putAll, Act.put, List.setIfInBounds_toArray, List.set_cons_zero, List.set_cons_succ]
                go_simp
                exact HKK.out _ _ ⟨_, by simp only [putAll, Act.put, List.setIfInBounds_toArray, List.set_cons_zero, List.set_cons_succ] <;> rfl, h0, h1, h2, h3, h4, h5, h6, fun _ => rfl, h8, h9, h10, h11, h12, h14, h15, y13, hB, hG, hE13_4, hE13_11, hE11_6, hE11_10, hW4, hW6, hW10, hW13⟩
              · obtain rfl := Option.some.inj hi
                clear hi hil
                have d7 := h7 (hall ⟨7, .data⟩ (by simp) rfl)
                refine wpOp_step rfl (fun K hK => ?_)
                have HKK := Lib.hid hK; clear hK
                simp only [putAll, Act.put, List.setIfInBounds_toArray, List.set_cons_zero, List.set_cons_succ]
                go_simp
                exact HKK.out _ _ ⟨_, by simp only [putAll, Act.put, List.setIfInBounds_toArray, List.set_cons_zero, List.set_cons_succ, d7] <;> rfl, h0, h1, h2, h3, h4, h5, h6, h7, fun _ => rfl, h9, h10, h11, h12, h14, h15, y13, hB, hG, hE13_4, hE13_11, hE11_6, hE11_10, hW4, hW6, hW10, hW13⟩
              · obtain rfl := Option.some.inj hi
                clear hi hil
                have d8 := h8 (hall ⟨8, .data⟩ (by simp) rfl)
                refine wpOp_step rfl (fun K hK => ?_)
                have HKK := Lib.hid hK; clear hK
                simp only [putAll, Act.put, List.setIfInBounds_toArray, List.set_cons_zero, List.set_cons_succ]
                go_simp
                exact HKK.out _ _ ⟨_, by simp only [putAll, Act.put, List.setIfInBounds_toArray, List.set_cons_zero, List.set_cons_succ, d8] <;> rfl, h0, h1, h2, h3, h4, h5, h6, h7, h8, fun _ => rfl, h10, h11, h12, h14, h15, y13, hB, hG, hE13_4, hE13_11, hE11_6, hE11_10, hW4, hW6, hW10, hW13⟩
              · obtain rfl := Option.some.inj hi
                clear hi hil
                have hap : b' 16 = false := by
                  cases hz : b' 16 with
                  | false => rfl
                  | true => exact absurd (hW10 hz) (by rw [hun]; decide)
                have d9 := h9 (hall ⟨9, .data⟩ (by simp) rfl)
                obtain ⟨k0, k1, k2, k3, k4, k5, k6⟩ := (HC9.out w' (hB hap).out.1).2.d7
                refine wpOp_step rfl (fun K hK => ?_)
                have HKK := Lib.hid hK; clear hK
                simp only [putAll, Act.put, List.setIfInBounds_toArray, List.set_cons_zero, List.set_cons_succ]
                go_simp
                exact HKK.out _ _ ⟨_, by simp only [putAll, Act.put, List.setIfInBounds_toArray, List.set_cons_zero, List.set_cons_succ, d9] <;> rfl, h0, h1, h2, h3, h4, h5, h6, h7, h8, h9, fun _ => rfl, h11, h12, h14, h15, y13, hB, hG, hE13_4, hE13_11, hE11_6, fun _ => rfl, hW4, hW6, fun _ => rfl, hW13⟩
              · obtain rfl := Option.some.inj hi
                clear hi hil
                have d6 := h6 (hall ⟨6, .data⟩ (by simp) rfl)
                have d10 := h10 (hall ⟨10, .data⟩ (by simp) rfl)
                refine wpOp_step rfl (fun K hK => ?_)
                have HKK := Lib.hid hK; clear hK
                simp only [putAll, Act.put, List.setIfInBounds_toArray, List.set_cons_zero, List.set_cons_succ]
                go_simp
                exact HKK.out _ _ ⟨_, by simp only [putAll, Act.put, List.setIfInBounds_toArray, List.set_cons_zero, List.set_cons_succ, d6, d10, E2.out] <;> rfl, h0, h1, h2, h3, h4, h5, h6, h7, h8, h9, h10, fun _ => rfl, h12, h14, h15, y13, hB, hG, hE13_4, fun _ => rfl, fun _ => hall ⟨6, .data⟩ (by simp) rfl, fun _ => hall ⟨10, .data⟩ (by simp) rfl, hW4, hW6, hW10, hW13⟩
              · obtain rfl := Option.some.inj hi
                clear hi hil
                refine wpOp_step rfl (fun K hK => ?_)
                have HKK := Lib.hid hK; clear hK
                simp only [putAll, Act.put, List.setIfInBounds_toArray, List.set_cons_zero, List.set_cons_succ]
                go_simp
                exact HKK.out _ _ ⟨_, by simp only [putAll, Act.put, List.setIfInBounds_toArray, List.set_cons_zero, List.set_cons_succ] <;> rfl, h0, h1, h2, h3, h4, h5, h6, h7, h8, h9, h10, h11, fun _ => rfl, h14, h15, y13, hB, hG, hE13_4, hE13_11, hE11_6, hE11_10, hW4, hW6, hW10, hW13⟩
              · obtain rfl := Option.some.inj hi
                clear hi hil
                have hap : b' 16 = false := by
                  cases hz : b' 16 with
                  | false => rfl
                  | true => exact absurd (hW13 hz) (by rw [hun]; decide)
                have d4 := h4 (hall ⟨4, .data⟩ (by simp) rfl)
                have d11 := h11 (hall ⟨11, .data⟩ (by simp) rfl)
                have d12 := h12 (hall ⟨12, .data⟩ (by simp) rfl)
                refine wpOp_step rfl (fun K hK => ?_)
                have HKK := Lib.hid hK; clear hK
                simp only [putAll, Act.put, List.setIfInBounds_toArray, List.set_cons_zero, List.set_cons_succ]
                go_simp
                refine (HLAY.out _ _ _ _ HROW.out.1 HROW.out.2.1 HROW.out.2.2 w' (hB hap).out.1).mono ?_
                rintro e w2' ⟨u2, rfl, ho2, hb2⟩
                exact HKK.out _ _ ⟨_, by simp only [putAll, Act.put, List.setIfInBounds_toArray, List.set_cons_zero, List.set_cons_succ, d4, d11, d12] <;> rfl, h0, h1, h2, h3, h4, h5, h6, h7, h8, h9, h10, h11, h12, h14, h15, fun _ _ => Lib.hid (ho2), fun ha => Lib.hid ⟨(hB ha).out.1.trans (hb2.mono (hB ha).out.2), Nat.le_trans (hB ha).out.2 hb2.size⟩, fun h => absurd (show b' 16 = true from h) (by rw [hap]; decide), fun _ => hall ⟨4, .data⟩ (by simp) rfl, fun _ => hall ⟨11, .data⟩ (by simp) rfl, hE11_6, hE11_10, hW4, hW6, hW10, fun _ => rfl⟩
              · obtain rfl := Option.some.inj hi
                clear hi hil
                have d0 := h0 (hall ⟨0, .data⟩ (by simp) rfl)
                refine wpOp_step rfl (fun K hK => ?_)
                have HKK := Lib.hid hK; clear hK
                simp only [putAll, Act.put, List.setIfInBounds_toArray, List.set_cons_zero, List.set_cons_succ]
                go_simp
                exact HKK.out _ _ ⟨_, by simp only [putAll, Act.put, List.setIfInBounds_toArray, List.set_cons_zero, List.set_cons_succ, d0] <;> rfl, h0, h1, h2, h3, h4, h5, h6, h7, h8, h9, h10, h11, h12, fun _ => rfl, h15, y13, hB, hG, hE13_4, hE13_11, hE11_6, hE11_10, hW4, hW6, hW10, hW13⟩
              · obtain rfl := Option.some.inj hi
                clear hi hil
                have d14 := h14 (hall ⟨14, .data⟩ (by simp) rfl)
                refine wpOp_step rfl (fun K hK => ?_)
                have HKK := Lib.hid hK; clear hK
                simp only [putAll, Act.put, List.setIfInBounds_toArray, List.set_cons_zero, List.set_cons_succ]
                go_simp
                exact HKK.out _ _ ⟨_, by simp only [putAll, Act.put, List.setIfInBounds_toArray, List.set_cons_zero, List.set_cons_succ, d14] <;> rfl, h0, h1, h2, h3, h4, h5, h6, h7, h8, h9, h10, h11, h12, h14, fun _ => rfl, y13, hB, hG, hE13_4, hE13_11, hE11_6, hE11_10, hW4, hW6, hW10, hW13⟩
              · obtain rfl := Option.some.inj hi
                clear hi hil
                have hap : b' 16 = false := hun
                have o13 := y13 (hall ⟨13, .data⟩ (by simp) rfl) hap
                have d15 := h15 (hall ⟨15, .data⟩ (by simp) rfl)
                obtain ⟨ua, uc, e13, ho13⟩ := o13.out
                have hbk := (HC9.out w' (hB hap).out.1).2
                obtain ⟨k0, k1, k2, k3, k4, k5, k6⟩ := hbk.d7
                have f0 := hbk.free 0
                have lg := hbk.lt
                refine wpOp_step rfl (fun K hK => ?_)
                have HKK := Lib.hid hK; clear hK
                simp only [putAll, Act.put, List.setIfInBounds_toArray, List.set_cons_zero, List.set_cons_succ]
                go_simp
                exact HKK.out _ _ ⟨undef, by simp only [putAll, Act.put, List.setIfInBounds_toArray, List.set_cons_zero, List.set_cons_succ, d15, e13] <;> rfl, h0, h1, h2, h3, h4, h5, h6, h7, h8, h9, h10, h11, h12, h14, h15, fun _ h => Bool.noConfusion h, fun h => Bool.noConfusion h, fun _ => Lib.hid (⟨_, ua, uc, rfl, (hB hap).out.1, ho13⟩), hE13_4, hE13_11, hE11_6, hE11_10, fun _ => hE13_4 (hall ⟨13, .data⟩ (by simp) rfl), fun _ => hE11_6 (hE13_11 (hall ⟨13, .data⟩ (by simp) rfl)), fun _ => hE11_10 (hE13_11 (hall ⟨13, .data⟩ (by simp) rfl)), fun _ => hall ⟨13, .data⟩ (by simp) rfl⟩
              · omega
            · rintro b' vs wz hall ⟨h0, h1, h2, h3, h4, h5, h6, h7, h8, h9, h10, h11, h12, h14, h15, y13, hB, hG, hE13_4, hE13_11, hE11_6, hE11_10, hW4, hW6, hW10, hW13⟩
              have d0 := h0 (hall 0 (by simp))
              have d1 := h1 (hall 1 (by simp))
              have d2 := h2 (hall 2 (by simp))
              have d3 := h3 (hall 3 (by simp))
              have d4 := h4 (hall 4 (by simp))
              have d5 := h5 (hall 5 (by simp))
              have d6 := h6 (hall 6 (by simp))
              have d7 := h7 (hall 7 (by simp))
              have d8 := h8 (hall 8 (by simp))
              have d9 := h9 (hall 9 (by simp))
              have d10 := h10 (hall 10 (by simp))
              have d11 := h11 (hall 11 (by simp))
              have d12 := h12 (hall 12 (by simp))
              have d14 := h14 (hall 14 (by simp))
              have d15 := h15 (hall 15 (by simp))
              have GG := hG (hall 16 (by simp))
              simp only [putAll, Act.put, List.setIfInBounds_toArray, List.set_cons_zero, List.set_cons_succ, d0, d1, d2, d3, d4, d5, d6, d7, d8, d9, d10, d11, d12, d14, d15]
              clear hall h0 d0 h1 d1 h2 d2 h3 d3 h4 d4 h5 d5 h6 d6 h7 d7 h8 d8 h9 d9 h10 d10 h11 d11 h12 d12 h14 d14 h15 d15 y13 hB hG hE13_4 hE13_11 hE11_6 hE11_10 hW4 hW6 hW10 hW13
              obtain ⟨A, ua, uc, hA, hbA, hoA⟩ := GG.out
              have HS : Hid (∃ sv2, RX (fun j => T j ∨ (w.heap.size ≤ j ∧ j < wz.heap.size)) wz g { x with safe := crashK keep torn cut x.size x.safe x.L (k + 1), sv := sv2 } ∧ Keep (fun j => ¬ T j) w wz) := by
                have hsz : wr.heap.size ≤ wz.heap.size := by rw [hA]; have := H2.out.1.size; have := hbA.size; simp [World.setCell]; omega
                have hwz : w.heap.size ≤ w2.heap.size := Nat.le_trans hw.out.2.size H2.out.1.size
                refine ⟨.slice ua m uc, ?_, ?_⟩
                · rw [hA]
                  refine RX.put (x := { x with safe := crashK keep torn cut x.size x.safe x.L k, sv := .slice sa m sc }) (hkw.out.grow hbA) (owns_base hoA (Nat.zero_le _)) (fun k hk => hk.imp id fun h => ⟨h.1, by rw [← hA]; omega⟩) (fun k e => .inr ?_)
                  have hl := World.ownsRow.lt hoA k e
                  exact ⟨Nat.le_trans hwz hl.1, by simpa [World.setCell] using hl.2⟩
                · rw [hA]
                  exact ((hw.out.2.trans (Keep.of_below H2.out.1)).trans (Keep.of_below hbA)).trans (Keep.setCell _ _ _ (by simpa using HTG0.out))
              clear GG HC9 HLAY hkw hA hbA hoA
              have hn9 := HZ.out.few
              rw [HN.out] at hn9
              go_wp2_with fail
              obtain ⟨sv2, hs1, hs2⟩ := HS.out
              exact ⟨⟨k + 1, cc, sv2, by omega, by go_num, rfl, HCC.out, hs1, hs2⟩, by simp [intOf]; omega⟩
        · have hdk : decide ((k : Int) ≥ (vn : Int)) = true := by simp; omega
          have hdk2 : decide (vn ≤ k) = true := by simp; omega
          have HROW : Hid (RowB w2 (.slice none 0 0) [] ∧ ([] : List Int).length ≤ 1000 ∧ [] = tornB keep torn cut k B) := by
            refine ⟨.inl ⟨rfl, rfl⟩, by simp, ?_⟩
            unfold tornB
            rw [if_neg ht, List.getD_eq_getElem?_getD, List.getElem?_eq_none (by rw [HVN.out]; omega), if_neg (by simp)]
          clear ht
          go_upto_region 13 with fail
          clear c0 c1 hw2 hg2 d0 d1 d2 d3 d4 d5 d6 v1
          refine wp_region_put (by kernel_rfl) (by kernel_rfl) (by kernel_rfl) (fun b' vs w' => (b' 0 = true → vs 0 = .pointer (some ⟨g, 0, none⟩)) ∧ (b' 1 = true → vs 1 = .pointer (some ⟨g, 0, none⟩)) ∧ (b' 2 = true → vs 2 = .pointer (some ⟨g, 0, none⟩)) ∧ (b' 3 = true → vs 3 = .pointer (some ⟨g, 0, none⟩)) ∧ (b' 4 = true → vs 4 = .slice sa m sc) ∧ (b' 5 = true → vs 5 = .pointer (some ⟨g2, 0, none⟩)) ∧ (b' 6 = true → vs 6 = .int .i64 (i : Int)) ∧ (b' 7 = true → vs 7 = .pointer (some ⟨g, 0, none⟩)) ∧ (b' 8 = true → vs 8 = .pointer (some ⟨g, 0, none⟩)) ∧ (b' 9 = true → vs 9 = .pointer (some ⟨g, 1, none⟩)) ∧ (b' 10 = true → vs 10 = .int .i64 (z : Int)) ∧ (b' 11 = true → vs 11 = .int .i64 (q : Int)) ∧ (b' 12 = true → vs 12 = .slice none 0 0) ∧ (b' 14 = true → vs 14 = .pointer (some ⟨g, 0, none⟩)) ∧ (b' 15 = true → vs 15 = .pointer (some ⟨g, 0, none⟩)) ∧ (b' 13 = true → b' 16 = false → Hid (NewB w2.heap.size m (crashK keep torn cut x.size x.safe x.L (k + 1)) (vs 13) w')) ∧ (b' 16 = false → Hid (Below w2.heap.size w2 w' ∧ w2.heap.size ≤ w'.heap.size)) ∧ (b' 16 = true → Hid (∃ A ua uc, w' = A.setCell ⟨g, 0, none⟩ (.slice ua m uc) ∧ Below w2.heap.size w2 A ∧ OwnB A w2.heap.size (.slice ua m uc) (crashK keep torn cut x.size x.safe x.L (k + 1)))) ∧ (b' 13 = true → b' 4 = true) ∧ (b' 13 = true → b' 11 = true) ∧ (b' 11 = true → b' 6 = true) ∧ (b' 11 = true → b' 10 = true) ∧ (b' 16 = true → b' 4 = true) ∧ (b' 16 = true → b' 6 = true) ∧ (b' 16 = true → b' 10 = true) ∧ (b' 16 = true → b' 13 = true)) ?_ ?_ ?_
          · intro vs
            exact ⟨fun h => Bool.noConfusion h, fun h => Bool.noConfusion h, fun h => Bool.noConfusion h, fun h => Bool.noConfusion h, fun h => Bool.noConfusion h, fun h => Bool.noConfusion h, fun h => Bool.noConfusion h, fun h => Bool.noConfusion h, fun h => Bool.noConfusion h, fun h => Bool.noConfusion h, fun h => Bool.noConfusion h, fun h => Bool.noConfusion h, fun h => Bool.noConfusion h, fun h => Bool.noConfusion h, fun h => Bool.noConfusion h, fun h => Bool.noConfusion h, fun _ => Lib.hid ⟨below_drewN (Below.refl _ _) 1, Nat.le_refl _⟩, fun h => Bool.noConfusion h, fun h => Bool.noConfusion h, fun h => Bool.noConfusion h, fun h => Bool.noConfusion h, fun h => Bool.noConfusion h, fun h => Bool.noConfusion h, fun h => Bool.noConfusion h, fun h => Bool.noConfusion h, fun h => Bool.noConfusion h⟩
          · rintro b' vs w' i op hi hun hall ⟨h0, h1, h2, h3, h4, h5, h6, h7, h8, h9, h10, h11, h12, h14, h15, y13, hB, hG, hE13_4, hE13_11, hE11_6, hE11_10, hW4, hW6, hW10, hW13⟩
            have hil : i < 17 := (List.getElem?_eq_some_iff.1 hi).1
            rcases i with _ | _ | _ | _ | _ | _ | _ | _ | _ | _ | _ | _ | _ | _ | _ | _ | _ | i
            · obtain rfl := Option.some.inj hi
              clear hi hil
              refine wpOp_step rfl (fun K hK => ?_)
              have HKK := Lib.hid hK; clear hK
              simp only [putAll, Act.put, List.setIfInBounds_toArray, List.set_cons_zero, List.set_cons_succ]
              go_simp
              exact HKK.out _ _ ⟨_, by simp only [putAll, Act.put, List.setIfInBounds_toArray, List.set_cons_zero, List.set_cons_succ] <;> rfl, fun _ => rfl, h1, h2, h3, h4, h5, h6, h7, h8, h9, h10, h11, h12, h14, h15, y13, hB, hG, hE13_4, hE13_11, hE11_6, hE11_10, hW4, hW6, hW10, hW13⟩
            · obtain rfl := Option.some.inj hi
              clear hi hil
              refine wpOp_step rfl (fun K hK => ?_)
              have HKK := Lib.hid hK; clear hK
              simp only [putAll, Act.put, List.setIfInBounds_toArray, List.set_cons_zero, List.set_cons_succ]
              go_simp
              exact HKK.out _ _ ⟨_, by simp only [putAll, Act.put, List.setIfInBounds_toArray, List.set_cons_zero, List.set_cons_succ] <;> rfl, h0, fun _ => rfl, h2, h3, h4, h5, h6, h7, h8, h9, h10, h11, h12, h14, h15, y13, hB, hG, hE13_4, hE13_11, hE11_6, hE11_10, hW4, hW6, hW10, hW13⟩
            · obtain rfl := Option.some.inj hi
              clear hi hil
              have d1 := h1 (hall ⟨1, .data⟩ (by simp) rfl)
              refine wpOp_step rfl (fun K hK => ?_)
              have HKK := Lib.hid hK; clear hK
              simp only [putAll, Act.put, List.setIfInBounds_toArray, List.set_cons_zero, List.set_cons_succ]
              go_simp
              exact HKK.out _ _ ⟨_, by simp only [putAll, Act.put, List.setIfInBounds_toArray, List.set_cons_zero, List.set_cons_succ, d1] <;> rfl, h0, h1, fun _ => rfl, h3, h4, h5, h6, h7, h8, h9, h10, h11, h12, h14, h15, y13, hB, hG, hE13_4, hE13_11, hE11_6, hE11_10, hW4, hW6, hW10, hW13⟩
            · obtain rfl := Option.some.inj hi
              clear hi hil
              have d2 := h2 (hall ⟨2, .data⟩ (by simp) rfl)
              refine wpOp_step rfl (fun K hK => ?_)
              have HKK := Lib.hid hK; clear hK
              simp only [putAll, Act.put, List.setIfInBounds_toArray, List.set_cons_zero, List.set_cons_succ]
              go_simp
              exact HKK.out _ _ ⟨_, by simp only [putAll, Act.put, List.setIfInBounds_toArray, List.set_cons_zero, List.set_cons_succ, d2] <;> rfl, h0, h1, h2, fun _ => rfl, h4, h5, h6, h7, h8, h9, h10, h11, h12, h14, h15, y13, hB, hG, hE13_4, hE13_11, hE11_6, hE11_10, hW4, hW6, hW10, hW13⟩
            · obtain rfl := Option.some.inj hi
              clear hi hil
              have hap : b' 16 = false := by
                cases hz : b' 16 with
                | false => rfl
                | true => exact absurd (hW4 hz) (by rw [hun]; decide)
              have d3 := h3 (hall ⟨3, .data⟩ (by simp) rfl)
              obtain ⟨k0, k1, k2, k3, k4, k5, k6⟩ := (HC9.out w' (hB hap).out.1).2.d7
              refine wpOp_step rfl (fun K hK => ?_)
              have HKK := Lib.hid hK; clear hK
              simp only [putAll, Act.put, List.setIfInBounds_toArray, List.set_cons_zero, List.set_cons_succ]
              go_simp
              exact HKK.out _ _ ⟨_, by simp only [putAll, Act.put, List.setIfInBounds_toArray, List.set_cons_zero, List.set_cons_succ, d3] <;> rfl, h0, h1, h2, h3, fun _ => rfl, h5, h6, h7, h8, h9, h10, h11, h12, h14, h15, y13, hB, hG, fun _ => rfl, hE13_11, hE11_6, hE11_10, fun _ => rfl, hW6, hW10, hW13⟩
            · obtain rfl := Option.some.inj hi
              clear hi hil
              refine wpOp_step rfl (fun K hK => ?_)
              have HKK := Lib.hid hK; clear hK
              simp only [putAll, Act.put, List.setIfInBounds_toArray, List.set_cons_zero, List.set_cons_succ]
              go_simp
              exact HKK.out _ _ ⟨_, by simp only [putAll, Act.put, List.setIfInBounds_toArray, List.set_cons_zero, List.set_cons_succ] <;> rfl, h0, h1, h2, h3, h4, fun _ => rfl, h6, h7, h8, h9, h10, h11, h12, h14, h15, y13, hB, hG, hE13_4, hE13_11, hE11_6, hE11_10, hW4, hW6, hW10, hW13⟩
            · obtain rfl := Option.some.inj hi
              clear hi hil
              have hap : b' 16 = false := by
                cases hz : b' 16 with
                | false => rfl
                | true => exact absurd (hW6 hz) (by rw [hun]; decide)
              have d5 := h5 (hall ⟨5, .data⟩ (by simp) rfl)
              have m0 := (HC9.out w' (hB hap).out.1).1.cell 0
              refine wpOp_step rfl (fun K hK => ?_)
              have HKK := Lib.hid hK; clear hK
              simp only [putAll, Act.put, List.setIfInBounds_toArray, List.set_cons_zero, List.set_cons_succ]
              go_simp
              exact HKK.out _ _ ⟨_, by simp only [putAll, Act.put, List.setIfInBounds_toArray, List.set_cons_zero, List.set_cons_succ, d5] <;> rfl, h0, h1, h2, h3, h4, h5, fun _ => rfl, h7, h8, h9, h10, h11, h12, h14, h15, y13, hB, hG, hE13_4, hE13_11, fun _ => rfl, hE11_10, hW4, fun _ => rfl, hW10, hW13⟩
            · obtain rfl := Option.some.inj hi
              clear hi hil
              refine wpOp_step rfl (fun K hK => ?_)
              have HKK := Lib.hid hK; clear hK
              simp only [putAll, Act.put, List.setIfInBounds_toArray, List.set_cons_zero, List.set_cons_succ]
              go_simp
              exact HKK.out _ _ ⟨_, by simp only [putAll, Act.put, List.setIfInBounds_toArray, List.set_cons_zero, List.set_cons_succ] <;> rfl, h0, h1, h2, h3, h4, h5, h6, fun _ => rfl, h8, h9, h10, h11, h12, h14, h15, y13, hB, hG, hE13_4, hE13_11, hE11_6, hE11_10, hW4, hW6, hW10, hW13⟩
            · obtain rfl := Option.some.inj hi
              clear hi hil
              have d7 := h7 (hall ⟨7, .data⟩ (by simp) rfl)
              refine wpOp_step rfl (fun K hK => ?_)
              have HKK := Lib.hid hK; clear hK
              simp only [putAll, Act.put, List.setIfInBounds_toArray, List.set_cons_zero, List.set_cons_succ]
              go_simp
              exact HKK.out _ _ ⟨_, by simp only [putAll, Act.put, List.setIfInBounds_toArray, List.set_cons_zero, List.set_cons_succ, d7] <;> rfl, h0, h1, h2, h3, h4, h5, h6, h7, fun _ => rfl, h9, h10, h11, h12, h14, h15, y13, hB, hG, hE13_4, hE13_11, hE11_6, hE11_10, hW4, hW6, hW10, hW13⟩
            · obtain rfl := Option.some.inj hi
              clear hi hil
              have d8 := h8 (hall ⟨8, .data⟩ (by simp) rfl)
              refine wpOp_step rfl (fun K hK => ?_)
              have HKK := Lib.hid hK; clear hK
              simp only [putAll, Act.put, List.setIfInBounds_toArray, List.set_cons_zero, List.set_cons_succ]
              go_simp
              exact HKK.out _ _ ⟨_, by simp only [putAll, Act.put, List.setIfInBounds_toArray, List.set_cons_zero, List.set_cons_succ, d8] <;> rfl, h0, h1, h2, h3, h4, h5, h6, h7, h8, fun _ => rfl, h10, h11, h12, h14, h15, y13, hB, hG, hE13_4, hE13_11, hE11_6, hE11_10, hW4, hW6, hW10, hW13⟩
            · obtain rfl := Option.some.inj hi
              clear hi hil
              have hap : b' 16 = false := by
                cases hz : b' 16 with
                | false => rfl
                | true => exact absurd (hW10 hz) (by rw [hun]; decide)
              have d9 := h9 (hall ⟨9, .data⟩ (by simp) rfl)
              obtain ⟨k0, k1, k2, k3, k4, k5, k6⟩ := (HC9.out w' (hB hap).out.1).2.d7
              refine wpOp_step rfl (fun K hK => ?_)
              have HKK := Lib.hid hK; clear hK
              simp only [putAll, Act.put, List.setIfInBounds_toArray, List.set_cons_zero, List.set_cons_succ]
              go_simp
              exact HKK.out _ _ ⟨_, by simp only [putAll, Act.put, List.setIfInBounds_toArray, List.set_cons_zero, List.set_cons_succ, d9] <;> rfl, h0, h1, h2, h3, h4, h5, h6, h7, h8, h9, fun _ => rfl, h11, h12, h14, h15, y13, hB, hG, hE13_4, hE13_11, hE11_6, fun _ => rfl, hW4, hW6, fun _ => rfl, hW13⟩
            · obtain rfl := Option.some.inj hi
              clear hi hil
              have d6 := h6 (hall ⟨6, .data⟩ (by simp) rfl)
              have d10 := h10 (hall ⟨10, .data⟩ (by simp) rfl)
              refine wpOp_step rfl (fun K hK => ?_)
              have HKK := Lib.hid hK; clear hK
              simp only [putAll, Act.put, List.setIfInBounds_toArray, List.set_cons_zero, List.set_cons_succ]
              go_simp
              exact HKK.out _ _ ⟨_, by simp only [putAll, Act.put, List.setIfInBounds_toArray, List.set_cons_zero, List.set_cons_succ, d6, d10, E2.out] <;> rfl, h0, h1, h2, h3, h4, h5, h6, h7, h8, h9, h10, fun _ => rfl, h12, h14, h15, y13, hB, hG, hE13_4, fun _ => rfl, fun _ => hall ⟨6, .data⟩ (by simp) rfl, fun _ => hall ⟨10, .data⟩ (by simp) rfl, hW4, hW6, hW10, hW13⟩
            · obtain rfl := Option.some.inj hi
              clear hi hil
              refine wpOp_step rfl (fun K hK => ?_)
              have HKK := Lib.hid hK; clear hK
              simp only [putAll, Act.put, List.setIfInBounds_toArray, List.set_cons_zero, List.set_cons_succ]
              go_simp
              exact HKK.out _ _ ⟨_, by simp only [putAll, Act.put, List.setIfInBounds_toArray, List.set_cons_zero, List.set_cons_succ] <;> rfl, h0, h1, h2, h3, h4, h5, h6, h7, h8, h9, h10, h11, fun _ => rfl, h14, h15, y13, hB, hG, hE13_4, hE13_11, hE11_6, hE11_10, hW4, hW6, hW10, hW13⟩
            · obtain rfl := Option.some.inj hi
              clear hi hil
              have hap : b' 16 = false := by
                cases hz : b' 16 with
                | false => rfl
                | true => exact absurd (hW13 hz) (by rw [hun]; decide)
              have d4 := h4 (hall ⟨4, .data⟩ (by simp) rfl)
              have d11 := h11 (hall ⟨11, .data⟩ (by simp) rfl)
              have d12 := h12 (hall ⟨12, .data⟩ (by simp) rfl)
              refine wpOp_step rfl (fun K hK => ?_)
              have HKK := Lib.hid hK; clear hK
              simp only [putAll, Act.put, List.setIfInBounds_toArray, List.set_cons_zero, List.set_cons_succ]
              go_simp
              refine (HLAY.out _ _ _ _ HROW.out.1 HROW.out.2.1 HROW.out.2.2 w' (hB hap).out.1).mono ?_
              rintro e w2' ⟨u2, rfl, ho2, hb2⟩
              exact HKK.out _ _ ⟨_, by simp only [putAll, Act.put, List.setIfInBounds_toArray, List.set_cons_zero, List.set_cons_succ, d4, d11, d12] <;> rfl, h0, h1, h2, h3, h4, h5, h6, h7, h8, h9, h10, h11, h12, h14, h15, fun _ _ => Lib.hid (ho2), fun ha => Lib.hid ⟨(hB ha).out.1.trans (hb2.mono (hB ha).out.2), Nat.le_trans (hB ha).out.2 hb2.size⟩, fun h => absurd (show b' 16 = true from h) (by rw [hap]; decide), fun _ => hall ⟨4, .data⟩ (by simp) rfl, fun _ => hall ⟨11, .data⟩ (by simp) rfl, hE11_6, hE11_10, hW4, hW6, hW10, fun _ => rfl⟩
            · obtain rfl := Option.some.inj hi
              clear hi hil
              have d0 := h0 (hall ⟨0, .data⟩ (by simp) rfl)
              refine wpOp_step rfl (fun K hK => ?_)
              have HKK := Lib.hid hK; clear hK
              simp only [putAll, Act.put, List.setIfInBounds_toArray, List.set_cons_zero, List.set_cons_succ]
              go_simp
              exact HKK.out _ _ ⟨_, by simp only [putAll, Act.put, List.setIfInBounds_toArray, List.set_cons_zero, List.set_cons_succ, d0] <;> rfl, h0, h1, h2, h3, h4, h5, h6, h7, h8, h9, h10, h11, h12, fun _ => rfl, h15, y13, hB, hG, hE13_4, hE13_11, hE11_6, hE11_10, hW4, hW6, hW10, hW13⟩
            · obtain rfl := Option.some.inj hi
              clear hi hil
              have d14 := h14 (hall ⟨14, .data⟩ (by simp) rfl)
              refine wpOp_step rfl (fun K hK => ?_)
              have HKK := Lib.hid hK; clear hK
              simp only [putAll, Act.put, List.setIfInBounds_toArray, List.set_cons_zero, List.set_cons_succ]
              go_simp
              exact HKK.out _ _ ⟨_, by simp only [putAll, Act.put, List.setIfInBounds_toArray, List.set_cons_zero, List.set_cons_succ, d14] <;> rfl, h0, h1, h2, h3, h4, h5, h6, h7, h8, h9, h10, h11, h12, h14, fun _ => rfl, y13, hB, hG, hE13_4, hE13_11, hE11_6, hE11_10, hW4, hW6, hW10, hW13⟩
            · obtain rfl := Option.some.inj hi
              clear hi hil
              have hap : b' 16 = false := hun
              have o13 := y13 (hall ⟨13, .data⟩ (by simp) rfl) hap
              have d15 := h15 (hall ⟨15, .data⟩ (by simp) rfl)
              obtain ⟨ua, uc, e13, ho13⟩ := o13.out
              have hbk := (HC9.out w' (hB hap).out.1).2
              obtain ⟨k0, k1, k2, k3, k4, k5, k6⟩ := hbk.d7
              have f0 := hbk.free 0
              have lg := hbk.lt
              refine wpOp_step rfl (fun K hK => ?_)
              have HKK := Lib.hid hK; clear hK
              simp only [putAll, Act.put, List.setIfInBounds_toArray, List.set_cons_zero, List.set_cons_succ]
              go_simp
              exact HKK.out _ _ ⟨undef, by simp only [putAll, Act.put, List.setIfInBounds_toArray, List.set_cons_zero, List.set_cons_succ, d15, e13] <;> rfl, h0, h1, h2, h3, h4, h5, h6, h7, h8, h9, h10, h11, h12, h14, h15, fun _ h => Bool.noConfusion h, fun h => Bool.noConfusion h, fun _ => Lib.hid (⟨_, ua, uc, rfl, (hB hap).out.1, ho13⟩), hE13_4, hE13_11, hE11_6, hE11_10, fun _ => hE13_4 (hall ⟨13, .data⟩ (by simp) rfl), fun _ => hE11_6 (hE13_11 (hall ⟨13, .data⟩ (by simp) rfl)), fun _ => hE11_10 (hE13_11 (hall ⟨13, .data⟩ (by simp) rfl)), fun _ => hall ⟨13, .data⟩ (by simp) rfl⟩
            · omega
          · rintro b' vs wz hall ⟨h0, h1, h2, h3, h4, h5, h6, h7, h8, h9, h10, h11, h12, h14, h15, y13, hB, hG, hE13_4, hE13_11, hE11_6, hE11_10, hW4, hW6, hW10, hW13⟩
            have d0 := h0 (hall 0 (by simp))
            have d1 := h1 (hall 1 (by simp))
            have d2 := h2 (hall 2 (by simp))
            have d3 := h3 (hall 3 (by simp))
            have d4 := h4 (hall 4 (by simp))
            have d5 := h5 (hall 5 (by simp))
            have d6 := h6 (hall 6 (by simp))
            have d7 := h7 (hall 7 (by simp))
            have d8 := h8 (hall 8 (by simp))
            have d9 := h9 (hall 9 (by simp))
            have d10 := h10 (hall 10 (by simp))
            have d11 := h11 (hall 11 (by simp))
            have d12 := h12 (hall 12 (by simp))
            have d14 := h14 (hall 14 (by simp))
            have d15 := h15 (hall 15 (by simp))
            have GG := hG (hall 16 (by simp))
            simp only [putAll, Act.put, List.setIfInBounds_toArray, List.set_cons_zero, List.set_cons_succ, d0, d1, d2, d3, d4, d5, d6, d7, d8, d9, d10, d11, d12, d14, d15]
            clear hall h0 d0 h1 d1 h2 d2 h3 d3 h4 d4 h5 d5 h6 d6 h7 d7 h8 d8 h9 d9 h10 d10 h11 d11 h12 d12 h14 d14 h15 d15 y13 hB hG hE13_4 hE13_11 hE11_6 hE11_10 hW4 hW6 hW10 hW13
            obtain ⟨A, ua, uc, hA, hbA, hoA⟩ := GG.out
            have HS : Hid (∃ sv2, RX (fun j => T j ∨ (w.heap.size ≤ j ∧ j < wz.heap.size)) wz g { x with safe := crashK keep torn cut x.size x.safe x.L (k + 1), sv := sv2 } ∧ Keep (fun j => ¬ T j) w wz) := by
              have hsz : wr.heap.size ≤ wz.heap.size := by rw [hA]; have := H2.out.1.size; have := hbA.size; simp [World.setCell]; omega
              have hwz : w.heap.size ≤ w2.heap.size := Nat.le_trans hw.out.2.size H2.out.1.size
              refine ⟨.slice ua m uc, ?_, ?_⟩
              · rw [hA]
                refine RX.put (x := { x with safe := crashK keep torn cut x.size x.safe x.L k, sv := .slice sa m sc }) (hkw.out.grow hbA) (owns_base hoA (Nat.zero_le _)) (fun k hk => hk.imp id fun h => ⟨h.1, by rw [← hA]; omega⟩) (fun k e => .inr ?_)
                have hl := World.ownsRow.lt hoA k e
                exact ⟨Nat.le_trans hwz hl.1, by simpa [World.setCell] using hl.2⟩
              · rw [hA]
                exact ((hw.out.2.trans (Keep.of_below H2.out.1)).trans (Keep.of_below hbA)).trans (Keep.setCell _ _ _ (by simpa using HTG0.out))
            clear GG HC9 HLAY hkw hA hbA hoA
            have hn9 := HZ.out.few
            rw [HN.out] at hn9
            go_wp2_with fail
            obtain ⟨sv2, hs1, hs2⟩ := HS.out
            exact ⟨⟨k + 1, cc, sv2, by omega, by go_num, rfl, HCC.out, hs1, hs2⟩, by simp [intOf]; omega⟩
    · have hd : decide ((k : Int) < (n : Int)) = false := by simp; omega
      have hkn : k = n := by omega
      rw [hkn] at hw
      clear hkn
      have f2 := hw.out.1.blk.free 2
      have f5 := hw.out.1.blk.free 5
      have f6 := hw.out.1.blk.free 6
      have lg := hw.out.1.blk.lt
      go_upto_region 15 with fail
      obtain ⟨W1, hW1⟩ : ∃ WW, wr.setCell ⟨g, 2, none⟩ (.slice none 0 0) = WW := ⟨_, rfl⟩
      have hk1 : Keep (fun k => k ≠ g) wr W1 := by rw [← hW1]; exact Keep.setCell _ _ _ (by simp)
      have hb1 : Blk W1 g 31 (cellsD sv' x.size (.slice none 0 0) x.left x.done x.armed x.down) := by rw [← hW1]; exact hw.out.1.blk.set 2 (.slice none 0 0)
      have HK1 := Lib.hid (And.intro hk1 hb1)
      rw [hW1]
      clear hW1 f2 f5 f6 lg d0 d1 d2 d3 d4 d5 d6 hk1 hb1
      obtain ⟨d0, d1, d2, d3, d4, d5, d6⟩ := HK1.out.2.d7
      have f5 := HK1.out.2.free 5
      have lg := HK1.out.2.lt
      go_upto_region 16 with fail
      obtain ⟨W2, hW2⟩ : ∃ WW, W1.setCell ⟨g, 5, none⟩ (.bool false) = WW := ⟨_, rfl⟩
      have hk2 : Keep (fun k => k ≠ g) wr W2 := by rw [← hW2]; exact HK1.out.1.trans (Keep.setCell _ _ _ (by simp))
      have hb2 : Blk W2 g 31 (cellsD sv' x.size (.slice none 0 0) x.left x.done false x.down) := by rw [← hW2]; exact HK1.out.2.set 5 (.bool false)
      have HK2 := Lib.hid (And.intro hk2 hb2)
      rw [hW2]
      clear hW2 f5 lg d0 d1 d2 d3 d4 d5 d6 hk2 hb2
      obtain ⟨d0, d1, d2, d3, d4, d5, d6⟩ := HK2.out.2.d7
      have f6 := HK2.out.2.free 6
      have lg := HK2.out.2.lt
      go_wp2_with fail
      go_end0
      have hk3 : Keep (fun k => k ≠ g) wr (W2.setCell ⟨g, 6, none⟩ (.bool false)) := HK2.out.1.trans (Keep.setCell _ _ _ (by simp))
      have hr := hw.out.1
      refine ⟨(fun j => T j ∨ (w.heap.size ≤ j ∧ j < wr.heap.size)), sv', rfl, ⟨hr.tg, HK2.out.2.set 6 (.bool false), owns_keep hr.safe hk3 fun k e => fun hg => owns_off hr.safe hr.blk (by decide) (hg ▸ e), hr.ts, World.ownsRow_nil _ _ _ _, fun k e => (by cases e), fun y hy => (by cases hy)⟩, ⟨hw.out.2.trans (hk3.mono fun j hj e => hj (e ▸ HTG0.out)), fun k hk => hk.imp id fun h => h.1⟩, ?_⟩
      rintro h0 k (hk | hk)
      · exact Nat.lt_of_lt_of_le (h0 k hk) (Nat.le_trans hw.out.2.size hk3.size)
      · exact Nat.lt_of_lt_of_le hk.2 hk3.size
end Go.Proofs.Ytohmkmekdnfkoaa
