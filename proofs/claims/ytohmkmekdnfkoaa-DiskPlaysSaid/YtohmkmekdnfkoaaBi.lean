/- Layer 12: the law DiskKeeps, over what package disk answers. -/
import Derived.Test.YtohmkmekdnfkoaaBh
namespace Go.Proofs.Ytohmkmekdnfkoaa
open Go.RowKit
variable {At : (Nat → Prop) → World → Nat → DM → Prop}
theorem tchV_at (t : Nat → Bool) {j : Nat} (h : j < 4) : (tchV t)[j]? = some (.bool (t j)) := by
  match j, h with
  | 0, _ => rfl
  | 1, _ => rfl
  | 2, _ => rfl
  | 3, _ => rfl
theorem tchV_set (t : Nat → Bool) {q : Nat} (h : q < 4) : (tchV t).setIfInBounds q (.bool true) = tchV (setT t q) := by
  match q, h with
  | 0, _ => rfl
  | 1, _ => rfl
  | 2, _ => rfl
  | 3, _ => rfl
theorem OwnB.open {w : World} {base : Nat} {v : Value} {E : List Int} (h : OwnB w base v E) (h0 : 0 < E.length) : ∃ b c, v = .slice (some ⟨b, 0, none⟩) E.length c ∧ E.length ≤ c := by
  obtain ⟨_, ⟨_, he⟩ | ⟨g, cap, cur, rfl, _, _, hc, _⟩⟩ := h
  · omega
  · exact ⟨_, _, rfl, hc⟩
theorem secS_ok {S : List Int} (h : OkB S) {i : Nat} : OkB (secS S i) := fun x hx => h x (List.mem_of_mem_drop (List.mem_of_mem_take hx))
/-- A sector of a row is a row. -/
theorem OwnB.cut {w : World} {base b n c : Nat} {E : List Int} (h : OwnB w base (.slice (some ⟨b, 0, none⟩) n c) E) {i : Nat} (hi : 16 * i + 16 ≤ E.length) (c' : Nat) : RowB w (.slice (some ⟨b, 16 * i, none⟩) 16 c') (secS E i) := by
  have hl : (secS E i).length = 16 := by unfold secS; rw [List.length_take, List.length_drop]; omega
  rcases h.row with ⟨e, _⟩ | ⟨_, _, e, he⟩ | ⟨b', o, c2, e, h1, h2⟩
  · cases e
  · rw [he] at hi; simp at hi
  · cases e
    refine .inr (.inr ⟨b, 16 * i, c', by rw [hl], h1, fun k x hx => ?_⟩)
    unfold secS at hx
    rw [List.getElem?_take] at hx
    split at hx
    · rw [List.getElem?_drop] at hx
      have := h2 _ _ hx
      rw [Nat.zero_add] at this
      exact this
    · cases hx
theorem Keep.set4 {S : Nat → Prop} (w : World) (g a b c d : Nat) (x y z u : Value) (h : ¬ S g) : Keep S w ((((w.setCell ⟨g, a, none⟩ x).setCell ⟨g, b, none⟩ y).setCell ⟨g, c, none⟩ z).setCell ⟨g, d, none⟩ u) :=
  (((Keep.setCell w ⟨g, a, none⟩ x h).trans (Keep.setCell _ ⟨g, b, none⟩ y h)).trans (Keep.setCell _ ⟨g, c, none⟩ z h)).trans (Keep.setCell _ ⟨g, d, none⟩ u h)
set_option maxHeartbeats 4000000 in
set_option maxRecDepth 100000 in
theorem keeps_law (H : DiskOk At) (HA : AwakeOk) (s : Value) (L : List OpM) (w : World) (hr : RowO w s L) (hl : L.length ≤ 9223372036854775807) (hop : ∀ p ∈ L, OkO p ∧ CapS p.kv ∧ (p.keep.length ≠ 0 → ∀ k, p.kv.ownBlock = some k → k < w.heap.size)) : Calls Try.prog 4 #[s] w fun e w' => e = .returned (.bool true) ∧ Below w.heap.size w w' := by
  have HR := Lib.hid hr
  have HOP := Lib.hid hop
  have HN := Lib.hid (H.new 4 16 w (by unfold diskOkI; omega))
  have HL := Lib.hid hl
  have O0 : Hid (OkD (newD 4 16) 0) := OkD.new (by unfold diskOkI; omega) (by decide) (by omega)
  have hmk : ∀ W : World, (Instr.makeSlice 28 (.int .i64 64) (.int .i64 64)).run Try.prog W = .ok (.slice (some ⟨W.heap.size, 0, none⟩) 64 64) (W.alloc (.cells (bytV (fillL 0 64 0)).toArray 5)) := fun W => by
    obtain ⟨i, hi, hz0, hz1, hz2⟩ := info_parts infoB
    have h := run_make (P := Try.prog) W 28 5 i _ Try.underlying28 hi hz0 .i64 .i64 64 64 (by decide) (by decide) (by rw [hz2]; decide) (by decide)
    rw [hz1] at h
    exact h.trans (by rw [show (64 : Int).toNat = 64 from rfl, fill_made 0 64])
  have HMK := Lib.hid hmk
  obtain ⟨ao, ac, rfl⟩ := hr.shape
  clear hr hl hop hmk
  go_enter Try.func4, Try.ntmps4
  go_wp2_with fail
  refine (HN.out).mono ?_
  rintro e w1 ⟨T0, g, rfl, ha, hb, hf⟩
  have S0 : Hid (St At w w1 T0 g (newD 4 16)) := ⟨ha, hf, hb⟩
  clear ha hb hf HN
  go_wp2_with fail
  refine (small_c _ L 60 w1 (HR.out.on S0.out.below) HL.out (by unfold rngI; omega)).mono ?_
  rintro e w2 ⟨rfl, hb⟩
  have S1 := Lib.hid (S0.out.grow H hb)
  clear hb S0
  cases hsm : smallI L 60
  · go_wp2_with fail
    refine (HA w2).mono ?_
    rintro e w3 ⟨rfl, hb⟩
    have HB9 : Hid (Below w.heap.size w w3) := S1.out.below.trans (hb.mono S1.out.below.size)
    clear hb
    go_wp2_with fail
    go_ret
    exact ⟨rfl, HB9.out⟩
  have hsm' : L.length ≤ 60 ∧ ∀ p ∈ L, p.keep.length ≤ 100 := by
    unfold smallI at hsm
    rw [Bool.and_eq_true, decide_eq_true_eq, List.all_eq_true] at hsm
    exact ⟨by omega, fun p hp => by simpa using hsm.1 p hp⟩
  have HKL := Lib.hid hsm'.2
  have hlen := hsm'.1
  clear hsm'
  obtain ⟨n, hn⟩ : ∃ n, L.length = n := ⟨_, rfl⟩
  rw [hn] at HR hlen ⊢
  have HNN := Lib.hid (And.intro hn hlen)
  clear hn hlen
  have hmk2 := HMK.out w2
  obtain ⟨w3, hw3⟩ : ∃ WW, w2.alloc (.cells (bytV (fillL 0 64 0)).toArray 5) = WW := ⟨_, rfl⟩
  rw [hw3] at hmk2
  have S2 : Hid (St At w w3 T0 g (newD 4 16) ∧ OwnB w3 w.heap.size (.slice (some ⟨w2.heap.size, 0, none⟩) 64 64) (newD 4 16).safe ∧ ∀ k, (Value.slice (some ⟨w2.heap.size, 0, none⟩) 64 64).ownBlock = some k → ¬ T0 k) := by
    rw [← hw3]
    refine ⟨S1.out.grow H ((Below.refl _ _).alloc (Nat.le_refl _) _), OwnB.blk _ S1.out.below.size (Blk.new _ _ _) rfl rfl (by decide), fun k e hT => ?_⟩
    cases e
    exact Nat.lt_irrefl _ (H.lt S1.out.at' hT)
  obtain ⟨G2, hG2⟩ : ∃ G, w2.heap.size = G := ⟨_, rfl⟩
  rw [hG2] at S2 hmk2
  clear hw3 hG2 S1 HMK
  go_upto_region 6 with fail
  obtain ⟨G, hG⟩ : ∃ G, w3.heap.size = G := ⟨_, rfl⟩
  obtain ⟨w4, hw4⟩ : ∃ WW, w3.alloc (.cells #[.bool false, .bool false, .bool false, .bool false] 43) = WW := ⟨_, rfl⟩
  have S3 : Hid (KpW At w w4 T0 g G (.slice (some ⟨G2, 0, none⟩) 64 64) (newD 4 16).safe (fun _ => false) (newD 4 16) 0 ∧ KpI (newD 4 16).safe (fun _ => false) (newD 4 16)) := by
    rw [← hw4, ← hG]
    have hb : Below w3.heap.size w3 (w3.alloc (.cells #[.bool false, .bool false, .bool false, .bool false] 43)) := (Below.refl _ _).alloc (Nat.le_refl _) _
    exact ⟨⟨S2.out.1.grow H hb, O0.out, S2.out.2.1.grow hb, S2.out.2.2, Blk.new _ _ _, fun hT => Nat.lt_irrefl _ (H.lt S2.out.1.at' hT), S2.out.1.below.size, rfl, rfl⟩, rfl, fun x hx => (by cases hx)⟩
  rw [hw4, hG]
  clear hw4 hG S2 hmk2 O0
  go_wp2_with fail
  go_loopw [4, 27] (fun s4 s27 wr => ∃ k : Nat, k ≤ n ∧ s27 = .int .i64 (k : Int) ∧ Hid (∃ T d S t, KpW At w wr T g G s4 S t d k ∧ KpI S t d)) (fun _ s27 _ => n - (intOf s27).toNat)
  case atStart => exact ⟨0, by omega, rfl, T0, _, _, _, S3.out⟩
  case round =>
    obtain ⟨k, hk, rfl, hw⟩ := hrel
    obtain ⟨T, d, S, t, W0⟩ := hw.out
    have W := Lib.hid W0
    clear W0 hw S3
    by_cases hlt : k < n
    · have hd : decide ((k : Int) < (n : Int)) = true := by simp; omega
      have hki : (k : Int) < (n : Int) := by omega
      have ek : wrap64 ((k : Int) + 1) = ((k + 1 : Nat) : Int) := by have := HNN.out; rw [wrapR _ (by omega) (by omega)]; omega
      obtain ⟨sb, so, rfl, hsb, hsc⟩ := RowO.addr HR.out (by rw [HNN.out.1]; omega)
      have HSC : Hid (sb < w.heap.size ∧ ∀ i p, L[i]? = some p → OpAt w sb (so + i * 7) p) := ⟨hsb, hsc⟩
      clear hsb hsc
      go_upto_block 1 with fail
      go_cut [4, 7, 8, 9, 27] from 27 to 119 (fun s4 s7 s8 s9 s27 wr => s27 = .int .i64 (k : Int) ∧ Hid (∃ T d S t, KpW At w wr T g G s4 S t d (k + 1) ∧ KpI S t d))
      case first =>
        obtain ⟨hsb, hsc⟩ := HSC.out
        obtain ⟨p, hp⟩ : ∃ p, L[k]? = some p := ⟨_, List.getElem?_eq_getElem (by rw [HNN.out.1]; exact hlt)⟩
        have hmem := List.mem_of_getElem? hp
        obtain ⟨c0, c1, c2, c3, c4, c5, c6⟩ := (hsc k p hp).on W.out.1.st.below hsb
        obtain ⟨ks, kc, hkv⟩ := (HR.out.2 p hmem).shape
        obtain ⟨kn, hkn⟩ : ∃ x, p.keep.length = x := ⟨_, rfl⟩
        have HOK : Hid ((k : Int) ≤ 1000 ∧ rngI p.n ∧ OkB (List.replicate 16 p.fill) ∧ rngI p.torn ∧ rngI p.cut) := ⟨by have := HNN.out.2; omega, (HOP.out p hmem).1.n, okB_rep (HOP.out p hmem).1.fill, (HOP.out p hmem).1.torn, (HOP.out p hmem).1.cut⟩
        have HKV : Hid (RowT w (.slice ks kn kc) p.keep ∧ CapS (.slice ks kn kc) ∧ p.keep.length ≤ 1000 ∧ (p.keep.length ≠ 0 → ∀ k, (Value.slice ks kn kc).ownBlock = some k → k < w.heap.size)) := by
          rw [← hkn, ← hkv]
          exact ⟨HR.out.2 p hmem, (HOP.out p hmem).2.1, by have := HKL.out p hmem; omega, (HOP.out p hmem).2.2⟩
        rw [hkv, hkn] at c4
        clear hsb hsc hkv hkn hmem hp
        go_upto_block 2 with fail
        obtain ⟨wx, hwx⟩ : ∃ WW, wr.alloc (.cells #[.int .i64 p.kind, .int .i64 p.n, .int .u8 p.fill, .int .i64 p.short, .slice ks kn kc, .int .i64 p.torn, .int .i64 p.cut] 34) = WW := ⟨_, rfl⟩
        obtain ⟨Go, hGo⟩ : ∃ G, wr.heap.size = G := ⟨_, rfl⟩
        have X : Hid (KpW At w wx T g G u4 S t d k ∧ Blk wx Go 34 #[.int .i64 p.kind, .int .i64 p.n, .int .u8 p.fill, .int .i64 p.short, .slice ks kn kc, .int .i64 p.torn, .int .i64 p.cut] ∧ ¬ T Go ∧ KpI S t d) := by
          rw [← hwx, ← hGo]
          exact ⟨W.out.1.grow H ((Below.refl _ _).alloc (Nat.le_refl _) _), Blk.new _ _ _, fun hT => Nat.lt_irrefl _ (H.lt W.out.1.st.at' hT), W.out.2⟩
        rw [hwx, hGo]
        clear hwx hGo W c0 c1 c2 c3 c4 c5 c6
        have k0 : wx.cell? ⟨Go, 0, none⟩ = some (.int .i64 p.kind) := X.out.2.1.cell 0
        generalize p.kind = pk at *
        by_cases h1 : pk = 1
        · subst h1
          have HXG : Hid (∀ A, Below wx.heap.size wx A → KpW At w A T g G u4 S t d k ∧ Blk A Go 34 #[.int .i64 1, .int .i64 p.n, .int .u8 p.fill, .int .i64 p.short, .slice ks kn kc, .int .i64 p.torn, .int .i64 p.cut]) := fun A hA => ⟨X.out.1.grow H hA, X.out.2.1.grow hA⟩
          obtain ⟨er, her⟩ : ∃ er, (writeD d p.n (List.replicate 16 p.fill)).2 = er := ⟨_, rfl⟩
          have HER := Lib.hid her
          go_upto_region 11 with fail
          by_cases h30 : er = 30
          · have hb0 : (er != 30) = false := by simp [h30]
            have HNO : Hid ((writeD d p.n (List.replicate 16 p.fill)).1 = d) := write_none (.inl (her.trans h30))
            clear her h30
            refine wp_region_put3 (by kernel_rfl) (by kernel_rfl) (by kernel_rfl) (fun b' vs w' => (b' 0 = true → vs 0 = .pointer (some ⟨g, 0, none⟩)) ∧ (b' 1 = true → vs 1 = .pointer (some ⟨Go, 1, none⟩)) ∧ (b' 2 = true → vs 2 = .int .i64 p.n) ∧ (b' 3 = true → vs 3 = .pointer (some ⟨Go, 2, none⟩)) ∧ (b' 4 = true → vs 4 = .int .u8 p.fill) ∧ (b' 7 = true → vs 7 = .bool false) ∧ (b' 8 = true → vs 8 = .bool false) ∧ (b' 9 = true → vs 9 = undef) ∧ (b' 10 = true → vs 10 = undef) ∧ (b' 11 = true → vs 11 = undef) ∧ (b' 12 = true → vs 12 = .bool false) ∧ (b' 13 = true → vs 13 = .bool false) ∧ (b' 14 = true → vs 14 = undef) ∧ (b' 15 = true → vs 15 = undef) ∧ (b' 16 = true → vs 16 = undef) ∧ (b' 17 = true → vs 17 = .bool false) ∧ (b' 5 = true → b' 6 = false → Hid (OwnB w' wx.heap.size (vs 5) (List.replicate 16 p.fill) ∧ ∀ k, Value.ownBlock (vs 5) = some k → ¬ T k)) ∧ (b' 6 = false → Hid (Below wx.heap.size wx w' ∧ wx.heap.size ≤ w'.heap.size)) ∧ (b' 6 = true → Hid ((vs 6) = .int .i64 er ∧ ∃ T2, KpW At w w' T2 g G u4 S t (writeD d p.n (List.replicate 16 p.fill)).1 (k + 1) ∧ Blk w' Go 34 #[.int .i64 1, .int .i64 p.n, .int .u8 p.fill, .int .i64 p.short, .slice ks kn kc, .int .i64 p.torn, .int .i64 p.cut] ∧ ¬ T2 Go)) ∧ (b' 5 = true → b' 4 = true) ∧ (b' 13 = true → b' 12 = true) ∧ (b' 12 = true → b' 8 = true) ∧ (b' 8 = true → b' 7 = true) ∧ (b' 7 = true → b' 6 = true) ∧ (b' 6 = true → b' 2 = true) ∧ (b' 6 = true → b' 4 = true) ∧ (b' 6 = true → b' 5 = true)) ?_ ?_ ?_
            · intro vs
              exact ⟨fun h => Bool.noConfusion h, fun h => Bool.noConfusion h, fun h => Bool.noConfusion h, fun h => Bool.noConfusion h, fun h => Bool.noConfusion h, fun h => Bool.noConfusion h, fun h => Bool.noConfusion h, fun h => Bool.noConfusion h, fun h => Bool.noConfusion h, fun h => Bool.noConfusion h, fun h => Bool.noConfusion h, fun h => Bool.noConfusion h, fun h => Bool.noConfusion h, fun h => Bool.noConfusion h, fun h => Bool.noConfusion h, fun h => Bool.noConfusion h, fun h => Bool.noConfusion h, fun _ => Lib.hid ⟨below_drewN (Below.refl _ _) 1, Nat.le_refl _⟩, fun h => Bool.noConfusion h, fun h => Bool.noConfusion h, fun h => Bool.noConfusion h, fun h => Bool.noConfusion h, fun h => Bool.noConfusion h, fun h => Bool.noConfusion h, fun h => Bool.noConfusion h, fun h => Bool.noConfusion h, fun h => Bool.noConfusion h⟩
            · rintro b' vs w' i op hi hun hall ⟨h0, h1, h2, h3, h4, h7, h8, h9, h10, h11, h12, h13, h14, h15, h16, h17, y5, hB, hG, hE5_4, hE13_12, hE12_8, hE8_7, hE7_6, hW2, hW4, hW5⟩
              have hil : i < 18 := (List.getElem?_eq_some_iff.1 hi).1
              rcases i with _ | _ | _ | _ | _ | _ | _ | _ | _ | _ | _ | _ | _ | _ | _ | _ | _ | _ | i
              · obtain rfl := Option.some.inj hi
                clear hi hil
                refine StepOk.plain rfl (fun K hK => ?_)
                have HKK := Lib.hid hK; clear hK
                simp only [putAll, Act.put, List.setIfInBounds_toArray, List.set_cons_zero, List.set_cons_succ]
                go_simp
                exact HKK.out _ _ ⟨_, by simp only [putAll, Act.put, List.setIfInBounds_toArray, List.set_cons_zero, List.set_cons_succ] <;> rfl, fun _ => rfl, h1, h2, h3, h4, h7, h8, h9, h10, h11, h12, h13, h14, h15, h16, h17, y5, hB, hG, hE5_4, hE13_12, hE12_8, hE8_7, hE7_6, hW2, hW4, hW5⟩
              · obtain rfl := Option.some.inj hi
                clear hi hil
                refine StepOk.plain rfl (fun K hK => ?_)
                have HKK := Lib.hid hK; clear hK
                simp only [putAll, Act.put, List.setIfInBounds_toArray, List.set_cons_zero, List.set_cons_succ]
                go_simp
                exact HKK.out _ _ ⟨_, by simp only [putAll, Act.put, List.setIfInBounds_toArray, List.set_cons_zero, List.set_cons_succ] <;> rfl, h0, fun _ => rfl, h2, h3, h4, h7, h8, h9, h10, h11, h12, h13, h14, h15, h16, h17, y5, hB, hG, hE5_4, hE13_12, hE12_8, hE8_7, hE7_6, hW2, hW4, hW5⟩
              · obtain rfl := Option.some.inj hi
                clear hi hil
                have hap : b' 6 = false := by
                  cases hz : b' 6 with
                  | false => rfl
                  | true => exact absurd (hW2 hz) (by rw [hun]; decide)
                have d1 := h1 (hall ⟨1, .data⟩ (by simp) rfl)
                have m1 : w'.cell? ⟨Go, 1, none⟩ = some (.int .i64 p.n) := (HXG.out w' (hB hap).out.1).2.cell 1
                refine StepOk.plain rfl (fun K hK => ?_)
                have HKK := Lib.hid hK; clear hK
                simp only [putAll, Act.put, List.setIfInBounds_toArray, List.set_cons_zero, List.set_cons_succ]
                go_simp
                exact HKK.out _ _ ⟨_, by simp only [putAll, Act.put, List.setIfInBounds_toArray, List.set_cons_zero, List.set_cons_succ, d1] <;> rfl, h0, h1, fun _ => rfl, h3, h4, h7, h8, h9, h10, h11, h12, h13, h14, h15, h16, h17, y5, hB, hG, hE5_4, hE13_12, hE12_8, hE8_7, hE7_6, fun _ => rfl, hW4, hW5⟩
              · obtain rfl := Option.some.inj hi
                clear hi hil
                refine StepOk.plain rfl (fun K hK => ?_)
                have HKK := Lib.hid hK; clear hK
                simp only [putAll, Act.put, List.setIfInBounds_toArray, List.set_cons_zero, List.set_cons_succ]
                go_simp
                exact HKK.out _ _ ⟨_, by simp only [putAll, Act.put, List.setIfInBounds_toArray, List.set_cons_zero, List.set_cons_succ] <;> rfl, h0, h1, h2, fun _ => rfl, h4, h7, h8, h9, h10, h11, h12, h13, h14, h15, h16, h17, y5, hB, hG, hE5_4, hE13_12, hE12_8, hE8_7, hE7_6, hW2, hW4, hW5⟩
              · obtain rfl := Option.some.inj hi
                clear hi hil
                have hap : b' 6 = false := by
                  cases hz : b' 6 with
                  | false => rfl
                  | true => exact absurd (hW4 hz) (by rw [hun]; decide)
                have d3 := h3 (hall ⟨3, .data⟩ (by simp) rfl)
                have m2 : w'.cell? ⟨Go, 2, none⟩ = some (.int .u8 p.fill) := (HXG.out w' (hB hap).out.1).2.cell 2
                refine StepOk.plain rfl (fun K hK => ?_)
                have HKK := Lib.hid hK; clear hK
                simp only [putAll, Act.put, List.setIfInBounds_toArray, List.set_cons_zero, List.set_cons_succ]
                go_simp
                exact HKK.out _ _ ⟨_, by simp only [putAll, Act.put, List.setIfInBounds_toArray, List.set_cons_zero, List.set_cons_succ, d3] <;> rfl, h0, h1, h2, h3, fun _ => rfl, h7, h8, h9, h10, h11, h12, h13, h14, h15, h16, h17, y5, hB, hG, fun _ => rfl, hE13_12, hE12_8, hE8_7, hE7_6, hW2, fun _ => rfl, hW5⟩
              · obtain rfl := Option.some.inj hi
                clear hi hil
                have hap : b' 6 = false := by
                  cases hz : b' 6 with
                  | false => rfl
                  | true => exact absurd (hW5 hz) (by rw [hun]; decide)
                have d4 := h4 (hall ⟨4, .data⟩ (by simp) rfl)
                refine StepOk.plain rfl (fun K hK => ?_)
                have HKK := Lib.hid hK; clear hK
                simp only [putAll, Act.put, List.setIfInBounds_toArray, List.set_cons_zero, List.set_cons_succ]
                go_simp
                refine (fill_c 16 p.fill (by decide) w').mono ?_
                rintro e w2 ⟨v2, rfl, ho2, hb2⟩
                exact HKK.out _ _ ⟨_, by simp only [putAll, Act.put, List.setIfInBounds_toArray, List.set_cons_zero, List.set_cons_succ, d4] <;> rfl, h0, h1, h2, h3, h4, h7, h8, h9, h10, h11, h12, h13, h14, h15, h16, h17, fun _ _ => Lib.hid (⟨owns_base ho2 (hB hap).out.2, (HXG.out w' (hB hap).out.1).1.st.off H ho2⟩), fun ha => Lib.hid ⟨(hB ha).out.1.trans (hb2.mono (hB ha).out.2), Nat.le_trans (hB ha).out.2 hb2.size⟩, fun h => absurd (show b' 6 = true from h) (by rw [hap]; decide), fun _ => hall ⟨4, .data⟩ (by simp) rfl, hE13_12, hE12_8, hE8_7, hE7_6, hW2, hW4, fun _ => rfl⟩
              · obtain rfl := Option.some.inj hi
                clear hi hil
                have hap : b' 6 = false := hun
                have d0 := h0 (hall ⟨0, .data⟩ (by simp) rfl)
                have d2 := h2 (hall ⟨2, .data⟩ (by simp) rfl)
                have o5 := y5 (hall ⟨5, .data⟩ (by simp) rfl) hap
                refine StepOk.plain rfl (fun K hK => ?_)
                have HKK := Lib.hid hK; clear hK
                simp only [putAll, Act.put, List.setIfInBounds_toArray, List.set_cons_zero, List.set_cons_succ]
                go_simp
                refine (H.write T w' g d p.n _ _ (HXG.out w' (hB hap).out.1).1.st.at' ((HXG.out w' (hB hap).out.1).1.ok.mono HOK.out.1) HOK.out.2.1 o5.out.1.row o5.out.1.cap (by simp) HOK.out.2.2.1 o5.out.2).mono ?_
                rintro e w2 ⟨T2, rfl, ha2, ht2⟩
                rw [HER.out]
                exact HKK.out _ _ ⟨_, by simp only [putAll, Act.put, List.setIfInBounds_toArray, List.set_cons_zero, List.set_cons_succ, d0, d2] <;> rfl, h0, h1, h2, h3, h4, h7, h8, h9, h10, h11, h12, h13, h14, h15, h16, h17, fun _ h => Bool.noConfusion h, fun h => Bool.noConfusion h, fun _ => Lib.hid (⟨rfl, T2, (HXG.out w' (hB hap).out.1).1.next ht2 ha2 ((HXG.out w' (hB hap).out.1).1.ok.write p.n HOK.out.2.2.1) (writeD_same _ _ _).2, (ht2.blk (HXG.out w' (hB hap).out.1).2 X.out.2.2.1).1, (ht2.blk (HXG.out w' (hB hap).out.1).2 X.out.2.2.1).2⟩), hE5_4, hE13_12, hE12_8, hE8_7, fun _ => rfl, fun _ => hall ⟨2, .data⟩ (by simp) rfl, fun _ => hE5_4 (hall ⟨5, .data⟩ (by simp) rfl), fun _ => hall ⟨5, .data⟩ (by simp) rfl⟩
              · obtain rfl := Option.some.inj hi
                clear hi hil
                have gB := hG (hall ⟨6, .data⟩ (by simp) rfl)
                have g6 := gB.out.1
                refine StepOk.plain rfl (fun K hK => ?_)
                have HKK := Lib.hid hK; clear hK
                simp only [putAll, Act.put, List.setIfInBounds_toArray, List.set_cons_zero, List.set_cons_succ]
                go_simp
                exact HKK.out _ _ ⟨_, by simp only [putAll, Act.put, List.setIfInBounds_toArray, List.set_cons_zero, List.set_cons_succ, g6] <;> rfl, h0, h1, h2, h3, h4, fun _ => rfl, h8, h9, h10, h11, h12, h13, h14, h15, h16, h17, y5, hB, hG, hE5_4, hE13_12, hE12_8, fun _ => rfl, fun _ => hall ⟨6, .data⟩ (by simp) rfl, hW2, hW4, hW5⟩
              · obtain rfl := Option.some.inj hi
                clear hi hil
                have d7 := h7 (hall ⟨7, .data⟩ (by simp) rfl)
                refine StepOk.plain rfl (fun K hK => ?_)
                have HKK := Lib.hid hK; clear hK
                simp only [putAll, Act.put, List.setIfInBounds_toArray, List.set_cons_zero, List.set_cons_succ]
                go_simp
                exact HKK.out _ _ ⟨_, by simp only [putAll, Act.put, List.setIfInBounds_toArray, List.set_cons_zero, List.set_cons_succ, d7] <;> rfl, h0, h1, h2, h3, h4, h7, fun _ => rfl, h9, h10, h11, h12, h13, h14, h15, h16, h17, y5, hB, hG, hE5_4, hE13_12, fun _ => rfl, fun _ => hall ⟨7, .data⟩ (by simp) rfl, hE7_6, hW2, hW4, hW5⟩
              · obtain rfl := Option.some.inj hi
                clear hi hil
                have d8 := h8 (hall ⟨8, .guard⟩ (by simp) rfl)
                refine StepOk.off 8 true rfl rfl d8 ?_
                exact ⟨undef, rfl, h0, h1, h2, h3, h4, h7, h8, fun _ => rfl, h10, h11, h12, h13, h14, h15, h16, h17, y5, hB, hG, hE5_4, hE13_12, hE12_8, hE8_7, hE7_6, hW2, hW4, hW5⟩
              · obtain rfl := Option.some.inj hi
                clear hi hil
                have d8 := h8 (hall ⟨8, .guard⟩ (by simp) rfl)
                refine StepOk.off 8 true rfl rfl d8 ?_
                exact ⟨undef, rfl, h0, h1, h2, h3, h4, h7, h8, h9, fun _ => rfl, h11, h12, h13, h14, h15, h16, h17, y5, hB, hG, hE5_4, hE13_12, hE12_8, hE8_7, hE7_6, hW2, hW4, hW5⟩
              · obtain rfl := Option.some.inj hi
                clear hi hil
                have d8 := h8 (hall ⟨8, .guard⟩ (by simp) rfl)
                refine StepOk.off 8 true rfl rfl d8 ?_
                exact ⟨undef, rfl, h0, h1, h2, h3, h4, h7, h8, h9, h10, fun _ => rfl, h12, h13, h14, h15, h16, h17, y5, hB, hG, hE5_4, hE13_12, hE12_8, hE8_7, hE7_6, hW2, hW4, hW5⟩
              · obtain rfl := Option.some.inj hi
                clear hi hil
                have d8 := h8 (hall ⟨8, .data⟩ (by simp) rfl)
                have d11 := h11 (hall ⟨11, .data⟩ (by simp) rfl)
                refine StepOk.plain rfl (fun K hK => ?_)
                have HKK := Lib.hid hK; clear hK
                simp only [putAll, Act.put, List.setIfInBounds_toArray, List.set_cons_zero, List.set_cons_succ]
                go_simp
                exact HKK.out _ _ ⟨_, by simp only [putAll, Act.put, List.setIfInBounds_toArray, List.set_cons_zero, List.set_cons_succ, d8, d11] <;> rfl, h0, h1, h2, h3, h4, h7, h8, h9, h10, h11, fun _ => rfl, h13, h14, h15, h16, h17, y5, hB, hG, hE5_4, fun _ => rfl, fun _ => hall ⟨8, .data⟩ (by simp) rfl, hE8_7, hE7_6, hW2, hW4, hW5⟩
              · obtain rfl := Option.some.inj hi
                clear hi hil
                have d12 := h12 (hall ⟨12, .data⟩ (by simp) rfl)
                refine StepOk.plain rfl (fun K hK => ?_)
                have HKK := Lib.hid hK; clear hK
                simp only [putAll, Act.put, List.setIfInBounds_toArray, List.set_cons_zero, List.set_cons_succ]
                go_simp
                exact HKK.out _ _ ⟨_, by simp only [putAll, Act.put, List.setIfInBounds_toArray, List.set_cons_zero, List.set_cons_succ, d12] <;> rfl, h0, h1, h2, h3, h4, h7, h8, h9, h10, h11, h12, fun _ => rfl, h14, h15, h16, h17, y5, hB, hG, hE5_4, fun _ => hall ⟨12, .data⟩ (by simp) rfl, hE12_8, hE8_7, hE7_6, hW2, hW4, hW5⟩
              · obtain rfl := Option.some.inj hi
                clear hi hil
                have d13 := h13 (hall ⟨13, .guard⟩ (by simp) rfl)
                refine StepOk.off 13 true rfl rfl d13 ?_
                exact ⟨undef, rfl, h0, h1, h2, h3, h4, h7, h8, h9, h10, h11, h12, h13, fun _ => rfl, h15, h16, h17, y5, hB, hG, hE5_4, hE13_12, hE12_8, hE8_7, hE7_6, hW2, hW4, hW5⟩
              · obtain rfl := Option.some.inj hi
                clear hi hil
                have d13 := h13 (hall ⟨13, .guard⟩ (by simp) rfl)
                refine StepOk.off 13 true rfl rfl d13 ?_
                exact ⟨undef, rfl, h0, h1, h2, h3, h4, h7, h8, h9, h10, h11, h12, h13, h14, fun _ => rfl, h16, h17, y5, hB, hG, hE5_4, hE13_12, hE12_8, hE8_7, hE7_6, hW2, hW4, hW5⟩
              · obtain rfl := Option.some.inj hi
                clear hi hil
                have d13 := h13 (hall ⟨13, .guard⟩ (by simp) rfl)
                refine StepOk.off 13 true rfl rfl d13 ?_
                exact ⟨undef, rfl, h0, h1, h2, h3, h4, h7, h8, h9, h10, h11, h12, h13, h14, h15, fun _ => rfl, h17, y5, hB, hG, hE5_4, hE13_12, hE12_8, hE8_7, hE7_6, hW2, hW4, hW5⟩
              · obtain rfl := Option.some.inj hi
                clear hi hil
                have d13 := h13 (hall ⟨13, .data⟩ (by simp) rfl)
                have d16 := h16 (hall ⟨16, .data⟩ (by simp) rfl)
                refine StepOk.plain rfl (fun K hK => ?_)
                have HKK := Lib.hid hK; clear hK
                simp only [putAll, Act.put, List.setIfInBounds_toArray, List.set_cons_zero, List.set_cons_succ]
                go_simp
                exact HKK.out _ _ ⟨_, by simp only [putAll, Act.put, List.setIfInBounds_toArray, List.set_cons_zero, List.set_cons_succ, d13, d16] <;> rfl, h0, h1, h2, h3, h4, h7, h8, h9, h10, h11, h12, h13, h14, h15, h16, fun _ => rfl, y5, hB, hG, hE5_4, hE13_12, hE12_8, hE8_7, hE7_6, hW2, hW4, hW5⟩
              · omega
            · rintro b' vs wz hall ⟨h0, h1, h2, h3, h4, h7, h8, h9, h10, h11, h12, h13, h14, h15, h16, h17, y5, hB, hG, hE5_4, hE13_12, hE12_8, hE8_7, hE7_6, hW2, hW4, hW5⟩
              have d0 := h0 (hall 0 (by simp))
              have d1 := h1 (hall 1 (by simp))
              have d2 := h2 (hall 2 (by simp))
              have d3 := h3 (hall 3 (by simp))
              have d4 := h4 (hall 4 (by simp))
              have d7 := h7 (hall 7 (by simp))
              have d8 := h8 (hall 8 (by simp))
              have d9 := h9 (hall 9 (by simp))
              have d10 := h10 (hall 10 (by simp))
              have d11 := h11 (hall 11 (by simp))
              have d12 := h12 (hall 12 (by simp))
              have d13 := h13 (hall 13 (by simp))
              have d14 := h14 (hall 14 (by simp))
              have d15 := h15 (hall 15 (by simp))
              have d16 := h16 (hall 16 (by simp))
              have d17 := h17 (hall 17 (by simp))
              have GG := hG (hall 6 (by simp))
              simp only [putAll, Act.put, List.setIfInBounds_toArray, List.set_cons_zero, List.set_cons_succ, d0, d1, d2, d3, d4, d7, d8, d9, d10, d11, d12, d13, d14, d15, d16, d17]
              clear hall h0 d0 h1 d1 h2 d2 h3 d3 h4 d4 h7 d7 h8 d8 h9 d9 h10 d10 h11 d11 h12 d12 h13 d13 h14 d14 h15 d15 h16 d16 h17 d17 y5 hB hG hE5_4 hE13_12 hE12_8 hE8_7 hE7_6 hW2 hW4 hW5
              obtain ⟨_, T2, Y, _, _⟩ := GG.out
              have V : Hid (∃ T d S t, KpW At w wz T g G u4 S t d (k + 1) ∧ KpI S t d) := ⟨T2, _, _, _, Y, by rw [HNO.out]; exact X.out.2.2.2⟩
              clear Y GG
              go_wp2_with fail
              go_meet
              exact ⟨rfl, V⟩
          · have hb0 : (er != 30) = true := by simp [h30]
            clear her h30
            by_cases hn0 : p.n ≥ 0
            · have d0 : decide (p.n ≥ 0) = true := by simpa using hn0
              by_cases hn4 : p.n < 4
              · have d4 : decide (p.n < 4) = true := by simpa using hn4
                refine wp_region_put3 (by kernel_rfl) (by kernel_rfl) (by kernel_rfl) (fun b' vs w' => (b' 0 = true → vs 0 = .pointer (some ⟨g, 0, none⟩)) ∧ (b' 1 = true → vs 1 = .pointer (some ⟨Go, 1, none⟩)) ∧ (b' 2 = true → vs 2 = .int .i64 p.n) ∧ (b' 3 = true → vs 3 = .pointer (some ⟨Go, 2, none⟩)) ∧ (b' 4 = true → vs 4 = .int .u8 p.fill) ∧ (b' 7 = true → vs 7 = .bool true) ∧ (b' 8 = true → vs 8 = .bool true) ∧ (b' 9 = true → vs 9 = .pointer (some ⟨Go, 1, none⟩)) ∧ (b' 10 = true → vs 10 = .int .i64 p.n) ∧ (b' 11 = true → vs 11 = .bool true) ∧ (b' 12 = true → vs 12 = .bool true) ∧ (b' 13 = true → vs 13 = .bool true) ∧ (b' 14 = true → vs 14 = .pointer (some ⟨Go, 1, none⟩)) ∧ (b' 15 = true → vs 15 = .int .i64 p.n) ∧ (b' 16 = true → vs 16 = .bool true) ∧ (b' 17 = true → vs 17 = .bool true) ∧ (b' 5 = true → b' 6 = false → Hid (OwnB w' wx.heap.size (vs 5) (List.replicate 16 p.fill) ∧ ∀ k, Value.ownBlock (vs 5) = some k → ¬ T k)) ∧ (b' 6 = false → Hid (Below wx.heap.size wx w' ∧ wx.heap.size ≤ w'.heap.size)) ∧ (b' 6 = true → Hid ((vs 6) = .int .i64 er ∧ ∃ T2, KpW At w w' T2 g G u4 S t (writeD d p.n (List.replicate 16 p.fill)).1 (k + 1) ∧ Blk w' Go 34 #[.int .i64 1, .int .i64 p.n, .int .u8 p.fill, .int .i64 p.short, .slice ks kn kc, .int .i64 p.torn, .int .i64 p.cut] ∧ ¬ T2 Go)) ∧ (b' 5 = true → b' 4 = true) ∧ (b' 13 = true → b' 12 = true) ∧ (b' 12 = true → b' 8 = true) ∧ (b' 8 = true → b' 7 = true) ∧ (b' 7 = true → b' 6 = true) ∧ (b' 6 = true → b' 2 = true) ∧ (b' 6 = true → b' 4 = true) ∧ (b' 6 = true → b' 5 = true)) ?_ ?_ ?_
                · intro vs
                  exact ⟨fun h => Bool.noConfusion h, fun h => Bool.noConfusion h, fun h => Bool.noConfusion h, fun h => Bool.noConfusion h, fun h => Bool.noConfusion h, fun h => Bool.noConfusion h, fun h => Bool.noConfusion h, fun h => Bool.noConfusion h, fun h => Bool.noConfusion h, fun h => Bool.noConfusion h, fun h => Bool.noConfusion h, fun h => Bool.noConfusion h, fun h => Bool.noConfusion h, fun h => Bool.noConfusion h, fun h => Bool.noConfusion h, fun h => Bool.noConfusion h, fun h => Bool.noConfusion h, fun _ => Lib.hid ⟨below_drewN (Below.refl _ _) 1, Nat.le_refl _⟩, fun h => Bool.noConfusion h, fun h => Bool.noConfusion h, fun h => Bool.noConfusion h, fun h => Bool.noConfusion h, fun h => Bool.noConfusion h, fun h => Bool.noConfusion h, fun h => Bool.noConfusion h, fun h => Bool.noConfusion h, fun h => Bool.noConfusion h⟩
                · rintro b' vs w' i op hi hun hall ⟨h0, h1, h2, h3, h4, h7, h8, h9, h10, h11, h12, h13, h14, h15, h16, h17, y5, hB, hG, hE5_4, hE13_12, hE12_8, hE8_7, hE7_6, hW2, hW4, hW5⟩
                  have hil : i < 18 := (List.getElem?_eq_some_iff.1 hi).1
                  rcases i with _ | _ | _ | _ | _ | _ | _ | _ | _ | _ | _ | _ | _ | _ | _ | _ | _ | _ | i
                  · obtain rfl := Option.some.inj hi
                    clear hi hil
                    refine StepOk.plain rfl (fun K hK => ?_)
                    have HKK := Lib.hid hK; clear hK
                    simp only [putAll, Act.put, List.setIfInBounds_toArray, List.set_cons_zero, List.set_cons_succ]
                    go_simp
                    exact HKK.out _ _ ⟨_, by simp only [putAll, Act.put, List.setIfInBounds_toArray, List.set_cons_zero, List.set_cons_succ] <;> rfl, fun _ => rfl, h1, h2, h3, h4, h7, h8, h9, h10, h11, h12, h13, h14, h15, h16, h17, y5, hB, hG, hE5_4, hE13_12, hE12_8, hE8_7, hE7_6, hW2, hW4, hW5⟩
                  · obtain rfl := Option.some.inj hi
                    clear hi hil
                    refine StepOk.plain rfl (fun K hK => ?_)
                    have HKK := Lib.hid hK; clear hK
                    simp only [putAll, Act.put, List.setIfInBounds_toArray, List.set_cons_zero, List.set_cons_succ]
                    go_simp
                    exact HKK.out _ _ ⟨_, by simp only [putAll, Act.put, List.setIfInBounds_toArray, List.set_cons_zero, List.set_cons_succ] <;> rfl, h0, fun _ => rfl, h2, h3, h4, h7, h8, h9, h10, h11, h12, h13, h14, h15, h16, h17, y5, hB, hG, hE5_4, hE13_12, hE12_8, hE8_7, hE7_6, hW2, hW4, hW5⟩
                  · obtain rfl := Option.some.inj hi
                    clear hi hil
                    have hap : b' 6 = false := by
                      cases hz : b' 6 with
                      | false => rfl
                      | true => exact absurd (hW2 hz) (by rw [hun]; decide)
                    have d1 := h1 (hall ⟨1, .data⟩ (by simp) rfl)
                    have m1 : w'.cell? ⟨Go, 1, none⟩ = some (.int .i64 p.n) := (HXG.out w' (hB hap).out.1).2.cell 1
                    refine StepOk.plain rfl (fun K hK => ?_)
                    have HKK := Lib.hid hK; clear hK
                    simp only [putAll, Act.put, List.setIfInBounds_toArray, List.set_cons_zero, List.set_cons_succ]
                    go_simp
                    exact HKK.out _ _ ⟨_, by simp only [putAll, Act.put, List.setIfInBounds_toArray, List.set_cons_zero, List.set_cons_succ, d1] <;> rfl, h0, h1, fun _ => rfl, h3, h4, h7, h8, h9, h10, h11, h12, h13, h14, h15, h16, h17, y5, hB, hG, hE5_4, hE13_12, hE12_8, hE8_7, hE7_6, fun _ => rfl, hW4, hW5⟩
                  · obtain rfl := Option.some.inj hi
                    clear hi hil
                    refine StepOk.plain rfl (fun K hK => ?_)
                    have HKK := Lib.hid hK; clear hK
                    simp only [putAll, Act.put, List.setIfInBounds_toArray, List.set_cons_zero, List.set_cons_succ]
                    go_simp
                    exact HKK.out _ _ ⟨_, by simp only [putAll, Act.put, List.setIfInBounds_toArray, List.set_cons_zero, List.set_cons_succ] <;> rfl, h0, h1, h2, fun _ => rfl, h4, h7, h8, h9, h10, h11, h12, h13, h14, h15, h16, h17, y5, hB, hG, hE5_4, hE13_12, hE12_8, hE8_7, hE7_6, hW2, hW4, hW5⟩
                  · obtain rfl := Option.some.inj hi
                    clear hi hil
                    have hap : b' 6 = false := by
                      cases hz : b' 6 with
                      | false => rfl
                      | true => exact absurd (hW4 hz) (by rw [hun]; decide)
                    have d3 := h3 (hall ⟨3, .data⟩ (by simp) rfl)
                    have m2 : w'.cell? ⟨Go, 2, none⟩ = some (.int .u8 p.fill) := (HXG.out w' (hB hap).out.1).2.cell 2
                    refine StepOk.plain rfl (fun K hK => ?_)
                    have HKK := Lib.hid hK; clear hK
                    simp only [putAll, Act.put, List.setIfInBounds_toArray, List.set_cons_zero, List.set_cons_succ]
                    go_simp
                    exact HKK.out _ _ ⟨_, by simp only [putAll, Act.put, List.setIfInBounds_toArray, List.set_cons_zero, List.set_cons_succ, d3] <;> rfl, h0, h1, h2, h3, fun _ => rfl, h7, h8, h9, h10, h11, h12, h13, h14, h15, h16, h17, y5, hB, hG, fun _ => rfl, hE13_12, hE12_8, hE8_7, hE7_6, hW2, fun _ => rfl, hW5⟩
                  · obtain rfl := Option.some.inj hi
                    clear hi hil
                    have hap : b' 6 = false := by
                      cases hz : b' 6 with
                      | false => rfl
                      | true => exact absurd (hW5 hz) (by rw [hun]; decide)
                    have d4 := h4 (hall ⟨4, .data⟩ (by simp) rfl)
                    refine StepOk.plain rfl (fun K hK => ?_)
                    have HKK := Lib.hid hK; clear hK
                    simp only [putAll, Act.put, List.setIfInBounds_toArray, List.set_cons_zero, List.set_cons_succ]
                    go_simp
                    refine (fill_c 16 p.fill (by decide) w').mono ?_
                    rintro e w2 ⟨v2, rfl, ho2, hb2⟩
                    exact HKK.out _ _ ⟨_, by simp only [putAll, Act.put, List.setIfInBounds_toArray, List.set_cons_zero, List.set_cons_succ, d4] <;> rfl, h0, h1, h2, h3, h4, h7, h8, h9, h10, h11, h12, h13, h14, h15, h16, h17, fun _ _ => Lib.hid (⟨owns_base ho2 (hB hap).out.2, (HXG.out w' (hB hap).out.1).1.st.off H ho2⟩), fun ha => Lib.hid ⟨(hB ha).out.1.trans (hb2.mono (hB ha).out.2), Nat.le_trans (hB ha).out.2 hb2.size⟩, fun h => absurd (show b' 6 = true from h) (by rw [hap]; decide), fun _ => hall ⟨4, .data⟩ (by simp) rfl, hE13_12, hE12_8, hE8_7, hE7_6, hW2, hW4, fun _ => rfl⟩
                  · obtain rfl := Option.some.inj hi
                    clear hi hil
                    have hap : b' 6 = false := hun
                    have d0 := h0 (hall ⟨0, .data⟩ (by simp) rfl)
                    have d2 := h2 (hall ⟨2, .data⟩ (by simp) rfl)
                    have o5 := y5 (hall ⟨5, .data⟩ (by simp) rfl) hap
                    refine StepOk.plain rfl (fun K hK => ?_)
                    have HKK := Lib.hid hK; clear hK
                    simp only [putAll, Act.put, List.setIfInBounds_toArray, List.set_cons_zero, List.set_cons_succ]
                    go_simp
                    refine (H.write T w' g d p.n _ _ (HXG.out w' (hB hap).out.1).1.st.at' ((HXG.out w' (hB hap).out.1).1.ok.mono HOK.out.1) HOK.out.2.1 o5.out.1.row o5.out.1.cap (by simp) HOK.out.2.2.1 o5.out.2).mono ?_
                    rintro e w2 ⟨T2, rfl, ha2, ht2⟩
                    rw [HER.out]
                    exact HKK.out _ _ ⟨_, by simp only [putAll, Act.put, List.setIfInBounds_toArray, List.set_cons_zero, List.set_cons_succ, d0, d2] <;> rfl, h0, h1, h2, h3, h4, h7, h8, h9, h10, h11, h12, h13, h14, h15, h16, h17, fun _ h => Bool.noConfusion h, fun h => Bool.noConfusion h, fun _ => Lib.hid (⟨rfl, T2, (HXG.out w' (hB hap).out.1).1.next ht2 ha2 ((HXG.out w' (hB hap).out.1).1.ok.write p.n HOK.out.2.2.1) (writeD_same _ _ _).2, (ht2.blk (HXG.out w' (hB hap).out.1).2 X.out.2.2.1).1, (ht2.blk (HXG.out w' (hB hap).out.1).2 X.out.2.2.1).2⟩), hE5_4, hE13_12, hE12_8, hE8_7, fun _ => rfl, fun _ => hall ⟨2, .data⟩ (by simp) rfl, fun _ => hE5_4 (hall ⟨5, .data⟩ (by simp) rfl), fun _ => hall ⟨5, .data⟩ (by simp) rfl⟩
                  · obtain rfl := Option.some.inj hi
                    clear hi hil
                    have gB := hG (hall ⟨6, .data⟩ (by simp) rfl)
                    have g6 := gB.out.1
                    refine StepOk.plain rfl (fun K hK => ?_)
                    have HKK := Lib.hid hK; clear hK
                    simp only [putAll, Act.put, List.setIfInBounds_toArray, List.set_cons_zero, List.set_cons_succ]
                    go_simp
                    exact HKK.out _ _ ⟨_, by simp only [putAll, Act.put, List.setIfInBounds_toArray, List.set_cons_zero, List.set_cons_succ, g6] <;> rfl, h0, h1, h2, h3, h4, fun _ => rfl, h8, h9, h10, h11, h12, h13, h14, h15, h16, h17, y5, hB, hG, hE5_4, hE13_12, hE12_8, fun _ => rfl, fun _ => hall ⟨6, .data⟩ (by simp) rfl, hW2, hW4, hW5⟩
                  · obtain rfl := Option.some.inj hi
                    clear hi hil
                    have d7 := h7 (hall ⟨7, .data⟩ (by simp) rfl)
                    refine StepOk.plain rfl (fun K hK => ?_)
                    have HKK := Lib.hid hK; clear hK
                    simp only [putAll, Act.put, List.setIfInBounds_toArray, List.set_cons_zero, List.set_cons_succ]
                    go_simp
                    exact HKK.out _ _ ⟨_, by simp only [putAll, Act.put, List.setIfInBounds_toArray, List.set_cons_zero, List.set_cons_succ, d7] <;> rfl, h0, h1, h2, h3, h4, h7, fun _ => rfl, h9, h10, h11, h12, h13, h14, h15, h16, h17, y5, hB, hG, hE5_4, hE13_12, fun _ => rfl, fun _ => hall ⟨7, .data⟩ (by simp) rfl, hE7_6, hW2, hW4, hW5⟩
                  · obtain rfl := Option.some.inj hi
                    clear hi hil
                    have d8 := h8 (hall ⟨8, .guard⟩ (by simp) rfl)
                    refine StepOk.on 8 true rfl rfl d8 (fun K hK => ?_)
                    have HKK := Lib.hid hK; clear hK
                    simp only [putAll, Act.put, List.setIfInBounds_toArray, List.set_cons_zero, List.set_cons_succ]
                    go_simp
                    exact HKK.out _ _ ⟨_, by simp only [putAll, Act.put, List.setIfInBounds_toArray, List.set_cons_zero, List.set_cons_succ, d8] <;> rfl, h0, h1, h2, h3, h4, h7, h8, fun _ => rfl, h10, h11, h12, h13, h14, h15, h16, h17, y5, hB, hG, hE5_4, hE13_12, hE12_8, hE8_7, hE7_6, hW2, hW4, hW5⟩
                  · obtain rfl := Option.some.inj hi
                    clear hi hil
                    have d9 := h9 (hall ⟨9, .data⟩ (by simp) rfl)
                    have d8 := h8 (hall ⟨8, .guard⟩ (by simp) rfl)
                    have b8 := hall ⟨8, .guard⟩ (by simp) rfl
                    have b6 := hE7_6 (hE8_7 b8)
                    obtain ⟨T2, _, gb, _⟩ := (hG b6).out.2
                    have m1 : w'.cell? ⟨Go, 1, none⟩ = some (.int .i64 p.n) := gb.cell 1
                    clear b6 b8 gb
                    refine StepOk.on 8 true rfl rfl d8 (fun K hK => ?_)
                    have HKK := Lib.hid hK; clear hK
                    simp only [putAll, Act.put, List.setIfInBounds_toArray, List.set_cons_zero, List.set_cons_succ]
                    go_simp
                    exact HKK.out _ _ ⟨_, by simp only [putAll, Act.put, List.setIfInBounds_toArray, List.set_cons_zero, List.set_cons_succ, d9, d8] <;> rfl, h0, h1, h2, h3, h4, h7, h8, h9, fun _ => rfl, h11, h12, h13, h14, h15, h16, h17, y5, hB, hG, hE5_4, hE13_12, hE12_8, hE8_7, hE7_6, hW2, hW4, hW5⟩
                  · obtain rfl := Option.some.inj hi
                    clear hi hil
                    have d10 := h10 (hall ⟨10, .data⟩ (by simp) rfl)
                    have d8 := h8 (hall ⟨8, .guard⟩ (by simp) rfl)
                    refine StepOk.on 8 true rfl rfl d8 (fun K hK => ?_)
                    have HKK := Lib.hid hK; clear hK
                    simp only [putAll, Act.put, List.setIfInBounds_toArray, List.set_cons_zero, List.set_cons_succ]
                    go_simp
                    exact HKK.out _ _ ⟨_, by simp only [putAll, Act.put, List.setIfInBounds_toArray, List.set_cons_zero, List.set_cons_succ, d10, d8] <;> rfl, h0, h1, h2, h3, h4, h7, h8, h9, h10, fun _ => rfl, h12, h13, h14, h15, h16, h17, y5, hB, hG, hE5_4, hE13_12, hE12_8, hE8_7, hE7_6, hW2, hW4, hW5⟩
                  · obtain rfl := Option.some.inj hi
                    clear hi hil
                    have d8 := h8 (hall ⟨8, .data⟩ (by simp) rfl)
                    have d11 := h11 (hall ⟨11, .data⟩ (by simp) rfl)
                    refine StepOk.plain rfl (fun K hK => ?_)
                    have HKK := Lib.hid hK; clear hK
                    simp only [putAll, Act.put, List.setIfInBounds_toArray, List.set_cons_zero, List.set_cons_succ]
                    go_simp
                    exact HKK.out _ _ ⟨_, by simp only [putAll, Act.put, List.setIfInBounds_toArray, List.set_cons_zero, List.set_cons_succ, d8, d11] <;> rfl, h0, h1, h2, h3, h4, h7, h8, h9, h10, h11, fun _ => rfl, h13, h14, h15, h16, h17, y5, hB, hG, hE5_4, fun _ => rfl, fun _ => hall ⟨8, .data⟩ (by simp) rfl, hE8_7, hE7_6, hW2, hW4, hW5⟩
                  · obtain rfl := Option.some.inj hi
                    clear hi hil
                    have d12 := h12 (hall ⟨12, .data⟩ (by simp) rfl)
                    refine StepOk.plain rfl (fun K hK => ?_)
                    have HKK := Lib.hid hK; clear hK
                    simp only [putAll, Act.put, List.setIfInBounds_toArray, List.set_cons_zero, List.set_cons_succ]
                    go_simp
                    exact HKK.out _ _ ⟨_, by simp only [putAll, Act.put, List.setIfInBounds_toArray, List.set_cons_zero, List.set_cons_succ, d12] <;> rfl, h0, h1, h2, h3, h4, h7, h8, h9, h10, h11, h12, fun _ => rfl, h14, h15, h16, h17, y5, hB, hG, hE5_4, fun _ => hall ⟨12, .data⟩ (by simp) rfl, hE12_8, hE8_7, hE7_6, hW2, hW4, hW5⟩
                  · obtain rfl := Option.some.inj hi
                    clear hi hil
                    have d13 := h13 (hall ⟨13, .guard⟩ (by simp) rfl)
                    refine StepOk.on 13 true rfl rfl d13 (fun K hK => ?_)
                    have HKK := Lib.hid hK; clear hK
                    simp only [putAll, Act.put, List.setIfInBounds_toArray, List.set_cons_zero, List.set_cons_succ]
                    go_simp
                    exact HKK.out _ _ ⟨_, by simp only [putAll, Act.put, List.setIfInBounds_toArray, List.set_cons_zero, List.set_cons_succ, d13] <;> rfl, h0, h1, h2, h3, h4, h7, h8, h9, h10, h11, h12, h13, fun _ => rfl, h15, h16, h17, y5, hB, hG, hE5_4, hE13_12, hE12_8, hE8_7, hE7_6, hW2, hW4, hW5⟩
                  · obtain rfl := Option.some.inj hi
                    clear hi hil
                    have d14 := h14 (hall ⟨14, .data⟩ (by simp) rfl)
                    have d13 := h13 (hall ⟨13, .guard⟩ (by simp) rfl)
                    have b8 := hE12_8 (hE13_12 (hall ⟨13, .guard⟩ (by simp) rfl))
                    have b6 := hE7_6 (hE8_7 b8)
                    obtain ⟨T2, _, gb, _⟩ := (hG b6).out.2
                    have m1 : w'.cell? ⟨Go, 1, none⟩ = some (.int .i64 p.n) := gb.cell 1
                    clear b6 b8 gb
                    refine StepOk.on 13 true rfl rfl d13 (fun K hK => ?_)
                    have HKK := Lib.hid hK; clear hK
                    simp only [putAll, Act.put, List.setIfInBounds_toArray, List.set_cons_zero, List.set_cons_succ]
                    go_simp
                    exact HKK.out _ _ ⟨_, by simp only [putAll, Act.put, List.setIfInBounds_toArray, List.set_cons_zero, List.set_cons_succ, d14, d13] <;> rfl, h0, h1, h2, h3, h4, h7, h8, h9, h10, h11, h12, h13, h14, fun _ => rfl, h16, h17, y5, hB, hG, hE5_4, hE13_12, hE12_8, hE8_7, hE7_6, hW2, hW4, hW5⟩
                  · obtain rfl := Option.some.inj hi
                    clear hi hil
                    have d15 := h15 (hall ⟨15, .data⟩ (by simp) rfl)
                    have d13 := h13 (hall ⟨13, .guard⟩ (by simp) rfl)
                    refine StepOk.on 13 true rfl rfl d13 (fun K hK => ?_)
                    have HKK := Lib.hid hK; clear hK
                    simp only [putAll, Act.put, List.setIfInBounds_toArray, List.set_cons_zero, List.set_cons_succ]
                    go_simp
                    exact HKK.out _ _ ⟨_, by simp only [putAll, Act.put, List.setIfInBounds_toArray, List.set_cons_zero, List.set_cons_succ, d15, d13] <;> rfl, h0, h1, h2, h3, h4, h7, h8, h9, h10, h11, h12, h13, h14, h15, fun _ => rfl, h17, y5, hB, hG, hE5_4, hE13_12, hE12_8, hE8_7, hE7_6, hW2, hW4, hW5⟩
                  · obtain rfl := Option.some.inj hi
                    clear hi hil
                    have d13 := h13 (hall ⟨13, .data⟩ (by simp) rfl)
                    have d16 := h16 (hall ⟨16, .data⟩ (by simp) rfl)
                    refine StepOk.plain rfl (fun K hK => ?_)
                    have HKK := Lib.hid hK; clear hK
                    simp only [putAll, Act.put, List.setIfInBounds_toArray, List.set_cons_zero, List.set_cons_succ]
                    go_simp
                    exact HKK.out _ _ ⟨_, by simp only [putAll, Act.put, List.setIfInBounds_toArray, List.set_cons_zero, List.set_cons_succ, d13, d16] <;> rfl, h0, h1, h2, h3, h4, h7, h8, h9, h10, h11, h12, h13, h14, h15, h16, fun _ => rfl, y5, hB, hG, hE5_4, hE13_12, hE12_8, hE8_7, hE7_6, hW2, hW4, hW5⟩
                  · omega
                · rintro b' vs wz hall ⟨h0, h1, h2, h3, h4, h7, h8, h9, h10, h11, h12, h13, h14, h15, h16, h17, y5, hB, hG, hE5_4, hE13_12, hE12_8, hE8_7, hE7_6, hW2, hW4, hW5⟩
                  have d0 := h0 (hall 0 (by simp))
                  have d1 := h1 (hall 1 (by simp))
                  have d2 := h2 (hall 2 (by simp))
                  have d3 := h3 (hall 3 (by simp))
                  have d4 := h4 (hall 4 (by simp))
                  have d7 := h7 (hall 7 (by simp))
                  have d8 := h8 (hall 8 (by simp))
                  have d9 := h9 (hall 9 (by simp))
                  have d10 := h10 (hall 10 (by simp))
                  have d11 := h11 (hall 11 (by simp))
                  have d12 := h12 (hall 12 (by simp))
                  have d13 := h13 (hall 13 (by simp))
                  have d14 := h14 (hall 14 (by simp))
                  have d15 := h15 (hall 15 (by simp))
                  have d16 := h16 (hall 16 (by simp))
                  have d17 := h17 (hall 17 (by simp))
                  have GG := hG (hall 6 (by simp))
                  simp only [putAll, Act.put, List.setIfInBounds_toArray, List.set_cons_zero, List.set_cons_succ, d0, d1, d2, d3, d4, d7, d8, d9, d10, d11, d12, d13, d14, d15, d16, d17]
                  clear hall h0 d0 h1 d1 h2 d2 h3 d3 h4 d4 h7 d7 h8 d8 h9 d9 h10 d10 h11 d11 h12 d12 h13 d13 h14 d14 h15 d15 h16 d16 h17 d17 y5 hB hG hE5_4 hE13_12 hE12_8 hE8_7 hE7_6 hW2 hW4 hW5
                  obtain ⟨_, T2, Y, gb, gt⟩ := GG.out
                  have m1 : wz.cell? ⟨Go, 1, none⟩ = some (.int .i64 p.n) := gb.cell 1
                  obtain ⟨q, hq⟩ : ∃ q : Nat, p.n = (q : Int) := ⟨p.n.toNat, by omega⟩
                  have hq4 : q < 4 := by omega
                  have hq4' : (q : Int) < 4 := by omega
                  have hq0 : (0 : Int) ≤ (q : Int) := by omega
                  rw [hq] at m1 Y
                  have c9 : wz.cell? ⟨G, q, none⟩ = some (.bool (t q)) := by rw [Y.blk.cell]; exact tchV_at t hq4
                  have fr := Y.blk.free q
                  have lg := Y.blk.lt
                  obtain ⟨wv, hwv⟩ : ∃ WW, wz.setCell ⟨G, q, none⟩ (.bool true) = WW := ⟨_, rfl⟩
                  have V : Hid (∃ T d S t, KpW At w wv T g G u4 S t d (k + 1) ∧ KpI S t d) := by
                    rw [← hwv]
                    exact ⟨T2, _, S, setT t q, Y.marks H (Keep.setCell _ _ _ (by simp)) (Y.blk.put q _ _ (tchV_set t hq4)) Y.row Y.offS, X.out.2.2.2.write _⟩
                  generalize p.n = pn at *
                  subst hq
                  clear Y GG gb gt X HXG HOK HER hn0 hn4
                  go_wp2_with fail
                  go_meet
                  exact ⟨rfl, V⟩
              · have d4 : decide (p.n < 4) = false := by simpa using hn4
                have HNO : Hid ((writeD d p.n (List.replicate 16 p.fill)).1 = d) := write_none (.inr (by have := X.out.1.four.1; omega))
                refine wp_region_put3 (by kernel_rfl) (by kernel_rfl) (by kernel_rfl) (fun b' vs w' => (b' 0 = true → vs 0 = .pointer (some ⟨g, 0, none⟩)) ∧ (b' 1 = true → vs 1 = .pointer (some ⟨Go, 1, none⟩)) ∧ (b' 2 = true → vs 2 = .int .i64 p.n) ∧ (b' 3 = true → vs 3 = .pointer (some ⟨Go, 2, none⟩)) ∧ (b' 4 = true → vs 4 = .int .u8 p.fill) ∧ (b' 7 = true → vs 7 = .bool true) ∧ (b' 8 = true → vs 8 = .bool true) ∧ (b' 9 = true → vs 9 = .pointer (some ⟨Go, 1, none⟩)) ∧ (b' 10 = true → vs 10 = .int .i64 p.n) ∧ (b' 11 = true → vs 11 = .bool true) ∧ (b' 12 = true → vs 12 = .bool true) ∧ (b' 13 = true → vs 13 = .bool true) ∧ (b' 14 = true → vs 14 = .pointer (some ⟨Go, 1, none⟩)) ∧ (b' 15 = true → vs 15 = .int .i64 p.n) ∧ (b' 16 = true → vs 16 = .bool false) ∧ (b' 17 = true → vs 17 = .bool false) ∧ (b' 5 = true → b' 6 = false → Hid (OwnB w' wx.heap.size (vs 5) (List.replicate 16 p.fill) ∧ ∀ k, Value.ownBlock (vs 5) = some k → ¬ T k)) ∧ (b' 6 = false → Hid (Below wx.heap.size wx w' ∧ wx.heap.size ≤ w'.heap.size)) ∧ (b' 6 = true → Hid ((vs 6) = .int .i64 er ∧ ∃ T2, KpW At w w' T2 g G u4 S t (writeD d p.n (List.replicate 16 p.fill)).1 (k + 1) ∧ Blk w' Go 34 #[.int .i64 1, .int .i64 p.n, .int .u8 p.fill, .int .i64 p.short, .slice ks kn kc, .int .i64 p.torn, .int .i64 p.cut] ∧ ¬ T2 Go)) ∧ (b' 5 = true → b' 4 = true) ∧ (b' 13 = true → b' 12 = true) ∧ (b' 12 = true → b' 8 = true) ∧ (b' 8 = true → b' 7 = true) ∧ (b' 7 = true → b' 6 = true) ∧ (b' 6 = true → b' 2 = true) ∧ (b' 6 = true → b' 4 = true) ∧ (b' 6 = true → b' 5 = true)) ?_ ?_ ?_
                · intro vs
                  exact ⟨fun h => Bool.noConfusion h, fun h => Bool.noConfusion h, fun h => Bool.noConfusion h, fun h => Bool.noConfusion h, fun h => Bool.noConfusion h, fun h => Bool.noConfusion h, fun h => Bool.noConfusion h, fun h => Bool.noConfusion h, fun h => Bool.noConfusion h, fun h => Bool.noConfusion h, fun h => Bool.noConfusion h, fun h => Bool.noConfusion h, fun h => Bool.noConfusion h, fun h => Bool.noConfusion h, fun h => Bool.noConfusion h, fun h => Bool.noConfusion h, fun h => Bool.noConfusion h, fun _ => Lib.hid ⟨below_drewN (Below.refl _ _) 1, Nat.le_refl _⟩, fun h => Bool.noConfusion h, fun h => Bool.noConfusion h, fun h => Bool.noConfusion h, fun h => Bool.noConfusion h, fun h => Bool.noConfusion h, fun h => Bool.noConfusion h, fun h => Bool.noConfusion h, fun h => Bool.noConfusion h, fun h => Bool.noConfusion h⟩
                · rintro b' vs w' i op hi hun hall ⟨h0, h1, h2, h3, h4, h7, h8, h9, h10, h11, h12, h13, h14, h15, h16, h17, y5, hB, hG, hE5_4, hE13_12, hE12_8, hE8_7, hE7_6, hW2, hW4, hW5⟩
                  have hil : i < 18 := (List.getElem?_eq_some_iff.1 hi).1
                  rcases i with _ | _ | _ | _ | _ | _ | _ | _ | _ | _ | _ | _ | _ | _ | _ | _ | _ | _ | i
                  · obtain rfl := Option.some.inj hi
                    clear hi hil
                    refine StepOk.plain rfl (fun K hK => ?_)
                    have HKK := Lib.hid hK; clear hK
                    simp only [putAll, Act.put, List.setIfInBounds_toArray, List.set_cons_zero, List.set_cons_succ]
                    go_simp
                    exact HKK.out _ _ ⟨_, by simp only [putAll, Act.put, List.setIfInBounds_toArray, List.set_cons_zero, List.set_cons_succ] <;> rfl, fun _ => rfl, h1, h2, h3, h4, h7, h8, h9, h10, h11, h12, h13, h14, h15, h16, h17, y5, hB, hG, hE5_4, hE13_12, hE12_8, hE8_7, hE7_6, hW2, hW4, hW5⟩
                  · obtain rfl := Option.some.inj hi
                    clear hi hil
                    refine StepOk.plain rfl (fun K hK => ?_)
                    have HKK := Lib.hid hK; clear hK
                    simp only [putAll, Act.put, List.setIfInBounds_toArray, List.set_cons_zero, List.set_cons_succ]
                    go_simp
                    exact HKK.out _ _ ⟨_, by simp only [putAll, Act.put, List.setIfInBounds_toArray, List.set_cons_zero, List.set_cons_succ] <;> rfl, h0, fun _ => rfl, h2, h3, h4, h7, h8, h9, h10, h11, h12, h13, h14, h15, h16, h17, y5, hB, hG, hE5_4, hE13_12, hE12_8, hE8_7, hE7_6, hW2, hW4, hW5⟩
                  · obtain rfl := Option.some.inj hi
                    clear hi hil
                    have hap : b' 6 = false := by
                      cases hz : b' 6 with
                      | false => rfl
                      | true => exact absurd (hW2 hz) (by rw [hun]; decide)
                    have d1 := h1 (hall ⟨1, .data⟩ (by simp) rfl)
                    have m1 : w'.cell? ⟨Go, 1, none⟩ = some (.int .i64 p.n) := (HXG.out w' (hB hap).out.1).2.cell 1
                    refine StepOk.plain rfl (fun K hK => ?_)
                    have HKK := Lib.hid hK; clear hK
                    simp only [putAll, Act.put, List.setIfInBounds_toArray, List.set_cons_zero, List.set_cons_succ]
                    go_simp
                    exact HKK.out _ _ ⟨_, by simp only [putAll, Act.put, List.setIfInBounds_toArray, List.set_cons_zero, List.set_cons_succ, d1] <;> rfl, h0, h1, fun _ => rfl, h3, h4, h7, h8, h9, h10, h11, h12, h13, h14, h15, h16, h17, y5, hB, hG, hE5_4, hE13_12, hE12_8, hE8_7, hE7_6, fun _ => rfl, hW4, hW5⟩
                  · obtain rfl := Option.some.inj hi
                    clear hi hil
                    refine StepOk.plain rfl (fun K hK => ?_)
                    have HKK := Lib.hid hK; clear hK
                    simp only [putAll, Act.put, List.setIfInBounds_toArray, List.set_cons_zero, List.set_cons_succ]
                    go_simp
                    exact HKK.out _ _ ⟨_, by simp only [putAll, Act.put, List.setIfInBounds_toArray, List.set_cons_zero, List.set_cons_succ] <;> rfl, h0, h1, h2, fun _ => rfl, h4, h7, h8, h9, h10, h11, h12, h13, h14, h15, h16, h17, y5, hB, hG, hE5_4, hE13_12, hE12_8, hE8_7, hE7_6, hW2, hW4, hW5⟩
                  · obtain rfl := Option.some.inj hi
                    clear hi hil
                    have hap : b' 6 = false := by
                      cases hz : b' 6 with
                      | false => rfl
                      | true => exact absurd (hW4 hz) (by rw [hun]; decide)
                    have d3 := h3 (hall ⟨3, .data⟩ (by simp) rfl)
                    have m2 : w'.cell? ⟨Go, 2, none⟩ = some (.int .u8 p.fill) := (HXG.out w' (hB hap).out.1).2.cell 2
                    refine StepOk.plain rfl (fun K hK => ?_)
                    have HKK := Lib.hid hK; clear hK
                    simp only [putAll, Act.put, List.setIfInBounds_toArray, List.set_cons_zero, List.set_cons_succ]
                    go_simp
                    exact HKK.out _ _ ⟨_, by simp only [putAll, Act.put, List.setIfInBounds_toArray, List.set_cons_zero, List.set_cons_succ, d3] <;> rfl, h0, h1, h2, h3, fun _ => rfl, h7, h8, h9, h10, h11, h12, h13, h14, h15, h16, h17, y5, hB, hG, fun _ => rfl, hE13_12, hE12_8, hE8_7, hE7_6, hW2, fun _ => rfl, hW5⟩
                  · obtain rfl := Option.some.inj hi
                    clear hi hil
                    have hap : b' 6 = false := by
                      cases hz : b' 6 with
                      | false => rfl
                      | true => exact absurd (hW5 hz) (by rw [hun]; decide)
                    have d4 := h4 (hall ⟨4, .data⟩ (by simp) rfl)
                    refine StepOk.plain rfl (fun K hK => ?_)
                    have HKK := Lib.hid hK; clear hK
                    simp only [putAll, Act.put, List.setIfInBounds_toArray, List.set_cons_zero, List.set_cons_succ]
                    go_simp
                    refine (fill_c 16 p.fill (by decide) w').mono ?_
                    rintro e w2 ⟨v2, rfl, ho2, hb2⟩
                    exact HKK.out _ _ ⟨_, by simp only [putAll, Act.put, List.setIfInBounds_toArray, List.set_cons_zero, List.set_cons_succ, d4] <;> rfl, h0, h1, h2, h3, h4, h7, h8, h9, h10, h11, h12, h13, h14, h15, h16, h17, fun _ _ => Lib.hid (⟨owns_base ho2 (hB hap).out.2, (HXG.out w' (hB hap).out.1).1.st.off H ho2⟩), fun ha => Lib.hid ⟨(hB ha).out.1.trans (hb2.mono (hB ha).out.2), Nat.le_trans (hB ha).out.2 hb2.size⟩, fun h => absurd (show b' 6 = true from h) (by rw [hap]; decide), fun _ => hall ⟨4, .data⟩ (by simp) rfl, hE13_12, hE12_8, hE8_7, hE7_6, hW2, hW4, fun _ => rfl⟩
                  · obtain rfl := Option.some.inj hi
                    clear hi hil
                    have hap : b' 6 = false := hun
                    have d0 := h0 (hall ⟨0, .data⟩ (by simp) rfl)
                    have d2 := h2 (hall ⟨2, .data⟩ (by simp) rfl)
                    have o5 := y5 (hall ⟨5, .data⟩ (by simp) rfl) hap
                    refine StepOk.plain rfl (fun K hK => ?_)
                    have HKK := Lib.hid hK; clear hK
                    simp only [putAll, Act.put, List.setIfInBounds_toArray, List.set_cons_zero, List.set_cons_succ]
                    go_simp
                    refine (H.write T w' g d p.n _ _ (HXG.out w' (hB hap).out.1).1.st.at' ((HXG.out w' (hB hap).out.1).1.ok.mono HOK.out.1) HOK.out.2.1 o5.out.1.row o5.out.1.cap (by simp) HOK.out.2.2.1 o5.out.2).mono ?_
                    rintro e w2 ⟨T2, rfl, ha2, ht2⟩
                    rw [HER.out]
                    exact HKK.out _ _ ⟨_, by simp only [putAll, Act.put, List.setIfInBounds_toArray, List.set_cons_zero, List.set_cons_succ, d0, d2] <;> rfl, h0, h1, h2, h3, h4, h7, h8, h9, h10, h11, h12, h13, h14, h15, h16, h17, fun _ h => Bool.noConfusion h, fun h => Bool.noConfusion h, fun _ => Lib.hid (⟨rfl, T2, (HXG.out w' (hB hap).out.1).1.next ht2 ha2 ((HXG.out w' (hB hap).out.1).1.ok.write p.n HOK.out.2.2.1) (writeD_same _ _ _).2, (ht2.blk (HXG.out w' (hB hap).out.1).2 X.out.2.2.1).1, (ht2.blk (HXG.out w' (hB hap).out.1).2 X.out.2.2.1).2⟩), hE5_4, hE13_12, hE12_8, hE8_7, fun _ => rfl, fun _ => hall ⟨2, .data⟩ (by simp) rfl, fun _ => hE5_4 (hall ⟨5, .data⟩ (by simp) rfl), fun _ => hall ⟨5, .data⟩ (by simp) rfl⟩
                  · obtain rfl := Option.some.inj hi
                    clear hi hil
                    have gB := hG (hall ⟨6, .data⟩ (by simp) rfl)
                    have g6 := gB.out.1
                    refine StepOk.plain rfl (fun K hK => ?_)
                    have HKK := Lib.hid hK; clear hK
                    simp only [putAll, Act.put, List.setIfInBounds_toArray, List.set_cons_zero, List.set_cons_succ]
                    go_simp
                    exact HKK.out _ _ ⟨_, by simp only [putAll, Act.put, List.setIfInBounds_toArray, List.set_cons_zero, List.set_cons_succ, g6] <;> rfl, h0, h1, h2, h3, h4, fun _ => rfl, h8, h9, h10, h11, h12, h13, h14, h15, h16, h17, y5, hB, hG, hE5_4, hE13_12, hE12_8, fun _ => rfl, fun _ => hall ⟨6, .data⟩ (by simp) rfl, hW2, hW4, hW5⟩
                  · obtain rfl := Option.some.inj hi
                    clear hi hil
                    have d7 := h7 (hall ⟨7, .data⟩ (by simp) rfl)
                    refine StepOk.plain rfl (fun K hK => ?_)
                    have HKK := Lib.hid hK; clear hK
                    simp only [putAll, Act.put, List.setIfInBounds_toArray, List.set_cons_zero, List.set_cons_succ]
                    go_simp
                    exact HKK.out _ _ ⟨_, by simp only [putAll, Act.put, List.setIfInBounds_toArray, List.set_cons_zero, List.set_cons_succ, d7] <;> rfl, h0, h1, h2, h3, h4, h7, fun _ => rfl, h9, h10, h11, h12, h13, h14, h15, h16, h17, y5, hB, hG, hE5_4, hE13_12, fun _ => rfl, fun _ => hall ⟨7, .data⟩ (by simp) rfl, hE7_6, hW2, hW4, hW5⟩
                  · obtain rfl := Option.some.inj hi
                    clear hi hil
                    have d8 := h8 (hall ⟨8, .guard⟩ (by simp) rfl)
                    refine StepOk.on 8 true rfl rfl d8 (fun K hK => ?_)
                    have HKK := Lib.hid hK; clear hK
                    simp only [putAll, Act.put, List.setIfInBounds_toArray, List.set_cons_zero, List.set_cons_succ]
                    go_simp
                    exact HKK.out _ _ ⟨_, by simp only [putAll, Act.put, List.setIfInBounds_toArray, List.set_cons_zero, List.set_cons_succ, d8] <;> rfl, h0, h1, h2, h3, h4, h7, h8, fun _ => rfl, h10, h11, h12, h13, h14, h15, h16, h17, y5, hB, hG, hE5_4, hE13_12, hE12_8, hE8_7, hE7_6, hW2, hW4, hW5⟩
                  · obtain rfl := Option.some.inj hi
                    clear hi hil
                    have d9 := h9 (hall ⟨9, .data⟩ (by simp) rfl)
                    have d8 := h8 (hall ⟨8, .guard⟩ (by simp) rfl)
                    have b8 := hall ⟨8, .guard⟩ (by simp) rfl
                    have b6 := hE7_6 (hE8_7 b8)
                    obtain ⟨T2, _, gb, _⟩ := (hG b6).out.2
                    have m1 : w'.cell? ⟨Go, 1, none⟩ = some (.int .i64 p.n) := gb.cell 1
                    clear b6 b8 gb
                    refine StepOk.on 8 true rfl rfl d8 (fun K hK => ?_)
                    have HKK := Lib.hid hK; clear hK
                    simp only [putAll, Act.put, List.setIfInBounds_toArray, List.set_cons_zero, List.set_cons_succ]
                    go_simp
                    exact HKK.out _ _ ⟨_, by simp only [putAll, Act.put, List.setIfInBounds_toArray, List.set_cons_zero, List.set_cons_succ, d9, d8] <;> rfl, h0, h1, h2, h3, h4, h7, h8, h9, fun _ => rfl, h11, h12, h13, h14, h15, h16, h17, y5, hB, hG, hE5_4, hE13_12, hE12_8, hE8_7, hE7_6, hW2, hW4, hW5⟩
                  · obtain rfl := Option.some.inj hi
                    clear hi hil
                    have d10 := h10 (hall ⟨10, .data⟩ (by simp) rfl)
                    have d8 := h8 (hall ⟨8, .guard⟩ (by simp) rfl)
                    refine StepOk.on 8 true rfl rfl d8 (fun K hK => ?_)
                    have HKK := Lib.hid hK; clear hK
                    simp only [putAll, Act.put, List.setIfInBounds_toArray, List.set_cons_zero, List.set_cons_succ]
                    go_simp
                    exact HKK.out _ _ ⟨_, by simp only [putAll, Act.put, List.setIfInBounds_toArray, List.set_cons_zero, List.set_cons_succ, d10, d8] <;> rfl, h0, h1, h2, h3, h4, h7, h8, h9, h10, fun _ => rfl, h12, h13, h14, h15, h16, h17, y5, hB, hG, hE5_4, hE13_12, hE12_8, hE8_7, hE7_6, hW2, hW4, hW5⟩
                  · obtain rfl := Option.some.inj hi
                    clear hi hil
                    have d8 := h8 (hall ⟨8, .data⟩ (by simp) rfl)
                    have d11 := h11 (hall ⟨11, .data⟩ (by simp) rfl)
                    refine StepOk.plain rfl (fun K hK => ?_)
                    have HKK := Lib.hid hK; clear hK
                    simp only [putAll, Act.put, List.setIfInBounds_toArray, List.set_cons_zero, List.set_cons_succ]
                    go_simp
                    exact HKK.out _ _ ⟨_, by simp only [putAll, Act.put, List.setIfInBounds_toArray, List.set_cons_zero, List.set_cons_succ, d8, d11] <;> rfl, h0, h1, h2, h3, h4, h7, h8, h9, h10, h11, fun _ => rfl, h13, h14, h15, h16, h17, y5, hB, hG, hE5_4, fun _ => rfl, fun _ => hall ⟨8, .data⟩ (by simp) rfl, hE8_7, hE7_6, hW2, hW4, hW5⟩
                  · obtain rfl := Option.some.inj hi
                    clear hi hil
                    have d12 := h12 (hall ⟨12, .data⟩ (by simp) rfl)
                    refine StepOk.plain rfl (fun K hK => ?_)
                    have HKK := Lib.hid hK; clear hK
                    simp only [putAll, Act.put, List.setIfInBounds_toArray, List.set_cons_zero, List.set_cons_succ]
                    go_simp
                    exact HKK.out _ _ ⟨_, by simp only [putAll, Act.put, List.setIfInBounds_toArray, List.set_cons_zero, List.set_cons_succ, d12] <;> rfl, h0, h1, h2, h3, h4, h7, h8, h9, h10, h11, h12, fun _ => rfl, h14, h15, h16, h17, y5, hB, hG, hE5_4, fun _ => hall ⟨12, .data⟩ (by simp) rfl, hE12_8, hE8_7, hE7_6, hW2, hW4, hW5⟩
                  · obtain rfl := Option.some.inj hi
                    clear hi hil
                    have d13 := h13 (hall ⟨13, .guard⟩ (by simp) rfl)
                    refine StepOk.on 13 true rfl rfl d13 (fun K hK => ?_)
                    have HKK := Lib.hid hK; clear hK
                    simp only [putAll, Act.put, List.setIfInBounds_toArray, List.set_cons_zero, List.set_cons_succ]
                    go_simp
                    exact HKK.out _ _ ⟨_, by simp only [putAll, Act.put, List.setIfInBounds_toArray, List.set_cons_zero, List.set_cons_succ, d13] <;> rfl, h0, h1, h2, h3, h4, h7, h8, h9, h10, h11, h12, h13, fun _ => rfl, h15, h16, h17, y5, hB, hG, hE5_4, hE13_12, hE12_8, hE8_7, hE7_6, hW2, hW4, hW5⟩
                  · obtain rfl := Option.some.inj hi
                    clear hi hil
                    have d14 := h14 (hall ⟨14, .data⟩ (by simp) rfl)
                    have d13 := h13 (hall ⟨13, .guard⟩ (by simp) rfl)
                    have b8 := hE12_8 (hE13_12 (hall ⟨13, .guard⟩ (by simp) rfl))
                    have b6 := hE7_6 (hE8_7 b8)
                    obtain ⟨T2, _, gb, _⟩ := (hG b6).out.2
                    have m1 : w'.cell? ⟨Go, 1, none⟩ = some (.int .i64 p.n) := gb.cell 1
                    clear b6 b8 gb
                    refine StepOk.on 13 true rfl rfl d13 (fun K hK => ?_)
                    have HKK := Lib.hid hK; clear hK
                    simp only [putAll, Act.put, List.setIfInBounds_toArray, List.set_cons_zero, List.set_cons_succ]
                    go_simp
                    exact HKK.out _ _ ⟨_, by simp only [putAll, Act.put, List.setIfInBounds_toArray, List.set_cons_zero, List.set_cons_succ, d14, d13] <;> rfl, h0, h1, h2, h3, h4, h7, h8, h9, h10, h11, h12, h13, h14, fun _ => rfl, h16, h17, y5, hB, hG, hE5_4, hE13_12, hE12_8, hE8_7, hE7_6, hW2, hW4, hW5⟩
                  · obtain rfl := Option.some.inj hi
                    clear hi hil
                    have d15 := h15 (hall ⟨15, .data⟩ (by simp) rfl)
                    have d13 := h13 (hall ⟨13, .guard⟩ (by simp) rfl)
                    refine StepOk.on 13 true rfl rfl d13 (fun K hK => ?_)
                    have HKK := Lib.hid hK; clear hK
                    simp only [putAll, Act.put, List.setIfInBounds_toArray, List.set_cons_zero, List.set_cons_succ]
                    go_simp
                    exact HKK.out _ _ ⟨_, by simp only [putAll, Act.put, List.setIfInBounds_toArray, List.set_cons_zero, List.set_cons_succ, d15, d13] <;> rfl, h0, h1, h2, h3, h4, h7, h8, h9, h10, h11, h12, h13, h14, h15, fun _ => rfl, h17, y5, hB, hG, hE5_4, hE13_12, hE12_8, hE8_7, hE7_6, hW2, hW4, hW5⟩
                  · obtain rfl := Option.some.inj hi
                    clear hi hil
                    have d13 := h13 (hall ⟨13, .data⟩ (by simp) rfl)
                    have d16 := h16 (hall ⟨16, .data⟩ (by simp) rfl)
                    refine StepOk.plain rfl (fun K hK => ?_)
                    have HKK := Lib.hid hK; clear hK
                    simp only [putAll, Act.put, List.setIfInBounds_toArray, List.set_cons_zero, List.set_cons_succ]
                    go_simp
                    exact HKK.out _ _ ⟨_, by simp only [putAll, Act.put, List.setIfInBounds_toArray, List.set_cons_zero, List.set_cons_succ, d13, d16] <;> rfl, h0, h1, h2, h3, h4, h7, h8, h9, h10, h11, h12, h13, h14, h15, h16, fun _ => rfl, y5, hB, hG, hE5_4, hE13_12, hE12_8, hE8_7, hE7_6, hW2, hW4, hW5⟩
                  · omega
                · rintro b' vs wz hall ⟨h0, h1, h2, h3, h4, h7, h8, h9, h10, h11, h12, h13, h14, h15, h16, h17, y5, hB, hG, hE5_4, hE13_12, hE12_8, hE8_7, hE7_6, hW2, hW4, hW5⟩
                  have d0 := h0 (hall 0 (by simp))
                  have d1 := h1 (hall 1 (by simp))
                  have d2 := h2 (hall 2 (by simp))
                  have d3 := h3 (hall 3 (by simp))
                  have d4 := h4 (hall 4 (by simp))
                  have d7 := h7 (hall 7 (by simp))
                  have d8 := h8 (hall 8 (by simp))
                  have d9 := h9 (hall 9 (by simp))
                  have d10 := h10 (hall 10 (by simp))
                  have d11 := h11 (hall 11 (by simp))
                  have d12 := h12 (hall 12 (by simp))
                  have d13 := h13 (hall 13 (by simp))
                  have d14 := h14 (hall 14 (by simp))
                  have d15 := h15 (hall 15 (by simp))
                  have d16 := h16 (hall 16 (by simp))
                  have d17 := h17 (hall 17 (by simp))
                  have GG := hG (hall 6 (by simp))
                  simp only [putAll, Act.put, List.setIfInBounds_toArray, List.set_cons_zero, List.set_cons_succ, d0, d1, d2, d3, d4, d7, d8, d9, d10, d11, d12, d13, d14, d15, d16, d17]
                  clear hall h0 d0 h1 d1 h2 d2 h3 d3 h4 d4 h7 d7 h8 d8 h9 d9 h10 d10 h11 d11 h12 d12 h13 d13 h14 d14 h15 d15 h16 d16 h17 d17 y5 hB hG hE5_4 hE13_12 hE12_8 hE8_7 hE7_6 hW2 hW4 hW5
                  obtain ⟨_, T2, Y, _, _⟩ := GG.out
                  have V : Hid (∃ T d S t, KpW At w wz T g G u4 S t d (k + 1) ∧ KpI S t d) := ⟨T2, _, _, _, Y, by rw [HNO.out]; exact X.out.2.2.2⟩
                  clear Y GG
                  go_wp2_with fail
                  go_meet
                  exact ⟨rfl, V⟩
            · have d0 : decide (p.n ≥ 0) = false := by simpa using hn0
              have HNO : Hid ((writeD d p.n (List.replicate 16 p.fill)).1 = d) := write_none (.inr (by omega))
              refine wp_region_put3 (by kernel_rfl) (by kernel_rfl) (by kernel_rfl) (fun b' vs w' => (b' 0 = true → vs 0 = .pointer (some ⟨g, 0, none⟩)) ∧ (b' 1 = true → vs 1 = .pointer (some ⟨Go, 1, none⟩)) ∧ (b' 2 = true → vs 2 = .int .i64 p.n) ∧ (b' 3 = true → vs 3 = .pointer (some ⟨Go, 2, none⟩)) ∧ (b' 4 = true → vs 4 = .int .u8 p.fill) ∧ (b' 7 = true → vs 7 = .bool true) ∧ (b' 8 = true → vs 8 = .bool true) ∧ (b' 9 = true → vs 9 = .pointer (some ⟨Go, 1, none⟩)) ∧ (b' 10 = true → vs 10 = .int .i64 p.n) ∧ (b' 11 = true → vs 11 = .bool false) ∧ (b' 12 = true → vs 12 = .bool false) ∧ (b' 13 = true → vs 13 = .bool false) ∧ (b' 14 = true → vs 14 = undef) ∧ (b' 15 = true → vs 15 = undef) ∧ (b' 16 = true → vs 16 = undef) ∧ (b' 17 = true → vs 17 = .bool false) ∧ (b' 5 = true → b' 6 = false → Hid (OwnB w' wx.heap.size (vs 5) (List.replicate 16 p.fill) ∧ ∀ k, Value.ownBlock (vs 5) = some k → ¬ T k)) ∧ (b' 6 = false → Hid (Below wx.heap.size wx w' ∧ wx.heap.size ≤ w'.heap.size)) ∧ (b' 6 = true → Hid ((vs 6) = .int .i64 er ∧ ∃ T2, KpW At w w' T2 g G u4 S t (writeD d p.n (List.replicate 16 p.fill)).1 (k + 1) ∧ Blk w' Go 34 #[.int .i64 1, .int .i64 p.n, .int .u8 p.fill, .int .i64 p.short, .slice ks kn kc, .int .i64 p.torn, .int .i64 p.cut] ∧ ¬ T2 Go)) ∧ (b' 5 = true → b' 4 = true) ∧ (b' 13 = true → b' 12 = true) ∧ (b' 12 = true → b' 8 = true) ∧ (b' 8 = true → b' 7 = true) ∧ (b' 7 = true → b' 6 = true) ∧ (b' 6 = true → b' 2 = true) ∧ (b' 6 = true → b' 4 = true) ∧ (b' 6 = true → b' 5 = true)) ?_ ?_ ?_
              · intro vs
                exact ⟨fun h => Bool.noConfusion h, fun h => Bool.noConfusion h, fun h => Bool.noConfusion h, fun h => Bool.noConfusion h, fun h => Bool.noConfusion h, fun h => Bool.noConfusion h, fun h => Bool.noConfusion h, fun h => Bool.noConfusion h, fun h => Bool.noConfusion h, fun h => Bool.noConfusion h, fun h => Bool.noConfusion h, fun h => Bool.noConfusion h, fun h => Bool.noConfusion h, fun h => Bool.noConfusion h, fun h => Bool.noConfusion h, fun h => Bool.noConfusion h, fun h => Bool.noConfusion h, fun _ => Lib.hid ⟨below_drewN (Below.refl _ _) 1, Nat.le_refl _⟩, fun h => Bool.noConfusion h, fun h => Bool.noConfusion h, fun h => Bool.noConfusion h, fun h => Bool.noConfusion h, fun h => Bool.noConfusion h, fun h => Bool.noConfusion h, fun h => Bool.noConfusion h, fun h => Bool.noConfusion h, fun h => Bool.noConfusion h⟩
              · rintro b' vs w' i op hi hun hall ⟨h0, h1, h2, h3, h4, h7, h8, h9, h10, h11, h12, h13, h14, h15, h16, h17, y5, hB, hG, hE5_4, hE13_12, hE12_8, hE8_7, hE7_6, hW2, hW4, hW5⟩
                have hil : i < 18 := (List.getElem?_eq_some_iff.1 hi).1
                rcases i with _ | _ | _ | _ | _ | _ | _ | _ | _ | _ | _ | _ | _ | _ | _ | _ | _ | _ | i
                · obtain rfl := Option.some.inj hi
                  clear hi hil
                  refine StepOk.plain rfl (fun K hK => ?_)
                  have HKK := Lib.hid hK; clear hK
                  simp only [putAll, Act.put, List.setIfInBounds_toArray, List.set_cons_zero, List.set_cons_succ]
                  go_simp
                  exact HKK.out _ _ ⟨_, by simp only [putAll, Act.put, List.setIfInBounds_toArray, List.set_cons_zero, List.set_cons_succ] <;> rfl, fun _ => rfl, h1, h2, h3, h4, h7, h8, h9, h10, h11, h12, h13, h14, h15, h16, h17, y5, hB, hG, hE5_4, hE13_12, hE12_8, hE8_7, hE7_6, hW2, hW4, hW5⟩
                · obtain rfl := Option.some.inj hi
                  clear hi hil
                  refine StepOk.plain rfl (fun K hK => ?_)
                  have HKK := Lib.hid hK; clear hK
                  simp only [putAll, Act.put, List.setIfInBounds_toArray, List.set_cons_zero, List.set_cons_succ]
                  go_simp
                  exact HKK.out _ _ ⟨_, by simp only [putAll, Act.put, List.setIfInBounds_toArray, List.set_cons_zero, List.set_cons_succ] <;> rfl, h0, fun _ => rfl, h2, h3, h4, h7, h8, h9, h10, h11, h12, h13, h14, h15, h16, h17, y5, hB, hG, hE5_4, hE13_12, hE12_8, hE8_7, hE7_6, hW2, hW4, hW5⟩
                · obtain rfl := Option.some.inj hi
                  clear hi hil
                  have hap : b' 6 = false := by
                    cases hz : b' 6 with
                    | false => rfl
                    | true => exact absurd (hW2 hz) (by rw [hun]; decide)
                  have d1 := h1 (hall ⟨1, .data⟩ (by simp) rfl)
                  have m1 : w'.cell? ⟨Go, 1, none⟩ = some (.int .i64 p.n) := (HXG.out w' (hB hap).out.1).2.cell 1
                  refine StepOk.plain rfl (fun K hK => ?_)
                  have HKK := Lib.hid hK; clear hK
                  simp only [putAll, Act.put, List.setIfInBounds_toArray, List.set_cons_zero, List.set_cons_succ]
                  go_simp
                  exact HKK.out _ _ ⟨_, by simp only [putAll, Act.put, List.setIfInBounds_toArray, List.set_cons_zero, List.set_cons_succ, d1] <;> rfl, h0, h1, fun _ => rfl, h3, h4, h7, h8, h9, h10, h11, h12, h13, h14, h15, h16, h17, y5, hB, hG, hE5_4, hE13_12, hE12_8, hE8_7, hE7_6, fun _ => rfl, hW4, hW5⟩
                · obtain rfl := Option.some.inj hi
                  clear hi hil
                  refine StepOk.plain rfl (fun K hK => ?_)
                  have HKK := Lib.hid hK; clear hK
                  simp only [putAll, Act.put, List.setIfInBounds_toArray, List.set_cons_zero, List.set_cons_succ]
                  go_simp
                  exact HKK.out _ _ ⟨_, by simp only [putAll, Act.put, List.setIfInBounds_toArray, List.set_cons_zero, List.set_cons_succ] <;> rfl, h0, h1, h2, fun _ => rfl, h4, h7, h8, h9, h10, h11, h12, h13, h14, h15, h16, h17, y5, hB, hG, hE5_4, hE13_12, hE12_8, hE8_7, hE7_6, hW2, hW4, hW5⟩
                · obtain rfl := Option.some.inj hi
                  clear hi hil
                  have hap : b' 6 = false := by
                    cases hz : b' 6 with
                    | false => rfl
                    | true => exact absurd (hW4 hz) (by rw [hun]; decide)
                  have d3 := h3 (hall ⟨3, .data⟩ (by simp) rfl)
                  have m2 : w'.cell? ⟨Go, 2, none⟩ = some (.int .u8 p.fill) := (HXG.out w' (hB hap).out.1).2.cell 2
                  refine StepOk.plain rfl (fun K hK => ?_)
                  have HKK := Lib.hid hK; clear hK
                  simp only [putAll, Act.put, List.setIfInBounds_toArray, List.set_cons_zero, List.set_cons_succ]
                  go_simp
                  exact HKK.out _ _ ⟨_, by simp only [putAll, Act.put, List.setIfInBounds_toArray, List.set_cons_zero, List.set_cons_succ, d3] <;> rfl, h0, h1, h2, h3, fun _ => rfl, h7, h8, h9, h10, h11, h12, h13, h14, h15, h16, h17, y5, hB, hG, fun _ => rfl, hE13_12, hE12_8, hE8_7, hE7_6, hW2, fun _ => rfl, hW5⟩
                · obtain rfl := Option.some.inj hi
                  clear hi hil
                  have hap : b' 6 = false := by
                    cases hz : b' 6 with
                    | false => rfl
                    | true => exact absurd (hW5 hz) (by rw [hun]; decide)
                  have d4 := h4 (hall ⟨4, .data⟩ (by simp) rfl)
                  refine StepOk.plain rfl (fun K hK => ?_)
                  have HKK := Lib.hid hK; clear hK
                  simp only [putAll, Act.put, List.setIfInBounds_toArray, List.set_cons_zero, List.set_cons_succ]
                  go_simp
                  refine (fill_c 16 p.fill (by decide) w').mono ?_
                  rintro e w2 ⟨v2, rfl, ho2, hb2⟩
                  exact HKK.out _ _ ⟨_, by simp only [putAll, Act.put, List.setIfInBounds_toArray, List.set_cons_zero, List.set_cons_succ, d4] <;> rfl, h0, h1, h2, h3, h4, h7, h8, h9, h10, h11, h12, h13, h14, h15, h16, h17, fun _ _ => Lib.hid (⟨owns_base ho2 (hB hap).out.2, (HXG.out w' (hB hap).out.1).1.st.off H ho2⟩), fun ha => Lib.hid ⟨(hB ha).out.1.trans (hb2.mono (hB ha).out.2), Nat.le_trans (hB ha).out.2 hb2.size⟩, fun h => absurd (show b' 6 = true from h) (by rw [hap]; decide), fun _ => hall ⟨4, .data⟩ (by simp) rfl, hE13_12, hE12_8, hE8_7, hE7_6, hW2, hW4, fun _ => rfl⟩
                · obtain rfl := Option.some.inj hi
                  clear hi hil
                  have hap : b' 6 = false := hun
                  have d0 := h0 (hall ⟨0, .data⟩ (by simp) rfl)
                  have d2 := h2 (hall ⟨2, .data⟩ (by simp) rfl)
                  have o5 := y5 (hall ⟨5, .data⟩ (by simp) rfl) hap
                  refine StepOk.plain rfl (fun K hK => ?_)
                  have HKK := Lib.hid hK; clear hK
                  simp only [putAll, Act.put, List.setIfInBounds_toArray, List.set_cons_zero, List.set_cons_succ]
                  go_simp
                  refine (H.write T w' g d p.n _ _ (HXG.out w' (hB hap).out.1).1.st.at' ((HXG.out w' (hB hap).out.1).1.ok.mono HOK.out.1) HOK.out.2.1 o5.out.1.row o5.out.1.cap (by simp) HOK.out.2.2.1 o5.out.2).mono ?_
                  rintro e w2 ⟨T2, rfl, ha2, ht2⟩
                  rw [HER.out]
                  exact HKK.out _ _ ⟨_, by simp only [putAll, Act.put, List.setIfInBounds_toArray, List.set_cons_zero, List.set_cons_succ, d0, d2] <;> rfl, h0, h1, h2, h3, h4, h7, h8, h9, h10, h11, h12, h13, h14, h15, h16, h17, fun _ h => Bool.noConfusion h, fun h => Bool.noConfusion h, fun _ => Lib.hid (⟨rfl, T2, (HXG.out w' (hB hap).out.1).1.next ht2 ha2 ((HXG.out w' (hB hap).out.1).1.ok.write p.n HOK.out.2.2.1) (writeD_same _ _ _).2, (ht2.blk (HXG.out w' (hB hap).out.1).2 X.out.2.2.1).1, (ht2.blk (HXG.out w' (hB hap).out.1).2 X.out.2.2.1).2⟩), hE5_4, hE13_12, hE12_8, hE8_7, fun _ => rfl, fun _ => hall ⟨2, .data⟩ (by simp) rfl, fun _ => hE5_4 (hall ⟨5, .data⟩ (by simp) rfl), fun _ => hall ⟨5, .data⟩ (by simp) rfl⟩
                · obtain rfl := Option.some.inj hi
                  clear hi hil
                  have gB := hG (hall ⟨6, .data⟩ (by simp) rfl)
                  have g6 := gB.out.1
                  refine StepOk.plain rfl (fun K hK => ?_)
                  have HKK := Lib.hid hK; clear hK
                  simp only [putAll, Act.put, List.setIfInBounds_toArray, List.set_cons_zero, List.set_cons_succ]
                  go_simp
                  exact HKK.out _ _ ⟨_, by simp only [putAll, Act.put, List.setIfInBounds_toArray, List.set_cons_zero, List.set_cons_succ, g6] <;> rfl, h0, h1, h2, h3, h4, fun _ => rfl, h8, h9, h10, h11, h12, h13, h14, h15, h16, h17, y5, hB, hG, hE5_4, hE13_12, hE12_8, fun _ => rfl, fun _ => hall ⟨6, .data⟩ (by simp) rfl, hW2, hW4, hW5⟩
                · obtain rfl := Option.some.inj hi
                  clear hi hil
                  have d7 := h7 (hall ⟨7, .data⟩ (by simp) rfl)
                  refine StepOk.plain rfl (fun K hK => ?_)
                  have HKK := Lib.hid hK; clear hK
                  simp only [putAll, Act.put, List.setIfInBounds_toArray, List.set_cons_zero, List.set_cons_succ]
                  go_simp
                  exact HKK.out _ _ ⟨_, by simp only [putAll, Act.put, List.setIfInBounds_toArray, List.set_cons_zero, List.set_cons_succ, d7] <;> rfl, h0, h1, h2, h3, h4, h7, fun _ => rfl, h9, h10, h11, h12, h13, h14, h15, h16, h17, y5, hB, hG, hE5_4, hE13_12, fun _ => rfl, fun _ => hall ⟨7, .data⟩ (by simp) rfl, hE7_6, hW2, hW4, hW5⟩
                · obtain rfl := Option.some.inj hi
                  clear hi hil
                  have d8 := h8 (hall ⟨8, .guard⟩ (by simp) rfl)
                  refine StepOk.on 8 true rfl rfl d8 (fun K hK => ?_)
                  have HKK := Lib.hid hK; clear hK
                  simp only [putAll, Act.put, List.setIfInBounds_toArray, List.set_cons_zero, List.set_cons_succ]
                  go_simp
                  exact HKK.out _ _ ⟨_, by simp only [putAll, Act.put, List.setIfInBounds_toArray, List.set_cons_zero, List.set_cons_succ, d8] <;> rfl, h0, h1, h2, h3, h4, h7, h8, fun _ => rfl, h10, h11, h12, h13, h14, h15, h16, h17, y5, hB, hG, hE5_4, hE13_12, hE12_8, hE8_7, hE7_6, hW2, hW4, hW5⟩
                · obtain rfl := Option.some.inj hi
                  clear hi hil
                  have d9 := h9 (hall ⟨9, .data⟩ (by simp) rfl)
                  have d8 := h8 (hall ⟨8, .guard⟩ (by simp) rfl)
                  have b8 := hall ⟨8, .guard⟩ (by simp) rfl
                  have b6 := hE7_6 (hE8_7 b8)
                  obtain ⟨T2, _, gb, _⟩ := (hG b6).out.2
                  have m1 : w'.cell? ⟨Go, 1, none⟩ = some (.int .i64 p.n) := gb.cell 1
                  clear b6 b8 gb
                  refine StepOk.on 8 true rfl rfl d8 (fun K hK => ?_)
                  have HKK := Lib.hid hK; clear hK
                  simp only [putAll, Act.put, List.setIfInBounds_toArray, List.set_cons_zero, List.set_cons_succ]
                  go_simp
                  exact HKK.out _ _ ⟨_, by simp only [putAll, Act.put, List.setIfInBounds_toArray, List.set_cons_zero, List.set_cons_succ, d9, d8] <;> rfl, h0, h1, h2, h3, h4, h7, h8, h9, fun _ => rfl, h11, h12, h13, h14, h15, h16, h17, y5, hB, hG, hE5_4, hE13_12, hE12_8, hE8_7, hE7_6, hW2, hW4, hW5⟩
                · obtain rfl := Option.some.inj hi
                  clear hi hil
                  have d10 := h10 (hall ⟨10, .data⟩ (by simp) rfl)
                  have d8 := h8 (hall ⟨8, .guard⟩ (by simp) rfl)
                  refine StepOk.on 8 true rfl rfl d8 (fun K hK => ?_)
                  have HKK := Lib.hid hK; clear hK
                  simp only [putAll, Act.put, List.setIfInBounds_toArray, List.set_cons_zero, List.set_cons_succ]
                  go_simp
                  exact HKK.out _ _ ⟨_, by simp only [putAll, Act.put, List.setIfInBounds_toArray, List.set_cons_zero, List.set_cons_succ, d10, d8] <;> rfl, h0, h1, h2, h3, h4, h7, h8, h9, h10, fun _ => rfl, h12, h13, h14, h15, h16, h17, y5, hB, hG, hE5_4, hE13_12, hE12_8, hE8_7, hE7_6, hW2, hW4, hW5⟩
                · obtain rfl := Option.some.inj hi
                  clear hi hil
                  have d8 := h8 (hall ⟨8, .data⟩ (by simp) rfl)
                  have d11 := h11 (hall ⟨11, .data⟩ (by simp) rfl)
                  refine StepOk.plain rfl (fun K hK => ?_)
                  have HKK := Lib.hid hK; clear hK
                  simp only [putAll, Act.put, List.setIfInBounds_toArray, List.set_cons_zero, List.set_cons_succ]
                  go_simp
                  exact HKK.out _ _ ⟨_, by simp only [putAll, Act.put, List.setIfInBounds_toArray, List.set_cons_zero, List.set_cons_succ, d8, d11] <;> rfl, h0, h1, h2, h3, h4, h7, h8, h9, h10, h11, fun _ => rfl, h13, h14, h15, h16, h17, y5, hB, hG, hE5_4, fun _ => rfl, fun _ => hall ⟨8, .data⟩ (by simp) rfl, hE8_7, hE7_6, hW2, hW4, hW5⟩
                · obtain rfl := Option.some.inj hi
                  clear hi hil
                  have d12 := h12 (hall ⟨12, .data⟩ (by simp) rfl)
                  refine StepOk.plain rfl (fun K hK => ?_)
                  have HKK := Lib.hid hK; clear hK
                  simp only [putAll, Act.put, List.setIfInBounds_toArray, List.set_cons_zero, List.set_cons_succ]
                  go_simp
                  exact HKK.out _ _ ⟨_, by simp only [putAll, Act.put, List.setIfInBounds_toArray, List.set_cons_zero, List.set_cons_succ, d12] <;> rfl, h0, h1, h2, h3, h4, h7, h8, h9, h10, h11, h12, fun _ => rfl, h14, h15, h16, h17, y5, hB, hG, hE5_4, fun _ => hall ⟨12, .data⟩ (by simp) rfl, hE12_8, hE8_7, hE7_6, hW2, hW4, hW5⟩
                · obtain rfl := Option.some.inj hi
                  clear hi hil
                  have d13 := h13 (hall ⟨13, .guard⟩ (by simp) rfl)
                  refine StepOk.off 13 true rfl rfl d13 ?_
                  exact ⟨undef, rfl, h0, h1, h2, h3, h4, h7, h8, h9, h10, h11, h12, h13, fun _ => rfl, h15, h16, h17, y5, hB, hG, hE5_4, hE13_12, hE12_8, hE8_7, hE7_6, hW2, hW4, hW5⟩
                · obtain rfl := Option.some.inj hi
                  clear hi hil
                  have d13 := h13 (hall ⟨13, .guard⟩ (by simp) rfl)
                  refine StepOk.off 13 true rfl rfl d13 ?_
                  exact ⟨undef, rfl, h0, h1, h2, h3, h4, h7, h8, h9, h10, h11, h12, h13, h14, fun _ => rfl, h16, h17, y5, hB, hG, hE5_4, hE13_12, hE12_8, hE8_7, hE7_6, hW2, hW4, hW5⟩
                · obtain rfl := Option.some.inj hi
                  clear hi hil
                  have d13 := h13 (hall ⟨13, .guard⟩ (by simp) rfl)
                  refine StepOk.off 13 true rfl rfl d13 ?_
                  exact ⟨undef, rfl, h0, h1, h2, h3, h4, h7, h8, h9, h10, h11, h12, h13, h14, h15, fun _ => rfl, h17, y5, hB, hG, hE5_4, hE13_12, hE12_8, hE8_7, hE7_6, hW2, hW4, hW5⟩
                · obtain rfl := Option.some.inj hi
                  clear hi hil
                  have d13 := h13 (hall ⟨13, .data⟩ (by simp) rfl)
                  have d16 := h16 (hall ⟨16, .data⟩ (by simp) rfl)
                  refine StepOk.plain rfl (fun K hK => ?_)
                  have HKK := Lib.hid hK; clear hK
                  simp only [putAll, Act.put, List.setIfInBounds_toArray, List.set_cons_zero, List.set_cons_succ]
                  go_simp
                  exact HKK.out _ _ ⟨_, by simp only [putAll, Act.put, List.setIfInBounds_toArray, List.set_cons_zero, List.set_cons_succ, d13, d16] <;> rfl, h0, h1, h2, h3, h4, h7, h8, h9, h10, h11, h12, h13, h14, h15, h16, fun _ => rfl, y5, hB, hG, hE5_4, hE13_12, hE12_8, hE8_7, hE7_6, hW2, hW4, hW5⟩
                · omega
              · rintro b' vs wz hall ⟨h0, h1, h2, h3, h4, h7, h8, h9, h10, h11, h12, h13, h14, h15, h16, h17, y5, hB, hG, hE5_4, hE13_12, hE12_8, hE8_7, hE7_6, hW2, hW4, hW5⟩
                have d0 := h0 (hall 0 (by simp))
                have d1 := h1 (hall 1 (by simp))
                have d2 := h2 (hall 2 (by simp))
                have d3 := h3 (hall 3 (by simp))
                have d4 := h4 (hall 4 (by simp))
                have d7 := h7 (hall 7 (by simp))
                have d8 := h8 (hall 8 (by simp))
                have d9 := h9 (hall 9 (by simp))
                have d10 := h10 (hall 10 (by simp))
                have d11 := h11 (hall 11 (by simp))
                have d12 := h12 (hall 12 (by simp))
                have d13 := h13 (hall 13 (by simp))
                have d14 := h14 (hall 14 (by simp))
                have d15 := h15 (hall 15 (by simp))
                have d16 := h16 (hall 16 (by simp))
                have d17 := h17 (hall 17 (by simp))
                have GG := hG (hall 6 (by simp))
                simp only [putAll, Act.put, List.setIfInBounds_toArray, List.set_cons_zero, List.set_cons_succ, d0, d1, d2, d3, d4, d7, d8, d9, d10, d11, d12, d13, d14, d15, d16, d17]
                clear hall h0 d0 h1 d1 h2 d2 h3 d3 h4 d4 h7 d7 h8 d8 h9 d9 h10 d10 h11 d11 h12 d12 h13 d13 h14 d14 h15 d15 h16 d16 h17 d17 y5 hB hG hE5_4 hE13_12 hE12_8 hE8_7 hE7_6 hW2 hW4 hW5
                obtain ⟨_, T2, Y, _, _⟩ := GG.out
                have V : Hid (∃ T d S t, KpW At w wz T g G u4 S t d (k + 1) ∧ KpI S t d) := ⟨T2, _, _, _, Y, by rw [HNO.out]; exact X.out.2.2.2⟩
                clear Y GG
                go_wp2_with fail
                go_meet
                exact ⟨rfl, V⟩
        · have e1 : (pk == 1) = false := by simpa using h1
          by_cases h3 : pk = 3
          · subst h3
            go_wp2_with fail
            refine (H.sync T wx g d X.out.1.st.at' (X.out.1.ok.mono HOK.out.1)).mono ?_
            rintro e wy ⟨T2, rfl, ha, ht⟩
            have Y : Hid (KpW At w wy T2 g G u4 S t (syncD d).1 (k + 1)) := X.out.1.next ht ha (X.out.1.ok.sync (by omega)) (syncD_same d).2
            rcases sync_cases d with ⟨z0, z1, z2⟩ | ⟨z0, z1, z2⟩
            · rw [z0]
              have hk9 := HOK.out.1
              have YK : Hid ((k : Int) + 1 ≤ 1000 ∧ (syncD d).1.wait = [] ∧ (syncD d).1.safe = nowD (syncD d).1) := ⟨by have := HNN.out.2; omega, z1, by unfold nowD; rw [z1]; rfl⟩
              generalize (syncD d).1 = d' at *
              clear ha ht z0 z1 z2
              go_wp2_with fail
              refine (H.image T2 wy g d' Y.out.st.at' (Y.out.ok.mono YK.out.1)).mono ?_
              rintro e wz ⟨v, rfl, ho, hb⟩
              have Z : Hid (KpW At w wz T2 g G v d'.safe t d' (k + 1)) := by
                have h := Y.out.grow H hb
                exact ⟨h.st, h.ok, owns_base (YK.out.2.2 ▸ ho) Y.out.st.below.size, Y.out.st.off H ho, h.blk, h.off, h.far, h.four⟩
              clear hb ho Y
              have f0 := Z.out.blk.free 0
              have lg := Z.out.blk.lt
              have b0 : wz.cell? ⟨G, 0, none⟩ = some (.bool (t 0)) := Z.out.blk.cell 0
              have b1 : wz.cell? ⟨G, 1, none⟩ = some (.bool (t 1)) := Z.out.blk.cell 1
              have b2 : wz.cell? ⟨G, 2, none⟩ = some (.bool (t 2)) := Z.out.blk.cell 2
              have b3 : wz.cell? ⟨G, 3, none⟩ = some (.bool (t 3)) := Z.out.blk.cell 3
              have f1 := Z.out.blk.free 1
              have f2 := Z.out.blk.free 2
              have f3 := Z.out.blk.free 3
              obtain ⟨va, vc, hv⟩ := Z.out.row.shape
              generalize d'.safe.length = vn at hv
              subst hv
              obtain ⟨wv, hwv⟩ : ∃ WW, (((wz.setCell ⟨G, 0, none⟩ (.bool false)).setCell ⟨G, 1, none⟩ (.bool false)).setCell ⟨G, 2, none⟩ (.bool false)).setCell ⟨G, 3, none⟩ (.bool false) = WW := ⟨_, rfl⟩
              have V : Hid (∃ T d S t, KpW At w wv T g G (.slice va vn vc) S t d (k + 1) ∧ KpI S t d) := by
                rw [← hwv]
                exact ⟨T2, d', d'.safe, fun _ => false, Z.out.marks H (Keep.set4 _ _ _ _ _ _ _ _ _ _ (by simp)) ((((Z.out.blk.set 0 _).set 1 _).set 2 _).set 3 _) Z.out.row Z.out.offS, rfl, fun x hx => by rw [YK.out.2.1] at hx; cases hx⟩
              clear Z
              go_wp2_with fail
              go_meet
              exact ⟨rfl, V⟩
            · rw [z0]
              have V : Hid (∃ T d S t, KpW At w wy T g G u4 S t d (k + 1) ∧ KpI S t d) := ⟨T2, _, _, _, Y.out, X.out.2.2.2.1.trans z2.symm, by rw [z1]; exact X.out.2.2.2.2⟩
              clear ha ht z0 z1 z2 Y
              go_wp2_with fail
              go_meet
              exact ⟨rfl, V⟩
          · have e3 : (pk == 3) = false := by simpa using h3
            by_cases h4 : pk = 4
            · subst h4
              have m1 : wx.cell? ⟨Go, 1, none⟩ = some (.int .i64 p.n) := X.out.2.1.cell 1
              go_wp2_with fail
              refine (H.arm T wx g d p.n X.out.1.st.at' (X.out.1.ok.mono HOK.out.1) HOK.out.2.1).mono ?_
              rintro e wy ⟨T2, rfl, ha, ht⟩
              have V : Hid (∃ T d S t, KpW At w wy T g G u4 S t d (k + 1) ∧ KpI S t d) := ⟨T2, _, _, _, (X.out.1.next ht ha (X.out.1.ok.arm HOK.out.2.1) ⟨rfl, rfl⟩).mono (by omega), X.out.2.2.2⟩
              clear ha ht
              go_wp2_with fail
              go_meet
              exact ⟨rfl, V⟩
            · have e4 : (pk == 4) = false := by simpa using h4
              by_cases h5 : pk = 5
              · subst h5
                have m4 : wx.cell? ⟨Go, 4, none⟩ = some (.slice ks kn kc) := X.out.2.1.cell 4
                have m5 : wx.cell? ⟨Go, 5, none⟩ = some (.int .i64 p.torn) := X.out.2.1.cell 5
                have m6 : wx.cell? ⟨Go, 6, none⟩ = some (.int .i64 p.cut) := X.out.2.1.cell 6
                go_wp2_with fail
                refine (H.crash T wx g d _ p.keep p.torn p.cut X.out.1.st.at' (X.out.1.ok.mono HOK.out.1) (HKV.out.1.on X.out.1.st.below) HKV.out.2.1 HKV.out.2.2.1 (fun h0 k e hT => absurd (X.out.1.st.far k hT) (by have := HKV.out.2.2.2 h0 k e; omega)) HOK.out.2.2.2.1 HOK.out.2.2.2.2).mono ?_
                rintro e wy ⟨T2, rfl, ha, ht⟩
                have Y : Hid (KpW At w wy T2 g G u4 S t (crashD d p.keep p.torn p.cut) (k + 1) ∧ (k : Int) + 1 ≤ 1000) := ⟨(X.out.1.next ht ha (X.out.1.ok.crash (by omega) _ _ _) ⟨rfl, rfl⟩).mono (by omega), by have := HNN.out.2; omega⟩
                have YS : Hid (∀ i, t i = false → secS (crashD d p.keep p.torn p.cut).safe i = secS S i) := fun i hi => X.out.2.2.2.crash X.out.1.ok X.out.1.four.2 _ _ _ i hi
                have YW : Hid ((crashD d p.keep p.torn p.cut).wait = [] ∧ nowD (crashD d p.keep p.torn p.cut) = (crashD d p.keep p.torn p.cut).safe ∧ (crashD d p.keep p.torn p.cut).down = false ∧ S.length = 64) := ⟨rfl, rfl, rfl, by
                  have h1 := X.out.2.2.2.1
                  have h2 := X.out.1.ok.len
                  have h3 := X.out.1.four
                  rw [h3.1, h3.2, ← h1] at h2
                  omega⟩
                have HOS : Hid (OkB S) := by rw [X.out.2.2.2.1]; exact X.out.1.ok.byts
                generalize crashD d p.keep p.torn p.cut = d' at *
                clear ha ht X m4 m5 m6 k0
                go_wp2_with fail
                refine (H.image T2 wy g d' Y.out.1.st.at' (Y.out.1.ok.mono Y.out.2)).mono ?_
                rintro e wz ⟨v, rfl, ho, hb⟩
                rw [YW.out.2.1] at ho
                have Z : Hid (KpW At w wz T2 g G u4 S t d' (k + 1) ∧ OwnB wz w.heap.size v d'.safe ∧ ∀ k, v.ownBlock = some k → ¬ T2 k) := ⟨Y.out.1.grow H hb, owns_base ho Y.out.1.st.below.size, Y.out.1.st.off H ho⟩
                have HK9 := Lib.hid Y.out.2
                clear hb ho Y
                have HLN : Hid (d'.safe.length = 64 ∧ S.length = 64) := ⟨by have h2 := Z.out.1.ok.len; have h3 := Z.out.1.four; rw [h3.1, h3.2] at h2; omega, YW.out.2.2.2⟩
                obtain ⟨b8, c8, hv8, hc8⟩ := Z.out.2.1.open (by rw [HLN.out.1]; decide)
                obtain ⟨b4, c4, hv4, hc4⟩ := Z.out.1.row.open (by rw [HLN.out.2]; decide)
                rw [HLN.out.1] at hv8 hc8
                rw [HLN.out.2] at hv4 hc4
                subst hv8 hv4
                go_wp2_with fail
                go_loopw [9, 82] (fun s9 s82 wr => ∃ j : Nat, j ≤ 4 ∧ s82 = .int .i64 (j : Int) ∧ Hid (KpW At w wr T2 g G (.slice (some ⟨b4, 0, none⟩) 64 c4) S t d' (k + 1) ∧ OwnB wr w.heap.size (.slice (some ⟨b8, 0, none⟩) 64 c8) d'.safe ∧ ∀ k, (Value.slice (some ⟨b8, 0, none⟩) 64 c8).ownBlock = some k → ¬ T2 k)) (fun _ s82 _ => 4 - (intOf s82).toNat)
                case atStart => exact ⟨0, by omega, rfl, Z.out⟩
                case round =>
                  obtain ⟨j, hj, rfl, hwj⟩ := hrel
                  by_cases hjl : j < 4
                  · have hd2 : decide ((j : Int) < 4) = true := by simp; omega
                    have hji : (j : Int) < 4 := by omega
                    have ej : wrap64 ((j : Int) + 1) = ((j + 1 : Nat) : Int) := by rw [wrapR _ (by omega) (by omega)]; omega
                    have WJ := Lib.hid hwj.out
                    clear hwj Z
                    go_upto_region 24 with fail
                    cases htj : t j
                    · have MT : Hid (∀ A, Below wr.heap.size wr A → A.cell? ⟨G, j, none⟩ = some (.bool false)) := fun A hA => by
                        rw [(WJ.out.1.blk.grow hA).cell, ← htj]
                        exact tchV_at t hjl
                      obtain ⟨a, ha⟩ : ∃ a : Nat, 16 * j = a := ⟨_, rfl⟩
                      obtain ⟨z, hz⟩ : ∃ z : Nat, a + 16 = z := ⟨_, rfl⟩
                      have EQ : Hid (wrap64 (16 * (j : Int)) = (a : Int) ∧ IntKind.i64.wrap (16 * (j : Int)) = (a : Int) ∧ wrap64 ((a : Int) + 16) = (z : Int) ∧ IntKind.i64.wrap ((a : Int) + 16) = (z : Int)) := by
                        have x1 : wrap64 (16 * (j : Int)) = (a : Int) := by rw [wrapR _ (by omega) (by omega)]; omega
                        have x2 : wrap64 ((a : Int) + 16) = (z : Int) := by rw [wrapR _ (by omega) (by omega)]; omega
                        exact ⟨x1, (wrap_is _).trans x1, x2, (wrap_is _).trans x2⟩
                      have QS : Hid ((0 : Int) ≤ (a : Int) ∧ (a : Int) ≤ (z : Int) ∧ (z : Int) ≤ (c8 : Int) ∧ (z : Int) ≤ (c4 : Int) ∧ z - a = 16 ∧ a ≤ z ∧ ¬ c8 = a ∧ ¬ c4 = a) := by refine ⟨?_, ?_, ?_, ?_, ?_, ?_, ?_, ?_⟩ <;> omega
                      obtain ⟨qs, hqs⟩ : ∃ qs, strI (secS S j) = qs := ⟨_, rfl⟩
                      have CV : Hid (∀ A, Below wr.heap.size wr A → (convert 28 9 (.slice (some ⟨b8, a, none⟩) 16 (c8 - a))).run Try.prog A = .ok (.string qs) A ∧ (convert 28 9 (.slice (some ⟨b4, a, none⟩) 16 (c4 - a))).run Try.prog A = .ok (.string qs) A) := fun A hA => by
                        have h8 := (WJ.out.2.1.grow hA).cut (i := j) (by have := HLN.out; omega) (c8 - 16 * j)
                        have h4 := (WJ.out.1.row.grow hA).cut (i := j) (by have := HLN.out; omega) (c4 - 16 * j)
                        rw [ha] at h8 h4
                        have x8 := conv_b h8 (secS_ok WJ.out.1.ok.byts)
                        have x4 := conv_b h4 (secS_ok HOS.out)
                        rw [YS.out j htj] at x8
                        rw [hqs] at x8 x4
                        exact ⟨x8, x4⟩
                      refine wp_region_quiet (C := Out wr) (by kernel_rfl) (by kernel_rfl) ⟨rfl, rfl, rfl, Nat.le_refl _, fun _ _ => rfl⟩ ?_
                      refine BigFrame.wpQuiet_want rfl (fun K hK => ?_)
                      refine quiet_val (.int .i64 (j : Int)) (fun w' hw' => by go_simp) (hK _ ?_)
                      clear hK K
                      simp only [Act.put, List.setIfInBounds_toArray, List.set_cons_zero, List.set_cons_succ]
                      refine BigFrame.wpQuiet_want rfl (fun K hK => ?_)
                      refine quiet_val (.pointer (some ⟨G, j, none⟩)) (fun w' hw' => by go_simp) (hK _ ?_)
                      clear hK K
                      simp only [Act.put, List.setIfInBounds_toArray, List.set_cons_zero, List.set_cons_succ]
                      refine BigFrame.wpQuiet_want rfl (fun K hK => ?_)
                      refine quiet_val (.bool false) (fun w' hw' => by have m1 := MT.out w' hw'; go_simp) (hK _ ?_)
                      clear hK K
                      simp only [Act.put, List.setIfInBounds_toArray, List.set_cons_zero, List.set_cons_succ]
                      refine BigFrame.wpQuiet_want rfl (fun K hK => ?_)
                      refine quiet_val (.bool true) (fun w' hw' => by go_simp) (hK _ ?_)
                      clear hK K
                      simp only [Act.put, List.setIfInBounds_toArray, List.set_cons_zero, List.set_cons_succ]
                      refine BigFrame.wpQuiet_want rfl (fun K hK => ?_)
                      refine quiet_val (.bool true) (fun w' hw' => by go_simp) (hK _ ?_)
                      clear hK K
                      simp only [Act.put, List.setIfInBounds_toArray, List.set_cons_zero, List.set_cons_succ]
                      refine BigFrame.wpQuiet_want rfl (fun K hK => ?_)
                      refine quiet_val (.slice (some ⟨b8, 0, none⟩) 64 c8) (fun w' hw' => by go_simp) (hK _ ?_)
                      clear hK K
                      simp only [Act.put, List.setIfInBounds_toArray, List.set_cons_zero, List.set_cons_succ]
                      refine BigFrame.wpQuiet_want rfl (fun K hK => ?_)
                      refine quiet_val (.int .i64 (j : Int)) (fun w' hw' => by go_simp) (hK _ ?_)
                      clear hK K
                      simp only [Act.put, List.setIfInBounds_toArray, List.set_cons_zero, List.set_cons_succ]
                      refine BigFrame.wpQuiet_want rfl (fun K hK => ?_)
                      refine quiet_val (.int .i64 (a : Int)) (fun w' hw' => by obtain ⟨e1, e1', e2, e2'⟩ := EQ.out; go_simp) (hK _ ?_)
                      clear hK K
                      simp only [Act.put, List.setIfInBounds_toArray, List.set_cons_zero, List.set_cons_succ]
                      refine BigFrame.wpQuiet_want rfl (fun K hK => ?_)
                      refine quiet_val (.int .i64 (j : Int)) (fun w' hw' => by go_simp) (hK _ ?_)
                      clear hK K
                      simp only [Act.put, List.setIfInBounds_toArray, List.set_cons_zero, List.set_cons_succ]
                      refine BigFrame.wpQuiet_want rfl (fun K hK => ?_)
                      refine quiet_val (.int .i64 (a : Int)) (fun w' hw' => by obtain ⟨e1, e1', e2, e2'⟩ := EQ.out; go_simp) (hK _ ?_)
                      clear hK K
                      simp only [Act.put, List.setIfInBounds_toArray, List.set_cons_zero, List.set_cons_succ]
                      refine BigFrame.wpQuiet_want rfl (fun K hK => ?_)
                      refine quiet_val (.int .i64 (z : Int)) (fun w' hw' => by obtain ⟨e1, e1', e2, e2'⟩ := EQ.out; go_simp) (hK _ ?_)
                      clear hK K
                      simp only [Act.put, List.setIfInBounds_toArray, List.set_cons_zero, List.set_cons_succ]
                      refine BigFrame.wpQuiet_want rfl (fun K hK => ?_)
                      refine quiet_val (.slice (some ⟨b8, a, none⟩) 16 (c8 - a)) (fun w' hw' => by obtain ⟨q0, q1, q2, q3, q4, q5, q6, q7⟩ := QS.out; go_simp) (hK _ ?_)
                      clear hK K
                      simp only [Act.put, List.setIfInBounds_toArray, List.set_cons_zero, List.set_cons_succ]
                      refine BigFrame.wpQuiet_want rfl (fun K hK => ?_)
                      refine quiet_val (.string qs) (fun w' hw' => by have cv := (CV.out w' hw').1; go_simp) (hK _ ?_)
                      clear hK K
                      simp only [Act.put, List.setIfInBounds_toArray, List.set_cons_zero, List.set_cons_succ]
                      refine BigFrame.wpQuiet_want rfl (fun K hK => ?_)
                      refine quiet_val (.slice (some ⟨b4, 0, none⟩) 64 c4) (fun w' hw' => by go_simp) (hK _ ?_)
                      clear hK K
                      simp only [Act.put, List.setIfInBounds_toArray, List.set_cons_zero, List.set_cons_succ]
                      refine BigFrame.wpQuiet_want rfl (fun K hK => ?_)
                      refine quiet_val (.int .i64 (j : Int)) (fun w' hw' => by go_simp) (hK _ ?_)
                      clear hK K
                      simp only [Act.put, List.setIfInBounds_toArray, List.set_cons_zero, List.set_cons_succ]
                      refine BigFrame.wpQuiet_want rfl (fun K hK => ?_)
                      refine quiet_val (.int .i64 (a : Int)) (fun w' hw' => by obtain ⟨e1, e1', e2, e2'⟩ := EQ.out; go_simp) (hK _ ?_)
                      clear hK K
                      simp only [Act.put, List.setIfInBounds_toArray, List.set_cons_zero, List.set_cons_succ]
                      refine BigFrame.wpQuiet_want rfl (fun K hK => ?_)
                      refine quiet_val (.int .i64 (j : Int)) (fun w' hw' => by go_simp) (hK _ ?_)
                      clear hK K
                      simp only [Act.put, List.setIfInBounds_toArray, List.set_cons_zero, List.set_cons_succ]
                      refine BigFrame.wpQuiet_want rfl (fun K hK => ?_)
                      refine quiet_val (.int .i64 (a : Int)) (fun w' hw' => by obtain ⟨e1, e1', e2, e2'⟩ := EQ.out; go_simp) (hK _ ?_)
                      clear hK K
                      simp only [Act.put, List.setIfInBounds_toArray, List.set_cons_zero, List.set_cons_succ]
                      refine BigFrame.wpQuiet_want rfl (fun K hK => ?_)
                      refine quiet_val (.int .i64 (z : Int)) (fun w' hw' => by obtain ⟨e1, e1', e2, e2'⟩ := EQ.out; go_simp) (hK _ ?_)
                      clear hK K
                      simp only [Act.put, List.setIfInBounds_toArray, List.set_cons_zero, List.set_cons_succ]
                      refine BigFrame.wpQuiet_want rfl (fun K hK => ?_)
                      refine quiet_val (.slice (some ⟨b4, a, none⟩) 16 (c4 - a)) (fun w' hw' => by obtain ⟨q0, q1, q2, q3, q4, q5, q6, q7⟩ := QS.out; go_simp) (hK _ ?_)
                      clear hK K
                      simp only [Act.put, List.setIfInBounds_toArray, List.set_cons_zero, List.set_cons_succ]
                      refine BigFrame.wpQuiet_want rfl (fun K hK => ?_)
                      refine quiet_val (.string qs) (fun w' hw' => by have cv := (CV.out w' hw').2; go_simp) (hK _ ?_)
                      clear hK K
                      simp only [Act.put, List.setIfInBounds_toArray, List.set_cons_zero, List.set_cons_succ]
                      refine BigFrame.wpQuiet_want rfl (fun K hK => ?_)
                      refine quiet_val (.bool false) (fun w' hw' => by go_simp) (hK _ ?_)
                      clear hK K
                      simp only [Act.put, List.setIfInBounds_toArray, List.set_cons_zero, List.set_cons_succ]
                      refine BigFrame.wpQuiet_want rfl (fun K hK => ?_)
                      refine quiet_val (.bool false) (fun w' hw' => by go_simp) (hK _ ?_)
                      clear hK K
                      simp only [Act.put, List.setIfInBounds_toArray, List.set_cons_zero, List.set_cons_succ]
                      refine wpQuiet_nil ?_
                      intro wq hbq
                      have WQ : Hid (KpW At w wq T2 g G (.slice (some ⟨b4, 0, none⟩) 64 c4) S t d' (k + 1) ∧ OwnB wq w.heap.size (.slice (some ⟨b8, 0, none⟩) 64 c8) d'.safe ∧ ∀ k, (Value.slice (some ⟨b8, 0, none⟩) 64 c8).ownBlock = some k → ¬ T2 k) := ⟨WJ.out.1.grow H hbq, WJ.out.2.1.grow hbq, WJ.out.2.2⟩
                      clear hbq WJ
                      go_wp2_with fail
                      exact ⟨⟨j + 1, by omega, by rw [show ((j : Int) + 1) = ((j + 1 : Nat) : Int) by omega], WQ.out⟩, by simp [intOf]; omega⟩
                    · have MT : Hid (∀ A, Below wr.heap.size wr A → A.cell? ⟨G, j, none⟩ = some (.bool true)) := fun A hA => by
                        rw [(WJ.out.1.blk.grow hA).cell, ← htj]
                        exact tchV_at t hjl
                      refine wp_region_quiet (C := Out wr) (by kernel_rfl) (by kernel_rfl) ⟨rfl, rfl, rfl, Nat.le_refl _, fun _ _ => rfl⟩ ?_
                      refine BigFrame.wpQuiet_want rfl (fun K hK => ?_)
                      refine quiet_val (.int .i64 (j : Int)) (fun w' hw' => by go_simp) (hK _ ?_)
                      clear hK K
                      simp only [Act.put, List.setIfInBounds_toArray, List.set_cons_zero, List.set_cons_succ]
                      refine BigFrame.wpQuiet_want rfl (fun K hK => ?_)
                      refine quiet_val (.pointer (some ⟨G, j, none⟩)) (fun w' hw' => by go_simp) (hK _ ?_)
                      clear hK K
                      simp only [Act.put, List.setIfInBounds_toArray, List.set_cons_zero, List.set_cons_succ]
                      refine BigFrame.wpQuiet_want rfl (fun K hK => ?_)
                      refine quiet_val (.bool true) (fun w' hw' => by have m1 := MT.out w' hw'; go_simp) (hK _ ?_)
                      clear hK K
                      simp only [Act.put, List.setIfInBounds_toArray, List.set_cons_zero, List.set_cons_succ]
                      refine BigFrame.wpQuiet_want rfl (fun K hK => ?_)
                      refine quiet_val (.bool false) (fun w' hw' => by go_simp) (hK _ ?_)
                      clear hK K
                      simp only [Act.put, List.setIfInBounds_toArray, List.set_cons_zero, List.set_cons_succ]
                      refine BigFrame.wpQuiet_want rfl (fun K hK => ?_)
                      refine quiet_val (.bool false) (fun w' hw' => by go_simp) (hK _ ?_)
                      clear hK K
                      simp only [Act.put, List.setIfInBounds_toArray, List.set_cons_zero, List.set_cons_succ]
                      go_big_quiet_skip
                      go_big_quiet_skip
                      go_big_quiet_skip
                      go_big_quiet_skip
                      go_big_quiet_skip
                      go_big_quiet_skip
                      go_big_quiet_skip
                      go_big_quiet_skip
                      go_big_quiet_skip
                      go_big_quiet_skip
                      go_big_quiet_skip
                      go_big_quiet_skip
                      go_big_quiet_skip
                      go_big_quiet_skip
                      go_big_quiet_skip
                      go_big_quiet_skip
                      go_big_quiet_skip
                      refine BigFrame.wpQuiet_want rfl (fun K hK => ?_)
                      refine quiet_val (.bool false) (fun w' hw' => by go_simp) (hK _ ?_)
                      clear hK K
                      simp only [Act.put, List.setIfInBounds_toArray, List.set_cons_zero, List.set_cons_succ]
                      refine wpQuiet_nil ?_
                      intro wq hbq
                      have WQ : Hid (KpW At w wq T2 g G (.slice (some ⟨b4, 0, none⟩) 64 c4) S t d' (k + 1) ∧ OwnB wq w.heap.size (.slice (some ⟨b8, 0, none⟩) 64 c8) d'.safe ∧ ∀ k, (Value.slice (some ⟨b8, 0, none⟩) 64 c8).ownBlock = some k → ¬ T2 k) := ⟨WJ.out.1.grow H hbq, WJ.out.2.1.grow hbq, WJ.out.2.2⟩
                      clear hbq WJ
                      go_wp2_with fail
                      exact ⟨⟨j + 1, by omega, by rw [show ((j : Int) + 1) = ((j + 1 : Nat) : Int) by omega], WQ.out⟩, by simp [intOf]; omega⟩
                  · have hd2 : decide ((j : Int) < 4) = false := by simp; omega
                    have WJ := Lib.hid hwj.out
                    clear hwj Z
                    go_wp2_with fail
                    refine (H.down T2 _ g d' WJ.out.1.st.at' (WJ.out.1.ok.mono HK9.out)).mono ?_
                    rintro e wa ⟨rfl, hb⟩
                    have WA : Hid (KpW At w wa T2 g G (.slice (some ⟨b4, 0, none⟩) 64 c4) S t d' (k + 1) ∧ OwnB wa w.heap.size (.slice (some ⟨b8, 0, none⟩) 64 c8) d'.safe ∧ ∀ k, (Value.slice (some ⟨b8, 0, none⟩) 64 c8).ownBlock = some k → ¬ T2 k) := ⟨WJ.out.1.grow H hb, WJ.out.2.1.grow hb, WJ.out.2.2⟩
                    clear hb WJ
                    rw [YW.out.2.2.1]
                    go_wp2_with fail
                    refine (H.waiting T2 wa g d' WA.out.1.st.at' (WA.out.1.ok.mono HK9.out)).mono ?_
                    rintro e wb ⟨u, rfl, hu, hb⟩
                    rw [YW.out.1] at hu
                    have WB : Hid (KpW At w wb T2 g G (.slice (some ⟨b4, 0, none⟩) 64 c4) S t d' (k + 1) ∧ OwnB wb w.heap.size (.slice (some ⟨b8, 0, none⟩) 64 c8) d'.safe ∧ ∀ k, (Value.slice (some ⟨b8, 0, none⟩) 64 c8).ownBlock = some k → ¬ T2 k) := ⟨WA.out.1.grow H hb, WA.out.2.1.grow hb, WA.out.2.2⟩
                    obtain ⟨ua, uc, rfl⟩ : ∃ a c, u = .slice a 0 c := by
                      obtain ⟨_, ⟨rfl, _⟩ | ⟨g9, cap, cur, rfl, _⟩⟩ := hu
                      · exact ⟨_, _, rfl⟩
                      · exact ⟨_, _, rfl⟩
                    clear hb hu WA
                    have b0 : wb.cell? ⟨G, 0, none⟩ = some (.bool (t 0)) := WB.out.1.blk.cell 0
                    have b1 : wb.cell? ⟨G, 1, none⟩ = some (.bool (t 1)) := WB.out.1.blk.cell 1
                    have b2 : wb.cell? ⟨G, 2, none⟩ = some (.bool (t 2)) := WB.out.1.blk.cell 2
                    have b3 : wb.cell? ⟨G, 3, none⟩ = some (.bool (t 3)) := WB.out.1.blk.cell 3
                    have f0 := WB.out.1.blk.free 0
                    have f1 := WB.out.1.blk.free 1
                    have f2 := WB.out.1.blk.free 2
                    have f3 := WB.out.1.blk.free 3
                    have lg := WB.out.1.blk.lt
                    obtain ⟨wv, hwv⟩ : ∃ WW, (((wb.setCell ⟨G, 0, none⟩ (.bool false)).setCell ⟨G, 1, none⟩ (.bool false)).setCell ⟨G, 2, none⟩ (.bool false)).setCell ⟨G, 3, none⟩ (.bool false) = WW := ⟨_, rfl⟩
                    have V : Hid (∃ T d S t, KpW At w wv T g G (.slice (some ⟨b8, 0, none⟩) 64 c8) S t d (k + 1) ∧ KpI S t d) := by
                      rw [← hwv]
                      exact ⟨T2, d', d'.safe, fun _ => false, WB.out.1.marks H (Keep.set4 _ _ _ _ _ _ _ _ _ _ (by simp)) ((((WB.out.1.blk.set 0 _).set 1 _).set 2 _).set 3 _) WB.out.2.1 WB.out.2.2, rfl, fun x hx => by rw [YW.out.1] at hx; cases hx⟩
                    clear WB
                    go_wp2_with fail
                    go_meet
                    exact ⟨rfl, V⟩
              · have e5 : (pk == 5) = false := by simpa using h5
                have V : Hid (∃ T d S t, KpW At w wx T g G u4 S t d (k + 1) ∧ KpI S t d) := ⟨T, _, _, _, X.out.1.mono (by omega), X.out.2.2.2⟩
                go_wp2_with fail
                go_meet
                exact ⟨rfl, V⟩
      case rest =>
        obtain ⟨rfl, hX⟩ := hcut
        have HX2 := Lib.hid hX.out
        clear hX
        go_wp2_with fail
        exact ⟨⟨k + 1, by omega, by rw [ek], HX2.out⟩, by rw [ek]; simp [intOf]; omega⟩
    · have hd : decide ((k : Int) < (n : Int)) = false := by simp; omega
      go_wp2_with fail
      refine (HA wr).mono ?_
      rintro e wf ⟨rfl, hb⟩
      have HB9 : Hid (Below w.heap.size w wf) := W.out.1.st.below.trans (hb.mono W.out.1.st.below.size)
      clear hb
      go_wp2_with fail
      go_ret
      exact ⟨rfl, HB9.out⟩
end Go.Proofs.Ytohmkmekdnfkoaa
