/- Layer 12: the law DiskPlays. -/
import Derived.Test.YtohmkmekdnfkoaaDg
import Derived.Test.YtohmkmekdnfkoaaBe
namespace Go.Proofs.Ytohmkmekdnfkoaa
open Go.RowKit
theorem step_c (N : Nat) (T1 T2 : Nat → Prop) (w : World) (g1 g2 : Nat) (d : DM) (p : OpM) (ks : Option Addr) (kn kc : Nat) (hkv : p.kv = .slice ks kn kc) (h : Two N T1 T2 w g1 g2 d d) (ok : OkD d 999) (op : OkO p) (hrow : RowT w p.kv p.keep) (hcap : CapS p.kv) (hkl : p.keep.length ≤ 1000) (hfar : p.keep.length ≠ 0 → ∀ k, p.kv.ownBlock = some k → k < N) :
    Calls Try.prog 10 #[ptrD g1, ptrD g2, .agg #[.int .i64 p.kind, .int .i64 p.n, .int .u8 p.fill, .int .i64 p.short, .slice ks kn kc, .int .i64 p.torn, .int .i64 p.cut]] w (StepQ N w g1 g2 (stepD d p)) := by
  by_cases h1 : p.kind = 1
  · by_cases hs : p.short > 0
    · exact step_writeS N T1 T2 w g1 g2 d p ks kn kc hkv h ok op h1 hs
    · exact step_write N T1 T2 w g1 g2 d p ks kn kc hkv h ok op h1 hs
  by_cases h2 : p.kind = 2
  · cases hd : d.down with
    | true => exact step_readDown N T1 T2 w g1 g2 d p ks kn kc hkv h ok op h2 hd
    | false =>
      cases hi : hasD d p.n with
      | true => exact step_read N T1 T2 w g1 g2 d p ks kn kc hkv h ok op h2 hd hi
      | false => exact step_readRange N T1 T2 w g1 g2 d p ks kn kc hkv h ok op h2 hd hi
  by_cases h3 : p.kind = 3
  · exact step_sync N T1 T2 w g1 g2 d p ks kn kc hkv h ok op h3
  by_cases h4 : p.kind = 4
  · exact step_arm N T1 T2 w g1 g2 d p ks kn kc hkv h ok op h4
  by_cases h5 : p.kind = 5
  · exact step_crash N T1 T2 w g1 g2 d p ks kn kc hkv h ok op h5 hrow hcap hkl hfar
  exact step_none N T1 T2 w g1 g2 d p ks kn kc hkv h ok op h1 h2 h3 h4 h5
theorem stepD_same (d : DM) (p : OpM) : (stepD d p).sectors = d.sectors ∧ (stepD d p).size = d.size := by
  unfold stepD
  split
  · exact (writeD_same d _ _).2
  · split
    · unfold readD
      split
      · exact ⟨rfl, rfl⟩
      · split <;> exact ⟨rfl, rfl⟩
    · split
      · exact (syncD_same d).2
      · split
        · exact ⟨rfl, rfl⟩
        · split <;> exact ⟨rfl, rfl⟩
theorem OkD.step {d : DM} {p : OpM} {m : Int} (h : OkD d m) (hm : 0 ≤ m) (op : OkO p) : OkD (stepD d p) (m + 1) := by
  unfold stepD
  split
  · exact h.write _ (okB_rep op.fill)
  · split
    · exact h.read hm _
    · split
      · exact h.sync hm
      · split
        · exact (h.arm op.n).mono (by omega)
        · split
          · exact (h.crash hm _ _ _).mono (by omega)
          · exact h.mono (by omega)
set_option maxHeartbeats 4000000 in
set_option maxRecDepth 100000 in
theorem plays_law (s0 z0 : Int) (sv : Value) (L : List OpM) (w : World) (hr : RowO w sv L) (hl : L.length ≤ 9223372036854775807) (hs : rngI s0) (hz : rngI z0) (hop : ∀ p ∈ L, OkO p ∧ CapS p.kv ∧ (p.keep.length ≠ 0 → ∀ k, p.kv.ownBlock = some k → k < w.heap.size)) : Calls Try.prog 3 #[.int .i64 s0, .int .i64 z0, sv] w fun e w' => e = .returned (.bool true) ∧ Below w.heap.size w w' := by
  have HA : AwakeOk := awake_c diskOk
  obtain ⟨ao, ac, rfl⟩ := hr.shape
  by_cases hok : diskOkI s0 z0
  · obtain ⟨h1, h2, h3, h4⟩ := hok
    obtain ⟨s, rfl⟩ : ∃ s : Nat, s0 = (s : Int) := ⟨s0.toNat, by omega⟩
    obtain ⟨z, rfl⟩ : ∃ z : Nat, z0 = (z : Int) := ⟨z0.toNat, by omega⟩
    have HNEW := Lib.hid (diskOk.new (s : Int) (z : Int) w ⟨h1, h2, h3, h4⟩)
    obtain ⟨q, hq⟩ : ∃ q, s * z = q := ⟨_, rfl⟩
    have hqi : (s : Int) * (z : Int) = (q : Int) := by rw [← hq]; simp
    have hqb : q ≤ 4096 * 512 := by rw [← hq]; exact Nat.mul_le_mul (by omega) (by omega)
    have e1 : wrap64 ((s : Int) * (z : Int)) = (q : Int) := by rw [hqi]; exact wrapR _ (by omega) (by omega)
    have HDI : Hid (diskOkI (s : Int) (z : Int) ∧ (s : Int) * (z : Int) = (q : Int)) := ⟨⟨h1, h2, h3, h4⟩, hqi⟩
    have a1 : decide ((s : Int) < 1) = false := by simp; omega
    have a2 : decide ((s : Int) > 4096) = false := by simp; omega
    have a3 : decide ((z : Int) < 16) = false := by simp; omega
    have a4 : decide ((z : Int) > 512) = false := by simp; omega
    have b1 : decide (s < 1) = false := by simp; omega
    have b2 : decide (4096 < s) = false := by simp; omega
    have b3 : decide (z < 16) = false := by simp; omega
    have b4 : decide (512 < z) = false := by simp; omega
    have HR := Lib.hid hr
    have HOP := Lib.hid hop
    have HL := Lib.hid hl
    clear hr hl hs hz hop h1 h2 h3 h4 hq hqi
    go_enter Try.func3, Try.ntmps3
    go_wp2_with fail
    refine (HNEW.out).mono ?_
    rintro e w1 ⟨T1, g1, rfl, ha, hb, hf⟩
    have S0 : Hid (At12 T1 w1 g1 (newD (s : Int) (z : Int)) ∧ Below w.heap.size w w1 ∧ ∀ k, T1 k → w.heap.size ≤ k) := ⟨ha, hb, hf⟩
    clear ha hb hf HNEW
    go_wp2_with fail
    refine (small_c _ L 60 w1 (HR.out.on S0.out.2.1) HL.out (by unfold rngI; omega)).mono ?_
    rintro e w2 ⟨rfl, hb⟩
    have S1 : Hid (At12 T1 w2 g1 (newD (s : Int) (z : Int)) ∧ Below w.heap.size w w2 ∧ ∀ k, T1 k → w.heap.size ≤ k) := ⟨at_keep S0.out.1 (Keep.of_below hb), S0.out.2.1.trans (hb.mono S0.out.2.1.size), S0.out.2.2⟩
    clear hb S0
    cases hsm : smallI L 60
    · go_wp2_with fail
      refine (HA w2).mono ?_
      rintro e w3 ⟨rfl, hb⟩
      have HB9 : Hid (Below w.heap.size w w3) := S1.out.2.1.trans (hb.mono S1.out.2.1.size)
      clear hb
      go_wp2_with fail
      go_ret
      exact ⟨rfl, HB9.out⟩
    by_cases hbig : q > 1000
    · have q1 : decide ((q : Int) > 1000) = true := by simp; omega
      have q2 : decide (1000 < q) = true := by simp; omega
      clear hbig
      go_wp2_with fail
      refine (HA w2).mono ?_
      rintro e w3 ⟨rfl, hb⟩
      have HB9 : Hid (Below w.heap.size w w3) := S1.out.2.1.trans (hb.mono S1.out.2.1.size)
      clear hb
      go_wp2_with fail
      go_ret
      exact ⟨rfl, HB9.out⟩
    have q1 : decide ((q : Int) > 1000) = false := by simp; omega
    have q2 : decide (1000 < q) = false := by simp; omega
    have hlen : L.length ≤ 60 ∧ ∀ p ∈ L, p.keep.length ≤ 100 := by
      unfold smallI at hsm
      rw [Bool.and_eq_true, decide_eq_true_eq, List.all_eq_true] at hsm
      exact ⟨by omega, fun p hp => by simpa using hsm.1 p hp⟩
    have HKL := Lib.hid hlen.2
    have hlen1 := hlen.1
    have O0 : Hid (OkD (newD (s : Int) (z : Int)) 0) := OkD.new HDI.out.1 (by rw [HDI.out.2]; omega) (by omega)
    obtain ⟨n, hn⟩ : ∃ n, L.length = n := ⟨_, rfl⟩
    rw [hn] at HR hlen1 ⊢
    have HNN := Lib.hid (And.intro hn hlen1)
    have hmk := make_b w2 q (by omega)
    have hcells : Array.replicate q (Value.int .u8 0) = (bytV (List.replicate q 0)).toArray := by simp
    obtain ⟨gs, hgs⟩ : ∃ G, w2.heap.size = G := ⟨_, rfl⟩
    obtain ⟨wm, hwm⟩ : ∃ WW, w2.alloc (.cells (Array.replicate q (Value.int .u8 0)) 5) = WW := ⟨_, rfl⟩
    obtain ⟨g2, hg2⟩ : ∃ G, wm.heap.size = G := ⟨_, rfl⟩
    obtain ⟨w3, hw3⟩ : ∃ WW, wm.alloc (.cells #[.slice (some ⟨gs, 0, none⟩) q q, .int .i64 (z : Int), .slice none 0 0, .int .i64 0, .int .i64 0, .bool false, .bool false] 31) = WW := ⟨_, rfl⟩
    have S2 : Hid (∃ T2, Two w.heap.size T1 T2 w3 g1 g2 (newD (s : Int) (z : Int)) (newD (s : Int) (z : Int)) ∧ Below w.heap.size w w3) := by
      have hbm : Below w2.heap.size w2 wm := by rw [← hwm]; exact (Below.refl _ _).alloc (Nat.le_refl _) _
      have hb3 : Below w2.heap.size w2 w3 := by rw [← hw3]; exact hbm.alloc hbm.size _
      have hsm : w2.heap.size < wm.heap.size := by rw [← hwm]; simp
      have hs3 : wm.heap.size < w3.heap.size := by rw [← hw3]; simp
      have hown : OwnB w3 w2.heap.size (.slice (some ⟨gs, 0, none⟩) q q) (List.replicate q 0) := by
        have h0 : OwnB wm w2.heap.size (.slice (some ⟨gs, 0, none⟩) q q) (List.replicate q 0) := by rw [← hwm, ← hgs]; exact OwnB.madeL w2 (Nat.le_refl _) _ q _ hcells (by simp) (by omega)
        rw [← hw3]; exact h0.grow ((Below.refl _ _).alloc (Nat.le_refl _) _)
      have hblk : Blk w3 g2 31 (cellsD (.slice (some ⟨gs, 0, none⟩) q q) (z : Int) (.slice none 0 0) 0 0 false false) := by rw [← hw3, ← hg2]; exact Blk.new _ _ _
      have hT := S1.out.1
      refine ⟨fun k => w2.heap.size ≤ k ∧ k < w3.heap.size, ⟨at_keep hT (Keep.of_below hb3), ⟨[], _, _, ⟨⟨by omega, by omega⟩, hblk, ?_, ?_, World.ownsRow_nil _ _ _ _, fun k e => (by cases e), fun y hy => (by cases hy)⟩, rfl, fun k hk => hk.2⟩, fun k h1 h2 => by have := at_lt hT h1; omega, S1.out.2.2, fun k hk => Nat.le_trans S1.out.2.1.size hk.1, Nat.le_trans S1.out.2.1.size hb3.size⟩, S1.out.2.1.trans (hb3.mono S1.out.2.1.size)⟩
      · show OwnB w3 0 _ (List.replicate ((s : Int) * (z : Int)).toNat 0)
        rw [HDI.out.2, Int.toNat_natCast]
        exact owns_base hown (Nat.zero_le _)
      · exact fun k e => World.ownsRow.lt hown k e
    rw [hwm] at hmk
    clear hwm hcells hbig hlen hlen1 hn hsm
    go_wp2_with fail
    try rw [hw3]
    try rw [hg2]
    clear hmk hw3 hg2 hgs S1 a1 a2 a3 a4 b1 b2 b3 b4 q1 q2 e1
    go_loopw [62] (fun s62 wr => ∃ k : Nat, k ≤ n ∧ s62 = .int .i64 (k : Int) ∧ ∃ d Ta Tb, Hid (Two w.heap.size Ta Tb wr g1 g2 d d ∧ OkD d k ∧ (d.sectors = (s : Int) ∧ d.size = (z : Int)) ∧ Below w.heap.size w wr)) (fun s62 _ => n - (intOf s62).toNat)
    case atStart =>
      obtain ⟨T2, h1, h2⟩ := S2.out
      exact ⟨0, by omega, rfl, _, T1, T2, h1, O0.out, ⟨rfl, rfl⟩, h2⟩
    case round =>
      obtain ⟨k, hk, rfl, d, T1', T2', W⟩ := hrel
      by_cases hlt : k < n
      · have hd : decide ((k : Int) < (n : Int)) = true := by simp; omega
        have hki : (k : Int) < (n : Int) := by omega
        obtain ⟨sb, so, rfl, hsb, hsc⟩ := RowO.addr HR.out (by rw [HNN.out.1]; omega)
        obtain ⟨p, hp⟩ : ∃ p, L[k]? = some p := ⟨_, List.getElem?_eq_getElem (by rw [HNN.out.1]; exact hlt)⟩
        have hmem := List.mem_of_getElem? hp
        obtain ⟨c0, c1, c2, c3, c4, c5, c6⟩ := (hsc k p hp).on W.out.2.2.2 hsb
        obtain ⟨ks, kc, hkv⟩ := (HR.out.2 p hmem).shape
        obtain ⟨kn, hkn⟩ : ∃ x, p.keep.length = x := ⟨_, rfl⟩
        rw [hkn] at hkv
        rw [hkv] at c4
        have HKV := Lib.hid hkv
        have HPO : Hid (OkO p ∧ CapS p.kv ∧ (p.keep.length ≠ 0 → ∀ k, p.kv.ownBlock = some k → k < w.heap.size) ∧ p.keep.length ≤ 1000 ∧ RowT w p.kv p.keep) := ⟨(HOP.out p hmem).1, (HOP.out p hmem).2.1, (HOP.out p hmem).2.2, by have := HKL.out p hmem; omega, HR.out.2 p hmem⟩
        have HOKK : Hid (OkD d 999) := W.out.2.1.mono (by have := HNN.out.2; omega)
        obtain ⟨d', hd'⟩ : ∃ d', stepD d p = d' := ⟨_, rfl⟩
        have HD := Lib.hid hd'
        have HOK1 : Hid (OkD d' ((k + 1 : Nat) : Int)) := by
          have := W.out.2.1.step (by omega) HPO.out.1
          rw [hd'] at this
          exact this
        have HOKD : Hid (OkD d' 1000) := HOK1.out.mono (by have := HNN.out.2; omega)
        have HSS : Hid (d'.sectors = (s : Int) ∧ d'.size = (z : Int)) := by
          rw [← hd', (stepD_same d p).1, (stepD_same d p).2]
          exact W.out.2.2.1
        obtain ⟨wx, hwx⟩ : ∃ WW, wr.alloc (.cells #[.int .i64 p.kind, .int .i64 p.n, .int .u8 p.fill, .int .i64 p.short, .slice ks kn kc, .int .i64 p.torn, .int .i64 p.cut] 34) = WW := ⟨_, rfl⟩
        obtain ⟨Go, hGo⟩ : ∃ G, wr.heap.size = G := ⟨_, rfl⟩
        have HX : Hid (Two w.heap.size T1' T2' wx g1 g2 d d ∧ Blk wx Go 34 (cellsO p) ∧ OkD d 999 ∧ Below w.heap.size w wx) := by
          have hcs : cellsO p = #[.int .i64 p.kind, .int .i64 p.n, .int .u8 p.fill, .int .i64 p.short, .slice ks kn kc, .int .i64 p.torn, .int .i64 p.cut] := by unfold cellsO; rw [hkv]
          rw [← hwx, ← hGo]
          exact ⟨W.out.1.grow ((Below.refl _ _).alloc (Nat.le_refl _) _), by rw [hcs]; exact Blk.new _ _ _, HOKK.out, W.out.2.2.2.alloc W.out.1.sz _⟩
        have HOPB : Hid (∀ A, Below wx.heap.size wx A → Blk A Go 34 (cellsO p)) := fun A hA => HX.out.2.1.grow hA
        have HSTEP : Hid (∀ A, Below wx.heap.size wx A → Calls Try.prog 10 #[ptrD g1, ptrD g2, .agg #[.int .i64 p.kind, .int .i64 p.n, .int .u8 p.fill, .int .i64 p.short, .slice ks kn kc, .int .i64 p.torn, .int .i64 p.cut]] A (StepQ w.heap.size A g1 g2 d')) := fun A hA => by
          have hb := HX.out.2.2.2.trans (hA.mono HX.out.1.sz)
          have h := step_c w.heap.size T1' T2' A g1 g2 d p ks kn kc HKV.out (HX.out.1.grow hA) HX.out.2.2.1 HPO.out.1 (HPO.out.2.2.2.2.far HPO.out.2.2.1 hb) HPO.out.2.1 HPO.out.2.2.2.1 HPO.out.2.2.1
          rw [HD.out] at h
          exact h
        obtain ⟨dn, hdn⟩ : ∃ x, d'.done = x := ⟨_, rfl⟩
        obtain ⟨dw, hdw⟩ : ∃ x, d'.down = x := ⟨_, rfl⟩
        have HDN : Hid (d'.done = dn ∧ d'.down = dw) := ⟨hdn, hdw⟩
        have HDONE : Hid (∀ W Ta Tb, Two w.heap.size Ta Tb W g1 g2 d' d' → Calls Try.prog 11 #[ptrD g1] W fun e w' => e = .returned (.int .i64 dn) ∧ Below W.heap.size W w') := fun W Ta Tb h => by
          have := diskOk.done Ta W g1 d' h.a HOKD.out
          rw [HDN.out.1] at this
          exact this
        have HDOWN : Hid (∀ W Ta Tb, Two w.heap.size Ta Tb W g1 g2 d' d' → Calls Try.prog 12 #[ptrD g1] W fun e w' => e = .returned (.bool dw) ∧ Below W.heap.size W w') := fun W Ta Tb h => by
          have := diskOk.down Ta W g1 d' h.a HOKD.out
          rw [HDN.out.2] at this
          exact this
        have HSECT : Hid (∀ W Ta Tb, Two w.heap.size Ta Tb W g1 g2 d' d' → Calls Try.prog 13 #[ptrD g1] W fun e w' => e = .returned (.int .i64 (s : Int)) ∧ Below W.heap.size W w') := fun W Ta Tb h => by
          have := diskOk.sectors Ta W g1 d' h.a HOKD.out
          rw [HSS.out.1] at this
          exact this
        have HSIZE : Hid (∀ W Ta Tb, Two w.heap.size Ta Tb W g1 g2 d' d' → Calls Try.prog 14 #[ptrD g1] W fun e w' => e = .returned (.int .i64 (z : Int)) ∧ Below W.heap.size W w') := fun W Ta Tb h => by
          have := diskOk.size Ta W g1 d' h.a HOKD.out
          rw [HSS.out.2] at this
          exact this
        have HIMG : Hid (∀ W Ta Tb, Two w.heap.size Ta Tb W g1 g2 d' d' → Calls Try.prog 15 #[ptrD g1] W fun e w' => ∃ v, e = .returned v ∧ OwnB w' W.heap.size v (nowD d') ∧ Below W.heap.size W w') := fun W Ta Tb h => diskOk.image Ta W g1 d' h.a HOKD.out
        have HNOWC : Hid (∀ W Ta Tb, Two w.heap.size Ta Tb W g1 g2 d' d' → Calls Try.prog 16 #[ptrD g2] W fun e w' => ∃ v, e = .returned v ∧ OwnB w' W.heap.size v (nowD d') ∧ Below W.heap.size W w') := fun W Ta Tb h => rNow_c Tb W g2 d' h.b HOKD.out
        have HNOK : Hid (OkB (nowD d')) := nowM_ok _ _ _ HOKD.out.byts fun x hx => (HOKD.out.wait x hx).2.2.2
        obtain ⟨qs, hqs⟩ : ∃ qs, strI (nowD d') = qs := ⟨_, rfl⟩
        have HQS := Lib.hid hqs
        clear hsb hsc hp hmem hkv hkn hd' hdn hdw hqs W S2
        go_upto_region 10 with fail
        try rw [hwx]
        try rw [hGo]
        clear hwx hGo c0 c1 c2 c3 c4 c5 c6
        refine wp_region_put3 (by kernel_rfl) (by kernel_rfl) (by kernel_rfl) (fun b' vs w' => (b' 0 = true → vs 0 = ptrD g1) ∧ (b' 1 = true → vs 1 = ptrD g2) ∧ (b' 2 = true → vs 2 = .agg #[.int .i64 p.kind, .int .i64 p.n, .int .u8 p.fill, .int .i64 p.short, .slice ks kn kc, .int .i64 p.torn, .int .i64 p.cut]) ∧ (b' 3 = true → vs 3 = .bool true) ∧ (b' 4 = true → vs 4 = .bool false) ∧ (b' 5 = true → vs 5 = .bool false) ∧ (b' 6 = true → vs 6 = ptrD g1) ∧ (b' 7 = true → vs 7 = .int .i64 dn) ∧ (b' 8 = true → vs 8 = ptrD g2) ∧ (b' 9 = true → vs 9 = .pointer (some ⟨g2, 0, none⟩)) ∧ (b' 10 = true → vs 10 = .pointer (some ⟨g2, 4, none⟩)) ∧ (b' 11 = true → vs 11 = .int .i64 dn) ∧ (b' 12 = true → vs 12 = .bool false) ∧ (b' 13 = true → vs 13 = .bool false) ∧ (b' 14 = true → vs 14 = .bool false) ∧ (b' 15 = true → vs 15 = ptrD g1) ∧ (b' 16 = true → vs 16 = .bool dw) ∧ (b' 17 = true → vs 17 = ptrD g2) ∧ (b' 18 = true → vs 18 = .pointer (some ⟨g2, 0, none⟩)) ∧ (b' 19 = true → vs 19 = .pointer (some ⟨g2, 6, none⟩)) ∧ (b' 20 = true → vs 20 = .bool dw) ∧ (b' 21 = true → vs 21 = .bool false) ∧ (b' 22 = true → vs 22 = .bool false) ∧ (b' 23 = true → vs 23 = .bool false) ∧ (b' 24 = true → vs 24 = ptrD g1) ∧ (b' 25 = true → vs 25 = .int .i64 (s : Int)) ∧ (b' 26 = true → vs 26 = .int .i64 (s : Int)) ∧ (b' 27 = true → vs 27 = .bool false) ∧ (b' 28 = true → vs 28 = .bool false) ∧ (b' 29 = true → vs 29 = .bool false) ∧ (b' 30 = true → vs 30 = ptrD g1) ∧ (b' 31 = true → vs 31 = .int .i64 (z : Int)) ∧ (b' 32 = true → vs 32 = .int .i64 (z : Int)) ∧ (b' 33 = true → vs 33 = .bool false) ∧ (b' 34 = true → vs 34 = .bool false) ∧ (b' 35 = true → vs 35 = .bool false) ∧ (b' 36 = true → vs 36 = ptrD g1) ∧ (b' 38 = true → vs 38 = .string qs) ∧ (b' 39 = true → vs 39 = ptrD g2) ∧ (b' 41 = true → vs 41 = .string qs) ∧ (b' 42 = true → vs 42 = .bool false) ∧ (b' 43 = true → vs 43 = .bool false) ∧ (b' 37 = true → Hid (RowB w' (vs 37) (nowD d'))) ∧ (b' 40 = true → Hid (RowB w' (vs 40) (nowD d'))) ∧ (b' 3 = false → Hid (Below wx.heap.size wx w')) ∧ (b' 3 = true → Hid (∃ Ta Tb, Two w.heap.size Ta Tb w' g1 g2 d' d' ∧ Below w.heap.size w w')) ∧ (b' 3 = true → b' 2 = true) ∧ (b' 4 = true → b' 3 = true) ∧ (b' 5 = true → b' 3 = true) ∧ (b' 6 = true → b' 3 = true) ∧ (b' 7 = true → b' 3 = true) ∧ (b' 8 = true → b' 3 = true) ∧ (b' 9 = true → b' 3 = true) ∧ (b' 10 = true → b' 3 = true) ∧ (b' 11 = true → b' 3 = true) ∧ (b' 12 = true → b' 3 = true) ∧ (b' 13 = true → b' 3 = true) ∧ (b' 14 = true → b' 3 = true) ∧ (b' 15 = true → b' 3 = true) ∧ (b' 16 = true → b' 3 = true) ∧ (b' 17 = true → b' 3 = true) ∧ (b' 18 = true → b' 3 = true) ∧ (b' 19 = true → b' 3 = true) ∧ (b' 20 = true → b' 3 = true) ∧ (b' 21 = true → b' 3 = true) ∧ (b' 22 = true → b' 3 = true) ∧ (b' 23 = true → b' 3 = true) ∧ (b' 24 = true → b' 3 = true) ∧ (b' 25 = true → b' 3 = true) ∧ (b' 26 = true → b' 3 = true) ∧ (b' 27 = true → b' 3 = true) ∧ (b' 28 = true → b' 3 = true) ∧ (b' 29 = true → b' 3 = true) ∧ (b' 30 = true → b' 3 = true) ∧ (b' 31 = true → b' 3 = true) ∧ (b' 32 = true → b' 3 = true) ∧ (b' 33 = true → b' 3 = true) ∧ (b' 34 = true → b' 3 = true) ∧ (b' 35 = true → b' 3 = true) ∧ (b' 36 = true → b' 3 = true) ∧ (b' 37 = true → b' 3 = true) ∧ (b' 38 = true → b' 3 = true) ∧ (b' 39 = true → b' 3 = true) ∧ (b' 40 = true → b' 3 = true) ∧ (b' 41 = true → b' 3 = true) ∧ (b' 42 = true → b' 3 = true) ∧ (b' 43 = true → b' 3 = true)) ?_ ?_ ?_
        · intro vs
          exact ⟨fun h => Bool.noConfusion h, fun h => Bool.noConfusion h, fun h => Bool.noConfusion h, fun h => Bool.noConfusion h, fun h => Bool.noConfusion h, fun h => Bool.noConfusion h, fun h => Bool.noConfusion h, fun h => Bool.noConfusion h, fun h => Bool.noConfusion h, fun h => Bool.noConfusion h, fun h => Bool.noConfusion h, fun h => Bool.noConfusion h, fun h => Bool.noConfusion h, fun h => Bool.noConfusion h, fun h => Bool.noConfusion h, fun h => Bool.noConfusion h, fun h => Bool.noConfusion h, fun h => Bool.noConfusion h, fun h => Bool.noConfusion h, fun h => Bool.noConfusion h, fun h => Bool.noConfusion h, fun h => Bool.noConfusion h, fun h => Bool.noConfusion h, fun h => Bool.noConfusion h, fun h => Bool.noConfusion h, fun h => Bool.noConfusion h, fun h => Bool.noConfusion h, fun h => Bool.noConfusion h, fun h => Bool.noConfusion h, fun h => Bool.noConfusion h, fun h => Bool.noConfusion h, fun h => Bool.noConfusion h, fun h => Bool.noConfusion h, fun h => Bool.noConfusion h, fun h => Bool.noConfusion h, fun h => Bool.noConfusion h, fun h => Bool.noConfusion h, fun h => Bool.noConfusion h, fun h => Bool.noConfusion h, fun h => Bool.noConfusion h, fun h => Bool.noConfusion h, fun h => Bool.noConfusion h, fun h => Bool.noConfusion h, fun h => Bool.noConfusion h, fun _ => Lib.hid (below_drewN (Below.refl _ _) 1), fun h => Bool.noConfusion h, fun h => Bool.noConfusion h, fun h => Bool.noConfusion h, fun h => Bool.noConfusion h, fun h => Bool.noConfusion h, fun h => Bool.noConfusion h, fun h => Bool.noConfusion h, fun h => Bool.noConfusion h, fun h => Bool.noConfusion h, fun h => Bool.noConfusion h, fun h => Bool.noConfusion h, fun h => Bool.noConfusion h, fun h => Bool.noConfusion h, fun h => Bool.noConfusion h, fun h => Bool.noConfusion h, fun h => Bool.noConfusion h, fun h => Bool.noConfusion h, fun h => Bool.noConfusion h, fun h => Bool.noConfusion h, fun h => Bool.noConfusion h, fun h => Bool.noConfusion h, fun h => Bool.noConfusion h, fun h => Bool.noConfusion h, fun h => Bool.noConfusion h, fun h => Bool.noConfusion h, fun h => Bool.noConfusion h, fun h => Bool.noConfusion h, fun h => Bool.noConfusion h, fun h => Bool.noConfusion h, fun h => Bool.noConfusion h, fun h => Bool.noConfusion h, fun h => Bool.noConfusion h, fun h => Bool.noConfusion h, fun h => Bool.noConfusion h, fun h => Bool.noConfusion h, fun h => Bool.noConfusion h, fun h => Bool.noConfusion h, fun h => Bool.noConfusion h, fun h => Bool.noConfusion h, fun h => Bool.noConfusion h, fun h => Bool.noConfusion h, fun h => Bool.noConfusion h⟩
        · rintro b' vs w' i op hi hun hall ⟨h0, h1, h2, h3, h4, h5, h6, h7, h8, h9, h10, h11, h12, h13, h14, h15, h16, h17, h18, h19, h20, h21, h22, h23, h24, h25, h26, h27, h28, h29, h30, h31, h32, h33, h34, h35, h36, h38, h39, h41, h42, h43, y37, y40, hB, hF, hX2, hW4, hW5, hW6, hW7, hW8, hW9, hW10, hW11, hW12, hW13, hW14, hW15, hW16, hW17, hW18, hW19, hW20, hW21, hW22, hW23, hW24, hW25, hW26, hW27, hW28, hW29, hW30, hW31, hW32, hW33, hW34, hW35, hW36, hW37, hW38, hW39, hW40, hW41, hW42, hW43⟩
          have hil : i < 44 := (List.getElem?_eq_some_iff.1 hi).1
          rcases i with _ | _ | _ | _ | _ | _ | _ | _ | _ | _ | _ | _ | _ | _ | _ | _ | _ | _ | _ | _ | _ | _ | _ | _ | _ | _ | _ | _ | _ | _ | _ | _ | _ | _ | _ | _ | _ | _ | _ | _ | _ | _ | _ | _ | i
          · obtain rfl := Option.some.inj hi
            clear hi hil
            refine StepOk.plain rfl (fun K hK => ?_)
            have HKK := Lib.hid hK; clear hK
            simp only [putAll, Act.put, List.setIfInBounds_toArray, List.set_cons_zero, List.set_cons_succ]
            go_simp
            exact HKK.out _ _ ⟨_, by simp only [putAll, Act.put, List.setIfInBounds_toArray, List.set_cons_zero, List.set_cons_succ] <;> rfl, fun _ => rfl, h1, h2, h3, h4, h5, h6, h7, h8, h9, h10, h11, h12, h13, h14, h15, h16, h17, h18, h19, h20, h21, h22, h23, h24, h25, h26, h27, h28, h29, h30, h31, h32, h33, h34, h35, h36, h38, h39, h41, h42, h43, y37, y40, hB, hF, hX2, hW4, hW5, hW6, hW7, hW8, hW9, hW10, hW11, hW12, hW13, hW14, hW15, hW16, hW17, hW18, hW19, hW20, hW21, hW22, hW23, hW24, hW25, hW26, hW27, hW28, hW29, hW30, hW31, hW32, hW33, hW34, hW35, hW36, hW37, hW38, hW39, hW40, hW41, hW42, hW43⟩
          · obtain rfl := Option.some.inj hi
            clear hi hil
            refine StepOk.plain rfl (fun K hK => ?_)
            have HKK := Lib.hid hK; clear hK
            simp only [putAll, Act.put, List.setIfInBounds_toArray, List.set_cons_zero, List.set_cons_succ]
            go_simp
            exact HKK.out _ _ ⟨_, by simp only [putAll, Act.put, List.setIfInBounds_toArray, List.set_cons_zero, List.set_cons_succ] <;> rfl, h0, fun _ => rfl, h2, h3, h4, h5, h6, h7, h8, h9, h10, h11, h12, h13, h14, h15, h16, h17, h18, h19, h20, h21, h22, h23, h24, h25, h26, h27, h28, h29, h30, h31, h32, h33, h34, h35, h36, h38, h39, h41, h42, h43, y37, y40, hB, hF, hX2, hW4, hW5, hW6, hW7, hW8, hW9, hW10, hW11, hW12, hW13, hW14, hW15, hW16, hW17, hW18, hW19, hW20, hW21, hW22, hW23, hW24, hW25, hW26, hW27, hW28, hW29, hW30, hW31, hW32, hW33, hW34, hW35, hW36, hW37, hW38, hW39, hW40, hW41, hW42, hW43⟩
          · obtain rfl := Option.some.inj hi
            clear hi hil
            obtain ⟨k0, k1, k2, k3, k4, k5, k6⟩ := (HOPB.out w' (hB (by cases hz : b' 3 with | false => rfl | true => exact absurd (hX2 hz) (by rw [hun]; decide))).out).o7
            rw [HKV.out] at k4
            refine StepOk.plain rfl (fun K hK => ?_)
            have HKK := Lib.hid hK; clear hK
            simp only [putAll, Act.put, List.setIfInBounds_toArray, List.set_cons_zero, List.set_cons_succ]
            go_simp
            exact HKK.out _ _ ⟨_, by simp only [putAll, Act.put, List.setIfInBounds_toArray, List.set_cons_zero, List.set_cons_succ] <;> rfl, h0, h1, fun _ => rfl, h3, h4, h5, h6, h7, h8, h9, h10, h11, h12, h13, h14, h15, h16, h17, h18, h19, h20, h21, h22, h23, h24, h25, h26, h27, h28, h29, h30, h31, h32, h33, h34, h35, h36, h38, h39, h41, h42, h43, y37, y40, hB, hF, fun _ => rfl, hW4, hW5, hW6, hW7, hW8, hW9, hW10, hW11, hW12, hW13, hW14, hW15, hW16, hW17, hW18, hW19, hW20, hW21, hW22, hW23, hW24, hW25, hW26, hW27, hW28, hW29, hW30, hW31, hW32, hW33, hW34, hW35, hW36, hW37, hW38, hW39, hW40, hW41, hW42, hW43⟩
          · obtain rfl := Option.some.inj hi
            clear hi hil
            have d0 := h0 (hall ⟨0, .data⟩ (by simp) rfl)
            have d1 := h1 (hall ⟨1, .data⟩ (by simp) rfl)
            have d2 := h2 (hall ⟨2, .data⟩ (by simp) rfl)
            have hS := hB hun
            refine StepOk.plain rfl (fun K hK => ?_)
            have HKK := Lib.hid hK; clear hK
            simp only [putAll, Act.put, List.setIfInBounds_toArray, List.set_cons_zero, List.set_cons_succ]
            go_simp
            refine (HSTEP.out w' hS.out).mono ?_
            rintro e w2' ⟨rfl, ⟨Ta, Tb, hta⟩, htb⟩
            exact HKK.out _ _ ⟨_, by simp only [putAll, Act.put, List.setIfInBounds_toArray, List.set_cons_zero, List.set_cons_succ, d0, d1, d2] <;> rfl, h0, h1, h2, fun _ => rfl, h4, h5, h6, h7, h8, h9, h10, h11, h12, h13, h14, h15, h16, h17, h18, h19, h20, h21, h22, h23, h24, h25, h26, h27, h28, h29, h30, h31, h32, h33, h34, h35, h36, h38, h39, h41, h42, h43, fun h => absurd (hW37 h) (by rw [hun]; decide), fun h => absurd (hW40 h) (by rw [hun]; decide), fun h => Bool.noConfusion h, fun _ => Lib.hid (⟨Ta, Tb, hta, HX.out.2.2.2.trans ((hS.out.mono HX.out.1.sz).trans htb)⟩), fun _ => hall ⟨2, .data⟩ (by simp) rfl, fun _ => rfl, fun _ => rfl, fun _ => rfl, fun _ => rfl, fun _ => rfl, fun _ => rfl, fun _ => rfl, fun _ => rfl, fun _ => rfl, fun _ => rfl, fun _ => rfl, fun _ => rfl, fun _ => rfl, fun _ => rfl, fun _ => rfl, fun _ => rfl, fun _ => rfl, fun _ => rfl, fun _ => rfl, fun _ => rfl, fun _ => rfl, fun _ => rfl, fun _ => rfl, fun _ => rfl, fun _ => rfl, fun _ => rfl, fun _ => rfl, fun _ => rfl, fun _ => rfl, fun _ => rfl, fun _ => rfl, fun _ => rfl, fun _ => rfl, fun _ => rfl, fun _ => rfl, fun _ => rfl, fun _ => rfl, fun _ => rfl, fun _ => rfl, fun _ => rfl⟩
          · obtain rfl := Option.some.inj hi
            clear hi hil
            have d3 := h3 (hall ⟨3, .data⟩ (by simp) rfl)
            have tA : b' 3 = true := hall ⟨3, .data⟩ (by simp) rfl
            have hS := hF tA
            have hTA := Lib.hid tA
            clear tA
            refine StepOk.plain rfl (fun K hK => ?_)
            have HKK := Lib.hid hK; clear hK
            simp only [putAll, Act.put, List.setIfInBounds_toArray, List.set_cons_zero, List.set_cons_succ]
            go_simp
            exact HKK.out _ _ ⟨_, by simp only [putAll, Act.put, List.setIfInBounds_toArray, List.set_cons_zero, List.set_cons_succ, d3] <;> rfl, h0, h1, h2, h3, fun _ => rfl, h5, h6, h7, h8, h9, h10, h11, h12, h13, h14, h15, h16, h17, h18, h19, h20, h21, h22, h23, h24, h25, h26, h27, h28, h29, h30, h31, h32, h33, h34, h35, h36, h38, h39, h41, h42, h43, y37, y40, hB, hF, hX2, fun _ => hTA.out, hW5, hW6, hW7, hW8, hW9, hW10, hW11, hW12, hW13, hW14, hW15, hW16, hW17, hW18, hW19, hW20, hW21, hW22, hW23, hW24, hW25, hW26, hW27, hW28, hW29, hW30, hW31, hW32, hW33, hW34, hW35, hW36, hW37, hW38, hW39, hW40, hW41, hW42, hW43⟩
          · obtain rfl := Option.some.inj hi
            clear hi hil
            have d4 := h4 (hall ⟨4, .data⟩ (by simp) rfl)
            have tA : b' 3 = true := hW4 (hall ⟨4, .data⟩ (by simp) rfl)
            have hS := hF tA
            have hTA := Lib.hid tA
            clear tA
            refine StepOk.plain rfl (fun K hK => ?_)
            have HKK := Lib.hid hK; clear hK
            simp only [putAll, Act.put, List.setIfInBounds_toArray, List.set_cons_zero, List.set_cons_succ]
            go_simp
            exact HKK.out _ _ ⟨_, by simp only [putAll, Act.put, List.setIfInBounds_toArray, List.set_cons_zero, List.set_cons_succ, d4] <;> rfl, h0, h1, h2, h3, h4, fun _ => rfl, h6, h7, h8, h9, h10, h11, h12, h13, h14, h15, h16, h17, h18, h19, h20, h21, h22, h23, h24, h25, h26, h27, h28, h29, h30, h31, h32, h33, h34, h35, h36, h38, h39, h41, h42, h43, y37, y40, hB, hF, hX2, hW4, fun _ => hTA.out, hW6, hW7, hW8, hW9, hW10, hW11, hW12, hW13, hW14, hW15, hW16, hW17, hW18, hW19, hW20, hW21, hW22, hW23, hW24, hW25, hW26, hW27, hW28, hW29, hW30, hW31, hW32, hW33, hW34, hW35, hW36, hW37, hW38, hW39, hW40, hW41, hW42, hW43⟩
          · obtain rfl := Option.some.inj hi
            clear hi hil
            have d5 := h5 (hall ⟨5, .guard⟩ (by simp) rfl)
            have tA : b' 3 = true := hW5 (hall ⟨5, .guard⟩ (by simp) rfl)
            have hS := hF tA
            have hTA := Lib.hid tA
            clear tA
            refine StepOk.on 5 false rfl rfl d5 (fun K hK => ?_)
            have HKK := Lib.hid hK; clear hK
            simp only [putAll, Act.put, List.setIfInBounds_toArray, List.set_cons_zero, List.set_cons_succ]
            go_simp
            exact HKK.out _ _ ⟨_, by simp only [putAll, Act.put, List.setIfInBounds_toArray, List.set_cons_zero, List.set_cons_succ, d5] <;> rfl, h0, h1, h2, h3, h4, h5, fun _ => rfl, h7, h8, h9, h10, h11, h12, h13, h14, h15, h16, h17, h18, h19, h20, h21, h22, h23, h24, h25, h26, h27, h28, h29, h30, h31, h32, h33, h34, h35, h36, h38, h39, h41, h42, h43, y37, y40, hB, hF, hX2, hW4, hW5, fun _ => hTA.out, hW7, hW8, hW9, hW10, hW11, hW12, hW13, hW14, hW15, hW16, hW17, hW18, hW19, hW20, hW21, hW22, hW23, hW24, hW25, hW26, hW27, hW28, hW29, hW30, hW31, hW32, hW33, hW34, hW35, hW36, hW37, hW38, hW39, hW40, hW41, hW42, hW43⟩
          · obtain rfl := Option.some.inj hi
            clear hi hil
            have d6 := h6 (hall ⟨6, .data⟩ (by simp) rfl)
            have d5 := h5 (hall ⟨5, .guard⟩ (by simp) rfl)
            have tA : b' 3 = true := hW6 (hall ⟨6, .data⟩ (by simp) rfl)
            have hS := hF tA
            have hTA := Lib.hid tA
            clear tA
            obtain ⟨Ta, Tb, HT, HBl⟩ := hS.out
            refine StepOk.on 5 false rfl rfl d5 (fun K hK => ?_)
            have HKK := Lib.hid hK; clear hK
            simp only [putAll, Act.put, List.setIfInBounds_toArray, List.set_cons_zero, List.set_cons_succ]
            go_simp
            refine (HDONE.out w' Ta Tb HT).mono ?_
            rintro e w2' ⟨rfl, hb2⟩
            exact HKK.out _ _ ⟨_, by simp only [putAll, Act.put, List.setIfInBounds_toArray, List.set_cons_zero, List.set_cons_succ, d6, d5] <;> rfl, h0, h1, h2, h3, h4, h5, h6, fun _ => rfl, h8, h9, h10, h11, h12, h13, h14, h15, h16, h17, h18, h19, h20, h21, h22, h23, h24, h25, h26, h27, h28, h29, h30, h31, h32, h33, h34, h35, h36, h38, h39, h41, h42, h43, fun h => Lib.hid ((y37 h).out.on hb2), fun h => Lib.hid ((y40 h).out.on hb2), fun h => absurd (show b' 3 = false from h) (by rw [hTA.out]; decide), fun _ => Lib.hid (⟨Ta, Tb, HT.grow hb2, HBl.trans (hb2.mono HT.sz)⟩), hX2, hW4, hW5, hW6, fun _ => hTA.out, hW8, hW9, hW10, hW11, hW12, hW13, hW14, hW15, hW16, hW17, hW18, hW19, hW20, hW21, hW22, hW23, hW24, hW25, hW26, hW27, hW28, hW29, hW30, hW31, hW32, hW33, hW34, hW35, hW36, hW37, hW38, hW39, hW40, hW41, hW42, hW43⟩
          · obtain rfl := Option.some.inj hi
            clear hi hil
            have d5 := h5 (hall ⟨5, .guard⟩ (by simp) rfl)
            have tA : b' 3 = true := hW5 (hall ⟨5, .guard⟩ (by simp) rfl)
            have hS := hF tA
            have hTA := Lib.hid tA
            clear tA
            refine StepOk.on 5 false rfl rfl d5 (fun K hK => ?_)
            have HKK := Lib.hid hK; clear hK
            simp only [putAll, Act.put, List.setIfInBounds_toArray, List.set_cons_zero, List.set_cons_succ]
            go_simp
            exact HKK.out _ _ ⟨_, by simp only [putAll, Act.put, List.setIfInBounds_toArray, List.set_cons_zero, List.set_cons_succ, d5] <;> rfl, h0, h1, h2, h3, h4, h5, h6, h7, fun _ => rfl, h9, h10, h11, h12, h13, h14, h15, h16, h17, h18, h19, h20, h21, h22, h23, h24, h25, h26, h27, h28, h29, h30, h31, h32, h33, h34, h35, h36, h38, h39, h41, h42, h43, y37, y40, hB, hF, hX2, hW4, hW5, hW6, hW7, fun _ => hTA.out, hW9, hW10, hW11, hW12, hW13, hW14, hW15, hW16, hW17, hW18, hW19, hW20, hW21, hW22, hW23, hW24, hW25, hW26, hW27, hW28, hW29, hW30, hW31, hW32, hW33, hW34, hW35, hW36, hW37, hW38, hW39, hW40, hW41, hW42, hW43⟩
          · obtain rfl := Option.some.inj hi
            clear hi hil
            have d8 := h8 (hall ⟨8, .data⟩ (by simp) rfl)
            have d5 := h5 (hall ⟨5, .guard⟩ (by simp) rfl)
            have tA : b' 3 = true := hW8 (hall ⟨8, .data⟩ (by simp) rfl)
            have hS := hF tA
            have hTA := Lib.hid tA
            clear tA
            refine StepOk.on 5 false rfl rfl d5 (fun K hK => ?_)
            have HKK := Lib.hid hK; clear hK
            simp only [putAll, Act.put, List.setIfInBounds_toArray, List.set_cons_zero, List.set_cons_succ]
            go_simp
            exact HKK.out _ _ ⟨_, by simp only [putAll, Act.put, List.setIfInBounds_toArray, List.set_cons_zero, List.set_cons_succ, d8, d5] <;> rfl, h0, h1, h2, h3, h4, h5, h6, h7, h8, fun _ => rfl, h10, h11, h12, h13, h14, h15, h16, h17, h18, h19, h20, h21, h22, h23, h24, h25, h26, h27, h28, h29, h30, h31, h32, h33, h34, h35, h36, h38, h39, h41, h42, h43, y37, y40, hB, hF, hX2, hW4, hW5, hW6, hW7, hW8, fun _ => hTA.out, hW10, hW11, hW12, hW13, hW14, hW15, hW16, hW17, hW18, hW19, hW20, hW21, hW22, hW23, hW24, hW25, hW26, hW27, hW28, hW29, hW30, hW31, hW32, hW33, hW34, hW35, hW36, hW37, hW38, hW39, hW40, hW41, hW42, hW43⟩
          · obtain rfl := Option.some.inj hi
            clear hi hil
            have d9 := h9 (hall ⟨9, .data⟩ (by simp) rfl)
            have d5 := h5 (hall ⟨5, .guard⟩ (by simp) rfl)
            have tA : b' 3 = true := hW9 (hall ⟨9, .data⟩ (by simp) rfl)
            have hS := hF tA
            have hTA := Lib.hid tA
            clear tA
            refine StepOk.on 5 false rfl rfl d5 (fun K hK => ?_)
            have HKK := Lib.hid hK; clear hK
            simp only [putAll, Act.put, List.setIfInBounds_toArray, List.set_cons_zero, List.set_cons_succ]
            go_simp
            exact HKK.out _ _ ⟨_, by simp only [putAll, Act.put, List.setIfInBounds_toArray, List.set_cons_zero, List.set_cons_succ, d9, d5] <;> rfl, h0, h1, h2, h3, h4, h5, h6, h7, h8, h9, fun _ => rfl, h11, h12, h13, h14, h15, h16, h17, h18, h19, h20, h21, h22, h23, h24, h25, h26, h27, h28, h29, h30, h31, h32, h33, h34, h35, h36, h38, h39, h41, h42, h43, y37, y40, hB, hF, hX2, hW4, hW5, hW6, hW7, hW8, hW9, fun _ => hTA.out, hW11, hW12, hW13, hW14, hW15, hW16, hW17, hW18, hW19, hW20, hW21, hW22, hW23, hW24, hW25, hW26, hW27, hW28, hW29, hW30, hW31, hW32, hW33, hW34, hW35, hW36, hW37, hW38, hW39, hW40, hW41, hW42, hW43⟩
          · obtain rfl := Option.some.inj hi
            clear hi hil
            have d10 := h10 (hall ⟨10, .data⟩ (by simp) rfl)
            have d5 := h5 (hall ⟨5, .guard⟩ (by simp) rfl)
            have tA : b' 3 = true := hW10 (hall ⟨10, .data⟩ (by simp) rfl)
            have hS := hF tA
            have hTA := Lib.hid tA
            clear tA
            obtain ⟨Ta, Tb, HT, HBl⟩ := hS.out
            obtain ⟨_, _, _, y1, y2, y4, y6, _⟩ := HT.b.r7
            rw [HDN.out.1] at y4
            refine StepOk.on 5 false rfl rfl d5 (fun K hK => ?_)
            have HKK := Lib.hid hK; clear hK
            simp only [putAll, Act.put, List.setIfInBounds_toArray, List.set_cons_zero, List.set_cons_succ]
            go_simp
            exact HKK.out _ _ ⟨_, by simp only [putAll, Act.put, List.setIfInBounds_toArray, List.set_cons_zero, List.set_cons_succ, d10, d5] <;> rfl, h0, h1, h2, h3, h4, h5, h6, h7, h8, h9, h10, fun _ => rfl, h12, h13, h14, h15, h16, h17, h18, h19, h20, h21, h22, h23, h24, h25, h26, h27, h28, h29, h30, h31, h32, h33, h34, h35, h36, h38, h39, h41, h42, h43, y37, y40, hB, hF, hX2, hW4, hW5, hW6, hW7, hW8, hW9, hW10, fun _ => hTA.out, hW12, hW13, hW14, hW15, hW16, hW17, hW18, hW19, hW20, hW21, hW22, hW23, hW24, hW25, hW26, hW27, hW28, hW29, hW30, hW31, hW32, hW33, hW34, hW35, hW36, hW37, hW38, hW39, hW40, hW41, hW42, hW43⟩
          · obtain rfl := Option.some.inj hi
            clear hi hil
            have d7 := h7 (hall ⟨7, .data⟩ (by simp) rfl)
            have d11 := h11 (hall ⟨11, .data⟩ (by simp) rfl)
            have d5 := h5 (hall ⟨5, .guard⟩ (by simp) rfl)
            have tA : b' 3 = true := hW7 (hall ⟨7, .data⟩ (by simp) rfl)
            have hS := hF tA
            have hTA := Lib.hid tA
            clear tA
            refine StepOk.on 5 false rfl rfl d5 (fun K hK => ?_)
            have HKK := Lib.hid hK; clear hK
            simp only [putAll, Act.put, List.setIfInBounds_toArray, List.set_cons_zero, List.set_cons_succ]
            go_simp
            exact HKK.out _ _ ⟨_, by simp only [putAll, Act.put, List.setIfInBounds_toArray, List.set_cons_zero, List.set_cons_succ, d7, d11, d5] <;> rfl, h0, h1, h2, h3, h4, h5, h6, h7, h8, h9, h10, h11, fun _ => rfl, h13, h14, h15, h16, h17, h18, h19, h20, h21, h22, h23, h24, h25, h26, h27, h28, h29, h30, h31, h32, h33, h34, h35, h36, h38, h39, h41, h42, h43, y37, y40, hB, hF, hX2, hW4, hW5, hW6, hW7, hW8, hW9, hW10, hW11, fun _ => hTA.out, hW13, hW14, hW15, hW16, hW17, hW18, hW19, hW20, hW21, hW22, hW23, hW24, hW25, hW26, hW27, hW28, hW29, hW30, hW31, hW32, hW33, hW34, hW35, hW36, hW37, hW38, hW39, hW40, hW41, hW42, hW43⟩
          · obtain rfl := Option.some.inj hi
            clear hi hil
            have d5 := h5 (hall ⟨5, .data⟩ (by simp) rfl)
            have d12 := h12 (hall ⟨12, .data⟩ (by simp) rfl)
            have tA : b' 3 = true := hW5 (hall ⟨5, .data⟩ (by simp) rfl)
            have hS := hF tA
            have hTA := Lib.hid tA
            clear tA
            refine StepOk.plain rfl (fun K hK => ?_)
            have HKK := Lib.hid hK; clear hK
            simp only [putAll, Act.put, List.setIfInBounds_toArray, List.set_cons_zero, List.set_cons_succ]
            go_simp
            exact HKK.out _ _ ⟨_, by simp only [putAll, Act.put, List.setIfInBounds_toArray, List.set_cons_zero, List.set_cons_succ, d5, d12] <;> rfl, h0, h1, h2, h3, h4, h5, h6, h7, h8, h9, h10, h11, h12, fun _ => rfl, h14, h15, h16, h17, h18, h19, h20, h21, h22, h23, h24, h25, h26, h27, h28, h29, h30, h31, h32, h33, h34, h35, h36, h38, h39, h41, h42, h43, y37, y40, hB, hF, hX2, hW4, hW5, hW6, hW7, hW8, hW9, hW10, hW11, hW12, fun _ => hTA.out, hW14, hW15, hW16, hW17, hW18, hW19, hW20, hW21, hW22, hW23, hW24, hW25, hW26, hW27, hW28, hW29, hW30, hW31, hW32, hW33, hW34, hW35, hW36, hW37, hW38, hW39, hW40, hW41, hW42, hW43⟩
          · obtain rfl := Option.some.inj hi
            clear hi hil
            have d13 := h13 (hall ⟨13, .data⟩ (by simp) rfl)
            have tA : b' 3 = true := hW13 (hall ⟨13, .data⟩ (by simp) rfl)
            have hS := hF tA
            have hTA := Lib.hid tA
            clear tA
            refine StepOk.plain rfl (fun K hK => ?_)
            have HKK := Lib.hid hK; clear hK
            simp only [putAll, Act.put, List.setIfInBounds_toArray, List.set_cons_zero, List.set_cons_succ]
            go_simp
            exact HKK.out _ _ ⟨_, by simp only [putAll, Act.put, List.setIfInBounds_toArray, List.set_cons_zero, List.set_cons_succ, d13] <;> rfl, h0, h1, h2, h3, h4, h5, h6, h7, h8, h9, h10, h11, h12, h13, fun _ => rfl, h15, h16, h17, h18, h19, h20, h21, h22, h23, h24, h25, h26, h27, h28, h29, h30, h31, h32, h33, h34, h35, h36, h38, h39, h41, h42, h43, y37, y40, hB, hF, hX2, hW4, hW5, hW6, hW7, hW8, hW9, hW10, hW11, hW12, hW13, fun _ => hTA.out, hW15, hW16, hW17, hW18, hW19, hW20, hW21, hW22, hW23, hW24, hW25, hW26, hW27, hW28, hW29, hW30, hW31, hW32, hW33, hW34, hW35, hW36, hW37, hW38, hW39, hW40, hW41, hW42, hW43⟩
          · obtain rfl := Option.some.inj hi
            clear hi hil
            have d14 := h14 (hall ⟨14, .guard⟩ (by simp) rfl)
            have tA : b' 3 = true := hW14 (hall ⟨14, .guard⟩ (by simp) rfl)
            have hS := hF tA
            have hTA := Lib.hid tA
            clear tA
            refine StepOk.on 14 false rfl rfl d14 (fun K hK => ?_)
            have HKK := Lib.hid hK; clear hK
            simp only [putAll, Act.put, List.setIfInBounds_toArray, List.set_cons_zero, List.set_cons_succ]
            go_simp
            exact HKK.out _ _ ⟨_, by simp only [putAll, Act.put, List.setIfInBounds_toArray, List.set_cons_zero, List.set_cons_succ, d14] <;> rfl, h0, h1, h2, h3, h4, h5, h6, h7, h8, h9, h10, h11, h12, h13, h14, fun _ => rfl, h16, h17, h18, h19, h20, h21, h22, h23, h24, h25, h26, h27, h28, h29, h30, h31, h32, h33, h34, h35, h36, h38, h39, h41, h42, h43, y37, y40, hB, hF, hX2, hW4, hW5, hW6, hW7, hW8, hW9, hW10, hW11, hW12, hW13, hW14, fun _ => hTA.out, hW16, hW17, hW18, hW19, hW20, hW21, hW22, hW23, hW24, hW25, hW26, hW27, hW28, hW29, hW30, hW31, hW32, hW33, hW34, hW35, hW36, hW37, hW38, hW39, hW40, hW41, hW42, hW43⟩
          · obtain rfl := Option.some.inj hi
            clear hi hil
            have d15 := h15 (hall ⟨15, .data⟩ (by simp) rfl)
            have d14 := h14 (hall ⟨14, .guard⟩ (by simp) rfl)
            have tA : b' 3 = true := hW15 (hall ⟨15, .data⟩ (by simp) rfl)
            have hS := hF tA
            have hTA := Lib.hid tA
            clear tA
            obtain ⟨Ta, Tb, HT, HBl⟩ := hS.out
            refine StepOk.on 14 false rfl rfl d14 (fun K hK => ?_)
            have HKK := Lib.hid hK; clear hK
            simp only [putAll, Act.put, List.setIfInBounds_toArray, List.set_cons_zero, List.set_cons_succ]
            go_simp
            refine (HDOWN.out w' Ta Tb HT).mono ?_
            rintro e w2' ⟨rfl, hb2⟩
            exact HKK.out _ _ ⟨_, by simp only [putAll, Act.put, List.setIfInBounds_toArray, List.set_cons_zero, List.set_cons_succ, d15, d14] <;> rfl, h0, h1, h2, h3, h4, h5, h6, h7, h8, h9, h10, h11, h12, h13, h14, h15, fun _ => rfl, h17, h18, h19, h20, h21, h22, h23, h24, h25, h26, h27, h28, h29, h30, h31, h32, h33, h34, h35, h36, h38, h39, h41, h42, h43, fun h => Lib.hid ((y37 h).out.on hb2), fun h => Lib.hid ((y40 h).out.on hb2), fun h => absurd (show b' 3 = false from h) (by rw [hTA.out]; decide), fun _ => Lib.hid (⟨Ta, Tb, HT.grow hb2, HBl.trans (hb2.mono HT.sz)⟩), hX2, hW4, hW5, hW6, hW7, hW8, hW9, hW10, hW11, hW12, hW13, hW14, hW15, fun _ => hTA.out, hW17, hW18, hW19, hW20, hW21, hW22, hW23, hW24, hW25, hW26, hW27, hW28, hW29, hW30, hW31, hW32, hW33, hW34, hW35, hW36, hW37, hW38, hW39, hW40, hW41, hW42, hW43⟩
          · obtain rfl := Option.some.inj hi
            clear hi hil
            have d14 := h14 (hall ⟨14, .guard⟩ (by simp) rfl)
            have tA : b' 3 = true := hW14 (hall ⟨14, .guard⟩ (by simp) rfl)
            have hS := hF tA
            have hTA := Lib.hid tA
            clear tA
            refine StepOk.on 14 false rfl rfl d14 (fun K hK => ?_)
            have HKK := Lib.hid hK; clear hK
            simp only [putAll, Act.put, List.setIfInBounds_toArray, List.set_cons_zero, List.set_cons_succ]
            go_simp
            exact HKK.out _ _ ⟨_, by simp only [putAll, Act.put, List.setIfInBounds_toArray, List.set_cons_zero, List.set_cons_succ, d14] <;> rfl, h0, h1, h2, h3, h4, h5, h6, h7, h8, h9, h10, h11, h12, h13, h14, h15, h16, fun _ => rfl, h18, h19, h20, h21, h22, h23, h24, h25, h26, h27, h28, h29, h30, h31, h32, h33, h34, h35, h36, h38, h39, h41, h42, h43, y37, y40, hB, hF, hX2, hW4, hW5, hW6, hW7, hW8, hW9, hW10, hW11, hW12, hW13, hW14, hW15, hW16, fun _ => hTA.out, hW18, hW19, hW20, hW21, hW22, hW23, hW24, hW25, hW26, hW27, hW28, hW29, hW30, hW31, hW32, hW33, hW34, hW35, hW36, hW37, hW38, hW39, hW40, hW41, hW42, hW43⟩
          · obtain rfl := Option.some.inj hi
            clear hi hil
            have d17 := h17 (hall ⟨17, .data⟩ (by simp) rfl)
            have d14 := h14 (hall ⟨14, .guard⟩ (by simp) rfl)
            have tA : b' 3 = true := hW17 (hall ⟨17, .data⟩ (by simp) rfl)
            have hS := hF tA
            have hTA := Lib.hid tA
            clear tA
            refine StepOk.on 14 false rfl rfl d14 (fun K hK => ?_)
            have HKK := Lib.hid hK; clear hK
            simp only [putAll, Act.put, List.setIfInBounds_toArray, List.set_cons_zero, List.set_cons_succ]
            go_simp
            exact HKK.out _ _ ⟨_, by simp only [putAll, Act.put, List.setIfInBounds_toArray, List.set_cons_zero, List.set_cons_succ, d17, d14] <;> rfl, h0, h1, h2, h3, h4, h5, h6, h7, h8, h9, h10, h11, h12, h13, h14, h15, h16, h17, fun _ => rfl, h19, h20, h21, h22, h23, h24, h25, h26, h27, h28, h29, h30, h31, h32, h33, h34, h35, h36, h38, h39, h41, h42, h43, y37, y40, hB, hF, hX2, hW4, hW5, hW6, hW7, hW8, hW9, hW10, hW11, hW12, hW13, hW14, hW15, hW16, hW17, fun _ => hTA.out, hW19, hW20, hW21, hW22, hW23, hW24, hW25, hW26, hW27, hW28, hW29, hW30, hW31, hW32, hW33, hW34, hW35, hW36, hW37, hW38, hW39, hW40, hW41, hW42, hW43⟩
          · obtain rfl := Option.some.inj hi
            clear hi hil
            have d18 := h18 (hall ⟨18, .data⟩ (by simp) rfl)
            have d14 := h14 (hall ⟨14, .guard⟩ (by simp) rfl)
            have tA : b' 3 = true := hW18 (hall ⟨18, .data⟩ (by simp) rfl)
            have hS := hF tA
            have hTA := Lib.hid tA
            clear tA
            refine StepOk.on 14 false rfl rfl d14 (fun K hK => ?_)
            have HKK := Lib.hid hK; clear hK
            simp only [putAll, Act.put, List.setIfInBounds_toArray, List.set_cons_zero, List.set_cons_succ]
            go_simp
            exact HKK.out _ _ ⟨_, by simp only [putAll, Act.put, List.setIfInBounds_toArray, List.set_cons_zero, List.set_cons_succ, d18, d14] <;> rfl, h0, h1, h2, h3, h4, h5, h6, h7, h8, h9, h10, h11, h12, h13, h14, h15, h16, h17, h18, fun _ => rfl, h20, h21, h22, h23, h24, h25, h26, h27, h28, h29, h30, h31, h32, h33, h34, h35, h36, h38, h39, h41, h42, h43, y37, y40, hB, hF, hX2, hW4, hW5, hW6, hW7, hW8, hW9, hW10, hW11, hW12, hW13, hW14, hW15, hW16, hW17, hW18, fun _ => hTA.out, hW20, hW21, hW22, hW23, hW24, hW25, hW26, hW27, hW28, hW29, hW30, hW31, hW32, hW33, hW34, hW35, hW36, hW37, hW38, hW39, hW40, hW41, hW42, hW43⟩
          · obtain rfl := Option.some.inj hi
            clear hi hil
            have d19 := h19 (hall ⟨19, .data⟩ (by simp) rfl)
            have d14 := h14 (hall ⟨14, .guard⟩ (by simp) rfl)
            have tA : b' 3 = true := hW19 (hall ⟨19, .data⟩ (by simp) rfl)
            have hS := hF tA
            have hTA := Lib.hid tA
            clear tA
            obtain ⟨Ta, Tb, HT, HBl⟩ := hS.out
            obtain ⟨_, _, _, y1, y2, y4, y6, _⟩ := HT.b.r7
            rw [HDN.out.2] at y6
            refine StepOk.on 14 false rfl rfl d14 (fun K hK => ?_)
            have HKK := Lib.hid hK; clear hK
            simp only [putAll, Act.put, List.setIfInBounds_toArray, List.set_cons_zero, List.set_cons_succ]
            go_simp
            exact HKK.out _ _ ⟨_, by simp only [putAll, Act.put, List.setIfInBounds_toArray, List.set_cons_zero, List.set_cons_succ, d19, d14] <;> rfl, h0, h1, h2, h3, h4, h5, h6, h7, h8, h9, h10, h11, h12, h13, h14, h15, h16, h17, h18, h19, fun _ => rfl, h21, h22, h23, h24, h25, h26, h27, h28, h29, h30, h31, h32, h33, h34, h35, h36, h38, h39, h41, h42, h43, y37, y40, hB, hF, hX2, hW4, hW5, hW6, hW7, hW8, hW9, hW10, hW11, hW12, hW13, hW14, hW15, hW16, hW17, hW18, hW19, fun _ => hTA.out, hW21, hW22, hW23, hW24, hW25, hW26, hW27, hW28, hW29, hW30, hW31, hW32, hW33, hW34, hW35, hW36, hW37, hW38, hW39, hW40, hW41, hW42, hW43⟩
          · obtain rfl := Option.some.inj hi
            clear hi hil
            have d16 := h16 (hall ⟨16, .data⟩ (by simp) rfl)
            have d20 := h20 (hall ⟨20, .data⟩ (by simp) rfl)
            have d14 := h14 (hall ⟨14, .guard⟩ (by simp) rfl)
            have tA : b' 3 = true := hW16 (hall ⟨16, .data⟩ (by simp) rfl)
            have hS := hF tA
            have hTA := Lib.hid tA
            clear tA
            refine StepOk.on 14 false rfl rfl d14 (fun K hK => ?_)
            have HKK := Lib.hid hK; clear hK
            simp only [putAll, Act.put, List.setIfInBounds_toArray, List.set_cons_zero, List.set_cons_succ]
            go_simp
            exact HKK.out _ _ ⟨_, by simp only [putAll, Act.put, List.setIfInBounds_toArray, List.set_cons_zero, List.set_cons_succ, d16, d20, d14] <;> rfl, h0, h1, h2, h3, h4, h5, h6, h7, h8, h9, h10, h11, h12, h13, h14, h15, h16, h17, h18, h19, h20, fun _ => rfl, h22, h23, h24, h25, h26, h27, h28, h29, h30, h31, h32, h33, h34, h35, h36, h38, h39, h41, h42, h43, y37, y40, hB, hF, hX2, hW4, hW5, hW6, hW7, hW8, hW9, hW10, hW11, hW12, hW13, hW14, hW15, hW16, hW17, hW18, hW19, hW20, fun _ => hTA.out, hW22, hW23, hW24, hW25, hW26, hW27, hW28, hW29, hW30, hW31, hW32, hW33, hW34, hW35, hW36, hW37, hW38, hW39, hW40, hW41, hW42, hW43⟩
          · obtain rfl := Option.some.inj hi
            clear hi hil
            have d14 := h14 (hall ⟨14, .data⟩ (by simp) rfl)
            have d21 := h21 (hall ⟨21, .data⟩ (by simp) rfl)
            have tA : b' 3 = true := hW14 (hall ⟨14, .data⟩ (by simp) rfl)
            have hS := hF tA
            have hTA := Lib.hid tA
            clear tA
            refine StepOk.plain rfl (fun K hK => ?_)
            have HKK := Lib.hid hK; clear hK
            simp only [putAll, Act.put, List.setIfInBounds_toArray, List.set_cons_zero, List.set_cons_succ]
            go_simp
            exact HKK.out _ _ ⟨_, by simp only [putAll, Act.put, List.setIfInBounds_toArray, List.set_cons_zero, List.set_cons_succ, d14, d21] <;> rfl, h0, h1, h2, h3, h4, h5, h6, h7, h8, h9, h10, h11, h12, h13, h14, h15, h16, h17, h18, h19, h20, h21, fun _ => rfl, h23, h24, h25, h26, h27, h28, h29, h30, h31, h32, h33, h34, h35, h36, h38, h39, h41, h42, h43, y37, y40, hB, hF, hX2, hW4, hW5, hW6, hW7, hW8, hW9, hW10, hW11, hW12, hW13, hW14, hW15, hW16, hW17, hW18, hW19, hW20, hW21, fun _ => hTA.out, hW23, hW24, hW25, hW26, hW27, hW28, hW29, hW30, hW31, hW32, hW33, hW34, hW35, hW36, hW37, hW38, hW39, hW40, hW41, hW42, hW43⟩
          · obtain rfl := Option.some.inj hi
            clear hi hil
            have d22 := h22 (hall ⟨22, .data⟩ (by simp) rfl)
            have tA : b' 3 = true := hW22 (hall ⟨22, .data⟩ (by simp) rfl)
            have hS := hF tA
            have hTA := Lib.hid tA
            clear tA
            refine StepOk.plain rfl (fun K hK => ?_)
            have HKK := Lib.hid hK; clear hK
            simp only [putAll, Act.put, List.setIfInBounds_toArray, List.set_cons_zero, List.set_cons_succ]
            go_simp
            exact HKK.out _ _ ⟨_, by simp only [putAll, Act.put, List.setIfInBounds_toArray, List.set_cons_zero, List.set_cons_succ, d22] <;> rfl, h0, h1, h2, h3, h4, h5, h6, h7, h8, h9, h10, h11, h12, h13, h14, h15, h16, h17, h18, h19, h20, h21, h22, fun _ => rfl, h24, h25, h26, h27, h28, h29, h30, h31, h32, h33, h34, h35, h36, h38, h39, h41, h42, h43, y37, y40, hB, hF, hX2, hW4, hW5, hW6, hW7, hW8, hW9, hW10, hW11, hW12, hW13, hW14, hW15, hW16, hW17, hW18, hW19, hW20, hW21, hW22, fun _ => hTA.out, hW24, hW25, hW26, hW27, hW28, hW29, hW30, hW31, hW32, hW33, hW34, hW35, hW36, hW37, hW38, hW39, hW40, hW41, hW42, hW43⟩
          · obtain rfl := Option.some.inj hi
            clear hi hil
            have d23 := h23 (hall ⟨23, .guard⟩ (by simp) rfl)
            have tA : b' 3 = true := hW23 (hall ⟨23, .guard⟩ (by simp) rfl)
            have hS := hF tA
            have hTA := Lib.hid tA
            clear tA
            refine StepOk.on 23 false rfl rfl d23 (fun K hK => ?_)
            have HKK := Lib.hid hK; clear hK
            simp only [putAll, Act.put, List.setIfInBounds_toArray, List.set_cons_zero, List.set_cons_succ]
            go_simp
            exact HKK.out _ _ ⟨_, by simp only [putAll, Act.put, List.setIfInBounds_toArray, List.set_cons_zero, List.set_cons_succ, d23] <;> rfl, h0, h1, h2, h3, h4, h5, h6, h7, h8, h9, h10, h11, h12, h13, h14, h15, h16, h17, h18, h19, h20, h21, h22, h23, fun _ => rfl, h25, h26, h27, h28, h29, h30, h31, h32, h33, h34, h35, h36, h38, h39, h41, h42, h43, y37, y40, hB, hF, hX2, hW4, hW5, hW6, hW7, hW8, hW9, hW10, hW11, hW12, hW13, hW14, hW15, hW16, hW17, hW18, hW19, hW20, hW21, hW22, hW23, fun _ => hTA.out, hW25, hW26, hW27, hW28, hW29, hW30, hW31, hW32, hW33, hW34, hW35, hW36, hW37, hW38, hW39, hW40, hW41, hW42, hW43⟩
          · obtain rfl := Option.some.inj hi
            clear hi hil
            have d24 := h24 (hall ⟨24, .data⟩ (by simp) rfl)
            have d23 := h23 (hall ⟨23, .guard⟩ (by simp) rfl)
            have tA : b' 3 = true := hW24 (hall ⟨24, .data⟩ (by simp) rfl)
            have hS := hF tA
            have hTA := Lib.hid tA
            clear tA
            obtain ⟨Ta, Tb, HT, HBl⟩ := hS.out
            refine StepOk.on 23 false rfl rfl d23 (fun K hK => ?_)
            have HKK := Lib.hid hK; clear hK
            simp only [putAll, Act.put, List.setIfInBounds_toArray, List.set_cons_zero, List.set_cons_succ]
            go_simp
            refine (HSECT.out w' Ta Tb HT).mono ?_
            rintro e w2' ⟨rfl, hb2⟩
            exact HKK.out _ _ ⟨_, by simp only [putAll, Act.put, List.setIfInBounds_toArray, List.set_cons_zero, List.set_cons_succ, d24, d23] <;> rfl, h0, h1, h2, h3, h4, h5, h6, h7, h8, h9, h10, h11, h12, h13, h14, h15, h16, h17, h18, h19, h20, h21, h22, h23, h24, fun _ => rfl, h26, h27, h28, h29, h30, h31, h32, h33, h34, h35, h36, h38, h39, h41, h42, h43, fun h => Lib.hid ((y37 h).out.on hb2), fun h => Lib.hid ((y40 h).out.on hb2), fun h => absurd (show b' 3 = false from h) (by rw [hTA.out]; decide), fun _ => Lib.hid (⟨Ta, Tb, HT.grow hb2, HBl.trans (hb2.mono HT.sz)⟩), hX2, hW4, hW5, hW6, hW7, hW8, hW9, hW10, hW11, hW12, hW13, hW14, hW15, hW16, hW17, hW18, hW19, hW20, hW21, hW22, hW23, hW24, fun _ => hTA.out, hW26, hW27, hW28, hW29, hW30, hW31, hW32, hW33, hW34, hW35, hW36, hW37, hW38, hW39, hW40, hW41, hW42, hW43⟩
          · obtain rfl := Option.some.inj hi
            clear hi hil
            have d23 := h23 (hall ⟨23, .guard⟩ (by simp) rfl)
            have tA : b' 3 = true := hW23 (hall ⟨23, .guard⟩ (by simp) rfl)
            have hS := hF tA
            have hTA := Lib.hid tA
            clear tA
            refine StepOk.on 23 false rfl rfl d23 (fun K hK => ?_)
            have HKK := Lib.hid hK; clear hK
            simp only [putAll, Act.put, List.setIfInBounds_toArray, List.set_cons_zero, List.set_cons_succ]
            go_simp
            exact HKK.out _ _ ⟨_, by simp only [putAll, Act.put, List.setIfInBounds_toArray, List.set_cons_zero, List.set_cons_succ, d23] <;> rfl, h0, h1, h2, h3, h4, h5, h6, h7, h8, h9, h10, h11, h12, h13, h14, h15, h16, h17, h18, h19, h20, h21, h22, h23, h24, h25, fun _ => rfl, h27, h28, h29, h30, h31, h32, h33, h34, h35, h36, h38, h39, h41, h42, h43, y37, y40, hB, hF, hX2, hW4, hW5, hW6, hW7, hW8, hW9, hW10, hW11, hW12, hW13, hW14, hW15, hW16, hW17, hW18, hW19, hW20, hW21, hW22, hW23, hW24, hW25, fun _ => hTA.out, hW27, hW28, hW29, hW30, hW31, hW32, hW33, hW34, hW35, hW36, hW37, hW38, hW39, hW40, hW41, hW42, hW43⟩
          · obtain rfl := Option.some.inj hi
            clear hi hil
            have d25 := h25 (hall ⟨25, .data⟩ (by simp) rfl)
            have d26 := h26 (hall ⟨26, .data⟩ (by simp) rfl)
            have d23 := h23 (hall ⟨23, .guard⟩ (by simp) rfl)
            have tA : b' 3 = true := hW25 (hall ⟨25, .data⟩ (by simp) rfl)
            have hS := hF tA
            have hTA := Lib.hid tA
            clear tA
            refine StepOk.on 23 false rfl rfl d23 (fun K hK => ?_)
            have HKK := Lib.hid hK; clear hK
            simp only [putAll, Act.put, List.setIfInBounds_toArray, List.set_cons_zero, List.set_cons_succ]
            go_simp
            exact HKK.out _ _ ⟨_, by simp only [putAll, Act.put, List.setIfInBounds_toArray, List.set_cons_zero, List.set_cons_succ, d25, d26, d23] <;> rfl, h0, h1, h2, h3, h4, h5, h6, h7, h8, h9, h10, h11, h12, h13, h14, h15, h16, h17, h18, h19, h20, h21, h22, h23, h24, h25, h26, fun _ => rfl, h28, h29, h30, h31, h32, h33, h34, h35, h36, h38, h39, h41, h42, h43, y37, y40, hB, hF, hX2, hW4, hW5, hW6, hW7, hW8, hW9, hW10, hW11, hW12, hW13, hW14, hW15, hW16, hW17, hW18, hW19, hW20, hW21, hW22, hW23, hW24, hW25, hW26, fun _ => hTA.out, hW28, hW29, hW30, hW31, hW32, hW33, hW34, hW35, hW36, hW37, hW38, hW39, hW40, hW41, hW42, hW43⟩
          · obtain rfl := Option.some.inj hi
            clear hi hil
            have d23 := h23 (hall ⟨23, .data⟩ (by simp) rfl)
            have d27 := h27 (hall ⟨27, .data⟩ (by simp) rfl)
            have tA : b' 3 = true := hW23 (hall ⟨23, .data⟩ (by simp) rfl)
            have hS := hF tA
            have hTA := Lib.hid tA
            clear tA
            refine StepOk.plain rfl (fun K hK => ?_)
            have HKK := Lib.hid hK; clear hK
            simp only [putAll, Act.put, List.setIfInBounds_toArray, List.set_cons_zero, List.set_cons_succ]
            go_simp
            exact HKK.out _ _ ⟨_, by simp only [putAll, Act.put, List.setIfInBounds_toArray, List.set_cons_zero, List.set_cons_succ, d23, d27] <;> rfl, h0, h1, h2, h3, h4, h5, h6, h7, h8, h9, h10, h11, h12, h13, h14, h15, h16, h17, h18, h19, h20, h21, h22, h23, h24, h25, h26, h27, fun _ => rfl, h29, h30, h31, h32, h33, h34, h35, h36, h38, h39, h41, h42, h43, y37, y40, hB, hF, hX2, hW4, hW5, hW6, hW7, hW8, hW9, hW10, hW11, hW12, hW13, hW14, hW15, hW16, hW17, hW18, hW19, hW20, hW21, hW22, hW23, hW24, hW25, hW26, hW27, fun _ => hTA.out, hW29, hW30, hW31, hW32, hW33, hW34, hW35, hW36, hW37, hW38, hW39, hW40, hW41, hW42, hW43⟩
          · obtain rfl := Option.some.inj hi
            clear hi hil
            have d28 := h28 (hall ⟨28, .data⟩ (by simp) rfl)
            have tA : b' 3 = true := hW28 (hall ⟨28, .data⟩ (by simp) rfl)
            have hS := hF tA
            have hTA := Lib.hid tA
            clear tA
            refine StepOk.plain rfl (fun K hK => ?_)
            have HKK := Lib.hid hK; clear hK
            simp only [putAll, Act.put, List.setIfInBounds_toArray, List.set_cons_zero, List.set_cons_succ]
            go_simp
            exact HKK.out _ _ ⟨_, by simp only [putAll, Act.put, List.setIfInBounds_toArray, List.set_cons_zero, List.set_cons_succ, d28] <;> rfl, h0, h1, h2, h3, h4, h5, h6, h7, h8, h9, h10, h11, h12, h13, h14, h15, h16, h17, h18, h19, h20, h21, h22, h23, h24, h25, h26, h27, h28, fun _ => rfl, h30, h31, h32, h33, h34, h35, h36, h38, h39, h41, h42, h43, y37, y40, hB, hF, hX2, hW4, hW5, hW6, hW7, hW8, hW9, hW10, hW11, hW12, hW13, hW14, hW15, hW16, hW17, hW18, hW19, hW20, hW21, hW22, hW23, hW24, hW25, hW26, hW27, hW28, fun _ => hTA.out, hW30, hW31, hW32, hW33, hW34, hW35, hW36, hW37, hW38, hW39, hW40, hW41, hW42, hW43⟩
          · obtain rfl := Option.some.inj hi
            clear hi hil
            have d29 := h29 (hall ⟨29, .guard⟩ (by simp) rfl)
            have tA : b' 3 = true := hW29 (hall ⟨29, .guard⟩ (by simp) rfl)
            have hS := hF tA
            have hTA := Lib.hid tA
            clear tA
            refine StepOk.on 29 false rfl rfl d29 (fun K hK => ?_)
            have HKK := Lib.hid hK; clear hK
            simp only [putAll, Act.put, List.setIfInBounds_toArray, List.set_cons_zero, List.set_cons_succ]
            go_simp
            exact HKK.out _ _ ⟨_, by simp only [putAll, Act.put, List.setIfInBounds_toArray, List.set_cons_zero, List.set_cons_succ, d29] <;> rfl, h0, h1, h2, h3, h4, h5, h6, h7, h8, h9, h10, h11, h12, h13, h14, h15, h16, h17, h18, h19, h20, h21, h22, h23, h24, h25, h26, h27, h28, h29, fun _ => rfl, h31, h32, h33, h34, h35, h36, h38, h39, h41, h42, h43, y37, y40, hB, hF, hX2, hW4, hW5, hW6, hW7, hW8, hW9, hW10, hW11, hW12, hW13, hW14, hW15, hW16, hW17, hW18, hW19, hW20, hW21, hW22, hW23, hW24, hW25, hW26, hW27, hW28, hW29, fun _ => hTA.out, hW31, hW32, hW33, hW34, hW35, hW36, hW37, hW38, hW39, hW40, hW41, hW42, hW43⟩
          · obtain rfl := Option.some.inj hi
            clear hi hil
            have d30 := h30 (hall ⟨30, .data⟩ (by simp) rfl)
            have d29 := h29 (hall ⟨29, .guard⟩ (by simp) rfl)
            have tA : b' 3 = true := hW30 (hall ⟨30, .data⟩ (by simp) rfl)
            have hS := hF tA
            have hTA := Lib.hid tA
            clear tA
            obtain ⟨Ta, Tb, HT, HBl⟩ := hS.out
            refine StepOk.on 29 false rfl rfl d29 (fun K hK => ?_)
            have HKK := Lib.hid hK; clear hK
            simp only [putAll, Act.put, List.setIfInBounds_toArray, List.set_cons_zero, List.set_cons_succ]
            go_simp
            refine (HSIZE.out w' Ta Tb HT).mono ?_
            rintro e w2' ⟨rfl, hb2⟩
            exact HKK.out _ _ ⟨_, by simp only [putAll, Act.put, List.setIfInBounds_toArray, List.set_cons_zero, List.set_cons_succ, d30, d29] <;> rfl, h0, h1, h2, h3, h4, h5, h6, h7, h8, h9, h10, h11, h12, h13, h14, h15, h16, h17, h18, h19, h20, h21, h22, h23, h24, h25, h26, h27, h28, h29, h30, fun _ => rfl, h32, h33, h34, h35, h36, h38, h39, h41, h42, h43, fun h => Lib.hid ((y37 h).out.on hb2), fun h => Lib.hid ((y40 h).out.on hb2), fun h => absurd (show b' 3 = false from h) (by rw [hTA.out]; decide), fun _ => Lib.hid (⟨Ta, Tb, HT.grow hb2, HBl.trans (hb2.mono HT.sz)⟩), hX2, hW4, hW5, hW6, hW7, hW8, hW9, hW10, hW11, hW12, hW13, hW14, hW15, hW16, hW17, hW18, hW19, hW20, hW21, hW22, hW23, hW24, hW25, hW26, hW27, hW28, hW29, hW30, fun _ => hTA.out, hW32, hW33, hW34, hW35, hW36, hW37, hW38, hW39, hW40, hW41, hW42, hW43⟩
          · obtain rfl := Option.some.inj hi
            clear hi hil
            have d29 := h29 (hall ⟨29, .guard⟩ (by simp) rfl)
            have tA : b' 3 = true := hW29 (hall ⟨29, .guard⟩ (by simp) rfl)
            have hS := hF tA
            have hTA := Lib.hid tA
            clear tA
            refine StepOk.on 29 false rfl rfl d29 (fun K hK => ?_)
            have HKK := Lib.hid hK; clear hK
            simp only [putAll, Act.put, List.setIfInBounds_toArray, List.set_cons_zero, List.set_cons_succ]
            go_simp
            exact HKK.out _ _ ⟨_, by simp only [putAll, Act.put, List.setIfInBounds_toArray, List.set_cons_zero, List.set_cons_succ, d29] <;> rfl, h0, h1, h2, h3, h4, h5, h6, h7, h8, h9, h10, h11, h12, h13, h14, h15, h16, h17, h18, h19, h20, h21, h22, h23, h24, h25, h26, h27, h28, h29, h30, h31, fun _ => rfl, h33, h34, h35, h36, h38, h39, h41, h42, h43, y37, y40, hB, hF, hX2, hW4, hW5, hW6, hW7, hW8, hW9, hW10, hW11, hW12, hW13, hW14, hW15, hW16, hW17, hW18, hW19, hW20, hW21, hW22, hW23, hW24, hW25, hW26, hW27, hW28, hW29, hW30, hW31, fun _ => hTA.out, hW33, hW34, hW35, hW36, hW37, hW38, hW39, hW40, hW41, hW42, hW43⟩
          · obtain rfl := Option.some.inj hi
            clear hi hil
            have d31 := h31 (hall ⟨31, .data⟩ (by simp) rfl)
            have d32 := h32 (hall ⟨32, .data⟩ (by simp) rfl)
            have d29 := h29 (hall ⟨29, .guard⟩ (by simp) rfl)
            have tA : b' 3 = true := hW31 (hall ⟨31, .data⟩ (by simp) rfl)
            have hS := hF tA
            have hTA := Lib.hid tA
            clear tA
            refine StepOk.on 29 false rfl rfl d29 (fun K hK => ?_)
            have HKK := Lib.hid hK; clear hK
            simp only [putAll, Act.put, List.setIfInBounds_toArray, List.set_cons_zero, List.set_cons_succ]
            go_simp
            exact HKK.out _ _ ⟨_, by simp only [putAll, Act.put, List.setIfInBounds_toArray, List.set_cons_zero, List.set_cons_succ, d31, d32, d29] <;> rfl, h0, h1, h2, h3, h4, h5, h6, h7, h8, h9, h10, h11, h12, h13, h14, h15, h16, h17, h18, h19, h20, h21, h22, h23, h24, h25, h26, h27, h28, h29, h30, h31, h32, fun _ => rfl, h34, h35, h36, h38, h39, h41, h42, h43, y37, y40, hB, hF, hX2, hW4, hW5, hW6, hW7, hW8, hW9, hW10, hW11, hW12, hW13, hW14, hW15, hW16, hW17, hW18, hW19, hW20, hW21, hW22, hW23, hW24, hW25, hW26, hW27, hW28, hW29, hW30, hW31, hW32, fun _ => hTA.out, hW34, hW35, hW36, hW37, hW38, hW39, hW40, hW41, hW42, hW43⟩
          · obtain rfl := Option.some.inj hi
            clear hi hil
            have d29 := h29 (hall ⟨29, .data⟩ (by simp) rfl)
            have d33 := h33 (hall ⟨33, .data⟩ (by simp) rfl)
            have tA : b' 3 = true := hW29 (hall ⟨29, .data⟩ (by simp) rfl)
            have hS := hF tA
            have hTA := Lib.hid tA
            clear tA
            refine StepOk.plain rfl (fun K hK => ?_)
            have HKK := Lib.hid hK; clear hK
            simp only [putAll, Act.put, List.setIfInBounds_toArray, List.set_cons_zero, List.set_cons_succ]
            go_simp
            exact HKK.out _ _ ⟨_, by simp only [putAll, Act.put, List.setIfInBounds_toArray, List.set_cons_zero, List.set_cons_succ, d29, d33] <;> rfl, h0, h1, h2, h3, h4, h5, h6, h7, h8, h9, h10, h11, h12, h13, h14, h15, h16, h17, h18, h19, h20, h21, h22, h23, h24, h25, h26, h27, h28, h29, h30, h31, h32, h33, fun _ => rfl, h35, h36, h38, h39, h41, h42, h43, y37, y40, hB, hF, hX2, hW4, hW5, hW6, hW7, hW8, hW9, hW10, hW11, hW12, hW13, hW14, hW15, hW16, hW17, hW18, hW19, hW20, hW21, hW22, hW23, hW24, hW25, hW26, hW27, hW28, hW29, hW30, hW31, hW32, hW33, fun _ => hTA.out, hW35, hW36, hW37, hW38, hW39, hW40, hW41, hW42, hW43⟩
          · obtain rfl := Option.some.inj hi
            clear hi hil
            have d34 := h34 (hall ⟨34, .data⟩ (by simp) rfl)
            have tA : b' 3 = true := hW34 (hall ⟨34, .data⟩ (by simp) rfl)
            have hS := hF tA
            have hTA := Lib.hid tA
            clear tA
            refine StepOk.plain rfl (fun K hK => ?_)
            have HKK := Lib.hid hK; clear hK
            simp only [putAll, Act.put, List.setIfInBounds_toArray, List.set_cons_zero, List.set_cons_succ]
            go_simp
            exact HKK.out _ _ ⟨_, by simp only [putAll, Act.put, List.setIfInBounds_toArray, List.set_cons_zero, List.set_cons_succ, d34] <;> rfl, h0, h1, h2, h3, h4, h5, h6, h7, h8, h9, h10, h11, h12, h13, h14, h15, h16, h17, h18, h19, h20, h21, h22, h23, h24, h25, h26, h27, h28, h29, h30, h31, h32, h33, h34, fun _ => rfl, h36, h38, h39, h41, h42, h43, y37, y40, hB, hF, hX2, hW4, hW5, hW6, hW7, hW8, hW9, hW10, hW11, hW12, hW13, hW14, hW15, hW16, hW17, hW18, hW19, hW20, hW21, hW22, hW23, hW24, hW25, hW26, hW27, hW28, hW29, hW30, hW31, hW32, hW33, hW34, fun _ => hTA.out, hW36, hW37, hW38, hW39, hW40, hW41, hW42, hW43⟩
          · obtain rfl := Option.some.inj hi
            clear hi hil
            have d35 := h35 (hall ⟨35, .guard⟩ (by simp) rfl)
            have tA : b' 3 = true := hW35 (hall ⟨35, .guard⟩ (by simp) rfl)
            have hS := hF tA
            have hTA := Lib.hid tA
            clear tA
            refine StepOk.on 35 false rfl rfl d35 (fun K hK => ?_)
            have HKK := Lib.hid hK; clear hK
            simp only [putAll, Act.put, List.setIfInBounds_toArray, List.set_cons_zero, List.set_cons_succ]
            go_simp
            exact HKK.out _ _ ⟨_, by simp only [putAll, Act.put, List.setIfInBounds_toArray, List.set_cons_zero, List.set_cons_succ, d35] <;> rfl, h0, h1, h2, h3, h4, h5, h6, h7, h8, h9, h10, h11, h12, h13, h14, h15, h16, h17, h18, h19, h20, h21, h22, h23, h24, h25, h26, h27, h28, h29, h30, h31, h32, h33, h34, h35, fun _ => rfl, h38, h39, h41, h42, h43, y37, y40, hB, hF, hX2, hW4, hW5, hW6, hW7, hW8, hW9, hW10, hW11, hW12, hW13, hW14, hW15, hW16, hW17, hW18, hW19, hW20, hW21, hW22, hW23, hW24, hW25, hW26, hW27, hW28, hW29, hW30, hW31, hW32, hW33, hW34, hW35, fun _ => hTA.out, hW37, hW38, hW39, hW40, hW41, hW42, hW43⟩
          · obtain rfl := Option.some.inj hi
            clear hi hil
            have d36 := h36 (hall ⟨36, .data⟩ (by simp) rfl)
            have d35 := h35 (hall ⟨35, .guard⟩ (by simp) rfl)
            have tA : b' 3 = true := hW36 (hall ⟨36, .data⟩ (by simp) rfl)
            have hS := hF tA
            have hTA := Lib.hid tA
            clear tA
            obtain ⟨Ta, Tb, HT, HBl⟩ := hS.out
            refine StepOk.on 35 false rfl rfl d35 (fun K hK => ?_)
            have HKK := Lib.hid hK; clear hK
            simp only [putAll, Act.put, List.setIfInBounds_toArray, List.set_cons_zero, List.set_cons_succ]
            go_simp
            refine (HIMG.out w' Ta Tb HT).mono ?_
            rintro e w2' ⟨u2, rfl, ho2, hb2⟩
            exact HKK.out _ _ ⟨_, by simp only [putAll, Act.put, List.setIfInBounds_toArray, List.set_cons_zero, List.set_cons_succ, d36, d35] <;> rfl, h0, h1, h2, h3, h4, h5, h6, h7, h8, h9, h10, h11, h12, h13, h14, h15, h16, h17, h18, h19, h20, h21, h22, h23, h24, h25, h26, h27, h28, h29, h30, h31, h32, h33, h34, h35, h36, h38, h39, h41, h42, h43, fun _ => Lib.hid (ho2.row), fun h => Lib.hid ((y40 h).out.on hb2), fun h => absurd (show b' 3 = false from h) (by rw [hTA.out]; decide), fun _ => Lib.hid (⟨Ta, Tb, HT.grow hb2, HBl.trans (hb2.mono HT.sz)⟩), hX2, hW4, hW5, hW6, hW7, hW8, hW9, hW10, hW11, hW12, hW13, hW14, hW15, hW16, hW17, hW18, hW19, hW20, hW21, hW22, hW23, hW24, hW25, hW26, hW27, hW28, hW29, hW30, hW31, hW32, hW33, hW34, hW35, hW36, fun _ => hTA.out, hW38, hW39, hW40, hW41, hW42, hW43⟩
          · obtain rfl := Option.some.inj hi
            clear hi hil
            have o37 := y37 (hall ⟨37, .data⟩ (by simp) rfl)
            have d35 := h35 (hall ⟨35, .guard⟩ (by simp) rfl)
            have tA : b' 3 = true := hW37 (hall ⟨37, .data⟩ (by simp) rfl)
            have hS := hF tA
            have hTA := Lib.hid tA
            clear tA
            have cv := conv_b o37.out HNOK.out
            rw [HQS.out] at cv
            refine StepOk.on 35 false rfl rfl d35 (fun K hK => ?_)
            have HKK := Lib.hid hK; clear hK
            simp only [putAll, Act.put, List.setIfInBounds_toArray, List.set_cons_zero, List.set_cons_succ]
            go_simp
            exact HKK.out _ _ ⟨_, by simp only [putAll, Act.put, List.setIfInBounds_toArray, List.set_cons_zero, List.set_cons_succ, d35] <;> rfl, h0, h1, h2, h3, h4, h5, h6, h7, h8, h9, h10, h11, h12, h13, h14, h15, h16, h17, h18, h19, h20, h21, h22, h23, h24, h25, h26, h27, h28, h29, h30, h31, h32, h33, h34, h35, h36, fun _ => rfl, h39, h41, h42, h43, y37, y40, hB, hF, hX2, hW4, hW5, hW6, hW7, hW8, hW9, hW10, hW11, hW12, hW13, hW14, hW15, hW16, hW17, hW18, hW19, hW20, hW21, hW22, hW23, hW24, hW25, hW26, hW27, hW28, hW29, hW30, hW31, hW32, hW33, hW34, hW35, hW36, hW37, fun _ => hTA.out, hW39, hW40, hW41, hW42, hW43⟩
          · obtain rfl := Option.some.inj hi
            clear hi hil
            have d35 := h35 (hall ⟨35, .guard⟩ (by simp) rfl)
            have tA : b' 3 = true := hW35 (hall ⟨35, .guard⟩ (by simp) rfl)
            have hS := hF tA
            have hTA := Lib.hid tA
            clear tA
            refine StepOk.on 35 false rfl rfl d35 (fun K hK => ?_)
            have HKK := Lib.hid hK; clear hK
            simp only [putAll, Act.put, List.setIfInBounds_toArray, List.set_cons_zero, List.set_cons_succ]
            go_simp
            exact HKK.out _ _ ⟨_, by simp only [putAll, Act.put, List.setIfInBounds_toArray, List.set_cons_zero, List.set_cons_succ, d35] <;> rfl, h0, h1, h2, h3, h4, h5, h6, h7, h8, h9, h10, h11, h12, h13, h14, h15, h16, h17, h18, h19, h20, h21, h22, h23, h24, h25, h26, h27, h28, h29, h30, h31, h32, h33, h34, h35, h36, h38, fun _ => rfl, h41, h42, h43, y37, y40, hB, hF, hX2, hW4, hW5, hW6, hW7, hW8, hW9, hW10, hW11, hW12, hW13, hW14, hW15, hW16, hW17, hW18, hW19, hW20, hW21, hW22, hW23, hW24, hW25, hW26, hW27, hW28, hW29, hW30, hW31, hW32, hW33, hW34, hW35, hW36, hW37, hW38, fun _ => hTA.out, hW40, hW41, hW42, hW43⟩
          · obtain rfl := Option.some.inj hi
            clear hi hil
            have d39 := h39 (hall ⟨39, .data⟩ (by simp) rfl)
            have d35 := h35 (hall ⟨35, .guard⟩ (by simp) rfl)
            have tA : b' 3 = true := hW39 (hall ⟨39, .data⟩ (by simp) rfl)
            have hS := hF tA
            have hTA := Lib.hid tA
            clear tA
            obtain ⟨Ta, Tb, HT, HBl⟩ := hS.out
            refine StepOk.on 35 false rfl rfl d35 (fun K hK => ?_)
            have HKK := Lib.hid hK; clear hK
            simp only [putAll, Act.put, List.setIfInBounds_toArray, List.set_cons_zero, List.set_cons_succ]
            go_simp
            refine (HNOWC.out w' Ta Tb HT).mono ?_
            rintro e w2' ⟨u2, rfl, ho2, hb2⟩
            exact HKK.out _ _ ⟨_, by simp only [putAll, Act.put, List.setIfInBounds_toArray, List.set_cons_zero, List.set_cons_succ, d39, d35] <;> rfl, h0, h1, h2, h3, h4, h5, h6, h7, h8, h9, h10, h11, h12, h13, h14, h15, h16, h17, h18, h19, h20, h21, h22, h23, h24, h25, h26, h27, h28, h29, h30, h31, h32, h33, h34, h35, h36, h38, h39, h41, h42, h43, fun h => Lib.hid ((y37 h).out.on hb2), fun _ => Lib.hid (ho2.row), fun h => absurd (show b' 3 = false from h) (by rw [hTA.out]; decide), fun _ => Lib.hid (⟨Ta, Tb, HT.grow hb2, HBl.trans (hb2.mono HT.sz)⟩), hX2, hW4, hW5, hW6, hW7, hW8, hW9, hW10, hW11, hW12, hW13, hW14, hW15, hW16, hW17, hW18, hW19, hW20, hW21, hW22, hW23, hW24, hW25, hW26, hW27, hW28, hW29, hW30, hW31, hW32, hW33, hW34, hW35, hW36, hW37, hW38, hW39, fun _ => hTA.out, hW41, hW42, hW43⟩
          · obtain rfl := Option.some.inj hi
            clear hi hil
            have o40 := y40 (hall ⟨40, .data⟩ (by simp) rfl)
            have d35 := h35 (hall ⟨35, .guard⟩ (by simp) rfl)
            have tA : b' 3 = true := hW40 (hall ⟨40, .data⟩ (by simp) rfl)
            have hS := hF tA
            have hTA := Lib.hid tA
            clear tA
            have cv := conv_b o40.out HNOK.out
            rw [HQS.out] at cv
            refine StepOk.on 35 false rfl rfl d35 (fun K hK => ?_)
            have HKK := Lib.hid hK; clear hK
            simp only [putAll, Act.put, List.setIfInBounds_toArray, List.set_cons_zero, List.set_cons_succ]
            go_simp
            exact HKK.out _ _ ⟨_, by simp only [putAll, Act.put, List.setIfInBounds_toArray, List.set_cons_zero, List.set_cons_succ, d35] <;> rfl, h0, h1, h2, h3, h4, h5, h6, h7, h8, h9, h10, h11, h12, h13, h14, h15, h16, h17, h18, h19, h20, h21, h22, h23, h24, h25, h26, h27, h28, h29, h30, h31, h32, h33, h34, h35, h36, h38, h39, fun _ => rfl, h42, h43, y37, y40, hB, hF, hX2, hW4, hW5, hW6, hW7, hW8, hW9, hW10, hW11, hW12, hW13, hW14, hW15, hW16, hW17, hW18, hW19, hW20, hW21, hW22, hW23, hW24, hW25, hW26, hW27, hW28, hW29, hW30, hW31, hW32, hW33, hW34, hW35, hW36, hW37, hW38, hW39, hW40, fun _ => hTA.out, hW42, hW43⟩
          · obtain rfl := Option.some.inj hi
            clear hi hil
            have d38 := h38 (hall ⟨38, .data⟩ (by simp) rfl)
            have d41 := h41 (hall ⟨41, .data⟩ (by simp) rfl)
            have d35 := h35 (hall ⟨35, .guard⟩ (by simp) rfl)
            have tA : b' 3 = true := hW38 (hall ⟨38, .data⟩ (by simp) rfl)
            have hS := hF tA
            have hTA := Lib.hid tA
            clear tA
            refine StepOk.on 35 false rfl rfl d35 (fun K hK => ?_)
            have HKK := Lib.hid hK; clear hK
            simp only [putAll, Act.put, List.setIfInBounds_toArray, List.set_cons_zero, List.set_cons_succ]
            go_simp
            exact HKK.out _ _ ⟨_, by simp only [putAll, Act.put, List.setIfInBounds_toArray, List.set_cons_zero, List.set_cons_succ, d38, d41, d35] <;> rfl, h0, h1, h2, h3, h4, h5, h6, h7, h8, h9, h10, h11, h12, h13, h14, h15, h16, h17, h18, h19, h20, h21, h22, h23, h24, h25, h26, h27, h28, h29, h30, h31, h32, h33, h34, h35, h36, h38, h39, h41, fun _ => rfl, h43, y37, y40, hB, hF, hX2, hW4, hW5, hW6, hW7, hW8, hW9, hW10, hW11, hW12, hW13, hW14, hW15, hW16, hW17, hW18, hW19, hW20, hW21, hW22, hW23, hW24, hW25, hW26, hW27, hW28, hW29, hW30, hW31, hW32, hW33, hW34, hW35, hW36, hW37, hW38, hW39, hW40, hW41, fun _ => hTA.out, hW43⟩
          · obtain rfl := Option.some.inj hi
            clear hi hil
            have d35 := h35 (hall ⟨35, .data⟩ (by simp) rfl)
            have d42 := h42 (hall ⟨42, .data⟩ (by simp) rfl)
            have tA : b' 3 = true := hW35 (hall ⟨35, .data⟩ (by simp) rfl)
            have hS := hF tA
            have hTA := Lib.hid tA
            clear tA
            refine StepOk.plain rfl (fun K hK => ?_)
            have HKK := Lib.hid hK; clear hK
            simp only [putAll, Act.put, List.setIfInBounds_toArray, List.set_cons_zero, List.set_cons_succ]
            go_simp
            exact HKK.out _ _ ⟨_, by simp only [putAll, Act.put, List.setIfInBounds_toArray, List.set_cons_zero, List.set_cons_succ, d35, d42] <;> rfl, h0, h1, h2, h3, h4, h5, h6, h7, h8, h9, h10, h11, h12, h13, h14, h15, h16, h17, h18, h19, h20, h21, h22, h23, h24, h25, h26, h27, h28, h29, h30, h31, h32, h33, h34, h35, h36, h38, h39, h41, h42, fun _ => rfl, y37, y40, hB, hF, hX2, hW4, hW5, hW6, hW7, hW8, hW9, hW10, hW11, hW12, hW13, hW14, hW15, hW16, hW17, hW18, hW19, hW20, hW21, hW22, hW23, hW24, hW25, hW26, hW27, hW28, hW29, hW30, hW31, hW32, hW33, hW34, hW35, hW36, hW37, hW38, hW39, hW40, hW41, hW42, fun _ => hTA.out⟩
          · omega
        · rintro b' vs wz hall ⟨h0, h1, h2, h3, h4, h5, h6, h7, h8, h9, h10, h11, h12, h13, h14, h15, h16, h17, h18, h19, h20, h21, h22, h23, h24, h25, h26, h27, h28, h29, h30, h31, h32, h33, h34, h35, h36, h38, h39, h41, h42, h43, y37, y40, hB, hF, hX2, hW4, hW5, hW6, hW7, hW8, hW9, hW10, hW11, hW12, hW13, hW14, hW15, hW16, hW17, hW18, hW19, hW20, hW21, hW22, hW23, hW24, hW25, hW26, hW27, hW28, hW29, hW30, hW31, hW32, hW33, hW34, hW35, hW36, hW37, hW38, hW39, hW40, hW41, hW42, hW43⟩
          have d0 := h0 (hall 0 (by simp))
          have d1 := h1 (hall 1 (by simp))
          have d2 := h2 (hall 2 (by simp))
          have d3 := h3 (hall 3 (by simp))
          have d4 := h4 (hall 4 (by simp))
          have d5 := h5 (hall 5 (by simp))
          have d6 := h6 (hall 6 (by simp))
          have d7 := h7 (hall 7 (by simp))
          have d8 := h8 (hall 8 (by simp))
          have d9 := h9 (hall 9 (by simp))
          have d10 := h10 (hall 10 (by simp))
          have d11 := h11 (hall 11 (by simp))
          have d12 := h12 (hall 12 (by simp))
          have d13 := h13 (hall 13 (by simp))
          have d14 := h14 (hall 14 (by simp))
          have d15 := h15 (hall 15 (by simp))
          have d16 := h16 (hall 16 (by simp))
          have d17 := h17 (hall 17 (by simp))
          have d18 := h18 (hall 18 (by simp))
          have d19 := h19 (hall 19 (by simp))
          have d20 := h20 (hall 20 (by simp))
          have d21 := h21 (hall 21 (by simp))
          have d22 := h22 (hall 22 (by simp))
          have d23 := h23 (hall 23 (by simp))
          have d24 := h24 (hall 24 (by simp))
          have d25 := h25 (hall 25 (by simp))
          have d26 := h26 (hall 26 (by simp))
          have d27 := h27 (hall 27 (by simp))
          have d28 := h28 (hall 28 (by simp))
          have d29 := h29 (hall 29 (by simp))
          have d30 := h30 (hall 30 (by simp))
          have d31 := h31 (hall 31 (by simp))
          have d32 := h32 (hall 32 (by simp))
          have d33 := h33 (hall 33 (by simp))
          have d34 := h34 (hall 34 (by simp))
          have d35 := h35 (hall 35 (by simp))
          have d36 := h36 (hall 36 (by simp))
          have d38 := h38 (hall 38 (by simp))
          have d39 := h39 (hall 39 (by simp))
          have d41 := h41 (hall 41 (by simp))
          have d42 := h42 (hall 42 (by simp))
          have d43 := h43 (hall 43 (by simp))
          have o37 := y37 (hall 37 (by simp))
          have o40 := y40 (hall 40 (by simp))
          have PP := hF (hall 3 (by simp))
          simp only [putAll, Act.put, List.setIfInBounds_toArray, List.set_cons_zero, List.set_cons_succ, d0, d1, d2, d3, d4, d5, d6, d7, d8, d9, d10, d11, d12, d13, d14, d15, d16, d17, d18, d19, d20, d21, d22, d23, d24, d25, d26, d27, d28, d29, d30, d31, d32, d33, d34, d35, d36, d38, d39, d41, d42, d43]
          clear hall hB hF hX2 h0 d0 h1 d1 h2 d2 h3 d3 h4 d4 h5 d5 h6 d6 h7 d7 h8 d8 h9 d9 h10 d10 h11 d11 h12 d12 h13 d13 h14 d14 h15 d15 h16 d16 h17 d17 h18 d18 h19 d19 h20 d20 h21 d21 h22 d22 h23 d23 h24 d24 h25 d25 h26 d26 h27 d27 h28 d28 h29 d29 h30 d30 h31 d31 h32 d32 h33 d33 h34 d34 h35 d35 h36 d36 h38 d38 h39 d39 h41 d41 h42 d42 h43 d43 y37 o37 y40 o40 hW4 hW5 hW6 hW7 hW8 hW9 hW10 hW11 hW12 hW13 hW14 hW15 hW16 hW17 hW18 hW19 hW20 hW21 hW22 hW23 hW24 hW25 hW26 hW27 hW28 hW29 hW30 hW31 hW32 hW33 hW34 hW35 hW36 hW37 hW38 hW39 hW40 hW41 hW42 hW43
          obtain ⟨Ta, Tb, hta, htb⟩ := PP.out
          have Z := Lib.hid (And.intro hta htb)
          clear PP hta htb HSTEP HIMG HNOWC HDONE HDOWN HSECT HSIZE HOPB
          generalize vs 37 = v37 at *
          generalize vs 40 = v40 at *
          obtain ⟨wd, hwd⟩ : ∃ l, d'.wait = l := ⟨_, rfl⟩
          have HWD := Lib.hid hwd
          clear hwd
          go_wp2_with fail
          refine (diskOk.waiting Ta wz g1 d' Z.out.1.a HOKD.out).mono ?_
          rintro e wy ⟨vw, rfl, how, hbw⟩
          have Y : Hid (Two w.heap.size Ta Tb wy g1 g2 d' d' ∧ Below w.heap.size w wy) := ⟨Z.out.1.grow hbw, Z.out.2.trans (hbw.mono Z.out.1.sz)⟩
          obtain ⟨qa, qc, L2, y1, y2, y4, y6, hmw, hrw⟩ := Y.out.1.b.r7
          obtain ⟨m, hm⟩ : ∃ m, L2.length = m := ⟨_, rfl⟩
          have hfst : d'.wait.map Prod.fst = L2.map Prod.fst := by rw [← hmw]; unfold mapW; rw [List.map_map]; rfl
          rw [hfst] at how
          obtain ⟨ia, ic, hvw⟩ := how.shape
          rw [List.length_map, hm] at hvw
          rw [hm] at y2 hrw
          have HOW : Hid (OwnI wy wz.heap.size (.slice ia m ic) (L2.map Prod.fst)) := by rw [← hvw]; exact how
          subst hvw
          have HRW := Lib.hid hrw
          have HM := Lib.hid hm
          have HMF : Hid (m ≤ 1000) := by
            have h1 := HOKD.out.waits
            rw [← hmw] at h1
            unfold mapW at h1
            rw [List.length_map, hm] at h1
            unfold Hid
            omega
          clear how hbw hmw hrw hm hfst Z
          go_wp2_with fail
          go_loopw [122] (fun s122 wj => ∃ j : Nat, j ≤ m ∧ s122 = .int .i64 (j : Int) ∧ Hid (Below wy.heap.size wy wj)) (fun s122 _ => m - (intOf s122).toNat)
          case atStart => exact ⟨0, by omega, rfl, Below.refl _ _⟩
          case round =>
            obtain ⟨j, hj, rfl, hw2⟩ := hrel
            by_cases hjm : j < m
            · have hd2 : decide ((j : Int) < (m : Int)) = true := by simp; omega
              have hji : (j : Int) < (m : Int) := by omega
              have hj0 : (0 : Int) ≤ (j : Int) := by omega
              obtain ⟨yw, hyw⟩ : ∃ y, L2[j]? = some y := ⟨_, List.getElem?_eq_getElem (by rw [HM.out]; exact hjm)⟩
              obtain ⟨qb, qo, rfl, hqb, hqc⟩ := RowW.addr HRW.out (by rw [HM.out]; omega)
              obtain ⟨ga, gc, ega, _, hgl⟩ := OwnI.form HOW.out (by rw [List.length_map, HM.out]; omega)
              rw [List.length_map, HM.out] at ega
              cases ega
              obtain ⟨sj, hsj⟩ : ∃ s, yw.1 = s := ⟨_, rfl⟩
              have H18 : Hid (∀ W, Below wr.heap.size wr W → W.cell? ⟨ga, j, none⟩ = some (.int .i64 sj) ∧ W.cell? ⟨g2, 2, none⟩ = some (.slice (some ⟨qb, qo, none⟩) m qc) ∧ W.cell? ⟨qb, qo + j * 2, none⟩ = some (.int .i64 sj)) := fun W hW => by
                have hb := hw2.out.trans (hW.mono hw2.out.size)
                have k0 := World.ownsRow.cells HOW.out (g := ga) rfl j (.int .i64 sj) (by rw [List.getElem?_map, List.getElem?_map, hyw, Option.map_some, Option.map_some, hsj])
                rw [show (⟨ga, 0, none⟩ : Addr).add j = ⟨ga, 0 + j, none⟩ from Addr.add_lit .., Nat.zero_add] at k0
                have k2 := (hqc j yw hyw).1
                rw [hsj] at k2
                have hg2 : g2 < wy.heap.size := Y.out.1.b.lt g2 (by obtain ⟨_, _, _, hh, _⟩ := Y.out.1.b; exact RefAt.tg hh)
                exact ⟨(cell_below hb hgl).trans k0, (cell_below hb hg2).trans y2, (cell_below hb hqb).trans k2⟩
              have hm9 := HMF.out
              clear hyw hqb hqc hgl hsj
              go_upto_region 18 with fail
              refine wp_region_quiet (C := Out wr) (by kernel_rfl) (by kernel_rfl) ⟨rfl, rfl, rfl, Nat.le_refl _, fun _ _ => rfl⟩ ?_
              refine BigFrame.wpQuiet_want rfl (fun K hK => ?_)
              refine quiet_val (.slice (some ⟨ga, 0, none⟩) m ic) (fun w' hw' => by go_simp) (hK _ ?_)
              clear hK K
              simp only [Act.put, List.setIfInBounds_toArray, List.set_cons_zero, List.set_cons_succ]
              refine BigFrame.wpQuiet_want rfl (fun K hK => ?_)
              refine quiet_val (.int .i64 (j : Int)) (fun w' hw' => by go_simp) (hK _ ?_)
              clear hK K
              simp only [Act.put, List.setIfInBounds_toArray, List.set_cons_zero, List.set_cons_succ]
              refine BigFrame.wpQuiet_want rfl (fun K hK => ?_)
              refine quiet_val (.pointer (some ⟨ga, j, none⟩)) (fun w' hw' => by go_simp) (hK _ ?_)
              clear hK K
              simp only [Act.put, List.setIfInBounds_toArray, List.set_cons_zero, List.set_cons_succ]
              refine BigFrame.wpQuiet_want rfl (fun K hK => ?_)
              refine quiet_val (.int .i64 sj) (fun w' hw' => by have m0 := (H18.out w' hw').1; go_simp) (hK _ ?_)
              clear hK K
              simp only [Act.put, List.setIfInBounds_toArray, List.set_cons_zero, List.set_cons_succ]
              refine BigFrame.wpQuiet_want rfl (fun K hK => ?_)
              refine quiet_val (.pointer (some ⟨g2, 0, none⟩)) (fun w' hw' => by go_simp) (hK _ ?_)
              clear hK K
              simp only [Act.put, List.setIfInBounds_toArray, List.set_cons_zero, List.set_cons_succ]
              refine BigFrame.wpQuiet_want rfl (fun K hK => ?_)
              refine quiet_val (.pointer (some ⟨g2, 0, none⟩)) (fun w' hw' => by go_simp) (hK _ ?_)
              clear hK K
              simp only [Act.put, List.setIfInBounds_toArray, List.set_cons_zero, List.set_cons_succ]
              refine BigFrame.wpQuiet_want rfl (fun K hK => ?_)
              refine quiet_val (.pointer (some ⟨g2, 2, none⟩)) (fun w' hw' => by go_simp) (hK _ ?_)
              clear hK K
              simp only [Act.put, List.setIfInBounds_toArray, List.set_cons_zero, List.set_cons_succ]
              refine BigFrame.wpQuiet_want rfl (fun K hK => ?_)
              refine quiet_val (.slice (some ⟨qb, qo, none⟩) m qc) (fun w' hw' => by have m1 := (H18.out w' hw').2.1; go_simp) (hK _ ?_)
              clear hK K
              simp only [Act.put, List.setIfInBounds_toArray, List.set_cons_zero, List.set_cons_succ]
              refine BigFrame.wpQuiet_want rfl (fun K hK => ?_)
              refine quiet_val (.int .i64 (j : Int)) (fun w' hw' => by go_simp) (hK _ ?_)
              clear hK K
              simp only [Act.put, List.setIfInBounds_toArray, List.set_cons_zero, List.set_cons_succ]
              refine BigFrame.wpQuiet_want rfl (fun K hK => ?_)
              refine quiet_val (.pointer (some ⟨qb, qo + j * 2, none⟩)) (fun w' hw' => by go_simp) (hK _ ?_)
              clear hK K
              simp only [Act.put, List.setIfInBounds_toArray, List.set_cons_zero, List.set_cons_succ]
              refine BigFrame.wpQuiet_want rfl (fun K hK => ?_)
              refine quiet_val (.pointer (some ⟨qb, qo + j * 2, none⟩)) (fun w' hw' => by go_simp) (hK _ ?_)
              clear hK K
              simp only [Act.put, List.setIfInBounds_toArray, List.set_cons_zero, List.set_cons_succ]
              refine BigFrame.wpQuiet_want rfl (fun K hK => ?_)
              refine quiet_val (.int .i64 sj) (fun w' hw' => by have m2 := (H18.out w' hw').2.2; go_simp) (hK _ ?_)
              clear hK K
              simp only [Act.put, List.setIfInBounds_toArray, List.set_cons_zero, List.set_cons_succ]
              refine BigFrame.wpQuiet_want rfl (fun K hK => ?_)
              refine quiet_val (.bool false) (fun w' hw' => by go_simp) (hK _ ?_)
              clear hK K
              simp only [Act.put, List.setIfInBounds_toArray, List.set_cons_zero, List.set_cons_succ]
              refine wpQuiet_nil ?_
              intro wq hbq
              have WQ : Hid (Below wy.heap.size wy wq) := hw2.out.trans (hbq.mono hw2.out.size)
              clear hbq H18 hw2
              go_wp2_with fail
              exact ⟨⟨j + 1, by omega, by go_num, WQ.out⟩, by simp [intOf]; omega⟩
            · have hd2 : decide ((j : Int) < (m : Int)) = false := by simp; omega
              have hk9 := HNN.out.2
              go_wp2_with fail
              exact ⟨⟨k + 1, by omega, by go_num, d', Ta, Tb, Y.out.1.grow hw2.out, HOK1.out, HSS.out, Y.out.2.trans (hw2.out.mono Y.out.1.sz)⟩, by simp [intOf]; omega⟩
      · have hd : decide ((k : Int) < (n : Int)) = false := by simp; omega
        have HB7 := Lib.hid W.out.2.2.2
        go_wp2_with fail
        refine (HA wr).mono ?_
        rintro e w9 ⟨rfl, hb⟩
        have HB9 : Hid (Below w.heap.size w w9) := HB7.out.trans (hb.mono HB7.out.size)
        clear hb
        go_wp2_with fail
        go_ret
        exact ⟨rfl, HB9.out⟩
  · have HBAD := Lib.hid (diskOk.newBad s0 z0 w hok)
    clear hr hop
    unfold diskOkI at hok
    have fin : ∀ w1, Below w.heap.size w w1 → True := fun _ _ => trivial
    by_cases h1 : s0 < 1
    · have c1 : decide (s0 < 1) = true := by simpa using h1
      clear hok h1
      go_enter Try.func3, Try.ntmps3
      go_wp2_with fail
      refine (HBAD.out).mono ?_
      rintro e w1 ⟨rfl, hb⟩
      have HB1 := Lib.hid hb
      clear hb
      go_wp2_with fail
      refine (HA w1).mono ?_
      rintro e w2 ⟨rfl, hb⟩
      have HB2 : Hid (Below w.heap.size w w2) := HB1.out.trans (hb.mono HB1.out.size)
      clear hb
      go_wp2_with fail
      go_ret
      exact ⟨rfl, HB2.out⟩
    · have c1 : decide (s0 < 1) = false := by simpa using h1
      by_cases h2 : s0 > 4096
      · have c2 : decide (s0 > 4096) = true := by simpa using h2
        clear hok h1 h2
        go_enter Try.func3, Try.ntmps3
        go_wp2_with fail
        refine (HBAD.out).mono ?_
        rintro e w1 ⟨rfl, hb⟩
        have HB1 := Lib.hid hb
        clear hb
        go_wp2_with fail
        refine (HA w1).mono ?_
        rintro e w2 ⟨rfl, hb⟩
        have HB2 : Hid (Below w.heap.size w w2) := HB1.out.trans (hb.mono HB1.out.size)
        clear hb
        go_wp2_with fail
        go_ret
        exact ⟨rfl, HB2.out⟩
      · have c2 : decide (s0 > 4096) = false := by simpa using h2
        by_cases h3 : z0 < 16
        · have c3 : decide (z0 < 16) = true := by simpa using h3
          clear hok h1 h2 h3
          go_enter Try.func3, Try.ntmps3
          go_wp2_with fail
          refine (HBAD.out).mono ?_
          rintro e w1 ⟨rfl, hb⟩
          have HB1 := Lib.hid hb
          clear hb
          go_wp2_with fail
          refine (HA w1).mono ?_
          rintro e w2 ⟨rfl, hb⟩
          have HB2 : Hid (Below w.heap.size w w2) := HB1.out.trans (hb.mono HB1.out.size)
          clear hb
          go_wp2_with fail
          go_ret
          exact ⟨rfl, HB2.out⟩
        · have c3 : decide (z0 < 16) = false := by simpa using h3
          have h4 : z0 > 512 := by omega
          have c4 : decide (z0 > 512) = true := by simpa using h4
          clear hok h1 h2 h3 h4
          go_enter Try.func3, Try.ntmps3
          go_wp2_with fail
          refine (HBAD.out).mono ?_
          rintro e w1 ⟨rfl, hb⟩
          have HB1 := Lib.hid hb
          clear hb
          go_wp2_with fail
          refine (HA w1).mono ?_
          rintro e w2 ⟨rfl, hb⟩
          have HB2 : Hid (Below w.heap.size w w2) := HB1.out.trans (hb.mono HB1.out.size)
          clear hb
          go_wp2_with fail
          go_ret
          exact ⟨rfl, HB2.out⟩
end Go.Proofs.Ytohmkmekdnfkoaa
