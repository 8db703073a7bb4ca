/- Layer 12: a step that reads. -/
import Derived.Test.YtohmkmekdnfkoaaDf
namespace Go.Proofs.Ytohmkmekdnfkoaa
open Go.RowKit
theorem stepD_2 {d : DM} {p : OpM} (h : p.kind = 2) : stepD d p = (readD d p.n).1 := by unfold stepD; rw [if_neg (by omega), if_pos h]
set_option maxHeartbeats 4000000 in
set_option maxRecDepth 100000 in
theorem step_readDown (N : Nat) (T1 T2 : Nat → Prop) (w : World) (g1 g2 : Nat) (d : DM) (p : OpM) (ks : Option Addr) (kn kc : Nat) (hkv : p.kv = .slice ks kn kc) (h : Two N T1 T2 w g1 g2 d d) (ok : OkD d 999) (op : OkO p) (hkind : p.kind = 2) (hd : d.down = true) :
    Calls Try.prog 10 #[ptrD g1, ptrD g2, .agg #[.int .i64 p.kind, .int .i64 p.n, .int .u8 p.fill, .int .i64 p.short, .slice ks kn kc, .int .i64 p.torn, .int .i64 p.cut]] w (StepQ N w g1 g2 (stepD d p)) := by
  obtain ⟨w1, hw1⟩ : ∃ WW, w.alloc (.cells #[.int .i64 p.kind, .int .i64 p.n, .int .u8 p.fill, .int .i64 p.short, .slice ks kn kc, .int .i64 p.torn, .int .i64 p.cut] 34) = WW := ⟨_, rfl⟩
  have hcs : cellsO p = #[.int .i64 p.kind, .int .i64 p.n, .int .u8 p.fill, .int .i64 p.short, .slice ks kn kc, .int .i64 p.torn, .int .i64 p.cut] := by unfold cellsO; rw [hkv]
  have S1 : Hid (StS N T1 T2 w1 g1 g2 d d w.heap.size p) := by
    rw [← hw1, ← hcs]; exact StS.start h p
  have HB1 : Hid (Below N w w1 ∧ w1.heap.size = w.heap.size + 1) := by
    rw [← hw1]; exact ⟨(Below.refl _ _).alloc h.sz _, by simp⟩
  have HOK := Lib.hid ok
  have HOP := Lib.hid op
  have ok1 : OkD d 1000 := ok.mono (by decide)
  have HOK1 := Lib.hid ok1
  obtain ⟨G, hG⟩ : ∃ G, w.heap.size = G := ⟨_, rfl⟩
  rw [hG] at S1 HB1
  have HG := Lib.hid hG
  obtain ⟨c0, c1, c2, c3, c4, c5, c6⟩ := S1.out.blk.o7
  rw [hkv] at c4
  rw [hkind] at c0
  obtain ⟨wo, wc, L, x1, x2, x4, x6, _, _⟩ := S1.out.two.b.r7
  clear h ok op ok1 hcs
  rw [stepD_2 hkind]
  have HRD : Hid (readD d p.n = (d, 40, [])) := by
    unfold readD Hid
    rw [if_pos hd]
  clear hkind
  go_enter Try.func10, Try.ntmps10
  go_upto_region 1 with fail
  try rw [hw1]
  try rw [hG]
  clear hw1 hG
  go_wp2_with fail
  refine (diskOk.read T1 w1 g1 d p.n S1.out.two.a HOK1.out HOP.out.n).mono ?_
  rintro e w2 ⟨T1', vb, rfl, ha2, ht2, ho2, hoff2⟩
  have S2 : Hid (StS N T1' T2 w2 g1 g2 (readD d p.n).1 d G p ∧ Below N w w2) := ⟨S1.out.stepA ha2 ht2, HB1.out.1.trans (S1.out.two.stepA ha2 ht2).2⟩
  rw [HRD.out] at ho2 S2
  rw [HRD.out]
  obtain ⟨ba, bc, hvb⟩ := ho2.shape
  rw [List.length_nil] at hvb
  subst hvb
  clear ha2 ht2 ho2 hoff2 c0 c1 c2 c3 c4 c5 c6 x1 x2 x4 x6
  obtain ⟨c0, c1, c2, c3, c4, c5, c6⟩ := S2.out.1.blk.o7
  obtain ⟨wo', wc', L', x1, x2, x4, x6, _, _⟩ := S2.out.1.two.b.r7
  rw [hd] at x6
  clear hd
  go_wp2_with fail
  go_ret
  refine ⟨rfl, ⟨T1', T2, ?_⟩, S2.out.2⟩
  rw [HRD.out]
  exact S2.out.1.two
set_option maxHeartbeats 4000000 in
set_option maxRecDepth 100000 in
theorem step_readRange (N : Nat) (T1 T2 : Nat → Prop) (w : World) (g1 g2 : Nat) (d : DM) (p : OpM) (ks : Option Addr) (kn kc : Nat) (hkv : p.kv = .slice ks kn kc) (h : Two N T1 T2 w g1 g2 d d) (ok : OkD d 999) (op : OkO p) (hkind : p.kind = 2) (hd : d.down = false) (hi : hasD d p.n = false) :
    Calls Try.prog 10 #[ptrD g1, ptrD g2, .agg #[.int .i64 p.kind, .int .i64 p.n, .int .u8 p.fill, .int .i64 p.short, .slice ks kn kc, .int .i64 p.torn, .int .i64 p.cut]] w (StepQ N w g1 g2 (stepD d p)) := by
  obtain ⟨w1, hw1⟩ : ∃ WW, w.alloc (.cells #[.int .i64 p.kind, .int .i64 p.n, .int .u8 p.fill, .int .i64 p.short, .slice ks kn kc, .int .i64 p.torn, .int .i64 p.cut] 34) = WW := ⟨_, rfl⟩
  have hcs : cellsO p = #[.int .i64 p.kind, .int .i64 p.n, .int .u8 p.fill, .int .i64 p.short, .slice ks kn kc, .int .i64 p.torn, .int .i64 p.cut] := by unfold cellsO; rw [hkv]
  have S1 : Hid (StS N T1 T2 w1 g1 g2 d d w.heap.size p) := by
    rw [← hw1, ← hcs]; exact StS.start h p
  have HB1 : Hid (Below N w w1 ∧ w1.heap.size = w.heap.size + 1) := by
    rw [← hw1]; exact ⟨(Below.refl _ _).alloc h.sz _, by simp⟩
  have HOK := Lib.hid ok
  have HOP := Lib.hid op
  have ok1 : OkD d 1000 := ok.mono (by decide)
  have HOK1 := Lib.hid ok1
  obtain ⟨G, hG⟩ : ∃ G, w.heap.size = G := ⟨_, rfl⟩
  rw [hG] at S1 HB1
  have HG := Lib.hid hG
  obtain ⟨c0, c1, c2, c3, c4, c5, c6⟩ := S1.out.blk.o7
  rw [hkv] at c4
  rw [hkind] at c0
  obtain ⟨wo, wc, L, x1, x2, x4, x6, _, _⟩ := S1.out.two.b.r7
  clear h ok op ok1 hcs
  rw [stepD_2 hkind]
  have HRD : Hid (readD d p.n = (d, 30, [])) := by
    unfold readD Hid
    rw [if_neg (by rw [hd]; simp), if_pos hi]
  clear hkind
  go_enter Try.func10, Try.ntmps10
  go_upto_region 1 with fail
  try rw [hw1]
  try rw [hG]
  clear hw1 hG
  go_wp2_with fail
  refine (diskOk.read T1 w1 g1 d p.n S1.out.two.a HOK1.out HOP.out.n).mono ?_
  rintro e w2 ⟨T1', vb, rfl, ha2, ht2, ho2, hoff2⟩
  have S2 : Hid (StS N T1' T2 w2 g1 g2 (readD d p.n).1 d G p ∧ Below N w w2) := ⟨S1.out.stepA ha2 ht2, HB1.out.1.trans (S1.out.two.stepA ha2 ht2).2⟩
  rw [HRD.out] at ho2 S2
  rw [HRD.out]
  obtain ⟨ba, bc, hvb⟩ := ho2.shape
  rw [List.length_nil] at hvb
  subst hvb
  clear ha2 ht2 ho2 hoff2 c0 c1 c2 c3 c4 c5 c6 x1 x2 x4 x6
  obtain ⟨c0, c1, c2, c3, c4, c5, c6⟩ := S2.out.1.blk.o7
  obtain ⟨wo', wc', L', x1, x2, x4, x6, _, _⟩ := S2.out.1.two.b.r7
  rw [hd] at x6
  have HHAS := Lib.hid (rHas_c T2 w2 g2 d p.n S2.out.1.two.b HOK1.out)
  rw [hi] at HHAS
  clear hd hi
  go_wp2_with fail
  refine (HHAS.out).mono ?_
  rintro e w3 ⟨rfl, hb3⟩
  have S3 : Hid (StS N T1' T2 w3 g1 g2 d d G p ∧ Below N w w3) := ⟨S2.out.1.grow hb3, S2.out.2.trans (hb3.mono S2.out.1.two.sz)⟩
  clear hb3 HHAS x1 x2 x4 x6 c0 c1 c2 c3 c4 c5 c6
  go_wp2_with fail
  go_ret
  refine ⟨rfl, ⟨T1', T2, ?_⟩, S3.out.2⟩
  rw [HRD.out]
  exact S3.out.1.two
set_option maxHeartbeats 4000000 in
set_option maxRecDepth 100000 in
theorem step_read (N : Nat) (T1 T2 : Nat → Prop) (w : World) (g1 g2 : Nat) (d : DM) (p : OpM) (ks : Option Addr) (kn kc : Nat) (hkv : p.kv = .slice ks kn kc) (h : Two N T1 T2 w g1 g2 d d) (ok : OkD d 999) (op : OkO p) (hkind : p.kind = 2) (hd : d.down = false) (hi : hasD d p.n = true) :
    Calls Try.prog 10 #[ptrD g1, ptrD g2, .agg #[.int .i64 p.kind, .int .i64 p.n, .int .u8 p.fill, .int .i64 p.short, .slice ks kn kc, .int .i64 p.torn, .int .i64 p.cut]] w (StepQ N w g1 g2 (stepD d p)) := by
  obtain ⟨w1, hw1⟩ : ∃ WW, w.alloc (.cells #[.int .i64 p.kind, .int .i64 p.n, .int .u8 p.fill, .int .i64 p.short, .slice ks kn kc, .int .i64 p.torn, .int .i64 p.cut] 34) = WW := ⟨_, rfl⟩
  have hcs : cellsO p = #[.int .i64 p.kind, .int .i64 p.n, .int .u8 p.fill, .int .i64 p.short, .slice ks kn kc, .int .i64 p.torn, .int .i64 p.cut] := by unfold cellsO; rw [hkv]
  have S1 : Hid (StS N T1 T2 w1 g1 g2 d d w.heap.size p) := by
    rw [← hw1, ← hcs]; exact StS.start h p
  have HB1 : Hid (Below N w w1 ∧ w1.heap.size = w.heap.size + 1) := by
    rw [← hw1]; exact ⟨(Below.refl _ _).alloc h.sz _, by simp⟩
  have HOK := Lib.hid ok
  have HOP := Lib.hid op
  have ok1 : OkD d 1000 := ok.mono (by decide)
  have HOK1 := Lib.hid ok1
  obtain ⟨G, hG⟩ : ∃ G, w.heap.size = G := ⟨_, rfl⟩
  rw [hG] at S1 HB1
  have HG := Lib.hid hG
  obtain ⟨c0, c1, c2, c3, c4, c5, c6⟩ := S1.out.blk.o7
  rw [hkv] at c4
  rw [hkind] at c0
  obtain ⟨wo, wc, L, x1, x2, x4, x6, _, _⟩ := S1.out.two.b.r7
  clear h ok op ok1 hcs
  rw [stepD_2 hkind]
  clear hkind
  obtain ⟨nn, hz⟩ : ∃ z : Nat, d.size = (z : Int) := ⟨d.size.toNat, by have := HOK.out.made.2.2.1; omega⟩
  have hz1 : 16 ≤ nn := by have := HOK.out.made.2.2.1; omega
  have hz2 : nn ≤ 512 := by have := HOK.out.made.2.2.2; omega
  have HNN : Hid (nn ≤ 512) := hz2
  have hi' := hi
  unfold hasD at hi'
  simp only [Bool.and_eq_true, decide_eq_true_eq] at hi'
  obtain ⟨q, hq⟩ : ∃ q : Nat, p.n = (q : Int) := ⟨p.n.toNat, by omega⟩
  obtain ⟨m, hm⟩ : ∃ m, (nowD d).length = m := ⟨_, rfl⟩
  have hm2 : m = d.safe.length := by rw [← hm]; unfold nowD; rw [nowM_len]
  obtain ⟨a, ha⟩ : ∃ a, q * nn = a := ⟨_, rfl⟩
  obtain ⟨q1, hq1⟩ : ∃ b, q + 1 = b := ⟨_, rfl⟩
  obtain ⟨b, hb0⟩ : ∃ b, q1 * nn = b := ⟨_, rfl⟩
  have hab : a + nn = b := by rw [← hb0, ← ha, ← hq1, Nat.add_mul, Nat.one_mul]
  have hbm : b ≤ m := by
    have hl := HOK.out.len
    obtain ⟨s, hs⟩ : ∃ s : Nat, d.sectors = (s : Int) := ⟨d.sectors.toNat, by have := HOK.out.made.1; omega⟩
    rw [hs, hz] at hl
    have hl2 : d.safe.length = s * nn := by exact_mod_cast hl
    rw [hm2, hl2, ← hb0]
    exact Nat.mul_le_mul_right nn (by omega)
  have hmm : m ≤ 1000 := by have := HOK.out.few; omega
  have HAB : Hid (a + nn = b ∧ b ≤ m ∧ 16 ≤ nn) := ⟨hab, hbm, hz1⟩
  have HNL : Hid ((nowD d).length = m ∧ 0 < m) := ⟨hm, by omega⟩
  have hqm : q ≤ 1000 := by have := Nat.le_mul_of_pos_right q (show 0 < nn by omega); omega
  have haz : (q : Int) * (nn : Int) = (a : Int) := by rw [← ha]; simp
  have hbz : (q1 : Int) * (nn : Int) = (b : Int) := by rw [← hb0]; simp
  have EA : Hid (IntKind.i64.wrap ((q : Int) * (nn : Int)) = (a : Int) ∧ IntKind.i64.wrap ((q : Int) + 1) = (q1 : Int) ∧ IntKind.i64.wrap ((q1 : Int) * (nn : Int)) = (b : Int)) := by
    refine ⟨?_, ?_, ?_⟩
    · rw [wrap_is, haz]; exact wrapR _ (by omega) (by omega)
    · rw [wrap_is, wrapR _ (by omega) (by omega), ← hq1]; simp
    · rw [wrap_is, hbz]; exact wrapR _ (by omega) (by omega)
  obtain ⟨SEC, hsec⟩ : ∃ S, secD d p.n = S := ⟨_, rfl⟩
  have HSECE : Hid ((((nowD d).drop a).take nn) = SEC) := by
    unfold Hid
    rw [← hsec]
    unfold secD
    rw [hq, hz, haz, Int.toNat_natCast, Int.toNat_natCast]
  have HLN : Hid (SEC.length = nn) := by
    rw [Hid, ← HSECE.out, List.length_take, List.length_drop, hm]
    omega
  have HSOK : Hid (OkB SEC) := by
    rw [Hid, ← HSECE.out]
    have hok : OkB (nowD d) := nowM_ok _ _ _ HOK.out.byts fun x hx => (HOK.out.wait x hx).2.2.2
    exact fun x hx => hok x (List.mem_of_mem_drop (List.mem_of_mem_take hx))
  obtain ⟨qs, hqs⟩ : ∃ qs, strI SEC = qs := ⟨_, rfl⟩
  have HQS := Lib.hid hqs
  have HRD : Hid ((readD d p.n).2 = (0, SEC)) := by
    unfold readD Hid
    rw [if_neg (by rw [hd]; simp), if_neg (by rw [hi]; simp), hsec]
  have HNQ := Lib.hid hq
  have HDN := Lib.hid hd
  have HHI := Lib.hid hi
  have HDZ := Lib.hid hz
  clear hd hi hz hz1 hz2 hi' hq hm hm2 ha hq1 hb0 hab hbm hmm hqm haz hbz hsec hqs
  go_enter Try.func10, Try.ntmps10
  go_upto_region 1 with fail
  try rw [hw1]
  try rw [hG]
  clear hw1 hG
  go_wp2_with fail
  refine (diskOk.read T1 w1 g1 d p.n S1.out.two.a HOK1.out HOP.out.n).mono ?_
  rintro e w2 ⟨T1', vb, rfl, ha2, ht2, ho2, hoff2⟩
  have S2 : Hid (StS N T1' T2 w2 g1 g2 (readD d p.n).1 d G p ∧ Below N w w2) := ⟨S1.out.stepA ha2 ht2, HB1.out.1.trans (S1.out.two.stepA ha2 ht2).2⟩
  rw [HRD.out] at ho2
  rw [HRD.out]
  obtain ⟨d1, hd1⟩ : ∃ d1, (readD d p.n).1 = d1 := ⟨_, rfl⟩
  have HD1 := Lib.hid hd1
  rw [hd1] at S2
  have S2B : Hid (RAt T2 w2 g2 d) := S2.out.1.two.b
  obtain ⟨ba, bc, hvb⟩ := ho2.shape
  have hvb' : vb = .slice ba nn bc := by rw [hvb]; congr 1
  subst hvb'
  have HO2 : Hid (OwnB w2 w1.heap.size (.slice ba nn bc) SEC) := ho2
  have HOF2 : Hid (∀ k, (Value.slice ba nn bc).ownBlock = some k → ¬ T1' k ∧ ¬ T2 k ∧ N ≤ k) := fun k e => ⟨hoff2 k e, fun hT => by have := S1.out.two.b.lt k hT; have := (ho2.lt k e).1; omega, by have := (ho2.lt k e).1; have := S1.out.two.sz; omega⟩
  have HOFF : Hid (∀ gb, ba = some ⟨gb, 0, none⟩ → ¬ T1' gb ∧ ¬ T2 gb ∧ N ≤ gb) := fun gb e => HOF2.out gb (by rw [e]; rfl)
  clear ha2 ht2 ho2 hoff2 hvb hd1 c0 c1 c2 c3 c4 c5 c6 x1 x2 x4 x6
  obtain ⟨c0, c1, c2, c3, c4, c5, c6⟩ := S2.out.1.blk.o7
  obtain ⟨wo', wc', L', x1, x2, x4, x6, _, _⟩ := S2B.out.r7
  rw [HDN.out] at x6
  have HHAS := Lib.hid (rHas_c T2 w2 g2 d p.n S2B.out HOK1.out)
  rw [HHI.out] at HHAS
  go_wp2_with fail
  refine (HHAS.out).mono ?_
  rintro e w3 ⟨rfl, hb3⟩
  have S3 : Hid (Two N T1' T2 w3 g1 g2 d1 d1 ∧ Below N w w3) := ⟨by
    have hx := (S2.out.1.two.grow hb3)
    rw [← HD1.out] at hx ⊢
    exact ⟨hx.a, hx.b.read p.n, hx.apart, hx.far1, hx.far2, hx.sz⟩, S2.out.2.trans (hb3.mono S2.out.1.two.sz)⟩
  have HO3 : Hid (OwnB w3 w1.heap.size (.slice ba nn bc) SEC) := HO2.out.grow hb3
  have HCV : Hid (∀ W, Below w3.heap.size w3 W → (convert 28 9 (.slice ba nn bc)).run Try.prog W = .ok (.string qs) W) := fun W hW => by
    have cv := conv_b (HO3.out.grow hW).row HSOK.out
    rw [HQS.out] at cv
    exact cv
  have HNOW : Hid (∀ W, Below w3.heap.size w3 W → Calls Try.prog 16 #[ptrD g2] W fun e w' => ∃ u, e = .returned u ∧ NewB w3.heap.size m (nowD d) u w' ∧ Below W.heap.size W w') := fun W hW => by
    refine (rNow_c T2 W g2 d ((S2B.out.grow hb3).grow hW) HOK1.out).mono ?_
    rintro e w' ⟨u, rfl, ho, hb'⟩
    obtain ⟨a, c, e⟩ := ho.shape
    rw [HNL.out.1] at e
    exact ⟨u, rfl, ⟨a, c, e, by rw [← e]; exact owns_base ho hW.size⟩, hb'⟩
  have HC9 : Hid (∀ W, Below w3.heap.size w3 W → W.cell? ⟨G, 1, none⟩ = some (.int .i64 (q : Int)) ∧ W.cell? ⟨g2, 1, none⟩ = some (.int .i64 (nn : Int))) := fun W hW => by
    obtain ⟨_, q1, _⟩ := ((S2.out.1.grow hb3).grow hW).blk.o7
    obtain ⟨_, _, _, y1, _⟩ := ((S2B.out.grow hb3).grow hW).r7
    rw [HNQ.out] at q1
    rw [HDZ.out] at y1
    exact ⟨q1, y1⟩
  clear hb3 HHAS x1 x2 x4 x6 c0 c1 c2 c3 c4 c5 c6
  go_upto_region 21 with fail
  refine wp_region_put (by kernel_rfl) (by kernel_rfl) (by kernel_rfl) (fun b' vs w' => (b' 0 = true → vs 0 = .slice ba nn bc) ∧ (b' 1 = true → vs 1 = .string qs) ∧ (b' 2 = true → vs 2 = .pointer (some ⟨g2, 0, none⟩)) ∧ (b' 4 = true → vs 4 = .pointer (some ⟨G, 1, none⟩)) ∧ (b' 5 = true → vs 5 = .int .i64 (q : Int)) ∧ (b' 6 = true → vs 6 = .pointer (some ⟨g2, 0, none⟩)) ∧ (b' 7 = true → vs 7 = .pointer (some ⟨g2, 0, none⟩)) ∧ (b' 8 = true → vs 8 = .pointer (some ⟨g2, 1, none⟩)) ∧ (b' 9 = true → vs 9 = .int .i64 (nn : Int)) ∧ (b' 10 = true → vs 10 = .int .i64 (a : Int)) ∧ (b' 11 = true → vs 11 = .pointer (some ⟨G, 1, none⟩)) ∧ (b' 12 = true → vs 12 = .int .i64 (q : Int)) ∧ (b' 13 = true → vs 13 = .int .i64 (q1 : Int)) ∧ (b' 14 = true → vs 14 = .pointer (some ⟨g2, 0, none⟩)) ∧ (b' 15 = true → vs 15 = .pointer (some ⟨g2, 0, none⟩)) ∧ (b' 16 = true → vs 16 = .pointer (some ⟨g2, 1, none⟩)) ∧ (b' 17 = true → vs 17 = .int .i64 (nn : Int)) ∧ (b' 18 = true → vs 18 = .int .i64 (b : Int)) ∧ (b' 20 = true → vs 20 = .string qs) ∧ (b' 21 = true → vs 21 = .bool true) ∧ (b' 22 = true → vs 22 = .bool true) ∧ (b' 3 = true → Hid (NewB w3.heap.size m (nowD d) (vs 3) w')) ∧ (b' 19 = true → Hid (∃ a' c', (vs 19) = Value.slice a' nn c' ∧ RowB w' (.slice a' nn c') SEC)) ∧ (Hid (Below w3.heap.size w3 w' ∧ w3.heap.size ≤ w'.heap.size))) ?_ ?_ ?_
  · intro vs
    exact ⟨fun h => Bool.noConfusion h, fun h => Bool.noConfusion h, fun h => Bool.noConfusion h, fun h => Bool.noConfusion h, fun h => Bool.noConfusion h, fun h => Bool.noConfusion h, fun h => Bool.noConfusion h, fun h => Bool.noConfusion h, fun h => Bool.noConfusion h, fun h => Bool.noConfusion h, fun h => Bool.noConfusion h, fun h => Bool.noConfusion h, fun h => Bool.noConfusion h, fun h => Bool.noConfusion h, fun h => Bool.noConfusion h, fun h => Bool.noConfusion h, fun h => Bool.noConfusion h, fun h => Bool.noConfusion h, fun h => Bool.noConfusion h, fun h => Bool.noConfusion h, fun h => Bool.noConfusion h, fun h => Bool.noConfusion h, fun h => Bool.noConfusion h, Lib.hid ⟨below_drewN (Below.refl _ _) 1, Nat.le_refl _⟩⟩
  · rintro b' vs w' i op hi hun hall ⟨h0, h1, h2, h4, h5, h6, h7, h8, h9, h10, h11, h12, h13, h14, h15, h16, h17, h18, h20, h21, h22, y3, y19, hB⟩
    have hil : i < 23 := (List.getElem?_eq_some_iff.1 hi).1
    rcases i with _ | _ | _ | _ | _ | _ | _ | _ | _ | _ | _ | _ | _ | _ | _ | _ | _ | _ | _ | _ | _ | _ | _ | i
    · obtain rfl := Option.some.inj hi
      clear hi hil
      refine wpOp_step rfl (fun K hK => ?_)
      have HKK := Lib.hid hK; clear hK
      simp only [putAll, Act.put, List.setIfInBounds_toArray, List.set_cons_zero, List.set_cons_succ]
      go_simp
      exact HKK.out _ _ ⟨_, by simp only [putAll, Act.put, List.setIfInBounds_toArray, List.set_cons_zero, List.set_cons_succ] <;> rfl, fun _ => rfl, h1, h2, h4, h5, h6, h7, h8, h9, h10, h11, h12, h13, h14, h15, h16, h17, h18, h20, h21, h22, y3, y19, hB⟩
    · obtain rfl := Option.some.inj hi
      clear hi hil
      have d0 := h0 (hall ⟨0, .data⟩ (by simp) rfl)
      have cv := HCV.out w' hB.out.1
      refine wpOp_step rfl (fun K hK => ?_)
      have HKK := Lib.hid hK; clear hK
      simp only [putAll, Act.put, List.setIfInBounds_toArray, List.set_cons_zero, List.set_cons_succ]
      go_simp
      exact HKK.out _ _ ⟨_, by simp only [putAll, Act.put, List.setIfInBounds_toArray, List.set_cons_zero, List.set_cons_succ, d0] <;> rfl, h0, fun _ => rfl, h2, h4, h5, h6, h7, h8, h9, h10, h11, h12, h13, h14, h15, h16, h17, h18, h20, h21, h22, y3, y19, hB⟩
    · obtain rfl := Option.some.inj hi
      clear hi hil
      refine wpOp_step rfl (fun K hK => ?_)
      have HKK := Lib.hid hK; clear hK
      simp only [putAll, Act.put, List.setIfInBounds_toArray, List.set_cons_zero, List.set_cons_succ]
      go_simp
      exact HKK.out _ _ ⟨_, by simp only [putAll, Act.put, List.setIfInBounds_toArray, List.set_cons_zero, List.set_cons_succ] <;> rfl, h0, h1, fun _ => rfl, h4, h5, h6, h7, h8, h9, h10, h11, h12, h13, h14, h15, h16, h17, h18, h20, h21, h22, y3, y19, hB⟩
    · obtain rfl := Option.some.inj hi
      clear hi hil
      have d2 := h2 (hall ⟨2, .data⟩ (by simp) rfl)
      refine wpOp_step rfl (fun K hK => ?_)
      have HKK := Lib.hid hK; clear hK
      simp only [putAll, Act.put, List.setIfInBounds_toArray, List.set_cons_zero, List.set_cons_succ]
      go_simp
      refine (HNOW.out w' hB.out.1).mono ?_
      rintro e w2' ⟨u2, rfl, ho2, hb2⟩
      exact HKK.out _ _ ⟨_, by simp only [putAll, Act.put, List.setIfInBounds_toArray, List.set_cons_zero, List.set_cons_succ, d2] <;> rfl, h0, h1, h2, h4, h5, h6, h7, h8, h9, h10, h11, h12, h13, h14, h15, h16, h17, h18, h20, h21, h22, fun _ => Lib.hid (ho2), fun h => Lib.hid ((by obtain ⟨a', c', e, hr⟩ := (y19 h).out; exact ⟨a', c', e, hr.on hb2⟩)), Lib.hid ⟨(hB).out.1.trans (hb2.mono (hB).out.2), Nat.le_trans (hB).out.2 hb2.size⟩⟩
    · obtain rfl := Option.some.inj hi
      clear hi hil
      refine wpOp_step rfl (fun K hK => ?_)
      have HKK := Lib.hid hK; clear hK
      simp only [putAll, Act.put, List.setIfInBounds_toArray, List.set_cons_zero, List.set_cons_succ]
      go_simp
      exact HKK.out _ _ ⟨_, by simp only [putAll, Act.put, List.setIfInBounds_toArray, List.set_cons_zero, List.set_cons_succ] <;> rfl, h0, h1, h2, fun _ => rfl, h5, h6, h7, h8, h9, h10, h11, h12, h13, h14, h15, h16, h17, h18, h20, h21, h22, y3, y19, hB⟩
    · obtain rfl := Option.some.inj hi
      clear hi hil
      have d4 := h4 (hall ⟨4, .data⟩ (by simp) rfl)
      have m1 : w'.cell? ⟨G, 1, none⟩ = some (.int .i64 (q : Int)) := (HC9.out w' hB.out.1).1
      refine wpOp_step rfl (fun K hK => ?_)
      have HKK := Lib.hid hK; clear hK
      simp only [putAll, Act.put, List.setIfInBounds_toArray, List.set_cons_zero, List.set_cons_succ]
      go_simp
      exact HKK.out _ _ ⟨_, by simp only [putAll, Act.put, List.setIfInBounds_toArray, List.set_cons_zero, List.set_cons_succ, d4] <;> rfl, h0, h1, h2, h4, fun _ => rfl, h6, h7, h8, h9, h10, h11, h12, h13, h14, h15, h16, h17, h18, h20, h21, h22, y3, y19, hB⟩
    · obtain rfl := Option.some.inj hi
      clear hi hil
      refine wpOp_step rfl (fun K hK => ?_)
      have HKK := Lib.hid hK; clear hK
      simp only [putAll, Act.put, List.setIfInBounds_toArray, List.set_cons_zero, List.set_cons_succ]
      go_simp
      exact HKK.out _ _ ⟨_, by simp only [putAll, Act.put, List.setIfInBounds_toArray, List.set_cons_zero, List.set_cons_succ] <;> rfl, h0, h1, h2, h4, h5, fun _ => rfl, h7, h8, h9, h10, h11, h12, h13, h14, h15, h16, h17, h18, h20, h21, h22, y3, y19, hB⟩
    · obtain rfl := Option.some.inj hi
      clear hi hil
      have d6 := h6 (hall ⟨6, .data⟩ (by simp) rfl)
      refine wpOp_step rfl (fun K hK => ?_)
      have HKK := Lib.hid hK; clear hK
      simp only [putAll, Act.put, List.setIfInBounds_toArray, List.set_cons_zero, List.set_cons_succ]
      go_simp
      exact HKK.out _ _ ⟨_, by simp only [putAll, Act.put, List.setIfInBounds_toArray, List.set_cons_zero, List.set_cons_succ, d6] <;> rfl, h0, h1, h2, h4, h5, h6, fun _ => rfl, h8, h9, h10, h11, h12, h13, h14, h15, h16, h17, h18, h20, h21, h22, y3, y19, hB⟩
    · obtain rfl := Option.some.inj hi
      clear hi hil
      have d7 := h7 (hall ⟨7, .data⟩ (by simp) rfl)
      refine wpOp_step rfl (fun K hK => ?_)
      have HKK := Lib.hid hK; clear hK
      simp only [putAll, Act.put, List.setIfInBounds_toArray, List.set_cons_zero, List.set_cons_succ]
      go_simp
      exact HKK.out _ _ ⟨_, by simp only [putAll, Act.put, List.setIfInBounds_toArray, List.set_cons_zero, List.set_cons_succ, d7] <;> rfl, h0, h1, h2, h4, h5, h6, h7, fun _ => rfl, h9, h10, h11, h12, h13, h14, h15, h16, h17, h18, h20, h21, h22, y3, y19, hB⟩
    · obtain rfl := Option.some.inj hi
      clear hi hil
      have d8 := h8 (hall ⟨8, .data⟩ (by simp) rfl)
      have m2 : w'.cell? ⟨g2, 1, none⟩ = some (.int .i64 (nn : Int)) := (HC9.out w' hB.out.1).2
      refine wpOp_step rfl (fun K hK => ?_)
      have HKK := Lib.hid hK; clear hK
      simp only [putAll, Act.put, List.setIfInBounds_toArray, List.set_cons_zero, List.set_cons_succ]
      go_simp
      exact HKK.out _ _ ⟨_, by simp only [putAll, Act.put, List.setIfInBounds_toArray, List.set_cons_zero, List.set_cons_succ, d8] <;> rfl, h0, h1, h2, h4, h5, h6, h7, h8, fun _ => rfl, h10, h11, h12, h13, h14, h15, h16, h17, h18, h20, h21, h22, y3, y19, hB⟩
    · obtain rfl := Option.some.inj hi
      clear hi hil
      have d5 := h5 (hall ⟨5, .data⟩ (by simp) rfl)
      have d9 := h9 (hall ⟨9, .data⟩ (by simp) rfl)
      refine wpOp_step rfl (fun K hK => ?_)
      have HKK := Lib.hid hK; clear hK
      simp only [putAll, Act.put, List.setIfInBounds_toArray, List.set_cons_zero, List.set_cons_succ]
      go_simp
      exact HKK.out _ _ ⟨_, by simp only [putAll, Act.put, List.setIfInBounds_toArray, List.set_cons_zero, List.set_cons_succ, d5, d9, EA.out.1] <;> rfl, h0, h1, h2, h4, h5, h6, h7, h8, h9, fun _ => rfl, h11, h12, h13, h14, h15, h16, h17, h18, h20, h21, h22, y3, y19, hB⟩
    · obtain rfl := Option.some.inj hi
      clear hi hil
      refine wpOp_step rfl (fun K hK => ?_)
      have HKK := Lib.hid hK; clear hK
      simp only [putAll, Act.put, List.setIfInBounds_toArray, List.set_cons_zero, List.set_cons_succ]
      go_simp
      exact HKK.out _ _ ⟨_, by simp only [putAll, Act.put, List.setIfInBounds_toArray, List.set_cons_zero, List.set_cons_succ] <;> rfl, h0, h1, h2, h4, h5, h6, h7, h8, h9, h10, fun _ => rfl, h12, h13, h14, h15, h16, h17, h18, h20, h21, h22, y3, y19, hB⟩
    · obtain rfl := Option.some.inj hi
      clear hi hil
      have d11 := h11 (hall ⟨11, .data⟩ (by simp) rfl)
      have m1 : w'.cell? ⟨G, 1, none⟩ = some (.int .i64 (q : Int)) := (HC9.out w' hB.out.1).1
      refine wpOp_step rfl (fun K hK => ?_)
      have HKK := Lib.hid hK; clear hK
      simp only [putAll, Act.put, List.setIfInBounds_toArray, List.set_cons_zero, List.set_cons_succ]
      go_simp
      exact HKK.out _ _ ⟨_, by simp only [putAll, Act.put, List.setIfInBounds_toArray, List.set_cons_zero, List.set_cons_succ, d11] <;> rfl, h0, h1, h2, h4, h5, h6, h7, h8, h9, h10, h11, fun _ => rfl, h13, h14, h15, h16, h17, h18, h20, h21, h22, y3, y19, hB⟩
    · obtain rfl := Option.some.inj hi
      clear hi hil
      have d12 := h12 (hall ⟨12, .data⟩ (by simp) rfl)
      refine wpOp_step rfl (fun K hK => ?_)
      have HKK := Lib.hid hK; clear hK
      simp only [putAll, Act.put, List.setIfInBounds_toArray, List.set_cons_zero, List.set_cons_succ]
      go_simp
      exact HKK.out _ _ ⟨_, by simp only [putAll, Act.put, List.setIfInBounds_toArray, List.set_cons_zero, List.set_cons_succ, d12, EA.out.2.1] <;> rfl, h0, h1, h2, h4, h5, h6, h7, h8, h9, h10, h11, h12, fun _ => rfl, h14, h15, h16, h17, h18, h20, h21, h22, y3, y19, hB⟩
    · obtain rfl := Option.some.inj hi
      clear hi hil
      refine wpOp_step rfl (fun K hK => ?_)
      have HKK := Lib.hid hK; clear hK
      simp only [putAll, Act.put, List.setIfInBounds_toArray, List.set_cons_zero, List.set_cons_succ]
      go_simp
      exact HKK.out _ _ ⟨_, by simp only [putAll, Act.put, List.setIfInBounds_toArray, List.set_cons_zero, List.set_cons_succ] <;> rfl, h0, h1, h2, h4, h5, h6, h7, h8, h9, h10, h11, h12, h13, fun _ => rfl, h15, h16, h17, h18, h20, h21, h22, y3, y19, hB⟩
    · obtain rfl := Option.some.inj hi
      clear hi hil
      have d14 := h14 (hall ⟨14, .data⟩ (by simp) rfl)
      refine wpOp_step rfl (fun K hK => ?_)
      have HKK := Lib.hid hK; clear hK
      simp only [putAll, Act.put, List.setIfInBounds_toArray, List.set_cons_zero, List.set_cons_succ]
      go_simp
      exact HKK.out _ _ ⟨_, by simp only [putAll, Act.put, List.setIfInBounds_toArray, List.set_cons_zero, List.set_cons_succ, d14] <;> rfl, h0, h1, h2, h4, h5, h6, h7, h8, h9, h10, h11, h12, h13, h14, fun _ => rfl, h16, h17, h18, h20, h21, h22, y3, y19, hB⟩
    · obtain rfl := Option.some.inj hi
      clear hi hil
      have d15 := h15 (hall ⟨15, .data⟩ (by simp) rfl)
      refine wpOp_step rfl (fun K hK => ?_)
      have HKK := Lib.hid hK; clear hK
      simp only [putAll, Act.put, List.setIfInBounds_toArray, List.set_cons_zero, List.set_cons_succ]
      go_simp
      exact HKK.out _ _ ⟨_, by simp only [putAll, Act.put, List.setIfInBounds_toArray, List.set_cons_zero, List.set_cons_succ, d15] <;> rfl, h0, h1, h2, h4, h5, h6, h7, h8, h9, h10, h11, h12, h13, h14, h15, fun _ => rfl, h17, h18, h20, h21, h22, y3, y19, hB⟩
    · obtain rfl := Option.some.inj hi
      clear hi hil
      have d16 := h16 (hall ⟨16, .data⟩ (by simp) rfl)
      have m2 : w'.cell? ⟨g2, 1, none⟩ = some (.int .i64 (nn : Int)) := (HC9.out w' hB.out.1).2
      refine wpOp_step rfl (fun K hK => ?_)
      have HKK := Lib.hid hK; clear hK
      simp only [putAll, Act.put, List.setIfInBounds_toArray, List.set_cons_zero, List.set_cons_succ]
      go_simp
      exact HKK.out _ _ ⟨_, by simp only [putAll, Act.put, List.setIfInBounds_toArray, List.set_cons_zero, List.set_cons_succ, d16] <;> rfl, h0, h1, h2, h4, h5, h6, h7, h8, h9, h10, h11, h12, h13, h14, h15, h16, fun _ => rfl, h18, h20, h21, h22, y3, y19, hB⟩
    · obtain rfl := Option.some.inj hi
      clear hi hil
      have d13 := h13 (hall ⟨13, .data⟩ (by simp) rfl)
      have d17 := h17 (hall ⟨17, .data⟩ (by simp) rfl)
      refine wpOp_step rfl (fun K hK => ?_)
      have HKK := Lib.hid hK; clear hK
      simp only [putAll, Act.put, List.setIfInBounds_toArray, List.set_cons_zero, List.set_cons_succ]
      go_simp
      exact HKK.out _ _ ⟨_, by simp only [putAll, Act.put, List.setIfInBounds_toArray, List.set_cons_zero, List.set_cons_succ, d13, d17, EA.out.2.2] <;> rfl, h0, h1, h2, h4, h5, h6, h7, h8, h9, h10, h11, h12, h13, h14, h15, h16, h17, fun _ => rfl, h20, h21, h22, y3, y19, hB⟩
    · obtain rfl := Option.some.inj hi
      clear hi hil
      have o3 := y3 (hall ⟨3, .data⟩ (by simp) rfl)
      have d10 := h10 (hall ⟨10, .data⟩ (by simp) rfl)
      have d18 := h18 (hall ⟨18, .data⟩ (by simp) rfl)
      obtain ⟨ga, gc, e3, hgc, ho3⟩ := o3.out.form HNL.out.1 HNL.out.2
      have s0 : (0 : Int) ≤ (a : Int) := by omega
      have s1 : (a : Int) ≤ (b : Int) := by have := HAB.out; omega
      have s2 : (b : Int) ≤ (gc : Int) := by have := HAB.out; omega
      have s3 : b - a = nn := by have := HAB.out; omega
      have s4 : ¬ gc = a := by have := HAB.out; omega
      have s5 : a ≤ b := by have := HAB.out; omega
      refine wpOp_step rfl (fun K hK => ?_)
      have HKK := Lib.hid hK; clear hK
      simp only [putAll, Act.put, List.setIfInBounds_toArray, List.set_cons_zero, List.set_cons_succ]
      go_simp
      exact HKK.out _ _ ⟨_, by simp only [putAll, Act.put, List.setIfInBounds_toArray, List.set_cons_zero, List.set_cons_succ, d10, d18, e3] <;> rfl, h0, h1, h2, h4, h5, h6, h7, h8, h9, h10, h11, h12, h13, h14, h15, h16, h17, h18, h20, h21, h22, y3, fun _ => Lib.hid (⟨_, _, rfl, by have := (ho3.mid a nn (by have := HAB.out; omega)).1; rw [HSECE.out] at this; exact this⟩), hB⟩
    · obtain rfl := Option.some.inj hi
      clear hi hil
      have o19 := y19 (hall ⟨19, .data⟩ (by simp) rfl)
      obtain ⟨a', c', e19, hr19⟩ := o19.out
      have cv := conv_b hr19 HSOK.out
      rw [HQS.out] at cv
      refine wpOp_step rfl (fun K hK => ?_)
      have HKK := Lib.hid hK; clear hK
      simp only [putAll, Act.put, List.setIfInBounds_toArray, List.set_cons_zero, List.set_cons_succ]
      go_simp
      exact HKK.out _ _ ⟨_, by simp only [putAll, Act.put, List.setIfInBounds_toArray, List.set_cons_zero, List.set_cons_succ, e19] <;> rfl, h0, h1, h2, h4, h5, h6, h7, h8, h9, h10, h11, h12, h13, h14, h15, h16, h17, h18, fun _ => rfl, h21, h22, y3, y19, hB⟩
    · obtain rfl := Option.some.inj hi
      clear hi hil
      have d1 := h1 (hall ⟨1, .data⟩ (by simp) rfl)
      have d20 := h20 (hall ⟨20, .data⟩ (by simp) rfl)
      refine wpOp_step rfl (fun K hK => ?_)
      have HKK := Lib.hid hK; clear hK
      simp only [putAll, Act.put, List.setIfInBounds_toArray, List.set_cons_zero, List.set_cons_succ]
      go_simp
      exact HKK.out _ _ ⟨_, by simp only [putAll, Act.put, List.setIfInBounds_toArray, List.set_cons_zero, List.set_cons_succ, d1, d20] <;> rfl, h0, h1, h2, h4, h5, h6, h7, h8, h9, h10, h11, h12, h13, h14, h15, h16, h17, h18, h20, fun _ => rfl, h22, y3, y19, hB⟩
    · obtain rfl := Option.some.inj hi
      clear hi hil
      have d21 := h21 (hall ⟨21, .data⟩ (by simp) rfl)
      refine wpOp_step rfl (fun K hK => ?_)
      have HKK := Lib.hid hK; clear hK
      simp only [putAll, Act.put, List.setIfInBounds_toArray, List.set_cons_zero, List.set_cons_succ]
      go_simp
      exact HKK.out _ _ ⟨_, by simp only [putAll, Act.put, List.setIfInBounds_toArray, List.set_cons_zero, List.set_cons_succ, d21] <;> rfl, h0, h1, h2, h4, h5, h6, h7, h8, h9, h10, h11, h12, h13, h14, h15, h16, h17, h18, h20, h21, fun _ => rfl, y3, y19, hB⟩
    · omega
  · rintro b' vs wz hall ⟨h0, h1, h2, h4, h5, h6, h7, h8, h9, h10, h11, h12, h13, h14, h15, h16, h17, h18, h20, h21, h22, y3, y19, hB⟩
    have d0 := h0 (hall 0 (by simp))
    have d1 := h1 (hall 1 (by simp))
    have d2 := h2 (hall 2 (by simp))
    have d4 := h4 (hall 4 (by simp))
    have d5 := h5 (hall 5 (by simp))
    have d6 := h6 (hall 6 (by simp))
    have d7 := h7 (hall 7 (by simp))
    have d8 := h8 (hall 8 (by simp))
    have d9 := h9 (hall 9 (by simp))
    have d10 := h10 (hall 10 (by simp))
    have d11 := h11 (hall 11 (by simp))
    have d12 := h12 (hall 12 (by simp))
    have d13 := h13 (hall 13 (by simp))
    have d14 := h14 (hall 14 (by simp))
    have d15 := h15 (hall 15 (by simp))
    have d16 := h16 (hall 16 (by simp))
    have d17 := h17 (hall 17 (by simp))
    have d18 := h18 (hall 18 (by simp))
    have d20 := h20 (hall 20 (by simp))
    have d21 := h21 (hall 21 (by simp))
    have d22 := h22 (hall 22 (by simp))
    have o3 := y3 (hall 3 (by simp))
    have o19 := y19 (hall 19 (by simp))
    have BB := hB
    simp only [putAll, Act.put, List.setIfInBounds_toArray, List.set_cons_zero, List.set_cons_succ, d0, d1, d2, d4, d5, d6, d7, d8, d9, d10, d11, d12, d13, d14, d15, d16, d17, d18, d20, d21, d22]
    clear hall h0 d0 h1 d1 h2 d2 h4 d4 h5 d5 h6 d6 h7 d7 h8 d8 h9 d9 h10 d10 h11 d11 h12 d12 h13 d13 h14 d14 h15 d15 h16 d16 h17 d17 h18 d18 h20 d20 h21 d21 h22 d22 y3 y19 hB
    have S4 : Hid (Two N T1' T2 wz g1 g2 d1 d1 ∧ Below N w wz) := ⟨S3.out.1.grow BB.out.1, S3.out.2.trans (BB.out.1.mono S3.out.1.sz)⟩
    have HBM : Hid (BmS N w T1' T2 g1 g2 d1 (.slice ba nn bc) nn wz) := ⟨⟨_, owns_base (HO3.out.grow BB.out.1) (Nat.zero_le _), HLN.out⟩, S4.out⟩
    clear o3 o19 BB
    generalize vs 3 = u3 at *
    generalize vs 19 = u19 at *
    go_wp2_with fail
    go_loopw [118] (fun s wr => ∃ k : Nat, k ≤ nn ∧ s = .int .i64 (k : Int) ∧ Hid (BmS N w T1' T2 g1 g2 d1 (.slice ba nn bc) nn wr)) (fun s _ => nn - (intOf s).toNat)
    case atStart => exact ⟨0, by omega, rfl, HBM.out⟩
    case round =>
      obtain ⟨k, hk, rfl, hw⟩ := hrel
      by_cases hlt : k < nn
      · have hd : decide ((k : Int) < (nn : Int)) = true := by simp; omega
        have hki : (k : Int) < (nn : Int) := by omega
        obtain ⟨gb, y, rfl, cy, fy, ly⟩ := BmS.form hw.out hlt
        have hn9 := HNN.out
        have HPUT := Lib.hid (BmS.put hw.out hlt (HOFF.out gb rfl).1 (HOFF.out gb rfl).2.1 (HOFF.out gb rfl).2.2)
        go_wp2_with fail
        exact ⟨⟨k + 1, by omega, by go_num, HPUT.out _⟩, by simp [intOf]; omega⟩
      · have hd : decide ((k : Int) < (nn : Int)) = false := by simp; omega
        have hkn : k = nn := by omega
        clear hlt
        have HFIN := Lib.hid hw.out
        go_wp2_with fail
        go_ret
        refine ⟨rfl, ⟨T1', T2, ?_⟩, HFIN.out.2.2⟩
        rw [HD1.out]
        exact HFIN.out.2.1
end Go.Proofs.Ytohmkmekdnfkoaa
