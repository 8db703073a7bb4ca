/- Layer 12: a step that syncs, arms, crashes. -/
import Derived.Test.YtohmkmekdnfkoaaDe
namespace Go.Proofs.Ytohmkmekdnfkoaa
open Go.RowKit
theorem stepD_3 {d : DM} {p : OpM} (h : p.kind = 3) : stepD d p = (syncD d).1 := by unfold stepD; rw [if_neg (by omega), if_neg (by omega), if_pos h]
theorem stepD_4 {d : DM} {p : OpM} (h : p.kind = 4) : stepD d p = armD d p.n := by unfold stepD; rw [if_neg (by omega), if_neg (by omega), if_neg (by omega), if_pos h]
theorem stepD_5 {d : DM} {p : OpM} (h : p.kind = 5) : stepD d p = crashD d p.keep p.torn p.cut := by unfold stepD; rw [if_neg (by omega), if_neg (by omega), if_neg (by omega), if_neg (by omega), if_pos h]
theorem stepD_0 {d : DM} {p : OpM} (h1 : ¬ p.kind = 1) (h2 : ¬ p.kind = 2) (h3 : ¬ p.kind = 3) (h4 : ¬ p.kind = 4) (h5 : ¬ p.kind = 5) : stepD d p = d := by unfold stepD; rw [if_neg h1, if_neg h2, if_neg h3, if_neg h4, if_neg h5]
set_option maxHeartbeats 4000000 in
set_option maxRecDepth 100000 in
theorem step_sync (N : Nat) (T1 T2 : Nat → Prop) (w : World) (g1 g2 : Nat) (d : DM) (p : OpM) (ks : Option Addr) (kn kc : Nat) (hkv : p.kv = .slice ks kn kc) (h : Two N T1 T2 w g1 g2 d d) (ok : OkD d 999) (op : OkO p) (hkind : p.kind = 3) :
    Calls Try.prog 10 #[ptrD g1, ptrD g2, .agg #[.int .i64 p.kind, .int .i64 p.n, .int .u8 p.fill, .int .i64 p.short, .slice ks kn kc, .int .i64 p.torn, .int .i64 p.cut]] w (StepQ N w g1 g2 (stepD d p)) := by
  obtain ⟨w1, hw1⟩ : ∃ WW, w.alloc (.cells #[.int .i64 p.kind, .int .i64 p.n, .int .u8 p.fill, .int .i64 p.short, .slice ks kn kc, .int .i64 p.torn, .int .i64 p.cut] 34) = WW := ⟨_, rfl⟩
  have hcs : cellsO p = #[.int .i64 p.kind, .int .i64 p.n, .int .u8 p.fill, .int .i64 p.short, .slice ks kn kc, .int .i64 p.torn, .int .i64 p.cut] := by unfold cellsO; rw [hkv]
  have S1 : Hid (StS N T1 T2 w1 g1 g2 d d w.heap.size p) := by
    rw [← hw1, ← hcs]; exact StS.start h p
  have HB1 : Hid (Below N w w1 ∧ w1.heap.size = w.heap.size + 1) := by
    rw [← hw1]; exact ⟨(Below.refl _ _).alloc h.sz _, by simp⟩
  have HOK := Lib.hid ok
  have HOP := Lib.hid op
  have ok1 : OkD d 1000 := ok.mono (by decide)
  have HOK1 := Lib.hid ok1
  obtain ⟨G, hG⟩ : ∃ G, w.heap.size = G := ⟨_, rfl⟩
  rw [hG] at S1 HB1
  have HG := Lib.hid hG
  obtain ⟨c0, c1, c2, c3, c4, c5, c6⟩ := S1.out.blk.o7
  rw [hkv] at c4
  rw [hkind] at c0
  obtain ⟨wo, wc, L, x1, x2, x4, x6, _, _⟩ := S1.out.two.b.r7
  clear h ok op ok1 hcs
  rw [stepD_3 hkind]
  clear hkind
  go_enter Try.func10, Try.ntmps10
  go_upto_region 1 with fail
  try rw [hw1]
  try rw [hG]
  clear hw1 hG
  go_wp2_with fail
  refine (diskOk.sync T1 w1 g1 d S1.out.two.a HOK1.out).mono ?_
  rintro e w2 ⟨T1', rfl, ha2, ht2⟩
  have S2 : Hid (StS N T1' T2 w2 g1 g2 (syncD d).1 d G p ∧ Below N w w2) := ⟨S1.out.stepA ha2 ht2, HB1.out.1.trans (S1.out.two.stepA ha2 ht2).2⟩
  clear ha2 ht2 c0 c1 c2 c3 c4 c5 c6 x1 x2 x4 x6
  obtain ⟨er, her⟩ : ∃ er, (syncD d).2 = er := ⟨_, rfl⟩
  have HER := Lib.hid her
  rw [her]
  clear her
  go_wp2_with fail
  refine (rSync_c T2 w2 g2 d S2.out.1.two.b HOK1.out).mono ?_
  rintro e w3 ⟨T2', rfl, hb3, ht3⟩
  have S3 : Hid (Two N T1' T2' w3 g1 g2 (syncD d).1 (syncD d).1 ∧ Below N w w3) := ⟨(S2.out.1.two.stepB hb3 ht3).1, S2.out.2.trans (S2.out.1.two.stepB hb3 ht3).2⟩
  rw [HER.out]
  clear hb3 ht3
  go_wp2_with fail
  go_ret
  exact ⟨rfl, ⟨T1', T2', S3.out.1⟩, S3.out.2⟩
set_option maxHeartbeats 4000000 in
set_option maxRecDepth 100000 in
theorem step_crash (N : Nat) (T1 T2 : Nat → Prop) (w : World) (g1 g2 : Nat) (d : DM) (p : OpM) (ks : Option Addr) (kn kc : Nat) (hkv : p.kv = .slice ks kn kc) (h : Two N T1 T2 w g1 g2 d d) (ok : OkD d 999) (op : OkO p) (hkind : p.kind = 5) (hrow : RowT w p.kv p.keep) (hcap : CapS p.kv) (hkl : p.keep.length ≤ 1000) (hfar : p.keep.length ≠ 0 → ∀ k, p.kv.ownBlock = some k → k < N) :
    Calls Try.prog 10 #[ptrD g1, ptrD g2, .agg #[.int .i64 p.kind, .int .i64 p.n, .int .u8 p.fill, .int .i64 p.short, .slice ks kn kc, .int .i64 p.torn, .int .i64 p.cut]] w (StepQ N w g1 g2 (stepD d p)) := by
  have HROW := Lib.hid hrow
  have HCAP := Lib.hid hcap
  have HKL := Lib.hid hkl
  have HFAR := Lib.hid hfar
  rw [hkv] at HROW HCAP HFAR
  clear hrow hcap hkl hfar
  obtain ⟨w1, hw1⟩ : ∃ WW, w.alloc (.cells #[.int .i64 p.kind, .int .i64 p.n, .int .u8 p.fill, .int .i64 p.short, .slice ks kn kc, .int .i64 p.torn, .int .i64 p.cut] 34) = WW := ⟨_, rfl⟩
  have hcs : cellsO p = #[.int .i64 p.kind, .int .i64 p.n, .int .u8 p.fill, .int .i64 p.short, .slice ks kn kc, .int .i64 p.torn, .int .i64 p.cut] := by unfold cellsO; rw [hkv]
  have S1 : Hid (StS N T1 T2 w1 g1 g2 d d w.heap.size p) := by
    rw [← hw1, ← hcs]; exact StS.start h p
  have HB1 : Hid (Below N w w1 ∧ w1.heap.size = w.heap.size + 1) := by
    rw [← hw1]; exact ⟨(Below.refl _ _).alloc h.sz _, by simp⟩
  have HOK := Lib.hid ok
  have HOP := Lib.hid op
  have ok1 : OkD d 1000 := ok.mono (by decide)
  have HOK1 := Lib.hid ok1
  obtain ⟨G, hG⟩ : ∃ G, w.heap.size = G := ⟨_, rfl⟩
  rw [hG] at S1 HB1
  have HG := Lib.hid hG
  obtain ⟨c0, c1, c2, c3, c4, c5, c6⟩ := S1.out.blk.o7
  rw [hkv] at c4
  rw [hkind] at c0
  obtain ⟨wo, wc, L, x1, x2, x4, x6, _, _⟩ := S1.out.two.b.r7
  clear h ok op ok1 hcs
  rw [stepD_5 hkind]
  clear hkind
  go_enter Try.func10, Try.ntmps10
  go_upto_region 1 with fail
  try rw [hw1]
  try rw [hG]
  clear hw1 hG
  go_wp2_with fail
  refine (diskOk.crash T1 w1 g1 d (.slice ks kn kc) p.keep p.torn p.cut S1.out.two.a HOK1.out (HROW.out.far HFAR.out HB1.out.1) HCAP.out HKL.out (fun h0 k e hT => by have := HFAR.out h0 k e; have := S1.out.two.far1 k hT; omega) HOP.out.torn HOP.out.cut).mono ?_
  rintro e w2 ⟨T1', rfl, ha2, ht2⟩
  have S2 : Hid (StS N T1' T2 w2 g1 g2 (crashD d p.keep p.torn p.cut) d G p ∧ Below N w w2) := ⟨S1.out.stepA ha2 ht2, HB1.out.1.trans (S1.out.two.stepA ha2 ht2).2⟩
  clear ha2 ht2 c0 c1 c2 c3 c4 c5 c6 x1 x2 x4 x6
  obtain ⟨c0, c1, c2, c3, c4, c5, c6⟩ := S2.out.1.blk.o7
  rw [hkv] at c4
  go_wp2_with fail
  refine (rCrash_c T2 w2 g2 d (.slice ks kn kc) p.keep p.torn p.cut S2.out.1.two.b HOK1.out (HROW.out.far HFAR.out S2.out.2) HKL.out (fun h0 k e hT => by have := HFAR.out h0 k e; have := S2.out.1.two.far2 k hT; omega) HOP.out.cut).mono ?_
  rintro e w3 ⟨T2', rfl, hb3, ht3⟩
  have S3 : Hid (Two N T1' T2' w3 g1 g2 (crashD d p.keep p.torn p.cut) (crashD d p.keep p.torn p.cut) ∧ Below N w w3) := ⟨(S2.out.1.two.stepB hb3 ht3).1, S2.out.2.trans (S2.out.1.two.stepB hb3 ht3).2⟩
  clear hb3 ht3 c0 c1 c2 c3 c4 c5 c6
  go_wp2_with fail
  go_ret
  exact ⟨rfl, ⟨T1', T2', S3.out.1⟩, S3.out.2⟩
set_option maxHeartbeats 4000000 in
set_option maxRecDepth 100000 in
theorem step_none (N : Nat) (T1 T2 : Nat → Prop) (w : World) (g1 g2 : Nat) (d : DM) (p : OpM) (ks : Option Addr) (kn kc : Nat) (hkv : p.kv = .slice ks kn kc) (h : Two N T1 T2 w g1 g2 d d) (ok : OkD d 999) (op : OkO p) (h1 : ¬ p.kind = 1) (h2 : ¬ p.kind = 2) (h3 : ¬ p.kind = 3) (h4 : ¬ p.kind = 4) (h5 : ¬ p.kind = 5) :
    Calls Try.prog 10 #[ptrD g1, ptrD g2, .agg #[.int .i64 p.kind, .int .i64 p.n, .int .u8 p.fill, .int .i64 p.short, .slice ks kn kc, .int .i64 p.torn, .int .i64 p.cut]] w (StepQ N w g1 g2 (stepD d p)) := by
  obtain ⟨w1, hw1⟩ : ∃ WW, w.alloc (.cells #[.int .i64 p.kind, .int .i64 p.n, .int .u8 p.fill, .int .i64 p.short, .slice ks kn kc, .int .i64 p.torn, .int .i64 p.cut] 34) = WW := ⟨_, rfl⟩
  have hcs : cellsO p = #[.int .i64 p.kind, .int .i64 p.n, .int .u8 p.fill, .int .i64 p.short, .slice ks kn kc, .int .i64 p.torn, .int .i64 p.cut] := by unfold cellsO; rw [hkv]
  have S1 : Hid (StS N T1 T2 w1 g1 g2 d d w.heap.size p) := by
    rw [← hw1, ← hcs]; exact StS.start h p
  have HB1 : Hid (Below N w w1 ∧ w1.heap.size = w.heap.size + 1) := by
    rw [← hw1]; exact ⟨(Below.refl _ _).alloc h.sz _, by simp⟩
  have HOK := Lib.hid ok
  have HOP := Lib.hid op
  have ok1 : OkD d 1000 := ok.mono (by decide)
  have HOK1 := Lib.hid ok1
  obtain ⟨G, hG⟩ : ∃ G, w.heap.size = G := ⟨_, rfl⟩
  rw [hG] at S1 HB1
  have HG := Lib.hid hG
  obtain ⟨c0, c1, c2, c3, c4, c5, c6⟩ := S1.out.blk.o7
  rw [hkv] at c4
  obtain ⟨wo, wc, L, x1, x2, x4, x6, _, _⟩ := S1.out.two.b.r7
  clear h ok op ok1 hcs
  rw [stepD_0 h1 h2 h3 h4 h5]
  have k1 : (p.kind == 1) = false := by simpa using h1
  have k2 : (p.kind == 2) = false := by simpa using h2
  have k3 : (p.kind == 3) = false := by simpa using h3
  have k4 : (p.kind == 4) = false := by simpa using h4
  have k5 : (p.kind == 5) = false := by simpa using h5
  clear h1 h2 h3 h4 h5
  go_enter Try.func10, Try.ntmps10
  go_upto_region 1 with fail
  try rw [hw1]
  try rw [hG]
  clear hw1 hG
  go_wp2_with fail
  go_ret
  exact ⟨rfl, ⟨T1, T2, S1.out.two⟩, HB1.out.1⟩
theorem blk_same {w : World} {g : Nat} {t : TypeId} {cs cs' : Array Value} (h : Blk w g t cs) (k : Blk w.drew g t cs') : cs = cs' := by
  have k' : Blk w g t cs' := k
  unfold Blk at h k'
  rw [h] at k'
  cases k'; rfl
/-- The document's cells while it is armed: p: the one, q: the other has been stored. -/
def CSA (cs : Array Value) (n : Int) (p q : Bool) : Array Value := if q = true then ((if p = true then cs.setIfInBounds 5 (.bool (decide (n ≥ 0))) else cs).setIfInBounds 3 (.int .i64 n)) else if p = true then cs.setIfInBounds 5 (.bool (decide (n ≥ 0))) else cs
theorem CSA_cell {w : World} {g : Nat} {n : Int} {p q : Bool} {sv wv : Value} {size left done : Int} {armed down : Bool} (h : Blk w g 31 (CSA (cellsD sv size wv left done armed down) n p q)) : (∃ y, w.cell? ⟨g, 3, none⟩ = some (.int .i64 y)) ∧ ∃ y, w.cell? ⟨g, 5, none⟩ = some (.bool y) := by
  cases p <;> cases q <;> exact ⟨⟨_, h.cell 3⟩, ⟨_, h.cell 5⟩⟩
theorem CSA_a {w : World} {g : Nat} {n : Int} {t : TypeId} {cs : Array Value} (h : Blk w g t (CSA cs n false false)) : Blk (w.setCell ⟨g, 5, none⟩ (.bool (decide (n ≥ 0)))) g t (CSA cs n true false) := h.set 5 _
theorem CSA_b {w : World} {g : Nat} {n : Int} {t : TypeId} {cs : Array Value} (h : Blk w g t (CSA cs n true false)) : Blk (w.setCell ⟨g, 3, none⟩ (.int .i64 n)) g t (CSA cs n true true) := h.set 3 _
set_option maxHeartbeats 4000000 in
set_option maxRecDepth 100000 in
theorem step_arm (N : Nat) (T1 T2 : Nat → Prop) (w : World) (g1 g2 : Nat) (d : DM) (p : OpM) (ks : Option Addr) (kn kc : Nat) (hkv : p.kv = .slice ks kn kc) (h : Two N T1 T2 w g1 g2 d d) (ok : OkD d 999) (op : OkO p) (hkind : p.kind = 4) :
    Calls Try.prog 10 #[ptrD g1, ptrD g2, .agg #[.int .i64 p.kind, .int .i64 p.n, .int .u8 p.fill, .int .i64 p.short, .slice ks kn kc, .int .i64 p.torn, .int .i64 p.cut]] w (StepQ N w g1 g2 (stepD d p)) := by
  obtain ⟨w1, hw1⟩ : ∃ WW, w.alloc (.cells #[.int .i64 p.kind, .int .i64 p.n, .int .u8 p.fill, .int .i64 p.short, .slice ks kn kc, .int .i64 p.torn, .int .i64 p.cut] 34) = WW := ⟨_, rfl⟩
  have hcs : cellsO p = #[.int .i64 p.kind, .int .i64 p.n, .int .u8 p.fill, .int .i64 p.short, .slice ks kn kc, .int .i64 p.torn, .int .i64 p.cut] := by unfold cellsO; rw [hkv]
  have S1 : Hid (StS N T1 T2 w1 g1 g2 d d w.heap.size p) := by
    rw [← hw1, ← hcs]; exact StS.start h p
  have HB1 : Hid (Below N w w1 ∧ w1.heap.size = w.heap.size + 1) := by
    rw [← hw1]; exact ⟨(Below.refl _ _).alloc h.sz _, by simp⟩
  have HOK := Lib.hid ok
  have HOP := Lib.hid op
  have ok1 : OkD d 1000 := ok.mono (by decide)
  have HOK1 := Lib.hid ok1
  obtain ⟨G, hG⟩ : ∃ G, w.heap.size = G := ⟨_, rfl⟩
  rw [hG] at S1 HB1
  have HG := Lib.hid hG
  obtain ⟨c0, c1, c2, c3, c4, c5, c6⟩ := S1.out.blk.o7
  rw [hkv] at c4
  rw [hkind] at c0
  obtain ⟨wo, wc, L, x1, x2, x4, x6, _, _⟩ := S1.out.two.b.r7
  clear h ok op ok1 hcs
  rw [stepD_4 hkind]
  clear hkind
  go_enter Try.func10, Try.ntmps10
  go_upto_region 1 with fail
  try rw [hw1]
  try rw [hG]
  clear hw1 hG
  go_wp2_with fail
  refine (diskOk.arm T1 w1 g1 d p.n S1.out.two.a HOK1.out HOP.out.n).mono ?_
  rintro e w2 ⟨T1', rfl, ha2, ht2⟩
  have S2 : Hid (StS N T1' T2 w2 g1 g2 (armD d p.n) d G p ∧ Below N w w2) := ⟨S1.out.stepA ha2 ht2, HB1.out.1.trans (S1.out.two.stepA ha2 ht2).2⟩
  clear ha2 ht2 c0 c1 c2 c3 c4 c5 c6 x1 x2 x4 x6
  obtain ⟨c0, c1, c2, c3, c4, c5, c6⟩ := S2.out.1.blk.o7
  rw [hkv] at c4
  obtain ⟨L', sv, wv, hx1, hx2, hx3⟩ := S2.out.1.two.b
  obtain ⟨cs0, hcs0⟩ : ∃ cs, cellsD sv d.size wv d.left d.done d.armed d.down = cs := ⟨_, rfl⟩
  have HCS := Lib.hid hcs0
  have hbk : Blk w2 g2 31 cs0 := by rw [← hcs0]; exact RefAt.blk hx1
  have HI0 : Hid (Blk w2.drew g2 31 (CSA cs0 p.n false false) ∧ Keep (fun k => k ≠ g2) w2 w2.drew) := ⟨hbk, Keep.drew _ _⟩
  have HNE : Hid (G ≠ g2) := fun e => S2.out.1.o2 (e ▸ RefAt.tg hx1)
  have HTG : Hid (T2 g2) := RefAt.tg hx1
  have HG1 : Hid (∀ W, Keep (fun k => k ≠ g2) w2 W → W.cell? ⟨G, 1, none⟩ = some (.int .i64 p.n)) := fun W hW => (hW.blk S2.out.1.blk HNE.out).o7.2.1
  clear hx1 hx2 hx3 hcs0 hbk
  go_upto_region 32 with fail
  clear c0 c1 c2 c3 c4 c5 c6
  refine wp_region_put (by kernel_rfl) (by kernel_rfl) (by kernel_rfl) (fun b' vs w' => (b' 0 = true → vs 0 = ptrD g2) ∧ (b' 1 = true → vs 1 = ptrD g2) ∧ (b' 2 = true → vs 2 = .pointer (some ⟨G, 1, none⟩)) ∧ (b' 3 = true → vs 3 = .int .i64 p.n) ∧ (b' 4 = true → vs 4 = .bool (decide (p.n ≥ 0))) ∧ (b' 5 = true → vs 5 = .pointer (some ⟨G, 1, none⟩)) ∧ (b' 6 = true → vs 6 = .int .i64 p.n) ∧ (b' 7 = true → vs 7 = .pointer (some ⟨g2, 0, none⟩)) ∧ (b' 8 = true → vs 8 = .pointer (some ⟨g2, 5, none⟩)) ∧ (b' 10 = true → vs 10 = .pointer (some ⟨g2, 0, none⟩)) ∧ (b' 11 = true → vs 11 = .pointer (some ⟨g2, 3, none⟩)) ∧ Hid (Blk w' g2 31 (CSA cs0 p.n (b' 9) (b' 12)) ∧ Keep (fun k => k ≠ g2) w2 w') ∧ (b' 12 = true → b' 9 = true)) ?_ ?_ ?_
  · intro vs
    exact ⟨fun h => Bool.noConfusion h, fun h => Bool.noConfusion h, fun h => Bool.noConfusion h, fun h => Bool.noConfusion h, fun h => Bool.noConfusion h, fun h => Bool.noConfusion h, fun h => Bool.noConfusion h, fun h => Bool.noConfusion h, fun h => Bool.noConfusion h, fun h => Bool.noConfusion h, fun h => Bool.noConfusion h, Lib.hid HI0.out, fun h => Bool.noConfusion h⟩
  · rintro b' vs w' i op hi hun hall ⟨h0, h1, h2, h3, h4, h5, h6, h7, h8, h10, h11, hI, hX⟩
    have hil : i < 13 := (List.getElem?_eq_some_iff.1 hi).1
    rcases i with _ | _ | _ | _ | _ | _ | _ | _ | _ | _ | _ | _ | _ | i
    · obtain rfl := Option.some.inj hi
      clear hi hil
      refine wpOp_step rfl (fun K hK => ?_)
      have HKK := Lib.hid hK; clear hK
      simp only [putAll, Act.put, List.setIfInBounds_toArray, List.set_cons_zero, List.set_cons_succ]
      go_simp
      exact HKK.out _ _ ⟨_, by simp only [putAll, Act.put, List.setIfInBounds_toArray, List.set_cons_zero, List.set_cons_succ] <;> rfl, fun _ => rfl, h1, h2, h3, h4, h5, h6, h7, h8, h10, h11, hI, hX⟩
    · obtain rfl := Option.some.inj hi
      clear hi hil
      refine wpOp_step rfl (fun K hK => ?_)
      have HKK := Lib.hid hK; clear hK
      simp only [putAll, Act.put, List.setIfInBounds_toArray, List.set_cons_zero, List.set_cons_succ]
      go_simp
      exact HKK.out _ _ ⟨_, by simp only [putAll, Act.put, List.setIfInBounds_toArray, List.set_cons_zero, List.set_cons_succ] <;> rfl, h0, fun _ => rfl, h2, h3, h4, h5, h6, h7, h8, h10, h11, hI, hX⟩
    · obtain rfl := Option.some.inj hi
      clear hi hil
      refine wpOp_step rfl (fun K hK => ?_)
      have HKK := Lib.hid hK; clear hK
      simp only [putAll, Act.put, List.setIfInBounds_toArray, List.set_cons_zero, List.set_cons_succ]
      go_simp
      exact HKK.out _ _ ⟨_, by simp only [putAll, Act.put, List.setIfInBounds_toArray, List.set_cons_zero, List.set_cons_succ] <;> rfl, h0, h1, fun _ => rfl, h3, h4, h5, h6, h7, h8, h10, h11, hI, hX⟩
    · obtain rfl := Option.some.inj hi
      clear hi hil
      have d2 := h2 (hall ⟨2, .data⟩ (by simp) rfl)
      have c1 : w'.cell? ⟨G, 1, none⟩ = some (.int .i64 p.n) := HG1.out w' hI.out.2
      refine wpOp_step rfl (fun K hK => ?_)
      have HKK := Lib.hid hK; clear hK
      simp only [putAll, Act.put, List.setIfInBounds_toArray, List.set_cons_zero, List.set_cons_succ]
      go_simp
      exact HKK.out _ _ ⟨_, by simp only [putAll, Act.put, List.setIfInBounds_toArray, List.set_cons_zero, List.set_cons_succ, d2] <;> rfl, h0, h1, h2, fun _ => rfl, h4, h5, h6, h7, h8, h10, h11, hI, hX⟩
    · obtain rfl := Option.some.inj hi
      clear hi hil
      have d3 := h3 (hall ⟨3, .data⟩ (by simp) rfl)
      refine wpOp_step rfl (fun K hK => ?_)
      have HKK := Lib.hid hK; clear hK
      simp only [putAll, Act.put, List.setIfInBounds_toArray, List.set_cons_zero, List.set_cons_succ]
      go_simp
      exact HKK.out _ _ ⟨_, by simp only [putAll, Act.put, List.setIfInBounds_toArray, List.set_cons_zero, List.set_cons_succ, d3] <;> rfl, h0, h1, h2, h3, fun _ => rfl, h5, h6, h7, h8, h10, h11, hI, hX⟩
    · obtain rfl := Option.some.inj hi
      clear hi hil
      refine wpOp_step rfl (fun K hK => ?_)
      have HKK := Lib.hid hK; clear hK
      simp only [putAll, Act.put, List.setIfInBounds_toArray, List.set_cons_zero, List.set_cons_succ]
      go_simp
      exact HKK.out _ _ ⟨_, by simp only [putAll, Act.put, List.setIfInBounds_toArray, List.set_cons_zero, List.set_cons_succ] <;> rfl, h0, h1, h2, h3, h4, fun _ => rfl, h6, h7, h8, h10, h11, hI, hX⟩
    · obtain rfl := Option.some.inj hi
      clear hi hil
      have d5 := h5 (hall ⟨5, .data⟩ (by simp) rfl)
      have c1 : w'.cell? ⟨G, 1, none⟩ = some (.int .i64 p.n) := HG1.out w' hI.out.2
      refine wpOp_step rfl (fun K hK => ?_)
      have HKK := Lib.hid hK; clear hK
      simp only [putAll, Act.put, List.setIfInBounds_toArray, List.set_cons_zero, List.set_cons_succ]
      go_simp
      exact HKK.out _ _ ⟨_, by simp only [putAll, Act.put, List.setIfInBounds_toArray, List.set_cons_zero, List.set_cons_succ, d5] <;> rfl, h0, h1, h2, h3, h4, h5, fun _ => rfl, h7, h8, h10, h11, hI, hX⟩
    · obtain rfl := Option.some.inj hi
      clear hi hil
      have d0 := h0 (hall ⟨0, .data⟩ (by simp) rfl)
      refine wpOp_step rfl (fun K hK => ?_)
      have HKK := Lib.hid hK; clear hK
      simp only [putAll, Act.put, List.setIfInBounds_toArray, List.set_cons_zero, List.set_cons_succ]
      go_simp
      exact HKK.out _ _ ⟨_, by simp only [putAll, Act.put, List.setIfInBounds_toArray, List.set_cons_zero, List.set_cons_succ, d0] <;> rfl, h0, h1, h2, h3, h4, h5, h6, fun _ => rfl, h8, h10, h11, hI, hX⟩
    · obtain rfl := Option.some.inj hi
      clear hi hil
      have d7 := h7 (hall ⟨7, .data⟩ (by simp) rfl)
      refine wpOp_step rfl (fun K hK => ?_)
      have HKK := Lib.hid hK; clear hK
      simp only [putAll, Act.put, List.setIfInBounds_toArray, List.set_cons_zero, List.set_cons_succ]
      go_simp
      exact HKK.out _ _ ⟨_, by simp only [putAll, Act.put, List.setIfInBounds_toArray, List.set_cons_zero, List.set_cons_succ, d7] <;> rfl, h0, h1, h2, h3, h4, h5, h6, h7, fun _ => rfl, h10, h11, hI, hX⟩
    · obtain rfl := Option.some.inj hi
      clear hi hil
      have d8 := h8 (hall ⟨8, .data⟩ (by simp) rfl)
      have d4 := h4 (hall ⟨4, .data⟩ (by simp) rfl)
      have hbk := hI.out.1
      have h12 : b' 12 = false := by
        cases hz : b' 12 with
        | false => rfl
        | true => exact absurd (hX hz) (by rw [hun]; decide)
      rw [hun, h12] at hbk
      have kk := CSA_cell (sv := sv) (size := d.size) (wv := wv) (left := d.left) (done := d.done) (armed := d.armed) (down := d.down) (by rw [HCS.out]; exact hbk)
      have ff := hbk.free 5
      have lg := hbk.lt
      obtain ⟨⟨y3, k3⟩, ⟨y5, k5⟩⟩ := kk
      refine wpOp_step rfl (fun K hK => ?_)
      have HKK := Lib.hid hK; clear hK
      simp only [putAll, Act.put, List.setIfInBounds_toArray, List.set_cons_zero, List.set_cons_succ]
      go_simp
      exact HKK.out _ _ ⟨undef, by simp only [putAll, Act.put, List.setIfInBounds_toArray, List.set_cons_zero, List.set_cons_succ, d8, d4] <;> rfl, h0, h1, h2, h3, h4, h5, h6, h7, h8, h10, h11, Lib.hid ⟨by rw [show upd b' 9 true 12 = false from h12]; exact CSA_a hbk, hI.out.2.trans (Keep.setCell _ _ _ (by simp))⟩, fun _ => rfl⟩
    · obtain rfl := Option.some.inj hi
      clear hi hil
      have d1 := h1 (hall ⟨1, .data⟩ (by simp) rfl)
      refine wpOp_step rfl (fun K hK => ?_)
      have HKK := Lib.hid hK; clear hK
      simp only [putAll, Act.put, List.setIfInBounds_toArray, List.set_cons_zero, List.set_cons_succ]
      go_simp
      exact HKK.out _ _ ⟨_, by simp only [putAll, Act.put, List.setIfInBounds_toArray, List.set_cons_zero, List.set_cons_succ, d1] <;> rfl, h0, h1, h2, h3, h4, h5, h6, h7, h8, fun _ => rfl, h11, hI, hX⟩
    · obtain rfl := Option.some.inj hi
      clear hi hil
      have d10 := h10 (hall ⟨10, .data⟩ (by simp) rfl)
      refine wpOp_step rfl (fun K hK => ?_)
      have HKK := Lib.hid hK; clear hK
      simp only [putAll, Act.put, List.setIfInBounds_toArray, List.set_cons_zero, List.set_cons_succ]
      go_simp
      exact HKK.out _ _ ⟨_, by simp only [putAll, Act.put, List.setIfInBounds_toArray, List.set_cons_zero, List.set_cons_succ, d10] <;> rfl, h0, h1, h2, h3, h4, h5, h6, h7, h8, h10, fun _ => rfl, hI, hX⟩
    · obtain rfl := Option.some.inj hi
      clear hi hil
      have d11 := h11 (hall ⟨11, .data⟩ (by simp) rfl)
      have d6 := h6 (hall ⟨6, .data⟩ (by simp) rfl)
      have hbk := hI.out.1
      have h9 : b' 9 = true := hall ⟨9, .chain⟩ (by simp) rfl
      rw [hun, h9] at hbk
      have kk := CSA_cell (sv := sv) (size := d.size) (wv := wv) (left := d.left) (done := d.done) (armed := d.armed) (down := d.down) (by rw [HCS.out]; exact hbk)
      have ff := hbk.free 3
      have lg := hbk.lt
      obtain ⟨⟨y3, k3⟩, ⟨y5, k5⟩⟩ := kk
      refine wpOp_step rfl (fun K hK => ?_)
      have HKK := Lib.hid hK; clear hK
      simp only [putAll, Act.put, List.setIfInBounds_toArray, List.set_cons_zero, List.set_cons_succ]
      go_simp
      exact HKK.out _ _ ⟨undef, by simp only [putAll, Act.put, List.setIfInBounds_toArray, List.set_cons_zero, List.set_cons_succ, d11, d6] <;> rfl, h0, h1, h2, h3, h4, h5, h6, h7, h8, h10, h11, Lib.hid ⟨by rw [show upd b' 12 true 9 = true from h9]; exact CSA_b hbk, hI.out.2.trans (Keep.setCell _ _ _ (by simp))⟩, fun _ => h9⟩
    · omega
  · rintro b' vs wz hall ⟨h0, h1, h2, h3, h4, h5, h6, h7, h8, h10, h11, hI, hX⟩
    have d0 := h0 (hall 0 (by simp))
    have d1 := h1 (hall 1 (by simp))
    have d2 := h2 (hall 2 (by simp))
    have d3 := h3 (hall 3 (by simp))
    have d4 := h4 (hall 4 (by simp))
    have d5 := h5 (hall 5 (by simp))
    have d6 := h6 (hall 6 (by simp))
    have d7 := h7 (hall 7 (by simp))
    have d8 := h8 (hall 8 (by simp))
    have d10 := h10 (hall 10 (by simp))
    have d11 := h11 (hall 11 (by simp))
    have b9 := hall 9 (by simp)
    have b12 := hall 12 (by simp)
    have HII := hI
    rw [b9, b12] at HII
    simp only [putAll, Act.put, List.setIfInBounds_toArray, List.set_cons_zero, List.set_cons_succ, d0, d1, d2, d3, d4, d5, d6, d7, d8, d10, d11]
    clear hall hI hX b9 b12 h0 d0 h1 d1 h2 d2 h3 d3 h4 d4 h5 d5 h6 d6 h7 d7 h8 d8 h10 d10 h11 d11
    have S3 : Hid (Two N T1' T2 wz g1 g2 (armD d p.n) (armD d p.n) ∧ Below N w wz) := by
      have hk := HII.out.2
      have ht := S2.out.1.two
      have hr : RAt T2 wz g2 (armD d p.n) := by
        obtain ⟨L', sv2, wv2, h1, h2, h3⟩ := ht.b
        refine RAt.arm (w := w2) ⟨L', sv2, wv2, h1, h2, h3⟩ (fun cs hcs => ?_) hk
        have e : cs = cs0 := blk_same hcs HI0.out.1
        rw [e]
        exact HII.out.1
      have hto : To T2 w2 T2 wz := To.cell HTG.out hk
      exact ⟨(ht.stepB hr hto).1, S2.out.2.trans (ht.stepB hr hto).2⟩
    clear HII HI0 HG1
    go_wp2_with fail
    go_ret
    exact ⟨rfl, ⟨T1', T2, S3.out.1⟩, S3.out.2⟩
end Go.Proofs.Ytohmkmekdnfkoaa
