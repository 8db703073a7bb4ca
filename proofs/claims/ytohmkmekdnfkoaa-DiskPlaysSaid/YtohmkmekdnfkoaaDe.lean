/- Layer 12: a step that writes. -/
import Derived.Test.YtohmkmekdnfkoaaDd
import Derived.Test.YtohmkmekdnfkoaaBg
import Derived.Lib.MinMax
namespace Go.Proofs.Ytohmkmekdnfkoaa
open Go.RowKit
theorem Keep.of_belowN {N : Nat} {w w' : World} (h : Below N w w') : Keep (fun k => k < N) w w' := ⟨h.os, h.tape, h.output, h.size, fun k hk _ => h.block k hk⟩
theorem RowT.far {N : Nat} {w w' : World} {s : Value} {E : List Bool} (h : RowT w s E) (hN : E.length ≠ 0 → ∀ k, s.ownBlock = some k → k < N) (hb : Below N w w') : RowT w' s E := by
  by_cases h0 : E.length = 0
  · obtain rfl : E = [] := List.eq_nil_of_length_eq_zero h0
    rcases h with h | h | ⟨b, o, c, rfl, _, _⟩
    · exact .inl h
    · exact .inr (.inl h)
    · exact .inr (.inl ⟨_, _, rfl, rfl⟩)
  · exact h.keepK (Keep.of_belowN hb) (hN h0)
theorem NewB.form {N bl : Nat} {B : List Int} {v : Value} {w : World} (h : NewB N bl B v w) (hl : B.length = bl) (h0 : 0 < bl) : ∃ ga gc, v = .slice (some ⟨ga, 0, none⟩) bl gc ∧ bl ≤ gc ∧ OwnB w N (.slice (some ⟨ga, 0, none⟩) bl gc) B := by
  obtain ⟨a, c, e, ho⟩ := h
  obtain ⟨ga, gc, e2, hgc, _⟩ := ho.form (by omega)
  rw [hl] at e2 hgc
  rw [e2] at e ho
  exact ⟨ga, gc, e, hgc, ho⟩
/-- While the bytes that were handed in, or told, are changed: both disks stay as they are. -/
def BmS (N : Nat) (w : World) (T1 T2 : Nat → Prop) (g1 g2 : Nat) (d : DM) (v : Value) (nn : Nat) (A : World) : Prop := (∃ E, OwnB A 0 v E ∧ E.length = nn) ∧ Two N T1 T2 A g1 g2 d d ∧ Below N w A
theorem BmS.put {N : Nat} {w A : World} {T1 T2 : Nat → Prop} {g1 g2 nn gb c k : Nat} {d : DM} (h : BmS N w T1 T2 g1 g2 d (.slice (some ⟨gb, 0, none⟩) nn c) nn A) (hk : k < nn) (o1 : ¬ T1 gb) (o2 : ¬ T2 gb) (o3 : N ≤ gb) (y : Int) : BmS N w T1 T2 g1 g2 d (.slice (some ⟨gb, 0, none⟩) nn c) nn (A.setCell ⟨gb, k, none⟩ (.int .u8 y)) := by
  obtain ⟨⟨E, ho, hl⟩, ht, hb⟩ := h
  have hs : Keep (fun j => j ≠ gb) A (A.setCell ⟨gb, k, none⟩ (.int .u8 y)) := Keep.setCell _ _ _ (by simp)
  exact ⟨⟨_, ho.put hl hk y, by rw [List.length_set]; exact hl⟩, ht.keep hs (fun j h e => o1 (e ▸ h)) (fun j h e => o2 (e ▸ h)), hb.setCell o3 _⟩
theorem BmS.form {N : Nat} {w A : World} {T1 T2 : Nat → Prop} {g1 g2 nn : Nat} {d : DM} {ba : Option Addr} {bc k : Nat} (h : BmS N w T1 T2 g1 g2 d (.slice ba nn bc) nn A) (hk : k < nn) : ∃ gb y, ba = some ⟨gb, 0, none⟩ ∧ A.cell? ⟨gb, k, none⟩ = some (.int .u8 y) ∧ A.frozen? ⟨gb, k, none⟩ = false ∧ gb < A.heap.size := by
  obtain ⟨⟨E, ho, hl⟩, ht, hb⟩ := h
  obtain ⟨gb, c, e, _, _⟩ := ho.form (by omega)
  rw [hl] at e
  cases e
  obtain ⟨y, q1, q2, q3⟩ := ho.get hl hk
  exact ⟨gb, y, rfl, q1, q2, q3⟩
set_option maxHeartbeats 4000000 in
set_option maxRecDepth 100000 in
theorem step_writeS (N : Nat) (T1 T2 : Nat → Prop) (w : World) (g1 g2 : Nat) (d : DM) (p : OpM) (ks : Option Addr) (kn kc : Nat) (hkv : p.kv = .slice ks kn kc) (h : Two N T1 T2 w g1 g2 d d) (ok : OkD d 999) (op : OkO p) (hkind : p.kind = 1) (hs : p.short > 0) :
    Calls Try.prog 10 #[ptrD g1, ptrD g2, .agg #[.int .i64 p.kind, .int .i64 p.n, .int .u8 p.fill, .int .i64 p.short, .slice ks kn kc, .int .i64 p.torn, .int .i64 p.cut]] w (StepQ N w g1 g2 (stepD d p)) := by
  obtain ⟨w1, hw1⟩ : ∃ WW, w.alloc (.cells #[.int .i64 p.kind, .int .i64 p.n, .int .u8 p.fill, .int .i64 p.short, .slice ks kn kc, .int .i64 p.torn, .int .i64 p.cut] 34) = WW := ⟨_, rfl⟩
  have hcs : cellsO p = #[.int .i64 p.kind, .int .i64 p.n, .int .u8 p.fill, .int .i64 p.short, .slice ks kn kc, .int .i64 p.torn, .int .i64 p.cut] := by unfold cellsO; rw [hkv]
  have S1 : Hid (StS N T1 T2 w1 g1 g2 d d w.heap.size p) := by
    rw [← hw1, ← hcs]; exact StS.start h p
  have HB1 : Hid (Below N w w1 ∧ w1.heap.size = w.heap.size + 1) := by
    rw [← hw1]; exact ⟨(Below.refl _ _).alloc h.sz _, by simp⟩
  have HOK := Lib.hid ok
  have HOP := Lib.hid op
  have ok1 : OkD d 1000 := ok.mono (by decide)
  have HOK1 := Lib.hid ok1
  obtain ⟨G, hG⟩ : ∃ G, w.heap.size = G := ⟨_, rfl⟩
  rw [hG] at S1 HB1
  have HG := Lib.hid hG
  obtain ⟨c0, c1, c2, c3, c4, c5, c6⟩ := S1.out.blk.o7
  rw [hkv] at c4
  rw [hkind] at c0
  obtain ⟨wo, wc, L, x1, x2, x4, x6, _, _⟩ := S1.out.two.b.r7
  clear h ok op ok1 hcs
  obtain ⟨z, hz⟩ : ∃ z : Nat, d.size = (z : Int) := ⟨d.size.toNat, by have := HOK.out.made.2.2.1; omega⟩
  have hz2 : z ≤ 512 := by have := HOK.out.made.2.2.2; omega
  obtain ⟨nn, hnn⟩ : ∃ nn : Nat, (z : Int) - min p.short (z : Int) = (nn : Int) := ⟨((z : Int) - min p.short (z : Int)).toNat, by omega⟩
  have HNN : Hid (nn ≤ 512) := Lib.hid (by omega)
  have ds : decide (p.short > 0) = true := by simpa using hs
  have HST : Hid (stepD d p = (writeD d p.n (List.replicate nn p.fill)).1) := by
    unfold stepD Hid
    rw [if_pos hkind]
    unfold fillN
    rw [if_pos hs, hz, hnn, Int.toNat_natCast]
  rw [HST.out]
  rw [hz] at x1
  have e1 : wrap64 ((z : Int) - min p.short (z : Int)) = (nn : Int) := by rw [hnn]; exact wrapR _ (by omega) (by omega)
  clear hs hnn hz hz2 hkind
  go_enter Try.func10, Try.ntmps10
  go_upto_region 1 with fail
  try rw [hw1]
  try rw [hG]
  clear hw1 hG
  go_wp2_with fail
  refine (fill_c nn p.fill (by have := HNN.out; omega) w1).mono ?_
  rintro e w2 ⟨vb, rfl, ho2, hb2⟩
  obtain ⟨ba, bc, hvb⟩ := ho2.shape
  rw [List.length_replicate] at hvb
  subst hvb
  have S2 : Hid (StS N T1 T2 w2 g1 g2 d d G p ∧ Below N w w2) := ⟨S1.out.grow hb2, HB1.out.1.trans (hb2.mono (Nat.le_trans (by have := HB1.out.1.size; have := S1.out.two.sz; omega) (Nat.le_refl _)))⟩
  have HO2 := Lib.hid ho2
  have HOF1 : Hid (∀ k, (Value.slice ba nn bc).ownBlock = some k → w1.heap.size ≤ k ∧ k < w2.heap.size) := fun k e => ho2.lt k e
  have HN1 : Hid (N ≤ w1.heap.size) := S1.out.two.sz
  have HT1 : Hid (∀ k, (Value.slice ba nn bc).ownBlock = some k → ¬ T1 k ∧ ¬ T2 k) := fun k e => ⟨fun hT => by have := at_lt S1.out.two.a hT; have := (HOF1.out k e).1; omega, fun hT => by have := S1.out.two.b.lt k hT; have := (HOF1.out k e).1; omega⟩
  clear ho2 hb2 c0 c1 c2 c3 c4 c5 c6 x1 x2 x4 x6 ds e1
  obtain ⟨c0, c1, c2, c3, c4, c5, c6⟩ := S2.out.1.blk.o7
  go_wp2_with fail
  refine (rWrite_c T2 w2 g2 d p.n (.slice ba nn bc) (List.replicate nn p.fill) S2.out.1.two.b HOK1.out HO2.out.row (by rw [List.length_replicate]; have := HNN.out; omega)).mono ?_
  rintro e w3 ⟨T2', rfl, hb3, ht3⟩
  have S3 : Hid (StS N T1 T2' w3 g1 g2 d (writeD d p.n (List.replicate nn p.fill)).1 G p ∧ Below N w w3) := ⟨S2.out.1.stepB hb3 ht3, S2.out.2.trans (S2.out.1.two.stepB hb3 ht3).2⟩
  have HO3 : Hid (OwnB w3 w1.heap.size (.slice ba nn bc) (List.replicate nn p.fill)) := owns_keep HO2.out ht3.keep fun k e => (HT1.out k e).2
  have HT3 : Hid (∀ k, (Value.slice ba nn bc).ownBlock = some k → ¬ T1 k ∧ ¬ T2' k) := fun k e => ⟨(HT1.out k e).1, fun hT => (ht3.new k hT).elim (HT1.out k e).2 fun q => by have := (HOF1.out k e).2; omega⟩
  have HZ3 : Hid (w2.heap.size ≤ w3.heap.size) := ht3.keep.size
  clear hb3 ht3 c0 c1 c2 c3 c4 c5 c6
  obtain ⟨c0, c1, c2, c3, c4, c5, c6⟩ := S3.out.1.blk.o7
  go_wp2_with fail
  refine (diskOk.write T1 w3 g1 d p.n (.slice ba nn bc) (List.replicate nn p.fill) S3.out.1.two.a HOK1.out HOP.out.n HO3.out.row HO3.out.cap (by rw [List.length_replicate]; have := HNN.out; omega) (okB_rep HOP.out.fill) (fun k e => (HT3.out k e).1)).mono ?_
  rintro e w4 ⟨T1', rfl, ha4, ht4⟩
  have S4 : Hid (Two N T1' T2' w4 g1 g2 (writeD d p.n (List.replicate nn p.fill)).1 (writeD d p.n (List.replicate nn p.fill)).1 ∧ Below N w w4) := ⟨(S3.out.1.two.stepA ha4 ht4).1, S3.out.2.trans (S3.out.1.two.stepA ha4 ht4).2⟩
  have HO4 : Hid (OwnB w4 w1.heap.size (.slice ba nn bc) (List.replicate nn p.fill)) := owns_keep HO3.out ht4.keep fun k e => (HT3.out k e).1
  have HOFF : Hid (∀ gb, ba = some ⟨gb, 0, none⟩ → ¬ T1' gb ∧ ¬ T2' gb ∧ N ≤ gb) := fun gb e => by
    have e' : (Value.slice ba nn bc).ownBlock = some gb := by rw [e]; rfl
    have := HOF1.out gb e'
    have := HN1.out
    have := HZ3.out
    exact ⟨fun hT => (ht4.new gb hT).elim (HT3.out gb e').1 fun q => by omega, (HT3.out gb e').2, by omega⟩
  obtain ⟨er, her⟩ : ∃ er, (writeD d p.n (List.replicate nn p.fill)).2 = er := ⟨_, rfl⟩
  obtain ⟨d', hd'⟩ : ∃ d', (writeD d p.n (List.replicate nn p.fill)).1 = d' := ⟨_, rfl⟩
  rw [hd'] at S4
  have HDD := Lib.hid hd'
  rw [her]
  have HBM : Hid (BmS N w T1' T2' g1 g2 d' (.slice ba nn bc) nn w4) := ⟨⟨_, owns_base HO4.out (Nat.zero_le _), List.length_replicate⟩, S4.out⟩
  clear ha4 ht4 c0 c1 c2 c3 c4 c5 c6 her hd'
  go_wp2_with fail
  go_loopw [49] (fun s wr => ∃ k : Nat, k ≤ nn ∧ s = .int .i64 (k : Int) ∧ Hid (BmS N w T1' T2' g1 g2 d' (.slice ba nn bc) nn wr)) (fun s _ => nn - (intOf s).toNat)
  case atStart => exact ⟨0, by omega, rfl, HBM.out⟩
  case round =>
    obtain ⟨k, hk, rfl, hw⟩ := hrel
    by_cases hlt : k < nn
    · have hd : decide ((k : Int) < (nn : Int)) = true := by simp; omega
      have hki : (k : Int) < (nn : Int) := by omega
      obtain ⟨gb, y, rfl, cy, fy, ly⟩ := BmS.form hw.out hlt
      have hn9 := HNN.out
      have HPUT := Lib.hid (BmS.put hw.out hlt (HOFF.out gb rfl).1 (HOFF.out gb rfl).2.1 (HOFF.out gb rfl).2.2)
      go_wp2_with fail
      exact ⟨⟨k + 1, by omega, by go_num, HPUT.out _⟩, by simp [intOf]; omega⟩
    · have hd : decide ((k : Int) < (nn : Int)) = false := by simp; omega
      have hkn : k = nn := by omega
      clear hlt
      have HFIN := Lib.hid hw.out
      go_wp2_with fail
      go_ret
      refine ⟨rfl, ⟨T1', T2', ?_⟩, HFIN.out.2.2⟩
      rw [HDD.out]
      exact HFIN.out.2.1
set_option maxHeartbeats 4000000 in
set_option maxRecDepth 100000 in
theorem step_write (N : Nat) (T1 T2 : Nat → Prop) (w : World) (g1 g2 : Nat) (d : DM) (p : OpM) (ks : Option Addr) (kn kc : Nat) (hkv : p.kv = .slice ks kn kc) (h : Two N T1 T2 w g1 g2 d d) (ok : OkD d 999) (op : OkO p) (hkind : p.kind = 1) (hs : ¬ p.short > 0) :
    Calls Try.prog 10 #[ptrD g1, ptrD g2, .agg #[.int .i64 p.kind, .int .i64 p.n, .int .u8 p.fill, .int .i64 p.short, .slice ks kn kc, .int .i64 p.torn, .int .i64 p.cut]] w (StepQ N w g1 g2 (stepD d p)) := by
  obtain ⟨w1, hw1⟩ : ∃ WW, w.alloc (.cells #[.int .i64 p.kind, .int .i64 p.n, .int .u8 p.fill, .int .i64 p.short, .slice ks kn kc, .int .i64 p.torn, .int .i64 p.cut] 34) = WW := ⟨_, rfl⟩
  have hcs : cellsO p = #[.int .i64 p.kind, .int .i64 p.n, .int .u8 p.fill, .int .i64 p.short, .slice ks kn kc, .int .i64 p.torn, .int .i64 p.cut] := by unfold cellsO; rw [hkv]
  have S1 : Hid (StS N T1 T2 w1 g1 g2 d d w.heap.size p) := by
    rw [← hw1, ← hcs]; exact StS.start h p
  have HB1 : Hid (Below N w w1 ∧ w1.heap.size = w.heap.size + 1) := by
    rw [← hw1]; exact ⟨(Below.refl _ _).alloc h.sz _, by simp⟩
  have HOK := Lib.hid ok
  have HOP := Lib.hid op
  have ok1 : OkD d 1000 := ok.mono (by decide)
  have HOK1 := Lib.hid ok1
  obtain ⟨G, hG⟩ : ∃ G, w.heap.size = G := ⟨_, rfl⟩
  rw [hG] at S1 HB1
  have HG := Lib.hid hG
  obtain ⟨c0, c1, c2, c3, c4, c5, c6⟩ := S1.out.blk.o7
  rw [hkv] at c4
  rw [hkind] at c0
  obtain ⟨wo, wc, L, x1, x2, x4, x6, _, _⟩ := S1.out.two.b.r7
  clear h ok op ok1 hcs
  obtain ⟨z, hz⟩ : ∃ z : Nat, d.size = (z : Int) := ⟨d.size.toNat, by have := HOK.out.made.2.2.1; omega⟩
  have hz2 : z ≤ 512 := by have := HOK.out.made.2.2.2; omega
  obtain ⟨nn, hnn⟩ : ∃ nn : Nat, (z : Int) = (nn : Int) := ⟨((z : Int)).toNat, by omega⟩
  have HNN : Hid (nn ≤ 512) := Lib.hid (by omega)
  have ds : decide (p.short > 0) = false := by simpa using hs
  have HST : Hid (stepD d p = (writeD d p.n (List.replicate nn p.fill)).1) := by
    unfold stepD Hid
    rw [if_pos hkind]
    unfold fillN
    rw [if_neg hs, hz, hnn, Int.toNat_natCast]
  rw [HST.out]
  rw [hz] at x1
  have e1 : (z : Int) = (nn : Int) := hnn
  rw [e1] at x1
  clear hs hnn hz hz2 hkind
  go_enter Try.func10, Try.ntmps10
  go_upto_region 1 with fail
  try rw [hw1]
  try rw [hG]
  clear hw1 hG
  go_wp2_with fail
  refine (fill_c nn p.fill (by have := HNN.out; omega) w1).mono ?_
  rintro e w2 ⟨vb, rfl, ho2, hb2⟩
  obtain ⟨ba, bc, hvb⟩ := ho2.shape
  rw [List.length_replicate] at hvb
  subst hvb
  have S2 : Hid (StS N T1 T2 w2 g1 g2 d d G p ∧ Below N w w2) := ⟨S1.out.grow hb2, HB1.out.1.trans (hb2.mono (Nat.le_trans (by have := HB1.out.1.size; have := S1.out.two.sz; omega) (Nat.le_refl _)))⟩
  have HO2 := Lib.hid ho2
  have HOF1 : Hid (∀ k, (Value.slice ba nn bc).ownBlock = some k → w1.heap.size ≤ k ∧ k < w2.heap.size) := fun k e => ho2.lt k e
  have HN1 : Hid (N ≤ w1.heap.size) := S1.out.two.sz
  have HT1 : Hid (∀ k, (Value.slice ba nn bc).ownBlock = some k → ¬ T1 k ∧ ¬ T2 k) := fun k e => ⟨fun hT => by have := at_lt S1.out.two.a hT; have := (HOF1.out k e).1; omega, fun hT => by have := S1.out.two.b.lt k hT; have := (HOF1.out k e).1; omega⟩
  clear ho2 hb2 c0 c1 c2 c3 c4 c5 c6 x1 x2 x4 x6 ds
  obtain ⟨c0, c1, c2, c3, c4, c5, c6⟩ := S2.out.1.blk.o7
  go_wp2_with fail
  refine (rWrite_c T2 w2 g2 d p.n (.slice ba nn bc) (List.replicate nn p.fill) S2.out.1.two.b HOK1.out HO2.out.row (by rw [List.length_replicate]; have := HNN.out; omega)).mono ?_
  rintro e w3 ⟨T2', rfl, hb3, ht3⟩
  have S3 : Hid (StS N T1 T2' w3 g1 g2 d (writeD d p.n (List.replicate nn p.fill)).1 G p ∧ Below N w w3) := ⟨S2.out.1.stepB hb3 ht3, S2.out.2.trans (S2.out.1.two.stepB hb3 ht3).2⟩
  have HO3 : Hid (OwnB w3 w1.heap.size (.slice ba nn bc) (List.replicate nn p.fill)) := owns_keep HO2.out ht3.keep fun k e => (HT1.out k e).2
  have HT3 : Hid (∀ k, (Value.slice ba nn bc).ownBlock = some k → ¬ T1 k ∧ ¬ T2' k) := fun k e => ⟨(HT1.out k e).1, fun hT => (ht3.new k hT).elim (HT1.out k e).2 fun q => by have := (HOF1.out k e).2; omega⟩
  have HZ3 : Hid (w2.heap.size ≤ w3.heap.size) := ht3.keep.size
  clear hb3 ht3 c0 c1 c2 c3 c4 c5 c6
  obtain ⟨c0, c1, c2, c3, c4, c5, c6⟩ := S3.out.1.blk.o7
  go_wp2_with fail
  refine (diskOk.write T1 w3 g1 d p.n (.slice ba nn bc) (List.replicate nn p.fill) S3.out.1.two.a HOK1.out HOP.out.n HO3.out.row HO3.out.cap (by rw [List.length_replicate]; have := HNN.out; omega) (okB_rep HOP.out.fill) (fun k e => (HT3.out k e).1)).mono ?_
  rintro e w4 ⟨T1', rfl, ha4, ht4⟩
  have S4 : Hid (Two N T1' T2' w4 g1 g2 (writeD d p.n (List.replicate nn p.fill)).1 (writeD d p.n (List.replicate nn p.fill)).1 ∧ Below N w w4) := ⟨(S3.out.1.two.stepA ha4 ht4).1, S3.out.2.trans (S3.out.1.two.stepA ha4 ht4).2⟩
  have HO4 : Hid (OwnB w4 w1.heap.size (.slice ba nn bc) (List.replicate nn p.fill)) := owns_keep HO3.out ht4.keep fun k e => (HT3.out k e).1
  have HOFF : Hid (∀ gb, ba = some ⟨gb, 0, none⟩ → ¬ T1' gb ∧ ¬ T2' gb ∧ N ≤ gb) := fun gb e => by
    have e' : (Value.slice ba nn bc).ownBlock = some gb := by rw [e]; rfl
    have := HOF1.out gb e'
    have := HN1.out
    have := HZ3.out
    exact ⟨fun hT => (ht4.new gb hT).elim (HT3.out gb e').1 fun q => by omega, (HT3.out gb e').2, by omega⟩
  obtain ⟨er, her⟩ : ∃ er, (writeD d p.n (List.replicate nn p.fill)).2 = er := ⟨_, rfl⟩
  obtain ⟨d', hd'⟩ : ∃ d', (writeD d p.n (List.replicate nn p.fill)).1 = d' := ⟨_, rfl⟩
  rw [hd'] at S4
  have HDD := Lib.hid hd'
  rw [her]
  have HBM : Hid (BmS N w T1' T2' g1 g2 d' (.slice ba nn bc) nn w4) := ⟨⟨_, owns_base HO4.out (Nat.zero_le _), List.length_replicate⟩, S4.out⟩
  clear ha4 ht4 c0 c1 c2 c3 c4 c5 c6 her hd'
  go_wp2_with fail
  go_loopw [49] (fun s wr => ∃ k : Nat, k ≤ nn ∧ s = .int .i64 (k : Int) ∧ Hid (BmS N w T1' T2' g1 g2 d' (.slice ba nn bc) nn wr)) (fun s _ => nn - (intOf s).toNat)
  case atStart => exact ⟨0, by omega, rfl, HBM.out⟩
  case round =>
    obtain ⟨k, hk, rfl, hw⟩ := hrel
    by_cases hlt : k < nn
    · have hd : decide ((k : Int) < (nn : Int)) = true := by simp; omega
      have hki : (k : Int) < (nn : Int) := by omega
      obtain ⟨gb, y, rfl, cy, fy, ly⟩ := BmS.form hw.out hlt
      have hn9 := HNN.out
      have HPUT := Lib.hid (BmS.put hw.out hlt (HOFF.out gb rfl).1 (HOFF.out gb rfl).2.1 (HOFF.out gb rfl).2.2)
      go_wp2_with fail
      exact ⟨⟨k + 1, by omega, by go_num, HPUT.out _⟩, by simp [intOf]; omega⟩
    · have hd : decide ((k : Int) < (nn : Int)) = false := by simp; omega
      have hkn : k = nn := by omega
      clear hlt
      have HFIN := Lib.hid hw.out
      go_wp2_with fail
      go_ret
      refine ⟨rfl, ⟨T1', T2', ?_⟩, HFIN.out.2.2⟩
      rw [HDD.out]
      exact HFIN.out.2.1
end Go.Proofs.Ytohmkmekdnfkoaa
