/- Layer 12: package disk: Write. -/
import Derived.Test.YtohmkmekdnfkoaaCg
namespace Go.Proofs.Ytohmkmekdnfkoaa
open Go.RowKit
set_option maxHeartbeats 4000000 in
set_option maxRecDepth 100000 in
theorem writeK_down (w : World) (g : Nat) (x : Kd) (i : Int) (v : Value) (h : Blk w g 58 x.cells) (hd : x.down = true) : Calls Try.prog 18 #[ptrD g, .int .i64 i, v] w fun e w' => e = .returned (.int .i64 40) ∧ Below w.heap.size w w' := by
  obtain ⟨d0, d1, d2, d3, d4, d5, d6⟩ := h.k7
  rw [hd] at d6
  clear h hd
  go_enter Try.func18, Try.ntmps18
  go_wp2_with fail
  go_ret
  exact ⟨rfl, Below.refl _ _⟩
set_option maxHeartbeats 4000000 in
set_option maxRecDepth 100000 in
theorem writeK_range (T : Nat → Prop) (w : World) (g : Nat) (x : Kd) (i : Int) (v : Value) (h : KAt T w g x) (hd : x.down = false) (hi : hasK x.R.length i = false) : Calls Try.prog 18 #[ptrD g, .int .i64 i, v] w fun e w' => e = .returned (.int .i64 30) ∧ Below w.heap.size w w' := by
  have HH := Lib.hid (kHas_c w g x i h.blk h.reads.shape)
  rw [hi] at HH
  obtain ⟨d0, d1, d2, d3, d4, d5, d6⟩ := h.blk.k7
  rw [hd] at d6
  clear h hd hi
  go_enter Try.func18, Try.ntmps18
  go_wp2_with fail
  refine (HH.out).mono ?_
  rintro e w1 ⟨rfl, hb⟩
  have H1 := Lib.hid hb
  clear hb
  go_wp2_with fail
  go_ret
  exact ⟨rfl, H1.out⟩
set_option maxHeartbeats 4000000 in
set_option maxRecDepth 100000 in
theorem writeK_size (T : Nat → Prop) (w : World) (g : Nat) (x : Kd) (i : Int) (vo : Option Addr) (vn vc : Nat) (h : KAt T w g x) (hd : x.down = false) (hi : hasK x.R.length i = true) (hn : (vn : Int) ≠ x.size) : Calls Try.prog 18 #[ptrD g, .int .i64 i, .slice vo vn vc] w fun e w' => e = .returned (.int .i64 41) ∧ Below w.heap.size w w' := by
  have HH := Lib.hid (kHas_c w g x i h.blk h.reads.shape)
  rw [hi] at HH
  have HX := Lib.hid h
  obtain ⟨d0, d1, d2, d3, d4, d5, d6⟩ := h.blk.k7
  rw [hd] at d6
  have hne : ((vn : Int) != x.size) = true := by simpa using hn
  clear h hd hi hn
  go_enter Try.func18, Try.ntmps18
  go_wp2_with fail
  refine (HH.out).mono ?_
  rintro e w1 ⟨rfl, hb⟩
  have H1 := Lib.hid hb
  obtain ⟨z0, z1, z2, z3, z4, z5, z6⟩ := (HX.out.grow hb).blk.k7
  clear hb d0 d1 d2 d3 d4 d5 d6
  go_wp2_with fail
  go_ret
  exact ⟨rfl, H1.out⟩
theorem Rel.has {x : Kd} {d : DM} (r : Rel x d) (ok : OkD d 1000) (i : Int) : hasK x.R.length i = hasD d i := by
  have e : (x.R.length : Int) = d.sectors := by rw [r.reads]; exact ok.rlen
  unfold hasK hasD
  rw [e]
theorem kWrite_c (T : Nat → Prop) (w : World) (g : Nat) (d : DM) (i : Int) (v : Value) (b : List Int) (h : At12 T w g d) (ok : OkD d 1000) (_hi : rngI i) (hv : RowB w v b) (_hc : CapS v) (hl : b.length ≤ 1000) (_hb : OkB b) (hT : ∀ k, v.ownBlock = some k → ¬ T k) : Calls Try.prog 18 #[ptrD g, .int .i64 i, v] w fun e w' => ∃ T', e = .returned (.int .i64 (writeD d i b).2) ∧ At12 T' w' g (writeD d i b).1 ∧ To T w T' w' := by
  obtain ⟨x, hx, hr⟩ := h
  obtain ⟨z, hz⟩ := hr.okL ok
  have hdn : 0 ≤ x.done ∧ x.done ≤ 1000000 := by have := ok.done; have := hr.done; omega
  have hh := hr.has ok i
  unfold writeD
  by_cases hd0 : d.down = true
  · rw [if_pos hd0]
    refine (writeK_down w g x i v hx.blk (by rw [hr.down]; exact hd0)).mono ?_
    rintro e w' ⟨rfl, hb⟩
    exact ⟨T, rfl, ⟨x, hx.grow hb, hr⟩, To.below hb⟩
  · rw [if_neg hd0]
    have hd : d.down = false := by simpa using hd0
    by_cases hi : hasD d i = false
    · rw [if_pos hi]
      refine (writeK_range T w g x i v hx (by rw [hr.down]; exact hd) (by rw [hh]; exact hi)).mono ?_
      rintro e w' ⟨rfl, hb⟩
      exact ⟨T, rfl, ⟨x, hx.grow hb, hr⟩, To.below hb⟩
    · rw [if_neg hi]
      have hi : hasD d i = true := by simpa using hi
      by_cases hn : (b.length : Int) = d.size
      · rw [if_neg (by simpa using hn)]
        refine (writeK_ok T w g x i v b hx (by rw [hr.down]; exact hd) (by rw [hh]; exact hi) hv (by rw [hr.size]; exact hn) hl (by have := hz.few; omega) hT hdn hr.rng).mono ?_
        rintro e w' ⟨T', u, v', rfl, hk, ht⟩
        have hr2 : Rel { x with L := x.L ++ [(i, u, b)], wv := v' } { d with wait := d.wait ++ [(i, b)] } :=
          ⟨hr.size, hr.all, by show mapW (x.L ++ [(i, u, b)]) = d.wait ++ [(i, b)]; rw [← hr.wait]; unfold mapW; rw [List.map_append]; rfl, hr.reads, hr.done, hr.down, hr.armed, hr.free, hr.rng⟩
        obtain ⟨h1, h2⟩ := hr2.cmd ok.left
        exact ⟨T', by rw [← h2], ⟨_, hk, h1⟩, ht⟩
      · rw [if_pos hn]
        obtain ⟨vo, vc, rfl⟩ := hv.shape
        refine (writeK_size T w g x i vo b.length vc hx (by rw [hr.down]; exact hd) (by rw [hh]; exact hi) (by rw [hr.size]; exact hn)).mono ?_
        rintro e w' ⟨rfl, hb⟩
        exact ⟨T, rfl, ⟨x, hx.grow hb, hr⟩, To.below hb⟩
end Go.Proofs.Ytohmkmekdnfkoaa
