/- Layer 14: package store: a store in memory; its small answers. -/
import Derived.Test.YtdcjchakgfpgaaaMe
namespace Go.Proofs.Ytdcjchakgfpgaaa
open Go.RowKit
/-- How many sectors a half has; its bytes. -/
def halfI (d : DM) : Int := (d.sectors - 2) / 2
def capI (d : DM) : Int := if d.sectors < 4 ∨ d.size < 32 then 0 else halfI d * d.size
/-- A store's struct. -/
def cellsS (g : Nat) (h : Hd) (sv : Value) (f : Bool) : Array Value := #[ptrD g, .int .i64 h.gen, .int .i64 h.half, .int .i64 h.snap, .int .i64 h.log, sv, .bool f]
/-- A store in memory, beside its disk. -/
structure SAt (T : Nat → Prop) (w : World) (a g : Nat) (h : Hd) (sv : Value) (D : List Int) (f : Bool) : Prop where
  blk : Blk w a 73 (cellsS g h sv f)
  all : OwnB w 0 sv D
  offA : ¬ T a
  offS : ∀ k, sv.ownBlock = some k → ¬ T k
/-- What a store says fits its disk. -/
structure SOk (d : DM) (h : Hd) (D : List Int) : Prop where
  sec : 4 ≤ d.sectors
  siz : 32 ≤ d.size
  len : (D.length : Int) = h.snap + h.log
  byts : OkB D
  cap : (D.length : Int) ≤ capI d
  gen : 1 ≤ h.gen ∧ h.gen ≤ 1000000
  half : 0 ≤ h.half ∧ h.half ≤ 1
  snap : 0 ≤ h.snap
  log : 0 ≤ h.log
theorem Blk.s7 {w : World} {a g : Nat} {h : Hd} {sv : Value} {f : Bool} (b : Blk w a 73 (cellsS g h sv f)) : w.cell? ⟨a, 0, none⟩ = some (ptrD g) ∧ w.cell? ⟨a, 1, none⟩ = some (.int .i64 h.gen) ∧ w.cell? ⟨a, 2, none⟩ = some (.int .i64 h.half) ∧ w.cell? ⟨a, 3, none⟩ = some (.int .i64 h.snap) ∧ w.cell? ⟨a, 4, none⟩ = some (.int .i64 h.log) ∧ w.cell? ⟨a, 5, none⟩ = some sv ∧ w.cell? ⟨a, 6, none⟩ = some (.bool f) :=
  ⟨b.cell 0, b.cell 1, b.cell 2, b.cell 3, b.cell 4, b.cell 5, b.cell 6⟩
theorem SAt.grow {T : Nat → Prop} {w w' : World} {a g : Nat} {h : Hd} {sv : Value} {D : List Int} {f : Bool} (s : SAt T w a g h sv D f) (hb : Below w.heap.size w w') : SAt T w' a g h sv D f :=
  ⟨s.blk.grow hb, s.all.grow hb, s.offA, s.offS⟩
theorem at_grow {T : Nat → Prop} {w w' : World} {g : Nat} {d : DM} (h : At12 T w g d) (hb : Below w.heap.size w w') : At12 T w' g d := at_keep h (Keep.of_below hb)
theorem halfI_in {d : DM} (h : diskOkI d.sectors d.size) (h4 : 4 ≤ d.sectors) : 1 ≤ halfI d ∧ halfI d ≤ 2047 ∧ 2 + 2 * halfI d ≤ d.sectors := by
  obtain ⟨h1, h2, _, _⟩ := h
  unfold halfI
  omega
set_option maxHeartbeats 4000000 in
set_option maxRecDepth 100000 in
theorem halfSectors_c (T : Nat → Prop) (w : World) (g : Nat) (d : DM) (h : At12 T w g d) (ok : OkD d 1000) (h4 : 4 ≤ d.sectors) : Calls Try.prog 35 #[ptrD g] w fun e w' => e = .returned (.int .i64 (halfI d)) ∧ Below w.heap.size w w' := by
  have HS := Lib.hid (kSectors_c T w g d h ok)
  obtain ⟨s, hs⟩ : ∃ s, d.sectors = s := ⟨_, rfl⟩
  have e1 : wrap64 (s - 2) = s - 2 := by have := ok.made; unfold diskOkI at this; exact wrapR _ (by omega) (by omega)
  have e2 : Int.tdiv (s - 2) 2 = (s - 2) / 2 := Int.tdiv_eq_ediv_of_nonneg (by omega)
  have e3 : wrap64 ((s - 2) / 2) = (s - 2) / 2 := by have := ok.made; unfold diskOkI at this; exact wrapR _ (by omega) (by omega)
  have E : Hid (halfI d = (s - 2) / 2) := by unfold halfI; rw [hs]; exact rfl
  rw [hs] at HS
  rw [E.out]
  have HE : Hid (wrap64 (Int.tdiv (wrap64 (s - 2)) 2) = (s - 2) / 2 ∧ True) := ⟨by rw [e1, e2, e3], trivial⟩
  clear h ok h4 hs
  go_enter Try.func35, Try.ntmps35
  go_wp2_with fail
  refine (HS.out).mono ?_
  rintro e w1 ⟨rfl, hb⟩
  have H1 := Lib.hid hb
  clear hb
  go_wp2_with fail
  go_ret
  exact ⟨congrArg (fun x => Ending.returned (Value.int .i64 x)) e3, H1.out⟩
set_option maxHeartbeats 4000000 in
set_option maxRecDepth 100000 in
theorem firstSector_c (T : Nat → Prop) (w : World) (g : Nat) (d : DM) (half : Int) (h : At12 T w g d) (ok : OkD d 1000) (h4 : 4 ≤ d.sectors) (hh : 0 ≤ half ∧ half ≤ 1) : Calls Try.prog 50 #[ptrD g, .int .i64 half] w fun e w' => e = .returned (.int .i64 (2 + half * halfI d)) ∧ Below w.heap.size w w' := by
  have HS := Lib.hid (halfSectors_c T w g d h ok h4)
  have hr := halfI_in ok.made h4
  obtain ⟨s, hs⟩ : ∃ s, halfI d = s := ⟨_, rfl⟩
  rw [hs] at HS hr ⊢
  have hb : 0 ≤ half * s ∧ half * s ≤ 2047 := by
    rcases (show half = 0 ∨ half = 1 by omega) with rfl | rfl <;> omega
  have e1 : wrap64 (half * s) = half * s := wrapR _ (by omega) (by omega)
  have e2 : wrap64 (2 + half * s) = 2 + half * s := wrapR _ (by omega) (by omega)
  clear h ok h4 hs hr hb
  go_enter Try.func50, Try.ntmps50
  go_wp2_with fail
  refine (HS.out).mono ?_
  rintro e w1 ⟨rfl, hb⟩
  have H1 := Lib.hid hb
  clear hb
  go_wp2_with fail
  go_ret
  exact ⟨congrArg (fun x => Ending.returned (Value.int .i64 x)) e2, H1.out⟩
theorem capNil_c (w : World) : Calls Try.prog 13 #[.pointer none] w fun e w' => e = .returned (.int .i64 0) ∧ w = w' := by
  go_enter Try.func13, Try.ntmps13
  go_wp2_with fail
  go_ret
  exact ⟨rfl, rfl⟩
set_option maxHeartbeats 4000000 in
set_option maxRecDepth 100000 in
theorem capD_c (T : Nat → Prop) (w : World) (g : Nat) (d : DM) (h : At12 T w g d) (ok : OkD d 1000) : Calls Try.prog 13 #[ptrD g] w fun e w' => e = .returned (.int .i64 (capI d)) ∧ Below w.heap.size w w' := by
  have HH := Lib.hid h
  have HS : Hid (∀ W, Below w.heap.size w W → (Calls Try.prog 33 #[ptrD g] W fun e w' => e = .returned (.int .i64 d.sectors) ∧ Below W.heap.size W w') ∧ (Calls Try.prog 34 #[ptrD g] W fun e w' => e = .returned (.int .i64 d.size) ∧ Below W.heap.size W w') ∧ (4 ≤ d.sectors → Calls Try.prog 35 #[ptrD g] W fun e w' => e = .returned (.int .i64 (halfI d)) ∧ Below W.heap.size W w')) := fun W hW => ⟨kSectors_c T W g d (at_grow HH.out hW) ok, kSize_c T W g d (at_grow HH.out hW) ok, fun h4 => halfSectors_c T W g d (at_grow HH.out hW) ok h4⟩
  obtain ⟨s, hs⟩ : ∃ s, d.sectors = s := ⟨_, rfl⟩
  obtain ⟨z, hz⟩ : ∃ z, d.size = z := ⟨_, rfl⟩
  obtain ⟨q, hq⟩ : ∃ z, halfI d = z := ⟨_, rfl⟩
  have hr : 4 ≤ s → 1 ≤ q ∧ q ≤ 2047 := fun h4 => by have := halfI_in ok.made (by omega); omega
  have hm := ok.made
  unfold diskOkI at hm
  rw [hs, hz] at hm
  have E : Hid (capI d = if s < 4 ∨ z < 32 then 0 else q * z) := by unfold capI; rw [hs, hz, hq]; exact rfl
  rw [E.out]
  rw [hs, hz, hq] at HS
  clear h ok hs hz hq HH
  by_cases k0 : s < 4
  · have e0 : decide (s < 4) = true := by simpa using k0
    rw [if_pos (.inl k0)]
    clear k0
    go_enter Try.func13, Try.ntmps13
    go_wp2_with fail
    refine ((HS.out w (Below.refl _ _)).1).mono ?_
    rintro e w1 ⟨rfl, hb⟩
    have H1 := Lib.hid hb
    clear hb
    go_wp2_with fail
    go_ret
    exact ⟨rfl, H1.out⟩
  have e0 : decide (s < 4) = false := by simpa using k0
  by_cases k1 : z < 32
  · have e1 : decide (z < 32) = true := by simpa using k1
    rw [if_pos (.inr k1)]
    clear k0 k1
    go_enter Try.func13, Try.ntmps13
    go_wp2_with fail
    refine ((HS.out w (Below.refl _ _)).1).mono ?_
    rintro e w1 ⟨rfl, hb⟩
    have H1 := Lib.hid hb
    clear hb
    go_wp2_with fail
    refine ((HS.out w1 H1.out).2.1).mono ?_
    rintro e w2 ⟨rfl, hb⟩
    have H2 : Hid (Below w.heap.size w w2) := H1.out.trans (hb.mono H1.out.size)
    clear hb
    go_wp2_with fail
    go_ret
    exact ⟨rfl, H2.out⟩
  have e1 : decide (z < 32) = false := by simpa using k1
  rw [if_neg (fun h => h.elim k0 k1)]
  have h4 : 4 ≤ s := by omega
  have hq := hr h4
  have hqz : 0 ≤ q * z ∧ q * z ≤ 2047 * 512 := ⟨Int.mul_nonneg (by omega) (by omega), Int.mul_le_mul hq.2 hm.2.2.2 (by omega) (by omega)⟩
  have e2 : wrap64 (q * z) = q * z := wrapR _ (by omega) (by omega)
  have E4 := Lib.hid h4
  clear k0 k1 h4 hq hqz hr hm
  go_enter Try.func13, Try.ntmps13
  go_wp2_with fail
  refine ((HS.out w (Below.refl _ _)).1).mono ?_
  rintro e w1 ⟨rfl, hb⟩
  have H1 := Lib.hid hb
  clear hb
  go_wp2_with fail
  refine ((HS.out w1 H1.out).2.1).mono ?_
  rintro e w2 ⟨rfl, hb⟩
  have H2 : Hid (Below w.heap.size w w2) := H1.out.trans (hb.mono H1.out.size)
  clear hb
  go_wp2_with fail
  refine ((HS.out w2 H2.out).2.2 E4.out).mono ?_
  rintro e w3 ⟨rfl, hb⟩
  have H3 : Hid (Below w.heap.size w w3) := H2.out.trans (hb.mono H2.out.size)
  clear hb
  go_wp2_with fail
  refine ((HS.out w3 H3.out).2.1).mono ?_
  rintro e w4 ⟨rfl, hb⟩
  have H4 : Hid (Below w.heap.size w w4) := H3.out.trans (hb.mono H3.out.size)
  clear hb
  go_wp2_with fail
  go_ret
  exact ⟨congrArg (fun x => Ending.returned (Value.int .i64 x)) e2, H4.out⟩
section
variable {T : Nat → Prop} {w : World} {a g : Nat} {h : Hd} {sv : Value} {D : List Int} {f : Bool} {d : DM}
set_option maxHeartbeats 4000000 in
set_option maxRecDepth 100000 in
theorem sCap_c (hd : At12 T w g d) (ok : OkD d 1000) (s : SAt T w a g h sv D f) : Calls Try.prog 18 #[ptrD a] w fun e w' => e = .returned (.int .i64 (capI d)) ∧ Below w.heap.size w w' := by
  have HC := Lib.hid (capD_c T w g d hd ok)
  obtain ⟨c0, c1, c2, c3, c4, c5, c6⟩ := s.blk.s7
  clear hd ok s
  go_enter Try.func18, Try.ntmps18
  go_wp2_with fail
  refine (HC.out).mono ?_
  rintro e w1 ⟨rfl, hb⟩
  have H1 := Lib.hid hb
  clear hb
  go_wp2_with fail
  go_ret
  exact ⟨rfl, H1.out⟩
set_option maxHeartbeats 4000000 in
set_option maxRecDepth 100000 in
theorem sUsed_c (s : SAt T w a g h sv D f) (ok : SOk d h D) (hdk : diskOkI d.sectors d.size) : Calls Try.prog 42 #[ptrD a] w fun e w' => e = .returned (.int .i64 (D.length : Int)) ∧ Below w.heap.size w w' := by
  have hc : capI d ≤ 2047 * 512 := by
    unfold capI
    split
    · decide
    · have := halfI_in hdk ok.sec
      obtain ⟨_, _, z1, z2⟩ := hdk
      exact Int.mul_le_mul this.2.1 z2 (by omega) (by omega)
  have HC := Lib.hid (used_c h w (by have := ok.snap; have := ok.log; have := ok.len; have := ok.cap; omega) (by have := ok.snap; have := ok.log; have := ok.len; have := ok.cap; omega))
  rw [← ok.len] at HC
  obtain ⟨c0, c1, c2, c3, c4, c5, c6⟩ := s.blk.s7
  clear ok s hc hdk
  go_enter Try.func42, Try.ntmps42
  go_wp2_with fail
  refine (HC.out).mono ?_
  rintro e w1 ⟨rfl, hb⟩
  have H1 := Lib.hid hb
  clear hb
  go_wp2_with fail
  go_ret
  exact ⟨rfl, H1.out⟩
theorem capI_le (hdk : diskOkI d.sectors d.size) : 0 ≤ capI d ∧ capI d ≤ 2047 * 512 := by
  unfold capI
  split
  · decide
  · have := halfI_in hdk (by omega)
    obtain ⟨_, _, z1, z2⟩ := hdk
    exact ⟨Int.mul_nonneg (by omega) (by omega), Int.mul_le_mul this.2.1 z2 (by omega) (by omega)⟩
set_option maxHeartbeats 4000000 in
set_option maxRecDepth 100000 in
theorem sRoom_c (hd : At12 T w g d) (ok : OkD d 1000) (s : SAt T w a g h sv D f) (sok : SOk d h D) : Calls Try.prog 41 #[ptrD a] w fun e w' => e = .returned (.int .i64 (capI d - (D.length : Int))) ∧ Below w.heap.size w w' := by
  have HC := Lib.hid (sCap_c hd ok s)
  have HU : Hid (∀ W, Below w.heap.size w W → Calls Try.prog 42 #[ptrD a] W fun e w' => e = .returned (.int .i64 (D.length : Int)) ∧ Below W.heap.size W w') := fun W hW => sUsed_c (s.grow hW) sok ok.made
  have hcl := capI_le ok.made
  have e1 : wrap64 (capI d - (D.length : Int)) = capI d - (D.length : Int) := wrapR _ (by have := sok.cap; omega) (by have := sok.cap; omega)
  clear hd ok s sok hcl
  go_enter Try.func41, Try.ntmps41
  go_wp2_with fail
  refine (HC.out).mono ?_
  rintro e w1 ⟨rfl, hb⟩
  have H1 := Lib.hid hb
  clear hb
  go_wp2_with fail
  refine (HU.out w1 H1.out).mono ?_
  rintro e w2 ⟨rfl, hb⟩
  have H2 : Hid (Below w.heap.size w w2) := H1.out.trans (hb.mono H1.out.size)
  clear hb
  go_wp2_with fail
  go_ret
  exact ⟨congrArg (fun x => Ending.returned (Value.int .i64 x)) e1, H2.out⟩
end
theorem results_h1 {fn : Func} {tmps : Array Value} {W : World} {g : Nat} {h : Hd} (hres : fn.results = #[.cell 2 23]) (hg : tmps[2]? = some (.pointer (some ⟨g, 0, none⟩))) (hb : Blk W g 23 (hdC h)) :
    (results fn tmps).run Try.prog W = .ok (hdV h) W := by
  have c0 : W.cell? ⟨g, 0, none⟩ = some (.int .i64 h.gen) := hb.cell 0
  have c1 : W.cell? ⟨g, 1, none⟩ = some (.int .i64 h.half) := hb.cell 1
  have c2 : W.cell? ⟨g, 2, none⟩ = some (.int .i64 h.snap) := hb.cell 2
  have c3 : W.cell? ⟨g, 3, none⟩ = some (.int .i64 h.log) := hb.cell 3
  simp [results, hres, hg, go_sem, c0, c1, c2, c3]
set_option maxHeartbeats 4000000 in
set_option maxRecDepth 100000 in
theorem sHeader_c {T : Nat → Prop} {w : World} {a g : Nat} {h : Hd} {sv : Value} {D : List Int} {f : Bool} (s : SAt T w a g h sv D f) : Calls Try.prog 22 #[ptrD a] w fun e w' => e = .returned (hdV h) ∧ Below w.heap.size w w' := by
  obtain ⟨w0, hw0⟩ : ∃ x, w.alloc (.cells #[.int .i64 0, .int .i64 0, .int .i64 0, .int .i64 0] 23) = x := ⟨_, rfl⟩
  have H0 : Hid (Blk w0 w.heap.size 23 #[.int .i64 0, .int .i64 0, .int .i64 0, .int .i64 0] ∧ Below w.heap.size w w0) := by
    subst hw0
    exact ⟨Blk.new _ _ _, (Below.refl _ _).alloc (Nat.le_refl _) _⟩
  have c0 : w0.cell? ⟨w.heap.size, 0, none⟩ = some (.int .i64 0) := H0.out.1.cell 0
  have c1 : w0.cell? ⟨w.heap.size, 1, none⟩ = some (.int .i64 0) := H0.out.1.cell 1
  have c2 : w0.cell? ⟨w.heap.size, 2, none⟩ = some (.int .i64 0) := H0.out.1.cell 2
  have c3 : w0.cell? ⟨w.heap.size, 3, none⟩ = some (.int .i64 0) := H0.out.1.cell 3
  have f0 := H0.out.1.free 0
  have f1 := H0.out.1.free 1
  have f2 := H0.out.1.free 2
  have f3 := H0.out.1.free 3
  have hlt := H0.out.1.lt
  obtain ⟨s0, s1, s2, s3, s4, s5, s6⟩ := (s.blk.grow H0.out.2).s7
  clear s
  go_enter Try.func22, Try.ntmps22
  go_upto_region 1 with fail
  try rw [hw0]
  clear hw0
  go_wp2_with fail
  exact bodyPost_ret (results_h1 (h := h) rfl rfl (set4_blk H0.out.1 _ _ _ _)) rfl ⟨rfl, below_hd4 H0.out.2 (Nat.le_refl _) _ _ _ _⟩
end Go.Proofs.Ytdcjchakgfpgaaa
