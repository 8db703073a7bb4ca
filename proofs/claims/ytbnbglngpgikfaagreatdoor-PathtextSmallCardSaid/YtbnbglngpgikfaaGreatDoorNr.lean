/- Contracts of read and Parse (layer 1), for every string. -/
import Derived.Test.YtbnbglngpgikfaaGreatDoorNq
namespace Go.Proofs.YtbnbglngpgikfaaGreatDoor
open Go.RowKit Go.Shelf

set_option maxHeartbeats 2000000 in
theorem read_ok (s : List UInt8) (hs : s.length ≤ 4294967280) (m : Bool) (z f b : List UInt8) (x : Bool) (u p : Nat)
    (hm : Lib.hasPrefix s [45] = m) (hz : Lib.trimPrefix s [45] = z) (h1 : (Lib.cut z [46]).1 = f) (h2 : (Lib.cut z [46]).2.1 = b) (h3 : (Lib.cut z [46]).2.2 = x)
    (hu : okOf (Lib.parseUintB 24 f) = some u) (hp : readPartF b = some p) (w : World) (hr : Rd2 w) :
    Calls Tryz.prog 73 #[.string ⟨s.toArray⟩] w fun e w' => e = tag (if m then -((u : Int) * 256 + p) else (u : Int) * 256 + p) true ∧ Below w.heap.size w w' := by
  have lz : z.length ≤ s.length := hz ▸ trimPrefix_len s
  have lf : f.length ≤ z.length := h1 ▸ (cut_len z).1
  have ub : (u : Int) ≤ 16777215 := by
    cases hq : Lib.parseUintB 24 f
    · rw [hq] at hu; cases hu
      have := Lib.parseUintB_le hq
      omega
    · rw [hq] at hu; cases hu
    · rw [hq] at hu; cases hu
  have pb : (p : Int) ≤ 10996 := by have := readPart_le b p hp; omega
  have LZ : Hid (z.length < 4294967281) := by unfold Hid; omega
  have LF : Hid (f.length ≤ 4294967296) := by unfold Hid; omega
  have HM := Lib.hid hm; have HZ := Lib.hid hz; have H1 := Lib.hid h1; have H2 := Lib.hid h2; have H3 := Lib.hid h3; have HU := Lib.hid hu; have HP := Lib.hid hp; have Hr := Lib.hid hr
  clear hm hz h1 h2 h3 hu hp hr lz lf hs
  cases m
  all_goals
    go_enter Tryz.func73, Tryz.ntmps73
    go_wp2_with (first | (go_at_call 83; refine (cutPrefix_any _ _).mono ?_; rintro e w' ⟨rfl, rfl⟩; rw [HZ.out, HM.out]) | (go_at_call 84; refine (cut_any _ LZ.out _ Hr.out).mono ?_; rintro e w1 ⟨rfl, hb1⟩; rw [H1.out, H2.out, H3.out]; have Hb1 := Lib.hid hb1; clear hb1) | (go_at_call 85; refine ((pu_some _ LF.out _).1 u HU.out).mono ?_; rintro e w2 ⟨rfl, hb2⟩; have Hb2 := Lib.hid hb2; clear hb2) | (go_at_call 86; refine (readPart_some _ p HP.out _).mono ?_; rintro e w3 ⟨rfl, hb3⟩; unfold tag; have Hb3 := Lib.hid hb3; clear hb3))
    go_ret2
    exact ⟨rfl, below_next (below_next Hb1.out Hb2.out) Hb3.out⟩
set_option maxHeartbeats 2000000 in
theorem read_bad1 (s : List UInt8) (hs : s.length ≤ 4294967280) (m : Bool) (z f b : List UInt8) (x : Bool)
    (hm : Lib.hasPrefix s [45] = m) (hz : Lib.trimPrefix s [45] = z) (h1 : (Lib.cut z [46]).1 = f) (h2 : (Lib.cut z [46]).2.1 = b) (h3 : (Lib.cut z [46]).2.2 = x)
    (hu : okOf (Lib.parseUintB 24 f) = none) (w : World) (hr : Rd2 w) :
    Calls Tryz.prog 73 #[.string ⟨s.toArray⟩] w fun e w' => e = tag 0 false ∧ Below w.heap.size w w' := by
  have lz : z.length ≤ s.length := hz ▸ trimPrefix_len s
  have lf : f.length ≤ z.length := h1 ▸ (cut_len z).1
  have LZ : Hid (z.length < 4294967281) := by unfold Hid; omega
  have LF : Hid (f.length ≤ 4294967296) := by unfold Hid; omega
  have HM := Lib.hid hm; have HZ := Lib.hid hz; have H1 := Lib.hid h1; have H2 := Lib.hid h2; have H3 := Lib.hid h3; have HU := Lib.hid hu; have Hr := Lib.hid hr
  clear hm hz h1 h2 h3 hu hr lz lf hs
  go_enter Tryz.func73, Tryz.ntmps73
  go_wp2_with (first | (go_at_call 83; refine (cutPrefix_any _ _).mono ?_; rintro e w' ⟨rfl, rfl⟩; rw [HZ.out, HM.out]) | (go_at_call 84; refine (cut_any _ LZ.out _ Hr.out).mono ?_; rintro e w1 ⟨rfl, hb1⟩; rw [H1.out, H2.out, H3.out]; have Hb1 := Lib.hid hb1; clear hb1) | (go_at_call 85; refine ((pu_none _ LF.out _ (Hr.out.on Hb1.out)).1 HU.out).mono ?_; rintro e w2 ⟨⟨y, N, rfl⟩, hb2⟩; have Hb2 := Lib.hid hb2; clear hb2))
  go_ret2
  exact ⟨rfl, below_next Hb1.out Hb2.out⟩
set_option maxHeartbeats 2000000 in
theorem read_bad2 (s : List UInt8) (hs : s.length ≤ 4294967280) (m : Bool) (z f b : List UInt8) (x : Bool) (u : Nat)
    (hm : Lib.hasPrefix s [45] = m) (hz : Lib.trimPrefix s [45] = z) (h1 : (Lib.cut z [46]).1 = f) (h2 : (Lib.cut z [46]).2.1 = b) (h3 : (Lib.cut z [46]).2.2 = x)
    (hu : okOf (Lib.parseUintB 24 f) = some u) (hp : readPartF b = none) (w : World) (hr : Rd2 w) :
    Calls Tryz.prog 73 #[.string ⟨s.toArray⟩] w fun e w' => e = tag 0 false ∧ Below w.heap.size w w' := by
  have lz : z.length ≤ s.length := hz ▸ trimPrefix_len s
  have lf : f.length ≤ z.length := h1 ▸ (cut_len z).1
  have LZ : Hid (z.length < 4294967281) := by unfold Hid; omega
  have LF : Hid (f.length ≤ 4294967296) := by unfold Hid; omega
  have HM := Lib.hid hm; have HZ := Lib.hid hz; have H1 := Lib.hid h1; have H2 := Lib.hid h2; have H3 := Lib.hid h3; have HU := Lib.hid hu; have HP := Lib.hid hp; have Hr := Lib.hid hr
  clear hm hz h1 h2 h3 hu hp hr lz lf hs
  go_enter Tryz.func73, Tryz.ntmps73
  go_wp2_with (first | (go_at_call 83; refine (cutPrefix_any _ _).mono ?_; rintro e w' ⟨rfl, rfl⟩; rw [HZ.out, HM.out]) | (go_at_call 84; refine (cut_any _ LZ.out _ Hr.out).mono ?_; rintro e w1 ⟨rfl, hb1⟩; rw [H1.out, H2.out, H3.out]; have Hb1 := Lib.hid hb1; clear hb1) | (go_at_call 85; refine ((pu_some _ LF.out _).1 u HU.out).mono ?_; rintro e w2 ⟨rfl, hb2⟩; have Hb2 := Lib.hid hb2; clear hb2) | (go_at_call 86; refine (readPart_none _ HP.out _ ((Hr.out.on Hb1.out).on Hb2.out)).mono ?_; rintro e w3 ⟨rfl, hb3⟩; unfold tag; have Hb3 := Lib.hid hb3; clear hb3))
  go_ret2
  exact ⟨rfl, below_next (below_next Hb1.out Hb2.out) Hb3.out⟩
theorem read_some (s : List UInt8) (hs : s.length ≤ 4294967280) (a : Int) (h : readF s = some a) (w : World) (hr : Rd2 w) :
    Calls Tryz.prog 73 #[.string ⟨s.toArray⟩] w fun e w' => e = tag a true ∧ Below w.heap.size w w' := by
  unfold readF at h
  obtain ⟨n, h1, rfl⟩ := Option.map_eq_some_iff.1 h
  unfold sizeF at h1
  obtain ⟨u, h2, h3⟩ := Option.bind_eq_some_iff.1 h1
  obtain ⟨p, h4, rfl⟩ := Option.map_eq_some_iff.1 h3
  exact read_ok s hs _ _ _ _ _ u p rfl rfl rfl rfl rfl h2 h4 w hr
theorem read_none (s : List UInt8) (hs : s.length ≤ 4294967280) (h : readF s = none) (w : World) (hr : Rd2 w) :
    Calls Tryz.prog 73 #[.string ⟨s.toArray⟩] w fun e w' => e = tag 0 false ∧ Below w.heap.size w w' := by
  unfold readF at h
  have h1 := Option.map_eq_none_iff.1 h
  unfold sizeF at h1
  cases h2 : okOf (Lib.parseUintB 24 (Lib.cut (Lib.trimPrefix s [45]) [46]).1) with
  | none => exact read_bad1 s hs _ _ _ _ _ rfl rfl rfl rfl rfl h2 w hr
  | some u =>
    rw [h2, Option.bind_some] at h1
    exact read_bad2 s hs _ _ _ _ _ u rfl rfl rfl rfl rfl h2 (Option.map_eq_none_iff.1 h1) w hr

/-! Parse -/
set_option maxHeartbeats 2000000 in
theorem parse_none (s : List UInt8) (hs : s.length ≤ 4294967280) (h : readF s = none) (w : World) (hr : Rd2 w) :
    Calls Tryz.prog 63 #[.string ⟨s.toArray⟩] w fun e w' => e = twoE 0 20 ∧ Below w.heap.size w w' := by
  have H := Lib.hid h; have HS := Lib.hid hs; have Hr := Lib.hid hr; clear h hs hr
  go_enter Tryz.func63, Tryz.ntmps63
  go_wp2_with (go_at_call 73; refine (read_none _ HS.out H.out _ Hr.out).mono ?_; rintro e w' ⟨rfl, hb⟩; unfold tag; have Hb := Lib.hid hb; clear hb)
  go_ret2
  exact ⟨rfl, Hb.out⟩
set_option maxHeartbeats 2000000 in
/-- Read, but another text than its own (or none): refused. -/
theorem parse_other (s : List UInt8) (hs : s.length ≤ 4294967280) (a : Int) (h : readF s = some a) (t : List UInt8) (hne : t ≠ s) (w : World) (hr : Rd2 w)
    (ht : ∀ w, Rd2 w → Calls Tryz.prog 23 #[.int .i64 a] w fun e w' => e = .returned (.string ⟨t.toArray⟩) ∧ Below w.heap.size w w') :
    Calls Tryz.prog 63 #[.string ⟨s.toArray⟩] w fun e w' => e = twoE 0 20 ∧ Below w.heap.size w w' := by
  have hb : (t == s) = false := by simp [hne]
  have H := Lib.hid h; have HS := Lib.hid hs; have Hr := Lib.hid hr; have HT := Lib.hid ht; clear h hs hr ht
  go_enter Tryz.func63, Tryz.ntmps63
  go_wp2_with (first | (go_at_call 73; refine (read_some _ HS.out a H.out _ Hr.out).mono ?_; rintro e w1 ⟨rfl, hb1⟩; unfold tag; have Hb1 := Lib.hid hb1; clear hb1) | (go_at_call 23; refine (HT.out _ (Hr.out.on Hb1.out)).mono ?_; rintro e w2 ⟨rfl, hb2⟩; have Hb2 := Lib.hid hb2; clear hb2))
  go_ret2
  exact ⟨rfl, below_next Hb1.out Hb2.out⟩
set_option maxHeartbeats 2000000 in
theorem parse_same (s : List UInt8) (hs : s.length ≤ 4294967280) (a : Int) (h : readF s = some a) (w : World) (hr : Rd2 w)
    (ht : ∀ w, Rd2 w → Calls Tryz.prog 23 #[.int .i64 a] w fun e w' => e = .returned (.string ⟨s.toArray⟩) ∧ Below w.heap.size w w') :
    Calls Tryz.prog 63 #[.string ⟨s.toArray⟩] w fun e w' => e = twoE a 0 ∧ Below w.heap.size w w' := by
  have H := Lib.hid h; have HS := Lib.hid hs; have Hr := Lib.hid hr; have HT := Lib.hid ht; clear h hs hr ht
  go_enter Tryz.func63, Tryz.ntmps63
  go_wp2_with (first | (go_at_call 73; refine (read_some _ HS.out a H.out _ Hr.out).mono ?_; rintro e w1 ⟨rfl, hb1⟩; unfold tag; have Hb1 := Lib.hid hb1; clear hb1) | (go_at_call 23; refine (HT.out _ (Hr.out.on Hb1.out)).mono ?_; rintro e w2 ⟨rfl, hb2⟩; have Hb2 := Lib.hid hb2; clear hb2))
  go_ret2
  exact ⟨rfl, below_next Hb1.out Hb2.out⟩
end Go.Proofs.YtbnbglngpgikfaaGreatDoor

