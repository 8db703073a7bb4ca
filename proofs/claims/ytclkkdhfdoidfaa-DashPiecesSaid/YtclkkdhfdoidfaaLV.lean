/- Layer 9: the law DashPieces, ways of two points or more. -/
import Derived.Test.YtclkkdhfdoidfaaLU
namespace Go.Proofs.Ytclkkdhfdoidfaa
open Go.RowKit
theorem right_parts9 {L : List Int} {p : Int} (h0 : L ≠ []) (h : rightI L p = true) : L.length ≤ 8 ∧ L.length % 2 = 0 ∧ L.all okL = true ∧ 0 ≤ p ∧ p < sumI L := by
  unfold rightI at h
  rw [if_neg h0] at h
  simp only [Bool.and_eq_true, decide_eq_true_eq] at h
  exact ⟨h.1.1.1.1, h.1.1.1.2, h.1.1.2, h.1.2, h.2⟩
theorem polys_at {w : World} {tR tP : TypeId} {v : Value} {SS : List (Value × List Pt)} (h : Polys w 0 tR tP v SS) {k : Nat} {x : Value × List Pt} (hk : SS[k]? = some x) : ∃ g c, v = .slice (some ⟨g, 0, none⟩) SS.length c ∧ g < w.heap.size ∧ w.cell? ⟨g, k, none⟩ = some x.1 ∧ Own w 0 tP x.1 x.2 := by
  have hr := h.row
  obtain ⟨h1, ⟨_, h0⟩ | ⟨g, cap, cur, rfl, _, hg, _⟩⟩ := h.row
  · have := (List.getElem?_eq_some_iff.1 hk).1; omega
  · have hc := hr.cells (g := g) rfl k x.1 (by rw [List.getElem?_map, hk]; rfl)
    rw [Addr.add_lit, Nat.zero_add] at hc
    exact ⟨g, cap, rfl, (Array.getElem?_eq_some_iff.1 hg).1, hc, h.own x (List.mem_of_getElem? hk)⟩
theorem polys_shape9 {w : World} {b : Nat} {tR tP : TypeId} {v : Value} {SS : List (Value × List Pt)} (h : Polys w b tR tP v SS) : ∃ a c, v = .slice a SS.length c := by
  obtain ⟨_, ⟨rfl, h0⟩ | ⟨g, cap, cur, rfl, _⟩⟩ := h.row
  · exact ⟨none, 0, by rw [h0]⟩
  · exact ⟨_, _, rfl⟩
theorem pieces_len9 {S : Nat → Int} {W : List Pt} : ∀ x ∈ piecesI S W, x.length ≤ W.length + 2 := by
  intro x hx
  unfold piecesI at hx
  split at hx
  · unfold doneI at hx
    obtain ⟨k, _, rfl⟩ := List.mem_map.1 hx
    rw [whole_part, List.length_append]
    have := part_len S W k (W.length - 1)
    split <;> simp <;> omega
  · cases hx
set_option maxHeartbeats 8000000 in
set_option maxRecDepth 100000 in
theorem dashPieces_many (sv : Value) (l : List Pt) (cl : Bool) (Lv : Value) (L : List Int) (phase : Int) (w : World) (row : Row w sv l) (rowL : RowI w Lv L) (h20 : l.length ≤ 20) (h8 : L.length ≤ 20) (hr : rightI L phase = true) (hro : l.all roomP = true) (hlo : longB (wayI l cl) = false) (hL0 : L ≠ []) (hw2 : 2 ≤ (wayI l cl).length) (hmy : 4096 < (piecesI (patS L phase) (wayI l cl)).length) :
    Calls Try.prog 6 #[.agg #[sv, .bool cl], .agg #[Lv, .int .i64 phase]] w fun e w' => e = .returned (.bool true) ∧ Below w.heap.size w w' := by
  have hWn : wayI l cl ≠ [] := fun e => by rw [e] at hw2; simp at hw2
  have HDO : Hid (dashO l cl L phase = (36, [])) := by
    unfold Hid dashO wayO toldW
    rw [if_pos hr, hro, hlo]
    unfold dashW piecesO
    rw [if_neg hWn, if_neg hL0, if_pos hmy]
    simp
  have hnp : 0 < l.length := List.length_pos_iff.2 (fun e => hWn (wayI_nil_iff.2 e))
  have hlp : 0 < L.length := List.length_pos_iff.2 hL0
  obtain ⟨r1, r2, r3, r4, r5⟩ := right_parts9 hL0 hr
  have hsum := sumI_bound r3 L.length
  rw [List.take_length] at hsum
  have HDW : Hid (∀ A g cap, Below w.heap.size w A → Own A 0 39 (.slice (some ⟨g, 0, none⟩) (wayI l cl).length cap) (wayI l cl) → Calls Try.prog 27 #[.slice (some ⟨g, 0, none⟩) (wayI l cl).length cap, Lv, .int .i64 phase, .int .i64 4096] A (RefDP A (piecesI (patS L phase) (wayI l cl)))) := fun A g cap hA ho => by
    obtain ⟨bo, d, rfl⟩ := rowL.shape
    obtain ⟨x0, hx0⟩ : ∃ x, L[0]? = some x := ⟨_, List.getElem?_eq_getElem hlp⟩
    obtain ⟨b, o, rfl, hbl, _⟩ := rowL.addr hx0
    have hIL : IntsL w b o L := fun k x hk => by
      obtain ⟨b', o', e, _, hc⟩ := rowL.addr hk
      cases e; exact hc
    have hmem : ∀ p ∈ wayI l cl, roomP p = true := fun p hp => List.all_eq_true.1 hro p (wayI_mem hp)
    have hpts : PtsAt A g 0 (wayI l cl) := fun i p hp => by have h := ho.pts rfl hp; rw [Nat.zero_add]; exact h
    have hil : IntsL A b o L := hIL.keep (S := fun j => j < w.heap.size) ⟨hA.os, hA.tape, hA.output, hA.size, fun k hk _ => hA.block k hk⟩ hbl hbl
    refine refDash_c (patS L phase) (wayI l cl) L phase A g (wayI l cl).length cap b o L.length d rfl (fun k => rfl) rfl hw2 (by have := wayI_len l cl; omega) (way_ok hlo) hmem (fun i hi => ?_) hpts (own_cap ho).2.2.1 rfl hlp r1 r3 r4 (by omega) hil (Nat.lt_of_lt_of_le hbl hA.size)
    cases h : lenB (subP (at0 (wayI l cl) (i + 1)) (at0 (wayI l cl) i)) with
    | true => rfl
    | false => exact absurd (longN_at (n := (wayI l cl).length - 1) (k := i) (by omega) h) (by unfold longB at hlo; rw [hlo]; decide)
  have hPL := @pieces_len9 (patS L phase) (wayI l cl)
  generalize piecesI (patS L phase) (wayI l cl) = PI at *
  have HPL : Hid (∀ x ∈ PI, x.length ≤ 100) := fun x hx => by have := hPL x hx; have := wayI_len l cl; omega
  have HMY := Lib.hid hmy
  have HNP := Lib.hid hnp
  have HLP := Lib.hid hlp
  have HWN := Lib.hid hWn
  obtain ⟨m, hm⟩ : ∃ m, (wayI l cl).length = m := ⟨_, rfl⟩
  have HM := Lib.hid hm
  have HM2 : Hid (2 ≤ m) := by unfold Hid; omega
  clear hL0 hWn hnp hlp hw2 r1 r2 r3 r4 r5 hsum hPL hmy hm
  have HAW := Lib.hid awake_c
  have M0 := Lib.hid (DashM.start w sv Lv cl phase)
  obtain ⟨w0, hw0⟩ : ∃ X, (w.alloc (.cells #[sv, .bool cl] 46)).alloc (.cells #[Lv, .int .i64 phase] 24) = X := ⟨_, rfl⟩
  have HW0 := Lib.hid hw0
  rw [hw0] at M0
  have HRF : Hid (l.length ≤ 20 → ∀ A, Below w.heap.size w A → Calls Try.prog 20 #[sv] A fun e w' => ∃ u, e = .returned u ∧ Own w' A.heap.size 39 u l ∧ Below A.heap.size A w') := fun h A hA => refs_c A sv l (by omega) (row.on hA)
  have HDA : Hid (l.length ≤ 20 → L.length ≤ 20 → ∀ A, Below w.heap.size w A → Calls Try.prog 25 #[.agg #[sv, .bool cl], .agg #[Lv, .int .i64 phase]] A (ToldS A (dashO l cl L phase))) := fun h1 h2 A hA => dash_c sv Lv l cl L phase A (row.on hA) (by omega) (rowL.on hA) (by omega)
  have HSM : Hid (l.length ≤ 20 → ∀ A u, Below w.heap.size w A → Row A u l → Calls Try.prog 24 #[sv, u] A fun e w' => e = .returned (.bool true) ∧ Below A.heap.size A w') := fun h A u hA hu => same_c sv u l A (by omega) (row.on hA) hu
  have HRI : Hid (∀ A, Below w.heap.size w A → Calls Try.prog 10 #[Lv, .int .i64 phase] A fun e w' => e = .returned (.bool (rightI L phase)) ∧ Below A.heap.size A w') := fun A hA => refRight_c Lv L phase A (rowL.on hA)
  obtain ⟨ao, c, rfl⟩ := row.shape
  obtain ⟨bo, d, rfl⟩ := rowL.shape
  obtain ⟨n, hn⟩ : ∃ n, l.length = n := ⟨_, rfl⟩
  obtain ⟨nl, hnl⟩ : ∃ nl, L.length = nl := ⟨_, rfl⟩
  have HN := Lib.hid hn
  have HNL := Lib.hid hnl
  rw [HDO.out] at HDA
  have HWO : Hid (refWayO (wayI l cl) = (wayI l cl, true)) := by unfold Hid refWayO; rw [hlo]; rfl
  clear hlo HDO
  rw [hn, hnl] at M0 HW0 HDA ⊢
  rw [hn] at HRF HSM h20
  rw [hnl] at HRI HDW h8
  rw [hr] at HRI
  have HRM := Lib.hid hro
  have H20 := Lib.hid h20
  have H8 := Lib.hid h8
  have hd : decide ((n : Int) > 20) = false := by simp; omega
  have hd8 : decide ((nl : Int) > 20) = false := by simp; omega
  clear row rowL hw0 hn hnl h20 h8 hr hro
  have s0 := M0.out.sub.cell 0
  have s1 := M0.out.sub.cell 1
  have p0 := M0.out.pat.cell 0
  have p1 := M0.out.pat.cell 1
  simp only [List.getElem?_toArray, List.getElem?_cons_zero, List.getElem?_cons_succ] at s0 s1 p0 p1
  go_enter Try.func6, Try.ntmps6
  go_wp2_with fail
  rw [HW0.out]
  refine (HRF.out H20.out _ M0.out.below).mono ?_
  rintro e w1 ⟨u, rfl, ho1, hb⟩
  have M1 := Lib.hid (M0.out.grow hb)
  have O1 : Hid (Own w1 0 39 u l) := ho1.base (Nat.zero_le _)
  clear hb ho1 s0 s1 p0 p1
  obtain ⟨ua, uc, rfl⟩ := own_nil_len O1.out
  rw [HN.out] at O1 ⊢
  have s0 := M1.out.sub.cell 0
  have s1 := M1.out.sub.cell 1
  have p0 := M1.out.pat.cell 0
  have p1 := M1.out.pat.cell 1
  simp only [List.getElem?_toArray, List.getElem?_cons_zero, List.getElem?_cons_succ] at s0 s1 p0 p1
  go_wp2_with fail
  refine (HDA.out H20.out H8.out _ M1.out.below).mono ?_
  rintro e w2 ⟨v, S, rfl, hs, hm, hb⟩
  have M2 := Lib.hid (M1.out.grow hb)
  have O2 := Lib.hid (O1.out.grow hb)
  have V2 := Lib.hid hs
  have HMP := Lib.hid hm
  clear hb hs hm s0 s1 p0 p1 O1
  have s0 := M2.out.sub.cell 0
  have s1 := M2.out.sub.cell 1
  have p0 := M2.out.pat.cell 0
  have p1 := M2.out.pat.cell 1
  simp only [List.getElem?_toArray, List.getElem?_cons_zero, List.getElem?_cons_succ] at s0 s1 p0 p1
  have HS1 := Lib.hid (HSM.out H20.out w2 _ M2.out.below O2.out.row)
  go_wp2_with fail
  refine HS1.out.mono ?_
  rintro e w3 ⟨rfl, hb⟩
  have M3 := Lib.hid (M2.out.grow hb)
  have O3 := Lib.hid (O2.out.grow hb)
  have V3 := Lib.hid (V2.out.grow hb)
  clear hb s0 s1 p0 p1 O2 V2 HS1
  have s0 := M3.out.sub.cell 0
  have s1 := M3.out.sub.cell 1
  have p0 := M3.out.pat.cell 0
  have p1 := M3.out.pat.cell 1
  simp only [List.getElem?_toArray, List.getElem?_cons_zero, List.getElem?_cons_succ] at s0 s1 p0 p1
  go_wp2_with fail
  refine (HRI.out _ M3.out.below).mono ?_
  rintro e w4 ⟨rfl, hb⟩
  have M4 := Lib.hid (M3.out.grow hb)
  have O4 := Lib.hid (O3.out.grow hb)
  have V4 := Lib.hid (V3.out.grow hb)
  clear hb s0 s1 p0 p1 O3 V3
  have HIN := Lib.hid (refIn7_c _ l w4 (by have := HN.out; have := H20.out; omega) O4.out.row)
  rw [HRM.out] at HIN
  go_wp2_with fail
  refine HIN.out.mono ?_
  rintro e w5 ⟨rfl, hb⟩
  have M5 := Lib.hid (M4.out.grow hb)
  have O5 := Lib.hid (O4.out.grow hb)
  have V5 := Lib.hid (V4.out.grow hb)
  clear hb HIN O4 V4
  have HRW := Lib.hid (refWay_c _ l cl w5 O5.out.row (by have := HN.out; have := H20.out; omega) HRM.out)
  have s0 := M5.out.sub.cell 0
  have s1 := M5.out.sub.cell 1
  have p0 := M5.out.pat.cell 0
  have p1 := M5.out.pat.cell 1
  simp only [List.getElem?_toArray, List.getElem?_cons_zero, List.getElem?_cons_succ] at s0 s1 p0 p1
  go_wp2_with fail
  rw [HWO.out] at HRW
  obtain ⟨sa, sc, rfl⟩ := subs_none V5.out HMP.out
  have hn0 : 0 < n := by have := HN.out; have := HNP.out; omega
  have hl0 : 0 < nl := by have := HNL.out; have := HLP.out; omega
  refine HRW.out.mono ?_
  rintro e w6 ⟨x, rfl, ho, hb⟩
  have M6 := Lib.hid (M5.out.grow hb)
  have O6 : Hid (Own w6 0 39 x (wayI l cl)) := ho.base (Nat.zero_le _)
  have V6 := Lib.hid (V5.out.grow hb)
  clear hb ho HRW s0 s1 p0 p1 V5
  obtain ⟨xg, xc, rfl⟩ : ∃ g cap, x = .slice (some ⟨g, 0, none⟩) (wayI l cl).length cap := by
    rcases own_some O6.out with ⟨_, e⟩ | h
    · exact absurd e HWN.out
    · exact h
  have HDX := Lib.hid (HDW.out w6 xg xc M6.out.below O6.out)
  rw [HM.out] at O6 HDX ⊢
  have en : ((n : Int) == 0) = false := by simp; omega
  have en2 : ((nl : Int) == 0) = false := by simp; omega
  have en3 : ((m : Int) == 1) = false := by have := HM2.out; simp; omega
  clear hn0 hl0 HDW
  have s0 := M6.out.sub.cell 0
  have s1 := M6.out.sub.cell 1
  have p0 := M6.out.pat.cell 0
  have p1 := M6.out.pat.cell 1
  simp only [List.getElem?_toArray, List.getElem?_cons_zero, List.getElem?_cons_succ] at s0 s1 p0 p1
  go_wp2_with fail
  refine HDX.out.mono ?_
  rintro e w7 ⟨z, SS, rfl, hps, hms, hb⟩
  have M7 := Lib.hid (M6.out.grow hb)
  have V7 := Lib.hid (V6.out.grow hb)
  have P7 := Lib.hid hps
  have HMS := Lib.hid hms
  clear hb hps hms s0 s1 p0 p1 O6 V6 HDX
  obtain ⟨ta, tc, rfl⟩ := polys_shape9 P7.out
  have hdm : decide (PI.length ≤ 4096) = false := by have := HMY.out; simp; omega
  rw [hdm]
  clear hdm
  go_wp2_with fail
  refine (HAW.out _).mono ?_
  rintro e wz ⟨rfl, hb⟩
  have BZ : Hid (Below w.heap.size w wz) := M7.out.below.trans (hb.mono M7.out.below.size)
  clear hb
  go_wp2_with fail
  go_ret
  exact ⟨rfl, BZ.out⟩
set_option maxHeartbeats 8000000 in
set_option maxRecDepth 100000 in
theorem dashPieces_more (sv : Value) (l : List Pt) (cl : Bool) (Lv : Value) (L : List Int) (phase : Int) (w : World) (row : Row w sv l) (rowL : RowI w Lv L) (h20 : l.length ≤ 20) (h8 : L.length ≤ 20) (hr : rightI L phase = true) (hro : l.all roomP = true) (hlo : longB (wayI l cl) = false) (hL0 : L ≠ []) (hw2 : 2 ≤ (wayI l cl).length) (hmy : ¬ 4096 < (piecesI (patS L phase) (wayI l cl)).length) :
    Calls Try.prog 6 #[.agg #[sv, .bool cl], .agg #[Lv, .int .i64 phase]] w fun e w' => e = .returned (.bool true) ∧ Below w.heap.size w w' := by
  have hWn : wayI l cl ≠ [] := fun e => by rw [e] at hw2; simp at hw2
  have HDO : Hid (dashO l cl L phase = (0, (piecesI (patS L phase) (wayI l cl)).map fun l => (l, false))) := by
    unfold Hid dashO wayO toldW
    rw [if_pos hr, hro, hlo]
    unfold dashW piecesO
    rw [if_neg hWn, if_neg hL0, if_neg hmy]
    simp
  have hnp : 0 < l.length := List.length_pos_iff.2 (fun e => hWn (wayI_nil_iff.2 e))
  have hlp : 0 < L.length := List.length_pos_iff.2 hL0
  obtain ⟨r1, r2, r3, r4, r5⟩ := right_parts9 hL0 hr
  have hsum := sumI_bound r3 L.length
  rw [List.take_length] at hsum
  have HDW : Hid (∀ A g cap, Below w.heap.size w A → Own A 0 39 (.slice (some ⟨g, 0, none⟩) (wayI l cl).length cap) (wayI l cl) → Calls Try.prog 27 #[.slice (some ⟨g, 0, none⟩) (wayI l cl).length cap, Lv, .int .i64 phase, .int .i64 4096] A (RefDP A (piecesI (patS L phase) (wayI l cl)))) := fun A g cap hA ho => by
    obtain ⟨bo, d, rfl⟩ := rowL.shape
    obtain ⟨x0, hx0⟩ : ∃ x, L[0]? = some x := ⟨_, List.getElem?_eq_getElem hlp⟩
    obtain ⟨b, o, rfl, hbl, _⟩ := rowL.addr hx0
    have hIL : IntsL w b o L := fun k x hk => by
      obtain ⟨b', o', e, _, hc⟩ := rowL.addr hk
      cases e; exact hc
    have hmem : ∀ p ∈ wayI l cl, roomP p = true := fun p hp => List.all_eq_true.1 hro p (wayI_mem hp)
    have hpts : PtsAt A g 0 (wayI l cl) := fun i p hp => by have h := ho.pts rfl hp; rw [Nat.zero_add]; exact h
    have hil : IntsL A b o L := hIL.keep (S := fun j => j < w.heap.size) ⟨hA.os, hA.tape, hA.output, hA.size, fun k hk _ => hA.block k hk⟩ hbl hbl
    refine refDash_c (patS L phase) (wayI l cl) L phase A g (wayI l cl).length cap b o L.length d rfl (fun k => rfl) rfl hw2 (by have := wayI_len l cl; omega) (way_ok hlo) hmem (fun i hi => ?_) hpts (own_cap ho).2.2.1 rfl hlp r1 r3 r4 (by omega) hil (Nat.lt_of_lt_of_le hbl hA.size)
    cases h : lenB (subP (at0 (wayI l cl) (i + 1)) (at0 (wayI l cl) i)) with
    | true => rfl
    | false => exact absurd (longN_at (n := (wayI l cl).length - 1) (k := i) (by omega) h) (by unfold longB at hlo; rw [hlo]; decide)
  have hPL := @pieces_len9 (patS L phase) (wayI l cl)
  generalize piecesI (patS L phase) (wayI l cl) = PI at *
  have HPL : Hid (∀ x ∈ PI, x.length ≤ 100) := fun x hx => by have := hPL x hx; have := wayI_len l cl; omega
  have HMY := Lib.hid hmy
  have HNP := Lib.hid hnp
  have HLP := Lib.hid hlp
  have HWN := Lib.hid hWn
  obtain ⟨m, hm⟩ : ∃ m, (wayI l cl).length = m := ⟨_, rfl⟩
  have HM := Lib.hid hm
  have HM2 : Hid (2 ≤ m) := by unfold Hid; omega
  clear hL0 hWn hnp hlp hw2 r1 r2 r3 r4 r5 hsum hPL hmy hm
  have HAW := Lib.hid awake_c
  have M0 := Lib.hid (DashM.start w sv Lv cl phase)
  obtain ⟨w0, hw0⟩ : ∃ X, (w.alloc (.cells #[sv, .bool cl] 46)).alloc (.cells #[Lv, .int .i64 phase] 24) = X := ⟨_, rfl⟩
  have HW0 := Lib.hid hw0
  rw [hw0] at M0
  have HRF : Hid (l.length ≤ 20 → ∀ A, Below w.heap.size w A → Calls Try.prog 20 #[sv] A fun e w' => ∃ u, e = .returned u ∧ Own w' A.heap.size 39 u l ∧ Below A.heap.size A w') := fun h A hA => refs_c A sv l (by omega) (row.on hA)
  have HDA : Hid (l.length ≤ 20 → L.length ≤ 20 → ∀ A, Below w.heap.size w A → Calls Try.prog 25 #[.agg #[sv, .bool cl], .agg #[Lv, .int .i64 phase]] A (ToldS A (dashO l cl L phase))) := fun h1 h2 A hA => dash_c sv Lv l cl L phase A (row.on hA) (by omega) (rowL.on hA) (by omega)
  have HSM : Hid (l.length ≤ 20 → ∀ A u, Below w.heap.size w A → Row A u l → Calls Try.prog 24 #[sv, u] A fun e w' => e = .returned (.bool true) ∧ Below A.heap.size A w') := fun h A u hA hu => same_c sv u l A (by omega) (row.on hA) hu
  have HRI : Hid (∀ A, Below w.heap.size w A → Calls Try.prog 10 #[Lv, .int .i64 phase] A fun e w' => e = .returned (.bool (rightI L phase)) ∧ Below A.heap.size A w') := fun A hA => refRight_c Lv L phase A (rowL.on hA)
  obtain ⟨ao, c, rfl⟩ := row.shape
  obtain ⟨bo, d, rfl⟩ := rowL.shape
  obtain ⟨n, hn⟩ : ∃ n, l.length = n := ⟨_, rfl⟩
  obtain ⟨nl, hnl⟩ : ∃ nl, L.length = nl := ⟨_, rfl⟩
  have HN := Lib.hid hn
  have HNL := Lib.hid hnl
  rw [HDO.out] at HDA
  have HWO : Hid (refWayO (wayI l cl) = (wayI l cl, true)) := by unfold Hid refWayO; rw [hlo]; rfl
  clear hlo HDO
  rw [hn, hnl] at M0 HW0 HDA ⊢
  rw [hn] at HRF HSM h20
  rw [hnl] at HRI HDW h8
  rw [hr] at HRI
  have HRM := Lib.hid hro
  have H20 := Lib.hid h20
  have H8 := Lib.hid h8
  have hd : decide ((n : Int) > 20) = false := by simp; omega
  have hd8 : decide ((nl : Int) > 20) = false := by simp; omega
  clear row rowL hw0 hn hnl h20 h8 hr hro
  have s0 := M0.out.sub.cell 0
  have s1 := M0.out.sub.cell 1
  have p0 := M0.out.pat.cell 0
  have p1 := M0.out.pat.cell 1
  simp only [List.getElem?_toArray, List.getElem?_cons_zero, List.getElem?_cons_succ] at s0 s1 p0 p1
  go_enter Try.func6, Try.ntmps6
  go_wp2_with fail
  rw [HW0.out]
  refine (HRF.out H20.out _ M0.out.below).mono ?_
  rintro e w1 ⟨u, rfl, ho1, hb⟩
  have M1 := Lib.hid (M0.out.grow hb)
  have O1 : Hid (Own w1 0 39 u l) := ho1.base (Nat.zero_le _)
  clear hb ho1 s0 s1 p0 p1
  obtain ⟨ua, uc, rfl⟩ := own_nil_len O1.out
  rw [HN.out] at O1 ⊢
  have s0 := M1.out.sub.cell 0
  have s1 := M1.out.sub.cell 1
  have p0 := M1.out.pat.cell 0
  have p1 := M1.out.pat.cell 1
  simp only [List.getElem?_toArray, List.getElem?_cons_zero, List.getElem?_cons_succ] at s0 s1 p0 p1
  go_wp2_with fail
  refine (HDA.out H20.out H8.out _ M1.out.below).mono ?_
  rintro e w2 ⟨v, S, rfl, hs, hm, hb⟩
  have M2 := Lib.hid (M1.out.grow hb)
  have O2 := Lib.hid (O1.out.grow hb)
  have V2 := Lib.hid hs
  have HMP := Lib.hid hm
  clear hb hs hm s0 s1 p0 p1 O1
  have s0 := M2.out.sub.cell 0
  have s1 := M2.out.sub.cell 1
  have p0 := M2.out.pat.cell 0
  have p1 := M2.out.pat.cell 1
  simp only [List.getElem?_toArray, List.getElem?_cons_zero, List.getElem?_cons_succ] at s0 s1 p0 p1
  have HS1 := Lib.hid (HSM.out H20.out w2 _ M2.out.below O2.out.row)
  go_wp2_with fail
  refine HS1.out.mono ?_
  rintro e w3 ⟨rfl, hb⟩
  have M3 := Lib.hid (M2.out.grow hb)
  have O3 := Lib.hid (O2.out.grow hb)
  have V3 := Lib.hid (V2.out.grow hb)
  clear hb s0 s1 p0 p1 O2 V2 HS1
  have s0 := M3.out.sub.cell 0
  have s1 := M3.out.sub.cell 1
  have p0 := M3.out.pat.cell 0
  have p1 := M3.out.pat.cell 1
  simp only [List.getElem?_toArray, List.getElem?_cons_zero, List.getElem?_cons_succ] at s0 s1 p0 p1
  go_wp2_with fail
  refine (HRI.out _ M3.out.below).mono ?_
  rintro e w4 ⟨rfl, hb⟩
  have M4 := Lib.hid (M3.out.grow hb)
  have O4 := Lib.hid (O3.out.grow hb)
  have V4 := Lib.hid (V3.out.grow hb)
  clear hb s0 s1 p0 p1 O3 V3
  have HIN := Lib.hid (refIn7_c _ l w4 (by have := HN.out; have := H20.out; omega) O4.out.row)
  rw [HRM.out] at HIN
  go_wp2_with fail
  refine HIN.out.mono ?_
  rintro e w5 ⟨rfl, hb⟩
  have M5 := Lib.hid (M4.out.grow hb)
  have O5 := Lib.hid (O4.out.grow hb)
  have V5 := Lib.hid (V4.out.grow hb)
  clear hb HIN O4 V4
  have HRW := Lib.hid (refWay_c _ l cl w5 O5.out.row (by have := HN.out; have := H20.out; omega) HRM.out)
  have s0 := M5.out.sub.cell 0
  have s1 := M5.out.sub.cell 1
  have p0 := M5.out.pat.cell 0
  have p1 := M5.out.pat.cell 1
  simp only [List.getElem?_toArray, List.getElem?_cons_zero, List.getElem?_cons_succ] at s0 s1 p0 p1
  go_wp2_with fail
  rw [HWO.out] at HRW
  obtain ⟨sa, sc, rfl⟩ := subs_shape V5.out.row
  obtain ⟨sm, hsm⟩ : ∃ sm, S.length = sm := ⟨_, rfl⟩
  have HSM2 := Lib.hid hsm
  rw [hsm]
  clear hsm
  have hn0 : 0 < n := by have := HN.out; have := HNP.out; omega
  have hl0 : 0 < nl := by have := HNL.out; have := HLP.out; omega
  refine HRW.out.mono ?_
  rintro e w6 ⟨x, rfl, ho, hb⟩
  have M6 := Lib.hid (M5.out.grow hb)
  have O6 : Hid (Own w6 0 39 x (wayI l cl)) := ho.base (Nat.zero_le _)
  have V6 := Lib.hid (V5.out.grow hb)
  clear hb ho HRW s0 s1 p0 p1 V5
  obtain ⟨xg, xc, rfl⟩ : ∃ g cap, x = .slice (some ⟨g, 0, none⟩) (wayI l cl).length cap := by
    rcases own_some O6.out with ⟨_, e⟩ | h
    · exact absurd e HWN.out
    · exact h
  have HDX := Lib.hid (HDW.out w6 xg xc M6.out.below O6.out)
  rw [HM.out] at O6 HDX ⊢
  have en : ((n : Int) == 0) = false := by simp; omega
  have en2 : ((nl : Int) == 0) = false := by simp; omega
  have en3 : ((m : Int) == 1) = false := by have := HM2.out; simp; omega
  clear hn0 hl0 HDW
  have s0 := M6.out.sub.cell 0
  have s1 := M6.out.sub.cell 1
  have p0 := M6.out.pat.cell 0
  have p1 := M6.out.pat.cell 1
  simp only [List.getElem?_toArray, List.getElem?_cons_zero, List.getElem?_cons_succ] at s0 s1 p0 p1
  go_wp2_with fail
  refine HDX.out.mono ?_
  rintro e w7 ⟨z, SS, rfl, hps, hms, hb⟩
  have M7 := Lib.hid (M6.out.grow hb)
  have V7 := Lib.hid (V6.out.grow hb)
  have P7 := Lib.hid hps
  have HMS := Lib.hid hms
  clear hb hps hms s0 s1 p0 p1 O6 V6 HDX
  obtain ⟨ta, tc, rfl⟩ := polys_shape9 P7.out
  have hle : PI.length ≤ 4096 := by have := HMY.out; omega
  have hdm : decide (PI.length ≤ 4096) = true := decide_eq_true hle
  have HMT : Hid (SS.map Prod.snd = PI) := by have h := HMS.out; rw [if_pos hle] at h; exact h
  have hss : SS.length = sm := by
    have h1 := congrArg List.length HMP.out
    have h2 := congrArg List.length HMT.out
    have := HSM2.out
    simp only [List.length_map] at h1 h2
    omega
  have hsb : sm ≤ 4096 := by
    have h2 := congrArg List.length HMT.out
    simp only [List.length_map] at h2
    omega
  have HSS := Lib.hid hss
  rw [hdm, hss]
  clear hdm hss hle HMS
  have hsn : ((sm : Int) != (sm : Int)) = false := by simp
  simp only []
  go_wp2_with fail
  go_loopw [192] (fun s192 wr => ∃ k : Nat, k ≤ sm ∧ s192 = .int .i64 (k : Int) ∧ Hid (Below w7.heap.size w7 wr)) (fun s192 _ => sm - (intOf s192).toNat)
  case atStart => exact ⟨0, by omega, rfl, Below.refl _ _⟩
  case round =>
    obtain ⟨k, hk, rfl, hw⟩ := hrel
    by_cases hlt : k < sm
    · have hd : decide ((k : Int) < (sm : Int)) = true := by simp; omega
      obtain ⟨y, hy⟩ : ∃ y, S[k]? = some y := ⟨_, List.getElem?_eq_getElem (by rw [HSM2.out]; exact hlt)⟩
      obtain ⟨t, ht⟩ : ∃ t, SS[k]? = some t := ⟨_, List.getElem?_eq_getElem (by rw [HSS.out]; exact hlt)⟩
      have hyz : y.plain = (t.2, false) ∧ t.2 ∈ PI := by
        have h1 := congrArg (fun z => z[k]?) HMP.out
        have h2 := congrArg (fun z => z[k]?) HMT.out
        simp only [List.getElem?_map, hy, ht, Option.map_some] at h1 h2
        rw [← h2] at h1
        exact ⟨by simpa using h1, List.mem_of_getElem? h2.symm⟩
      have hyL : y.L = t.2 := congrArg Prod.fst hyz.1
      have hyc : y.c = false := congrArg Prod.snd hyz.1
      have hlen := HPL.out _ hyz.2
      obtain ⟨q, qc, ev, hq, c0, c1⟩ := V7.out.at hy
      obtain ⟨r, rc, ev2, hr2, d0, ho⟩ := polys_at P7.out ht
      rw [HSM2.out] at ev
      rw [HSS.out] at ev2
      simp only [Value.slice.injEq] at ev ev2
      obtain ⟨rfl, _, rfl⟩ := ev
      obtain ⟨rfl, _, rfl⟩ := ev2
      have hrow := V7.out.pts (List.mem_of_getElem? hy)
      rw [hyL] at hrow
      rw [hyc] at c1
      generalize y.v = yv at *
      obtain ⟨zv, zl⟩ := t
      simp only at hrow ho d0 hlen
      have HF : Hid (∀ A, Below wr.heap.size wr A → A.cell? ⟨q, k * 2, none⟩ = some yv ∧ A.cell? ⟨q, k * 2 + 1, none⟩ = some (.bool false) ∧ A.cell? ⟨r, k, none⟩ = some zv) := fun A hA => by
        have hb := hw.out.trans (hA.mono hw.out.size)
        exact ⟨(cell_below hb hq).trans c0, (cell_below hb hq).trans c1, (cell_below hb hr2).trans d0⟩
      have HSX : Hid (∀ A, Below wr.heap.size wr A → Calls Try.prog 24 #[yv, zv] A fun e w' => e = .returned (.bool true) ∧ Below A.heap.size A w') := fun A hA => by
        have hb := hw.out.trans (hA.mono hw.out.size)
        exact same_c yv zv zl A (by omega) (hrow.on hb) (ho.grow hb).row
      clear hyz hyL hyc hlen hq c0 c1 hr2 d0 ho hrow hy ht
      go_wp2_with fail
      refine wp_region_quiet (C := Out wr) (by kernel_rfl) (by kernel_rfl) ⟨rfl, rfl, rfl, Nat.le_refl _, fun _ _ => rfl⟩ ?_
      refine BigFrame.wpQuiet_want rfl (fun K hK => ?_)
      refine quiet_val (.slice (some ⟨q, 0, none⟩) sm sc) (fun w' hw' => by go_simp) (hK _ ?_)
      clear hK K
      simp only [Act.put, List.setIfInBounds_toArray, List.set_cons_zero, List.set_cons_succ]
      refine BigFrame.wpQuiet_want rfl (fun K hK => ?_)
      refine quiet_val (.int .i64 (k : Int)) (fun w' hw' => by go_simp) (hK _ ?_)
      clear hK K
      simp only [Act.put, List.setIfInBounds_toArray, List.set_cons_zero, List.set_cons_succ]
      refine BigFrame.wpQuiet_want rfl (fun K hK => ?_)
      refine quiet_val (.pointer (some ⟨q, k * 2, none⟩)) (fun w' hw' => by go_simp) (hK _ ?_)
      clear hK K
      simp only [Act.put, List.setIfInBounds_toArray, List.set_cons_zero, List.set_cons_succ]
      refine BigFrame.wpQuiet_want rfl (fun K hK => ?_)
      refine quiet_val (.pointer (some ⟨q, k * 2 + 1, none⟩)) (fun w' hw' => by go_simp) (hK _ ?_)
      clear hK K
      simp only [Act.put, List.setIfInBounds_toArray, List.set_cons_zero, List.set_cons_succ]
      refine BigFrame.wpQuiet_want rfl (fun K hK => ?_)
      refine quiet_val (.bool false) (fun w' hw' => by have c0 := (HF.out w' hw').2.1; go_simp) (hK _ ?_)
      clear hK K
      simp only [Act.put, List.setIfInBounds_toArray, List.set_cons_zero, List.set_cons_succ]
      refine BigFrame.wpQuiet_want rfl (fun K hK => ?_)
      refine quiet_val (.bool false) (fun w' hw' => by go_simp) (hK _ ?_)
      clear hK K
      simp only [Act.put, List.setIfInBounds_toArray, List.set_cons_zero, List.set_cons_succ]
      refine BigFrame.wpQuiet_want rfl (fun K hK => ?_)
      refine quiet_val (.slice (some ⟨q, 0, none⟩) sm sc) (fun w' hw' => by go_simp) (hK _ ?_)
      clear hK K
      simp only [Act.put, List.setIfInBounds_toArray, List.set_cons_zero, List.set_cons_succ]
      refine BigFrame.wpQuiet_want rfl (fun K hK => ?_)
      refine quiet_val (.int .i64 (k : Int)) (fun w' hw' => by go_simp) (hK _ ?_)
      clear hK K
      simp only [Act.put, List.setIfInBounds_toArray, List.set_cons_zero, List.set_cons_succ]
      refine BigFrame.wpQuiet_want rfl (fun K hK => ?_)
      refine quiet_val (.pointer (some ⟨q, k * 2, none⟩)) (fun w' hw' => by go_simp) (hK _ ?_)
      clear hK K
      simp only [Act.put, List.setIfInBounds_toArray, List.set_cons_zero, List.set_cons_succ]
      refine BigFrame.wpQuiet_want rfl (fun K hK => ?_)
      refine quiet_val (.pointer (some ⟨q, k * 2, none⟩)) (fun w' hw' => by go_simp) (hK _ ?_)
      clear hK K
      simp only [Act.put, List.setIfInBounds_toArray, List.set_cons_zero, List.set_cons_succ]
      refine BigFrame.wpQuiet_want rfl (fun K hK => ?_)
      refine quiet_val (yv) (fun w' hw' => by have c0 := (HF.out w' hw').1; go_simp) (hK _ ?_)
      clear hK K
      simp only [Act.put, List.setIfInBounds_toArray, List.set_cons_zero, List.set_cons_succ]
      refine BigFrame.wpQuiet_want rfl (fun K hK => ?_)
      refine quiet_val (.slice (some ⟨r, 0, none⟩) sm tc) (fun w' hw' => by go_simp) (hK _ ?_)
      clear hK K
      simp only [Act.put, List.setIfInBounds_toArray, List.set_cons_zero, List.set_cons_succ]
      refine BigFrame.wpQuiet_want rfl (fun K hK => ?_)
      refine quiet_val (.int .i64 (k : Int)) (fun w' hw' => by go_simp) (hK _ ?_)
      clear hK K
      simp only [Act.put, List.setIfInBounds_toArray, List.set_cons_zero, List.set_cons_succ]
      refine BigFrame.wpQuiet_want rfl (fun K hK => ?_)
      refine quiet_val (.pointer (some ⟨r, k, none⟩)) (fun w' hw' => by go_simp) (hK _ ?_)
      clear hK K
      simp only [Act.put, List.setIfInBounds_toArray, List.set_cons_zero, List.set_cons_succ]
      refine BigFrame.wpQuiet_want rfl (fun K hK => ?_)
      refine quiet_val (zv) (fun w' hw' => by have c0 := (HF.out w' hw').2.2; go_simp) (hK _ ?_)
      clear hK K
      simp only [Act.put, List.setIfInBounds_toArray, List.set_cons_zero, List.set_cons_succ]
      refine BigFrame.wpQuiet_want rfl (fun K hK => ?_)
      refine quiet_call 24 #[yv, zv] (.bool true) (fun w' _ => by go_simp) (fun w' hw' => Calls.out hw' (HSX.out w' hw')) (hK _ ?_)
      clear hK K
      simp only [Act.put, List.setIfInBounds_toArray, List.set_cons_zero, List.set_cons_succ]
      refine BigFrame.wpQuiet_want rfl (fun K hK => ?_)
      refine quiet_val (.bool false) (fun w' hw' => by go_simp) (hK _ ?_)
      clear hK K
      simp only [Act.put, List.setIfInBounds_toArray, List.set_cons_zero, List.set_cons_succ]
      refine BigFrame.wpQuiet_want rfl (fun K hK => ?_)
      refine quiet_val (.bool false) (fun w' hw' => by go_simp) (hK _ ?_)
      clear hK K
      simp only [Act.put, List.setIfInBounds_toArray, List.set_cons_zero, List.set_cons_succ]
      refine wpQuiet_nil ?_
      intro w8 hb8
      have B8 : Hid (Below w7.heap.size w7 w8) := hw.out.trans (hb8.mono hw.out.size)
      clear hb8
      go_wp2_with fail
      exact ⟨⟨k + 1, by omega, by go_num, B8.out⟩, by simp [intOf]; omega⟩
    · have hd : decide ((k : Int) < (sm : Int)) = false := by simp; omega
      have M8 : Hid (Below w.heap.size w wr) := M7.out.below.trans (hw.out.mono M7.out.below.size)
      go_wp2_with fail
      refine (HAW.out _).mono ?_
      rintro e wz ⟨rfl, hb⟩
      have BZ : Hid (Below w.heap.size w wz) := M8.out.trans (hb.mono M8.out.size)
      clear hb
      go_wp2_with fail
      go_ret
      exact ⟨rfl, BZ.out⟩
end Go.Proofs.Ytclkkdhfdoidfaa
