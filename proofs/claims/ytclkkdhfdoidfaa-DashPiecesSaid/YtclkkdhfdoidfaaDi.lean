/- Layer 9: Dash. -/
import Derived.Test.YtclkkdhfdoidfaaDh
namespace Go.Proofs.Ytclkkdhfdoidfaa
open Go.RowKit
theorem wayF_adj {q : List Pt} {cl : Bool} (h : ∀ i p r, q[i]? = some p → q[i + 1]? = some r → p ≠ r) (i : Nat) (p r : Pt) (h1 : (wayF q cl)[i]? = some p) (h2 : (wayF q cl)[i + 1]? = some r) : p ≠ r := by
  unfold wayF at h1 h2
  split at h1
  · rename_i hc
    rw [if_pos hc] at h2
    rcases Nat.lt_or_ge (i + 1) q.length with hl | hl
    · rw [List.getElem?_append_left (by omega)] at h1
      rw [List.getElem?_append_left hl] at h2
      exact h i p r h1 h2
    · rw [List.getElem?_append_right hl] at h2
      cases h0 : q[0]? with
      | none => rw [h0] at h2; simp at h2
      | some z =>
        rw [h0] at h2
        have hi : i + 1 - q.length = 0 := by
          cases hx : i + 1 - q.length with
          | zero => rfl
          | succ d => rw [hx] at h2; simp at h2
        rw [hi] at h2
        obtain rfl : z = r := by simpa using h2
        have hq : 0 < q.length := (List.getElem?_eq_some_iff.1 h0).1
        rw [List.getElem?_append_left (by omega)] at h1
        intro e
        subst e
        exact hc.2 (by rw [show q.length - 1 = i by omega, h1, h0])
  · rename_i hc
    rw [if_neg hc] at h2
    exact h i p r h1 h2
theorem way_ok {l : List Pt} {cl : Bool} (hl : longB (wayI l cl) = false) : Way (wayI l cl) := fun i hi => by
  have h1 := at0_some (W := wayI l cl) (i := i) (by omega)
  have h2 := at0_some (W := wayI l cl) (i := i + 1) hi
  have hne := wayF_adj (cl := cl) (fun i p r => compUp_adj l l.length (Nat.le_refl _) i p r) i _ _ h1 h2
  have hlen : lenB (subP (at0 (wayI l cl) (i + 1)) (at0 (wayI l cl) i)) = true := by
    cases h : lenB (subP (at0 (wayI l cl) (i + 1)) (at0 (wayI l cl) i)) with
    | true => rfl
    | false => exact absurd (longN_at (n := (wayI l cl).length - 1) (k := i) (by omega) h) (by unfold longB at hl; rw [hl]; decide)
  exact len_pos (lenB_iff.1 hlen) (ne_sub hne)
noncomputable def dashW (l : List Pt) (cl : Bool) (L : List Int) (phase : Int) (W : List Pt) : Int × List (List Pt × Bool) :=
  if W = [] then (0, []) else if L = [] then (0, [(l, cl)]) else ((piecesO (patS L phase) W).1, (piecesO (patS L phase) W).2.map fun l => (l, false))
noncomputable def dashO (l : List Pt) (cl : Bool) (L : List Int) (phase : Int) : Int × List (List Pt × Bool) :=
  if rightI L phase = true then (if (wayO l cl).1 = 0 then dashW l cl L phase (wayI l cl) else ((wayO l cl).1, [])) else (30, [])
theorem owns_one {w : World} {g : Nat} {v u : Value} (h : Blk w g 46 #[v, u]) : w.ownsRow 0 46 2 (.slice (some ⟨g, 0, none⟩) 1 1) 1 [v, u] :=
  ⟨rfl, .inr ⟨g, 1, _, rfl, Nat.zero_le _, h, Nat.le_refl _, by unfold maxLen; omega, rfl, rfl⟩⟩
/-- What lies at hand while Dash runs. -/
structure DashM (w : World) (sv : Value) (cl : Bool) (Lv : Value) (phase : Int) (A : World) : Prop where
  below : Below w.heap.size w A
  size : w.heap.size + 2 ≤ A.heap.size
  sub : Blk A w.heap.size 46 #[sv, .bool cl]
  pat : Blk A (w.heap.size + 1) 24 #[Lv, .int .i64 phase]
theorem DashM.grow {w A B : World} {sv Lv : Value} {cl : Bool} {phase : Int} (h : DashM w sv cl Lv phase A) (hb : Below A.heap.size A B) : DashM w sv cl Lv phase B :=
  ⟨h.below.trans (hb.mono h.below.size), Nat.le_trans h.size hb.size, h.sub.grow hb, h.pat.grow hb⟩
theorem DashM.start (w : World) (sv Lv : Value) (cl : Bool) (phase : Int) : DashM w sv cl Lv phase ((w.alloc (.cells #[sv, .bool cl] 46)).alloc (.cells #[Lv, .int .i64 phase] 24)) :=
  ⟨((Below.refl _ _).alloc (Nat.le_refl _) _).alloc (by simp) _, by simp, (Blk.new _ _ _).alloc _, Blk.newAt _ _ _ (by simp)⟩
set_option maxHeartbeats 4000000 in
set_option maxRecDepth 100000 in
theorem dash_wrong (sv Lv : Value) (l : List Pt) (cl : Bool) (L : List Int) (phase : Int) (w : World) (row : Row w sv l) (rowL : RowI w Lv L) (hL : L.length ≤ 100000) (hr : rightI L phase = false) :
    Calls Try.prog 25 #[.agg #[sv, .bool cl], .agg #[Lv, .int .i64 phase]] w (ToldS w (30, [])) := by
  have M0 := Lib.hid (DashM.start w sv Lv cl phase)
  obtain ⟨w0, hw0⟩ : ∃ X, (w.alloc (.cells #[sv, .bool cl] 46)).alloc (.cells #[Lv, .int .i64 phase] 24) = X := ⟨_, rfl⟩
  have HW0 := Lib.hid hw0
  rw [hw0] at M0
  have HCK := Lib.hid (check_c Lv L phase w0 hL (rowL.on M0.out.below))
  rw [hr] at HCK
  obtain ⟨ao, c, rfl⟩ := row.shape
  obtain ⟨bo, d, rfl⟩ := rowL.shape
  obtain ⟨n, hn⟩ : ∃ n, l.length = n := ⟨_, rfl⟩
  obtain ⟨nl, hnl⟩ : ∃ nl, L.length = nl := ⟨_, rfl⟩
  rw [hn, hnl] at M0 HW0
  rw [hnl] at HCK
  try rw [hn] at HWY
  rw [hn, hnl]
  have HNL := Lib.hid hnl
  have HNN := Lib.hid hn
  clear row rowL hL hr hw0 hn hnl
  have p0 := M0.out.pat.cell 0
  have p1 := M0.out.pat.cell 1
  simp only [List.getElem?_toArray, List.getElem?_cons_zero, List.getElem?_cons_succ] at p0 p1
  go_enter Try.func25, Try.ntmps25
  go_wp2_with fail
  rw [HW0.out]
  refine HCK.out.mono ?_
  rintro e w1 ⟨rfl, hb⟩
  have M1 := Lib.hid (M0.out.grow hb)
  have hcr : codeR false = 30 := rfl
  clear hb p0 p1
  go_wp2_with fail
  go_ret2
  exact ⟨_, [], rfl, SubsR.nil _, rfl, M1.out.below⟩
set_option maxHeartbeats 4000000 in
set_option maxRecDepth 100000 in
theorem dash_far (sv Lv : Value) (l : List Pt) (cl : Bool) (L : List Int) (phase : Int) (w : World) (row : Row w sv l) (hl : l.length ≤ 1000) (rowL : RowI w Lv L) (hL : L.length ≤ 100000) (hr : rightI L phase = true) (hz : ¬ (wayO l cl).1 = 0) :
    Calls Try.prog 25 #[.agg #[sv, .bool cl], .agg #[Lv, .int .i64 phase]] w (ToldS w ((wayO l cl).1, [])) := by
  have M0 := Lib.hid (DashM.start w sv Lv cl phase)
  obtain ⟨w0, hw0⟩ : ∃ X, (w.alloc (.cells #[sv, .bool cl] 46)).alloc (.cells #[Lv, .int .i64 phase] 24) = X := ⟨_, rfl⟩
  have HW0 := Lib.hid hw0
  rw [hw0] at M0
  have HCK := Lib.hid (check_c Lv L phase w0 hL (rowL.on M0.out.below))
  rw [hr] at HCK
  have HWY : Hid (∀ A, Below w.heap.size w A → Calls Try.prog 21 #[.agg #[sv, .bool cl]] A (ToldP A (wayO l cl))) := fun A hA => way_c sv l cl A (row.on hA) hl
  obtain ⟨ao, c, rfl⟩ := row.shape
  obtain ⟨bo, d, rfl⟩ := rowL.shape
  obtain ⟨n, hn⟩ : ∃ n, l.length = n := ⟨_, rfl⟩
  obtain ⟨nl, hnl⟩ : ∃ nl, L.length = nl := ⟨_, rfl⟩
  rw [hn, hnl] at M0 HW0
  rw [hnl] at HCK
  try rw [hn] at HWY
  rw [hn, hnl]
  have HNL := Lib.hid hnl
  have HNN := Lib.hid hn
  clear row rowL hl hL hr hw0 hn hnl
  have p0 := M0.out.pat.cell 0
  have p1 := M0.out.pat.cell 1
  simp only [List.getElem?_toArray, List.getElem?_cons_zero, List.getElem?_cons_succ] at p0 p1
  obtain ⟨⟨z, W⟩, hwo⟩ : ∃ x, wayO l cl = x := ⟨_, rfl⟩
  rw [hwo] at HWY hz ⊢
  have hne : (z != 0) = true := by simpa using hz
  clear hwo hz
  go_enter Try.func25, Try.ntmps25
  go_wp2_with fail
  rw [HW0.out]
  refine HCK.out.mono ?_
  rintro e w1 ⟨rfl, hb⟩
  have M1 := Lib.hid (M0.out.grow hb)
  have hcr : codeR true = 0 := rfl
  clear hb p0 p1
  have s0 := M1.out.sub.cell 0
  have s1 := M1.out.sub.cell 1
  simp only [List.getElem?_toArray, List.getElem?_cons_zero, List.getElem?_cons_succ] at s0 s1
  go_wp2_with fail
  refine (HWY.out w1 M1.out.below).mono ?_
  rintro e w2 ⟨v, rfl, ho, hb⟩
  have M2 := Lib.hid (M1.out.grow hb)
  obtain ⟨va, vn, vc, rfl⟩ := own_shape' ho
  clear hb ho s0 s1
  go_wp2_with fail
  go_ret2
  exact ⟨_, [], rfl, SubsR.nil _, rfl, M2.out.below⟩
set_option maxHeartbeats 8000000 in
set_option maxRecDepth 100000 in
theorem dash_near (sv Lv : Value) (l : List Pt) (cl : Bool) (L : List Int) (phase : Int) (w : World) (row : Row w sv l) (hl : l.length ≤ 1000) (rowL : RowI w Lv L) (hL : L.length ≤ 100000) (hr : rightI L phase = true) (hz : (wayO l cl).1 = 0) :
    Calls Try.prog 25 #[.agg #[sv, .bool cl], .agg #[Lv, .int .i64 phase]] w (ToldS w (dashW l cl L phase (wayI l cl))) := by
  have M0 := Lib.hid (DashM.start w sv Lv cl phase)
  obtain ⟨w0, hw0⟩ : ∃ X, (w.alloc (.cells #[sv, .bool cl] 46)).alloc (.cells #[Lv, .int .i64 phase] 24) = X := ⟨_, rfl⟩
  have HW0 := Lib.hid hw0
  rw [hw0] at M0
  have HCK := Lib.hid (check_c Lv L phase w0 hL (rowL.on M0.out.below))
  rw [hr] at HCK
  have hroom : l.all roomP = true := by
    cases h : l.all roomP with
    | true => rfl
    | false => unfold wayO at hz; rw [h] at hz; simp at hz
  have hlong : longB (wayI l cl) = false := by
    cases h : longB (wayI l cl) with
    | false => rfl
    | true => unfold wayO toldW at hz; rw [hroom, if_pos rfl, h] at hz; simp at hz
  have hwo : wayO l cl = (0, wayI l cl) := by unfold wayO toldW; rw [hroom, if_pos rfl, hlong]; rfl
  have HWY : Hid (∀ A, Below w.heap.size w A → Calls Try.prog 21 #[.agg #[sv, .bool cl]] A (ToldP A (0, wayI l cl))) := fun A hA => by have h := way_c sv l cl A (row.on hA) hl; rw [hwo] at h; exact h
  have HCLN : Hid (∀ A, Below w.heap.size w A → Calls Try.prog 44 #[sv] A fun e w' => ∃ v, e = .returned v ∧ Own w' A.heap.size 32 v l ∧ Below A.heap.size A w') := fun A hA => clone_c sv l A (row.on hA) (by omega)
  have HPC : Hid (L ≠ [] → ∀ A v, Below w.heap.size w A → wayI l cl ≠ [] → Own A 0 32 v (wayI l cl) → Calls Try.prog 47 #[.agg #[Lv, .int .i64 phase], v] A (ToldS A ((piecesO (patS L phase) (wayI l cl)).1, (piecesO (patS L phase) (wayI l cl)).2.map fun l => (l, false)))) := fun hne A v hA hW hv => by
    have hlen : 0 < L.length := List.length_pos_iff.2 hne
    have hr2 := hr
    unfold rightI at hr2
    rw [if_neg hne] at hr2
    simp only [Bool.and_eq_true, decide_eq_true_eq] at hr2
    obtain ⟨⟨⟨⟨r1, r2⟩, r3⟩, r4⟩, r5⟩ := hr2
    have hsum := sumI_bound r3 L.length
    rw [List.take_length] at hsum
    obtain ⟨bo, d, rfl⟩ := rowL.shape
    obtain ⟨x0, hx0⟩ : ∃ x, L[0]? = some x := ⟨_, List.getElem?_eq_getElem hlen⟩
    obtain ⟨b, o, rfl, hbl, _⟩ := rowL.addr hx0
    have hIL : IntsL w b o L := fun k x hk => by
      obtain ⟨b', o', e, _, hc⟩ := rowL.addr hk
      cases e; exact hc
    rcases own_some hv with ⟨_, e⟩ | ⟨g, cap, rfl⟩
    · exact absurd e hW
    · have hmem : ∀ p ∈ wayI l cl, roomP p = true := fun p hp => List.all_eq_true.1 hroom p (wayI_mem hp)
      have hgl : g < A.heap.size := (own_cap hv).2.2.1
      have hpts : PtsAt A g 0 (wayI l cl) := fun i p hp => by have h := hv.pts rfl hp; rw [Nat.zero_add]; exact h
      have hil : IntsL A b o L := hIL.keep (S := fun j => j < w.heap.size) ⟨hA.os, hA.tape, hA.output, hA.size, fun k hk _ => hA.block k hk⟩ hbl hbl
      exact pieces_c L phase (wayI l cl) A b o L.length d 0 g (wayI l cl).length cap rfl hlen r1 r2 r3 r4 (by omega) hil (Nat.lt_of_lt_of_le hbl hA.size) (pat_grows hne hr) rfl (List.length_pos_iff.2 hW) (by have := wayI_len l cl; omega) (way_ok hlong) hmem hlong hpts hgl
  obtain ⟨ao, c, rfl⟩ := row.shape
  obtain ⟨bo, d, rfl⟩ := rowL.shape
  obtain ⟨n, hn⟩ : ∃ n, l.length = n := ⟨_, rfl⟩
  obtain ⟨nl, hnl⟩ : ∃ nl, L.length = nl := ⟨_, rfl⟩
  rw [hn, hnl] at M0 HW0
  rw [hnl] at HCK
  try rw [hn] at HWY
  rw [hn, hnl]
  have HNL := Lib.hid hnl
  have HNN := Lib.hid hn
  rw [hn] at HCLN
  rw [hnl] at HPC
  clear row rowL hl hL hr hz hw0 hn hnl hroom hlong hwo
  unfold dashW
  generalize wayI l cl = W at *
  have p0 := M0.out.pat.cell 0
  have p1 := M0.out.pat.cell 1
  simp only [List.getElem?_toArray, List.getElem?_cons_zero, List.getElem?_cons_succ] at p0 p1
  go_enter Try.func25, Try.ntmps25
  by_cases hW : W = []
  · rw [if_pos hW]
    subst hW
    go_wp2_with fail
    rw [HW0.out]
    refine HCK.out.mono ?_
    rintro e w1 ⟨rfl, hb⟩
    have M1 := Lib.hid (M0.out.grow hb)
    have hcr : codeR true = 0 := rfl
    clear hb p0 p1
    have s0 := M1.out.sub.cell 0
    have s1 := M1.out.sub.cell 1
    simp only [List.getElem?_toArray, List.getElem?_cons_zero, List.getElem?_cons_succ] at s0 s1
    go_wp2_with fail
    refine (HWY.out w1 M1.out.below).mono ?_
    rintro e w2 ⟨v, rfl, ho, hb⟩
    have M2 := Lib.hid (M1.out.grow hb)
    obtain ⟨va, vc, rfl⟩ := own_nil_len ho
    have hl0 : ([] : List Pt).length = 0 := rfl
    rw [hl0]
    clear hb ho s0 s1
    go_wp2_with fail
    go_ret2
    exact ⟨_, [], rfl, SubsR.nil _, rfl, M2.out.below⟩
  · rw [if_neg hW]
    obtain ⟨m, hm⟩ : ∃ m, W.length = m := ⟨_, rfl⟩
    have hm0 : 0 < m := by rw [← hm]; exact List.length_pos_iff.2 hW
    have d1 : ((m : Int) == 0) = false := by simp; omega
    have d2 : decide ((m : Int) = 0) = false := by simp; omega
    have d3 : decide (m = 0) = false := by simp; omega
    have HMW := Lib.hid hm
    have HWN := Lib.hid hW
    by_cases hLe : L = []
    · rw [if_pos hLe]
      obtain rfl : nl = 0 := by rw [← HNL.out, hLe]; rfl
      clear hm hW hLe HPC
      go_wp2_with fail
      rw [HW0.out]
      refine HCK.out.mono ?_
      rintro e w1 ⟨rfl, hb⟩
      have M1 := Lib.hid (M0.out.grow hb)
      have hcr : codeR true = 0 := rfl
      clear hb p0 p1
      have s0 := M1.out.sub.cell 0
      have s1 := M1.out.sub.cell 1
      simp only [List.getElem?_toArray, List.getElem?_cons_zero, List.getElem?_cons_succ] at s0 s1
      go_wp2_with fail
      refine (HWY.out w1 M1.out.below).mono ?_
      rintro e w2 ⟨v, rfl, ho, hb⟩
      have M2 := Lib.hid (M1.out.grow hb)
      obtain ⟨va, vc, rfl⟩ := own_nil_len ho
      have hml : W.length = m := HMW.out
      rw [hml]
      clear hb ho s0 s1 hml
      have p0 := M2.out.pat.cell 0
      simp only [List.getElem?_toArray, List.getElem?_cons_zero] at p0
      go_wp2_with fail
      refine wp_region_put2 (by kernel_rfl) (by kernel_rfl) (by kernel_rfl) (fun b' vs w' => (b' 0 = true → vs 0 = .pointer (some ⟨w.heap.size, 0, none⟩)) ∧ (b' 1 = true → vs 1 = .slice ao n c) ∧ (b' 3 = true → vs 3 = .pointer (some ⟨w.heap.size, 1, none⟩)) ∧ (b' 4 = true → vs 4 = .bool cl) ∧ (b' 8 = true → vs 8 = .int .i64 0) ∧ (b' 2 = true → Hid (∃ (a : Option Addr) (k q : Nat), vs 2 = .slice a k q ∧ Own w' 0 32 (.slice a k q) l)) ∧ (b' 5 = true → Hid (∃ (a : Option Addr) (k q : Nat), vs 5 = .agg #[.slice a k q, .bool cl] ∧ Own w' 0 32 (.slice a k q) l)) ∧ (b' 6 = true → Hid (∃ (g : Nat) (v : Value), vs 6 = .slice (some ⟨g, 0, none⟩) 1 1 ∧ Blk w' g 46 #[v, .bool cl] ∧ Own w' 0 32 v l)) ∧ (b' 7 = true → Hid (∃ (g : Nat) (v : Value), vs 7 = .slice (some ⟨g, 0, none⟩) 1 1 ∧ Blk w' g 46 #[v, .bool cl] ∧ Own w' 0 32 v l)) ∧ Hid (DashM w (.slice ao n c) cl (.slice bo 0 d) phase w')) ?_ ?_ ?_
      · intro vs hvs
        exact ⟨fun h => Bool.noConfusion h, fun h => Bool.noConfusion h, fun h => Bool.noConfusion h, fun h => Bool.noConfusion h, fun h => Bool.noConfusion h, fun h => Bool.noConfusion h, fun h => Bool.noConfusion h, fun h => Bool.noConfusion h, fun h => Bool.noConfusion h, Lib.hid (M2.out.grow (below_drewN (Below.refl _ _) 1))⟩
      · rintro b' vs w' i op hi hun hall ⟨h0, h1, h3, h4, h8, y2, y5, y6, y7, hM⟩
        have hil : i < 9 := (List.getElem?_eq_some_iff.1 hi).1
        rcases i with _ | _ | _ | _ | _ | _ | _ | _ | _ | i
        · obtain rfl := Option.some.inj hi
          refine wpOp_step rfl (fun K hK => ?_)
          have HKK := Lib.hid hK; clear hK
          simp only [putAll, Act.put, List.setIfInBounds_toArray, List.set_cons_zero, List.set_cons_succ]
          go_simp
          exact HKK.out _ _ ⟨_, by simp only [putAll, Act.put, List.setIfInBounds_toArray, List.set_cons_zero, List.set_cons_succ] <;> rfl, fun _ => rfl, h1, h3, h4, h8, y2, y5, y6, y7, hM⟩
        · obtain rfl := Option.some.inj hi
          have d0 := h0 (hall ⟨0, .data⟩ (by simp) rfl)
          have cc : w'.cell? ⟨w.heap.size, 0, none⟩ = some (.slice ao n c) := hM.out.sub.cell 0
          refine wpOp_step rfl (fun K hK => ?_)
          have HKK := Lib.hid hK; clear hK
          simp only [putAll, Act.put, List.setIfInBounds_toArray, List.set_cons_zero, List.set_cons_succ, d0]
          go_simp
          exact HKK.out _ _ ⟨_, by simp only [putAll, Act.put, List.setIfInBounds_toArray, List.set_cons_zero, List.set_cons_succ, d0] <;> rfl, h0, fun _ => rfl, h3, h4, h8, y2, y5, y6, y7, hM⟩
        · obtain rfl := Option.some.inj hi
          have d1 := h1 (hall ⟨1, .data⟩ (by simp) rfl)
          refine wpOp_step rfl (fun K hK2 => ?_)
          have HKK := Lib.hid hK2; clear hK2
          simp only [putAll, Act.put, List.setIfInBounds_toArray, List.set_cons_zero, List.set_cons_succ, d1]
          go_simp
          refine (HCLN.out w' hM.out.below).mono ?_
          rintro e w8 ⟨v, rfl, ho, hb8⟩
          obtain ⟨a, k, q, rfl⟩ := own_shape' ho
          exact HKK.out _ _ ⟨_, by simp only [putAll, Act.put, List.setIfInBounds_toArray, List.set_cons_zero, List.set_cons_succ, d1] <;> rfl, h0, h1, h3, h4, h8, fun _ => Lib.hid ⟨a, k, q, rfl, ho.base (Nat.zero_le _)⟩, fun h => Lib.hid (by obtain ⟨a, k, q, e1, e2⟩ := (y5 h).out; exact ⟨a, k, q, e1, e2.grow hb8⟩), fun h => Lib.hid (by obtain ⟨g, v, e1, e2, e3⟩ := (y6 h).out; exact ⟨g, v, e1, e2.grow hb8, e3.grow hb8⟩), fun h => Lib.hid (by obtain ⟨g, v, e1, e2, e3⟩ := (y7 h).out; exact ⟨g, v, e1, e2.grow hb8, e3.grow hb8⟩), Lib.hid (hM.out.grow hb8)⟩
        · obtain rfl := Option.some.inj hi
          refine wpOp_step rfl (fun K hK => ?_)
          have HKK := Lib.hid hK; clear hK
          simp only [putAll, Act.put, List.setIfInBounds_toArray, List.set_cons_zero, List.set_cons_succ]
          go_simp
          exact HKK.out _ _ ⟨_, by simp only [putAll, Act.put, List.setIfInBounds_toArray, List.set_cons_zero, List.set_cons_succ] <;> rfl, h0, h1, fun _ => rfl, h4, h8, y2, y5, y6, y7, hM⟩
        · obtain rfl := Option.some.inj hi
          have d3 := h3 (hall ⟨3, .data⟩ (by simp) rfl)
          have cc : w'.cell? ⟨w.heap.size, 1, none⟩ = some (.bool cl) := hM.out.sub.cell 1
          refine wpOp_step rfl (fun K hK => ?_)
          have HKK := Lib.hid hK; clear hK
          simp only [putAll, Act.put, List.setIfInBounds_toArray, List.set_cons_zero, List.set_cons_succ, d3]
          go_simp
          exact HKK.out _ _ ⟨_, by simp only [putAll, Act.put, List.setIfInBounds_toArray, List.set_cons_zero, List.set_cons_succ, d3] <;> rfl, h0, h1, h3, fun _ => rfl, h8, y2, y5, y6, y7, hM⟩
        · obtain rfl := Option.some.inj hi
          have d4 := h4 (hall ⟨4, .data⟩ (by simp) rfl)
          obtain ⟨a, k, q, d2, ho⟩ := (y2 (hall ⟨2, .data⟩ (by simp) rfl)).out
          have HO := Lib.hid ho
          clear ho
          refine wpOp_step rfl (fun K hK => ?_)
          have HKK := Lib.hid hK; clear hK
          simp only [putAll, Act.put, List.setIfInBounds_toArray, List.set_cons_zero, List.set_cons_succ, d4, d2]
          go_simp
          exact HKK.out _ _ ⟨_, by simp only [putAll, Act.put, List.setIfInBounds_toArray, List.set_cons_zero, List.set_cons_succ, d4, d2] <;> rfl, h0, h1, h3, h4, h8, y2, fun _ => Lib.hid ⟨a, k, q, rfl, HO.out⟩, y6, y7, hM⟩
        · obtain rfl := Option.some.inj hi
          obtain ⟨a, k, q, d5, ho⟩ := (y5 (hall ⟨5, .data⟩ (by simp) rfl)).out
          have HO := Lib.hid ho
          clear ho
          refine wpOp_step rfl (fun K hK2 => ?_)
          have HKK := Lib.hid hK2; clear hK2
          simp only [putAll, Act.put, List.setIfInBounds_toArray, List.set_cons_zero, List.set_cons_succ, d5]
          go_simp
          have hb8 : Below w'.heap.size w' (w'.alloc (.cells #[.slice a k q, .bool cl] 46)) := (Below.refl _ _).alloc (Nat.le_refl _) _
          exact HKK.out _ _ ⟨_, by simp only [putAll, Act.put, List.setIfInBounds_toArray, List.set_cons_zero, List.set_cons_succ, d5] <;> rfl, h0, h1, h3, h4, h8, fun h => Lib.hid (by obtain ⟨a, k, q, e1, e2⟩ := (y2 h).out; exact ⟨a, k, q, e1, e2.grow hb8⟩), fun h => Lib.hid (by obtain ⟨a, k, q, e1, e2⟩ := (y5 h).out; exact ⟨a, k, q, e1, e2.grow hb8⟩), fun _ => Lib.hid ⟨w'.heap.size, .slice a k q, rfl, Blk.new _ _ _, HO.out.grow hb8⟩, fun h => Lib.hid (by obtain ⟨g, v, e1, e2, e3⟩ := (y7 h).out; exact ⟨g, v, e1, e2.grow hb8, e3.grow hb8⟩), Lib.hid (hM.out.grow hb8)⟩
        · obtain rfl := Option.some.inj hi
          obtain ⟨g, v, d6, hg1, hg2⟩ := (y6 (hall ⟨6, .data⟩ (by simp) rfl)).out
          have HG1 := Lib.hid hg1
          have HG2 := Lib.hid hg2
          clear hg1 hg2
          refine wpOp_step rfl (fun K hK2 => ?_)
          have HKK := Lib.hid hK2; clear hK2
          simp only [putAll, Act.put, List.setIfInBounds_toArray, List.set_cons_zero, List.set_cons_succ, d6]
          go_simp
          exact HKK.out _ _ ⟨_, by simp only [putAll, Act.put, List.setIfInBounds_toArray, List.set_cons_zero, List.set_cons_succ, d6] <;> rfl, h0, h1, h3, h4, h8, y2, y5, y6, fun _ => Lib.hid ⟨g, v, rfl, HG1.out, HG2.out⟩, hM⟩
        · obtain rfl := Option.some.inj hi
          refine wpOp_step rfl (fun K hK => ?_)
          have HKK := Lib.hid hK; clear hK
          simp only [putAll, Act.put, List.setIfInBounds_toArray, List.set_cons_zero, List.set_cons_succ]
          go_simp
          exact HKK.out _ _ ⟨_, by simp only [putAll, Act.put, List.setIfInBounds_toArray, List.set_cons_zero, List.set_cons_succ] <;> rfl, h0, h1, h3, h4, fun _ => rfl, y2, y5, y6, y7, hM⟩
        · exact absurd hil (by omega)
      · rintro b' vs w' hb ⟨h0, h1, h3, h4, h8, y2, y5, y6, y7, hM⟩
        have d0 := h0 (hb 0 (by decide))
        have d1 := h1 (hb 1 (by decide))
        have d3 := h3 (hb 3 (by decide))
        have d4 := h4 (hb 4 (by decide))
        have d8 := h8 (hb 8 (by decide))
        obtain ⟨a, k, q, d2, _⟩ := (y2 (hb 2 (by decide))).out
        obtain ⟨_, _, _, d5, _⟩ := (y5 (hb 5 (by decide))).out
        obtain ⟨_, _, d6, _, _⟩ := (y6 (hb 6 (by decide))).out
        obtain ⟨g, v, d7, hg1, hg2⟩ := (y7 (hb 7 (by decide))).out
        have HG1 := Lib.hid hg1
        have HG2 := Lib.hid hg2
        have M3 := hM
        simp only [putAll, Act.put, List.setIfInBounds_toArray, List.set_cons_zero, List.set_cons_succ, Nat.zero_add, Nat.reduceAdd, d0, d1, d2, d3, d4, d5, d6, d7, d8]
        clear hb h0 h1 h3 h4 h8 y2 y5 y6 y7 hM d0 d1 d2 d3 d4 d5 d6 d7 d8 hg1 hg2
        go_wp2_with fail
        go_ret2
        exact ⟨_, [⟨v, l, cl⟩], rfl, ⟨owns_one HG1.out, fun x hx => by obtain rfl := List.mem_singleton.1 hx; exact HG2.out⟩, rfl, M3.out.below⟩
    · rw [if_neg hLe]
      have hn0 : 0 < nl := by rw [← HNL.out]; exact List.length_pos_iff.2 hLe
      have e1 : ((nl : Int) == 0) = false := by simp; omega
      have e2 : decide ((nl : Int) = 0) = false := by simp; omega
      have e3 : decide (nl = 0) = false := by simp; omega
      have HPC2 := Lib.hid (HPC.out hLe)
      generalize ((piecesO (patS L phase) W).1, (piecesO (patS L phase) W).2.map fun l => (l, false)) = oo at *
      clear hm hW hLe
      go_wp2_with fail
      rw [HW0.out]
      refine HCK.out.mono ?_
      rintro e w1 ⟨rfl, hb⟩
      have M1 := Lib.hid (M0.out.grow hb)
      have hcr : codeR true = 0 := rfl
      clear hb p0 p1
      have s0 := M1.out.sub.cell 0
      have s1 := M1.out.sub.cell 1
      simp only [List.getElem?_toArray, List.getElem?_cons_zero, List.getElem?_cons_succ] at s0 s1
      go_wp2_with fail
      refine (HWY.out w1 M1.out.below).mono ?_
      rintro e w2 ⟨v, rfl, ho, hb⟩
      have M2 := Lib.hid (M1.out.grow hb)
      have O2 : Hid (Own w2 0 32 v W) := ho.base (Nat.zero_le _)
      obtain ⟨va, vc, rfl⟩ := own_nil_len ho
      have hml : W.length = m := HMW.out
      rw [hml] at O2 ⊢
      clear hb ho s0 s1 hml
      have p0 := M2.out.pat.cell 0
      have p1 := M2.out.pat.cell 1
      simp only [List.getElem?_toArray, List.getElem?_cons_zero, List.getElem?_cons_succ] at p0 p1
      go_wp2_with fail
      refine (HPC2.out w2 _ M2.out.below HWN.out O2.out).mono ?_
      rintro e w3 ⟨v, SS, rfl, hs, hmap, hb⟩
      have M3 := Lib.hid (M2.out.grow hb)
      have HS := Lib.hid hs
      have HMP := Lib.hid hmap
      obtain ⟨qa, qc, rfl⟩ := subs_shape hs.row
      clear hs hmap hb p0 p1
      go_wp2_with fail
      go_ret2
      exact ⟨_, SS, rfl, HS.out, HMP.out, M3.out.below⟩
theorem dash_c (sv Lv : Value) (l : List Pt) (cl : Bool) (L : List Int) (phase : Int) (w : World) (row : Row w sv l) (hl : l.length ≤ 1000) (rowL : RowI w Lv L) (hL : L.length ≤ 100000) :
    Calls Try.prog 25 #[.agg #[sv, .bool cl], .agg #[Lv, .int .i64 phase]] w (ToldS w (dashO l cl L phase)) := by
  unfold dashO
  by_cases hr : rightI L phase = true
  · rw [if_pos hr]
    by_cases hz : (wayO l cl).1 = 0
    · rw [if_pos hz]; exact dash_near sv Lv l cl L phase w row hl rowL hL hr hz
    · rw [if_neg hz]; exact dash_far sv Lv l cl L phase w row hl rowL hL hr hz
  · rw [if_neg hr]; exact dash_wrong sv Lv l cl L phase w row rowL hL (by simpa using hr)
end Go.Proofs.Ytclkkdhfdoidfaa
