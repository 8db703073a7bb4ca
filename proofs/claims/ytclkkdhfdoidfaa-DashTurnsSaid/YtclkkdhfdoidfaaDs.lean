/- Layer 9: the law DashTurns. -/
import Derived.Test.YtclkkdhfdoidfaaDo
import Derived.Test.YtclkkdhfdoidfaaDr
import Derived.Test.YtclkkdhfdoidfaaDk
namespace Go.Proofs.Ytclkkdhfdoidfaa
open Go.RowKit
theorem wp_slice_from {w : World} {o : Oper} {a : Act} {K : Act → World → Prop} {Q : Exit → Act → World → Prop} (x : Operand) (ho : o.op = .slice 22 x (some (.const (.int .i64 2))) none none) (b p m d : Nat) (hx : a.eval x = .slice (some ⟨b, p, none⟩) m d) (h2 : 2 ≤ m) (h : K (a.put o.dst (.slice (some (if d = 2 then ⟨b, p, none⟩ else ⟨b, p + 2, none⟩)) (m - 2) (d - 2))) w) : o.wp Try.prog a w K Q := by
  have h3 : (2 : Int) ≤ m := by omega
  obtain ⟨i, hi, hz0, hz1, hz2⟩ := info_parts infoI
  have hc : a.eval (.const (.int .i64 2)) = .int .i64 2 := rfl
  unfold Oper.wp
  by_cases hd : d = 2
  · rw [if_pos hd] at h
    simp [execOp, ho, hx, hc, Instr.sliceAt, Instr.sliceBounds, Instr.sliceBound, Instr.slice, asIntOf, h3, underlying, sizeOf, typeInfo, hi, Try.underlying22, hd, Result.andThen]
    subst hd
    exact h
  · rw [if_neg hd] at h
    simp [execOp, ho, hx, hc, Instr.sliceAt, Instr.sliceBounds, Instr.sliceBound, Instr.slice, asIntOf, h3, underlying, sizeOf, typeInfo, hi, hz1, Try.underlying22, hd, Result.andThen, Addr.add]
    exact h
theorem wp_slice_to {w : World} {o : Oper} {a : Act} {K : Act → World → Prop} {Q : Exit → Act → World → Prop} (x : Operand) (ho : o.op = .slice 22 x none (some (.const (.int .i64 2))) none) (b p m d : Nat) (hx : a.eval x = .slice (some ⟨b, p, none⟩) m d) (h2 : 2 ≤ d) (h : K (a.put o.dst (.slice (some ⟨b, p, none⟩) 2 d)) w) : o.wp Try.prog a w K Q := by
  have h3 : (2 : Int) ≤ d := by omega
  obtain ⟨i, hi, hz0, hz1, hz2⟩ := info_parts infoI
  have hc : a.eval (.const (.int .i64 2)) = .int .i64 2 := rfl
  unfold Oper.wp
  simp [execOp, ho, hx, hc, Instr.sliceAt, Instr.sliceBounds, Instr.sliceBound, Instr.slice, asIntOf, h3, underlying, sizeOf, typeInfo, hi, Try.underlying22, Result.andThen, Addr.add]
  exact h
theorem OwnI.row {w : World} {base : Nat} {v : Value} {E : List Int} (h : OwnI w base v E) : RowI w v E := by
  rcases ownI_some h with ⟨rfl, rfl⟩ | ⟨g, cap, rfl, _, hg, hc⟩
  · exact .inl ⟨rfl, rfl⟩
  · refine .inr (.inr ⟨g, 0, cap, by simp, hg, fun i x hx => ?_⟩)
    rw [List.getElem?_map] at hx
    cases he : E[i]? with
    | none => rw [he] at hx; cases hx
    | some y => rw [he] at hx; cases hx; exact hc i y he
theorem OwnI.made0 (w : World) (base : Nat) (hb : base ≤ w.heap.size) : OwnI (w.alloc (.cells #[] 3)) base (.slice (some ⟨w.heap.size, 0, none⟩) 0 0) [] :=
  ⟨rfl, .inr ⟨w.heap.size, 0, _, rfl, hb, Blk.new _ _ _, Nat.le_refl _, by unfold maxLen; omega, rfl, rfl⟩⟩
theorem intsL_cells {w : World} {b p : Nat} {L : List Int} (h : IntsL w b p L) : ∀ j u, (intsV L)[j]? = some u → w.cell? ((⟨b, p, none⟩ : Addr).add j) = some u := fun j u hu => by
  rw [List.getElem?_map] at hu
  cases he : L[j]? with
  | none => rw [he] at hu; cases hu
  | some y => rw [he] at hu; cases hu; rw [Addr.add_lit]; exact h j y he
theorem right_parts {L : List Int} {p : Int} (h0 : L ≠ []) (h : rightI L p = true) : L.length ≤ 8 ∧ L.length % 2 = 0 ∧ L.all okL = true ∧ 0 ≤ p ∧ p < sumI L := by
  unfold rightI at h
  rw [if_neg h0] at h
  simp only [Bool.and_eq_true, decide_eq_true_eq] at h
  exact ⟨h.1.1.1.1, h.1.1.1.2, h.1.1.2, h.1.2, h.2⟩
set_option maxHeartbeats 4000000 in
set_option maxRecDepth 100000 in
theorem dashTurns_far (ao : Option Addr) (n c : Nat) (cl : Bool) (bo : Option Addr) (m d : Nat) (L : List Int) (phase : Int) (w : World) (rowL : RowI w (.slice bo m d) L)
    (hf : 20 < n ∨ rightI L phase = false ∨ m = 0 ∨ 4 < m) :
    Calls Try.prog 7 #[.agg #[.slice ao n c, .bool cl], .agg #[.slice bo m d, .int .i64 phase]] w fun e w' => e = .returned (.bool true) ∧ Below w.heap.size w w' := by
  have HAW := Lib.hid awake_c
  have M0 := Lib.hid (DashM.start w (.slice ao n c) (.slice bo m d) cl phase)
  obtain ⟨w0, hw0⟩ : ∃ X, (w.alloc (.cells #[.slice ao n c, .bool cl] 46)).alloc (.cells #[.slice bo m d, .int .i64 phase] 24) = X := ⟨_, rfl⟩
  have HW0 := Lib.hid hw0
  rw [hw0] at M0
  have HRI : Hid (∀ A, Below w.heap.size w A → Calls Try.prog 10 #[.slice bo m d, .int .i64 phase] A fun e w' => e = .returned (.bool (rightI L phase)) ∧ Below A.heap.size A w') := fun A hA => refRight_c _ L phase A (rowL.on hA)
  clear hw0 rowL
  have s0 := M0.out.sub.cell 0
  have s1 := M0.out.sub.cell 1
  have p0 := M0.out.pat.cell 0
  have p1 := M0.out.pat.cell 1
  simp only [List.getElem?_toArray, List.getElem?_cons_zero, List.getElem?_cons_succ] at s0 s1 p0 p1
  by_cases h20 : 20 < n
  · have hd : decide ((n : Int) > 20) = true := by simp; omega
    go_enter Try.func7, Try.ntmps7
    go_wp2_with fail
    rw [HW0.out]
    refine (HAW.out _).mono ?_
    rintro e wz ⟨rfl, hb⟩
    have BZ : Hid (Below w.heap.size w wz) := M0.out.below.trans (hb.mono M0.out.below.size)
    clear hb
    go_wp2_with fail
    go_ret
    exact ⟨rfl, BZ.out⟩
  have hd : decide ((n : Int) > 20) = false := by simp; omega
  have hf2 : rightI L phase = false ∨ m = 0 ∨ 4 < m := by rcases hf with h | h | h; exact absurd h h20; exact .inl h; exact .inr h
  clear hf h20
  cases hr : rightI L phase
  · rw [hr] at HRI
    go_enter Try.func7, Try.ntmps7
    go_wp2_with fail
    rw [HW0.out]
    refine (HRI.out _ M0.out.below).mono ?_
    rintro e w1 ⟨rfl, hb⟩
    have M1 := Lib.hid (M0.out.grow hb)
    clear hb s0 s1 p0 p1
    go_wp2_with fail
    refine (HAW.out _).mono ?_
    rintro e wz ⟨rfl, hb⟩
    have BZ : Hid (Below w.heap.size w wz) := M1.out.below.trans (hb.mono M1.out.below.size)
    clear hb
    go_wp2_with fail
    go_ret
    exact ⟨rfl, BZ.out⟩
  · rw [hr] at HRI hf2
    by_cases h0 : m = 0
    · subst h0
      go_enter Try.func7, Try.ntmps7
      go_wp2_with fail
      rw [HW0.out]
      refine (HRI.out _ M0.out.below).mono ?_
      rintro e w1 ⟨rfl, hb⟩
      have M1 := Lib.hid (M0.out.grow hb)
      clear hb s0 s1 p0 p1
      have s0 := M1.out.sub.cell 0
      have s1 := M1.out.sub.cell 1
      have p0 := M1.out.pat.cell 0
      have p1 := M1.out.pat.cell 1
      simp only [List.getElem?_toArray, List.getElem?_cons_zero, List.getElem?_cons_succ] at s0 s1 p0 p1
      go_wp2_with fail
      refine (HAW.out _).mono ?_
      rintro e wz ⟨rfl, hb⟩
      have BZ : Hid (Below w.heap.size w wz) := M1.out.below.trans (hb.mono M1.out.below.size)
      clear hb
      go_wp2_with fail
      go_ret
      exact ⟨rfl, BZ.out⟩
    · have e0 : ((m : Int) == 0) = false := by simp; omega
      have hd4 : decide ((m : Int) > 4) = true := by
        simp
        rcases hf2 with h | h | h
        · cases h
        · exact absurd h h0
        · omega
      go_enter Try.func7, Try.ntmps7
      go_wp2_with fail
      rw [HW0.out]
      refine (HRI.out _ M0.out.below).mono ?_
      rintro e w1 ⟨rfl, hb⟩
      have M1 := Lib.hid (M0.out.grow hb)
      clear hb s0 s1 p0 p1
      have s0 := M1.out.sub.cell 0
      have s1 := M1.out.sub.cell 1
      have p0 := M1.out.pat.cell 0
      have p1 := M1.out.pat.cell 1
      simp only [List.getElem?_toArray, List.getElem?_cons_zero, List.getElem?_cons_succ] at s0 s1 p0 p1
      go_wp2_with fail
      refine (HAW.out _).mono ?_
      rintro e wz ⟨rfl, hb⟩
      have BZ : Hid (Below w.heap.size w wz) := M1.out.below.trans (hb.mono M1.out.below.size)
      clear hb
      go_wp2_with fail
      go_ret
      exact ⟨rfl, BZ.out⟩
set_option maxHeartbeats 4000000 in
set_option maxRecDepth 100000 in
theorem dashTurns_near (ao : Option Addr) (n c : Nat) (l : List Pt) (cl : Bool) (b p m d : Nat) (L : List Int) (phase : Int) (w : World) (row : Row w (.slice ao n c) l) (hn : l.length = n) (h20 : n ≤ 20) (rowL : RowI w (.slice (some ⟨b, p, none⟩) m d) L) (hm : L.length = m) (hmd : m ≤ d)
    (hr : rightI L phase = true) (h0 : L ≠ []) (h4 : m ≤ 4) :
    Calls Try.prog 7 #[.agg #[.slice ao n c, .bool cl], .agg #[.slice (some ⟨b, p, none⟩) m d, .int .i64 phase]] w fun e w' => e = .returned (.bool true) ∧ Below w.heap.size w w' := by
  have HAW := Lib.hid awake_c
  have M0 := Lib.hid (DashM.start w (.slice ao n c) (.slice (some ⟨b, p, none⟩) m d) cl phase)
  obtain ⟨w0, hw0⟩ : ∃ X, (w.alloc (.cells #[.slice ao n c, .bool cl] 46)).alloc (.cells #[.slice (some ⟨b, p, none⟩) m d, .int .i64 phase] 24) = X := ⟨_, rfl⟩
  have HW0 := Lib.hid hw0
  rw [hw0] at M0
  have HRI : Hid (∀ A, Below w.heap.size w A → Calls Try.prog 10 #[.slice (some ⟨b, p, none⟩) m d, .int .i64 phase] A fun e w' => e = .returned (.bool (rightI L phase)) ∧ Below A.heap.size A w') := fun A hA => refRight_c _ L phase A (rowL.on hA)
  rw [hr] at HRI
  obtain ⟨r8, rev, rok, rp0, rp1⟩ := right_parts h0 hr
  have hm2 : 2 ≤ m := by
    have := List.length_pos_iff.2 h0
    omega
  have hDS : ∀ A u M y, Below w.heap.size w A → RowI A u M → M.length ≤ 100000 → Calls Try.prog 25 #[.agg #[.slice ao n c, .bool cl], .agg #[u, .int .i64 y]] A (ToldS A (dashO l cl M y)) := fun A u M y hA hu hM => dash_c _ u l cl M y A (row.on hA) (by omega) hu hM
  have HLE : Hid ((∀ x ∈ (dashO l cl L phase).2, x.1.length ≤ 1000) ∧ (dashO l cl L phase).2.length ≤ 4096) := ⟨dash_len (by omega), dash_many⟩
  have h1 := fun A u hA hu => hDS A u L phase hA hu (by omega)
  have h2 := fun A u hA hu => hDS A u (L ++ L) phase hA hu (by simp; omega)
  have h3 := fun A u hA hu => hDS A u (L.drop 2 ++ L.take 2) (turnP L phase) hA hu (by simp; omega)
  rw [twice_dash hr h0 (by omega)] at h2
  rw [turn_dash hr h0 (by omega)] at h3
  generalize dashO l cl L phase = D at h1 h2 h3 HLE
  obtain ⟨z, E⟩ := D
  have HD1 : Hid (∀ A u, Below w.heap.size w A → RowI A u L → Calls Try.prog 25 #[.agg #[.slice ao n c, .bool cl], .agg #[u, .int .i64 phase]] A fun e w' => ∃ v S, e = .returned (.tuple #[v, .int .i64 z]) ∧ SubsR w' v S ∧ S.map Sb.plain = E ∧ Below A.heap.size A w') := h1
  have HDW : Hid (∀ A u, Below w.heap.size w A → RowI A u (L ++ L) → Calls Try.prog 25 #[.agg #[.slice ao n c, .bool cl], .agg #[u, .int .i64 phase]] A fun e w' => ∃ v S, e = .returned (.tuple #[v, .int .i64 z]) ∧ SubsR w' v S ∧ S.map Sb.plain = E ∧ Below A.heap.size A w') := h2
  have HDT : Hid (∀ y, turnP L phase = y → ∀ A u, Below w.heap.size w A → OwnI A 0 u (L.drop 2 ++ L.take 2) → Calls Try.prog 25 #[.agg #[.slice ao n c, .bool cl], .agg #[u, .int .i64 y]] A fun e w' => ∃ v S, e = .returned (.tuple #[v, .int .i64 z]) ∧ SubsR w' v S ∧ S.map Sb.plain = E ∧ Below A.heap.size A w') := fun y hy A u hA hu => hy ▸ h3 A u hA hu.row
  have HSU0 := fun A hA => sum_c (.slice (some ⟨b, p, none⟩) m d) L phase A r8 rok (rowL.on (w := w) (w' := A) hA)
  obtain ⟨x0, hx0⟩ : ∃ x, L[0]? = some x := ⟨_, List.getElem?_eq_getElem (by omega)⟩
  obtain ⟨x1, hx1⟩ : ∃ x, L[1]? = some x := ⟨_, List.getElem?_eq_getElem (by omega)⟩
  obtain ⟨_, _, eb, hbl, _⟩ := rowL.addr hx0
  cases eb
  have hIL : IntsL w b p L := fun k x hk => by
    obtain ⟨b', o', e, _, hc⟩ := rowL.addr hk
    cases e; exact hc
  have HIA : Hid (∀ A, Below w.heap.size w A → IntsL A b p L) := fun A hA => hIL.keep (S := fun j => j < w.heap.size) ⟨hA.os, hA.tape, hA.output, hA.size, fun k hk _ => hA.block k hk⟩ hbl hbl
  have hsum := sumI_bound rok L.length
  rw [List.take_length] at hsum
  obtain ⟨t, ht⟩ : ∃ t, phase - x0 = t := ⟨_, rfl⟩
  obtain ⟨q, hq⟩ : ∃ q, t - x1 = q := ⟨_, rfl⟩
  obtain ⟨s, hs⟩ : ∃ s, sumI L = s := ⟨_, rfl⟩
  obtain ⟨r, hr2⟩ : ∃ r, q + s = r := ⟨_, rfl⟩
  have hok0 := List.all_eq_true.1 rok _ (List.mem_of_getElem? hx0)
  have hok1 := List.all_eq_true.1 rok _ (List.mem_of_getElem? hx1)
  unfold okL at hok0 hok1
  simp only [Bool.and_eq_true, decide_eq_true_eq] at hok0 hok1
  have HTP : Hid (turnP L phase = if q < 0 then r else q) := by
    unfold Hid turnP
    rw [List.getD_eq_getElem?_getD, List.getD_eq_getElem?_getD, hx0, hx1, hs]
    simp only [Option.getD_some]
    rw [ht, hq, hr2]
  rw [hs] at hsum HSU0 rp1
  have E1 : Hid (IntKind.i64.wrap (phase - x0) = t) := (wrap_is _).trans (by rw [← ht]; exact wrapR _ (by omega) (by omega))
  have E2 : Hid (IntKind.i64.wrap (t - x1) = q) := (wrap_is _).trans (by rw [← hq]; exact wrapR _ (by omega) (by omega))
  have e3 : wrap64 (q + s) = r := by rw [← hr2]; exact wrapR _ (by omega) (by omega)
  have HSU : Hid (∀ A, Below w.heap.size w A → Calls Try.prog 12 #[.agg #[.slice (some ⟨b, p, none⟩) m d, .int .i64 phase]] A fun e w' => e = .returned (.int .i64 s) ∧ Below A.heap.size A w') := HSU0
  obtain ⟨ax, hax⟩ : ∃ ax : Addr, (if d = 2 then (⟨b, p, none⟩ : Addr) else ⟨b, p + 2, none⟩) = ax := ⟨_, rfl⟩
  have HAX := Lib.hid hax
  have HXA0 : Hid (∀ A, Below w.heap.size w A → ∀ j u, (intsV (L.drop 2))[j]? = some u → A.cell? (ax.add j) = some u) := fun A hA j u hu => by
    rcases Nat.lt_or_ge 2 d with h | h
    · rw [if_neg (by omega)] at hax
      subst hax
      refine intsL_cells (L := L.drop 2) (fun k x hk => ?_) j u hu
      rw [List.getElem?_drop] at hk
      rw [show p + 2 + k = p + (2 + k) by omega]
      exact HIA.out A hA _ _ hk
    · rw [show L.drop 2 = [] from List.drop_eq_nil_of_le (by omega)] at hu
      cases hu
  have HXB0 : Hid (∀ A, Below w.heap.size w A → ∀ j u, (intsV (L.take 2))[j]? = some u → A.cell? ((⟨b, p, none⟩ : Addr).add j) = some u) := fun A hA => intsL_cells fun k x hk => by
    refine HIA.out A hA k x ?_
    rw [List.getElem?_take] at hk
    split at hk
    · exact hk
    · cases hk
  have HRL : Hid (∀ A, Below w.heap.size w A → RowI A (.slice (some ⟨b, p, none⟩) m d) L) := fun A hA => rowL.on hA
  have HM := Lib.hid hm
  have HM2 := Lib.hid hm2
  have HD22 : Hid (2 ≤ d) := Nat.le_trans hm2 hmd
  have HX0 := Lib.hid hx0
  have HX1 := Lib.hid hx1
  have HN4 : Hid (L.length ≤ 4 ∧ m ≤ 4) := by unfold Hid; omega
  have hd : decide ((n : Int) > 20) = false := by simp; omega
  have e0 : ((m : Int) == 0) = false := by simp; omega
  have hd4 : decide ((m : Int) > 4) = false := by simp; omega
  clear h1 h2 h3 hDS HSU0 hax hIL hx0 hx1 hok0 hok1 ht hq hs hr2 hsum rp0 rp1 rok r8 rev hm hm2 hmd h0 h4 h20 hn hr rowL row hw0 hbl
  have s0 := M0.out.sub.cell 0
  have s1 := M0.out.sub.cell 1
  have p0 := M0.out.pat.cell 0
  have p1 := M0.out.pat.cell 1
  simp only [List.getElem?_toArray, List.getElem?_cons_zero, List.getElem?_cons_succ] at s0 s1 p0 p1
  go_enter Try.func7, Try.ntmps7
  go_wp2_with fail
  rw [HW0.out]
  refine (HRI.out _ M0.out.below).mono ?_
  rintro e w1 ⟨rfl, hb⟩
  have M1 := Lib.hid (M0.out.grow hb)
  clear hb s0 s1 p0 p1
  have s0 := M1.out.sub.cell 0
  have s1 := M1.out.sub.cell 1
  have p0 := M1.out.pat.cell 0
  have p1 := M1.out.pat.cell 1
  simp only [List.getElem?_toArray, List.getElem?_cons_zero, List.getElem?_cons_succ] at s0 s1 p0 p1
  go_wp2_with fail
  refine (HD1.out _ _ M1.out.below (HRL.out _ M1.out.below)).mono ?_
  rintro e w3 ⟨v1, S1, rfl, hs1, hm1, hb⟩
  have M3 := Lib.hid (M1.out.grow hb)
  have R3 := Lib.hid hs1
  have HM1 := Lib.hid hm1
  have HD2 : Hid (∀ A u, Below w3.heap.size w3 A → OwnI A w3.heap.size u (L ++ L) → Calls Try.prog 25 #[.agg #[.slice ao n c, .bool cl], .agg #[u, .int .i64 phase]] A fun e w' => ∃ v S, e = .returned (.tuple #[v, .int .i64 z]) ∧ SubsR w' v S ∧ S.map Sb.plain = E ∧ Below A.heap.size A w') := fun A u hA hu => HDW.out A u (M3.out.grow hA).below hu.row
  have HCL : Hid (∀ A, Below w3.heap.size w3 A → A.cell? ⟨w.heap.size, 0, none⟩ = some (.slice ao n c) ∧ A.cell? ⟨w.heap.size, 1, none⟩ = some (.bool cl) ∧ A.cell? ⟨w.heap.size + 1, 0, none⟩ = some (.slice (some ⟨b, p, none⟩) m d) ∧ A.cell? ⟨w.heap.size + 1, 1, none⟩ = some (.int .i64 phase)) := fun A hA => by
    have h := M3.out.grow hA
    exact ⟨h.sub.cell 0, h.sub.cell 1, h.pat.cell 0, h.pat.cell 1⟩
  have HIL : Hid (∀ A, Below w3.heap.size w3 A → IntsL A b p L) := fun A hA => HIA.out A (M3.out.grow hA).below
  clear hb hs1 hm1 s0 s1 p0 p1
  go_wp2_with fail
  refine wp_region_put (by kernel_rfl) (by kernel_rfl) (by kernel_rfl) (fun b' vs w' => (b' 0 = true → vs 0 = .agg #[.slice ao n c, .bool cl]) ∧ (b' 2 = true → vs 2 = .pointer (some ⟨w.heap.size + 1, 0, none⟩)) ∧ (b' 3 = true → vs 3 = .slice (some ⟨b, p, none⟩) m d) ∧ (b' 5 = true → vs 5 = .pointer (some ⟨w.heap.size + 1, 0, none⟩)) ∧ (b' 6 = true → vs 6 = .slice (some ⟨b, p, none⟩) m d) ∧ (b' 8 = true → vs 8 = .pointer (some ⟨w.heap.size + 1, 1, none⟩)) ∧ (b' 9 = true → vs 9 = .int .i64 phase) ∧ (b' 14 = true → vs 14 = .int .i64 z) ∧ (b' 16 = true → vs 16 = .int .i64 z) ∧ (b' 1 = true → b' 4 = false → Hid (OwnI w' w3.heap.size (vs 1) ([]))) ∧ (b' 4 = true → b' 7 = false → Hid (OwnI w' w3.heap.size (vs 4) (L))) ∧ (b' 7 = true → b' 10 = false → Hid (OwnI w' w3.heap.size (vs 7) (L ++ L))) ∧ (b' 10 = true → b' 11 = false → Hid (∃ u, (vs 10) = .agg #[u, .int .i64 phase] ∧ OwnI w' w3.heap.size u (L ++ L))) ∧ (b' 11 = true → b' 12 = false → Hid (∃ v S, (vs 11) = .tuple #[v, .int .i64 z] ∧ SubsR w' v S ∧ S.map Sb.plain = E)) ∧ (b' 12 = true → Hid (∃ v S, (vs 12) = .tuple #[v, .int .i64 z] ∧ SubsR w' v S ∧ S.map Sb.plain = E)) ∧ Hid (Below w3.heap.size w3 w') ∧ (b' 4 = true → b' 1 = true) ∧ (b' 7 = true → b' 4 = true) ∧ (b' 10 = true → b' 7 = true) ∧ (b' 11 = true → b' 10 = true) ∧ (b' 12 = true → b' 11 = true) ∧ (b' 13 = true → b' 12 = true ∧ ∃ x y, vs 12 = .tuple #[x, y] ∧ vs 13 = x) ∧ (b' 15 = true → b' 13 = true ∧ vs 15 = vs 13)) ?_ ?_ ?_
  · intro vs
    exact ⟨fun h => Bool.noConfusion h, fun h => Bool.noConfusion h, fun h => Bool.noConfusion h, fun h => Bool.noConfusion h, fun h => Bool.noConfusion h, fun h => Bool.noConfusion h, fun h => Bool.noConfusion h, fun h => Bool.noConfusion h, fun h => Bool.noConfusion h, fun h => Bool.noConfusion h, fun h => Bool.noConfusion h, fun h => Bool.noConfusion h, fun h => Bool.noConfusion h, fun h => Bool.noConfusion h, fun h => Bool.noConfusion h, Lib.hid (below_drewN (Below.refl _ _) 1), fun h => Bool.noConfusion h, fun h => Bool.noConfusion h, fun h => Bool.noConfusion h, fun h => Bool.noConfusion h, fun h => Bool.noConfusion h, fun h => Bool.noConfusion h, fun h => Bool.noConfusion h⟩
  · rintro b' vs w' i op hi hun hall ⟨h0, h2, h3, h5, h6, h8, h9, h14, h16, y1, y4, y7, y10, y11, y12, hB, hE4, hE7, hE10, hE11, hE12, t13, t15⟩
    have hil : i < 17 := (List.getElem?_eq_some_iff.1 hi).1
    rcases i with _ | _ | _ | _ | _ | _ | _ | _ | _ | _ | _ | _ | _ | _ | _ | _ | _ | i
    · obtain rfl := Option.some.inj hi
      clear hi hil
      have k0 := HCL.out w' hB.out
      have c0 := k0.1
      have c1 := k0.2.1
      clear k0
      refine wpOp_step rfl (fun K hK => ?_)
      have HKK := Lib.hid hK; clear hK
      simp only [putAll, Act.put, List.setIfInBounds_toArray, List.set_cons_zero, List.set_cons_succ]
      go_simp
      exact HKK.out _ _ ⟨_, by simp only [putAll, Act.put, List.setIfInBounds_toArray, List.set_cons_zero, List.set_cons_succ] <;> rfl, fun _ => rfl, h2, h3, h5, h6, h8, h9, h14, h16, y1, y4, y7, y10, y11, y12, hB, hE4, hE7, hE10, hE11, hE12, t13, t15⟩
    · obtain rfl := Option.some.inj hi
      clear hi hil
      have n4 : b' 4 = false := by
        cases hz : b' 4 with
        | false => rfl
        | true => exact absurd (hE4 hz) (by rw [hun]; decide)
      have n7 : b' 7 = false := by
        cases hz : b' 7 with
        | false => rfl
        | true => exact absurd (hE7 hz) (by rw [n4]; decide)
      have n10 : b' 10 = false := by
        cases hz : b' 10 with
        | false => rfl
        | true => exact absurd (hE10 hz) (by rw [n7]; decide)
      have n11 : b' 11 = false := by
        cases hz : b' 11 with
        | false => rfl
        | true => exact absurd (hE11 hz) (by rw [n10]; decide)
      have n12 : b' 12 = false := by
        cases hz : b' 12 with
        | false => rfl
        | true => exact absurd (hE12 hz) (by rw [n11]; decide)
      refine wpOp_step rfl (fun K hK => ?_)
      have HKK := Lib.hid hK; clear hK
      simp only [putAll, Act.put, List.setIfInBounds_toArray, List.set_cons_zero, List.set_cons_succ]
      go_simp
      have hb2 : Below w'.heap.size w' (w'.alloc (.cells #[] 3)) := (Below.refl _ _).alloc (Nat.le_refl _) _
      exact HKK.out _ _ ⟨_, by simp only [putAll, Act.put, List.setIfInBounds_toArray, List.set_cons_zero, List.set_cons_succ] <;> rfl, h0, h2, h3, h5, h6, h8, h9, h14, h16, fun _ _ => Lib.hid (OwnI.made0 w' _ hB.out.size), fun h => absurd (show b' 4 = true from h) (by rw [n4]; decide), fun h => absurd (show b' 7 = true from h) (by rw [n7]; decide), fun h => absurd (show b' 10 = true from h) (by rw [n10]; decide), fun h => absurd (show b' 11 = true from h) (by rw [n11]; decide), fun h => absurd (show b' 12 = true from h) (by rw [n12]; decide), Lib.hid (hB.out.trans (hb2.mono hB.out.size)), fun _ => rfl, hE7, hE10, hE11, hE12, fun h => absurd (t13 h).1 (by rw [n12]; decide), fun h => absurd ((t13 (t15 h).1).1) (by rw [n12]; decide)⟩
    · obtain rfl := Option.some.inj hi
      clear hi hil
      refine wpOp_step rfl (fun K hK => ?_)
      have HKK := Lib.hid hK; clear hK
      simp only [putAll, Act.put, List.setIfInBounds_toArray, List.set_cons_zero, List.set_cons_succ]
      go_simp
      exact HKK.out _ _ ⟨_, by simp only [putAll, Act.put, List.setIfInBounds_toArray, List.set_cons_zero, List.set_cons_succ] <;> rfl, h0, fun _ => rfl, h3, h5, h6, h8, h9, h14, h16, y1, y4, y7, y10, y11, y12, hB, hE4, hE7, hE10, hE11, hE12, t13, t15⟩
    · obtain rfl := Option.some.inj hi
      clear hi hil
      have d2 := h2 (hall ⟨2, .data⟩ (by simp) rfl)
      have c0 := (HCL.out w' hB.out).2.2.1
      refine wpOp_step rfl (fun K hK => ?_)
      have HKK := Lib.hid hK; clear hK
      simp only [putAll, Act.put, List.setIfInBounds_toArray, List.set_cons_zero, List.set_cons_succ]
      go_simp
      exact HKK.out _ _ ⟨_, by simp only [putAll, Act.put, List.setIfInBounds_toArray, List.set_cons_zero, List.set_cons_succ, d2] <;> rfl, h0, h2, fun _ => rfl, h5, h6, h8, h9, h14, h16, y1, y4, y7, y10, y11, y12, hB, hE4, hE7, hE10, hE11, hE12, t13, t15⟩
    · obtain rfl := Option.some.inj hi
      clear hi hil
      have d3 := h3 (hall ⟨3, .data⟩ (by simp) rfl)
      have n7 : b' 7 = false := by
        cases hz : b' 7 with
        | false => rfl
        | true => exact absurd (hE7 hz) (by rw [hun]; decide)
      have n10 : b' 10 = false := by
        cases hz : b' 10 with
        | false => rfl
        | true => exact absurd (hE10 hz) (by rw [n7]; decide)
      have n11 : b' 11 = false := by
        cases hz : b' 11 with
        | false => rfl
        | true => exact absurd (hE11 hz) (by rw [n10]; decide)
      have n12 : b' 12 = false := by
        cases hz : b' 12 with
        | false => rfl
        | true => exact absurd (hE12 hz) (by rw [n11]; decide)
      have m1 := hall ⟨1, .data⟩ (by simp) rfl
      have o1 := y1 m1 hun
      refine wpOp_step rfl (fun K hK => ?_)
      have HKK := Lib.hid hK; clear hK
      simp only [putAll, Act.put, List.setIfInBounds_toArray, List.set_cons_zero, List.set_cons_succ]
      refine (if_pos rfl).mpr (wp_append_ints _ _ 22 rfl Try.underlying22 w3.heap.size _ ([]) rfl o1.out ⟨b, p, none⟩ m d (L) (d3) (HM.out) (intsL_cells (HIL.out w' hB.out)) (by have := HN4.out; simp; omega) (Nat.le_trans (Nat.le_refl _) hB.out.size) ?_)
      intro v' w2 ho2 hg2 hm2
      exact HKK.out _ _ ⟨_, by simp only [putAll, Act.put, List.setIfInBounds_toArray, List.set_cons_zero, List.set_cons_succ, d3] <;> rfl, h0, h2, h3, h5, h6, h8, h9, h14, h16, fun _ h => Bool.noConfusion h, fun _ _ => Lib.hid (ho2), fun h => absurd (show b' 7 = true from h) (by rw [n7]; decide), fun h => absurd (show b' 10 = true from h) (by rw [n10]; decide), fun h => absurd (show b' 11 = true from h) (by rw [n11]; decide), fun h => absurd (show b' 12 = true from h) (by rw [n12]; decide), Lib.hid (own_below o1.out hg2 hB.out (Nat.le_refl _) hB.out.size), fun _ => m1, fun _ => rfl, hE10, hE11, hE12, fun h => absurd (t13 h).1 (by rw [n12]; decide), fun h => absurd ((t13 (t15 h).1).1) (by rw [n12]; decide)⟩
    · obtain rfl := Option.some.inj hi
      clear hi hil
      refine wpOp_step rfl (fun K hK => ?_)
      have HKK := Lib.hid hK; clear hK
      simp only [putAll, Act.put, List.setIfInBounds_toArray, List.set_cons_zero, List.set_cons_succ]
      go_simp
      exact HKK.out _ _ ⟨_, by simp only [putAll, Act.put, List.setIfInBounds_toArray, List.set_cons_zero, List.set_cons_succ] <;> rfl, h0, h2, h3, fun _ => rfl, h6, h8, h9, h14, h16, y1, y4, y7, y10, y11, y12, hB, hE4, hE7, hE10, hE11, hE12, t13, t15⟩
    · obtain rfl := Option.some.inj hi
      clear hi hil
      have d5 := h5 (hall ⟨5, .data⟩ (by simp) rfl)
      have c0 := (HCL.out w' hB.out).2.2.1
      refine wpOp_step rfl (fun K hK => ?_)
      have HKK := Lib.hid hK; clear hK
      simp only [putAll, Act.put, List.setIfInBounds_toArray, List.set_cons_zero, List.set_cons_succ]
      go_simp
      exact HKK.out _ _ ⟨_, by simp only [putAll, Act.put, List.setIfInBounds_toArray, List.set_cons_zero, List.set_cons_succ, d5] <;> rfl, h0, h2, h3, h5, fun _ => rfl, h8, h9, h14, h16, y1, y4, y7, y10, y11, y12, hB, hE4, hE7, hE10, hE11, hE12, t13, t15⟩
    · obtain rfl := Option.some.inj hi
      clear hi hil
      have d6 := h6 (hall ⟨6, .data⟩ (by simp) rfl)
      have n10 : b' 10 = false := by
        cases hz : b' 10 with
        | false => rfl
        | true => exact absurd (hE10 hz) (by rw [hun]; decide)
      have n11 : b' 11 = false := by
        cases hz : b' 11 with
        | false => rfl
        | true => exact absurd (hE11 hz) (by rw [n10]; decide)
      have n12 : b' 12 = false := by
        cases hz : b' 12 with
        | false => rfl
        | true => exact absurd (hE12 hz) (by rw [n11]; decide)
      have m4 := hall ⟨4, .data⟩ (by simp) rfl
      have o4 := y4 m4 hun
      have m1 := hE4 m4
      refine wpOp_step rfl (fun K hK => ?_)
      have HKK := Lib.hid hK; clear hK
      simp only [putAll, Act.put, List.setIfInBounds_toArray, List.set_cons_zero, List.set_cons_succ]
      refine (if_pos rfl).mpr (wp_append_ints _ _ 22 rfl Try.underlying22 w3.heap.size _ (L) rfl o4.out ⟨b, p, none⟩ m d (L) (d6) (HM.out) (intsL_cells (HIL.out w' hB.out)) (by have := HN4.out; simp; omega) (Nat.le_trans (Nat.le_refl _) hB.out.size) ?_)
      intro v' w2 ho2 hg2 hm2
      exact HKK.out _ _ ⟨_, by simp only [putAll, Act.put, List.setIfInBounds_toArray, List.set_cons_zero, List.set_cons_succ, d6] <;> rfl, h0, h2, h3, h5, h6, h8, h9, h14, h16, fun _ h => absurd (show b' 4 = false from h) (by rw [m4]; decide), fun _ h => Bool.noConfusion h, fun _ _ => Lib.hid (ho2), fun h => absurd (show b' 10 = true from h) (by rw [n10]; decide), fun h => absurd (show b' 11 = true from h) (by rw [n11]; decide), fun h => absurd (show b' 12 = true from h) (by rw [n12]; decide), Lib.hid (own_below o4.out hg2 hB.out (Nat.le_refl _) hB.out.size), hE4, fun _ => m4, fun _ => rfl, hE11, hE12, fun h => absurd (t13 h).1 (by rw [n12]; decide), fun h => absurd ((t13 (t15 h).1).1) (by rw [n12]; decide)⟩
    · obtain rfl := Option.some.inj hi
      clear hi hil
      refine wpOp_step rfl (fun K hK => ?_)
      have HKK := Lib.hid hK; clear hK
      simp only [putAll, Act.put, List.setIfInBounds_toArray, List.set_cons_zero, List.set_cons_succ]
      go_simp
      exact HKK.out _ _ ⟨_, by simp only [putAll, Act.put, List.setIfInBounds_toArray, List.set_cons_zero, List.set_cons_succ] <;> rfl, h0, h2, h3, h5, h6, fun _ => rfl, h9, h14, h16, y1, y4, y7, y10, y11, y12, hB, hE4, hE7, hE10, hE11, hE12, t13, t15⟩
    · obtain rfl := Option.some.inj hi
      clear hi hil
      have d8 := h8 (hall ⟨8, .data⟩ (by simp) rfl)
      have c0 := (HCL.out w' hB.out).2.2.2
      refine wpOp_step rfl (fun K hK => ?_)
      have HKK := Lib.hid hK; clear hK
      simp only [putAll, Act.put, List.setIfInBounds_toArray, List.set_cons_zero, List.set_cons_succ]
      go_simp
      exact HKK.out _ _ ⟨_, by simp only [putAll, Act.put, List.setIfInBounds_toArray, List.set_cons_zero, List.set_cons_succ, d8] <;> rfl, h0, h2, h3, h5, h6, h8, fun _ => rfl, h14, h16, y1, y4, y7, y10, y11, y12, hB, hE4, hE7, hE10, hE11, hE12, t13, t15⟩
    · obtain rfl := Option.some.inj hi
      clear hi hil
      have d9 := h9 (hall ⟨9, .data⟩ (by simp) rfl)
      have n11 : b' 11 = false := by
        cases hz : b' 11 with
        | false => rfl
        | true => exact absurd (hE11 hz) (by rw [hun]; decide)
      have n12 : b' 12 = false := by
        cases hz : b' 12 with
        | false => rfl
        | true => exact absurd (hE12 hz) (by rw [n11]; decide)
      have m7 := hall ⟨7, .data⟩ (by simp) rfl
      have o7 := y7 m7 hun
      have m4 := hE7 m7
      have m1 := hE4 m4
      obtain ⟨xa, xc, q0⟩ := o7.out.row.shape
      generalize (L ++ L).length = xn at q0
      refine wpOp_step rfl (fun K hK => ?_)
      have HKK := Lib.hid hK; clear hK
      simp only [putAll, Act.put, List.setIfInBounds_toArray, List.set_cons_zero, List.set_cons_succ]
      simp only [q0]
      go_simp
      exact HKK.out _ _ ⟨.agg #[.slice xa xn xc, .int .i64 phase], by simp only [putAll, Act.put, List.setIfInBounds_toArray, List.set_cons_zero, List.set_cons_succ, d9, q0] <;> rfl, h0, h2, h3, h5, h6, h8, h9, h14, h16, fun _ h => absurd (show b' 4 = false from h) (by rw [m4]; decide), fun _ h => absurd (show b' 7 = false from h) (by rw [m7]; decide), fun _ h => Bool.noConfusion h, fun _ _ => Lib.hid (⟨_, rfl, q0 ▸ o7.out⟩), fun h => absurd (show b' 11 = true from h) (by rw [n11]; decide), fun h => absurd (show b' 12 = true from h) (by rw [n12]; decide), hB, hE4, hE7, fun _ => m7, fun _ => rfl, hE12, fun h => absurd (t13 h).1 (by rw [n12]; decide), fun h => absurd ((t13 (t15 h).1).1) (by rw [n12]; decide)⟩
    · obtain rfl := Option.some.inj hi
      clear hi hil
      have d0 := h0 (hall ⟨0, .data⟩ (by simp) rfl)
      have n12 : b' 12 = false := by
        cases hz : b' 12 with
        | false => rfl
        | true => exact absurd (hE12 hz) (by rw [hun]; decide)
      have m10 := hall ⟨10, .data⟩ (by simp) rfl
      have o10 := y10 m10 hun
      have m7 := hE10 m10
      have m4 := hE7 m7
      have m1 := hE4 m4
      obtain ⟨u, q1, ho⟩ := o10.out
      refine wpOp_step rfl (fun K hK => ?_)
      have HKK := Lib.hid hK; clear hK
      simp only [putAll, Act.put, List.setIfInBounds_toArray, List.set_cons_zero, List.set_cons_succ]
      go_simp
      refine (HD2.out w' u hB.out ho).mono ?_
      rintro e w2 ⟨v, S, rfl, hs, hm, hb2⟩
      exact HKK.out _ _ ⟨_, by simp only [putAll, Act.put, List.setIfInBounds_toArray, List.set_cons_zero, List.set_cons_succ, d0, q1] <;> rfl, h0, h2, h3, h5, h6, h8, h9, h14, h16, fun _ h => absurd (show b' 4 = false from h) (by rw [m4]; decide), fun _ h => absurd (show b' 7 = false from h) (by rw [m7]; decide), fun _ h => absurd (show b' 10 = false from h) (by rw [m10]; decide), fun _ h => Bool.noConfusion h, fun _ _ => Lib.hid (⟨v, S, rfl, hs, hm⟩), fun h => absurd (show b' 12 = true from h) (by rw [n12]; decide), Lib.hid (hB.out.trans (hb2.mono hB.out.size)), hE4, hE7, hE10, fun _ => m10, fun _ => rfl, fun h => absurd (t13 h).1 (by rw [n12]; decide), fun h => absurd ((t13 (t15 h).1).1) (by rw [n12]; decide)⟩
    · obtain rfl := Option.some.inj hi
      clear hi hil
      have m11 := hall ⟨11, .data⟩ (by simp) rfl
      have o11 := y11 m11 hun
      have m10 := hE11 m11
      have m7 := hE10 m10
      have m4 := hE7 m7
      have m1 := hE4 m4
      obtain ⟨v, S, q1, hs, hm⟩ := o11.out
      refine wpOp_step rfl (fun K hK => ?_)
      have HKK := Lib.hid hK; clear hK
      simp only [putAll, Act.put, List.setIfInBounds_toArray, List.set_cons_zero, List.set_cons_succ]
      go_simp
      exact HKK.out _ _ ⟨.tuple #[v, .int .i64 z], by simp only [putAll, Act.put, List.setIfInBounds_toArray, List.set_cons_zero, List.set_cons_succ, q1] <;> rfl, h0, h2, h3, h5, h6, h8, h9, h14, h16, fun _ h => absurd (show b' 4 = false from h) (by rw [m4]; decide), fun _ h => absurd (show b' 7 = false from h) (by rw [m7]; decide), fun _ h => absurd (show b' 10 = false from h) (by rw [m10]; decide), fun _ h => absurd (show b' 11 = false from h) (by rw [m11]; decide), fun _ h => Bool.noConfusion h, fun _ => Lib.hid (⟨v, S, rfl, hs, hm⟩), hB, hE4, hE7, hE10, hE11, fun _ => m11, fun h => absurd (t13 h).1 (by rw [hun]; decide), fun h => absurd ((t13 (t15 h).1).1) (by rw [hun]; decide)⟩
    · obtain rfl := Option.some.inj hi
      clear hi hil
      have o12 := y12 (hall ⟨12, .data⟩ (by simp) rfl)
      obtain ⟨v, S, q1, hs, hm⟩ := o12.out
      refine wpOp_step rfl (fun K hK => ?_)
      have HKK := Lib.hid hK; clear hK
      simp only [putAll, Act.put, List.setIfInBounds_toArray, List.set_cons_zero, List.set_cons_succ]
      go_simp
      exact HKK.out _ _ ⟨v, by simp only [putAll, Act.put, List.setIfInBounds_toArray, List.set_cons_zero, List.set_cons_succ, q1] <;> rfl, h0, h2, h3, h5, h6, h8, h9, h14, h16, y1, y4, y7, y10, y11, y12, hB, hE4, hE7, hE10, hE11, hE12, fun _ => ⟨hall ⟨12, .data⟩ (by simp) rfl, _, _, q1, rfl⟩, fun h => absurd (t15 h).1 (by rw [hun]; decide)⟩
    · obtain rfl := Option.some.inj hi
      clear hi hil
      have o12 := y12 (hall ⟨12, .data⟩ (by simp) rfl)
      obtain ⟨v, S, q1, hs, hm⟩ := o12.out
      refine wpOp_step rfl (fun K hK => ?_)
      have HKK := Lib.hid hK; clear hK
      simp only [putAll, Act.put, List.setIfInBounds_toArray, List.set_cons_zero, List.set_cons_succ]
      go_simp
      exact HKK.out _ _ ⟨_, by simp only [putAll, Act.put, List.setIfInBounds_toArray, List.set_cons_zero, List.set_cons_succ, q1] <;> rfl, h0, h2, h3, h5, h6, h8, h9, fun _ => rfl, h16, y1, y4, y7, y10, y11, y12, hB, hE4, hE7, hE10, hE11, hE12, t13, t15⟩
    · obtain rfl := Option.some.inj hi
      clear hi hil
      refine wpOp_step rfl (fun K hK => ?_)
      have HKK := Lib.hid hK; clear hK
      simp only [putAll, Act.put, List.setIfInBounds_toArray, List.set_cons_zero, List.set_cons_succ]
      go_simp
      exact HKK.out _ _ ⟨vs 13, by simp only [putAll, Act.put, List.setIfInBounds_toArray, List.set_cons_zero, List.set_cons_succ] <;> rfl, h0, h2, h3, h5, h6, h8, h9, h14, h16, y1, y4, y7, y10, y11, y12, hB, hE4, hE7, hE10, hE11, hE12, t13, fun _ => ⟨hall ⟨13, .data⟩ (by simp) rfl, rfl⟩⟩
    · obtain rfl := Option.some.inj hi
      clear hi hil
      have d14 := h14 (hall ⟨14, .data⟩ (by simp) rfl)
      refine wpOp_step rfl (fun K hK => ?_)
      have HKK := Lib.hid hK; clear hK
      simp only [putAll, Act.put, List.setIfInBounds_toArray, List.set_cons_zero, List.set_cons_succ]
      go_simp
      exact HKK.out _ _ ⟨_, by simp only [putAll, Act.put, List.setIfInBounds_toArray, List.set_cons_zero, List.set_cons_succ, d14] <;> rfl, h0, h2, h3, h5, h6, h8, h9, h14, fun _ => rfl, y1, y4, y7, y10, y11, y12, hB, hE4, hE7, hE10, hE11, hE12, t13, t15⟩
    · omega
  · rintro b' vs w4 hall ⟨h0, h2, h3, h5, h6, h8, h9, h14, h16, y1, y4, y7, y10, y11, y12, hB, hE4, hE7, hE10, hE11, hE12, t13, t15⟩
    have d0 := h0 (hall 0 (by simp))
    have d2 := h2 (hall 2 (by simp))
    have d3 := h3 (hall 3 (by simp))
    have d5 := h5 (hall 5 (by simp))
    have d6 := h6 (hall 6 (by simp))
    have d8 := h8 (hall 8 (by simp))
    have d9 := h9 (hall 9 (by simp))
    have d14 := h14 (hall 14 (by simp))
    have d16 := h16 (hall 16 (by simp))
    have PP := y12 (hall 12 (by simp))
    have e13 := t13 (hall 13 (by simp))
    have e15 := t15 (hall 15 (by simp))
    have BB := hB
    obtain ⟨v2, S2, q1, hs2, hm2⟩ := PP.out
    have f13 : vs 13 = v2 := by
      obtain ⟨_, x, y, q2, q3⟩ := e13
      rw [q1] at q2
      simp at q2
      rw [q3]; exact q2.1.symm
    have f15 : vs 15 = v2 := by rw [e15.2, f13]
    simp only [putAll, Act.put, List.setIfInBounds_toArray, List.set_cons_zero, List.set_cons_succ, d0, d2, d3, d5, d6, d8, d9, d14, d16, f13, f15]
    clear hall h0 d0 h2 d2 h3 d3 h5 d5 h6 d6 h8 d8 h9 d9 h14 d14 h16 d16 y1 y4 y7 y10 y11 y12 hB hE4 hE7 hE10 hE11 hE12 t13 e13 f13 t15 e15 f15
    have M4 := Lib.hid (M3.out.grow BB.out)
    have R4 := Lib.hid (R3.out.grow BB.out)
    have T4 := Lib.hid hs2
    have HM2S := Lib.hid hm2
    clear BB PP q1 hs2 hm2 HCL HIL HD2
    have HCL : Hid (∀ A, Below w4.heap.size w4 A → A.cell? ⟨w.heap.size, 0, none⟩ = some (.slice ao n c) ∧ A.cell? ⟨w.heap.size, 1, none⟩ = some (.bool cl) ∧ A.cell? ⟨w.heap.size + 1, 0, none⟩ = some (.slice (some ⟨b, p, none⟩) m d) ∧ A.cell? ⟨w.heap.size + 1, 1, none⟩ = some (.int .i64 phase)) := fun A hA => by
      have h := M4.out.grow hA
      exact ⟨h.sub.cell 0, h.sub.cell 1, h.pat.cell 0, h.pat.cell 1⟩
    have HIL : Hid (∀ A, Below w4.heap.size w4 A → IntsL A b p L) := fun A hA => HIA.out A (M4.out.grow hA).below
    have HXA : Hid (∀ A, Below w4.heap.size w4 A → ∀ j u, (intsV (L.drop 2))[j]? = some u → A.cell? (ax.add j) = some u) := fun A hA => HXA0.out A (M4.out.grow hA).below
    have HXB : Hid (∀ A, Below w4.heap.size w4 A → ∀ j u, (intsV (L.take 2))[j]? = some u → A.cell? ((⟨b, p, none⟩ : Addr).add j) = some u) := fun A hA => HXB0.out A (M4.out.grow hA).below
    obtain ⟨v2a, v2c, rfl⟩ := subs_shape T4.out.row
    clear M3 R3
    go_wp2_with fail
    refine wp_region_put (by kernel_rfl) (by kernel_rfl) (by kernel_rfl) (fun b' vs w' => (b' 1 = true → vs 1 = .pointer (some ⟨w.heap.size + 1, 0, none⟩)) ∧ (b' 2 = true → vs 2 = .slice (some ⟨b, p, none⟩) m d) ∧ (b' 3 = true → vs 3 = .slice (some ax) (m - 2) (d - 2)) ∧ (b' 5 = true → vs 5 = .pointer (some ⟨w.heap.size + 1, 0, none⟩)) ∧ (b' 6 = true → vs 6 = .slice (some ⟨b, p, none⟩) m d) ∧ (b' 7 = true → vs 7 = .slice (some ⟨b, p, none⟩) 2 d) ∧ (b' 0 = true → b' 4 = false → Hid (OwnI w' w4.heap.size (vs 0) ([]))) ∧ (b' 4 = true → b' 8 = false → Hid (OwnI w' w4.heap.size (vs 4) (L.drop 2))) ∧ (b' 8 = true → Hid (OwnI w' w4.heap.size (vs 8) (L.drop 2 ++ L.take 2))) ∧ Hid (Below w4.heap.size w4 w') ∧ (b' 4 = true → b' 0 = true) ∧ (b' 8 = true → b' 4 = true) ∧ (b' 9 = true → b' 8 = true ∧ vs 9 = vs 8)) ?_ ?_ ?_
    · intro vs
      exact ⟨fun h => Bool.noConfusion h, fun h => Bool.noConfusion h, fun h => Bool.noConfusion h, fun h => Bool.noConfusion h, fun h => Bool.noConfusion h, fun h => Bool.noConfusion h, fun h => Bool.noConfusion h, fun h => Bool.noConfusion h, fun h => Bool.noConfusion h, Lib.hid (below_drewN (Below.refl _ _) 1), fun h => Bool.noConfusion h, fun h => Bool.noConfusion h, fun h => Bool.noConfusion h⟩
    · rintro b' vs w' i op hi hun hall ⟨h1, h2, h3, h5, h6, h7, y0, y4, y8, hB, hE4, hE8, t9⟩
      have hil : i < 10 := (List.getElem?_eq_some_iff.1 hi).1
      rcases i with _ | _ | _ | _ | _ | _ | _ | _ | _ | _ | i
      · obtain rfl := Option.some.inj hi
        clear hi hil
        have n4 : b' 4 = false := by
          cases hz : b' 4 with
          | false => rfl
          | true => exact absurd (hE4 hz) (by rw [hun]; decide)
        have n8 : b' 8 = false := by
          cases hz : b' 8 with
          | false => rfl
          | true => exact absurd (hE8 hz) (by rw [n4]; decide)
        refine wpOp_step rfl (fun K hK => ?_)
        have HKK := Lib.hid hK; clear hK
        simp only [putAll, Act.put, List.setIfInBounds_toArray, List.set_cons_zero, List.set_cons_succ]
        go_simp
        have hb2 : Below w'.heap.size w' (w'.alloc (.cells #[] 3)) := (Below.refl _ _).alloc (Nat.le_refl _) _
        exact HKK.out _ _ ⟨_, by simp only [putAll, Act.put, List.setIfInBounds_toArray, List.set_cons_zero, List.set_cons_succ] <;> rfl, h1, h2, h3, h5, h6, h7, fun _ _ => Lib.hid (OwnI.made0 w' _ hB.out.size), fun h => absurd (show b' 4 = true from h) (by rw [n4]; decide), fun h => absurd (show b' 8 = true from h) (by rw [n8]; decide), Lib.hid (hB.out.trans (hb2.mono hB.out.size)), fun _ => rfl, hE8, fun h => absurd (t9 h).1 (by rw [n8]; decide)⟩
      · obtain rfl := Option.some.inj hi
        clear hi hil
        refine wpOp_step rfl (fun K hK => ?_)
        have HKK := Lib.hid hK; clear hK
        simp only [putAll, Act.put, List.setIfInBounds_toArray, List.set_cons_zero, List.set_cons_succ]
        go_simp
        exact HKK.out _ _ ⟨_, by simp only [putAll, Act.put, List.setIfInBounds_toArray, List.set_cons_zero, List.set_cons_succ] <;> rfl, fun _ => rfl, h2, h3, h5, h6, h7, y0, y4, y8, hB, hE4, hE8, t9⟩
      · obtain rfl := Option.some.inj hi
        clear hi hil
        have d1 := h1 (hall ⟨1, .data⟩ (by simp) rfl)
        have c0 := (HCL.out w' hB.out).2.2.1
        refine wpOp_step rfl (fun K hK => ?_)
        have HKK := Lib.hid hK; clear hK
        simp only [putAll, Act.put, List.setIfInBounds_toArray, List.set_cons_zero, List.set_cons_succ]
        go_simp
        exact HKK.out _ _ ⟨_, by simp only [putAll, Act.put, List.setIfInBounds_toArray, List.set_cons_zero, List.set_cons_succ, d1] <;> rfl, h1, fun _ => rfl, h3, h5, h6, h7, y0, y4, y8, hB, hE4, hE8, t9⟩
      · obtain rfl := Option.some.inj hi
        clear hi hil
        have d2 := h2 (hall ⟨2, .data⟩ (by simp) rfl)
        refine wpOp_step rfl (fun K hK => ?_)
        have HKK := Lib.hid hK; clear hK
        simp only [putAll, Act.put, List.setIfInBounds_toArray, List.set_cons_zero, List.set_cons_succ]
        refine (if_pos rfl).mpr (wp_slice_from _ rfl b p m d (d2) HM2.out ?_)
        rw [HAX.out]
        exact HKK.out _ _ ⟨_, by simp only [putAll, Act.put, List.setIfInBounds_toArray, List.set_cons_zero, List.set_cons_succ, d2] <;> rfl, h1, h2, fun _ => rfl, h5, h6, h7, y0, y4, y8, hB, hE4, hE8, t9⟩
      · obtain rfl := Option.some.inj hi
        clear hi hil
        have d3 := h3 (hall ⟨3, .data⟩ (by simp) rfl)
        have n8 : b' 8 = false := by
          cases hz : b' 8 with
          | false => rfl
          | true => exact absurd (hE8 hz) (by rw [hun]; decide)
        have m0 := hall ⟨0, .data⟩ (by simp) rfl
        have o0 := y0 m0 hun
        refine wpOp_step rfl (fun K hK => ?_)
        have HKK := Lib.hid hK; clear hK
        simp only [putAll, Act.put, List.setIfInBounds_toArray, List.set_cons_zero, List.set_cons_succ]
        refine (if_pos rfl).mpr (wp_append_ints _ _ 22 rfl Try.underlying22 w4.heap.size _ ([]) rfl o0.out ax (m - 2) (d - 2) ((L.drop 2)) (d3) (by rw [List.length_drop, HM.out]) (HXA.out w' hB.out) (by have := HN4.out; simp; omega) (Nat.le_trans (Nat.le_refl _) hB.out.size) ?_)
        intro v' w2 ho2 hg2 hm2
        exact HKK.out _ _ ⟨_, by simp only [putAll, Act.put, List.setIfInBounds_toArray, List.set_cons_zero, List.set_cons_succ, d3] <;> rfl, h1, h2, h3, h5, h6, h7, fun _ h => Bool.noConfusion h, fun _ _ => Lib.hid (ho2), fun h => absurd (show b' 8 = true from h) (by rw [n8]; decide), Lib.hid (own_below o0.out hg2 hB.out (Nat.le_refl _) hB.out.size), fun _ => m0, fun _ => rfl, fun h => absurd (t9 h).1 (by rw [n8]; decide)⟩
      · obtain rfl := Option.some.inj hi
        clear hi hil
        refine wpOp_step rfl (fun K hK => ?_)
        have HKK := Lib.hid hK; clear hK
        simp only [putAll, Act.put, List.setIfInBounds_toArray, List.set_cons_zero, List.set_cons_succ]
        go_simp
        exact HKK.out _ _ ⟨_, by simp only [putAll, Act.put, List.setIfInBounds_toArray, List.set_cons_zero, List.set_cons_succ] <;> rfl, h1, h2, h3, fun _ => rfl, h6, h7, y0, y4, y8, hB, hE4, hE8, t9⟩
      · obtain rfl := Option.some.inj hi
        clear hi hil
        have d5 := h5 (hall ⟨5, .data⟩ (by simp) rfl)
        have c0 := (HCL.out w' hB.out).2.2.1
        refine wpOp_step rfl (fun K hK => ?_)
        have HKK := Lib.hid hK; clear hK
        simp only [putAll, Act.put, List.setIfInBounds_toArray, List.set_cons_zero, List.set_cons_succ]
        go_simp
        exact HKK.out _ _ ⟨_, by simp only [putAll, Act.put, List.setIfInBounds_toArray, List.set_cons_zero, List.set_cons_succ, d5] <;> rfl, h1, h2, h3, h5, fun _ => rfl, h7, y0, y4, y8, hB, hE4, hE8, t9⟩
      · obtain rfl := Option.some.inj hi
        clear hi hil
        have d6 := h6 (hall ⟨6, .data⟩ (by simp) rfl)
        refine wpOp_step rfl (fun K hK => ?_)
        have HKK := Lib.hid hK; clear hK
        simp only [putAll, Act.put, List.setIfInBounds_toArray, List.set_cons_zero, List.set_cons_succ]
        refine (if_pos rfl).mpr (wp_slice_to _ rfl b p m d (d6) HD22.out ?_)
        exact HKK.out _ _ ⟨_, by simp only [putAll, Act.put, List.setIfInBounds_toArray, List.set_cons_zero, List.set_cons_succ, d6] <;> rfl, h1, h2, h3, h5, h6, fun _ => rfl, y0, y4, y8, hB, hE4, hE8, t9⟩
      · obtain rfl := Option.some.inj hi
        clear hi hil
        have d7 := h7 (hall ⟨7, .data⟩ (by simp) rfl)
        have m4 := hall ⟨4, .data⟩ (by simp) rfl
        have o4 := y4 m4 hun
        have m0 := hE4 m4
        refine wpOp_step rfl (fun K hK => ?_)
        have HKK := Lib.hid hK; clear hK
        simp only [putAll, Act.put, List.setIfInBounds_toArray, List.set_cons_zero, List.set_cons_succ]
        refine (if_pos rfl).mpr (wp_append_ints _ _ 22 rfl Try.underlying22 w4.heap.size _ (L.drop 2) rfl o4.out ⟨b, p, none⟩ 2 d ((L.take 2)) (d7) (by rw [List.length_take, HM.out]; have := HM2.out; omega) (HXB.out w' hB.out) (by have := HN4.out; simp; omega) (Nat.le_trans (Nat.le_refl _) hB.out.size) ?_)
        intro v' w2 ho2 hg2 hm2
        exact HKK.out _ _ ⟨_, by simp only [putAll, Act.put, List.setIfInBounds_toArray, List.set_cons_zero, List.set_cons_succ, d7] <;> rfl, h1, h2, h3, h5, h6, h7, fun _ h => absurd (show b' 4 = false from h) (by rw [m4]; decide), fun _ h => Bool.noConfusion h, fun _ => Lib.hid (ho2), Lib.hid (own_below o4.out hg2 hB.out (Nat.le_refl _) hB.out.size), hE4, fun _ => m4, fun h => absurd (t9 h).1 (by rw [hun]; decide)⟩
      · obtain rfl := Option.some.inj hi
        clear hi hil
        refine wpOp_step rfl (fun K hK => ?_)
        have HKK := Lib.hid hK; clear hK
        simp only [putAll, Act.put, List.setIfInBounds_toArray, List.set_cons_zero, List.set_cons_succ]
        go_simp
        exact HKK.out _ _ ⟨vs 8, by simp only [putAll, Act.put, List.setIfInBounds_toArray, List.set_cons_zero, List.set_cons_succ] <;> rfl, h1, h2, h3, h5, h6, h7, y0, y4, y8, hB, hE4, hE8, fun _ => ⟨hall ⟨8, .data⟩ (by simp) rfl, rfl⟩⟩
      · omega
    · rintro b' vs w5 hall ⟨h1, h2, h3, h5, h6, h7, y0, y4, y8, hB, hE4, hE8, t9⟩
      have d1 := h1 (hall 1 (by simp))
      have d2 := h2 (hall 2 (by simp))
      have d3 := h3 (hall 3 (by simp))
      have d5 := h5 (hall 5 (by simp))
      have d6 := h6 (hall 6 (by simp))
      have d7 := h7 (hall 7 (by simp))
      have PP := y8 (hall 8 (by simp))
      have e9 := t9 (hall 9 (by simp))
      have BB := hB
      have f9 : vs 9 = vs 8 := e9.2
      simp only [putAll, Act.put, List.setIfInBounds_toArray, List.set_cons_zero, List.set_cons_succ, d1, d2, d3, d5, d6, d7, f9]
      clear hall h1 d1 h2 d2 h3 d3 h5 d5 h6 d6 h7 d7 y0 y4 y8 hB hE4 hE8 t9 e9 f9
      have M5 := Lib.hid (M4.out.grow BB.out)
      have R5 := Lib.hid (R4.out.grow BB.out)
      have T5 := Lib.hid (T4.out.grow BB.out)
      have U5 : Hid (OwnI w5 0 (vs 8) (L.drop 2 ++ L.take 2)) := owns_base PP.out (Nat.zero_le _)
      clear BB PP HCL HIL HXA HXB
      generalize vs 8 = tv at *
      obtain ⟨ta, tc, etv⟩ := U5.out.row.shape
      generalize (L.drop 2 ++ L.take 2).length = tn at etv
      subst etv
      have hm0 : 0 < m := Nat.lt_of_lt_of_le (by decide) HM2.out
      have hm1 : 1 < m := Nat.lt_of_lt_of_le (by decide) HM2.out
      have hz0 : (0 : Int) < (m : Int) := by omega
      have hz1 : (1 : Int) < (m : Int) := by omega
      have HCL : Hid (∀ A, Below w5.heap.size w5 A → A.cell? ⟨w.heap.size, 0, none⟩ = some (.slice ao n c) ∧ A.cell? ⟨w.heap.size, 1, none⟩ = some (.bool cl) ∧ A.cell? ⟨w.heap.size + 1, 0, none⟩ = some (.slice (some ⟨b, p, none⟩) m d) ∧ A.cell? ⟨w.heap.size + 1, 1, none⟩ = some (.int .i64 phase)) := fun A hA => by
        have h := M5.out.grow hA
        exact ⟨h.sub.cell 0, h.sub.cell 1, h.pat.cell 0, h.pat.cell 1⟩
      have HIL : Hid (∀ A, Below w5.heap.size w5 A → IntsL A b p L) := fun A hA => HIA.out A (M5.out.grow hA).below
      clear M4 R4 T4
      go_wp2_with fail
      refine wp_region_put (by kernel_rfl) (by kernel_rfl) (by kernel_rfl) (fun b' vs w' => (b' 0 = true → vs 0 = .pointer (some ⟨w.heap.size + 1, 1, none⟩)) ∧ (b' 1 = true → vs 1 = .int .i64 phase) ∧ (b' 2 = true → vs 2 = .pointer (some ⟨w.heap.size + 1, 0, none⟩)) ∧ (b' 3 = true → vs 3 = .slice (some ⟨b, p, none⟩) m d) ∧ (b' 4 = true → vs 4 = .pointer (some ⟨b, p, none⟩)) ∧ (b' 5 = true → vs 5 = .int .i64 x0) ∧ (b' 6 = true → vs 6 = .int .i64 t) ∧ (b' 7 = true → vs 7 = .pointer (some ⟨w.heap.size + 1, 0, none⟩)) ∧ (b' 8 = true → vs 8 = .slice (some ⟨b, p, none⟩) m d) ∧ (b' 9 = true → vs 9 = .pointer (some ⟨b, p + 1, none⟩)) ∧ (b' 10 = true → vs 10 = .int .i64 x1) ∧ (b' 11 = true → vs 11 = .int .i64 q) ∧ (b' 12 = true → vs 12 = .int .i64 q) ∧ (Hid (Below w5.heap.size w5 w' ∧ w5.heap.size ≤ w'.heap.size))) ?_ ?_ ?_
      · intro vs
        exact ⟨fun h => Bool.noConfusion h, fun h => Bool.noConfusion h, fun h => Bool.noConfusion h, fun h => Bool.noConfusion h, fun h => Bool.noConfusion h, fun h => Bool.noConfusion h, fun h => Bool.noConfusion h, fun h => Bool.noConfusion h, fun h => Bool.noConfusion h, fun h => Bool.noConfusion h, fun h => Bool.noConfusion h, fun h => Bool.noConfusion h, fun h => Bool.noConfusion h, Lib.hid ⟨below_drewN (Below.refl _ _) 1, Nat.le_refl _⟩⟩
      · rintro b' vs w' i op hi hun hall ⟨h0, h1, h2, h3, h4, h5, h6, h7, h8, h9, h10, h11, h12, hB⟩
        have hil : i < 13 := (List.getElem?_eq_some_iff.1 hi).1
        rcases i with _ | _ | _ | _ | _ | _ | _ | _ | _ | _ | _ | _ | _ | i
        · obtain rfl := Option.some.inj hi
          clear hi hil
          refine wpOp_step rfl (fun K hK => ?_)
          have HKK := Lib.hid hK; clear hK
          simp only [putAll, Act.put, List.setIfInBounds_toArray, List.set_cons_zero, List.set_cons_succ]
          go_simp
          exact HKK.out _ _ ⟨_, by simp only [putAll, Act.put, List.setIfInBounds_toArray, List.set_cons_zero, List.set_cons_succ] <;> rfl, fun _ => rfl, h1, h2, h3, h4, h5, h6, h7, h8, h9, h10, h11, h12, hB⟩
        · obtain rfl := Option.some.inj hi
          clear hi hil
          have d0 := h0 (hall ⟨0, .data⟩ (by simp) rfl)
          have c0 := (HCL.out w' hB.out.1).2.2.2
          refine wpOp_step rfl (fun K hK => ?_)
          have HKK := Lib.hid hK; clear hK
          simp only [putAll, Act.put, List.setIfInBounds_toArray, List.set_cons_zero, List.set_cons_succ]
          go_simp
          exact HKK.out _ _ ⟨_, by simp only [putAll, Act.put, List.setIfInBounds_toArray, List.set_cons_zero, List.set_cons_succ, d0] <;> rfl, h0, fun _ => rfl, h2, h3, h4, h5, h6, h7, h8, h9, h10, h11, h12, hB⟩
        · obtain rfl := Option.some.inj hi
          clear hi hil
          refine wpOp_step rfl (fun K hK => ?_)
          have HKK := Lib.hid hK; clear hK
          simp only [putAll, Act.put, List.setIfInBounds_toArray, List.set_cons_zero, List.set_cons_succ]
          go_simp
          exact HKK.out _ _ ⟨_, by simp only [putAll, Act.put, List.setIfInBounds_toArray, List.set_cons_zero, List.set_cons_succ] <;> rfl, h0, h1, fun _ => rfl, h3, h4, h5, h6, h7, h8, h9, h10, h11, h12, hB⟩
        · obtain rfl := Option.some.inj hi
          clear hi hil
          have d2 := h2 (hall ⟨2, .data⟩ (by simp) rfl)
          have c0 := (HCL.out w' hB.out.1).2.2.1
          refine wpOp_step rfl (fun K hK => ?_)
          have HKK := Lib.hid hK; clear hK
          simp only [putAll, Act.put, List.setIfInBounds_toArray, List.set_cons_zero, List.set_cons_succ]
          go_simp
          exact HKK.out _ _ ⟨_, by simp only [putAll, Act.put, List.setIfInBounds_toArray, List.set_cons_zero, List.set_cons_succ, d2] <;> rfl, h0, h1, h2, fun _ => rfl, h4, h5, h6, h7, h8, h9, h10, h11, h12, hB⟩
        · obtain rfl := Option.some.inj hi
          clear hi hil
          have d3 := h3 (hall ⟨3, .data⟩ (by simp) rfl)
          refine wpOp_step rfl (fun K hK => ?_)
          have HKK := Lib.hid hK; clear hK
          simp only [putAll, Act.put, List.setIfInBounds_toArray, List.set_cons_zero, List.set_cons_succ]
          go_simp
          exact HKK.out _ _ ⟨_, by simp only [putAll, Act.put, List.setIfInBounds_toArray, List.set_cons_zero, List.set_cons_succ, d3] <;> rfl, h0, h1, h2, h3, fun _ => rfl, h5, h6, h7, h8, h9, h10, h11, h12, hB⟩
        · obtain rfl := Option.some.inj hi
          clear hi hil
          have d4 := h4 (hall ⟨4, .data⟩ (by simp) rfl)
          have c0 : w'.cell? ⟨b, p, none⟩ = some (.int .i64 x0) := (HIL.out w' hB.out.1) 0 x0 HX0.out
          refine wpOp_step rfl (fun K hK => ?_)
          have HKK := Lib.hid hK; clear hK
          simp only [putAll, Act.put, List.setIfInBounds_toArray, List.set_cons_zero, List.set_cons_succ]
          go_simp
          exact HKK.out _ _ ⟨_, by simp only [putAll, Act.put, List.setIfInBounds_toArray, List.set_cons_zero, List.set_cons_succ, d4] <;> rfl, h0, h1, h2, h3, h4, fun _ => rfl, h6, h7, h8, h9, h10, h11, h12, hB⟩
        · obtain rfl := Option.some.inj hi
          clear hi hil
          have d1 := h1 (hall ⟨1, .data⟩ (by simp) rfl)
          have d5 := h5 (hall ⟨5, .data⟩ (by simp) rfl)
          refine wpOp_step rfl (fun K hK => ?_)
          have HKK := Lib.hid hK; clear hK
          simp only [putAll, Act.put, List.setIfInBounds_toArray, List.set_cons_zero, List.set_cons_succ]
          go_simp
          exact HKK.out _ _ ⟨_, by simp only [putAll, Act.put, List.setIfInBounds_toArray, List.set_cons_zero, List.set_cons_succ, d1, d5, E1.out] <;> rfl, h0, h1, h2, h3, h4, h5, fun _ => rfl, h7, h8, h9, h10, h11, h12, hB⟩
        · obtain rfl := Option.some.inj hi
          clear hi hil
          refine wpOp_step rfl (fun K hK => ?_)
          have HKK := Lib.hid hK; clear hK
          simp only [putAll, Act.put, List.setIfInBounds_toArray, List.set_cons_zero, List.set_cons_succ]
          go_simp
          exact HKK.out _ _ ⟨_, by simp only [putAll, Act.put, List.setIfInBounds_toArray, List.set_cons_zero, List.set_cons_succ] <;> rfl, h0, h1, h2, h3, h4, h5, h6, fun _ => rfl, h8, h9, h10, h11, h12, hB⟩
        · obtain rfl := Option.some.inj hi
          clear hi hil
          have d7 := h7 (hall ⟨7, .data⟩ (by simp) rfl)
          have c0 := (HCL.out w' hB.out.1).2.2.1
          refine wpOp_step rfl (fun K hK => ?_)
          have HKK := Lib.hid hK; clear hK
          simp only [putAll, Act.put, List.setIfInBounds_toArray, List.set_cons_zero, List.set_cons_succ]
          go_simp
          exact HKK.out _ _ ⟨_, by simp only [putAll, Act.put, List.setIfInBounds_toArray, List.set_cons_zero, List.set_cons_succ, d7] <;> rfl, h0, h1, h2, h3, h4, h5, h6, h7, fun _ => rfl, h9, h10, h11, h12, hB⟩
        · obtain rfl := Option.some.inj hi
          clear hi hil
          have d8 := h8 (hall ⟨8, .data⟩ (by simp) rfl)
          refine wpOp_step rfl (fun K hK => ?_)
          have HKK := Lib.hid hK; clear hK
          simp only [putAll, Act.put, List.setIfInBounds_toArray, List.set_cons_zero, List.set_cons_succ]
          go_simp
          exact HKK.out _ _ ⟨_, by simp only [putAll, Act.put, List.setIfInBounds_toArray, List.set_cons_zero, List.set_cons_succ, d8] <;> rfl, h0, h1, h2, h3, h4, h5, h6, h7, h8, fun _ => rfl, h10, h11, h12, hB⟩
        · obtain rfl := Option.some.inj hi
          clear hi hil
          have d9 := h9 (hall ⟨9, .data⟩ (by simp) rfl)
          have c0 : w'.cell? ⟨b, p + 1, none⟩ = some (.int .i64 x1) := (HIL.out w' hB.out.1) 1 x1 HX1.out
          refine wpOp_step rfl (fun K hK => ?_)
          have HKK := Lib.hid hK; clear hK
          simp only [putAll, Act.put, List.setIfInBounds_toArray, List.set_cons_zero, List.set_cons_succ]
          go_simp
          exact HKK.out _ _ ⟨_, by simp only [putAll, Act.put, List.setIfInBounds_toArray, List.set_cons_zero, List.set_cons_succ, d9] <;> rfl, h0, h1, h2, h3, h4, h5, h6, h7, h8, h9, fun _ => rfl, h11, h12, hB⟩
        · obtain rfl := Option.some.inj hi
          clear hi hil
          have d6 := h6 (hall ⟨6, .data⟩ (by simp) rfl)
          have d10 := h10 (hall ⟨10, .data⟩ (by simp) rfl)
          refine wpOp_step rfl (fun K hK => ?_)
          have HKK := Lib.hid hK; clear hK
          simp only [putAll, Act.put, List.setIfInBounds_toArray, List.set_cons_zero, List.set_cons_succ]
          go_simp
          exact HKK.out _ _ ⟨_, by simp only [putAll, Act.put, List.setIfInBounds_toArray, List.set_cons_zero, List.set_cons_succ, d6, d10, E2.out] <;> rfl, h0, h1, h2, h3, h4, h5, h6, h7, h8, h9, h10, fun _ => rfl, h12, hB⟩
        · obtain rfl := Option.some.inj hi
          clear hi hil
          have d11 := h11 (hall ⟨11, .data⟩ (by simp) rfl)
          refine wpOp_step rfl (fun K hK => ?_)
          have HKK := Lib.hid hK; clear hK
          simp only [putAll, Act.put, List.setIfInBounds_toArray, List.set_cons_zero, List.set_cons_succ]
          go_simp
          exact HKK.out _ _ ⟨_, by simp only [putAll, Act.put, List.setIfInBounds_toArray, List.set_cons_zero, List.set_cons_succ, d11] <;> rfl, h0, h1, h2, h3, h4, h5, h6, h7, h8, h9, h10, h11, fun _ => rfl, hB⟩
        · omega
      · rintro b' vs w2 hall ⟨h0, h1, h2, h3, h4, h5, h6, h7, h8, h9, h10, h11, h12, hB⟩
        have d0 := h0 (hall 0 (by simp))
        have d1 := h1 (hall 1 (by simp))
        have d2 := h2 (hall 2 (by simp))
        have d3 := h3 (hall 3 (by simp))
        have d4 := h4 (hall 4 (by simp))
        have d5 := h5 (hall 5 (by simp))
        have d6 := h6 (hall 6 (by simp))
        have d7 := h7 (hall 7 (by simp))
        have d8 := h8 (hall 8 (by simp))
        have d9 := h9 (hall 9 (by simp))
        have d10 := h10 (hall 10 (by simp))
        have d11 := h11 (hall 11 (by simp))
        have d12 := h12 (hall 12 (by simp))
        have BB := hB
        simp only [putAll, Act.put, List.setIfInBounds_toArray, List.set_cons_zero, List.set_cons_succ, d0, d1, d2, d3, d4, d5, d6, d7, d8, d9, d10, d11, d12]
        clear hall h0 d0 h1 d1 h2 d2 h3 d3 h4 d4 h5 d5 h6 d6 h7 d7 h8 d8 h9 d9 h10 d10 h11 d11 h12 d12 hB
        have M6 := Lib.hid (M5.out.grow BB.out.1)
        have R6 := Lib.hid (R5.out.grow BB.out.1)
        have T6 := Lib.hid (T5.out.grow BB.out.1)
        have U6 := Lib.hid (U5.out.grow BB.out.1)
        clear BB HCL HIL M5 R5 T5 U5
        have s0 := M6.out.sub.cell 0
        have s1 := M6.out.sub.cell 1
        have p0 := M6.out.pat.cell 0
        have p1 := M6.out.pat.cell 1
        simp only [List.getElem?_toArray, List.getElem?_cons_zero, List.getElem?_cons_succ] at s0 s1 p0 p1
        by_cases hq : q < 0
        · have hdq : decide (q < 0) = true := by simp; omega
          have HD3 : Hid (∀ A u, Below w.heap.size w A → OwnI A 0 u (L.drop 2 ++ L.take 2) → Calls Try.prog 25 #[.agg #[.slice ao n c, .bool cl], .agg #[u, .int .i64 r]] A fun e w' => ∃ v S, e = .returned (.tuple #[v, .int .i64 z]) ∧ SubsR w' v S ∧ S.map Sb.plain = E ∧ Below A.heap.size A w') := HDT.out r (by have h := HTP.out; rw [if_pos hq] at h; exact h)
          clear hq
          go_wp2_with fail
          refine (HSU.out _ M6.out.below).mono ?_
          rintro e w7 ⟨rfl, hb⟩
          have M7 := Lib.hid (M6.out.grow hb)
          have R7 := Lib.hid (R6.out.grow hb)
          have T7 := Lib.hid (T6.out.grow hb)
          have U7 := Lib.hid (U6.out.grow hb)
          clear hb s0 s1 p0 p1
          have s0 := M7.out.sub.cell 0
          have s1 := M7.out.sub.cell 1
          have p0 := M7.out.pat.cell 0
          have p1 := M7.out.pat.cell 1
          simp only [List.getElem?_toArray, List.getElem?_cons_zero, List.getElem?_cons_succ] at s0 s1 p0 p1
          go_wp2_with fail
          refine (HD3.out _ _ M7.out.below U7.out).mono ?_
          rintro e w8 ⟨v3, S3, rfl, hs3, hm3, hb⟩
          have M8 := Lib.hid (M7.out.grow hb)
          have R8 := Lib.hid (R7.out.grow hb)
          have T8 := Lib.hid (T7.out.grow hb)
          have V8 := Lib.hid hs3
          have HM3 := Lib.hid hm3
          clear hb hs3 hm3 s0 s1 p0 p1
          have HK1 : Hid (∀ A, Below w8.heap.size w8 A → Calls Try.prog 28 #[v1, .slice v2a S2.length v2c] A fun e w' => e = .returned (.bool true) ∧ Below A.heap.size A w') := fun A hA => alike_c _ _ S1 S2 A (R8.out.grow hA) (T8.out.grow hA) (HM1.out.trans HM2S.out.symm) (by rw [HM1.out]; exact HLE.out.1) (by rw [← List.length_map (f := Sb.plain), HM1.out]; exact HLE.out.2)
          have HK2 : Hid (∀ A, Below w8.heap.size w8 A → Calls Try.prog 28 #[v1, v3] A fun e w' => e = .returned (.bool true) ∧ Below A.heap.size A w') := fun A hA => alike_c _ _ S1 S3 A (R8.out.grow hA) (V8.out.grow hA) (HM1.out.trans HM3.out.symm) (by rw [HM1.out]; exact HLE.out.1) (by rw [← List.length_map (f := Sb.plain), HM1.out]; exact HLE.out.2)
          have ez : (z == z) = true := by simp
          go_wp2_with fail
          refine (HK1.out _ (Below.refl _ _)).mono ?_
          rintro e w9 ⟨rfl, hb⟩
          have B9 := Lib.hid hb
          clear hb
          go_wp2_with fail
          refine (HK2.out _ B9.out).mono ?_
          rintro e w10 ⟨rfl, hb⟩
          have B10 : Hid (Below w.heap.size w w10) := M8.out.below.trans ((B9.out.trans (hb.mono B9.out.size)).mono M8.out.below.size)
          clear hb
          go_wp2_with fail
          refine (HAW.out _).mono ?_
          rintro e wz ⟨rfl, hb⟩
          have BZ : Hid (Below w.heap.size w wz) := B10.out.trans (hb.mono B10.out.size)
          clear hb
          go_wp2_with fail
          go_ret
          exact ⟨rfl, BZ.out⟩
        · have hdq : decide (q < 0) = false := by simp; omega
          have HD3 : Hid (∀ A u, Below w.heap.size w A → OwnI A 0 u (L.drop 2 ++ L.take 2) → Calls Try.prog 25 #[.agg #[.slice ao n c, .bool cl], .agg #[u, .int .i64 q]] A fun e w' => ∃ v S, e = .returned (.tuple #[v, .int .i64 z]) ∧ SubsR w' v S ∧ S.map Sb.plain = E ∧ Below A.heap.size A w') := HDT.out q (by have h := HTP.out; rw [if_neg hq] at h; exact h)
          clear hq
          go_wp2_with fail
          refine (HD3.out _ _ M6.out.below U6.out).mono ?_
          rintro e w8 ⟨v3, S3, rfl, hs3, hm3, hb⟩
          have M8 := Lib.hid (M6.out.grow hb)
          have R8 := Lib.hid (R6.out.grow hb)
          have T8 := Lib.hid (T6.out.grow hb)
          have V8 := Lib.hid hs3
          have HM3 := Lib.hid hm3
          clear hb hs3 hm3 s0 s1 p0 p1
          have HK1 : Hid (∀ A, Below w8.heap.size w8 A → Calls Try.prog 28 #[v1, .slice v2a S2.length v2c] A fun e w' => e = .returned (.bool true) ∧ Below A.heap.size A w') := fun A hA => alike_c _ _ S1 S2 A (R8.out.grow hA) (T8.out.grow hA) (HM1.out.trans HM2S.out.symm) (by rw [HM1.out]; exact HLE.out.1) (by rw [← List.length_map (f := Sb.plain), HM1.out]; exact HLE.out.2)
          have HK2 : Hid (∀ A, Below w8.heap.size w8 A → Calls Try.prog 28 #[v1, v3] A fun e w' => e = .returned (.bool true) ∧ Below A.heap.size A w') := fun A hA => alike_c _ _ S1 S3 A (R8.out.grow hA) (V8.out.grow hA) (HM1.out.trans HM3.out.symm) (by rw [HM1.out]; exact HLE.out.1) (by rw [← List.length_map (f := Sb.plain), HM1.out]; exact HLE.out.2)
          have ez : (z == z) = true := by simp
          go_wp2_with fail
          refine (HK1.out _ (Below.refl _ _)).mono ?_
          rintro e w9 ⟨rfl, hb⟩
          have B9 := Lib.hid hb
          clear hb
          go_wp2_with fail
          refine (HK2.out _ B9.out).mono ?_
          rintro e w10 ⟨rfl, hb⟩
          have B10 : Hid (Below w.heap.size w w10) := M8.out.below.trans ((B9.out.trans (hb.mono B9.out.size)).mono M8.out.below.size)
          clear hb
          go_wp2_with fail
          refine (HAW.out _).mono ?_
          rintro e wz ⟨rfl, hb⟩
          have BZ : Hid (Below w.heap.size w wz) := B10.out.trans (hb.mono B10.out.size)
          clear hb
          go_wp2_with fail
          go_ret
          exact ⟨rfl, BZ.out⟩
theorem dashTurns_law (sv : Value) (l : List Pt) (cl : Bool) (bo : Option Addr) (m d : Nat) (L : List Int) (phase : Int) (w : World) (row : Row w sv l) (rowL : RowI w (.slice bo m d) L) (hmd : m ≤ d) :
    Calls Try.prog 7 #[.agg #[sv, .bool cl], .agg #[.slice bo m d, .int .i64 phase]] w fun e w' => e = .returned (.bool true) ∧ Below w.heap.size w w' := by
  obtain ⟨ao, c, rfl⟩ := row.shape
  have hm : L.length = m := by
    obtain ⟨_, _, e⟩ := rowL.shape
    cases e; rfl
  by_cases h : 20 < l.length ∨ rightI L phase = false ∨ m = 0 ∨ 4 < m
  · exact dashTurns_far ao l.length c cl bo m d L phase w rowL h
  · have h1 : rightI L phase = true := by
      cases hr : rightI L phase with
      | true => rfl
      | false => exact absurd (.inr (.inl hr)) h
    obtain ⟨x0, hx0⟩ : ∃ x, L[0]? = some x := ⟨_, List.getElem?_eq_getElem (by omega)⟩
    obtain ⟨b, p, rfl, _, _⟩ := rowL.addr hx0
    exact dashTurns_near ao l.length c l cl b p m d L phase w row rfl (by omega) rowL hm hmd h1 (fun e => by subst e; cases hx0) (by omega)
end Go.Proofs.Ytclkkdhfdoidfaa
