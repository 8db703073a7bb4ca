/- Layer 9: the law DashBounds. -/
import Derived.Test.YtclkkdhfdoidfaaDn
import Derived.Test.YtclkkdhfdoidfaaDj
namespace Go.Proofs.Ytclkkdhfdoidfaa
open Go.RowKit
set_option maxHeartbeats 8000000 in
set_option maxRecDepth 100000 in
theorem dashBounds_law (sv : Value) (l : List Pt) (cl : Bool) (Lv : Value) (L : List Int) (phase : Int) (w : World) (row : Row w sv l) (rowL : RowI w Lv L) :
    Calls Try.prog 8 #[.agg #[sv, .bool cl], .agg #[Lv, .int .i64 phase]] w fun e w' => e = .returned (.bool true) ∧ Below w.heap.size w w' := by
  have HAW := Lib.hid awake_c
  have M0 := Lib.hid (DashM.start w sv Lv cl phase)
  obtain ⟨w0, hw0⟩ : ∃ X, (w.alloc (.cells #[sv, .bool cl] 46)).alloc (.cells #[Lv, .int .i64 phase] 24) = X := ⟨_, rfl⟩
  have HW0 := Lib.hid hw0
  rw [hw0] at M0
  have HDA : Hid (l.length ≤ 20 → L.length ≤ 8 → Calls Try.prog 25 #[.agg #[sv, .bool cl], .agg #[Lv, .int .i64 phase]] w0 (ToldS w0 (dashO l cl L phase))) := fun h1 h2 => dash_c sv Lv l cl L phase w0 (row.on M0.out.below) (by omega) (rowL.on M0.out.below) (by omega)
  have HBO : Hid (l.length ≤ 20 → l.all roomP = true → ∀ A, Below w.heap.size w A → Calls Try.prog 29 #[sv] A fun e w' => e = .returned (.agg (four (boundI l))) ∧ Below A.heap.size A w') := fun h1 h2 A hA => bound_c sv l A (by omega) (row.on hA) h2
  have HDR : Hid (L ≠ [] → rightI L phase = true → ∀ A, Below w.heap.size w A → Calls Try.prog 26 #[.agg #[Lv, .int .i64 phase]] A (DrawnP (patS L phase) A)) := fun h1 h2 A hA => drawn_c Lv L phase A (rowL.on hA) h1 h2
  have HDB := Lib.hid (@dash_bounds l cl L phase)
  have HDF : Hid (∀ k, (dashO l cl L phase).1 = 0 → l ≠ [] → L ≠ [] → First (patS L phase) k → k % 2 = 0 → ∃ r s, (dashO l cl L phase).2 = (at0 l 0 :: r, false) :: s) := fun k h1 h2 h3 h4 h5 => dash_first h1 h2 h3 h4 h5
  have HROW : Hid (∀ A, Below w.heap.size w A → Row A sv l) := fun A hA => row.on hA
  obtain ⟨ao, c, rfl⟩ := row.shape
  obtain ⟨bo, d, rfl⟩ := rowL.shape
  obtain ⟨n, hn⟩ : ∃ n, l.length = n := ⟨_, rfl⟩
  obtain ⟨nl, hnl⟩ : ∃ nl, L.length = nl := ⟨_, rfl⟩
  rw [hn, hnl] at M0 HW0 HDA ⊢
  rw [hn] at HBO HROW
  rw [hnl] at HDR
  have HN := Lib.hid hn
  have HNL := Lib.hid hnl
  clear row rowL hw0 hn hnl
  have s0 := M0.out.sub.cell 0
  have s1 := M0.out.sub.cell 1
  have p0 := M0.out.pat.cell 0
  have p1 := M0.out.pat.cell 1
  simp only [List.getElem?_toArray, List.getElem?_cons_zero, List.getElem?_cons_succ] at s0 s1 p0 p1
  by_cases h20 : 20 < n
  · have hd : decide ((n : Int) > 20) = true := by simp; omega
    go_enter Try.func8, Try.ntmps8
    go_wp2_with fail
    rw [HW0.out]
    refine (HAW.out _).mono ?_
    rintro e wz ⟨rfl, hb⟩
    have BZ : Hid (Below w.heap.size w wz) := M0.out.below.trans (hb.mono M0.out.below.size)
    clear hb
    go_wp2_with fail
    go_ret
    exact ⟨rfl, BZ.out⟩
  have hd : decide ((n : Int) > 20) = false := by simp; omega
  by_cases h8 : 8 < nl
  · have hd8 : decide ((nl : Int) > 8) = true := by simp; omega
    go_enter Try.func8, Try.ntmps8
    go_wp2_with fail
    rw [HW0.out]
    refine (HAW.out _).mono ?_
    rintro e wz ⟨rfl, hb⟩
    have BZ : Hid (Below w.heap.size w wz) := M0.out.below.trans (hb.mono M0.out.below.size)
    clear hb
    go_wp2_with fail
    go_ret
    exact ⟨rfl, BZ.out⟩
  have hd8 : decide ((nl : Int) > 8) = false := by simp; omega
  have HD := Lib.hid (HDA.out (by omega) (by omega))
  have HB20 := Lib.hid (HBO.out (by omega))
  have H20 : Hid (n ≤ 20 ∧ nl ≤ 8) := by unfold Hid; omega
  clear h20 h8 HDA HBO
  go_enter Try.func8, Try.ntmps8
  go_wp2_with fail
  rw [HW0.out]
  refine HD.out.mono ?_
  rintro e w1 ⟨v, S, rfl, hs, hm, hb⟩
  have M1 := Lib.hid (M0.out.grow hb)
  have HS := Lib.hid hs
  have HMP := Lib.hid hm
  obtain ⟨va, vc, rfl⟩ := subs_shape hs.row
  clear hs hm hb s0 s1 p0 p1
  obtain ⟨z, hz⟩ : ∃ z, (dashO l cl L phase).1 = z := ⟨_, rfl⟩
  rw [hz]
  rw [hz] at HDB HDF
  by_cases hz0 : z = 0
  · subst hz0
    have HBB := Lib.hid (HDB.out rfl)
    rw [← HMP.out] at HBB
    clear hz
    have s0 := M1.out.sub.cell 0
    simp only [List.getElem?_toArray, List.getElem?_cons_zero] at s0
    obtain ⟨m, hm⟩ : ∃ m, S.length = m := ⟨_, rfl⟩
    have HM := Lib.hid hm
    rw [hm] at HS ⊢
    have hmm : m ≤ 9223372036854775807 := by
      rw [← hm]
      obtain ⟨_, ⟨_, h0⟩ | ⟨_, cap, _, _, _, _, h1, h2, _⟩⟩ := HS.out.row
      · omega
      · unfold maxLen at h2; omega
    clear hm
    go_wp2_with fail
    refine (HB20.out HBB.out.1 w1 M1.out.below).mono ?_
    rintro e w2 ⟨rfl, hb⟩
    have M2 := Lib.hid (M1.out.grow hb)
    have S2 := Lib.hid (HS.out.grow hb)
    clear hb s0
    have HBT : Hid (∀ x ∈ S, x.L ≠ [] ∧ ∀ q ∈ x.L, hasI (boundI l) q.1 q.2 = true) := fun x hx => HBB.out.2.2 x.plain (List.mem_map.2 ⟨x, hx, rfl⟩)
    have HRI := Lib.hid HBB.out.2.1
    generalize boundI l = B at *
    obtain ⟨x0, y0, x1, y1⟩ := B
    obtain ⟨w3, hw3⟩ : ∃ X, w2.alloc (.cells #[.int .i64 x0, .int .i64 y0, .int .i64 x1, .int .i64 y1] 65) = X := ⟨_, rfl⟩
    have hb3 : Below w2.heap.size w2 w3 := by rw [← hw3]; exact (Below.refl _ _).alloc (Nat.le_refl _) _
    have M3 := Lib.hid (M2.out.grow hb3)
    have S3 := Lib.hid (S2.out.grow hb3)
    have B3 : Hid (Blk w3 w2.heap.size 65 (four ⟨x0, y0, x1, y1⟩)) := by rw [← hw3]; exact Blk.new _ _ _
    have HW3 := Lib.hid hw3
    clear hb3 hw3 HBB
    simp only [four]
    go_wp2_with fail
    rw [HW3.out]
    go_loopw [37] (fun s37 wr => ∃ k : Nat, k ≤ m ∧ s37 = .int .i64 k ∧ Hid (Below w3.heap.size w3 wr)) (fun s37 _ => m - (intOf s37).toNat)
    case atStart => exact ⟨0, by omega, rfl, Below.refl _ _⟩
    case round =>
      obtain ⟨k, hk, rfl, hw⟩ := hrel
      by_cases hlt : k < m
      · have hdk : decide ((k : Int) < (m : Int)) = true := by simp; omega
        obtain ⟨x, hx⟩ : ∃ x, S[k]? = some x := ⟨_, List.getElem?_eq_getElem (by rw [HM.out]; exact hlt)⟩
        have hat := (S3.out.grow hw.out).at hx
        rw [HM.out] at hat
        obtain ⟨g, gc, hg, hgl, c0, c1⟩ := hat
        simp only [Value.slice.injEq] at hg
        obtain ⟨rfl, _, rfl⟩ := hg
        have hxm := List.mem_of_getElem? hx
        have HX := Lib.hid (HBT.out x hxm)
        have HXO := Lib.hid (S3.out.own x hxm)
        obtain ⟨xv, xL, xc⟩ := x
        have hne : 0 < xL.length := List.length_pos_iff.2 HX.out.1
        obtain ⟨h, hc, rfl⟩ : ∃ h hc, xv = .slice (some ⟨h, 0, none⟩) xL.length hc := by
          rcases own_some HXO.out with ⟨_, e⟩ | ⟨h, hc, e⟩
          · exact absurd e HX.out.1
          · exact ⟨h, hc, e⟩
        obtain ⟨q, hq⟩ : ∃ q, xL.length = q := ⟨_, rfl⟩
        have HQ := Lib.hid hq
        simp only [hq] at c0 c1 hne HXO
        have hqm : q ≤ 9223372036854775807 := by
          have h1 := own_cap HXO.out
          obtain ⟨h3, h2, _⟩ := h1
          unfold maxLen at h2; omega
        have z1 : ((q : Int) == 0) = false := by simp; omega
        have z2 : decide ((q : Int) = 0) = false := by simp; omega
        have z3 : decide (q = 0) = false := by simp; omega
        clear hx hxm hq
        obtain ⟨wk, rfl⟩ : ∃ x, x = wr := ⟨_, rfl⟩
        have HK := Lib.hid (And.intro hlt hgl)
        go_wp2_with fail
        go_loopw [48] (fun s48 wr => ∃ j : Nat, j ≤ q ∧ s48 = .int .i64 j ∧ Hid (Below w3.heap.size w3 wr)) (fun s48 _ => q - (intOf s48).toNat)
        case atStart => exact ⟨0, by omega, rfl, hw.out.alloc hw.out.size _⟩
        case round =>
          obtain ⟨j, hj, rfl, hwj⟩ := hrel
          clear c0 c1
          by_cases hltj : j < q
          · have hdj : decide ((j : Int) < (q : Int)) = true := by simp; omega
            obtain ⟨⟨px, py⟩, hp⟩ : ∃ p, xL[j]? = some p := ⟨_, List.getElem?_eq_getElem (by rw [HQ.out]; exact hltj)⟩
            obtain ⟨d0, d1⟩ := (HXO.out.grow hwj.out).pts HQ.out hp
            have HH := Lib.hid (has_c ⟨x0, y0, x1, y1⟩ px py)
            rw [HX.out.2 _ (List.mem_of_getElem? hp)] at HH
            have k3 := B3.out.grow hwj.out
            have b0 : wr.cell? ⟨w2.heap.size, 0, none⟩ = some (.int .i64 x0) := k3.b0
            have b1 : wr.cell? ⟨w2.heap.size, 1, none⟩ = some (.int .i64 y0) := k3.b1
            have b2 : wr.cell? ⟨w2.heap.size, 2, none⟩ = some (.int .i64 x1) := k3.b2
            have b3 : wr.cell? ⟨w2.heap.size, 3, none⟩ = some (.int .i64 y1) := k3.b3
            have bl := k3.lt
            have B4 : Hid (Below w3.heap.size w3 (wr.alloc (.cells #[.int .i64 px, .int .i64 py] 32))) := hwj.out.alloc hwj.out.size _
            clear hp k3
            go_wp2_with fail
            refine (HH.out _).mono ?_
            rintro e w5 ⟨rfl, hb⟩
            have B5 : Hid (Below w3.heap.size w3 w5) := B4.out.trans (hb.mono B4.out.size)
            clear hb d0 d1 b0 b1 b2 b3
            go_wp2_with fail
            exact ⟨⟨j + 1, by omega, by go_num, B5.out⟩, by simp [intOf]; omega⟩
          · have hdj : decide ((j : Int) < (q : Int)) = false := by simp; omega
            go_wp2_with fail
            have := HK.out
            exact ⟨⟨k + 1, by omega, by go_num, hwj.out⟩, by simp [intOf]; omega⟩
      · have hdk : decide ((k : Int) < (m : Int)) = false := by simp; omega
        have M4 := Lib.hid (M3.out.grow hw.out)
        have S4 := Lib.hid (S3.out.grow hw.out)
        obtain ⟨w4, rfl⟩ : ∃ x, x = wr := ⟨_, rfl⟩
        clear hk hw
        have s0 := M4.out.sub.cell 0
        have p0 := M4.out.pat.cell 0
        have p1 := M4.out.pat.cell 1
        simp only [List.getElem?_toArray, List.getElem?_cons_zero, List.getElem?_cons_succ] at s0 p0 p1
        by_cases hnl : nl = 0
        · subst hnl
          go_wp2_with fail
          refine (HAW.out _).mono ?_
          rintro e wz ⟨rfl, hb⟩
          have BZ : Hid (Below w.heap.size w wz) := M4.out.below.trans (hb.mono M4.out.below.size)
          clear hb
          go_wp2_with fail
          go_ret
          exact ⟨rfl, BZ.out⟩
        by_cases hn0 : n = 0
        · subst hn0
          have hp : decide ((nl : Int) > 0) = true := by simp; omega
          have hp2 : decide (0 < nl) = true := by simp; omega
          have hp3 : 0 < nl := by omega
          go_wp2_with fail
          refine (HAW.out _).mono ?_
          rintro e wz ⟨rfl, hb⟩
          have BZ : Hid (Below w.heap.size w wz) := M4.out.below.trans (hb.mono M4.out.below.size)
          clear hb
          go_wp2_with fail
          go_ret
          exact ⟨rfl, BZ.out⟩
        have hp : decide ((nl : Int) > 0) = true := by simp; omega
        have hp2 : decide (0 < nl) = true := by simp; omega
        have hp3 : 0 < nl := by omega
        have hq : decide ((n : Int) > 0) = true := by simp; omega
        have hq2 : decide (0 < n) = true := by simp; omega
        have hq3 : 0 < n := by omega
        have HLN : Hid (L ≠ []) := fun e => hnl (by rw [← HNL.out, e]; rfl)
        have HLN2 : Hid (l ≠ []) := fun e => hn0 (by rw [← HN.out, e]; rfl)
        go_wp2_with fail
        refine (HDR.out HLN.out HRI.out w4 M4.out.below).mono ?_
        rintro e w5 ⟨kk, hf, rfl, hb⟩
        have M5 := Lib.hid (M4.out.grow hb)
        have S5 := Lib.hid (S4.out.grow hb)
        have HF := Lib.hid hf
        clear hb hf s0 p0 p1
        by_cases hev : kk % 2 = 0
        · have hde : decide (kk % 2 = 0) = true := by simp; omega
          obtain ⟨r, s, hrs⟩ := HDF.out kk trivial HLN2.out HLN.out HF.out hev
          rw [← HMP.out] at hrs
          obtain ⟨x, hx⟩ : ∃ x, S[0]? = some x := by
            cases S with
            | nil => simp at hrs
            | cons x t => exact ⟨x, rfl⟩
          have hxL : x.L = at0 l 0 :: r := by
            cases S with
            | nil => simp at hrs
            | cons y t =>
              simp at hx
              subst hx
              simp only [List.map_cons, List.cons.injEq] at hrs
              exact congrArg Prod.fst hrs.1
          have hat := S5.out.at hx
          rw [HM.out] at hat
          obtain ⟨g, gc, hg, hgl, c0, _⟩ := hat
          simp only [Value.slice.injEq] at hg
          obtain ⟨rfl, _, rfl⟩ := hg
          have ho := S5.out.own x (List.mem_of_getElem? hx)
          rw [hxL] at ho
          obtain ⟨h, hc, hxv⟩ : ∃ h hc, x.v = .slice (some ⟨h, 0, none⟩) (r.length + 1) hc := by
            rcases own_some ho with ⟨_, e⟩ | ⟨h, hc, e⟩
            · cases e
            · exact ⟨h, hc, e⟩
          rw [hxv] at c0 ho
          obtain ⟨q, hq0⟩ : ∃ q, r.length + 1 = q := ⟨_, rfl⟩
          have hqp : 0 < q := by omega
          simp only [hq0] at c0 ho
          obtain ⟨⟨fx, fy⟩, hfp⟩ : ∃ p, at0 l 0 = p := ⟨_, rfl⟩
          rw [hfp] at ho
          have hpt := ho.pts (by simpa using hq0) (k := 0) (p := (fx, fy)) rfl
          have hl0 : l[0]? = some (fx, fy) := by rw [← hfp]; exact at0_some (by rw [HN.out]; exact hq3)
          obtain ⟨b, o, rfl, hbl, hpa⟩ := Row.addr (HROW.out w5 M5.out.below) (k := 0) (by rw [HN.out]; exact hq3)
          have hpt2 := hpa 0 _ hl0
          simp only [Nat.zero_mul, Nat.zero_add, Nat.add_zero] at hpt hpt2 c0
          have hm0 : 0 < m := by rw [← HM.out]; exact (List.getElem?_eq_some_iff.1 hx).1
          have hmd : decide ((m : Int) > 0) = true := by simp; omega
          have hmd2 : decide (0 < m) = true := by simp; omega
          have HLT : Hid (g < w5.heap.size ∧ h < w5.heap.size ∧ b < w5.heap.size) := ⟨hgl, (own_cap ho).2.2.1, hbl⟩
          have HC0 := Lib.hid c0
          have HPT := Lib.hid hpt
          have HPT2 := Lib.hid hpt2
          clear hrs hx hxL ho hxv hq0 hfp hpt hl0 hpa hpt2 c0 hgl hbl
          go_wp2_with fail
          refine wp_region_quiet (C := Out w5) (by kernel_rfl) (by kernel_rfl) ⟨rfl, rfl, rfl, Nat.le_refl _, fun _ _ => rfl⟩ ?_
          refine BigFrame.wpQuiet_want rfl (fun K hK => ?_)
          refine quiet_val (.slice (some ⟨g, 0, none⟩) m vc) (fun w' hw' => by go_simp) (hK _ ?_)
          clear hK K
          simp only [Act.put, List.setIfInBounds_toArray, List.set_cons_zero, List.set_cons_succ]
          refine BigFrame.wpQuiet_want rfl (fun K hK => ?_)
          refine quiet_val (.int .i64 (m : Int)) (fun w' hw' => by go_simp) (hK _ ?_)
          clear hK K
          simp only [Act.put, List.setIfInBounds_toArray, List.set_cons_zero, List.set_cons_succ]
          refine BigFrame.wpQuiet_want rfl (fun K hK => ?_)
          refine quiet_val (.bool true) (fun w' hw' => by go_simp) (hK _ ?_)
          clear hK K
          simp only [Act.put, List.setIfInBounds_toArray, List.set_cons_zero, List.set_cons_succ]
          refine BigFrame.wpQuiet_want rfl (fun K hK => ?_)
          refine quiet_val (.bool true) (fun w' hw' => by go_simp) (hK _ ?_)
          clear hK K
          simp only [Act.put, List.setIfInBounds_toArray, List.set_cons_zero, List.set_cons_succ]
          refine BigFrame.wpQuiet_want rfl (fun K hK => ?_)
          refine quiet_val (.slice (some ⟨g, 0, none⟩) m vc) (fun w' hw' => by go_simp) (hK _ ?_)
          clear hK K
          simp only [Act.put, List.setIfInBounds_toArray, List.set_cons_zero, List.set_cons_succ]
          refine BigFrame.wpQuiet_want rfl (fun K hK => ?_)
          refine quiet_val (.pointer (some ⟨g, 0, none⟩)) (fun w' hw' => by go_simp) (hK _ ?_)
          clear hK K
          simp only [Act.put, List.setIfInBounds_toArray, List.set_cons_zero, List.set_cons_succ]
          refine BigFrame.wpQuiet_want rfl (fun K hK => ?_)
          refine quiet_val (.pointer (some ⟨g, 0, none⟩)) (fun w' hw' => by go_simp) (hK _ ?_)
          clear hK K
          simp only [Act.put, List.setIfInBounds_toArray, List.set_cons_zero, List.set_cons_succ]
          refine BigFrame.wpQuiet_want rfl (fun K hK => ?_)
          refine quiet_val (.slice (some ⟨h, 0, none⟩) q hc) (fun w' hw' => by have c0 := (cell_below hw' HLT.out.1).trans HC0.out; go_simp) (hK _ ?_)
          clear hK K
          simp only [Act.put, List.setIfInBounds_toArray, List.set_cons_zero, List.set_cons_succ]
          refine BigFrame.wpQuiet_want rfl (fun K hK => ?_)
          refine quiet_val (.pointer (some ⟨h, 0, none⟩)) (fun w' hw' => by go_simp) (hK _ ?_)
          clear hK K
          simp only [Act.put, List.setIfInBounds_toArray, List.set_cons_zero, List.set_cons_succ]
          refine BigFrame.wpQuiet_want rfl (fun K hK => ?_)
          refine quiet_val (.agg #[.int .i64 fx, .int .i64 fy]) (fun w' hw' => by have c0 := (cell_below hw' HLT.out.2.1).trans HPT.out.1; have c1 := (cell_below hw' HLT.out.2.1).trans HPT.out.2; go_simp) (hK _ ?_)
          clear hK K
          simp only [Act.put, List.setIfInBounds_toArray, List.set_cons_zero, List.set_cons_succ]
          refine BigFrame.wpQuiet_want rfl (fun K hK => ?_)
          refine quiet_val (.pointer (some ⟨w.heap.size, 0, none⟩)) (fun w' hw' => by go_simp) (hK _ ?_)
          clear hK K
          simp only [Act.put, List.setIfInBounds_toArray, List.set_cons_zero, List.set_cons_succ]
          refine BigFrame.wpQuiet_want rfl (fun K hK => ?_)
          refine quiet_val (.slice (some ⟨b, o, none⟩) n c) (fun w' hw' => by have s0 : w'.cell? ⟨w.heap.size, 0, none⟩ = some (.slice (some ⟨b, o, none⟩) n c) := (M5.out.sub.grow hw').cell 0; go_simp) (hK _ ?_)
          clear hK K
          simp only [Act.put, List.setIfInBounds_toArray, List.set_cons_zero, List.set_cons_succ]
          refine BigFrame.wpQuiet_want rfl (fun K hK => ?_)
          refine quiet_val (.pointer (some ⟨b, o, none⟩)) (fun w' hw' => by go_simp) (hK _ ?_)
          clear hK K
          simp only [Act.put, List.setIfInBounds_toArray, List.set_cons_zero, List.set_cons_succ]
          refine BigFrame.wpQuiet_want rfl (fun K hK => ?_)
          refine quiet_val (.agg #[.int .i64 fx, .int .i64 fy]) (fun w' hw' => by have c0 := (cell_below hw' HLT.out.2.2).trans HPT2.out.1; have c1 := (cell_below hw' HLT.out.2.2).trans HPT2.out.2; go_simp) (hK _ ?_)
          clear hK K
          simp only [Act.put, List.setIfInBounds_toArray, List.set_cons_zero, List.set_cons_succ]
          refine BigFrame.wpQuiet_want rfl (fun K hK => ?_)
          refine quiet_val (.bool true) (fun w' hw' => by go_simp) (hK _ ?_)
          clear hK K
          simp only [Act.put, List.setIfInBounds_toArray, List.set_cons_zero, List.set_cons_succ]
          refine BigFrame.wpQuiet_want rfl (fun K hK => ?_)
          refine quiet_val (.bool true) (fun w' hw' => by go_simp) (hK _ ?_)
          clear hK K
          simp only [Act.put, List.setIfInBounds_toArray, List.set_cons_zero, List.set_cons_succ]
          refine BigFrame.wpQuiet_want rfl (fun K hK => ?_)
          refine quiet_val (.bool true) (fun w' hw' => by go_simp) (hK _ ?_)
          clear hK K
          simp only [Act.put, List.setIfInBounds_toArray, List.set_cons_zero, List.set_cons_succ]
          refine BigFrame.wpQuiet_want rfl (fun K hK => ?_)
          refine quiet_call 9 #[] (.bool true) (fun w' _ => by go_simp) (fun w' hw' => Calls.out hw' (HAW.out w')) (hK _ ?_)
          clear hK K
          simp only [Act.put, List.setIfInBounds_toArray, List.set_cons_zero, List.set_cons_succ]
          refine BigFrame.wpQuiet_want rfl (fun K hK => ?_)
          refine quiet_val (.bool true) (fun w' hw' => by go_simp) (hK _ ?_)
          clear hK K
          simp only [Act.put, List.setIfInBounds_toArray, List.set_cons_zero, List.set_cons_succ]
          refine BigFrame.wpQuiet_want rfl (fun K hK => ?_)
          refine quiet_val (.bool true) (fun w' hw' => by go_simp) (hK _ ?_)
          clear hK K
          simp only [Act.put, List.setIfInBounds_toArray, List.set_cons_zero, List.set_cons_succ]
          refine wpQuiet_nil ?_
          intro w6 hb
          have B6 : Hid (Below w.heap.size w w6) := M5.out.below.trans (hb.mono M5.out.below.size)
          clear hb
          go_wp2_with fail
          go_ret
          exact ⟨rfl, B6.out⟩
        · have hde : decide (kk % 2 = 0) = false := by simp; omega
          go_wp2_with fail
          refine (HAW.out _).mono ?_
          rintro e wz ⟨rfl, hb⟩
          have BZ : Hid (Below w.heap.size w wz) := M5.out.below.trans (hb.mono M5.out.below.size)
          clear hb
          go_wp2_with fail
          go_ret
          exact ⟨rfl, BZ.out⟩
  · have hne : (z != 0) = true := by simpa using hz0
    clear hz hz0
    go_wp2_with fail
    refine (HAW.out _).mono ?_
    rintro e wz ⟨rfl, hb⟩
    have BZ : Hid (Below w.heap.size w wz) := M1.out.below.trans (hb.mono M1.out.below.size)
    clear hb
    go_wp2_with fail
    go_ret
    exact ⟨rfl, BZ.out⟩
end Go.Proofs.Ytclkkdhfdoidfaa
