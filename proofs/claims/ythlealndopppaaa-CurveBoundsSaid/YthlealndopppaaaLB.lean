/- The law CurveBounds. -/
import Derived.Test.YthlealndopppaaaBd
import Derived.Test.YthlealndopppaaaY
import Derived.Test.YthlealndopppaaaZ
import Derived.Test.YthlealndopppaaaF
namespace Go.Proofs.Ythlealndopppaaa
open Go.RowKit
theorem Row.ptsB {W : World} {bb o N c : Nat} {L : List Pt} (h : Row W (.slice (some ⟨bb, o, none⟩) N c) L) (hL : L ≠ []) : bb < W.heap.size ∧ PtsAt W bb o L := by
  rcases h with ⟨_, e⟩ | ⟨_, _, _, e⟩ | ⟨b, o', c', e, hb, hp⟩
  · exact absurd e hL
  · exact absurd e hL
  · simp at e
    obtain ⟨⟨rfl, rfl⟩, _⟩ := e
    exact ⟨hb, hp⟩
set_option maxHeartbeats 2000000 in
set_option maxRecDepth 100000 in
theorem bounds_no (w : World) (v : Value) (d : Int) (r : Bool) (hr : r = false ∨ d < 0 ∨ 6 < d)
    (HR : Hid (Calls Try.prog 13 #[v] w fun e w' => e = .returned (.bool r) ∧ Below w.heap.size w w')) :
    Calls Try.prog 6 #[v, .int .i64 d] w fun e w' => e = .returned (.bool true) ∧ Below w.heap.size w w' := by
  have HAW := Lib.hid awake_c
  cases r
  · clear hr
    go_enter Try.func6, Try.ntmps6
    go_wp2_with fail
    refine HR.out.mono ?_
    rintro e w2 ⟨rfl, hb⟩
    have B2 := Lib.hid hb
    clear hb
    go_wp2_with fail
    refine (HAW.out _).mono ?_
    rintro e w3 ⟨rfl, hb⟩
    have B3 : Hid (Below w.heap.size w w3) := below_next B2.out hb
    clear hb
    go_wp2_with fail
    go_ret
    exact ⟨rfl, B3.out⟩
  · by_cases h0 : d < 0
    · have d0 : decide (d < 0) = true := decide_eq_true h0
      clear hr
      go_enter Try.func6, Try.ntmps6
      go_wp2_with fail
      refine HR.out.mono ?_
      rintro e w2 ⟨rfl, hb⟩
      have B2 := Lib.hid hb
      clear hb
      go_wp2_with fail
      refine (HAW.out _).mono ?_
      rintro e w3 ⟨rfl, hb⟩
      have B3 : Hid (Below w.heap.size w w3) := below_next B2.out hb
      clear hb
      go_wp2_with fail
      go_ret
      exact ⟨rfl, B3.out⟩
    · have d0 : decide (d < 0) = false := decide_eq_false h0
      have d6 : decide (d > 6) = true := decide_eq_true (by simp at hr; omega)
      clear hr
      go_enter Try.func6, Try.ntmps6
      go_wp2_with fail
      refine HR.out.mono ?_
      rintro e w2 ⟨rfl, hb⟩
      have B2 := Lib.hid hb
      clear hb
      go_wp2_with fail
      refine (HAW.out _).mono ?_
      rintro e w3 ⟨rfl, hb⟩
      have B3 : Hid (Below w.heap.size w w3) := below_next B2.out hb
      clear hb
      go_wp2_with fail
      go_ret
      exact ⟨rfl, B3.out⟩
set_option maxHeartbeats 4000000 in
set_option maxRecDepth 100000 in
theorem bounds_walk (w : World) (v : Value) (l FL FA FB : List Pt) (b : Bx) (D M : Nat) (hD : D ≤ 6) (hM : M = 2 ^ D)
    (HL : Hid (FL.length = M ∧ FL.length ≤ 64 ∧ FA.length ≤ 4 ∧ FB.length ≤ 4 ∧ 0 < FL.length ∧ ∀ p ∈ FL ++ (FA ++ FB), hasI b p.1 p.2 = true)) (HROW : Hid (Row w v l))
    (HR : Hid (∀ w', Row w' v l → Calls Try.prog 13 #[v] w' fun e w'' => e = .returned (.bool true) ∧ Below w'.heap.size w' w''))
    (HB : Hid (∀ w', Row w' v l → Calls Try.prog 20 #[v] w' fun e w'' => e = .returned (.agg #[.int .i64 b.x0, .int .i64 b.y0, .int .i64 b.x1, .int .i64 b.y1]) ∧ Below w'.heap.size w' w''))
    (HG : Hid (∀ w', Row w' v l → Calls Try.prog 21 #[v] w' fun e w'' => e = .returned (.agg #[.int .i64 b.x0, .int .i64 b.y0, .int .i64 b.x1, .int .i64 b.y1]) ∧ Below w'.heap.size w' w''))
    (HF : Hid (∀ w', Row w' v l → Calls Try.prog 17 #[v, .int .i64 (D : Int)] w' fun e w'' => ∃ u, e = .returned (.tuple #[u, .int .i64 0]) ∧ Own w'' w'.heap.size 34 u FL ∧ Below w'.heap.size w' w''))
    (HH : Hid (∀ w', Row w' v l → Calls Try.prog 11 #[v] w' fun e w'' => ∃ s u, e = .returned (.tuple #[s, u, .int .i64 0]) ∧ Own w'' w'.heap.size 34 s FA ∧ Own w'' w'.heap.size 34 u FB ∧ Below w'.heap.size w' w''))
    (HHAS : Hid (∀ p : Pt, hasI b p.1 p.2 = true → ∀ w', Calls Try.prog 22 #[.agg #[.int .i64 b.x0, .int .i64 b.y0, .int .i64 b.x1, .int .i64 b.y1], .agg #[.int .i64 p.1, .int .i64 p.2]] w' fun e w'' => e = .returned (.bool true) ∧ Below w'.heap.size w' w'')) :
    Calls Try.prog 6 #[v, .int .i64 (D : Int)] w fun e w' => e = .returned (.bool true) ∧ Below w.heap.size w w' := by
  have HAW := Lib.hid awake_c
  have d0 : decide ((D : Int) < 0) = false := decide_eq_false (by omega)
  have d6 : decide ((D : Int) > 6) = false := decide_eq_false (by omega)
  have hM64 : M ≤ 64 := by rw [hM]; exact pow_small hD
  have ew : wrap64 ((2 : Int) ^ D) = (M : Int) := by
    have e : ((2 : Int) ^ D) = (M : Int) := by rw [hM]; try simp
    rw [e]; exact wrapR _ (by omega) (by omega)
  have HM := Lib.hid hM
  have eMM : ((M : Int) == (M : Int)) = true := by simp
  clear hM
  go_enter Try.func6, Try.ntmps6
  go_wp2_with fail
  refine (HR.out _ HROW.out).mono ?_
  rintro e w1 ⟨rfl, hb⟩
  have S1 : Hid (Below w.heap.size w w1 ∧ Row w1 v l) := ⟨hb, HROW.out.on hb⟩
  clear hb
  go_wp2_with fail
  refine (HB.out _ S1.out.2).mono ?_
  rintro e w2 ⟨rfl, hb⟩
  have S2 : Hid (Mem w (w2.alloc (.cells (four b) 45)) [(w2.heap.size, 45, four b)] ∧ Row (w2.alloc (.cells (four b) 45)) v l) :=
    ⟨Mem.add ⟨below_next S1.out.1 hb, (show Lays w2 [] from trivial)⟩ 45 (four b), (S1.out.2.on hb).on ((Below.refl _ _).alloc (Nat.le_refl _) _)⟩
  clear hb
  go_wp2_with fail
  obtain ⟨W, hW⟩ : ∃ W, w2.alloc (.cells (four b) 45) = W := ⟨_, rfl⟩
  rw [hW] at S2
  have hWl : w2.alloc (.cells #[.int .i64 b.x0, .int .i64 b.y0, .int .i64 b.x1, .int .i64 b.y1] 45) = W := hW
  rw [hWl]
  clear hW hWl
  generalize w2.heap.size = g at *
  have HV : Hid (∀ w', Out W w' → w'.cell? ⟨g, 0, none⟩ = some (.int .i64 b.x0) ∧ w'.cell? ⟨g, 1, none⟩ = some (.int .i64 b.y0) ∧ w'.cell? ⟨g, 2, none⟩ = some (.int .i64 b.x1) ∧ w'.cell? ⟨g, 3, none⟩ = some (.int .i64 b.y1)) := fun w' hw' => by
    have k := S2.out.1.lays.1.grow hw'
    exact ⟨k.b0, k.b1, k.b2, k.b3⟩
  refine wp_region_quiet (C := Out W) (by kernel_rfl) (by kernel_rfl) ⟨rfl, rfl, rfl, Nat.le_refl _, fun _ _ => rfl⟩ ?_
  refine BigFrame.wpQuiet_want rfl (fun K hK => ?_)
  refine quiet_val (.agg #[.int .i64 b.x0, .int .i64 b.y0, .int .i64 b.x1, .int .i64 b.y1]) (fun w' hw' => by obtain ⟨c0, c1, c2, c3⟩ := HV.out w' hw'; go_simp) (hK _ ?_)
  clear hK K
  simp only [Act.put, List.setIfInBounds_toArray, List.set_cons_zero, List.set_cons_succ]
  refine BigFrame.wpQuiet_want rfl (fun K hK => ?_)
  refine quiet_val (v) (fun w' hw' => by go_simp) (hK _ ?_)
  clear hK K
  simp only [Act.put, List.setIfInBounds_toArray, List.set_cons_zero, List.set_cons_succ]
  refine BigFrame.wpQuiet_want rfl (fun K hK => ?_)
  refine quiet_call 21 #[v] (.agg #[.int .i64 b.x0, .int .i64 b.y0, .int .i64 b.x1, .int .i64 b.y1]) (fun w' _ => by go_simp) (fun w' hw' => Calls.out hw' (HG.out _ (S2.out.2.on hw'))) (hK _ ?_)
  clear hK K
  simp only [Act.put, List.setIfInBounds_toArray, List.set_cons_zero, List.set_cons_succ]
  refine BigFrame.wpQuiet_want rfl (fun K hK => ?_)
  refine quiet_val (.bool false) (fun w' hw' => by go_simp) (hK _ ?_)
  clear hK K
  simp only [Act.put, List.setIfInBounds_toArray, List.set_cons_zero, List.set_cons_succ]
  refine wpQuiet_nil ?_
  intro w3 hb
  have S3 : Hid (Mem w w3 [(g, 45, four b)] ∧ Row w3 v l) := ⟨S2.out.1.next hb, S2.out.2.on hb⟩
  clear hb HV S2
  go_wp2_with fail
  refine (HF.out _ S3.out.2).mono ?_
  rintro e w4 ⟨u, rfl, hou, hb⟩
  have S4 : Hid (Mem w w4 [(g, 45, four b)] ∧ Row w4 v l ∧ Own w4 w3.heap.size 34 u FL) := ⟨S3.out.1.next hb, S3.out.2.on hb, hou⟩
  obtain ⟨ub, uo, uc, rfl⟩ : ∃ b o c, u = .slice (some ⟨b, o, none⟩) M c := by
    obtain ⟨_, c, e⟩ := hou.row.shape
    subst e
    obtain ⟨b, o, e, _⟩ := hou.row.addr (k := 0) HL.out.2.2.2.2.1
    exact ⟨b, o, c, by rw [e, HL.out.1]⟩
  have hub : ub < w4.heap.size := (hou.lt ub rfl).2
  clear hou hb
  go_wp2_with fail
  refine (HH.out _ S4.out.2.1).mono ?_
  rintro e w5 ⟨s1, s2, rfl, ho1, ho2, hb⟩
  obtain ⟨n, hn⟩ : ∃ n, w3.heap.size = n := ⟨_, rfl⟩
  have hgn : Hid (g < n) := by rw [← hn]; exact S3.out.1.lays.1.lt
  have hwn : Hid (w.heap.size ≤ n) := by rw [← hn]; exact S3.out.1.below.size
  have S5 : Hid (Blk w5 g 45 (four b) ∧ Below w.heap.size w w5 ∧ Own w5 n 34 (.slice (some ⟨ub, uo, none⟩) M uc) FL ∧ Row w5 s1 FA ∧ Row w5 s2 FB ∧ n ≤ w5.heap.size ∧ Apart s2 (.slice (some ⟨ub, uo, none⟩) M uc)) := by
    have h0 := S4.out.2.2.grow hb
    rw [hn] at h0
    have hlt := h0.lt ub rfl
    refine ⟨(S4.out.1.next hb).lays.1, (S4.out.1.next hb).below, h0, ho1.row, ho2.row, by omega, ?_⟩
    unfold Apart
    cases hv : s2.ownBlock with
    | none => exact .inl rfl
    | some k =>
      right
      have h2 := (ho2.lt k hv).1
      intro e
      simp [Value.ownBlock] at e
      omega
  clear ho1 ho2 hb hn hub
  go_wp2_with (at_builtin; refine wpList_append_pts rfl _ _ 22 34 rfl Try.underlying22 infoP n (.slice (some ⟨ub, uo, none⟩) M uc) FL rfl S5.out.2.2.1 s1 FA rfl S5.out.2.2.2.1 (by have := HL.out.2.1; have := HL.out.2.2.1; omega) S5.out.2.2.2.2.2.1 ?_)
  intro r1 w6 ho hg _
  have S6 : Hid (Blk w6 g 45 (four b) ∧ Below w.heap.size w w6 ∧ Own w6 n 34 r1 (FL ++ FA) ∧ Row w6 s2 FB ∧ n ≤ w6.heap.size) :=
    ⟨own_blk S5.out.2.2.1 hg S5.out.1 hgn.out, own_below S5.out.2.2.1 hg S5.out.2.1 hwn.out (Nat.le_trans hwn.out S5.out.2.2.2.2.2.1), ho, S5.out.2.2.2.2.1.kept hg S5.out.2.2.2.2.2.2, Nat.le_trans S5.out.2.2.2.2.2.1 hg.size⟩
  clear ho hg
  go_wp2_with (at_builtin; refine wpList_append_pts rfl _ _ 22 34 rfl Try.underlying22 infoP n r1 (FL ++ FA) rfl S6.out.2.2.1 s2 FB rfl S6.out.2.2.2.1 (by have := HL.out.2.1; have := HL.out.2.2.1; have := HL.out.2.2.2.1; simp; omega) S6.out.2.2.2.2 ?_)
  intro r2 w7 ho hg _
  obtain ⟨T, hT⟩ : ∃ T, (FL ++ (FA ++ FB)).length = T := ⟨_, rfl⟩
  have hT0 : Hid (0 < T ∧ T ≤ 1000) := by
    unfold Hid
    rw [← hT]
    have h1 := HL.out
    simp only [List.length_append]
    omega
  obtain ⟨rb, ro, rc, rfl⟩ : ∃ b o c, r2 = .slice (some ⟨b, o, none⟩) T c := by
    obtain ⟨_, c, e⟩ := ho.row.shape
    subst e
    obtain ⟨b, o, e, _⟩ := ho.row.addr (k := 0) (by rw [hT]; exact hT0.out.1)
    exact ⟨b, o, c, by rw [e, hT]⟩
  have S7 : Hid (Blk w7 g 45 (four b) ∧ Below w.heap.size w w7 ∧ Row w7 (.slice (some ⟨rb, ro, none⟩) T rc) (FL ++ (FA ++ FB))) :=
    ⟨own_blk S6.out.2.2.1 hg S6.out.1 hgn.out, own_below S6.out.2.2.1 hg S6.out.2.1 hwn.out (Nat.le_trans hwn.out S6.out.2.2.2.2), ho.row⟩
  have HT := Lib.hid hT
  clear ho hg hT
  go_wp2_with fail
  go_loopw [49] (fun i wr => ∃ k : Nat, k ≤ T ∧ i = .int .i64 k ∧ Hid (Below w7.heap.size w7 wr)) (fun i _ => T - (intOf i).toNat)
  case atStart => exact ⟨0, by omega, rfl, Below.refl _ _⟩
  case round =>
    obtain ⟨k, hk, rfl, hw⟩ := hrel
    have k0 := S7.out.1.grow hw.out
    have y0 := k0.b0
    have y1 := k0.b1
    have y2 := k0.b2
    have y3 := k0.b3
    have yl := k0.lt
    clear k0
    by_cases hlt : k < T
    · have hd : decide ((k : Int) < (T : Int)) = true := decide_eq_true (by omega)
      obtain ⟨p, hp⟩ : ∃ p, (FL ++ (FA ++ FB))[k]? = some p := ⟨_, List.getElem?_eq_getElem (by rw [HT.out]; exact hlt)⟩
      obtain ⟨_, hpa⟩ := (S7.out.2.2.on hw.out).ptsB (fun e => by rw [e] at hp; simp at hp)
      obtain ⟨c0, c1⟩ := hpa k p hp
      have HP : Hid (hasI b p.1 p.2 = true) := HL.out.2.2.2.2.2 p (List.mem_of_getElem? hp)
      have hk1000 : k + 1 ≤ 1000 := by have := hT0.out.2; omega
      clear hpa hp
      go_wp2_with fail
      refine (HHAS.out p HP.out _).mono ?_
      rintro e w8 ⟨rfl, hb⟩
      have B8 : Hid (Below w7.heap.size w7 w8) := (hw.out.alloc hw.out.size _).trans (hb.mono (by have := hw.out.size; simp; omega))
      clear hb
      go_wp2_with fail
      exact ⟨⟨k + 1, by omega, by go_num, B8.out⟩, by simp [intOf]; omega⟩
    · have hd : decide ((k : Int) < (T : Int)) = false := decide_eq_false (by omega)
      go_wp2_with fail
      refine (HAW.out _).mono ?_
      rintro e w8 ⟨rfl, hb⟩
      have B8 : Hid (Below w.heap.size w w8) := below_next (below_next S7.out.2.1 hw.out) hb
      clear hb
      go_wp2_with fail
      go_ret
      exact ⟨rfl, B8.out⟩
theorem bounds_law (w : World) (v : Value) (l : List Pt) (row : Row w v l) (hlen : l.length ≤ 9223372036854775807) (d : Int) : Calls Try.prog 6 #[v, .int .i64 d] w fun e w' => e = .returned (.bool true) ∧ Below w.heap.size w w' := by
  by_cases hgood : curveB l = true ∧ 0 ≤ d ∧ d ≤ 6
  · obtain ⟨hc, h0, h6⟩ := hgood
    obtain ⟨D, rfl⟩ := Int.eq_ofNat_of_zero_le h0
    have hl3 : 3 ≤ l.length ∧ l.length ≤ 4 := by rcases curve_cases hc with ⟨p, q, r, rfl, _⟩ | ⟨p, q, r, s, rfl, _⟩ <;> simp
    have hD : D ≤ 6 := by omega
    have h64 := pow_small hD
    have hpos : 0 < 2 ^ D := Nat.pos_of_ne_zero (by simp)
    have hfl := flatI_length D l
    have hroom : l.all roomP = true := by unfold curveB at hc; rw [Bool.and_eq_true] at hc; exact hc.2
    have hin : inB (boundI l) l := fun p hp => tight_hasI (tight_bound l (fun e => by rw [e] at hl3; simp at hl3)) hp
    have hf1 := firstI_curve hc
    have hf2 := secondI_curve hc
    refine bounds_walk w v l (flatI D l) (firstI l) (secondI l) (boundI l) D (2 ^ D) hD rfl (Lib.hid ⟨hfl, by omega, by omega, by omega, by omega, fun p hp => ?_⟩) (Lib.hid row) (Lib.hid fun w' hr => by have := right_c v l w' hlen hr; rwa [hc] at this)
      (Lib.hid fun w' hr => curveBound_c v l w' hr (by omega) hroom) (Lib.hid fun w' hr => bound_c v l w' (by omega) hr hroom) (Lib.hid fun w' hr => flat_c v l D w' hr hc hD) (Lib.hid fun w' hr => halves_c v l w' hr hc)
      (Lib.hid fun p hp w' => by have := has_c (boundI l) p.1 p.2 w'; rwa [hp] at this)
    rw [List.mem_append, List.mem_append] at hp
    rcases hp with hp | hp | hp
    · exact inB_flatI D hc hin p hp
    · exact inB_firstI hc hin p hp
    · exact inB_secondI hc hin p hp
  · have hbad : curveB l = false ∨ d < 0 ∨ 6 < d := by
      cases hc : curveB l with
      | false => exact .inl rfl
      | true => right; rw [hc] at hgood; simp at hgood; omega
    exact bounds_no w v d (curveB l) hbad (Lib.hid (right_c v l w hlen row))
end Go.Proofs.Ythlealndopppaaa
