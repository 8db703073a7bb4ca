/- Layer 10: the law PaintShades. -/
import Derived.Test.YtcbldamlfjkppaaPs
import Derived.BigQuiet
namespace Go.Proofs.Ytcbldamlfjkppaa
open Go.RowKit
theorem RowS.addr2 {w : World} {ao : Option Addr} {n c : Nat} {l : List Stp} (h : RowS w (.slice ao n c) l) (h0 : 0 < l.length) : ∃ b o, ao = some ⟨b, o, none⟩ ∧ b < w.heap.size ∧ ∀ i p, l[i]? = some p → StopAt w b (o + i * 5) p := by
  obtain ⟨b, o, c', e, h1, h2⟩ := h.addr h0
  cases e
  exact ⟨b, o, rfl, h1, h2⟩
set_option maxHeartbeats 2000000 in
set_option maxRecDepth 100000 in
theorem paintShades_big (P : PaintOk) (s : Value) (l : List Stp) (t : Int) (w : World) (row : RowS w s l) (h : 100 < l.length) : Calls Try.prog 8 #[s, .int .i64 t] w fun e w' => e = .returned (.bool true) ∧ Below w.heap.size w w' := by
  have HAW := Lib.hid (law_awake_c P)
  obtain ⟨ao, c, rfl⟩ := row.shape
  obtain ⟨n, hn⟩ : ∃ n, l.length = n := ⟨_, rfl⟩
  rw [hn] at h ⊢
  have hd : decide ((n : Int) > 100) = true := by simp; omega
  have BW1 : Hid (Below w.heap.size w w) := Below.refl _ _
  clear row hn h
  go_enter Try.func8, Try.ntmps8
  go_wp2_with fail
  refine (HAW.out _).mono ?_
  rintro e w2 ⟨rfl, hb⟩
  have BW2 : Hid (Below w.heap.size w w2) := BW1.out.trans (hb.mono BW1.out.size)
  clear hb
  go_wp2_with fail
  go_ret
  exact ⟨rfl, BW2.out⟩
set_option maxHeartbeats 2000000 in
set_option maxRecDepth 100000 in
theorem paintShades_none (P : PaintOk) (Q : ShadeOk) (s : Value) (l : List Stp) (t : Int) (w : World) (row : RowS w s l) (h : l.length = 0) : Calls Try.prog 8 #[s, .int .i64 t] w fun e w' => e = .returned (.bool true) ∧ Below w.heap.size w w' := by
  have HAW := Lib.hid (law_awake_c P)
  obtain ⟨ao, c, rfl⟩ := row.shape
  obtain ⟨n, hn⟩ : ∃ n, l.length = n := ⟨_, rfl⟩
  have HSH : Hid (l.length ≤ 100 → ∀ A, Below w.heap.size w A → Calls Try.prog 28 #[.slice ao l.length c, .int .i64 t] A fun e w' => e = .returned (.tuple #[.agg #[.int .u8 (shadeC l t 0), .int .u8 (shadeC l t 1), .int .u8 (shadeC l t 2), .int .u8 (shadeC l t 3)], .int .i64 (errS l)]) ∧ Below A.heap.size A w') := fun h A hA => Q.shade _ l t A (row.on hA) h
  have HCK : Hid (l.length ≤ 100 → ∀ A, Below w.heap.size w A → Calls Try.prog 29 #[.slice ao l.length c] A fun e w' => e = .returned (.int .i64 (errS l)) ∧ Below A.heap.size A w') := fun h A hA => Q.check _ l A (row.on hA) h
  have HL100 : Hid (n ≤ 100) := by unfold Hid; omega
  have hok : okS l = false := by unfold okS; rw [h]; rfl
  have hsc : shadeC l t = zeroC := by unfold shadeC; rw [hok]; rfl
  have her : errS l = 30 := by unfold errS; rw [hok]; rfl
  rw [hsc, her, hn] at HSH
  rw [her, hn] at HCK
  rw [hn] at h ⊢
  subst h
  have EZ := equal_zero
  simp only [zeroC] at HSH
  have BW1 : Hid (Below w.heap.size w w) := Below.refl _ _
  clear row hn hok hsc her
  go_enter Try.func8, Try.ntmps8
  go_wp2_with fail
  go_loopw [5, 27] (fun s5 s27 wr => s5 = .bool false ∧ s27 = .int .i64 0 ∧ Hid (Below w.heap.size w wr)) (fun _ _ _ => 0)
  case atStart => exact ⟨rfl, rfl, BW1⟩
  case round =>
    obtain ⟨rfl, rfl, BW20⟩ := hrel
    obtain ⟨w20, rfl⟩ : ∃ x, x = wr := ⟨_, rfl⟩
    go_wp2_with fail
    refine (HSH.out HL100.out _ BW20.out).mono ?_
    rintro e w21 ⟨rfl, hb⟩
    have BW21 : Hid (Below w.heap.size w w21) := BW20.out.trans (hb.mono BW20.out.size)
    clear hb
    go_upto_if 71 with fail
    obtain ⟨w22, hw⟩ : ∃ W, w21.alloc (.cells #[.int .u8 0, .int .u8 0, .int .u8 0, .int .u8 0] 26) = W := ⟨_, rfl⟩
    have HB22 : Hid (∀ A, Below w22.heap.size w22 A → Blk A w21.heap.size 26 (c8 zeroC)) := fun A hA => by
          rw [← hw] at hA
          exact (Blk.new _ _ _).grow hA
    have BW22 : Hid (Below w.heap.size w w22) := by
      rw [← hw]
      exact BW21.out.alloc BW21.out.size _
    rw [hw]
    clear hw
    generalize w21.heap.size = g8 at *
    go_wp2_with fail
    refine (HCK.out HL100.out _ BW22.out).mono ?_
    rintro e w23 ⟨rfl, hb⟩
    have HB23 : Hid (∀ A, Below w23.heap.size w23 A → Blk A g8 26 (c8 zeroC)) := fun A hA => HB22.out A (hb.trans (hA.mono hb.size))
    have BW23 : Hid (Below w.heap.size w w23) := BW22.out.trans (hb.mono BW22.out.size)
    clear hb
    obtain ⟨z0, z1, z2, z3⟩ := (HB23.out w23 (Below.refl _ _)).c0
    simp only [zeroC] at z0 z1 z2 z3
    go_wp2_with fail
    refine (HAW.out _).mono ?_
    rintro e w24 ⟨rfl, hb⟩
    have BW24 : Hid (Below w.heap.size w w24) := BW23.out.trans (hb.mono BW23.out.size)
    clear hb z0 z1 z2 z3
    go_wp2_with fail
    go_ret
    exact ⟨rfl, BW24.out⟩
set_option maxHeartbeats 8000000 in
set_option maxRecDepth 100000 in
theorem paintShades_some (P : PaintOk) (Q : ShadeOk) (s : Value) (l : List Stp) (t : Int) (w : World) (row : RowS w s l) (h1 : 0 < l.length) (h100 : l.length ≤ 100) : Calls Try.prog 8 #[s, .int .i64 t] w fun e w' => e = .returned (.bool true) ∧ Below w.heap.size w w' := by
  have HAW := Lib.hid (law_awake_c P)
  obtain ⟨ao, c, rfl⟩ := row.shape
  obtain ⟨n, hn⟩ : ∃ n, l.length = n := ⟨_, rfl⟩
  have HSH : Hid (l.length ≤ 100 → ∀ A, Below w.heap.size w A → Calls Try.prog 28 #[.slice ao l.length c, .int .i64 t] A fun e w' => e = .returned (.tuple #[.agg #[.int .u8 (shadeC l t 0), .int .u8 (shadeC l t 1), .int .u8 (shadeC l t 2), .int .u8 (shadeC l t 3)], .int .i64 (errS l)]) ∧ Below A.heap.size A w') := fun h A hA => Q.shade _ l t A (row.on hA) h
  have HCK : Hid (l.length ≤ 100 → ∀ A, Below w.heap.size w A → Calls Try.prog 29 #[.slice ao l.length c] A fun e w' => e = .returned (.int .i64 (errS l)) ∧ Below A.heap.size A w') := fun h A hA => Q.check _ l A (row.on hA) h
  obtain ⟨b, o, rfl, hbs, hst⟩ := row.addr2 h1
  have HS : Hid (∀ A, Below w.heap.size w A → ∀ i, i < n → StopAt A b (o + i * 5) (sAt l i)) := fun A hA i hi => (hst i _ (sAt_some (by omega))).on hA hbs
  have HOKC : Hid (∀ i, i < n → OkC (sAt l i).2) := fun i hi => row.ok _ (List.mem_of_getElem? (sAt_some (by omega)))
  have HOS : Hid (okS l = (decide (n ≤ 16) && chkS l n)) := by unfold Hid okS; rw [hn, show decide (1 ≤ n) = true by simp; omega, Bool.true_and]
  have HSC : Hid (shadeC l t = if okS l = true then (if t ≤ (sAt l 0).1 then (sAt l 0).2 else if t ≥ (sAt l (n - 1)).1 then (sAt l (n - 1)).2 else mixC (sAt l (lastI l t n)).2 (sAt l (lastI l t n + 1)).2 (partS l t (lastI l t n))) else zeroC) := by unfold Hid shadeC; rw [hn]
  rw [hn] at HSH HCK h1 h100 ⊢
  have HL100 : Hid (n ≤ 100) := h100
  have EZ := equal_zero
  have hd : decide ((n : Int) > 100) = false := by simp; omega
  have hd1 : decide ((n : Int) ≥ 1) = true := by simp; omega
  obtain ⟨q, hq⟩ : ∃ q, decide (n ≤ 16) = q := ⟨_, rfl⟩
  have hq2 : decide ((n : Int) ≤ 16) = q := by rw [← hq]; simp; omega
  rw [hq] at HOS
  have BW1 : Hid (Below w.heap.size w w) := Below.refl _ _
  clear row hn hq hst hbs
  go_enter Try.func8, Try.ntmps8
  go_wp2_with fail
  go_loopw [5, 27] (fun s5 s27 wr => ∃ k : Nat, k ≤ n ∧ s27 = .int .i64 (k : Int) ∧ s5 = .bool (q && chkS l k) ∧ Hid (Below w.heap.size w wr)) (fun _ s27 _ => n - (intOf s27).toNat)
  case atStart => exact ⟨0, by omega, rfl, by simp [chkS], BW1⟩
  case round =>
    obtain ⟨k, hk, rfl, rfl, BW20⟩ := hrel
    obtain ⟨w20, rfl⟩ : ∃ x, x = wr := ⟨_, rfl⟩
    by_cases hlt : k < n
    · have hdk : decide ((k : Int) < (n : Int)) = true := by simp; omega
      have hki : (k : Int) < (n : Int) := by omega
      have HX := HOKC.out k hlt
      obtain ⟨a, ha⟩ : ∃ a, (sAt l k).1 = a := ⟨_, rfl⟩
      obtain ⟨x, hx⟩ : ∃ x, (sAt l k).2 = x := ⟨_, rfl⟩
      rw [hx] at HX
      have HRX := Lib.hid (fun w => P.right x w HX)
      obtain ⟨c0, c1, c2, c3, c4⟩ := HS.out w20 BW20.out k hlt
      rw [ha] at c0
      rw [hx] at c1 c2 c3 c4
      have HST : Hid (stopOk l k = (decide (a ≥ 0) && decide (a ≤ 65536) && rightC x && (decide (k = 0) || decide ((sAt l (k - 1)).1 ≤ a)))) := by unfold Hid stopOk; rw [ha, hx]
      have HCH : Hid (chkS l (k + 1) = (chkS l k && stopOk l k)) := rfl
      obtain ⟨ok, hok⟩ : ∃ y, (q && chkS l k) = y := ⟨_, rfl⟩
      have HNX : Hid (∀ v, (ok && stopOk l k) = v → Value.bool v = .bool (q && chkS l (k + 1))) := fun v hv => by rw [← hv, HCH.out, ← hok, Bool.and_assoc]
      rw [hok]
      clear hok ha hx HX
      go_wp2_with fail
      clear c0 c1 c2 c3 c4
      obtain ⟨w21, hw⟩ : ∃ W, w20.alloc (.cells #[.int .i64 a, .int .u8 (x 0), .int .u8 (x 1), .int .u8 (x 2), .int .u8 (x 3)] 48) = W := ⟨_, rfl⟩
      have HB21 : Hid (∀ A, Below w21.heap.size w21 A → Blk A w20.heap.size 48 (#[.int .i64 a, .int .u8 (x 0), .int .u8 (x 1), .int .u8 (x 2), .int .u8 (x 3)])) := fun A hA => by
              rw [← hw] at hA
              exact (Blk.new _ _ _).grow hA
      have BW21 : Hid (Below w.heap.size w w21) := by
        rw [← hw]
        exact BW20.out.alloc BW20.out.size _
      rw [hw]
      clear hw
      generalize w20.heap.size = g7 at *
      cases ok
      · skip
        refine wp_region_quiet (C := Out w21) (by kernel_rfl) (by kernel_rfl) ⟨rfl, rfl, rfl, Nat.le_refl _, fun _ _ => rfl⟩ ?_
        refine BigFrame.wpQuiet_want rfl (fun K hK => ?_)
        refine quiet_val (.bool false) (fun w' hw' => by go_simp) (hK _ ?_)
        clear hK K
        simp only [Act.put, List.setIfInBounds_toArray, List.set_cons_zero, List.set_cons_succ]
        refine BigFrame.wpQuiet_want rfl (fun K hK => ?_)
        refine quiet_val (.bool false) (fun w' hw' => by go_simp) (hK _ ?_)
        clear hK K
        simp only [Act.put, List.setIfInBounds_toArray, List.set_cons_zero, List.set_cons_succ]
        go_big_quiet_skip
        go_big_quiet_skip
        go_big_quiet_skip
        refine BigFrame.wpQuiet_want rfl (fun K hK => ?_)
        refine quiet_val (.bool false) (fun w' hw' => by go_simp) (hK _ ?_)
        clear hK K
        simp only [Act.put, List.setIfInBounds_toArray, List.set_cons_zero, List.set_cons_succ]
        refine BigFrame.wpQuiet_want rfl (fun K hK => ?_)
        refine quiet_val (.bool false) (fun w' hw' => by go_simp) (hK _ ?_)
        clear hK K
        simp only [Act.put, List.setIfInBounds_toArray, List.set_cons_zero, List.set_cons_succ]
        go_big_quiet_skip
        go_big_quiet_skip
        go_big_quiet_skip
        refine BigFrame.wpQuiet_want rfl (fun K hK => ?_)
        refine quiet_val (.bool false) (fun w' hw' => by go_simp) (hK _ ?_)
        clear hK K
        simp only [Act.put, List.setIfInBounds_toArray, List.set_cons_zero, List.set_cons_succ]
        refine BigFrame.wpQuiet_want rfl (fun K hK => ?_)
        refine quiet_val (.bool false) (fun w' hw' => by go_simp) (hK _ ?_)
        clear hK K
        simp only [Act.put, List.setIfInBounds_toArray, List.set_cons_zero, List.set_cons_succ]
        go_big_quiet_skip
        go_big_quiet_skip
        go_big_quiet_skip
        refine BigFrame.wpQuiet_want rfl (fun K hK => ?_)
        refine quiet_val (.bool false) (fun w' hw' => by go_simp) (hK _ ?_)
        clear hK K
        simp only [Act.put, List.setIfInBounds_toArray, List.set_cons_zero, List.set_cons_succ]
        refine BigFrame.wpQuiet_want rfl (fun K hK => ?_)
        refine quiet_val (.bool false) (fun w' hw' => by go_simp) (hK _ ?_)
        clear hK K
        simp only [Act.put, List.setIfInBounds_toArray, List.set_cons_zero, List.set_cons_succ]
        go_big_quiet_skip
        go_big_quiet_skip
        go_big_quiet_skip
        go_big_quiet_skip
        go_big_quiet_skip
        go_big_quiet_skip
        go_big_quiet_skip
        go_big_quiet_skip
        go_big_quiet_skip
        go_big_quiet_skip
        go_big_quiet_skip
        go_big_quiet_skip
        go_big_quiet_skip
        refine BigFrame.wpQuiet_want rfl (fun K hK => ?_)
        refine quiet_val (.bool false) (fun w' hw' => by go_simp) (hK _ ?_)
        clear hK K
        simp only [Act.put, List.setIfInBounds_toArray, List.set_cons_zero, List.set_cons_succ]
        refine BigFrame.wpQuiet_want rfl (fun K hK => ?_)
        refine quiet_val (.bool false) (fun w' hw' => by go_simp) (hK _ ?_)
        clear hK K
        simp only [Act.put, List.setIfInBounds_toArray, List.set_cons_zero, List.set_cons_succ]
        refine wpQuiet_nil ?_
        intro w22 hb
        have HB22 : Hid (∀ A, Below w22.heap.size w22 A → Blk A g7 48 (#[.int .i64 a, .int .u8 (x 0), .int .u8 (x 1), .int .u8 (x 2), .int .u8 (x 3)])) := fun A hA => HB21.out A (hb.trans (hA.mono hb.size))
        have BW22 : Hid (Below w.heap.size w w22) := BW21.out.trans (hb.mono BW21.out.size)
        clear hb
        go_wp2_with fail
        exact ⟨⟨k + 1, by omega, by go_num, HNX.out _ (by rw [Bool.false_and]), BW22⟩, by simp [intOf]; omega⟩
      · rcases Int.lt_or_le a 0 with h0 | h0
        · have E1 : Hid ((decide (a ≥ 0)) = false) := by unfold Hid; simp; omega
          refine wp_region_quiet (C := Out w21) (by kernel_rfl) (by kernel_rfl) ⟨rfl, rfl, rfl, Nat.le_refl _, fun _ _ => rfl⟩ ?_
          refine BigFrame.wpQuiet_want rfl (fun K hK => ?_)
          refine quiet_val (.bool true) (fun w' hw' => by go_simp) (hK _ ?_)
          clear hK K
          simp only [Act.put, List.setIfInBounds_toArray, List.set_cons_zero, List.set_cons_succ]
          refine BigFrame.wpQuiet_want rfl (fun K hK => ?_)
          refine quiet_val (.bool true) (fun w' hw' => by go_simp) (hK _ ?_)
          clear hK K
          simp only [Act.put, List.setIfInBounds_toArray, List.set_cons_zero, List.set_cons_succ]
          refine BigFrame.wpQuiet_want rfl (fun K hK => ?_)
          refine quiet_val (.pointer (some ⟨g7, 0, none⟩)) (fun w' hw' => by go_simp) (hK _ ?_)
          clear hK K
          simp only [Act.put, List.setIfInBounds_toArray, List.set_cons_zero, List.set_cons_succ]
          refine BigFrame.wpQuiet_want rfl (fun K hK => ?_)
          refine quiet_val (.int .i64 a) (fun w' hw' => by have x0 : w'.cell? ⟨g7, 0, none⟩ = some (.int .i64 a) := (HB21.out w' hw').cell 0; go_simp) (hK _ ?_)
          clear hK K
          simp only [Act.put, List.setIfInBounds_toArray, List.set_cons_zero, List.set_cons_succ]
          refine BigFrame.wpQuiet_want rfl (fun K hK => ?_)
          refine quiet_val (.bool false) (fun w' hw' => by have e := E1.out; go_simp) (hK _ ?_)
          clear hK K
          simp only [Act.put, List.setIfInBounds_toArray, List.set_cons_zero, List.set_cons_succ]
          refine BigFrame.wpQuiet_want rfl (fun K hK => ?_)
          refine quiet_val (.bool false) (fun w' hw' => by go_simp) (hK _ ?_)
          clear hK K
          simp only [Act.put, List.setIfInBounds_toArray, List.set_cons_zero, List.set_cons_succ]
          refine BigFrame.wpQuiet_want rfl (fun K hK => ?_)
          refine quiet_val (.bool false) (fun w' hw' => by go_simp) (hK _ ?_)
          clear hK K
          simp only [Act.put, List.setIfInBounds_toArray, List.set_cons_zero, List.set_cons_succ]
          go_big_quiet_skip
          go_big_quiet_skip
          go_big_quiet_skip
          refine BigFrame.wpQuiet_want rfl (fun K hK => ?_)
          refine quiet_val (.bool false) (fun w' hw' => by go_simp) (hK _ ?_)
          clear hK K
          simp only [Act.put, List.setIfInBounds_toArray, List.set_cons_zero, List.set_cons_succ]
          refine BigFrame.wpQuiet_want rfl (fun K hK => ?_)
          refine quiet_val (.bool false) (fun w' hw' => by go_simp) (hK _ ?_)
          clear hK K
          simp only [Act.put, List.setIfInBounds_toArray, List.set_cons_zero, List.set_cons_succ]
          go_big_quiet_skip
          go_big_quiet_skip
          go_big_quiet_skip
          refine BigFrame.wpQuiet_want rfl (fun K hK => ?_)
          refine quiet_val (.bool false) (fun w' hw' => by go_simp) (hK _ ?_)
          clear hK K
          simp only [Act.put, List.setIfInBounds_toArray, List.set_cons_zero, List.set_cons_succ]
          refine BigFrame.wpQuiet_want rfl (fun K hK => ?_)
          refine quiet_val (.bool false) (fun w' hw' => by go_simp) (hK _ ?_)
          clear hK K
          simp only [Act.put, List.setIfInBounds_toArray, List.set_cons_zero, List.set_cons_succ]
          go_big_quiet_skip
          go_big_quiet_skip
          go_big_quiet_skip
          go_big_quiet_skip
          go_big_quiet_skip
          go_big_quiet_skip
          go_big_quiet_skip
          go_big_quiet_skip
          go_big_quiet_skip
          go_big_quiet_skip
          go_big_quiet_skip
          go_big_quiet_skip
          go_big_quiet_skip
          refine BigFrame.wpQuiet_want rfl (fun K hK => ?_)
          refine quiet_val (.bool false) (fun w' hw' => by go_simp) (hK _ ?_)
          clear hK K
          simp only [Act.put, List.setIfInBounds_toArray, List.set_cons_zero, List.set_cons_succ]
          refine BigFrame.wpQuiet_want rfl (fun K hK => ?_)
          refine quiet_val (.bool false) (fun w' hw' => by go_simp) (hK _ ?_)
          clear hK K
          simp only [Act.put, List.setIfInBounds_toArray, List.set_cons_zero, List.set_cons_succ]
          refine wpQuiet_nil ?_
          intro w22 hb
          have HB22 : Hid (∀ A, Below w22.heap.size w22 A → Blk A g7 48 (#[.int .i64 a, .int .u8 (x 0), .int .u8 (x 1), .int .u8 (x 2), .int .u8 (x 3)])) := fun A hA => HB21.out A (hb.trans (hA.mono hb.size))
          have BW22 : Hid (Below w.heap.size w w22) := BW21.out.trans (hb.mono BW21.out.size)
          clear hb
          go_wp2_with fail
          exact ⟨⟨k + 1, by omega, by go_num, HNX.out _ (by rw [Bool.true_and, HST.out, E1.out]; rfl), BW22⟩, by simp [intOf]; omega⟩
        · rcases Int.lt_or_le 65536 a with h2 | h2
          · have E1 : Hid ((decide (a ≥ 0)) = true) := by unfold Hid; simp; omega
            have E2 : Hid ((decide (a ≤ 65536)) = false) := by unfold Hid; simp; omega
            refine wp_region_quiet (C := Out w21) (by kernel_rfl) (by kernel_rfl) ⟨rfl, rfl, rfl, Nat.le_refl _, fun _ _ => rfl⟩ ?_
            refine BigFrame.wpQuiet_want rfl (fun K hK => ?_)
            refine quiet_val (.bool true) (fun w' hw' => by go_simp) (hK _ ?_)
            clear hK K
            simp only [Act.put, List.setIfInBounds_toArray, List.set_cons_zero, List.set_cons_succ]
            refine BigFrame.wpQuiet_want rfl (fun K hK => ?_)
            refine quiet_val (.bool true) (fun w' hw' => by go_simp) (hK _ ?_)
            clear hK K
            simp only [Act.put, List.setIfInBounds_toArray, List.set_cons_zero, List.set_cons_succ]
            refine BigFrame.wpQuiet_want rfl (fun K hK => ?_)
            refine quiet_val (.pointer (some ⟨g7, 0, none⟩)) (fun w' hw' => by go_simp) (hK _ ?_)
            clear hK K
            simp only [Act.put, List.setIfInBounds_toArray, List.set_cons_zero, List.set_cons_succ]
            refine BigFrame.wpQuiet_want rfl (fun K hK => ?_)
            refine quiet_val (.int .i64 a) (fun w' hw' => by have x0 : w'.cell? ⟨g7, 0, none⟩ = some (.int .i64 a) := (HB21.out w' hw').cell 0; go_simp) (hK _ ?_)
            clear hK K
            simp only [Act.put, List.setIfInBounds_toArray, List.set_cons_zero, List.set_cons_succ]
            refine BigFrame.wpQuiet_want rfl (fun K hK => ?_)
            refine quiet_val (.bool true) (fun w' hw' => by have e := E1.out; go_simp) (hK _ ?_)
            clear hK K
            simp only [Act.put, List.setIfInBounds_toArray, List.set_cons_zero, List.set_cons_succ]
            refine BigFrame.wpQuiet_want rfl (fun K hK => ?_)
            refine quiet_val (.bool true) (fun w' hw' => by go_simp) (hK _ ?_)
            clear hK K
            simp only [Act.put, List.setIfInBounds_toArray, List.set_cons_zero, List.set_cons_succ]
            refine BigFrame.wpQuiet_want rfl (fun K hK => ?_)
            refine quiet_val (.bool true) (fun w' hw' => by go_simp) (hK _ ?_)
            clear hK K
            simp only [Act.put, List.setIfInBounds_toArray, List.set_cons_zero, List.set_cons_succ]
            refine BigFrame.wpQuiet_want rfl (fun K hK => ?_)
            refine quiet_val (.pointer (some ⟨g7, 0, none⟩)) (fun w' hw' => by go_simp) (hK _ ?_)
            clear hK K
            simp only [Act.put, List.setIfInBounds_toArray, List.set_cons_zero, List.set_cons_succ]
            refine BigFrame.wpQuiet_want rfl (fun K hK => ?_)
            refine quiet_val (.int .i64 a) (fun w' hw' => by have x0 : w'.cell? ⟨g7, 0, none⟩ = some (.int .i64 a) := (HB21.out w' hw').cell 0; go_simp) (hK _ ?_)
            clear hK K
            simp only [Act.put, List.setIfInBounds_toArray, List.set_cons_zero, List.set_cons_succ]
            refine BigFrame.wpQuiet_want rfl (fun K hK => ?_)
            refine quiet_val (.bool false) (fun w' hw' => by have e := E2.out; go_simp) (hK _ ?_)
            clear hK K
            simp only [Act.put, List.setIfInBounds_toArray, List.set_cons_zero, List.set_cons_succ]
            refine BigFrame.wpQuiet_want rfl (fun K hK => ?_)
            refine quiet_val (.bool false) (fun w' hw' => by go_simp) (hK _ ?_)
            clear hK K
            simp only [Act.put, List.setIfInBounds_toArray, List.set_cons_zero, List.set_cons_succ]
            refine BigFrame.wpQuiet_want rfl (fun K hK => ?_)
            refine quiet_val (.bool false) (fun w' hw' => by go_simp) (hK _ ?_)
            clear hK K
            simp only [Act.put, List.setIfInBounds_toArray, List.set_cons_zero, List.set_cons_succ]
            go_big_quiet_skip
            go_big_quiet_skip
            go_big_quiet_skip
            refine BigFrame.wpQuiet_want rfl (fun K hK => ?_)
            refine quiet_val (.bool false) (fun w' hw' => by go_simp) (hK _ ?_)
            clear hK K
            simp only [Act.put, List.setIfInBounds_toArray, List.set_cons_zero, List.set_cons_succ]
            refine BigFrame.wpQuiet_want rfl (fun K hK => ?_)
            refine quiet_val (.bool false) (fun w' hw' => by go_simp) (hK _ ?_)
            clear hK K
            simp only [Act.put, List.setIfInBounds_toArray, List.set_cons_zero, List.set_cons_succ]
            go_big_quiet_skip
            go_big_quiet_skip
            go_big_quiet_skip
            go_big_quiet_skip
            go_big_quiet_skip
            go_big_quiet_skip
            go_big_quiet_skip
            go_big_quiet_skip
            go_big_quiet_skip
            go_big_quiet_skip
            go_big_quiet_skip
            go_big_quiet_skip
            go_big_quiet_skip
            refine BigFrame.wpQuiet_want rfl (fun K hK => ?_)
            refine quiet_val (.bool false) (fun w' hw' => by go_simp) (hK _ ?_)
            clear hK K
            simp only [Act.put, List.setIfInBounds_toArray, List.set_cons_zero, List.set_cons_succ]
            refine BigFrame.wpQuiet_want rfl (fun K hK => ?_)
            refine quiet_val (.bool false) (fun w' hw' => by go_simp) (hK _ ?_)
            clear hK K
            simp only [Act.put, List.setIfInBounds_toArray, List.set_cons_zero, List.set_cons_succ]
            refine wpQuiet_nil ?_
            intro w22 hb
            have HB22 : Hid (∀ A, Below w22.heap.size w22 A → Blk A g7 48 (#[.int .i64 a, .int .u8 (x 0), .int .u8 (x 1), .int .u8 (x 2), .int .u8 (x 3)])) := fun A hA => HB21.out A (hb.trans (hA.mono hb.size))
            have BW22 : Hid (Below w.heap.size w w22) := BW21.out.trans (hb.mono BW21.out.size)
            clear hb
            go_wp2_with fail
            exact ⟨⟨k + 1, by omega, by go_num, HNX.out _ (by rw [Bool.true_and, HST.out, E1.out, E2.out]; rfl), BW22⟩, by simp [intOf]; omega⟩
          · cases hrx : rightC x
            · rw [hrx] at HRX
              have E1 : Hid ((decide (a ≥ 0)) = true) := by unfold Hid; simp; omega
              have E2 : Hid ((decide (a ≤ 65536)) = true) := by unfold Hid; simp; omega
              refine wp_region_quiet (C := Out w21) (by kernel_rfl) (by kernel_rfl) ⟨rfl, rfl, rfl, Nat.le_refl _, fun _ _ => rfl⟩ ?_
              refine BigFrame.wpQuiet_want rfl (fun K hK => ?_)
              refine quiet_val (.bool true) (fun w' hw' => by go_simp) (hK _ ?_)
              clear hK K
              simp only [Act.put, List.setIfInBounds_toArray, List.set_cons_zero, List.set_cons_succ]
              refine BigFrame.wpQuiet_want rfl (fun K hK => ?_)
              refine quiet_val (.bool true) (fun w' hw' => by go_simp) (hK _ ?_)
              clear hK K
              simp only [Act.put, List.setIfInBounds_toArray, List.set_cons_zero, List.set_cons_succ]
              refine BigFrame.wpQuiet_want rfl (fun K hK => ?_)
              refine quiet_val (.pointer (some ⟨g7, 0, none⟩)) (fun w' hw' => by go_simp) (hK _ ?_)
              clear hK K
              simp only [Act.put, List.setIfInBounds_toArray, List.set_cons_zero, List.set_cons_succ]
              refine BigFrame.wpQuiet_want rfl (fun K hK => ?_)
              refine quiet_val (.int .i64 a) (fun w' hw' => by have x0 : w'.cell? ⟨g7, 0, none⟩ = some (.int .i64 a) := (HB21.out w' hw').cell 0; go_simp) (hK _ ?_)
              clear hK K
              simp only [Act.put, List.setIfInBounds_toArray, List.set_cons_zero, List.set_cons_succ]
              refine BigFrame.wpQuiet_want rfl (fun K hK => ?_)
              refine quiet_val (.bool true) (fun w' hw' => by have e := E1.out; go_simp) (hK _ ?_)
              clear hK K
              simp only [Act.put, List.setIfInBounds_toArray, List.set_cons_zero, List.set_cons_succ]
              refine BigFrame.wpQuiet_want rfl (fun K hK => ?_)
              refine quiet_val (.bool true) (fun w' hw' => by go_simp) (hK _ ?_)
              clear hK K
              simp only [Act.put, List.setIfInBounds_toArray, List.set_cons_zero, List.set_cons_succ]
              refine BigFrame.wpQuiet_want rfl (fun K hK => ?_)
              refine quiet_val (.bool true) (fun w' hw' => by go_simp) (hK _ ?_)
              clear hK K
              simp only [Act.put, List.setIfInBounds_toArray, List.set_cons_zero, List.set_cons_succ]
              refine BigFrame.wpQuiet_want rfl (fun K hK => ?_)
              refine quiet_val (.pointer (some ⟨g7, 0, none⟩)) (fun w' hw' => by go_simp) (hK _ ?_)
              clear hK K
              simp only [Act.put, List.setIfInBounds_toArray, List.set_cons_zero, List.set_cons_succ]
              refine BigFrame.wpQuiet_want rfl (fun K hK => ?_)
              refine quiet_val (.int .i64 a) (fun w' hw' => by have x0 : w'.cell? ⟨g7, 0, none⟩ = some (.int .i64 a) := (HB21.out w' hw').cell 0; go_simp) (hK _ ?_)
              clear hK K
              simp only [Act.put, List.setIfInBounds_toArray, List.set_cons_zero, List.set_cons_succ]
              refine BigFrame.wpQuiet_want rfl (fun K hK => ?_)
              refine quiet_val (.bool true) (fun w' hw' => by have e := E2.out; go_simp) (hK _ ?_)
              clear hK K
              simp only [Act.put, List.setIfInBounds_toArray, List.set_cons_zero, List.set_cons_succ]
              refine BigFrame.wpQuiet_want rfl (fun K hK => ?_)
              refine quiet_val (.bool true) (fun w' hw' => by go_simp) (hK _ ?_)
              clear hK K
              simp only [Act.put, List.setIfInBounds_toArray, List.set_cons_zero, List.set_cons_succ]
              refine BigFrame.wpQuiet_want rfl (fun K hK => ?_)
              refine quiet_val (.bool true) (fun w' hw' => by go_simp) (hK _ ?_)
              clear hK K
              simp only [Act.put, List.setIfInBounds_toArray, List.set_cons_zero, List.set_cons_succ]
              refine BigFrame.wpQuiet_want rfl (fun K hK => ?_)
              refine quiet_val (.pointer (some ⟨g7, 1, none⟩)) (fun w' hw' => by go_simp) (hK _ ?_)
              clear hK K
              simp only [Act.put, List.setIfInBounds_toArray, List.set_cons_zero, List.set_cons_succ]
              refine BigFrame.wpQuiet_want rfl (fun K hK => ?_)
              refine quiet_val (.agg #[.int .u8 (x 0), .int .u8 (x 1), .int .u8 (x 2), .int .u8 (x 3)]) (fun w' hw' => by have x0 : w'.cell? ⟨g7, 1, none⟩ = some (.int .u8 (x 0)) := (HB21.out w' hw').cell 1; have x1 : w'.cell? ⟨g7, 2, none⟩ = some (.int .u8 (x 1)) := (HB21.out w' hw').cell 2; have x2 : w'.cell? ⟨g7, 3, none⟩ = some (.int .u8 (x 2)) := (HB21.out w' hw').cell 3; have x3 : w'.cell? ⟨g7, 4, none⟩ = some (.int .u8 (x 3)) := (HB21.out w' hw').cell 4; go_simp) (hK _ ?_)
              clear hK K
              simp only [Act.put, List.setIfInBounds_toArray, List.set_cons_zero, List.set_cons_succ]
              refine BigFrame.wpQuiet_want rfl (fun K hK => ?_)
              refine quiet_call 19 #[.agg #[.int .u8 (x 0), .int .u8 (x 1), .int .u8 (x 2), .int .u8 (x 3)]] (.bool false) (fun w' _ => by go_simp) (fun w' hw' => Calls.out hw' (HRX.out w')) (hK _ ?_)
              clear hK K
              simp only [Act.put, List.setIfInBounds_toArray, List.set_cons_zero, List.set_cons_succ]
              refine BigFrame.wpQuiet_want rfl (fun K hK => ?_)
              refine quiet_val (.bool false) (fun w' hw' => by go_simp) (hK _ ?_)
              clear hK K
              simp only [Act.put, List.setIfInBounds_toArray, List.set_cons_zero, List.set_cons_succ]
              refine BigFrame.wpQuiet_want rfl (fun K hK => ?_)
              refine quiet_val (.bool false) (fun w' hw' => by go_simp) (hK _ ?_)
              clear hK K
              simp only [Act.put, List.setIfInBounds_toArray, List.set_cons_zero, List.set_cons_succ]
              go_big_quiet_skip
              go_big_quiet_skip
              go_big_quiet_skip
              go_big_quiet_skip
              go_big_quiet_skip
              go_big_quiet_skip
              go_big_quiet_skip
              go_big_quiet_skip
              go_big_quiet_skip
              go_big_quiet_skip
              go_big_quiet_skip
              go_big_quiet_skip
              go_big_quiet_skip
              refine BigFrame.wpQuiet_want rfl (fun K hK => ?_)
              refine quiet_val (.bool false) (fun w' hw' => by go_simp) (hK _ ?_)
              clear hK K
              simp only [Act.put, List.setIfInBounds_toArray, List.set_cons_zero, List.set_cons_succ]
              refine BigFrame.wpQuiet_want rfl (fun K hK => ?_)
              refine quiet_val (.bool false) (fun w' hw' => by go_simp) (hK _ ?_)
              clear hK K
              simp only [Act.put, List.setIfInBounds_toArray, List.set_cons_zero, List.set_cons_succ]
              refine wpQuiet_nil ?_
              intro w22 hb
              have HB22 : Hid (∀ A, Below w22.heap.size w22 A → Blk A g7 48 (#[.int .i64 a, .int .u8 (x 0), .int .u8 (x 1), .int .u8 (x 2), .int .u8 (x 3)])) := fun A hA => HB21.out A (hb.trans (hA.mono hb.size))
              have BW22 : Hid (Below w.heap.size w w22) := BW21.out.trans (hb.mono BW21.out.size)
              clear hb
              go_wp2_with fail
              exact ⟨⟨k + 1, by omega, by go_num, HNX.out _ (by rw [Bool.true_and, HST.out, E1.out, E2.out, hrx]; rfl), BW22⟩, by simp [intOf]; omega⟩
            · by_cases hk0 : k = 0
              · rw [hrx] at HRX
                have E1 : Hid ((decide (a ≥ 0)) = true) := by unfold Hid; simp; omega
                have E2 : Hid ((decide (a ≤ 65536)) = true) := by unfold Hid; simp; omega
                have E3 : Hid (((k : Int) == 0) = true) := by unfold Hid; simp; omega
                have HK0 := Lib.hid hk0
                clear hk0
                refine wp_region_quiet (C := Out w21) (by kernel_rfl) (by kernel_rfl) ⟨rfl, rfl, rfl, Nat.le_refl _, fun _ _ => rfl⟩ ?_
                refine BigFrame.wpQuiet_want rfl (fun K hK => ?_)
                refine quiet_val (.bool true) (fun w' hw' => by go_simp) (hK _ ?_)
                clear hK K
                simp only [Act.put, List.setIfInBounds_toArray, List.set_cons_zero, List.set_cons_succ]
                refine BigFrame.wpQuiet_want rfl (fun K hK => ?_)
                refine quiet_val (.bool true) (fun w' hw' => by go_simp) (hK _ ?_)
                clear hK K
                simp only [Act.put, List.setIfInBounds_toArray, List.set_cons_zero, List.set_cons_succ]
                refine BigFrame.wpQuiet_want rfl (fun K hK => ?_)
                refine quiet_val (.pointer (some ⟨g7, 0, none⟩)) (fun w' hw' => by go_simp) (hK _ ?_)
                clear hK K
                simp only [Act.put, List.setIfInBounds_toArray, List.set_cons_zero, List.set_cons_succ]
                refine BigFrame.wpQuiet_want rfl (fun K hK => ?_)
                refine quiet_val (.int .i64 a) (fun w' hw' => by have x0 : w'.cell? ⟨g7, 0, none⟩ = some (.int .i64 a) := (HB21.out w' hw').cell 0; go_simp) (hK _ ?_)
                clear hK K
                simp only [Act.put, List.setIfInBounds_toArray, List.set_cons_zero, List.set_cons_succ]
                refine BigFrame.wpQuiet_want rfl (fun K hK => ?_)
                refine quiet_val (.bool true) (fun w' hw' => by have e := E1.out; go_simp) (hK _ ?_)
                clear hK K
                simp only [Act.put, List.setIfInBounds_toArray, List.set_cons_zero, List.set_cons_succ]
                refine BigFrame.wpQuiet_want rfl (fun K hK => ?_)
                refine quiet_val (.bool true) (fun w' hw' => by go_simp) (hK _ ?_)
                clear hK K
                simp only [Act.put, List.setIfInBounds_toArray, List.set_cons_zero, List.set_cons_succ]
                refine BigFrame.wpQuiet_want rfl (fun K hK => ?_)
                refine quiet_val (.bool true) (fun w' hw' => by go_simp) (hK _ ?_)
                clear hK K
                simp only [Act.put, List.setIfInBounds_toArray, List.set_cons_zero, List.set_cons_succ]
                refine BigFrame.wpQuiet_want rfl (fun K hK => ?_)
                refine quiet_val (.pointer (some ⟨g7, 0, none⟩)) (fun w' hw' => by go_simp) (hK _ ?_)
                clear hK K
                simp only [Act.put, List.setIfInBounds_toArray, List.set_cons_zero, List.set_cons_succ]
                refine BigFrame.wpQuiet_want rfl (fun K hK => ?_)
                refine quiet_val (.int .i64 a) (fun w' hw' => by have x0 : w'.cell? ⟨g7, 0, none⟩ = some (.int .i64 a) := (HB21.out w' hw').cell 0; go_simp) (hK _ ?_)
                clear hK K
                simp only [Act.put, List.setIfInBounds_toArray, List.set_cons_zero, List.set_cons_succ]
                refine BigFrame.wpQuiet_want rfl (fun K hK => ?_)
                refine quiet_val (.bool true) (fun w' hw' => by have e := E2.out; go_simp) (hK _ ?_)
                clear hK K
                simp only [Act.put, List.setIfInBounds_toArray, List.set_cons_zero, List.set_cons_succ]
                refine BigFrame.wpQuiet_want rfl (fun K hK => ?_)
                refine quiet_val (.bool true) (fun w' hw' => by go_simp) (hK _ ?_)
                clear hK K
                simp only [Act.put, List.setIfInBounds_toArray, List.set_cons_zero, List.set_cons_succ]
                refine BigFrame.wpQuiet_want rfl (fun K hK => ?_)
                refine quiet_val (.bool true) (fun w' hw' => by go_simp) (hK _ ?_)
                clear hK K
                simp only [Act.put, List.setIfInBounds_toArray, List.set_cons_zero, List.set_cons_succ]
                refine BigFrame.wpQuiet_want rfl (fun K hK => ?_)
                refine quiet_val (.pointer (some ⟨g7, 1, none⟩)) (fun w' hw' => by go_simp) (hK _ ?_)
                clear hK K
                simp only [Act.put, List.setIfInBounds_toArray, List.set_cons_zero, List.set_cons_succ]
                refine BigFrame.wpQuiet_want rfl (fun K hK => ?_)
                refine quiet_val (.agg #[.int .u8 (x 0), .int .u8 (x 1), .int .u8 (x 2), .int .u8 (x 3)]) (fun w' hw' => by have x0 : w'.cell? ⟨g7, 1, none⟩ = some (.int .u8 (x 0)) := (HB21.out w' hw').cell 1; have x1 : w'.cell? ⟨g7, 2, none⟩ = some (.int .u8 (x 1)) := (HB21.out w' hw').cell 2; have x2 : w'.cell? ⟨g7, 3, none⟩ = some (.int .u8 (x 2)) := (HB21.out w' hw').cell 3; have x3 : w'.cell? ⟨g7, 4, none⟩ = some (.int .u8 (x 3)) := (HB21.out w' hw').cell 4; go_simp) (hK _ ?_)
                clear hK K
                simp only [Act.put, List.setIfInBounds_toArray, List.set_cons_zero, List.set_cons_succ]
                refine BigFrame.wpQuiet_want rfl (fun K hK => ?_)
                refine quiet_call 19 #[.agg #[.int .u8 (x 0), .int .u8 (x 1), .int .u8 (x 2), .int .u8 (x 3)]] (.bool true) (fun w' _ => by go_simp) (fun w' hw' => Calls.out hw' (HRX.out w')) (hK _ ?_)
                clear hK K
                simp only [Act.put, List.setIfInBounds_toArray, List.set_cons_zero, List.set_cons_succ]
                refine BigFrame.wpQuiet_want rfl (fun K hK => ?_)
                refine quiet_val (.bool true) (fun w' hw' => by go_simp) (hK _ ?_)
                clear hK K
                simp only [Act.put, List.setIfInBounds_toArray, List.set_cons_zero, List.set_cons_succ]
                refine BigFrame.wpQuiet_want rfl (fun K hK => ?_)
                refine quiet_val (.bool true) (fun w' hw' => by go_simp) (hK _ ?_)
                clear hK K
                simp only [Act.put, List.setIfInBounds_toArray, List.set_cons_zero, List.set_cons_succ]
                refine BigFrame.wpQuiet_want rfl (fun K hK => ?_)
                refine quiet_val (.int .i64 (k : Int)) (fun w' hw' => by go_simp) (hK _ ?_)
                clear hK K
                simp only [Act.put, List.setIfInBounds_toArray, List.set_cons_zero, List.set_cons_succ]
                refine BigFrame.wpQuiet_want rfl (fun K hK => ?_)
                refine quiet_val (.bool true) (fun w' hw' => by have e := E3.out; go_simp) (hK _ ?_)
                clear hK K
                simp only [Act.put, List.setIfInBounds_toArray, List.set_cons_zero, List.set_cons_succ]
                refine BigFrame.wpQuiet_want rfl (fun K hK => ?_)
                refine quiet_val (.bool true) (fun w' hw' => by go_simp) (hK _ ?_)
                clear hK K
                simp only [Act.put, List.setIfInBounds_toArray, List.set_cons_zero, List.set_cons_succ]
                go_big_quiet_skip
                go_big_quiet_skip
                go_big_quiet_skip
                go_big_quiet_skip
                go_big_quiet_skip
                go_big_quiet_skip
                go_big_quiet_skip
                go_big_quiet_skip
                go_big_quiet_skip
                refine BigFrame.wpQuiet_want rfl (fun K hK => ?_)
                refine quiet_val (.bool true) (fun w' hw' => by go_simp) (hK _ ?_)
                clear hK K
                simp only [Act.put, List.setIfInBounds_toArray, List.set_cons_zero, List.set_cons_succ]
                refine BigFrame.wpQuiet_want rfl (fun K hK => ?_)
                refine quiet_val (.bool true) (fun w' hw' => by go_simp) (hK _ ?_)
                clear hK K
                simp only [Act.put, List.setIfInBounds_toArray, List.set_cons_zero, List.set_cons_succ]
                refine BigFrame.wpQuiet_want rfl (fun K hK => ?_)
                refine quiet_val (.bool true) (fun w' hw' => by go_simp) (hK _ ?_)
                clear hK K
                simp only [Act.put, List.setIfInBounds_toArray, List.set_cons_zero, List.set_cons_succ]
                refine wpQuiet_nil ?_
                intro w22 hb
                have HB22 : Hid (∀ A, Below w22.heap.size w22 A → Blk A g7 48 (#[.int .i64 a, .int .u8 (x 0), .int .u8 (x 1), .int .u8 (x 2), .int .u8 (x 3)])) := fun A hA => HB21.out A (hb.trans (hA.mono hb.size))
                have BW22 : Hid (Below w.heap.size w w22) := BW21.out.trans (hb.mono BW21.out.size)
                clear hb
                go_wp2_with fail
                exact ⟨⟨k + 1, by omega, by go_num, HNX.out _ (by rw [Bool.true_and, HST.out, E1.out, E2.out, hrx, show decide (k = 0) = true from decide_eq_true HK0.out]; rfl), BW22⟩, by simp [intOf]; omega⟩
              · obtain ⟨km, hkm⟩ : ∃ km, km + 1 = k := ⟨k - 1, by omega⟩
                obtain ⟨pa, hpa⟩ : ∃ y, (sAt l km).1 = y := ⟨_, rfl⟩
                have HPA := Lib.hid hpa
                have HKM : Hid (km < n) := by unfold Hid; omega
                have hkmi : (km : Int) < (n : Int) := by omega
                have E4 : Hid (wrap64 ((k : Int) - 1) = (km : Int)) := by unfold Hid; rw [wrapR _ (by omega) (by omega)]; omega
                have E3 : Hid (((k : Int) == 0) = false) := by unfold Hid; simp; omega
                have E1 : Hid ((decide (a ≥ 0)) = true) := by unfold Hid; simp; omega
                have E2 : Hid ((decide (a ≤ 65536)) = true) := by unfold Hid; simp; omega
                rw [hrx] at HRX
                have HST2 : Hid (stopOk l k = decide (pa ≤ a)) := by unfold Hid; rw [HST.out, E1.out, E2.out, hrx, show decide (k = 0) = false from decide_eq_false hk0, show k - 1 = km by omega, hpa]; rfl
                clear hk0 hkm hpa HST
                rcases Int.lt_or_le a pa with h5 | h5
                · have E5 : Hid ((decide (pa ≤ a)) = false) := by unfold Hid; simp; omega
                  refine wp_region_quiet (C := Out w21) (by kernel_rfl) (by kernel_rfl) ⟨rfl, rfl, rfl, Nat.le_refl _, fun _ _ => rfl⟩ ?_
                  refine BigFrame.wpQuiet_want rfl (fun K hK => ?_)
                  refine quiet_val (.bool true) (fun w' hw' => by go_simp) (hK _ ?_)
                  clear hK K
                  simp only [Act.put, List.setIfInBounds_toArray, List.set_cons_zero, List.set_cons_succ]
                  refine BigFrame.wpQuiet_want rfl (fun K hK => ?_)
                  refine quiet_val (.bool true) (fun w' hw' => by go_simp) (hK _ ?_)
                  clear hK K
                  simp only [Act.put, List.setIfInBounds_toArray, List.set_cons_zero, List.set_cons_succ]
                  refine BigFrame.wpQuiet_want rfl (fun K hK => ?_)
                  refine quiet_val (.pointer (some ⟨g7, 0, none⟩)) (fun w' hw' => by go_simp) (hK _ ?_)
                  clear hK K
                  simp only [Act.put, List.setIfInBounds_toArray, List.set_cons_zero, List.set_cons_succ]
                  refine BigFrame.wpQuiet_want rfl (fun K hK => ?_)
                  refine quiet_val (.int .i64 a) (fun w' hw' => by have x0 : w'.cell? ⟨g7, 0, none⟩ = some (.int .i64 a) := (HB21.out w' hw').cell 0; go_simp) (hK _ ?_)
                  clear hK K
                  simp only [Act.put, List.setIfInBounds_toArray, List.set_cons_zero, List.set_cons_succ]
                  refine BigFrame.wpQuiet_want rfl (fun K hK => ?_)
                  refine quiet_val (.bool true) (fun w' hw' => by have e := E1.out; go_simp) (hK _ ?_)
                  clear hK K
                  simp only [Act.put, List.setIfInBounds_toArray, List.set_cons_zero, List.set_cons_succ]
                  refine BigFrame.wpQuiet_want rfl (fun K hK => ?_)
                  refine quiet_val (.bool true) (fun w' hw' => by go_simp) (hK _ ?_)
                  clear hK K
                  simp only [Act.put, List.setIfInBounds_toArray, List.set_cons_zero, List.set_cons_succ]
                  refine BigFrame.wpQuiet_want rfl (fun K hK => ?_)
                  refine quiet_val (.bool true) (fun w' hw' => by go_simp) (hK _ ?_)
                  clear hK K
                  simp only [Act.put, List.setIfInBounds_toArray, List.set_cons_zero, List.set_cons_succ]
                  refine BigFrame.wpQuiet_want rfl (fun K hK => ?_)
                  refine quiet_val (.pointer (some ⟨g7, 0, none⟩)) (fun w' hw' => by go_simp) (hK _ ?_)
                  clear hK K
                  simp only [Act.put, List.setIfInBounds_toArray, List.set_cons_zero, List.set_cons_succ]
                  refine BigFrame.wpQuiet_want rfl (fun K hK => ?_)
                  refine quiet_val (.int .i64 a) (fun w' hw' => by have x0 : w'.cell? ⟨g7, 0, none⟩ = some (.int .i64 a) := (HB21.out w' hw').cell 0; go_simp) (hK _ ?_)
                  clear hK K
                  simp only [Act.put, List.setIfInBounds_toArray, List.set_cons_zero, List.set_cons_succ]
                  refine BigFrame.wpQuiet_want rfl (fun K hK => ?_)
                  refine quiet_val (.bool true) (fun w' hw' => by have e := E2.out; go_simp) (hK _ ?_)
                  clear hK K
                  simp only [Act.put, List.setIfInBounds_toArray, List.set_cons_zero, List.set_cons_succ]
                  refine BigFrame.wpQuiet_want rfl (fun K hK => ?_)
                  refine quiet_val (.bool true) (fun w' hw' => by go_simp) (hK _ ?_)
                  clear hK K
                  simp only [Act.put, List.setIfInBounds_toArray, List.set_cons_zero, List.set_cons_succ]
                  refine BigFrame.wpQuiet_want rfl (fun K hK => ?_)
                  refine quiet_val (.bool true) (fun w' hw' => by go_simp) (hK _ ?_)
                  clear hK K
                  simp only [Act.put, List.setIfInBounds_toArray, List.set_cons_zero, List.set_cons_succ]
                  refine BigFrame.wpQuiet_want rfl (fun K hK => ?_)
                  refine quiet_val (.pointer (some ⟨g7, 1, none⟩)) (fun w' hw' => by go_simp) (hK _ ?_)
                  clear hK K
                  simp only [Act.put, List.setIfInBounds_toArray, List.set_cons_zero, List.set_cons_succ]
                  refine BigFrame.wpQuiet_want rfl (fun K hK => ?_)
                  refine quiet_val (.agg #[.int .u8 (x 0), .int .u8 (x 1), .int .u8 (x 2), .int .u8 (x 3)]) (fun w' hw' => by have x0 : w'.cell? ⟨g7, 1, none⟩ = some (.int .u8 (x 0)) := (HB21.out w' hw').cell 1; have x1 : w'.cell? ⟨g7, 2, none⟩ = some (.int .u8 (x 1)) := (HB21.out w' hw').cell 2; have x2 : w'.cell? ⟨g7, 3, none⟩ = some (.int .u8 (x 2)) := (HB21.out w' hw').cell 3; have x3 : w'.cell? ⟨g7, 4, none⟩ = some (.int .u8 (x 3)) := (HB21.out w' hw').cell 4; go_simp) (hK _ ?_)
                  clear hK K
                  simp only [Act.put, List.setIfInBounds_toArray, List.set_cons_zero, List.set_cons_succ]
                  refine BigFrame.wpQuiet_want rfl (fun K hK => ?_)
                  refine quiet_call 19 #[.agg #[.int .u8 (x 0), .int .u8 (x 1), .int .u8 (x 2), .int .u8 (x 3)]] (.bool true) (fun w' _ => by go_simp) (fun w' hw' => Calls.out hw' (HRX.out w')) (hK _ ?_)
                  clear hK K
                  simp only [Act.put, List.setIfInBounds_toArray, List.set_cons_zero, List.set_cons_succ]
                  refine BigFrame.wpQuiet_want rfl (fun K hK => ?_)
                  refine quiet_val (.bool true) (fun w' hw' => by go_simp) (hK _ ?_)
                  clear hK K
                  simp only [Act.put, List.setIfInBounds_toArray, List.set_cons_zero, List.set_cons_succ]
                  refine BigFrame.wpQuiet_want rfl (fun K hK => ?_)
                  refine quiet_val (.bool true) (fun w' hw' => by go_simp) (hK _ ?_)
                  clear hK K
                  simp only [Act.put, List.setIfInBounds_toArray, List.set_cons_zero, List.set_cons_succ]
                  refine BigFrame.wpQuiet_want rfl (fun K hK => ?_)
                  refine quiet_val (.int .i64 (k : Int)) (fun w' hw' => by go_simp) (hK _ ?_)
                  clear hK K
                  simp only [Act.put, List.setIfInBounds_toArray, List.set_cons_zero, List.set_cons_succ]
                  refine BigFrame.wpQuiet_want rfl (fun K hK => ?_)
                  refine quiet_val (.bool false) (fun w' hw' => by have e := E3.out; go_simp) (hK _ ?_)
                  clear hK K
                  simp only [Act.put, List.setIfInBounds_toArray, List.set_cons_zero, List.set_cons_succ]
                  refine BigFrame.wpQuiet_want rfl (fun K hK => ?_)
                  refine quiet_val (.bool false) (fun w' hw' => by go_simp) (hK _ ?_)
                  clear hK K
                  simp only [Act.put, List.setIfInBounds_toArray, List.set_cons_zero, List.set_cons_succ]
                  refine BigFrame.wpQuiet_want rfl (fun K hK => ?_)
                  refine quiet_val (.slice (some ⟨b, o, none⟩) n c) (fun w' hw' => by go_simp) (hK _ ?_)
                  clear hK K
                  simp only [Act.put, List.setIfInBounds_toArray, List.set_cons_zero, List.set_cons_succ]
                  refine BigFrame.wpQuiet_want rfl (fun K hK => ?_)
                  refine quiet_val (.int .i64 (k : Int)) (fun w' hw' => by go_simp) (hK _ ?_)
                  clear hK K
                  simp only [Act.put, List.setIfInBounds_toArray, List.set_cons_zero, List.set_cons_succ]
                  refine BigFrame.wpQuiet_want rfl (fun K hK => ?_)
                  refine quiet_val (.int .i64 (km : Int)) (fun w' hw' => by have e := E4.out; have e' := (wrap_is _).trans E4.out; go_simp) (hK _ ?_)
                  clear hK K
                  simp only [Act.put, List.setIfInBounds_toArray, List.set_cons_zero, List.set_cons_succ]
                  refine BigFrame.wpQuiet_want rfl (fun K hK => ?_)
                  refine quiet_val (.pointer (some ⟨b, o + km * 5, none⟩)) (fun w' hw' => by go_simp) (hK _ ?_)
                  clear hK K
                  simp only [Act.put, List.setIfInBounds_toArray, List.set_cons_zero, List.set_cons_succ]
                  refine BigFrame.wpQuiet_want rfl (fun K hK => ?_)
                  refine quiet_val (.pointer (some ⟨b, o + km * 5, none⟩)) (fun w' hw' => by go_simp) (hK _ ?_)
                  clear hK K
                  simp only [Act.put, List.setIfInBounds_toArray, List.set_cons_zero, List.set_cons_succ]
                  refine BigFrame.wpQuiet_want rfl (fun K hK => ?_)
                  refine quiet_val (.int .i64 pa) (fun w' hw' => by have x0 := (HS.out w' (BW21.out.trans (hw'.mono BW21.out.size)) km HKM.out).1; have e := HPA.out; rw [e] at x0; go_simp) (hK _ ?_)
                  clear hK K
                  simp only [Act.put, List.setIfInBounds_toArray, List.set_cons_zero, List.set_cons_succ]
                  refine BigFrame.wpQuiet_want rfl (fun K hK => ?_)
                  refine quiet_val (.pointer (some ⟨g7, 0, none⟩)) (fun w' hw' => by go_simp) (hK _ ?_)
                  clear hK K
                  simp only [Act.put, List.setIfInBounds_toArray, List.set_cons_zero, List.set_cons_succ]
                  refine BigFrame.wpQuiet_want rfl (fun K hK => ?_)
                  refine quiet_val (.int .i64 a) (fun w' hw' => by have x0 : w'.cell? ⟨g7, 0, none⟩ = some (.int .i64 a) := (HB21.out w' hw').cell 0; go_simp) (hK _ ?_)
                  clear hK K
                  simp only [Act.put, List.setIfInBounds_toArray, List.set_cons_zero, List.set_cons_succ]
                  refine BigFrame.wpQuiet_want rfl (fun K hK => ?_)
                  refine quiet_val (.bool false) (fun w' hw' => by have e := E5.out; go_simp) (hK _ ?_)
                  clear hK K
                  simp only [Act.put, List.setIfInBounds_toArray, List.set_cons_zero, List.set_cons_succ]
                  refine BigFrame.wpQuiet_want rfl (fun K hK => ?_)
                  refine quiet_val (.bool false) (fun w' hw' => by go_simp) (hK _ ?_)
                  clear hK K
                  simp only [Act.put, List.setIfInBounds_toArray, List.set_cons_zero, List.set_cons_succ]
                  refine BigFrame.wpQuiet_want rfl (fun K hK => ?_)
                  refine quiet_val (.bool false) (fun w' hw' => by go_simp) (hK _ ?_)
                  clear hK K
                  simp only [Act.put, List.setIfInBounds_toArray, List.set_cons_zero, List.set_cons_succ]
                  refine BigFrame.wpQuiet_want rfl (fun K hK => ?_)
                  refine quiet_val (.bool false) (fun w' hw' => by go_simp) (hK _ ?_)
                  clear hK K
                  simp only [Act.put, List.setIfInBounds_toArray, List.set_cons_zero, List.set_cons_succ]
                  refine wpQuiet_nil ?_
                  intro w22 hb
                  have HB22 : Hid (∀ A, Below w22.heap.size w22 A → Blk A g7 48 (#[.int .i64 a, .int .u8 (x 0), .int .u8 (x 1), .int .u8 (x 2), .int .u8 (x 3)])) := fun A hA => HB21.out A (hb.trans (hA.mono hb.size))
                  have BW22 : Hid (Below w.heap.size w w22) := BW21.out.trans (hb.mono BW21.out.size)
                  clear hb
                  go_wp2_with fail
                  exact ⟨⟨k + 1, by omega, by go_num, HNX.out _ (by rw [Bool.true_and, HST2.out, E5.out]), BW22⟩, by simp [intOf]; omega⟩
                · have E5 : Hid ((decide (pa ≤ a)) = true) := by unfold Hid; simp; omega
                  refine wp_region_quiet (C := Out w21) (by kernel_rfl) (by kernel_rfl) ⟨rfl, rfl, rfl, Nat.le_refl _, fun _ _ => rfl⟩ ?_
                  refine BigFrame.wpQuiet_want rfl (fun K hK => ?_)
                  refine quiet_val (.bool true) (fun w' hw' => by go_simp) (hK _ ?_)
                  clear hK K
                  simp only [Act.put, List.setIfInBounds_toArray, List.set_cons_zero, List.set_cons_succ]
                  refine BigFrame.wpQuiet_want rfl (fun K hK => ?_)
                  refine quiet_val (.bool true) (fun w' hw' => by go_simp) (hK _ ?_)
                  clear hK K
                  simp only [Act.put, List.setIfInBounds_toArray, List.set_cons_zero, List.set_cons_succ]
                  refine BigFrame.wpQuiet_want rfl (fun K hK => ?_)
                  refine quiet_val (.pointer (some ⟨g7, 0, none⟩)) (fun w' hw' => by go_simp) (hK _ ?_)
                  clear hK K
                  simp only [Act.put, List.setIfInBounds_toArray, List.set_cons_zero, List.set_cons_succ]
                  refine BigFrame.wpQuiet_want rfl (fun K hK => ?_)
                  refine quiet_val (.int .i64 a) (fun w' hw' => by have x0 : w'.cell? ⟨g7, 0, none⟩ = some (.int .i64 a) := (HB21.out w' hw').cell 0; go_simp) (hK _ ?_)
                  clear hK K
                  simp only [Act.put, List.setIfInBounds_toArray, List.set_cons_zero, List.set_cons_succ]
                  refine BigFrame.wpQuiet_want rfl (fun K hK => ?_)
                  refine quiet_val (.bool true) (fun w' hw' => by have e := E1.out; go_simp) (hK _ ?_)
                  clear hK K
                  simp only [Act.put, List.setIfInBounds_toArray, List.set_cons_zero, List.set_cons_succ]
                  refine BigFrame.wpQuiet_want rfl (fun K hK => ?_)
                  refine quiet_val (.bool true) (fun w' hw' => by go_simp) (hK _ ?_)
                  clear hK K
                  simp only [Act.put, List.setIfInBounds_toArray, List.set_cons_zero, List.set_cons_succ]
                  refine BigFrame.wpQuiet_want rfl (fun K hK => ?_)
                  refine quiet_val (.bool true) (fun w' hw' => by go_simp) (hK _ ?_)
                  clear hK K
                  simp only [Act.put, List.setIfInBounds_toArray, List.set_cons_zero, List.set_cons_succ]
                  refine BigFrame.wpQuiet_want rfl (fun K hK => ?_)
                  refine quiet_val (.pointer (some ⟨g7, 0, none⟩)) (fun w' hw' => by go_simp) (hK _ ?_)
                  clear hK K
                  simp only [Act.put, List.setIfInBounds_toArray, List.set_cons_zero, List.set_cons_succ]
                  refine BigFrame.wpQuiet_want rfl (fun K hK => ?_)
                  refine quiet_val (.int .i64 a) (fun w' hw' => by have x0 : w'.cell? ⟨g7, 0, none⟩ = some (.int .i64 a) := (HB21.out w' hw').cell 0; go_simp) (hK _ ?_)
                  clear hK K
                  simp only [Act.put, List.setIfInBounds_toArray, List.set_cons_zero, List.set_cons_succ]
                  refine BigFrame.wpQuiet_want rfl (fun K hK => ?_)
                  refine quiet_val (.bool true) (fun w' hw' => by have e := E2.out; go_simp) (hK _ ?_)
                  clear hK K
                  simp only [Act.put, List.setIfInBounds_toArray, List.set_cons_zero, List.set_cons_succ]
                  refine BigFrame.wpQuiet_want rfl (fun K hK => ?_)
                  refine quiet_val (.bool true) (fun w' hw' => by go_simp) (hK _ ?_)
                  clear hK K
                  simp only [Act.put, List.setIfInBounds_toArray, List.set_cons_zero, List.set_cons_succ]
                  refine BigFrame.wpQuiet_want rfl (fun K hK => ?_)
                  refine quiet_val (.bool true) (fun w' hw' => by go_simp) (hK _ ?_)
                  clear hK K
                  simp only [Act.put, List.setIfInBounds_toArray, List.set_cons_zero, List.set_cons_succ]
                  refine BigFrame.wpQuiet_want rfl (fun K hK => ?_)
                  refine quiet_val (.pointer (some ⟨g7, 1, none⟩)) (fun w' hw' => by go_simp) (hK _ ?_)
                  clear hK K
                  simp only [Act.put, List.setIfInBounds_toArray, List.set_cons_zero, List.set_cons_succ]
                  refine BigFrame.wpQuiet_want rfl (fun K hK => ?_)
                  refine quiet_val (.agg #[.int .u8 (x 0), .int .u8 (x 1), .int .u8 (x 2), .int .u8 (x 3)]) (fun w' hw' => by have x0 : w'.cell? ⟨g7, 1, none⟩ = some (.int .u8 (x 0)) := (HB21.out w' hw').cell 1; have x1 : w'.cell? ⟨g7, 2, none⟩ = some (.int .u8 (x 1)) := (HB21.out w' hw').cell 2; have x2 : w'.cell? ⟨g7, 3, none⟩ = some (.int .u8 (x 2)) := (HB21.out w' hw').cell 3; have x3 : w'.cell? ⟨g7, 4, none⟩ = some (.int .u8 (x 3)) := (HB21.out w' hw').cell 4; go_simp) (hK _ ?_)
                  clear hK K
                  simp only [Act.put, List.setIfInBounds_toArray, List.set_cons_zero, List.set_cons_succ]
                  refine BigFrame.wpQuiet_want rfl (fun K hK => ?_)
                  refine quiet_call 19 #[.agg #[.int .u8 (x 0), .int .u8 (x 1), .int .u8 (x 2), .int .u8 (x 3)]] (.bool true) (fun w' _ => by go_simp) (fun w' hw' => Calls.out hw' (HRX.out w')) (hK _ ?_)
                  clear hK K
                  simp only [Act.put, List.setIfInBounds_toArray, List.set_cons_zero, List.set_cons_succ]
                  refine BigFrame.wpQuiet_want rfl (fun K hK => ?_)
                  refine quiet_val (.bool true) (fun w' hw' => by go_simp) (hK _ ?_)
                  clear hK K
                  simp only [Act.put, List.setIfInBounds_toArray, List.set_cons_zero, List.set_cons_succ]
                  refine BigFrame.wpQuiet_want rfl (fun K hK => ?_)
                  refine quiet_val (.bool true) (fun w' hw' => by go_simp) (hK _ ?_)
                  clear hK K
                  simp only [Act.put, List.setIfInBounds_toArray, List.set_cons_zero, List.set_cons_succ]
                  refine BigFrame.wpQuiet_want rfl (fun K hK => ?_)
                  refine quiet_val (.int .i64 (k : Int)) (fun w' hw' => by go_simp) (hK _ ?_)
                  clear hK K
                  simp only [Act.put, List.setIfInBounds_toArray, List.set_cons_zero, List.set_cons_succ]
                  refine BigFrame.wpQuiet_want rfl (fun K hK => ?_)
                  refine quiet_val (.bool false) (fun w' hw' => by have e := E3.out; go_simp) (hK _ ?_)
                  clear hK K
                  simp only [Act.put, List.setIfInBounds_toArray, List.set_cons_zero, List.set_cons_succ]
                  refine BigFrame.wpQuiet_want rfl (fun K hK => ?_)
                  refine quiet_val (.bool false) (fun w' hw' => by go_simp) (hK _ ?_)
                  clear hK K
                  simp only [Act.put, List.setIfInBounds_toArray, List.set_cons_zero, List.set_cons_succ]
                  refine BigFrame.wpQuiet_want rfl (fun K hK => ?_)
                  refine quiet_val (.slice (some ⟨b, o, none⟩) n c) (fun w' hw' => by go_simp) (hK _ ?_)
                  clear hK K
                  simp only [Act.put, List.setIfInBounds_toArray, List.set_cons_zero, List.set_cons_succ]
                  refine BigFrame.wpQuiet_want rfl (fun K hK => ?_)
                  refine quiet_val (.int .i64 (k : Int)) (fun w' hw' => by go_simp) (hK _ ?_)
                  clear hK K
                  simp only [Act.put, List.setIfInBounds_toArray, List.set_cons_zero, List.set_cons_succ]
                  refine BigFrame.wpQuiet_want rfl (fun K hK => ?_)
                  refine quiet_val (.int .i64 (km : Int)) (fun w' hw' => by have e := E4.out; have e' := (wrap_is _).trans E4.out; go_simp) (hK _ ?_)
                  clear hK K
                  simp only [Act.put, List.setIfInBounds_toArray, List.set_cons_zero, List.set_cons_succ]
                  refine BigFrame.wpQuiet_want rfl (fun K hK => ?_)
                  refine quiet_val (.pointer (some ⟨b, o + km * 5, none⟩)) (fun w' hw' => by go_simp) (hK _ ?_)
                  clear hK K
                  simp only [Act.put, List.setIfInBounds_toArray, List.set_cons_zero, List.set_cons_succ]
                  refine BigFrame.wpQuiet_want rfl (fun K hK => ?_)
                  refine quiet_val (.pointer (some ⟨b, o + km * 5, none⟩)) (fun w' hw' => by go_simp) (hK _ ?_)
                  clear hK K
                  simp only [Act.put, List.setIfInBounds_toArray, List.set_cons_zero, List.set_cons_succ]
                  refine BigFrame.wpQuiet_want rfl (fun K hK => ?_)
                  refine quiet_val (.int .i64 pa) (fun w' hw' => by have x0 := (HS.out w' (BW21.out.trans (hw'.mono BW21.out.size)) km HKM.out).1; have e := HPA.out; rw [e] at x0; go_simp) (hK _ ?_)
                  clear hK K
                  simp only [Act.put, List.setIfInBounds_toArray, List.set_cons_zero, List.set_cons_succ]
                  refine BigFrame.wpQuiet_want rfl (fun K hK => ?_)
                  refine quiet_val (.pointer (some ⟨g7, 0, none⟩)) (fun w' hw' => by go_simp) (hK _ ?_)
                  clear hK K
                  simp only [Act.put, List.setIfInBounds_toArray, List.set_cons_zero, List.set_cons_succ]
                  refine BigFrame.wpQuiet_want rfl (fun K hK => ?_)
                  refine quiet_val (.int .i64 a) (fun w' hw' => by have x0 : w'.cell? ⟨g7, 0, none⟩ = some (.int .i64 a) := (HB21.out w' hw').cell 0; go_simp) (hK _ ?_)
                  clear hK K
                  simp only [Act.put, List.setIfInBounds_toArray, List.set_cons_zero, List.set_cons_succ]
                  refine BigFrame.wpQuiet_want rfl (fun K hK => ?_)
                  refine quiet_val (.bool true) (fun w' hw' => by have e := E5.out; go_simp) (hK _ ?_)
                  clear hK K
                  simp only [Act.put, List.setIfInBounds_toArray, List.set_cons_zero, List.set_cons_succ]
                  refine BigFrame.wpQuiet_want rfl (fun K hK => ?_)
                  refine quiet_val (.bool true) (fun w' hw' => by go_simp) (hK _ ?_)
                  clear hK K
                  simp only [Act.put, List.setIfInBounds_toArray, List.set_cons_zero, List.set_cons_succ]
                  refine BigFrame.wpQuiet_want rfl (fun K hK => ?_)
                  refine quiet_val (.bool true) (fun w' hw' => by go_simp) (hK _ ?_)
                  clear hK K
                  simp only [Act.put, List.setIfInBounds_toArray, List.set_cons_zero, List.set_cons_succ]
                  refine BigFrame.wpQuiet_want rfl (fun K hK => ?_)
                  refine quiet_val (.bool true) (fun w' hw' => by go_simp) (hK _ ?_)
                  clear hK K
                  simp only [Act.put, List.setIfInBounds_toArray, List.set_cons_zero, List.set_cons_succ]
                  refine wpQuiet_nil ?_
                  intro w22 hb
                  have HB22 : Hid (∀ A, Below w22.heap.size w22 A → Blk A g7 48 (#[.int .i64 a, .int .u8 (x 0), .int .u8 (x 1), .int .u8 (x 2), .int .u8 (x 3)])) := fun A hA => HB21.out A (hb.trans (hA.mono hb.size))
                  have BW22 : Hid (Below w.heap.size w w22) := BW21.out.trans (hb.mono BW21.out.size)
                  clear hb
                  go_wp2_with fail
                  exact ⟨⟨k + 1, by omega, by go_num, HNX.out _ (by rw [Bool.true_and, HST2.out, E5.out]), BW22⟩, by simp [intOf]; omega⟩
    · have hdk : decide ((k : Int) < (n : Int)) = false := by simp; omega
      obtain rfl : n = k := by omega
      rw [← HOS.out]
      cases hok : okS l
      · have hsc : shadeC l t = zeroC := by rw [HSC.out, hok]; rfl
        have her : errS l = 30 := by unfold errS; rw [hok]; rfl
        rw [hsc, her] at HSH
        rw [her] at HCK
        simp only [zeroC] at HSH
        clear hsc her hok HSC HOS HOKC HS
        go_wp2_with fail
        refine (HSH.out HL100.out _ BW20.out).mono ?_
        rintro e w21 ⟨rfl, hb⟩
        have BW21 : Hid (Below w.heap.size w w21) := BW20.out.trans (hb.mono BW20.out.size)
        clear hb
        go_upto_if 71 with fail
        obtain ⟨w22, hw⟩ : ∃ W, w21.alloc (.cells #[.int .u8 0, .int .u8 0, .int .u8 0, .int .u8 0] 26) = W := ⟨_, rfl⟩
        have HB22 : Hid (∀ A, Below w22.heap.size w22 A → Blk A w21.heap.size 26 (c8 zeroC)) := fun A hA => by
                  rw [← hw] at hA
                  exact (Blk.new _ _ _).grow hA
        have BW22 : Hid (Below w.heap.size w w22) := by
          rw [← hw]
          exact BW21.out.alloc BW21.out.size _
        rw [hw]
        clear hw
        generalize w21.heap.size = g8 at *
        go_wp2_with fail
        refine (HCK.out HL100.out _ BW22.out).mono ?_
        rintro e w23 ⟨rfl, hb⟩
        have HB23 : Hid (∀ A, Below w23.heap.size w23 A → Blk A g8 26 (c8 zeroC)) := fun A hA => HB22.out A (hb.trans (hA.mono hb.size))
        have BW23 : Hid (Below w.heap.size w w23) := BW22.out.trans (hb.mono BW22.out.size)
        clear hb
        obtain ⟨z0, z1, z2, z3⟩ := (HB23.out w23 (Below.refl _ _)).c0
        simp only [zeroC] at z0 z1 z2 z3
        go_wp2_with fail
        refine (HAW.out _).mono ?_
        rintro e w24 ⟨rfl, hb⟩
        have BW24 : Hid (Below w.heap.size w w24) := BW23.out.trans (hb.mono BW23.out.size)
        clear hb z0 z1 z2 z3
        go_wp2_with fail
        go_ret
        exact ⟨rfl, BW24.out⟩
      · have her : errS l = 0 := by unfold errS; rw [hok]; rfl
        rw [her] at HSH HCK
        have HSC2 := HSC.out
        rw [if_pos hok] at HSC2
        have HCHK : Hid (∀ k, k < n → stopOk l k = true) := fun k hk => by
          have h := HOS.out
          rw [hok] at h
          have h2 : q = true ∧ chkS l n = true := by simpa using h.symm
          exact chkS_at h2.2 hk
        obtain ⟨a0, ha0⟩ : ∃ a, (sAt l 0).1 = a := ⟨_, rfl⟩
        obtain ⟨x0, hx0⟩ : ∃ x, (sAt l 0).2 = x := ⟨_, rfl⟩
        have HX0 := HOKC.out 0 h1
        rw [hx0] at HX0
        have EQ0 := equal_c8 x0
        have HS0 : Hid (∀ A, Below w.heap.size w A → A.cell? ⟨b, o, none⟩ = some (.int .i64 a0) ∧ A.cell? ⟨b, o + 1, none⟩ = some (.int .u8 (x0 0)) ∧ A.cell? ⟨b, o + 2, none⟩ = some (.int .u8 (x0 1)) ∧ A.cell? ⟨b, o + 3, none⟩ = some (.int .u8 (x0 2)) ∧ A.cell? ⟨b, o + 4, none⟩ = some (.int .u8 (x0 3))) := fun A hA => by
          have h := HS.out A hA 0 h1
          unfold StopAt at h
          rw [ha0, hx0, Nat.zero_mul, Nat.add_zero] at h
          exact h
        rw [ha0, hx0] at HSC2
        have hni : (0 : Int) < (n : Int) := by omega
        clear her hok HSC HOS
        rcases Int.lt_or_le a0 t with h0 | h0
        case inr =>
          rw [if_pos h0] at HSC2
          rw [HSC2] at HSH
          have hd0 : decide (t ≤ a0) = true := by simp; omega
          clear HSC2 h0 HX0 ha0 hx0
          go_wp2_with fail
          refine (HSH.out HL100.out _ BW20.out).mono ?_
          rintro e w21 ⟨rfl, hb⟩
          have BW21 : Hid (Below w.heap.size w w21) := BW20.out.trans (hb.mono BW20.out.size)
          clear hb
          go_upto_if 71 with fail
          obtain ⟨w22, hw⟩ : ∃ W, w21.alloc (.cells #[.int .u8 (x0 0), .int .u8 (x0 1), .int .u8 (x0 2), .int .u8 (x0 3)] 26) = W := ⟨_, rfl⟩
          have HB22 : Hid (∀ A, Below w22.heap.size w22 A → Blk A w21.heap.size 26 (c8 x0)) := fun A hA => by
                      rw [← hw] at hA
                      exact (Blk.new _ _ _).grow hA
          have BW22 : Hid (Below w.heap.size w w22) := by
            rw [← hw]
            exact BW21.out.alloc BW21.out.size _
          rw [hw]
          clear hw
          generalize w21.heap.size = g8 at *
          go_wp2_with fail
          refine (HCK.out HL100.out _ BW22.out).mono ?_
          rintro e w23 ⟨rfl, hb⟩
          have HB23 : Hid (∀ A, Below w23.heap.size w23 A → Blk A g8 26 (c8 x0)) := fun A hA => HB22.out A (hb.trans (hA.mono hb.size))
          have BW23 : Hid (Below w.heap.size w w23) := BW22.out.trans (hb.mono BW22.out.size)
          clear hb
          have cc := (HS0.out w23 BW23.out).1
          go_wp2_with fail
          clear cc
          refine wp_region_quiet (C := Out w23) (by kernel_rfl) (by kernel_rfl) ⟨rfl, rfl, rfl, Nat.le_refl _, fun _ _ => rfl⟩ ?_
          refine BigFrame.wpQuiet_want rfl (fun K hK => ?_)
          refine quiet_val (.agg #[.int .u8 (x0 0), .int .u8 (x0 1), .int .u8 (x0 2), .int .u8 (x0 3)]) (fun w' hw' => by obtain ⟨c0, c1, c2, c3⟩ := (HB23.out w' hw').c0; go_simp) (hK _ ?_)
          clear hK K
          simp only [Act.put, List.setIfInBounds_toArray, List.set_cons_zero, List.set_cons_succ]
          refine BigFrame.wpQuiet_want rfl (fun K hK => ?_)
          refine quiet_val (.slice (some ⟨b, o, none⟩) n c) (fun w' hw' => by go_simp) (hK _ ?_)
          clear hK K
          simp only [Act.put, List.setIfInBounds_toArray, List.set_cons_zero, List.set_cons_succ]
          refine BigFrame.wpQuiet_want rfl (fun K hK => ?_)
          refine quiet_val (.pointer (some ⟨b, o, none⟩)) (fun w' hw' => by go_simp) (hK _ ?_)
          clear hK K
          simp only [Act.put, List.setIfInBounds_toArray, List.set_cons_zero, List.set_cons_succ]
          refine BigFrame.wpQuiet_want rfl (fun K hK => ?_)
          refine quiet_val (.pointer (some ⟨b, o + 1, none⟩)) (fun w' hw' => by go_simp) (hK _ ?_)
          clear hK K
          simp only [Act.put, List.setIfInBounds_toArray, List.set_cons_zero, List.set_cons_succ]
          refine BigFrame.wpQuiet_want rfl (fun K hK => ?_)
          refine quiet_val (.agg #[.int .u8 (x0 0), .int .u8 (x0 1), .int .u8 (x0 2), .int .u8 (x0 3)]) (fun w' hw' => by obtain ⟨c0, c1, c2, c3, c4⟩ := HS0.out w' (BW23.out.trans (hw'.mono BW23.out.size)); go_simp) (hK _ ?_)
          clear hK K
          simp only [Act.put, List.setIfInBounds_toArray, List.set_cons_zero, List.set_cons_succ]
          refine BigFrame.wpQuiet_want rfl (fun K hK => ?_)
          refine quiet_val (.bool true) (fun w' hw' => by go_simp) (hK _ ?_)
          clear hK K
          simp only [Act.put, List.setIfInBounds_toArray, List.set_cons_zero, List.set_cons_succ]
          refine BigFrame.wpQuiet_want rfl (fun K hK => ?_)
          refine quiet_val (.bool true) (fun w' hw' => by go_simp) (hK _ ?_)
          clear hK K
          simp only [Act.put, List.setIfInBounds_toArray, List.set_cons_zero, List.set_cons_succ]
          refine BigFrame.wpQuiet_want rfl (fun K hK => ?_)
          refine quiet_call 11 #[] (.bool true) (fun w' _ => by go_simp) (fun w' hw' => Calls.out hw' (HAW.out w')) (hK _ ?_)
          clear hK K
          simp only [Act.put, List.setIfInBounds_toArray, List.set_cons_zero, List.set_cons_succ]
          refine BigFrame.wpQuiet_want rfl (fun K hK => ?_)
          refine quiet_val (.bool true) (fun w' hw' => by go_simp) (hK _ ?_)
          clear hK K
          simp only [Act.put, List.setIfInBounds_toArray, List.set_cons_zero, List.set_cons_succ]
          refine BigFrame.wpQuiet_want rfl (fun K hK => ?_)
          refine quiet_val (.bool true) (fun w' hw' => by go_simp) (hK _ ?_)
          clear hK K
          simp only [Act.put, List.setIfInBounds_toArray, List.set_cons_zero, List.set_cons_succ]
          refine wpQuiet_nil ?_
          intro w24 hb
          have HB24 : Hid (∀ A, Below w24.heap.size w24 A → Blk A g8 26 (c8 x0)) := fun A hA => HB23.out A (hb.trans (hA.mono hb.size))
          have BW24 : Hid (Below w.heap.size w w24) := BW23.out.trans (hb.mono BW23.out.size)
          clear hb
          go_wp2_with fail
          go_ret
          exact ⟨rfl, BW24.out⟩
        case inl =>
          rw [if_neg (by omega)] at HSC2
          obtain ⟨m, hm⟩ : ∃ m, m + 1 = n := ⟨n - 1, by omega⟩
          rw [show n - 1 = m by omega] at HSC2
          obtain ⟨am, ham⟩ : ∃ a, (sAt l m).1 = a := ⟨_, rfl⟩
          obtain ⟨xm, hxm⟩ : ∃ x, (sAt l m).2 = x := ⟨_, rfl⟩
          have HSM : Hid (∀ A, Below w.heap.size w A → A.cell? ⟨b, o + m * 5, none⟩ = some (.int .i64 am) ∧ A.cell? ⟨b, o + m * 5 + 1, none⟩ = some (.int .u8 (xm 0)) ∧ A.cell? ⟨b, o + m * 5 + 2, none⟩ = some (.int .u8 (xm 1)) ∧ A.cell? ⟨b, o + m * 5 + 3, none⟩ = some (.int .u8 (xm 2)) ∧ A.cell? ⟨b, o + m * 5 + 4, none⟩ = some (.int .u8 (xm 3))) := fun A hA => by
            have h := HS.out A hA m (by omega)
            unfold StopAt at h
            rw [ham, hxm] at h
            exact h
          rw [ham, hxm] at HSC2
          have hd0 : decide (t ≤ a0) = false := by simp; omega
          have hmi : (m : Int) < (n : Int) := by omega
          have E1 : Hid (wrap64 ((n : Int) - 1) = (m : Int)) := by unfold Hid; rw [wrapR _ (by omega) (by omega)]; omega
          have H1 := Lib.hid h1
          clear h1 h100
          rcases Int.lt_or_le t am with h2 | h2
          case inr =>
            rw [if_pos h2] at HSC2
            rw [HSC2] at HSH
            have hd2 : decide (t ≥ am) = true := by simp; omega
            have EQm := equal_c8 xm
            clear HSC2 h0 h2 HX0 ha0 hx0 ham hxm hm
            go_wp2_with fail
            refine (HSH.out HL100.out _ BW20.out).mono ?_
            rintro e w21 ⟨rfl, hb⟩
            have BW21 : Hid (Below w.heap.size w w21) := BW20.out.trans (hb.mono BW20.out.size)
            clear hb
            go_upto_if 71 with fail
            obtain ⟨w22, hw⟩ : ∃ W, w21.alloc (.cells #[.int .u8 (xm 0), .int .u8 (xm 1), .int .u8 (xm 2), .int .u8 (xm 3)] 26) = W := ⟨_, rfl⟩
            have HB22 : Hid (∀ A, Below w22.heap.size w22 A → Blk A w21.heap.size 26 (c8 xm)) := fun A hA => by
                          rw [← hw] at hA
                          exact (Blk.new _ _ _).grow hA
            have BW22 : Hid (Below w.heap.size w w22) := by
              rw [← hw]
              exact BW21.out.alloc BW21.out.size _
            rw [hw]
            clear hw
            generalize w21.heap.size = g8 at *
            go_wp2_with fail
            refine (HCK.out HL100.out _ BW22.out).mono ?_
            rintro e w23 ⟨rfl, hb⟩
            have HB23 : Hid (∀ A, Below w23.heap.size w23 A → Blk A g8 26 (c8 xm)) := fun A hA => HB22.out A (hb.trans (hA.mono hb.size))
            have BW23 : Hid (Below w.heap.size w w23) := BW22.out.trans (hb.mono BW22.out.size)
            clear hb
            have cc := (HS0.out w23 BW23.out).1
            have cm := (HSM.out w23 BW23.out).1
            have e1 := E1.out
            go_wp2_with fail
            clear cc cm e1
            refine wp_region_quiet (C := Out w23) (by kernel_rfl) (by kernel_rfl) ⟨rfl, rfl, rfl, Nat.le_refl _, fun _ _ => rfl⟩ ?_
            refine BigFrame.wpQuiet_want rfl (fun K hK => ?_)
            refine quiet_val (.agg #[.int .u8 (xm 0), .int .u8 (xm 1), .int .u8 (xm 2), .int .u8 (xm 3)]) (fun w' hw' => by obtain ⟨c0, c1, c2, c3⟩ := (HB23.out w' hw').c0; go_simp) (hK _ ?_)
            clear hK K
            simp only [Act.put, List.setIfInBounds_toArray, List.set_cons_zero, List.set_cons_succ]
            refine BigFrame.wpQuiet_want rfl (fun K hK => ?_)
            refine quiet_val (.slice (some ⟨b, o, none⟩) n c) (fun w' hw' => by go_simp) (hK _ ?_)
            clear hK K
            simp only [Act.put, List.setIfInBounds_toArray, List.set_cons_zero, List.set_cons_succ]
            refine BigFrame.wpQuiet_want rfl (fun K hK => ?_)
            refine quiet_val (.slice (some ⟨b, o, none⟩) n c) (fun w' hw' => by go_simp) (hK _ ?_)
            clear hK K
            simp only [Act.put, List.setIfInBounds_toArray, List.set_cons_zero, List.set_cons_succ]
            refine BigFrame.wpQuiet_want rfl (fun K hK => ?_)
            refine quiet_val (.int .i64 (n : Int)) (fun w' hw' => by go_simp) (hK _ ?_)
            clear hK K
            simp only [Act.put, List.setIfInBounds_toArray, List.set_cons_zero, List.set_cons_succ]
            refine BigFrame.wpQuiet_want rfl (fun K hK => ?_)
            refine quiet_val (.int .i64 (m : Int)) (fun w' hw' => by have e := E1.out; have e' := (wrap_is _).trans E1.out; go_simp) (hK _ ?_)
            clear hK K
            simp only [Act.put, List.setIfInBounds_toArray, List.set_cons_zero, List.set_cons_succ]
            refine BigFrame.wpQuiet_want rfl (fun K hK => ?_)
            refine quiet_val (.pointer (some ⟨b, o + m * 5, none⟩)) (fun w' hw' => by go_simp) (hK _ ?_)
            clear hK K
            simp only [Act.put, List.setIfInBounds_toArray, List.set_cons_zero, List.set_cons_succ]
            refine BigFrame.wpQuiet_want rfl (fun K hK => ?_)
            refine quiet_val (.pointer (some ⟨b, o + m * 5 + 1, none⟩)) (fun w' hw' => by go_simp) (hK _ ?_)
            clear hK K
            simp only [Act.put, List.setIfInBounds_toArray, List.set_cons_zero, List.set_cons_succ]
            refine BigFrame.wpQuiet_want rfl (fun K hK => ?_)
            refine quiet_val (.agg #[.int .u8 (xm 0), .int .u8 (xm 1), .int .u8 (xm 2), .int .u8 (xm 3)]) (fun w' hw' => by obtain ⟨c0, c1, c2, c3, c4⟩ := HSM.out w' (BW23.out.trans (hw'.mono BW23.out.size)); go_simp) (hK _ ?_)
            clear hK K
            simp only [Act.put, List.setIfInBounds_toArray, List.set_cons_zero, List.set_cons_succ]
            refine BigFrame.wpQuiet_want rfl (fun K hK => ?_)
            refine quiet_val (.bool true) (fun w' hw' => by go_simp) (hK _ ?_)
            clear hK K
            simp only [Act.put, List.setIfInBounds_toArray, List.set_cons_zero, List.set_cons_succ]
            refine BigFrame.wpQuiet_want rfl (fun K hK => ?_)
            refine quiet_val (.bool true) (fun w' hw' => by go_simp) (hK _ ?_)
            clear hK K
            simp only [Act.put, List.setIfInBounds_toArray, List.set_cons_zero, List.set_cons_succ]
            refine BigFrame.wpQuiet_want rfl (fun K hK => ?_)
            refine quiet_call 11 #[] (.bool true) (fun w' _ => by go_simp) (fun w' hw' => Calls.out hw' (HAW.out w')) (hK _ ?_)
            clear hK K
            simp only [Act.put, List.setIfInBounds_toArray, List.set_cons_zero, List.set_cons_succ]
            refine BigFrame.wpQuiet_want rfl (fun K hK => ?_)
            refine quiet_val (.bool true) (fun w' hw' => by go_simp) (hK _ ?_)
            clear hK K
            simp only [Act.put, List.setIfInBounds_toArray, List.set_cons_zero, List.set_cons_succ]
            refine BigFrame.wpQuiet_want rfl (fun K hK => ?_)
            refine quiet_val (.bool true) (fun w' hw' => by go_simp) (hK _ ?_)
            clear hK K
            simp only [Act.put, List.setIfInBounds_toArray, List.set_cons_zero, List.set_cons_succ]
            refine wpQuiet_nil ?_
            intro w24 hb
            have HB24 : Hid (∀ A, Below w24.heap.size w24 A → Blk A g8 26 (c8 xm)) := fun A hA => HB23.out A (hb.trans (hA.mono hb.size))
            have BW24 : Hid (Below w.heap.size w w24) := BW23.out.trans (hb.mono BW23.out.size)
            clear hb
            go_wp2_with fail
            go_ret
            exact ⟨rfl, BW24.out⟩
          case inl =>
            rw [if_neg (by omega)] at HSC2
            have hd2 : decide (t ≥ am) = false := by simp; omega
            obtain ⟨sh, hsh⟩ : ∃ x, shadeC l t = x := ⟨_, rfl⟩
            rw [hsh] at HSH HSC2
            have HSC3 := Lib.hid HSC2
            have HT : Hid (a0 < t ∧ t < am ∧ (sAt l 0).1 = a0 ∧ (sAt l m).1 = am ∧ m + 1 = n) := ⟨h0, h2, ha0, ham, hm⟩
            clear HSC2 h0 h2 HX0 ha0 hx0 ham hxm hm hsh
            go_wp2_with fail
            refine (HSH.out HL100.out _ BW20.out).mono ?_
            rintro e w21 ⟨rfl, hb⟩
            have BW21 : Hid (Below w.heap.size w w21) := BW20.out.trans (hb.mono BW20.out.size)
            clear hb
            go_upto_if 71 with fail
            obtain ⟨w22, hw⟩ : ∃ W, w21.alloc (.cells #[.int .u8 (sh 0), .int .u8 (sh 1), .int .u8 (sh 2), .int .u8 (sh 3)] 26) = W := ⟨_, rfl⟩
            have HB22 : Hid (∀ A, Below w22.heap.size w22 A → Blk A w21.heap.size 26 (c8 sh)) := fun A hA => by
                          rw [← hw] at hA
                          exact (Blk.new _ _ _).grow hA
            have BW22 : Hid (Below w.heap.size w w22) := by
              rw [← hw]
              exact BW21.out.alloc BW21.out.size _
            rw [hw]
            clear hw
            generalize w21.heap.size = g8 at *
            go_wp2_with fail
            refine (HCK.out HL100.out _ BW22.out).mono ?_
            rintro e w23 ⟨rfl, hb⟩
            have HB23 : Hid (∀ A, Below w23.heap.size w23 A → Blk A g8 26 (c8 sh)) := fun A hA => HB22.out A (hb.trans (hA.mono hb.size))
            have BW23 : Hid (Below w.heap.size w w23) := BW22.out.trans (hb.mono BW22.out.size)
            clear hb
            have cc := (HS0.out w23 BW23.out).1
            have cm := (HSM.out w23 BW23.out).1
            have e1 := E1.out
            go_wp2_with fail
            clear cc cm e1
            go_loopw [10, 132] (fun s10 s132 wr => ∃ k : Nat, k ≤ n ∧ s132 = .int .i64 (k : Int) ∧ s10 = .int .i64 ((lastI l t k : Nat) : Int) ∧ Hid (∀ A, Below wr.heap.size wr A → Blk A g8 26 (c8 sh)) ∧ Hid (Below w.heap.size w wr)) (fun _ s132 _ => n - (intOf s132).toNat)
            case atStart => exact ⟨0, by omega, rfl, rfl, HB23, BW23⟩
            case round =>
              obtain ⟨k, hk, rfl, rfl, HB40, BW40⟩ := hrel
              obtain ⟨w40, rfl⟩ : ∃ x, x = wr := ⟨_, rfl⟩
              by_cases hlt : k < n
              · have hdk : decide ((k : Int) < (n : Int)) = true := by simp; omega
                have hki : (k : Int) < (n : Int) := by omega
                have h100 := HL100.out
                have cc := (HS.out w40 BW40.out k hlt).1
                obtain ⟨ak, hak⟩ : ∃ a, (sAt l k).1 = a := ⟨_, rfl⟩
                rw [hak] at cc
                have HL0 : Hid (lastI l t (k + 1) = if ak ≤ t then k else lastI l t k) := by unfold Hid; rw [← hak]; rfl
                obtain ⟨k0, hk0⟩ : ∃ y, lastI l t k = y := ⟨_, rfl⟩
                rw [hk0] at HL0 ⊢
                by_cases h : ak ≤ t
                · have hdt : decide (ak ≤ t) = true := by simp; omega
                  have HL1 : Hid (lastI l t (k + 1) = k) := by unfold Hid; rw [HL0.out, if_pos h]
                  clear h hk0 hak HL0
                  go_wp2_with fail
                  exact ⟨⟨k + 1, by omega, by go_num, by rw [HL1.out], HB40, BW40⟩, by simp [intOf]; omega⟩
                · have hdt : decide (ak ≤ t) = false := by simp; omega
                  have HL1 : Hid (lastI l t (k + 1) = k0) := by unfold Hid; rw [HL0.out, if_neg h]
                  clear h hk0 hak HL0
                  go_wp2_with fail
                  exact ⟨⟨k + 1, by omega, by go_num, by rw [HL1.out], HB40, BW40⟩, by simp [intOf]; omega⟩
              · have hdk : decide ((k : Int) < (n : Int)) = false := by simp; omega
                obtain rfl : n = k := by omega
                obtain ⟨t0, t2, t3, t4, t5⟩ := HT.out
                have h100 := HL100.out
                have hs := lastI_spec (l := l) (t := t) (by omega) n H1.out
                have hl := lastI_lt l t n H1.out
                obtain ⟨kk, hkk⟩ : ∃ y, lastI l t n = y := ⟨_, rfl⟩
                rw [hkk] at hs hl HSC3 ⊢
                obtain ⟨kq, hkq⟩ : ∃ y, kk + 1 = y := ⟨_, rfl⟩
                have hkn : kq < n := by
                  rcases Nat.lt_or_ge kq n with h | h
                  · exact h
                  · have : kk = m := by omega
                    rw [this, t4] at hs
                    have := hs.1
                    omega
                have hq1 := hs.2 kq (by omega) hkn
                have s1 := stopOk_iff.1 (HCHK.out kk (by omega))
                have s2 := stopOk_iff.1 (HCHK.out kq hkn)
                rw [← hkq] at hq1 s2
                obtain ⟨r0, r1, r2, r3, r4⟩ := part_in hs.1 hq1 s1.1 s2.2.1
                have HXA := HOKC.out kk (by omega)
                have HXB := HOKC.out kq hkn
                have hrt := mix_right ⟨r0, r1⟩ s1.2.2.1 s2.2.2.1
                rw [← HSC3.out] at hrt
                rw [hkq] at HSC3 hq1 s2 r2
                obtain ⟨r, hr⟩ : ∃ y, partS l t kk = y := ⟨_, rfl⟩
                rw [hr] at HSC3 r0 r1 r2
                have hsa := hs.1
                obtain ⟨a, ha⟩ : ∃ a, (sAt l kk).1 = a := ⟨_, rfl⟩
                obtain ⟨aq, haq⟩ : ∃ a, (sAt l kq).1 = a := ⟨_, rfl⟩
                obtain ⟨x, hx⟩ : ∃ x, (sAt l kk).2 = x := ⟨_, rfl⟩
                obtain ⟨y, hy⟩ : ∃ x, (sAt l kq).2 = x := ⟨_, rfl⟩
                have HSA : Hid (∀ A, Below w.heap.size w A → A.cell? ⟨b, o + kk * 5, none⟩ = some (.int .i64 a) ∧ A.cell? ⟨b, o + kk * 5 + 1, none⟩ = some (.int .u8 (x 0)) ∧ A.cell? ⟨b, o + kk * 5 + 2, none⟩ = some (.int .u8 (x 1)) ∧ A.cell? ⟨b, o + kk * 5 + 3, none⟩ = some (.int .u8 (x 2)) ∧ A.cell? ⟨b, o + kk * 5 + 4, none⟩ = some (.int .u8 (x 3))) := fun A hA => by
                  have h := HS.out A hA kk (by omega)
                  unfold StopAt at h
                  rw [ha, hx] at h
                  exact h
                have HSB : Hid (∀ A, Below w.heap.size w A → A.cell? ⟨b, o + kq * 5, none⟩ = some (.int .i64 aq) ∧ A.cell? ⟨b, o + kq * 5 + 1, none⟩ = some (.int .u8 (y 0)) ∧ A.cell? ⟨b, o + kq * 5 + 2, none⟩ = some (.int .u8 (y 1)) ∧ A.cell? ⟨b, o + kq * 5 + 3, none⟩ = some (.int .u8 (y 2)) ∧ A.cell? ⟨b, o + kq * 5 + 4, none⟩ = some (.int .u8 (y 3))) := fun A hA => by
                  have h := HS.out A hA kq hkn
                  unfold StopAt at h
                  rw [haq, hy] at h
                  exact h
                rw [hx] at HXA
                rw [hy] at HXB
                rw [hx, hy] at HSC3
                rw [ha] at r2 r3 r4 hsa s1
                rw [haq] at r2 s2
                rw [haq] at hq1
                have s3 := s1.1
                have s4 := s2.2.1
                obtain ⟨d1, hd1'⟩ : ∃ y, t - a = y := ⟨_, rfl⟩
                rw [hd1'] at r2 r3 r4
                obtain ⟨pm, hpm⟩ : ∃ y, d1 * 65536 = y := ⟨_, rfl⟩
                rw [hpm] at r2 r3 r4
                obtain ⟨dd, hdd⟩ : ∃ y, aq - a = y := ⟨_, rfl⟩
                rw [hdd] at r2
                have F1 : Hid (wrap64 (t - a) = d1) := by unfold Hid; rw [hd1', wrapR _ (by omega) (by omega)]
                have F2 : Hid (wrap64 (d1 * 65536) = pm) := by unfold Hid; rw [hpm, wrapR _ (by omega) (by omega)]
                have F3 : Hid (wrap64 ((kk : Int) + 1) = (kq : Int)) := by unfold Hid; rw [wrapR _ (by omega) (by omega)]; omega
                have F4 : Hid (wrap64 (aq - a) = dd) := by unfold Hid; rw [hdd, wrapR _ (by omega) (by omega)]
                have F5 : Hid (pm.tdiv dd = r ∧ (dd == 0) = false ∧ ¬ dd = 0 ∧ wrap64 r = r) := ⟨r2, by simp; omega, by omega, wrapR _ (by omega) (by omega)⟩
                have hkki : (kk : Int) < (n : Int) := by omega
                have hkqi : (kq : Int) < (n : Int) := by omega
                have HRFA := Lib.hid (law_ref_c x HXA)
                have HRFB := Lib.hid (law_ref_c y HXB)
                have HMXR := Lib.hid (refMix_c x y r HXA HXB ⟨r0, r1⟩)
                have okM := mix_ok HXA HXB ⟨r0, r1⟩
                rw [← HSC3.out] at HMXR okM
                have HIS := Lib.hid (law_is_c sh okM)
                have HRT := Lib.hid (fun w => P.right sh w okM)
                rw [hrt] at HRT
                clear h100 t0 t2 t3 t4 t5 hs hl hkk hkq hkn hq1 s1 s2 r0 r1 r2 r3 r4 HXA HXB hrt hsa ha haq hx hy s3 s4 hd1' hpm hdd hr okM
                go_wp2_with fail
                refine wp_region_quiet (C := Out w40) (by kernel_rfl) (by kernel_rfl) ⟨rfl, rfl, rfl, Nat.le_refl _, fun _ _ => rfl⟩ ?_
                refine BigFrame.wpQuiet_want rfl (fun K hK => ?_)
                refine quiet_val (.int .i64 t) (fun w' hw' => by go_simp) (hK _ ?_)
                clear hK K
                simp only [Act.put, List.setIfInBounds_toArray, List.set_cons_zero, List.set_cons_succ]
                refine BigFrame.wpQuiet_want rfl (fun K hK => ?_)
                refine quiet_val (.slice (some ⟨b, o, none⟩) n c) (fun w' hw' => by go_simp) (hK _ ?_)
                clear hK K
                simp only [Act.put, List.setIfInBounds_toArray, List.set_cons_zero, List.set_cons_succ]
                refine BigFrame.wpQuiet_want rfl (fun K hK => ?_)
                refine quiet_val (.int .i64 (kk : Int)) (fun w' hw' => by go_simp) (hK _ ?_)
                clear hK K
                simp only [Act.put, List.setIfInBounds_toArray, List.set_cons_zero, List.set_cons_succ]
                refine BigFrame.wpQuiet_want rfl (fun K hK => ?_)
                refine quiet_val (.pointer (some ⟨b, o + kk * 5, none⟩)) (fun w' hw' => by go_simp) (hK _ ?_)
                clear hK K
                simp only [Act.put, List.setIfInBounds_toArray, List.set_cons_zero, List.set_cons_succ]
                refine BigFrame.wpQuiet_want rfl (fun K hK => ?_)
                refine quiet_val (.pointer (some ⟨b, o + kk * 5, none⟩)) (fun w' hw' => by go_simp) (hK _ ?_)
                clear hK K
                simp only [Act.put, List.setIfInBounds_toArray, List.set_cons_zero, List.set_cons_succ]
                refine BigFrame.wpQuiet_want rfl (fun K hK => ?_)
                refine quiet_val (.int .i64 a) (fun w' hw' => by have c0 := (HSA.out w' (BW40.out.trans (hw'.mono BW40.out.size))).1; go_simp) (hK _ ?_)
                clear hK K
                simp only [Act.put, List.setIfInBounds_toArray, List.set_cons_zero, List.set_cons_succ]
                refine BigFrame.wpQuiet_want rfl (fun K hK => ?_)
                refine quiet_val (.int .i64 d1) (fun w' hw' => by have e := F1.out; have e' := (wrap_is _).trans F1.out; go_simp) (hK _ ?_)
                clear hK K
                simp only [Act.put, List.setIfInBounds_toArray, List.set_cons_zero, List.set_cons_succ]
                refine BigFrame.wpQuiet_want rfl (fun K hK => ?_)
                refine quiet_val (.int .i64 pm) (fun w' hw' => by have e := F2.out; have e' := (wrap_is _).trans F2.out; go_simp) (hK _ ?_)
                clear hK K
                simp only [Act.put, List.setIfInBounds_toArray, List.set_cons_zero, List.set_cons_succ]
                refine BigFrame.wpQuiet_want rfl (fun K hK => ?_)
                refine quiet_val (.slice (some ⟨b, o, none⟩) n c) (fun w' hw' => by go_simp) (hK _ ?_)
                clear hK K
                simp only [Act.put, List.setIfInBounds_toArray, List.set_cons_zero, List.set_cons_succ]
                refine BigFrame.wpQuiet_want rfl (fun K hK => ?_)
                refine quiet_val (.int .i64 (kk : Int)) (fun w' hw' => by go_simp) (hK _ ?_)
                clear hK K
                simp only [Act.put, List.setIfInBounds_toArray, List.set_cons_zero, List.set_cons_succ]
                refine BigFrame.wpQuiet_want rfl (fun K hK => ?_)
                refine quiet_val (.int .i64 (kq : Int)) (fun w' hw' => by have e := F3.out; have e' := (wrap_is _).trans F3.out; go_simp) (hK _ ?_)
                clear hK K
                simp only [Act.put, List.setIfInBounds_toArray, List.set_cons_zero, List.set_cons_succ]
                refine BigFrame.wpQuiet_want rfl (fun K hK => ?_)
                refine quiet_val (.pointer (some ⟨b, o + kq * 5, none⟩)) (fun w' hw' => by go_simp) (hK _ ?_)
                clear hK K
                simp only [Act.put, List.setIfInBounds_toArray, List.set_cons_zero, List.set_cons_succ]
                refine BigFrame.wpQuiet_want rfl (fun K hK => ?_)
                refine quiet_val (.pointer (some ⟨b, o + kq * 5, none⟩)) (fun w' hw' => by go_simp) (hK _ ?_)
                clear hK K
                simp only [Act.put, List.setIfInBounds_toArray, List.set_cons_zero, List.set_cons_succ]
                refine BigFrame.wpQuiet_want rfl (fun K hK => ?_)
                refine quiet_val (.int .i64 aq) (fun w' hw' => by have c0 := (HSB.out w' (BW40.out.trans (hw'.mono BW40.out.size))).1; go_simp) (hK _ ?_)
                clear hK K
                simp only [Act.put, List.setIfInBounds_toArray, List.set_cons_zero, List.set_cons_succ]
                refine BigFrame.wpQuiet_want rfl (fun K hK => ?_)
                refine quiet_val (.slice (some ⟨b, o, none⟩) n c) (fun w' hw' => by go_simp) (hK _ ?_)
                clear hK K
                simp only [Act.put, List.setIfInBounds_toArray, List.set_cons_zero, List.set_cons_succ]
                refine BigFrame.wpQuiet_want rfl (fun K hK => ?_)
                refine quiet_val (.int .i64 (kk : Int)) (fun w' hw' => by go_simp) (hK _ ?_)
                clear hK K
                simp only [Act.put, List.setIfInBounds_toArray, List.set_cons_zero, List.set_cons_succ]
                refine BigFrame.wpQuiet_want rfl (fun K hK => ?_)
                refine quiet_val (.pointer (some ⟨b, o + kk * 5, none⟩)) (fun w' hw' => by go_simp) (hK _ ?_)
                clear hK K
                simp only [Act.put, List.setIfInBounds_toArray, List.set_cons_zero, List.set_cons_succ]
                refine BigFrame.wpQuiet_want rfl (fun K hK => ?_)
                refine quiet_val (.pointer (some ⟨b, o + kk * 5, none⟩)) (fun w' hw' => by go_simp) (hK _ ?_)
                clear hK K
                simp only [Act.put, List.setIfInBounds_toArray, List.set_cons_zero, List.set_cons_succ]
                refine BigFrame.wpQuiet_want rfl (fun K hK => ?_)
                refine quiet_val (.int .i64 a) (fun w' hw' => by have c0 := (HSA.out w' (BW40.out.trans (hw'.mono BW40.out.size))).1; go_simp) (hK _ ?_)
                clear hK K
                simp only [Act.put, List.setIfInBounds_toArray, List.set_cons_zero, List.set_cons_succ]
                refine BigFrame.wpQuiet_want rfl (fun K hK => ?_)
                refine quiet_val (.int .i64 dd) (fun w' hw' => by have e := F4.out; have e' := (wrap_is _).trans F4.out; go_simp) (hK _ ?_)
                clear hK K
                simp only [Act.put, List.setIfInBounds_toArray, List.set_cons_zero, List.set_cons_succ]
                refine BigFrame.wpQuiet_want rfl (fun K hK => ?_)
                refine quiet_val (.int .i64 r) (fun w' hw' => by obtain ⟨e1, e2, e3, e4⟩ := F5.out; have e5 := (wrap_is _).trans e4; go_simp) (hK _ ?_)
                clear hK K
                simp only [Act.put, List.setIfInBounds_toArray, List.set_cons_zero, List.set_cons_succ]
                refine BigFrame.wpQuiet_want rfl (fun K hK => ?_)
                refine quiet_val (.int .i64 r) (fun w' hw' => by go_simp) (hK _ ?_)
                clear hK K
                simp only [Act.put, List.setIfInBounds_toArray, List.set_cons_zero, List.set_cons_succ]
                refine wpQuiet_nil ?_
                intro w41 hb
                have HB41 : Hid (∀ A, Below w41.heap.size w41 A → Blk A g8 26 (c8 sh)) := fun A hA => HB40.out A (hb.trans (hA.mono hb.size))
                have BW41 : Hid (Below w.heap.size w w41) := BW40.out.trans (hb.mono BW40.out.size)
                clear hb
                go_wp2_with fail
                refine wp_region_quiet (C := Out w41) (by kernel_rfl) (by kernel_rfl) ⟨rfl, rfl, rfl, Nat.le_refl _, fun _ _ => rfl⟩ ?_
                refine BigFrame.wpQuiet_want rfl (fun K hK => ?_)
                refine quiet_val (.agg #[.int .u8 (sh 0), .int .u8 (sh 1), .int .u8 (sh 2), .int .u8 (sh 3)]) (fun w' hw' => by obtain ⟨c0, c1, c2, c3⟩ := (HB41.out w' hw').c0; go_simp) (hK _ ?_)
                clear hK K
                simp only [Act.put, List.setIfInBounds_toArray, List.set_cons_zero, List.set_cons_succ]
                refine BigFrame.wpQuiet_want rfl (fun K hK => ?_)
                refine quiet_val (.slice (some ⟨b, o, none⟩) n c) (fun w' hw' => by go_simp) (hK _ ?_)
                clear hK K
                simp only [Act.put, List.setIfInBounds_toArray, List.set_cons_zero, List.set_cons_succ]
                refine BigFrame.wpQuiet_want rfl (fun K hK => ?_)
                refine quiet_val (.int .i64 (kk : Int)) (fun w' hw' => by go_simp) (hK _ ?_)
                clear hK K
                simp only [Act.put, List.setIfInBounds_toArray, List.set_cons_zero, List.set_cons_succ]
                refine BigFrame.wpQuiet_want rfl (fun K hK => ?_)
                refine quiet_val (.pointer (some ⟨b, o + kk * 5, none⟩)) (fun w' hw' => by go_simp) (hK _ ?_)
                clear hK K
                simp only [Act.put, List.setIfInBounds_toArray, List.set_cons_zero, List.set_cons_succ]
                refine BigFrame.wpQuiet_want rfl (fun K hK => ?_)
                refine quiet_val (.pointer (some ⟨b, o + kk * 5 + 1, none⟩)) (fun w' hw' => by go_simp) (hK _ ?_)
                clear hK K
                simp only [Act.put, List.setIfInBounds_toArray, List.set_cons_zero, List.set_cons_succ]
                refine BigFrame.wpQuiet_want rfl (fun K hK => ?_)
                refine quiet_val (.agg #[.int .u8 (x 0), .int .u8 (x 1), .int .u8 (x 2), .int .u8 (x 3)]) (fun w' hw' => by obtain ⟨c0, c1, c2, c3, c4⟩ := HSA.out w' (BW41.out.trans (hw'.mono BW41.out.size)); go_simp) (hK _ ?_)
                clear hK K
                simp only [Act.put, List.setIfInBounds_toArray, List.set_cons_zero, List.set_cons_succ]
                refine BigFrame.wpQuiet_want rfl (fun K hK => ?_)
                refine quiet_call 17 #[.agg #[.int .u8 (x 0), .int .u8 (x 1), .int .u8 (x 2), .int .u8 (x 3)]] (.agg #[.int .i64 (x 0), .int .i64 (x 1), .int .i64 (x 2), .int .i64 (x 3)]) (fun w' _ => by go_simp) (fun w' hw' => Calls.out hw' (HRFA.out w')) (hK _ ?_)
                clear hK K
                simp only [Act.put, List.setIfInBounds_toArray, List.set_cons_zero, List.set_cons_succ]
                refine BigFrame.wpQuiet_want rfl (fun K hK => ?_)
                refine quiet_val (.slice (some ⟨b, o, none⟩) n c) (fun w' hw' => by go_simp) (hK _ ?_)
                clear hK K
                simp only [Act.put, List.setIfInBounds_toArray, List.set_cons_zero, List.set_cons_succ]
                refine BigFrame.wpQuiet_want rfl (fun K hK => ?_)
                refine quiet_val (.int .i64 (kk : Int)) (fun w' hw' => by go_simp) (hK _ ?_)
                clear hK K
                simp only [Act.put, List.setIfInBounds_toArray, List.set_cons_zero, List.set_cons_succ]
                refine BigFrame.wpQuiet_want rfl (fun K hK => ?_)
                refine quiet_val (.int .i64 (kq : Int)) (fun w' hw' => by have e := F3.out; have e' := (wrap_is _).trans F3.out; go_simp) (hK _ ?_)
                clear hK K
                simp only [Act.put, List.setIfInBounds_toArray, List.set_cons_zero, List.set_cons_succ]
                refine BigFrame.wpQuiet_want rfl (fun K hK => ?_)
                refine quiet_val (.pointer (some ⟨b, o + kq * 5, none⟩)) (fun w' hw' => by go_simp) (hK _ ?_)
                clear hK K
                simp only [Act.put, List.setIfInBounds_toArray, List.set_cons_zero, List.set_cons_succ]
                refine BigFrame.wpQuiet_want rfl (fun K hK => ?_)
                refine quiet_val (.pointer (some ⟨b, o + kq * 5 + 1, none⟩)) (fun w' hw' => by go_simp) (hK _ ?_)
                clear hK K
                simp only [Act.put, List.setIfInBounds_toArray, List.set_cons_zero, List.set_cons_succ]
                refine BigFrame.wpQuiet_want rfl (fun K hK => ?_)
                refine quiet_val (.agg #[.int .u8 (y 0), .int .u8 (y 1), .int .u8 (y 2), .int .u8 (y 3)]) (fun w' hw' => by obtain ⟨c0, c1, c2, c3, c4⟩ := HSB.out w' (BW41.out.trans (hw'.mono BW41.out.size)); go_simp) (hK _ ?_)
                clear hK K
                simp only [Act.put, List.setIfInBounds_toArray, List.set_cons_zero, List.set_cons_succ]
                refine BigFrame.wpQuiet_want rfl (fun K hK => ?_)
                refine quiet_call 17 #[.agg #[.int .u8 (y 0), .int .u8 (y 1), .int .u8 (y 2), .int .u8 (y 3)]] (.agg #[.int .i64 (y 0), .int .i64 (y 1), .int .i64 (y 2), .int .i64 (y 3)]) (fun w' _ => by go_simp) (fun w' hw' => Calls.out hw' (HRFB.out w')) (hK _ ?_)
                clear hK K
                simp only [Act.put, List.setIfInBounds_toArray, List.set_cons_zero, List.set_cons_succ]
                refine BigFrame.wpQuiet_want rfl (fun K hK => ?_)
                refine quiet_val (.int .i64 r) (fun w' hw' => by go_simp) (hK _ ?_)
                clear hK K
                simp only [Act.put, List.setIfInBounds_toArray, List.set_cons_zero, List.set_cons_succ]
                refine BigFrame.wpQuiet_want rfl (fun K hK => ?_)
                refine quiet_call 27 #[.agg #[.int .i64 (x 0), .int .i64 (x 1), .int .i64 (x 2), .int .i64 (x 3)], .agg #[.int .i64 (y 0), .int .i64 (y 1), .int .i64 (y 2), .int .i64 (y 3)], .int .i64 r] (.agg #[.int .i64 (sh 0), .int .i64 (sh 1), .int .i64 (sh 2), .int .i64 (sh 3)]) (fun w' _ => by go_simp) (fun w' hw' => Calls.out hw' (HMXR.out w')) (hK _ ?_)
                clear hK K
                simp only [Act.put, List.setIfInBounds_toArray, List.set_cons_zero, List.set_cons_succ]
                refine BigFrame.wpQuiet_want rfl (fun K hK => ?_)
                refine quiet_call 15 #[.agg #[.int .u8 (sh 0), .int .u8 (sh 1), .int .u8 (sh 2), .int .u8 (sh 3)], .agg #[.int .i64 (sh 0), .int .i64 (sh 1), .int .i64 (sh 2), .int .i64 (sh 3)]] (.bool true) (fun w' _ => by go_simp) (fun w' hw' => Calls.out hw' (HIS.out w')) (hK _ ?_)
                clear hK K
                simp only [Act.put, List.setIfInBounds_toArray, List.set_cons_zero, List.set_cons_succ]
                refine BigFrame.wpQuiet_want rfl (fun K hK => ?_)
                refine quiet_val (.bool true) (fun w' hw' => by go_simp) (hK _ ?_)
                clear hK K
                simp only [Act.put, List.setIfInBounds_toArray, List.set_cons_zero, List.set_cons_succ]
                refine BigFrame.wpQuiet_want rfl (fun K hK => ?_)
                refine quiet_val (.agg #[.int .u8 (sh 0), .int .u8 (sh 1), .int .u8 (sh 2), .int .u8 (sh 3)]) (fun w' hw' => by obtain ⟨c0, c1, c2, c3⟩ := (HB41.out w' hw').c0; go_simp) (hK _ ?_)
                clear hK K
                simp only [Act.put, List.setIfInBounds_toArray, List.set_cons_zero, List.set_cons_succ]
                refine BigFrame.wpQuiet_want rfl (fun K hK => ?_)
                refine quiet_call 19 #[.agg #[.int .u8 (sh 0), .int .u8 (sh 1), .int .u8 (sh 2), .int .u8 (sh 3)]] (.bool true) (fun w' _ => by go_simp) (fun w' hw' => Calls.out hw' (HRT.out w')) (hK _ ?_)
                clear hK K
                simp only [Act.put, List.setIfInBounds_toArray, List.set_cons_zero, List.set_cons_succ]
                refine BigFrame.wpQuiet_want rfl (fun K hK => ?_)
                refine quiet_val (.bool true) (fun w' hw' => by go_simp) (hK _ ?_)
                clear hK K
                simp only [Act.put, List.setIfInBounds_toArray, List.set_cons_zero, List.set_cons_succ]
                refine BigFrame.wpQuiet_want rfl (fun K hK => ?_)
                refine quiet_val (.bool true) (fun w' hw' => by go_simp) (hK _ ?_)
                clear hK K
                simp only [Act.put, List.setIfInBounds_toArray, List.set_cons_zero, List.set_cons_succ]
                refine BigFrame.wpQuiet_want rfl (fun K hK => ?_)
                refine quiet_call 11 #[] (.bool true) (fun w' _ => by go_simp) (fun w' hw' => Calls.out hw' (HAW.out w')) (hK _ ?_)
                clear hK K
                simp only [Act.put, List.setIfInBounds_toArray, List.set_cons_zero, List.set_cons_succ]
                refine BigFrame.wpQuiet_want rfl (fun K hK => ?_)
                refine quiet_val (.bool true) (fun w' hw' => by go_simp) (hK _ ?_)
                clear hK K
                simp only [Act.put, List.setIfInBounds_toArray, List.set_cons_zero, List.set_cons_succ]
                refine BigFrame.wpQuiet_want rfl (fun K hK => ?_)
                refine quiet_val (.bool true) (fun w' hw' => by go_simp) (hK _ ?_)
                clear hK K
                simp only [Act.put, List.setIfInBounds_toArray, List.set_cons_zero, List.set_cons_succ]
                refine wpQuiet_nil ?_
                intro w42 hb
                have HB42 : Hid (∀ A, Below w42.heap.size w42 A → Blk A g8 26 (c8 sh)) := fun A hA => HB41.out A (hb.trans (hA.mono hb.size))
                have BW42 : Hid (Below w.heap.size w w42) := BW41.out.trans (hb.mono BW41.out.size)
                clear hb
                go_wp2_with fail
                go_ret
                exact ⟨rfl, BW42.out⟩
theorem paintShades_law (P : PaintOk) (Q : ShadeOk) (s : Value) (l : List Stp) (t : Int) (w : World) (row : RowS w s l) : Calls Try.prog 8 #[s, .int .i64 t] w fun e w' => e = .returned (.bool true) ∧ Below w.heap.size w w' := by
  by_cases h : 100 < l.length
  · exact paintShades_big P s l t w row h
  rcases Nat.eq_zero_or_pos l.length with h0 | h0
  · exact paintShades_none P Q s l t w row h0
  · exact paintShades_some P Q s l t w row h0 (by omega)
end Go.Proofs.Ytcbldamlfjkppaa
