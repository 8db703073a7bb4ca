/- Layer 11: small, empty, is; the document's Right. -/
import Derived.Test.YtoppmlfibllhlaaIb
import Derived.BigQuiet
namespace Go.Proofs.Ytoppmlfibllhlaa
open Go.RowKit
set_option maxHeartbeats 2000000 in
set_option maxRecDepth 100000 in
theorem small_c (W H : Int) (ao : Option Addr) (n cp : Nat) (w : World) : Calls Try.prog 9 #[.agg #[.int .i64 W, .int .i64 H, .slice ao n cp]] w fun e w' => e = .returned (.bool (decide (n ≤ 400))) ∧ Below w.heap.size w w' := by
  by_cases h : n ≤ 400
  · have hd : decide ((n : Int) ≤ 400) = true := by simp; omega
    rw [decide_eq_true h]
    go_enter Try.func9, Try.ntmps9
    go_wp2_with fail
    go_ret
    exact ⟨rfl, (Below.refl _ _).alloc (Nat.le_refl _) _⟩
  · have hd : decide ((n : Int) ≤ 400) = false := by simp; omega
    rw [decide_eq_false h]
    go_enter Try.func9, Try.ntmps9
    go_wp2_with fail
    go_ret
    exact ⟨rfl, (Below.refl _ _).alloc (Nat.le_refl _) _⟩
set_option maxHeartbeats 2000000 in
set_option maxRecDepth 100000 in
theorem empty_c (ao : Option Addr) (cp : Nat) (w : World) : Calls Try.prog 17 #[.agg #[.int .i64 0, .int .i64 0, .slice ao 0 cp]] w fun e w' => e = .returned (.bool true) ∧ Below w.heap.size w w' := by
  go_enter Try.func17, Try.ntmps17
  go_wp2_with fail
  go_ret
  exact ⟨rfl, (Below.refl _ _).alloc (Nat.le_refl _) _⟩
set_option maxHeartbeats 4000000 in
set_option maxRecDepth 100000 in
theorem lawIs_c (W H : Int) (s u : Value) (l : List Col) (w : World) (row : RowK .u8 w s l) (rowu : RowK .i64 w u l) (hok : ∀ c ∈ l, OkC c) (hl : l.length ≤ 70000) : Calls Try.prog 14 #[.agg #[.int .i64 W, .int .i64 H, s], .agg #[.int .i64 W, .int .i64 H, u]] w fun e w' => e = .returned (.bool true) ∧ Below w.heap.size w w' := by
  obtain ⟨ao, cp, rfl⟩ := row.shape
  obtain ⟨au, cu, rfl⟩ := rowu.shape
  have HROW := Lib.hid row
  have HROU := Lib.hid rowu
  have HOK := Lib.hid hok
  obtain ⟨n, hn⟩ : ∃ n, l.length = n := ⟨_, rfl⟩
  have HN := Lib.hid hn
  rw [hn] at HROW HROU hl ⊢
  have q1 : (W != W) = false := by simp
  have q2 : (H != H) = false := by simp
  have q3 : ((n : Int) != (n : Int)) = false := by simp
  clear row rowu hn hok
  go_enter Try.func14, Try.ntmps14
  go_wp2_with fail
  go_loopw [31] (fun s31 wr => ∃ k : Nat, k ≤ n ∧ s31 = .int .i64 (k : Int) ∧ Hid (Below w.heap.size w wr ∧ Blk wr w.heap.size 24 #[.int .i64 W, .int .i64 H, .slice ao n cp] ∧ Blk wr (w.heap.size + 1) 33 #[.int .i64 W, .int .i64 H, .slice au n cu])) (fun s31 _ => n - (intOf s31).toNat)
  case atStart =>
    exact ⟨0, by omega, rfl, ((Below.refl _ _).alloc (Nat.le_refl _) _).alloc (by simp) _, (Blk.new _ _ _).alloc _, Blk.newAt _ _ _ (by simp)⟩
  case round =>
    obtain ⟨k, hk, rfl, hw⟩ := hrel
    by_cases hlt : k < n
    · have hd : decide ((k : Int) < (n : Int)) = true := by simp; omega
      have hki : (k : Int) < (n : Int) := by omega
      obtain ⟨x, hx⟩ : ∃ x, l[k]? = some x := ⟨_, List.getElem?_eq_getElem (by rw [HN.out]; exact hlt)⟩
      obtain ⟨b, o, rfl, hbl, hat⟩ := RowK.addr (HROW.out) (by rw [HN.out]; omega)
      obtain ⟨d, p, rfl, hdl, hau⟩ := RowK.addr (HROU.out) (by rw [HN.out]; omega)
      have HRC := Lib.hid (refColor_c x (HOK.out x (List.mem_of_getElem? hx)))
      have EQ := equal_c64 x
      obtain ⟨c0, c1, c2, c3⟩ := (hat k x hx).on hw.out.1 hbl
      have HAT0 : Hid (∀ A, Below wr.heap.size wr A → ColAt .i64 A d (p + k * 4) x) := fun A hA => (hau k x hx).on (hw.out.1.trans (hA.mono hw.out.1.size)) hdl
      clear hx hat hbl hau hdl
      go_wp2_with fail
      obtain ⟨w2, hw2⟩ : ∃ W', wr.alloc (.cells #[.int .u8 (x 0), .int .u8 (x 1), .int .u8 (x 2), .int .u8 (x 3)] 28) = W' := ⟨_, rfl⟩
      have hb2 : Below wr.heap.size wr w2 := by rw [← hw2]; exact (Below.refl _ _).alloc (Nat.le_refl _) _
      have HX : Hid (∀ A, Below w2.heap.size w2 A → Blk A wr.heap.size 28 (c8 x)) := fun A hA => by
        rw [← hw2] at hA
        exact (Blk.new _ _ _).grow hA
      have HBX : Hid (∀ A, Below w2.heap.size w2 A → Blk A w.heap.size 24 #[.int .i64 W, .int .i64 H, .slice (some ⟨b, o, none⟩) n cp] ∧ Blk A (w.heap.size + 1) 33 #[.int .i64 W, .int .i64 H, .slice (some ⟨d, p, none⟩) n cu]) := fun A hA => ⟨(hw.out.2.1.grow hb2).grow hA, (hw.out.2.2.grow hb2).grow hA⟩
      have HAT : Hid (∀ A, Below w2.heap.size w2 A → ColAt .i64 A d (p + k * 4) x) := fun A hA => HAT0.out A (hb2.trans (hA.mono hb2.size))
      have HB2 : Hid (Below w.heap.size w w2) := hw.out.1.trans (hb2.mono hw.out.1.size)
      rw [hw2]
      generalize wr.heap.size = g6 at *
      clear hw2 hb2 c0 c1 c2 c3 hw HAT0
      refine wp_region_quiet (C := Out w2) (by kernel_rfl) (by kernel_rfl) ⟨rfl, rfl, rfl, Nat.le_refl _, fun _ _ => rfl⟩ ?_
      refine BigFrame.wpQuiet_want rfl (fun K hK => ?_)
      refine quiet_val (.agg #[.int .u8 (x 0), .int .u8 (x 1), .int .u8 (x 2), .int .u8 (x 3)]) (fun w' hw' => by obtain ⟨c0, c1, c2, c3⟩ := (HX.out w' hw').c0; go_simp) (hK _ ?_)
      clear hK K
      simp only [Act.put, List.setIfInBounds_toArray, List.set_cons_zero, List.set_cons_succ]
      refine BigFrame.wpQuiet_want rfl (fun K hK => ?_)
      refine quiet_call 19 #[.agg #[.int .u8 (x 0), .int .u8 (x 1), .int .u8 (x 2), .int .u8 (x 3)]] (.agg #[.int .i64 (x 0), .int .i64 (x 1), .int .i64 (x 2), .int .i64 (x 3)]) (fun w' _ => by go_simp) (fun w' hw' => Calls.out hw' (HRC.out w')) (hK _ ?_)
      clear hK K
      simp only [Act.put, List.setIfInBounds_toArray, List.set_cons_zero, List.set_cons_succ]
      refine BigFrame.wpQuiet_want rfl (fun K hK => ?_)
      refine quiet_val (.pointer (some ⟨w.heap.size + 1, 2, none⟩)) (fun w' hw' => by go_simp) (hK _ ?_)
      clear hK K
      simp only [Act.put, List.setIfInBounds_toArray, List.set_cons_zero, List.set_cons_succ]
      refine BigFrame.wpQuiet_want rfl (fun K hK => ?_)
      refine quiet_val (.slice (some ⟨d, p, none⟩) n cu) (fun w' hw' => by have c2 : w'.cell? ⟨w.heap.size + 1, 2, none⟩ = some (.slice (some ⟨d, p, none⟩) n cu) := (HBX.out w' hw').2.cell 2; go_simp) (hK _ ?_)
      clear hK K
      simp only [Act.put, List.setIfInBounds_toArray, List.set_cons_zero, List.set_cons_succ]
      refine BigFrame.wpQuiet_want rfl (fun K hK => ?_)
      refine quiet_val (.int .i64 (k : Int)) (fun w' hw' => by go_simp) (hK _ ?_)
      clear hK K
      simp only [Act.put, List.setIfInBounds_toArray, List.set_cons_zero, List.set_cons_succ]
      refine BigFrame.wpQuiet_want rfl (fun K hK => ?_)
      refine quiet_val (.pointer (some ⟨d, p + k * 4, none⟩)) (fun w' hw' => by go_simp) (hK _ ?_)
      clear hK K
      simp only [Act.put, List.setIfInBounds_toArray, List.set_cons_zero, List.set_cons_succ]
      refine BigFrame.wpQuiet_want rfl (fun K hK => ?_)
      refine quiet_val (.agg #[.int .i64 (x 0), .int .i64 (x 1), .int .i64 (x 2), .int .i64 (x 3)]) (fun w' hw' => by obtain ⟨c0, c1, c2, c3⟩ := HAT.out w' hw'; go_simp) (hK _ ?_)
      clear hK K
      simp only [Act.put, List.setIfInBounds_toArray, List.set_cons_zero, List.set_cons_succ]
      refine BigFrame.wpQuiet_want rfl (fun K hK => ?_)
      refine quiet_val (.bool false) (fun w' hw' => by go_simp) (hK _ ?_)
      clear hK K
      simp only [Act.put, List.setIfInBounds_toArray, List.set_cons_zero, List.set_cons_succ]
      refine wpQuiet_nil ?_
      intro w3 hb
      have HN3 : Hid (Below w.heap.size w w3 ∧ Blk w3 w.heap.size 24 #[.int .i64 W, .int .i64 H, .slice (some ⟨b, o, none⟩) n cp] ∧ Blk w3 (w.heap.size + 1) 33 #[.int .i64 W, .int .i64 H, .slice (some ⟨d, p, none⟩) n cu]) := ⟨HB2.out.trans (hb.mono HB2.out.size), HBX.out w3 hb⟩
      clear hb
      go_wp2_with fail
      exact ⟨⟨k + 1, by omega, by go_num, HN3⟩, by simp [intOf]; omega⟩
    · have hd : decide ((k : Int) < (n : Int)) = false := by simp; omega
      go_wp2_with fail
      go_ret
      exact ⟨rfl, hw.out.1⟩
def rightIm (W H : Int) (l : List Col) : Bool := decide (1 ≤ W) && decide (W ≤ 256) && decide (1 ≤ H) && decide (H ≤ 256) && decide ((l.length : Int) = W * H) && l.all rightC
theorem rightIm_iff {W H : Int} {l : List Col} : rightIm W H l = true ↔ 1 ≤ W ∧ W ≤ 256 ∧ 1 ≤ H ∧ H ≤ 256 ∧ (l.length : Int) = W * H ∧ l.all rightC = true := by simp [rightIm, and_assoc]
theorem rightIm_no {W H : Int} {l : List Col} (h : ¬ (1 ≤ W ∧ W ≤ 256 ∧ 1 ≤ H ∧ H ≤ 256 ∧ (l.length : Int) = W * H ∧ l.all rightC = true)) : rightIm W H l = false := by
  rw [Bool.eq_false_iff, ne_eq, rightIm_iff]; exact h
set_option maxHeartbeats 2000000 in
set_option maxRecDepth 100000 in
theorem ref11Right_n0 (W H : Int) (u : Value) (l : List Col) (w : World) (row : RowK .i64 w u l) (h0 : W < 1) : Calls Try.prog 13 #[.agg #[.int .i64 W, .int .i64 H, u]] w fun e w' => e = .returned (.bool (rightIm W H l)) ∧ Below w.heap.size w w' := by
  obtain ⟨au, cu, rfl⟩ := row.shape
  rw [rightIm_no (by omega)]
  generalize l.length = n
  have d0 : decide (W < 1) = true := by simp; omega
  clear row h0
  go_enter Try.func13, Try.ntmps13
  go_wp2_with fail
  go_ret
  exact ⟨rfl, (Below.refl _ _).alloc (Nat.le_refl _) _⟩
set_option maxHeartbeats 2000000 in
set_option maxRecDepth 100000 in
theorem ref11Right_n1 (W H : Int) (u : Value) (l : List Col) (w : World) (row : RowK .i64 w u l) (_h0 : ¬ W < 1) (h1 : W > 256) : Calls Try.prog 13 #[.agg #[.int .i64 W, .int .i64 H, u]] w fun e w' => e = .returned (.bool (rightIm W H l)) ∧ Below w.heap.size w w' := by
  obtain ⟨au, cu, rfl⟩ := row.shape
  rw [rightIm_no (by omega)]
  generalize l.length = n
  have d0 : decide (W < 1) = false := by simp; omega
  have d1 : decide (W > 256) = true := by simp; omega
  clear row _h0 h1
  go_enter Try.func13, Try.ntmps13
  go_wp2_with fail
  go_ret
  exact ⟨rfl, (Below.refl _ _).alloc (Nat.le_refl _) _⟩
set_option maxHeartbeats 2000000 in
set_option maxRecDepth 100000 in
theorem ref11Right_n2 (W H : Int) (u : Value) (l : List Col) (w : World) (row : RowK .i64 w u l) (h0 : ¬ W < 1) (h1 : ¬ W > 256) (h2 : H < 1) : Calls Try.prog 13 #[.agg #[.int .i64 W, .int .i64 H, u]] w fun e w' => e = .returned (.bool (rightIm W H l)) ∧ Below w.heap.size w w' := by
  obtain ⟨au, cu, rfl⟩ := row.shape
  rw [rightIm_no (by omega)]
  generalize l.length = n
  have d0 : decide (W < 1) = false := by simp; omega
  have d1 : decide (W > 256) = false := by simp; omega
  have d2 : decide (H < 1) = true := by simp; omega
  clear row h0 h1 h2
  go_enter Try.func13, Try.ntmps13
  go_wp2_with fail
  go_ret
  exact ⟨rfl, (Below.refl _ _).alloc (Nat.le_refl _) _⟩
set_option maxHeartbeats 2000000 in
set_option maxRecDepth 100000 in
theorem ref11Right_n3 (W H : Int) (u : Value) (l : List Col) (w : World) (row : RowK .i64 w u l) (h0 : ¬ W < 1) (h1 : ¬ W > 256) (_h2 : ¬ H < 1) (h3 : H > 256) : Calls Try.prog 13 #[.agg #[.int .i64 W, .int .i64 H, u]] w fun e w' => e = .returned (.bool (rightIm W H l)) ∧ Below w.heap.size w w' := by
  obtain ⟨au, cu, rfl⟩ := row.shape
  rw [rightIm_no (by omega)]
  generalize l.length = n
  have d0 : decide (W < 1) = false := by simp; omega
  have d1 : decide (W > 256) = false := by simp; omega
  have d2 : decide (H < 1) = false := by simp; omega
  have d3 : decide (H > 256) = true := by simp; omega
  clear row h0 h1 _h2 h3
  go_enter Try.func13, Try.ntmps13
  go_wp2_with fail
  go_ret
  exact ⟨rfl, (Below.refl _ _).alloc (Nat.le_refl _) _⟩
theorem side_prod {W H : Int} (h0 : ¬ W < 1) (h1 : ¬ W > 256) (h2 : ¬ H < 1) (h3 : ¬ H > 256) : 1 ≤ W * H ∧ W * H ≤ 65536 := by
  obtain ⟨p0, _, _, p3⟩ := prod_in (a := W - 1) (A := 255) (b := H - 1) (B := 255) (by omega) (by omega) (by omega) (by omega)
  have e : W * H = (W - 1) * (H - 1) + W + H - 1 := by grind
  generalize (W - 1) * (H - 1) = p at *
  omega
set_option maxHeartbeats 2000000 in
set_option maxRecDepth 100000 in
theorem ref11Right_n4 (W H : Int) (u : Value) (l : List Col) (w : World) (row : RowK .i64 w u l) (h0 : ¬ W < 1) (h1 : ¬ W > 256) (h2 : ¬ H < 1) (h3 : ¬ H > 256) (h4 : ¬ (l.length : Int) = W * H) : Calls Try.prog 13 #[.agg #[.int .i64 W, .int .i64 H, u]] w fun e w' => e = .returned (.bool (rightIm W H l)) ∧ Below w.heap.size w w' := by
  obtain ⟨au, cu, rfl⟩ := row.shape
  obtain ⟨p, hp⟩ : ∃ p, W * H = p := ⟨_, rfl⟩
  have hpb := side_prod h0 h1 h2 h3
  rw [rightIm_no (by rw [hp] at h4 ⊢; omega)]
  rw [hp] at h4 hpb
  generalize l.length = n at *
  have d0 : decide (W < 1) = false := by simp; omega
  have d1 : decide (W > 256) = false := by simp; omega
  have d2 : decide (H < 1) = false := by simp; omega
  have d3 : decide (H > 256) = false := by simp; omega
  have e30 : wrap64 (W * H) = p := by rw [hp]; exact wrapR _ (by omega) (by omega)
  have d4 : ((n : Int) != p) = true := by simp; exact h4
  clear row h0 h1 h2 h3 h4 hp hpb
  go_enter Try.func13, Try.ntmps13
  go_wp2_with fail
  go_ret
  exact ⟨rfl, (Below.refl _ _).alloc (Nat.le_refl _) _⟩
set_option maxHeartbeats 2000000 in
set_option maxRecDepth 100000 in
theorem ref11Right_y (W H : Int) (u : Value) (l : List Col) (w : World) (row : RowK .i64 w u l) (h0 : ¬ W < 1) (h1 : ¬ W > 256) (h2 : ¬ H < 1) (h3 : ¬ H > 256) (h4 : (l.length : Int) = W * H) : Calls Try.prog 13 #[.agg #[.int .i64 W, .int .i64 H, u]] w fun e w' => e = .returned (.bool (rightIm W H l)) ∧ Below w.heap.size w w' := by
  obtain ⟨au, cu, rfl⟩ := row.shape
  have hpb := side_prod h0 h1 h2 h3
  have HRI : Hid (rightIm W H l = l.all rightC) := by
    unfold Hid
    cases h : l.all rightC
    · exact rightIm_no (by rw [h]; simp)
    · exact rightIm_iff.2 ⟨by omega, by omega, by omega, by omega, h4, h⟩
  rw [HRI.out]
  obtain ⟨r, hr⟩ : ∃ r, l.all rightC = r := ⟨_, rfl⟩
  have HR := Lib.hid hr
  rw [hr]
  rw [← h4] at hpb
  have HROW := Lib.hid row
  obtain ⟨n, hn⟩ : ∃ n, l.length = n := ⟨_, rfl⟩
  have HN := Lib.hid hn
  rw [hn] at HROW h4 hpb ⊢
  have d0 : decide (W < 1) = false := by simp; omega
  have d1 : decide (W > 256) = false := by simp; omega
  have d2 : decide (H < 1) = false := by simp; omega
  have d3 : decide (H > 256) = false := by simp; omega
  have e30 : wrap64 (W * H) = (n : Int) := by rw [← h4]; exact wrapR _ (by omega) (by omega)
  have d4 : ((n : Int) != (n : Int)) = false := by simp
  have HB : Hid (n ≤ 65536) := by unfold Hid; omega
  clear row h0 h1 h2 h3 h4 hn hpb hr HRI
  go_enter Try.func13, Try.ntmps13
  go_wp2_with fail
  rw [e30]
  clear e30
  go_loopw [3] (fun s3 wr => ∃ k : Nat, k ≤ n ∧ s3 = .int .i64 (k : Int) ∧ Hid ((l.take k).all rightC = true ∧ Below w.heap.size w wr ∧ Blk wr w.heap.size 33 #[.int .i64 W, .int .i64 H, .slice au n cu])) (fun s3 _ => n - (intOf s3).toNat)
  case atStart => exact ⟨0, by omega, rfl, rfl, (Below.refl _ _).alloc (Nat.le_refl _) _, Blk.new _ _ _⟩
  case round =>
    obtain ⟨k, hk, rfl, hw⟩ := hrel
    have b2 := hw.out.2.2.cell 2
    simp only [List.getElem?_toArray, List.getElem?_cons_zero, List.getElem?_cons_succ] at b2
    have hbn := HB.out
    by_cases hlt : k < n
    · have hd : decide ((k : Int) < (n : Int)) = true := by simp; omega
      have hki : (k : Int) < (n : Int) := by omega
      obtain ⟨x, hx⟩ : ∃ x, l[k]? = some x := ⟨_, List.getElem?_eq_getElem (by rw [HN.out]; exact hlt)⟩
      obtain ⟨d, p, rfl, hdl, hau⟩ := RowK.addr (HROW.out) (by rw [HN.out]; omega)
      obtain ⟨c0, c1, c2, c3⟩ := (hau k x hx).on hw.out.2.1 hdl
      have HRX := Lib.hid (refRight_c x)
      have HTK : Hid ((l.take (k + 1)).all rightC = rightC x) := by unfold Hid; rw [take_succ_at hx, List.all_append, hw.out.1]; simp
      have HNO : Hid (rightC x = false → r = false) := fun h => by
        rw [← HR.out, List.all_eq_false]
        exact ⟨x, List.mem_of_getElem? hx, by simp [h]⟩
      clear hx hau hdl
      go_wp2_with fail
      refine (HRX.out _).mono ?_
      rintro e w2 ⟨rfl, hb⟩
      have HN2 : Hid (Below w.heap.size w w2 ∧ Blk w2 w.heap.size 33 #[.int .i64 W, .int .i64 H, .slice (some ⟨d, p, none⟩) n cu]) := ⟨hw.out.2.1.trans (hb.mono hw.out.2.1.size), hw.out.2.2.grow hb⟩
      clear hb c0 c1 c2 c3 b2
      cases hrx : rightC x
      · have HNR := Lib.hid (HNO.out hrx)
        go_wp2_with fail
        go_ret
        exact ⟨retB HNR.out.symm, HN2.out.1⟩
      · rw [hrx] at HTK
        clear hrx
        go_wp2_with fail
        exact ⟨⟨k + 1, by omega, by go_num, HTK.out, HN2.out.1, HN2.out.2⟩, by simp [intOf]; omega⟩
    · have hd : decide ((k : Int) < (n : Int)) = false := by simp; omega
      obtain rfl : n = k := by omega
      have ha := hw.out.1
      rw [List.take_of_length_le (by rw [HN.out]; omega)] at ha
      rw [HR.out] at ha
      have HNR := Lib.hid ha
      clear ha
      go_wp2_with fail
      go_ret
      exact ⟨retB HNR.out.symm, hw.out.2.1⟩
theorem ref11Right_c (W H : Int) (u : Value) (l : List Col) (w : World) (row : RowK .i64 w u l) : Calls Try.prog 13 #[.agg #[.int .i64 W, .int .i64 H, u]] w fun e w' => e = .returned (.bool (rightIm W H l)) ∧ Below w.heap.size w w' := by
  by_cases h0 : W < 1
  · exact ref11Right_n0 W H u l w row h0
  by_cases h1 : W > 256
  · exact ref11Right_n1 W H u l w row h0 h1
  by_cases h2 : H < 1
  · exact ref11Right_n2 W H u l w row h0 h1 h2
  by_cases h3 : H > 256
  · exact ref11Right_n3 W H u l w row h0 h1 h2 h3
  by_cases h4 : (l.length : Int) = W * H
  · exact ref11Right_y W H u l w row h0 h1 h2 h3 h4
  · exact ref11Right_n4 W H u l w row h0 h1 h2 h3 h4
end Go.Proofs.Ytoppmlfibllhlaa

