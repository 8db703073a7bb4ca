/- Layer 13: package frame: Scan. -/
import Derived.Test.YteobffggfcmghaaDoorVd
import Derived.Test.YteobffggfcmghaaDoorVe
namespace Go.Proofs.YteobffggfcmghaaDoor
open Go.RowKit
def coreR (r : Rcd) : Int × Int × List Int := (r.1, r.2.1, r.2.2.2)
/-- What a scan tells. -/
def ScanQ (w : World) (t : TypeId) (R : List (Int × Int × List Int) × Nat) : Ending → World → Prop := fun e w' => ∃ v X, e = .returned (.tuple #[v, .int .i64 (R.2 : Int)]) ∧ OwnR w' w.heap.size t v X ∧ X.map coreR = R.1 ∧ Below w.heap.size w w'
/-- How far a scan is. -/
structure ScanSt (B : List Int) (seq : Int) (w wr : World) (t : TypeId) (v : Value) (a f : Nat) (q : Int) (X : List Rcd) : Prop where
  le : a ≤ B.length
  fuel : B.length + 1 ≤ a + f
  rng : rngN q
  eq : scanI B (B.length + 1) 0 seq = (X.map coreR ++ (scanI B f a q).1, (scanI B f a q).2)
  len : X.length ≤ a
  own : OwnR wr w.heap.size t v X
  below : Below w.heap.size w wr
theorem ScanSt.stop {B : List Int} {seq : Int} {w wr : World} {t : TypeId} {v : Value} {a f : Nat} {q : Int} {X : List Rcd} (h : ScanSt B seq w wr t v a f q X) (hr : recAt B a q = none) {w' : World} (hb : Below wr.heap.size wr w') : (scanI B (B.length + 1) 0 seq).2 = a ∧ OwnR w' w.heap.size t v X ∧ X.map coreR = (scanI B (B.length + 1) 0 seq).1 ∧ Below w.heap.size w w' := by
  rw [h.eq, scanI_none hr]
  exact ⟨rfl, h.own.grow hb, by simp, h.below.trans (hb.mono h.below.size)⟩
theorem ScanSt.step {B : List Int} {seq : Int} {w wr w' : World} {t : TypeId} {v v' : Value} {a f : Nat} {q k : Int} {X : List Rcd} {E : List Int} {d : Value} (h : ScanSt B seq w wr t v a f q X) (hr : recAt B a q = some (k, E)) (ho : OwnR w' w.heap.size t v' (X ++ [(q, k, d, E)])) (hb : Below w.heap.size w w') : ∃ f', ScanSt B seq w w' t v' (a + 17 + E.length) f' (wrap64 (q + 1)) (X ++ [(q, k, d, E)]) := by
  have hl := recAt_len hr
  have hf := h.fuel
  have hlen := h.len
  obtain ⟨f', rfl⟩ : ∃ f', f = f' + 1 := ⟨f - 1, by have := h.le; omega⟩
  refine ⟨f', hl.2, by omega, ?_, ?_, by rw [List.length_append]; simp; omega, ho, hb⟩
  · unfold rngN wrap64; omega
  · rw [h.eq, scanI_some h.rng.2 hr]
    simp [coreR]
theorem capS_slice' {ao : Option Addr} {n c : Nat} (h : n ≤ c) : CapS (.slice ao n c) := fun _ _ _ e => by cases e; exact h
theorem recB {w : World} {d : Value} {E : List Int} (h : RowB w d E) : ∃ a c, d = .slice a E.length c := h.shape
set_option maxHeartbeats 8000000 in
set_option maxRecDepth 100000 in
theorem scan_c (s : Value) (B : List Int) (seq : Int) (w : World) (hrd : Rd w) (row : RowB w s B) (hB : OkB B) (hcap : CapS s) (hl : B.length ≤ 60000) (hq : rngN seq) : Calls Tryd.prog 13 #[s, .int .i64 seq] w (ScanQ w 29 (scanI B (B.length + 1) 0 seq)) := by
  obtain ⟨ao, c, rfl⟩ := row.shape
  obtain ⟨n, hn⟩ : ∃ n, B.length = n := ⟨_, rfl⟩
  have hnc : n ≤ c := by rw [← hn]; exact hcap _ _ _ rfl
  rw [hn] at row
  have HR := Lib.hid row
  have HB : Hid (OkB B ∧ B.length = n ∧ n ≤ c ∧ n ≤ 60000) := ⟨hB, hn, hnc, by omega⟩
  have HRD := Lib.hid hrd
  have HQ := Lib.hid hq
  obtain ⟨R, hR⟩ : ∃ R, scanI B (B.length + 1) 0 seq = R := ⟨_, rfl⟩
  have HRR := Lib.hid hR
  rw [hR, hn]
  clear row hB hcap hl hn hnc hrd hq hR
  go_enter Tryd.func13, Tryd.ntmps13
  go_wp2_with fail
  go_loopw [1, 4, 5] (fun s1 s4 s5 wr => ∃ (a f : Nat) (q : Int) (X : List Rcd), s5 = .int .i64 (a : Int) ∧ s1 = .int .i64 q ∧ Hid (ScanSt B seq w wr 29 s4 a f q X)) (fun _ _ s5 _ => n + 1 - (intOf s5).toNat)
  case atStart => exact ⟨0, n + 1, seq, [], rfl, rfl, ⟨Nat.zero_le _, by rw [HB.out.2.1]; omega, HQ.out, by rw [HB.out.2.1]; simp, Nat.le_refl _, OwnR.nil _ _ _, Below.refl _ _⟩⟩
  case round =>
    obtain ⟨a, f, q, X, rfl, rfl, hst⟩ := hrel
    have HA : Hid (a ≤ n) := by have := hst.out.le; rw [HB.out.2.1] at this; exact this
    have HF : Hid (Calls Tryd.prog 29 #[.slice (cutA ao a c) (n - a) (c - a)] wr (FirstR wr (firstO (B.drop a)))) := by
      have r1 := RowB.cutU (HR.out.on hst.out.below) HB.out.2.1 (l := a) (k := n - a) (m := c) (by have := HA.out; omega) (by have := HA.out; have := HB.out; omega) (Nat.le_refl _)
      have e : cutL B a (n - a) = B.drop a := by
        unfold cutL
        rw [List.take_of_length_le (by rw [List.length_drop, HB.out.2.1]; exact Nat.le_refl _)]
      rw [e] at r1
      exact first_c13 _ _ wr (HRD.out.on hst.out.below) r1 (fun x hx => HB.out.1 x (List.mem_of_mem_drop hx)) (capS_slice' (by have := HB.out; omega)) (by rw [List.length_drop, HB.out.2.1]; have := HB.out; omega)
    have HREC := Lib.hid (recAt_first HB.out.1 (by rw [HB.out.2.1]; exact HB.out.2.2.2) a q hst.out.rng.2)
    obtain ⟨fo, hfo⟩ : ∃ o, firstO (B.drop a) = o := ⟨_, rfl⟩
    rw [hfo] at HF HREC
    clear hfo
    go_wp2_with (refine wpList_cut rfl _ _ _ _ rfl ao n c a n c (n - a) rfl (.inl rfl) (.inr ⟨rfl, rfl, .inr ⟨rfl, rfl⟩⟩) HA.out HB.out.2.2.1 rfl ?_)
    refine (HF.out).mono ?_
    cases fo with
    | none =>
      rintro e w1 ⟨d, rfl, hb1, hd1⟩
      obtain ⟨da, dc, rfl⟩ := hd1.shape
      have HNONE : Hid (recAt B a q = none) := HREC.out
      have HB1 := Lib.hid hb1
      clear hb1 hd1 HF HREC
      obtain ⟨W1, hW1⟩ : ∃ x, x = w1.alloc (.cells #[.int .i64 0, .int .i64 0, .slice da 0 dc] 29) := ⟨_, rfl⟩
      have HW : Hid (Blk W1 w1.heap.size 29 #[.int .i64 0, .int .i64 0, .slice da 0 dc] ∧ Below w1.heap.size w1 W1) := by
        subst hW1
        exact ⟨Blk.new _ _ _, (Below.refl _ _).alloc (Nat.le_refl _) _⟩
      go_upto_region 2 with fail
      rw [← hW1]
      clear hW1
      have c0 : W1.cell? ⟨w1.heap.size, 0, none⟩ = some (.int .i64 0) := HW.out.1.cell 0
      have hlt := HW.out.1.lt
      have HD := Lib.hid (hst.out.stop HNONE.out (w' := W1) (HB1.out.trans (HW.out.2.mono HB1.out.size)))
      rw [HRR.out] at HD
      go_wp2_with fail
      go_ret2
      exact ⟨u4, X, by rw [HD.out.1]; rfl, HD.out.2.1, HD.out.2.2.1, HD.out.2.2.2⟩
    | some r =>
      obtain ⟨sq, kd, E⟩ := r
      rintro e w1 ⟨d, rfl, hb1, hd1⟩
      obtain ⟨da, dc, rfl⟩ := hd1.shape
      obtain ⟨el, hel⟩ : ∃ el, E.length = el := ⟨_, rfl⟩
      simp only at hd1
      rw [hel] at hd1 ⊢
      have HEL := Lib.hid hel
      have HB1 := Lib.hid hb1
      have HD1 := Lib.hid hd1
      have hne0 : ((17 + (el : Int)) == 0) = false := by simp; omega
      clear hb1 hd1 HF hel
      obtain ⟨W1, hW1⟩ : ∃ x, x = w1.alloc (.cells #[.int .i64 sq, .int .i64 kd, .slice da el dc] 29) := ⟨_, rfl⟩
      have HW : Hid (Blk W1 w1.heap.size 29 #[.int .i64 sq, .int .i64 kd, .slice da el dc] ∧ Below w1.heap.size w1 W1) := by
        subst hW1
        exact ⟨Blk.new _ _ _, (Below.refl _ _).alloc (Nat.le_refl _) _⟩
      go_upto_region 2 with fail
      rw [← hW1]
      clear hW1
      have c0 : W1.cell? ⟨w1.heap.size, 0, none⟩ = some (.int .i64 sq) := HW.out.1.cell 0
      have hlt := HW.out.1.lt
      by_cases hsq : sq = q
      · subst hsq
        have HSOME : Hid (recAt B a sq = some (kd, E)) := by
          have h := HREC.out
          simp only [if_true] at h
          exact h
        have hsn : (sq != sq) = false := by simp
        have c2 : W1.cell? ⟨w1.heap.size, 2, none⟩ = some (.slice da el dc) := HW.out.1.cell 2
        have f2 := HW.out.1.free 2
        have HELN : Hid (el ≤ 60000) := by
          have := (recAt_len HSOME.out).2
          rw [HEL.out, HB.out.2.1] at this
          have := HB.out.2.2.2
          rw [Hid]; omega
        have HST1 : Hid (OwnR W1 w.heap.size 29 u4 X ∧ Below w.heap.size w W1) := ⟨(hst.out.own.grow HB1.out).grow HW.out.2, hst.out.below.trans ((HB1.out.trans (HW.out.2.mono HB1.out.size)).mono hst.out.below.size)⟩
        have HCL := Lib.hid (clone_c (.slice da el dc) E W1 (HD1.out.on HW.out.2) (by rw [HEL.out]; have := HELN.out; omega))
        clear HREC
        go_wp2_with fail
        refine (HCL.out).mono ?_
        rintro e w2 ⟨v2, rfl, ho2, hb2⟩
        obtain ⟨ea, ec, rfl⟩ := ho2.shape
        rw [HEL.out] at ho2 ⊢
        have hblk : Blk w2 w1.heap.size 29 #[.int .i64 sq, .int .i64 kd, .slice da el dc] := (Keep.of_below (S := fun _ => True) hb2).blk HW.out.1 trivial
        have hb3 : Blk (w2.setCell ⟨w1.heap.size, 2, none⟩ (.slice ea el ec)) w1.heap.size 29 #[.int .i64 sq, .int .i64 kd, .slice ea el ec] := hblk.set 2 _
        obtain ⟨w3, hw3⟩ : ∃ x, x = w2.setCell ⟨w1.heap.size, 2, none⟩ (.slice ea el ec) := ⟨_, rfl⟩
        have hg : w.heap.size ≤ w1.heap.size := Nat.le_trans hst.out.below.size HB1.out.size
        have h3 : Hid (OwnR w3 w.heap.size 29 u4 X ∧ Below w.heap.size w w3 ∧ OwnB w3 w.heap.size (.slice ea el ec) E ∧ Blk w3 w1.heap.size 29 #[.int .i64 sq, .int .i64 kd, .slice ea el ec]) := by
          have o2 := HST1.out.1.grow hb2
          have hs : Keep (fun k => k ≠ w1.heap.size) w2 w3 := by rw [hw3]; exact Keep.setCell _ _ _ (by simp)
          have hX : ∀ x ∈ X, OwnB w3 w.heap.size x.2.2.1 x.2.2.2 := fun x hx => owns_keep (o2.2 x hx) hs fun k e hk => owns_off (o2.2 x hx) hblk (by decide) (hk ▸ e)
          have hrow : w3.ownsRow w.heap.size 29 3 u4 X.length (flatR X) := by
            refine owns_keep o2.1 hs fun k e hk => ?_
            have q1 := (World.ownsRow.lt (hst.out.own.grow HB1.out).1 k e).2
            omega
          refine ⟨⟨hrow, hX⟩, ?_, owns_base (owns_keep ho2 hs fun k e hk => owns_off ho2 hblk (by decide) (hk ▸ e)) HST1.out.2.size, by rw [hw3]; exact hb3⟩
          rw [hw3]
          exact (HST1.out.2.trans (hb2.mono HST1.out.2.size)).setCell hg _
        have c2' : w2.cell? ⟨w1.heap.size, 2, none⟩ = some (.slice da el dc) := hblk.cell 2
        have f2' := hblk.free 2
        have hlt2 := hblk.lt
        clear hblk hb3 hg c2 f2 c0 hlt ho2 hb2 HCL
        go_upto_region 5 with fail
        rw [← hw3]
        clear hw3 c2' f2' hlt2
        have c0 : w3.cell? ⟨w1.heap.size, 0, none⟩ = some (.int .i64 sq) := h3.out.2.2.2.cell 0
        have c1 : w3.cell? ⟨w1.heap.size, 1, none⟩ = some (.int .i64 kd) := h3.out.2.2.2.cell 1
        have c2 : w3.cell? ⟨w1.heap.size, 2, none⟩ = some (.slice ea el ec) := h3.out.2.2.2.cell 2
        have hlt := h3.out.2.2.2.lt
        obtain ⟨w4, hw4⟩ : ∃ x, x = w3.alloc (.cells #[.int .i64 sq, .int .i64 kd, .slice ea el ec] 29) := ⟨_, rfl⟩
        have HNEW : Hid (w4.cell? ⟨w3.heap.size, 0, none⟩ = some (.int .i64 sq) ∧ w4.cell? ⟨w3.heap.size, 1, none⟩ = some (.int .i64 kd) ∧ w4.cell? ⟨w3.heap.size, 2, none⟩ = some (.slice ea el ec)) := by
          rw [hw4]
          exact ⟨(Blk.new _ _ _).cell 0, (Blk.new _ _ _).cell 1, (Blk.new _ _ _).cell 2⟩
        have H4 : Hid (OwnR w4 w.heap.size 29 u4 X ∧ Below w.heap.size w w4 ∧ OwnB w4 w.heap.size (.slice ea el ec) E) := by
          have hb : Below w3.heap.size w3 w4 := by rw [hw4]; exact (Below.refl _ _).alloc (Nat.le_refl _) _
          exact ⟨h3.out.1.grow hb, h3.out.2.1.trans (hb.mono h3.out.2.1.size), h3.out.2.2.1.grow hb⟩
        have HXL : Hid (X.length + 1 ≤ 100000) := Lib.hid (by have h1 := hst.out.len; have h2 := HA.out; have h3 := HB.out.2.2.2; omega)
        have hwz : wrap64 ((a : Int) + (17 + (el : Int))) = ((a + 17 + el : Nat) : Int) := by
          have h2 := HA.out
          have h3 := HB.out.2.2.2
          have h4 := HELN.out
          rw [wrapR _ (by omega) (by omega)]; omega
        have HWZ := Lib.hid hwz
        clear hwz
        go_wp2_with (at_builtin; rw [← hw4]; refine wpList_append_rec rfl _ _ 33 29 rfl Tryd.underlying33 infoRec (by decide) w.heap.size _ X (sq, kd, .slice ea el ec, E) rfl H4.out.1 w3.heap.size rfl HNEW.out rfl H4.out.2.2 HXL.out H4.out.2.1.size ?_)
        intro v5 w5 ho5 hg5
        rw [← hw4] at hg5
        have H5 : Hid (∃ f', ScanSt B seq w w5 29 v5 (a + 17 + el) f' (wrap64 (sq + 1)) (X ++ [(sq, kd, .slice ea el ec, E)])) := by
          have key := hst.out.step (d := .slice ea el ec) HSOME.out ho5 (own_below H4.out.1.1 hg5 H4.out.2.1 (Nat.le_refl _) H4.out.2.1.size)
          rw [HEL.out] at key
          exact key
        have HLE : Hid (a + 17 + el ≤ n) := by
          have := (recAt_len HSOME.out).2
          rw [HEL.out, HB.out.2.1] at this
          exact this
        clear ho5 hg5 hw4 c0 c1 c2
        go_wp2_with fail
        obtain ⟨f', hs'⟩ := H5.out
        rw [HWZ.out]
        refine ⟨⟨a + 17 + el, f', wrap64 (sq + 1), _, rfl, rfl, hs'⟩, ?_⟩
        have hle9 := HLE.out
        clear hs' H5
        show n + 1 - (((a + 17 + el : Nat) : Int)).toNat < n + 1 - ((a : Int)).toNat
        rw [Int.toNat_natCast, Int.toNat_natCast]
        omega
      · have HNONE : Hid (recAt B a q = none) := by
          have h := HREC.out
          simp only [if_neg hsq] at h
          exact h
        have HD := Lib.hid (hst.out.stop HNONE.out (w' := W1) (HB1.out.trans (HW.out.2.mono HB1.out.size)))
        rw [HRR.out] at HD
        have hsn : (sq != q) = true := by simpa using hsq
        go_wp2_with fail
        go_ret2
        exact ⟨u4, X, by rw [HD.out.1]; rfl, HD.out.2.1, HD.out.2.2.1, HD.out.2.2.2⟩
end Go.Proofs.YteobffggfcmghaaDoor
