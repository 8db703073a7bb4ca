/- Layer 13: package frame: texts and counts that an In tells. -/
import Derived.Test.YteobffggfcmghaaDoorUg
namespace Go.Proofs.YteobffggfcmghaaDoor
open Go.RowKit
theorem InA.row' {T : Nat → Prop} {w : World} {g : Nat} {B : List Int} {a : Option Nat} {v : Value} (h : InA T w g B a v) : ∃ ao c, v = .slice ao (leftD B a).length c ∧ (leftD B a).length ≤ c := by
  obtain ⟨ao, c, rfl⟩ := h.row.shape
  exact ⟨ao, c, rfl, h.cap _ _ _ rfl⟩
theorem To.trans {T T' T'' : Nat → Prop} {w w' u : World} (h : To T w T' w') (k : To T' w' T'' u) : To T w T'' u := by
  refine ⟨⟨k.keep.os.trans h.keep.os, k.keep.tape.trans h.keep.tape, k.keep.output.trans h.keep.output, Nat.le_trans h.keep.size k.keep.size, fun i hi hl => ?_⟩, fun i hi => ?_⟩
  · rw [← h.keep.block i hi hl]
    refine k.keep.block i (fun hT => ?_) (Nat.lt_of_lt_of_le hl h.keep.size)
    rcases h.new i hT with q | q
    · exact hi q
    · omega
  · rcases k.new i hi with q | q
    · exact h.new i q
    · exact .inr (Nat.le_trans h.keep.size q)
/-- The text, out of the number that is ahead of it; the count. -/
def textQ (B : List Int) (n : Int) : Option Nat → List Int × Option Nat
  | none => ([], none)
  | some q => if n < 0 ∨ n > ((B.drop q).length : Int) then ([], none) else (cutL B q n.toNat, some (q + n.toNat))
theorem textD_q {B : List Int} {a : Option Nat} (hw : WithinD B a) : textD B a = textQ B (intD B a).1 (intD B a).2 := by
  cases a with
  | none => rfl
  | some q =>
    have hr := (readI_in (hw q rfl)).2
    rw [intD]
    by_cases h0 : (readI B q).2 < 0
    · rw [if_pos h0, textD, if_pos (.inl h0)]
      rfl
    · rw [if_neg h0, textD]
      show _ = if (readI B q).1 < 0 ∨ (readI B q).1 > ((B.drop (readI B q).2.toNat).length : Int) then _ else _
      have hl : ((B.drop (readI B q).2.toNat).length : Int) = (B.length : Int) - (readI B q).2 := by rw [List.length_drop]; omega
      rw [hl]
      by_cases hc : (readI B q).1 < 0 ∨ (readI B q).1 > (B.length : Int) - (readI B q).2
      · rw [if_pos (.inr hc), if_pos hc]
      · rw [if_neg (fun q => q.elim h0 hc), if_neg hc]
        refine Prod.ext rfl ?_
        show some _ = some _
        congr 1
        omega
def countQ (n most : Int) : Option Nat → Int × Option Nat
  | none => (0, none)
  | some q => if n < 0 ∨ n > most then (0, none) else (n, some q)
theorem countD_q {B : List Int} {a : Option Nat} (most : Int) : countD B most a = countQ (intD B a).1 most (intD B a).2 := by
  cases a with
  | none => rfl
  | some q =>
    rw [intD]
    by_cases h0 : (readI B q).2 < 0
    · rw [if_pos h0, countD, if_pos (.inl h0)]
      rfl
    · rw [if_neg h0, countD]
      show _ = if (readI B q).1 < 0 ∨ (readI B q).1 > most then _ else _
      by_cases hc : (readI B q).1 < 0 ∨ (readI B q).1 > most
      · rw [if_pos (.inr hc), if_pos hc]
      · rw [if_neg (fun q => q.elim h0 hc), if_neg hc]
theorem intD_nil {B : List Int} {a : Option Nat} (h : (intD B a).2 = none) : (intD B a).1 = 0 := by
  cases a with
  | none => rfl
  | some q =>
    rw [intD] at h ⊢
    split
    · rfl
    · rename_i h0
      rw [if_neg h0] at h
      cases h
theorem InA.same {T : Nat → Prop} {w : World} {g : Nat} {B : List Int} {v : Value} (h : InA T w g B none v) : InAt T (w.setCell ⟨g, 0, none⟩ (.slice none 0 0)) g B none ∧ To T w T (w.setCell ⟨g, 0, none⟩ (.slice none 0 0)) := by
  have hk : Keep (fun k => ¬ T k) w (w.setCell ⟨g, 0, none⟩ (.slice none 0 0)) := Keep.setCell _ _ _ (fun q => q h.tg)
  exact ⟨⟨.slice none 0 0, h.blk.set 0 _, h.tg, fun k ht => Nat.lt_of_lt_of_le (h.lt k ht) hk.size, capS_slice (Nat.le_refl _), h.ok, h.len, .inl ⟨rfl, rfl⟩, fun q => absurd rfl q, fun _ => rfl⟩, hk, fun k ht => .inl ht⟩
set_option maxHeartbeats 4000000 in
set_option maxRecDepth 100000 in
theorem text_c (T : Nat → Prop) (w : World) (g : Nat) (B : List Int) (a : Option Nat) (h : InAt T w g B a) (hw : WithinD B a) : Calls Tryd.prog 23 #[ptrG g] w fun e w' => ∃ T' v, e = .returned v ∧ InAt T' w' g B (textD B a).2 ∧ To T w T' w' ∧ RowB w' v (textD B a).1 := by
  have HI := Lib.hid (int_c T w g B a h hw)
  have hwi := intD_in hw
  have hni := intD_nil (B := B) (a := a)
  rw [textD_q hw]
  generalize (intD B a).1 = n at *
  generalize (intD B a).2 = a2 at *
  have HW := Lib.hid hwi
  clear hwi h hw
  cases a2 with
  | none =>
    obtain rfl := hni rfl
    clear hni
    go_enter Tryd.func23, Tryd.ntmps23
    go_wp2_with fail
    refine (HI.out).mono ?_
    rintro e w1 ⟨T1, rfl, ⟨v1, h1⟩, ht1⟩
    obtain rfl := h1.nil rfl
    have HR : Hid (InAt T1 (w1.setCell ⟨g, 0, none⟩ (.slice none 0 0)) g B none ∧ To T w T1 (w1.setCell ⟨g, 0, none⟩ (.slice none 0 0))) := ⟨h1.same.1, ht1.trans h1.same.2⟩
    have c0 : w1.cell? ⟨g, 0, none⟩ = some (.slice none 0 0) := h1.blk.cell 0
    have f0 := h1.blk.free 0
    have hlt := h1.blk.lt
    clear HI h1 ht1
    go_wp2_with fail
    go_ret
    exact ⟨T1, _, rfl, HR.out.1, HR.out.2, .inl ⟨rfl, rfl⟩⟩
  | some q =>
    clear hni
    go_enter Tryd.func23, Tryd.ntmps23
    go_wp2_with fail
    refine (HI.out).mono ?_
    rintro e w1 ⟨T1, rfl, ⟨v1, h1⟩, ht1⟩
    clear HI
    obtain ⟨ao, c, rfl, hc⟩ := h1.row'
    have hlen : (leftD B (some q)).length = (B.drop q).length := rfl
    have hok := h1.okL
    have hrow := h1.row
    obtain ⟨ln, hln⟩ : ∃ ln, (B.drop q).length = ln := ⟨_, rfl⟩
    rw [hlen, hln] at h1 hc hrow
    have HLN := Lib.hid hln
    have HT1 := Lib.hid ht1
    have c0 : w1.cell? ⟨g, 0, none⟩ = some (.slice ao ln c) := h1.blk.cell 0
    have f0 := h1.blk.free 0
    have hlt := h1.blk.lt
    by_cases hcase : n < 0 ∨ n > (ln : Int)
    · have HQ : Hid (textQ B n (some q) = ([], none)) := by
        show (if n < 0 ∨ n > ((B.drop q).length : Int) then _ else _) = _
        rw [hln, if_pos hcase]
      have HR : Hid (InAt T1 ((w1.setCell ⟨g, 0, none⟩ (.slice none 0 0)).setCell ⟨g, 1, none⟩ (.bool true)) g B none ∧ To T w T1 ((w1.setCell ⟨g, 0, none⟩ (.slice none 0 0)).setCell ⟨g, 1, none⟩ (.bool true))) := ⟨h1.gone.1, ht1.trans h1.gone.2⟩
      have HBL := Lib.hid h1.blk
      clear hrow hok hc hlen hln h1 ht1
      by_cases hneg : n < 0
      · have d1 : decide (n < 0) = true := by simp; omega
        clear hcase
        go_wp2_with fail
        refine (fail_c g _ _ w1 HBL.out).mono ?_
        rintro e w' ⟨rfl, rfl⟩
        go_wp2_with fail
        go_ret
        rw [HQ.out]
        exact ⟨T1, _, rfl, HR.out.1, HR.out.2, .inl ⟨rfl, rfl⟩⟩
      · have d1 : decide (n < 0) = false := by simp; omega
        have d2 : decide (n > (ln : Int)) = true := by simp; omega
        have d3 : (ln : Int) < n := by omega
        clear hcase
        go_wp2_with fail
        refine (fail_c g _ _ w1 HBL.out).mono ?_
        rintro e w' ⟨rfl, rfl⟩
        go_wp2_with fail
        go_ret
        rw [HQ.out]
        exact ⟨T1, _, rfl, HR.out.1, HR.out.2, .inl ⟨rfl, rfl⟩⟩
    · obtain ⟨p, rfl⟩ : ∃ p : Nat, n = (p : Int) := ⟨n.toNat, by omega⟩
      have HQ : Hid (textQ B (p : Int) (some q) = (cutL B q p, some (q + p))) := by
        show (if (p : Int) < 0 ∨ (p : Int) > ((B.drop q).length : Int) then _ else _) = _
        rw [hln, if_neg hcase, Int.toNat_natCast]
      have hpl : p ≤ ln := by omega
      have hm := h1.moved rfl hln hpl
      have HR : Hid (InAt T1 (w1.setCell ⟨g, 0, none⟩ (.slice (cutA ao p c) (ln - p) (c - p))) g B (some (q + p)) ∧ To T w T1 (w1.setCell ⟨g, 0, none⟩ (.slice (cutA ao p c) (ln - p) (c - p)))) := ⟨hm.1, ht1.trans hm.2⟩
      have HTX : Hid (RowB (w1.setCell ⟨g, 0, none⟩ (.slice (cutA ao p c) (ln - p) (c - p))) (.slice (cutA ao 0 p) p (p - 0)) (cutL B q p)) := by
        have key := RowB.cutU (show RowB w1 (.slice ao ln c) (B.drop q) from hrow) hln (l := 0) (k := p) (m := p) (by omega) (by omega) (by omega)
        have e : cutL (B.drop q) 0 p = cutL B q p := rfl
        rw [e] at key
        refine key.keep (T := fun k => k ≠ g) (Keep.setCell _ _ _ (by simp)) fun h0 k e2 => ?_
        rw [cutA_block ao 0 p p (p - 0) ln c] at e2
        have hpq : p ≠ 0 := by
          rintro rfl
          exact h0 (by simp [cutL])
        exact (h1.own (by rw [hlen, hln]; omega) k e2).2
      have d1 : decide ((p : Int) < 0) = false := by simp
      have d2 : decide ((p : Int) > (ln : Int)) = false := by simp; omega
      have d2' : decide (ln < p) = false := by simp; omega
      have HP : Hid (p ≤ ln ∧ ln ≤ c ∧ p ≤ c) := ⟨hpl, hc, by omega⟩
      clear hrow hok hc hlen hln h1 ht1 hm hcase hpl
      go_upto_region 5 with fail
      go_wp2_with (first | (refine wpList_cut rfl _ _ _ _ rfl ao ln c 0 p p p rfl (.inr ⟨rfl, rfl⟩) (.inl ⟨rfl, HP.out.2.2, rfl⟩) (Nat.zero_le _) (Nat.le_refl _) rfl ?_) | (refine wpList_cut rfl _ _ _ _ rfl ao ln c p ln c (ln - p) rfl (.inl rfl) (.inr ⟨rfl, rfl, .inr ⟨rfl, rfl⟩⟩) HP.out.1 HP.out.2.1 rfl ?_))
      go_ret
      rw [HQ.out]
      exact ⟨T1, _, rfl, HR.out.1, HR.out.2, HTX.out⟩
set_option maxHeartbeats 4000000 in
set_option maxRecDepth 100000 in
theorem count_c (T : Nat → Prop) (w : World) (g : Nat) (B : List Int) (a : Option Nat) (most : Int) (h : InAt T w g B a) (hw : WithinD B a) : Calls Tryd.prog 27 #[ptrG g, .int .i64 most] w fun e w' => ∃ T', e = .returned (.int .i64 (countD B most a).1) ∧ InAt T' w' g B (countD B most a).2 ∧ To T w T' w' := by
  have HI := Lib.hid (int_c T w g B a h hw)
  have hni := intD_nil (B := B) (a := a)
  rw [countD_q most]
  generalize (intD B a).1 = n at *
  generalize (intD B a).2 = a2 at *
  clear h hw
  by_cases hcase : n < 0 ∨ n > most
  · have HQ : Hid (countQ n most a2 = (0, none)) := by
      cases a2 with
      | none => rfl
      | some q => show (if n < 0 ∨ n > most then _ else _) = _; rw [if_pos hcase]
    by_cases hneg : n < 0
    · have d1 : decide (n < 0) = true := by simp; omega
      clear hcase hni
      go_enter Tryd.func27, Tryd.ntmps27
      go_wp2_with fail
      refine (HI.out).mono ?_
      rintro e w1 ⟨T1, rfl, ⟨v1, h1⟩, ht1⟩
      have HR : Hid (InAt T1 ((w1.setCell ⟨g, 0, none⟩ (.slice none 0 0)).setCell ⟨g, 1, none⟩ (.bool true)) g B none ∧ To T w T1 ((w1.setCell ⟨g, 0, none⟩ (.slice none 0 0)).setCell ⟨g, 1, none⟩ (.bool true))) := ⟨h1.gone.1, ht1.trans h1.gone.2⟩
      have HBL := Lib.hid h1.blk
      clear h1 ht1 HI
      go_wp2_with fail
      refine (fail_c g _ _ w1 HBL.out).mono ?_
      rintro e w' ⟨rfl, rfl⟩
      go_wp2_with fail
      go_ret
      rw [HQ.out]
      exact ⟨T1, rfl, HR.out.1, HR.out.2⟩
    · have d1 : decide (n < 0) = false := by simp; omega
      have d2 : decide (n > most) = true := by simp; omega
      have d3 : most < n := by omega
      clear hcase hni
      go_enter Tryd.func27, Tryd.ntmps27
      go_wp2_with fail
      refine (HI.out).mono ?_
      rintro e w1 ⟨T1, rfl, ⟨v1, h1⟩, ht1⟩
      have HR : Hid (InAt T1 ((w1.setCell ⟨g, 0, none⟩ (.slice none 0 0)).setCell ⟨g, 1, none⟩ (.bool true)) g B none ∧ To T w T1 ((w1.setCell ⟨g, 0, none⟩ (.slice none 0 0)).setCell ⟨g, 1, none⟩ (.bool true))) := ⟨h1.gone.1, ht1.trans h1.gone.2⟩
      have HBL := Lib.hid h1.blk
      clear h1 ht1 HI
      go_wp2_with fail
      refine (fail_c g _ _ w1 HBL.out).mono ?_
      rintro e w' ⟨rfl, rfl⟩
      go_wp2_with fail
      go_ret
      rw [HQ.out]
      exact ⟨T1, rfl, HR.out.1, HR.out.2⟩
  · have HQ : Hid (countQ n most a2 = (n, a2)) := by
      cases a2 with
      | none => obtain rfl := hni rfl; rfl
      | some q => show (if n < 0 ∨ n > most then _ else _) = _; rw [if_neg hcase]
    have d1 : decide (n < 0) = false := by simp; omega
    have d2 : decide (n > most) = false := by simp; omega
    have d3 : ¬ most < n := by omega
    clear hcase hni
    go_enter Tryd.func27, Tryd.ntmps27
    go_wp2_with fail
    refine (HI.out).mono ?_
    rintro e w1 ⟨T1, rfl, h1, ht1⟩
    have HR : Hid (InAt T1 w1 g B a2 ∧ To T w T1 w1) := ⟨h1, ht1⟩
    clear h1 ht1 HI
    go_wp2_with fail
    go_ret
    rw [HQ.out]
    exact ⟨T1, rfl, HR.out.1, HR.out.2⟩
set_option maxHeartbeats 4000000 in
set_option maxRecDepth 100000 in
theorem bad_c (T : Nat → Prop) (w : World) (g : Nat) (B : List Int) (a : Option Nat) (h : InAt T w g B a) : Calls Tryd.prog 25 #[ptrG g] w fun e w' => e = .returned (.bool a.isNone) ∧ Below w.heap.size w w' := by
  obtain ⟨v, h⟩ := h
  have c1 : w.cell? ⟨g, 1, none⟩ = some (.bool a.isNone) := h.blk.cell 1
  have hlt := h.blk.lt
  clear h
  go_enter Tryd.func25, Tryd.ntmps25
  go_wp2_with fail
  go_ret
  exact ⟨rfl, Below.refl _ _⟩
set_option maxHeartbeats 4000000 in
set_option maxRecDepth 100000 in
theorem done_c (T : Nat → Prop) (w : World) (g : Nat) (B : List Int) (a : Option Nat) (h : InAt T w g B a) (hw : WithinD B a) : Calls Tryd.prog 24 #[ptrG g] w fun e w' => e = .returned (.bool (decide (a = some B.length))) ∧ Below w.heap.size w w' := by
  obtain ⟨v, h⟩ := h
  obtain ⟨ao, c, rfl, hc⟩ := h.row'
  cases a with
  | none =>
    have HD : Hid (decide (none = some B.length) = false) := by unfold Hid; simp
    have c1 : w.cell? ⟨g, 1, none⟩ = some (.bool true) := h.blk.cell 1
    have hlt := h.blk.lt
    clear h hc hw
    go_enter Tryd.func24, Tryd.ntmps24
    go_wp2_with fail
    go_ret
    rw [HD.out]
    exact ⟨rfl, Below.refl _ _⟩
  | some q =>
    have hq := hw q rfl
    have hl : (leftD B (some q)).length = B.length - q := List.length_drop
    rw [hl] at h
    obtain ⟨ln, hln⟩ : ∃ ln, B.length - q = ln := ⟨_, rfl⟩
    rw [hln] at h
    have HD : Hid (decide (some q = some B.length) = decide (ln = 0)) := by
      unfold Hid
      simp only [Option.some.injEq]
      congr 1
      apply propext
      omega
    have c1 : w.cell? ⟨g, 1, none⟩ = some (.bool false) := h.blk.cell 1
    have c0 : w.cell? ⟨g, 0, none⟩ = some (.slice ao ln c) := h.blk.cell 0
    have hlt := h.blk.lt
    rw [HD.out]
    clear h hc hw hq hl hln
    by_cases h0 : ln = 0
    · subst h0
      go_enter Tryd.func24, Tryd.ntmps24
      go_wp2_with fail
      go_ret
      exact ⟨rfl, Below.refl _ _⟩
    · have d1 : ((ln : Int) == 0) = false := by simp; omega
      have HZ : Hid (decide (ln = 0) = false) := by unfold Hid; simp; omega
      clear h0
      go_enter Tryd.func24, Tryd.ntmps24
      go_wp2_with fail
      go_ret
      rw [HZ.out]
      exact ⟨rfl, Below.refl _ _⟩
theorem inOk : InOk Rd InAt where
  keep := fun ⟨v, h⟩ hk => ⟨v, h.keep hk⟩
  lt := fun ⟨_, h⟩ hk => h.lt _ hk
  new := fun s B w _ row _ hB hl => newIn_c s B w row hB hl
  int := fun T w g B a _ h hw => int_c T w g B a h hw
  text := fun T w g B a _ h hw => text_c T w g B a h hw
  count := fun T w g B a most _ h hw _ => count_c T w g B a most h hw
  bad := fun T w g B a _ h _ => bad_c T w g B a h
  done := fun T w g B a _ h hw => done_c T w g B a h hw
end Go.Proofs.YteobffggfcmghaaDoor
