/- Layer 15: package pathtext: a number. -/
import Derived.Test.YtbnbglngpgikfaaGreatDoorQm
namespace Go.Proofs.YtbnbglngpgikfaaGreatDoor
open Go.RowKit Go.Shelf
attribute [local go_sem] Oper.semAt_some
theorem numR_form (N g : Nat) (v : Value) (w : World) (sp : Rs) (l : Wd) (e : Ending) (w' : World) {r : Except Int Rs} (hr : numR sp l = r) (h : PutQ N g v w r e w') : PutQ N g v w (numR sp l) e w' := by rw [hr]; exact h
/-- The state that a number of a segment is read in. -/
structure OkN (sp : Rs) : Prop where
  due : sp.due ≤ 2 * needI sp.s.k
  e : roomP sp.e = true
  len : sp.l.length ≤ 4096
  kind : 0 < sp.due → isKindB sp.s.k = true
theorem OkR.num {st : Rs} (h : OkR st) : OkN (primeR st) := by
  rcases h.prime with ⟨e1, e2, e3⟩ | ⟨hp, _⟩
  · rw [e1]
    exact ⟨by simp [startR, zeroS, e2], h.e, h.len, fun hd => by simp [startR, e2] at hd⟩
  · exact ⟨hp.due, hp.e, hp.len, fun hd => (hp.kind hd).1⟩
theorem twoE_ok (a b : Int) : twoE a b = .returned (.tuple #[.int .i64 a, .int .i64 b]) := rfl
set_option maxHeartbeats 4000000 in
set_option maxRecDepth 100000 in
theorem number_start (N g : Nat) (st : Rs) (v : Value) (l : Wd) (w : World) (hr : Ev N w) (h : RdAt N g st v w) (hl : l.length ≤ 4294967280) (ho : OkN (primeR st)) (hd : st.due = 0) :
    Calls Tryz.prog 49 #[ptrR g, .string ⟨l.toArray⟩] w (PutQ N g v w (numR (primeR st) l)) := by
  obtain ⟨sp, hsp⟩ : ∃ sp, primeR st = sp := ⟨_, rfl⟩
  rw [hsp] at ho ⊢
  have H := Lib.hid h
  have HR := Lib.hid hr
  have HL := Lib.hid hl
  have HO := Lib.hid ho
  have hsp2 : sp = startR st st.s.k := by rw [← hsp]; unfold primeR; rw [if_pos hd]
  have HSP := Lib.hid hsp2
  have ck := h.ck
  have cd := h.cd
  rw [hd] at cd
  clear hsp hd hsp2
  clear h hr hl ho
  go_enter Tryz.func49, Tryz.ntmps49
  go_wp2_with fail
  refine (start_c N g st v st.s.k w HR.out H.out).mono ?_
  rintro e w1 ⟨⟨u, rfl⟩, hst, hks⟩
  rw [← HSP.out] at hst
  have H1 : Hid (RdAt N g sp v w1 ∧ Keep (fun j => j ≠ g ∧ v.ownBlock ≠ some j) w w1) := ⟨hst, hks.mono fun j hj => hj.1⟩
  clear hst hks ck cd
  have HP := Lib.hid (Parse_c l HL.out w1 (HR.out.on (keep_own H.out H1.out.2)).at.2)
  go_wp2_with fail
  refine HP.out.mono ?_
  rintro e w2 ⟨rfl, hb2⟩
  have H2 : Hid (RdAt N g sp v w2 ∧ Keep (fun j => j ≠ g ∧ v.ownBlock ≠ some j) w w2) := ⟨H1.out.1.grow hb2, H1.out.2.trans (Keep.of_below hb2)⟩
  rw [twoE_ok]
  clear hb2 HP
  cases hn : numW l with
  | none =>
    have HN := Lib.hid hn
    clear hn
    simp only [Option.getD_none, Option.isSome_none, Bool.false_eq_true, if_false]
    go_wp2_with fail
    go_ret
    refine numR_form _ _ _ _ _ _ _ _ (r := .error 20) ?_ ⟨rfl, H2.out.2⟩
    unfold numR
    rw [HN.out]
  | some n =>
    have HN := Lib.hid hn
    have HI := Lib.hid (num_some hn).1
    clear hn
    simp only [Option.getD_some, Option.isSome_some, if_true]
    obtain ⟨sd, hsd⟩ : ∃ d, sp.due = d := ⟨_, rfl⟩
    have HSD := Lib.hid hsd
    have cd2 : w2.cell? ⟨g, 8, none⟩ = some (.int .i64 (sd : Int)) := by rw [← hsd]; exact H2.out.1.cd
    clear hsd
    by_cases hz : sd = 0
    · subst hz
      go_wp2_with fail
      go_ret
      refine numR_form _ _ _ _ _ _ _ _ (r := .error 20) ?_ ⟨rfl, H2.out.2⟩
      unfold numR
      rw [HN.out]
      exact if_pos HSD.out
    · have hz1 : ((sd : Int) == 0) = false := by simp; omega
      have HZ := Lib.hid hz
      clear hz
      go_wp2_with fail
      refine (put_c N g sp v n w2 (HR.out.on (keep_own H.out H2.out.2)) H2.out.1 (by have := HSD.out; have := HZ.out; omega) HO.out.due (by rw [← in_room]; exact HI.out) HO.out.e).mono ?_
      intro e w3 hq
      unfold PutQ at hq
      have HNR : Hid (numR sp l = match putR sp n with | .error e => .error e | .ok st => doneR st) := by
          unfold Hid numR
          rw [HN.out]
          exact if_neg (by rw [HSD.out]; exact HZ.out)
      clear cd2
      by_cases hroom : room (fromR sp + n) = true
      · have HPU : Hid (putR sp n = .ok { sp with s := setAt sp.s (atR sp) (fromR sp + n), due := sp.due - 1 }) := by unfold Hid putR; rw [if_pos hroom]
        rw [HPU.out] at hq HNR
        dsimp only at hq HNR
        obtain ⟨rfl, v3, hq1, hq2, hq3⟩ := hq
        obtain ⟨s3, hs3⟩ : ∃ x : Rs, { sp with s := setAt sp.s (atR sp) (fromR sp + n), due := sp.due - 1 } = x := ⟨_, rfl⟩
        have HS3 : Hid (s3.l = sp.l ∧ s3.due = sp.due - 1 ∧ s3.s.k = sp.s.k) := by rw [← hs3]; exact ⟨rfl, rfl, setAt_k _ _ _⟩
        rw [hs3] at hq1 HNR
        have H3 : Hid (RdAt N g s3 v3 w3 ∧ Keep (fun j => j ≠ g ∧ v.ownBlock ≠ some j) w w3 ∧ Moved w v v3) := by
            obtain ⟨x, y, z⟩ := StepQ.pre (st := s3) H2.out.2 ⟨v3, hq1, hq2, hq3⟩
            refine ⟨hq1, H2.out.2.trans hq2, ?_⟩
            rcases hq3 with e | ⟨k, e, hk⟩
            · exact .inl e
            · exact .inr ⟨k, e, Nat.le_trans H2.out.2.size hk⟩
        obtain ⟨d3, hd3⟩ : ∃ d, s3.due = d := ⟨_, rfl⟩
        have HD3 := Lib.hid hd3
        have cd3 : w3.cell? ⟨g, 8, none⟩ = some (.int .i64 (d3 : Int)) := by rw [← hd3]; exact H3.out.1.cd
        clear hd3 hs3 hq1 hq2 hq3 hroom HPU
        by_cases hz3 : 0 < d3
        · go_wp2_with fail
          go_ret
          refine numR_form _ _ _ _ _ _ _ _ (r := .ok s3) ?_ ⟨rfl, v3, H3.out.1, H3.out.2.1, H3.out.2.2⟩
          rw [HNR.out]
          unfold doneR
          rw [if_pos (by rw [HD3.out]; assumption)]
        · obtain rfl : d3 = 0 := by omega
          clear hz3
          have HFU := Lib.hid (full_c N g s3 v3 w3 H3.out.1)
          go_wp2_with fail
          refine HFU.out.mono ?_
          rintro e w4 ⟨rfl, rfl⟩
          have HDN : Hid (∀ r, (if s3.l.length = 4096 then .error 36 else .ok (finR s3)) = r → numR sp l = r) := fun r hr => by rw [HNR.out]; unfold doneR; rw [if_neg (by rw [HD3.out]; decide)]; exact hr
          clear HNR
          by_cases hf : s3.l.length = 4096
          · rw [decide_eq_true hf]
            have HF := Lib.hid hf
            clear hf
            go_wp2_with fail
            go_ret
            exact numR_form _ _ _ _ _ _ _ _ (r := .error 36) (HDN.out _ (if_pos HF.out)) ⟨rfl, H3.out.2.1⟩
          · rw [decide_eq_false hf]
            have HF := Lib.hid hf
            clear hf
            go_wp2_with fail
            refine (finish_c N g s3 v3 w3 (HR.out.on (keep_own H.out H3.out.2.1)) H3.out.1 (by have := HO.out.len; rw [HS3.out.1]; omega) (by rw [HS3.out.2.2]; exact HO.out.kind (by have := HSD.out; have := HZ.out; omega))).mono ?_
            rintro e w4 ⟨⟨u, rfl⟩, hq⟩
            have HQ := Lib.hid hq
            clear hq cd3
            go_wp2_with fail
            go_ret
            exact numR_form _ _ _ _ _ _ _ _ (r := .ok (finR s3)) (HDN.out _ (if_neg HF.out)) ⟨rfl, StepQ.next H3.out.2.1 H3.out.2.2 HQ.out⟩
      · have HPU : Hid (putR sp n = .error 10) := by unfold Hid putR; rw [if_neg hroom]
        rw [HPU.out] at hq HNR
        dsimp only at hq HNR
        obtain ⟨rfl, hq⟩ := hq
        have HQ := Lib.hid hq
        clear hq hroom HPU
        go_wp2_with fail
        go_ret
        exact numR_form _ _ _ _ _ _ _ _ (r := .error 10) HNR.out ⟨rfl, H2.out.2.trans HQ.out⟩
set_option maxHeartbeats 4000000 in
set_option maxRecDepth 100000 in
theorem number_on (N g : Nat) (st : Rs) (v : Value) (l : Wd) (w : World) (hr : Ev N w) (h : RdAt N g st v w) (hl : l.length ≤ 4294967280) (ho : OkN (primeR st)) (hd : 0 < st.due) :
    Calls Tryz.prog 49 #[ptrR g, .string ⟨l.toArray⟩] w (PutQ N g v w (numR (primeR st) l)) := by
  obtain ⟨sp, hsp⟩ : ∃ sp, primeR st = sp := ⟨_, rfl⟩
  rw [hsp] at ho ⊢
  have H := Lib.hid h
  have HR := Lib.hid hr
  have HL := Lib.hid hl
  have HO := Lib.hid ho
  have hsp2 : st = sp := by rw [← hsp]; unfold primeR; rw [if_neg (by omega)]
  obtain ⟨d, hdd⟩ : ∃ d, st.due = d := ⟨_, rfl⟩
  have cd := h.cd
  rw [hdd] at cd hd
  have H1 : Hid (RdAt N g sp v w ∧ Keep (fun j => j ≠ g ∧ v.ownBlock ≠ some j) w w) := ⟨by rw [← hsp2]; exact h, Keep.refl _ _⟩
  have hdz : ((d : Int) == 0) = false := by simp; omega
  clear hsp hsp2 hdd
  clear h hr hl ho
  go_enter Tryz.func49, Tryz.ntmps49
  have HP := Lib.hid (Parse_c l HL.out w (HR.out.on (keep_own H.out H1.out.2)).at.2)
  go_wp2_with fail
  refine HP.out.mono ?_
  rintro e w2 ⟨rfl, hb2⟩
  have H2 : Hid (RdAt N g sp v w2 ∧ Keep (fun j => j ≠ g ∧ v.ownBlock ≠ some j) w w2) := ⟨H1.out.1.grow hb2, H1.out.2.trans (Keep.of_below hb2)⟩
  rw [twoE_ok]
  clear hb2 HP
  cases hn : numW l with
  | none =>
    have HN := Lib.hid hn
    clear hn
    simp only [Option.getD_none, Option.isSome_none, Bool.false_eq_true, if_false]
    go_wp2_with fail
    go_ret
    refine numR_form _ _ _ _ _ _ _ _ (r := .error 20) ?_ ⟨rfl, H2.out.2⟩
    unfold numR
    rw [HN.out]
  | some n =>
    have HN := Lib.hid hn
    have HI := Lib.hid (num_some hn).1
    clear hn
    simp only [Option.getD_some, Option.isSome_some, if_true]
    obtain ⟨sd, hsd⟩ : ∃ d, sp.due = d := ⟨_, rfl⟩
    have HSD := Lib.hid hsd
    have cd2 : w2.cell? ⟨g, 8, none⟩ = some (.int .i64 (sd : Int)) := by rw [← hsd]; exact H2.out.1.cd
    clear hsd
    by_cases hz : sd = 0
    · subst hz
      go_wp2_with fail
      go_ret
      refine numR_form _ _ _ _ _ _ _ _ (r := .error 20) ?_ ⟨rfl, H2.out.2⟩
      unfold numR
      rw [HN.out]
      exact if_pos HSD.out
    · have hz1 : ((sd : Int) == 0) = false := by simp; omega
      have HZ := Lib.hid hz
      clear hz
      go_wp2_with fail
      refine (put_c N g sp v n w2 (HR.out.on (keep_own H.out H2.out.2)) H2.out.1 (by have := HSD.out; have := HZ.out; omega) HO.out.due (by rw [← in_room]; exact HI.out) HO.out.e).mono ?_
      intro e w3 hq
      unfold PutQ at hq
      have HNR : Hid (numR sp l = match putR sp n with | .error e => .error e | .ok st => doneR st) := by
          unfold Hid numR
          rw [HN.out]
          exact if_neg (by rw [HSD.out]; exact HZ.out)
      clear cd2
      by_cases hroom : room (fromR sp + n) = true
      · have HPU : Hid (putR sp n = .ok { sp with s := setAt sp.s (atR sp) (fromR sp + n), due := sp.due - 1 }) := by unfold Hid putR; rw [if_pos hroom]
        rw [HPU.out] at hq HNR
        dsimp only at hq HNR
        obtain ⟨rfl, v3, hq1, hq2, hq3⟩ := hq
        obtain ⟨s3, hs3⟩ : ∃ x : Rs, { sp with s := setAt sp.s (atR sp) (fromR sp + n), due := sp.due - 1 } = x := ⟨_, rfl⟩
        have HS3 : Hid (s3.l = sp.l ∧ s3.due = sp.due - 1 ∧ s3.s.k = sp.s.k) := by rw [← hs3]; exact ⟨rfl, rfl, setAt_k _ _ _⟩
        rw [hs3] at hq1 HNR
        have H3 : Hid (RdAt N g s3 v3 w3 ∧ Keep (fun j => j ≠ g ∧ v.ownBlock ≠ some j) w w3 ∧ Moved w v v3) := by
            obtain ⟨x, y, z⟩ := StepQ.pre (st := s3) H2.out.2 ⟨v3, hq1, hq2, hq3⟩
            refine ⟨hq1, H2.out.2.trans hq2, ?_⟩
            rcases hq3 with e | ⟨k, e, hk⟩
            · exact .inl e
            · exact .inr ⟨k, e, Nat.le_trans H2.out.2.size hk⟩
        obtain ⟨d3, hd3⟩ : ∃ d, s3.due = d := ⟨_, rfl⟩
        have HD3 := Lib.hid hd3
        have cd3 : w3.cell? ⟨g, 8, none⟩ = some (.int .i64 (d3 : Int)) := by rw [← hd3]; exact H3.out.1.cd
        clear hd3 hs3 hq1 hq2 hq3 hroom HPU
        by_cases hz3 : 0 < d3
        · go_wp2_with fail
          go_ret
          refine numR_form _ _ _ _ _ _ _ _ (r := .ok s3) ?_ ⟨rfl, v3, H3.out.1, H3.out.2.1, H3.out.2.2⟩
          rw [HNR.out]
          unfold doneR
          rw [if_pos (by rw [HD3.out]; assumption)]
        · obtain rfl : d3 = 0 := by omega
          clear hz3
          have HFU := Lib.hid (full_c N g s3 v3 w3 H3.out.1)
          go_wp2_with fail
          refine HFU.out.mono ?_
          rintro e w4 ⟨rfl, rfl⟩
          have HDN : Hid (∀ r, (if s3.l.length = 4096 then .error 36 else .ok (finR s3)) = r → numR sp l = r) := fun r hr => by rw [HNR.out]; unfold doneR; rw [if_neg (by rw [HD3.out]; decide)]; exact hr
          clear HNR
          by_cases hf : s3.l.length = 4096
          · rw [decide_eq_true hf]
            have HF := Lib.hid hf
            clear hf
            go_wp2_with fail
            go_ret
            exact numR_form _ _ _ _ _ _ _ _ (r := .error 36) (HDN.out _ (if_pos HF.out)) ⟨rfl, H3.out.2.1⟩
          · rw [decide_eq_false hf]
            have HF := Lib.hid hf
            clear hf
            go_wp2_with fail
            refine (finish_c N g s3 v3 w3 (HR.out.on (keep_own H.out H3.out.2.1)) H3.out.1 (by have := HO.out.len; rw [HS3.out.1]; omega) (by rw [HS3.out.2.2]; exact HO.out.kind (by have := HSD.out; have := HZ.out; omega))).mono ?_
            rintro e w4 ⟨⟨u, rfl⟩, hq⟩
            have HQ := Lib.hid hq
            clear hq cd3
            go_wp2_with fail
            go_ret
            exact numR_form _ _ _ _ _ _ _ _ (r := .ok (finR s3)) (HDN.out _ (if_neg HF.out)) ⟨rfl, StepQ.next H3.out.2.1 H3.out.2.2 HQ.out⟩
      · have HPU : Hid (putR sp n = .error 10) := by unfold Hid putR; rw [if_neg hroom]
        rw [HPU.out] at hq HNR
        dsimp only at hq HNR
        obtain ⟨rfl, hq⟩ := hq
        have HQ := Lib.hid hq
        clear hq hroom HPU
        go_wp2_with fail
        go_ret
        exact numR_form _ _ _ _ _ _ _ _ (r := .error 10) HNR.out ⟨rfl, H2.out.2.trans HQ.out⟩
theorem putQ_form {N g : Nat} {v : Value} {w w' : World} {e : Ending} {r r' : Except Int Rs} (h : r = r') (h2 : PutQ N g v w r' e w') : PutQ N g v w r e w' := by rw [h]; exact h2
theorem number_c (N g : Nat) (st : Rs) (v : Value) (l : Wd) (w : World) (hr : Ev N w) (h : RdAt N g st v w) (hl : l.length ≤ 4294967280) (ho : OkN (primeR st)) :
    Calls Tryz.prog 49 #[ptrR g, .string ⟨l.toArray⟩] w (PutQ N g v w (numR (primeR st) l)) := by
  by_cases hd : st.due = 0
  · exact number_start N g st v l w hr h hl ho hd
  · exact number_on N g st v l w hr h hl ho (by omega)
set_option maxHeartbeats 1000000 in
set_option maxRecDepth 100000 in
theorem word_c (N g : Nat) (st : Rs) (v : Value) (l : Wd) (w : World) (hr : Ev N w) (h : RdAt N g st v w) (hl : l.length ≤ 4294967280) (ho : OkR st) (hne : l ≠ []) :
    Calls Tryz.prog 27 #[ptrR g, .string ⟨l.toArray⟩] w (PutQ N g v w (stepR st l)) := by
  obtain ⟨c, r, hlc⟩ : ∃ c r, l = c :: r := by
    cases l with
    | nil => exact absurd rfl hne
    | cons c r => exact ⟨c, r, rfl⟩
  have h0 : l[0]? = some c := by rw [hlc]; rfl
  have hix : ∀ W, (Instr.index 9 (.string ⟨l.toArray⟩) (.int .i64 0)).run Tryz.prog W = .ok (.int .u8 (c.toNat : Int)) W := fun W => index_str l h0 W
  have HIL := Lib.hid (isLetter_c c)
  have HST : Hid (stepR st l = if letB c = true then letR st c else numR (primeR st) l) := by
    unfold Hid
    rw [hlc]
    rfl
  cases hc : letB c with
  | true =>
    have HLE := Lib.hid (letter_c N g st v c w hr h hc ho.len)
    rw [hc] at HIL
    rw [HST.out, if_pos hc]
    clear hr h hl ho hne hlc h0 hc HST
    go_enter Tryz.func27, Tryz.ntmps27
    go_wp2_with fail
    refine (HIL.out _).mono ?_
    rintro e w1 ⟨rfl, rfl⟩
    go_wp2_with fail
    refine HLE.out.mono ?_
    intro e w2 hq
    cases hr : letR st c with
    | ok st' =>
      rw [hr] at hq
      obtain ⟨rfl, hq⟩ := hq
      have HQ := Lib.hid hq
      have HRR := Lib.hid hr
      clear hq hr
      go_wp2_with fail
      go_ret
      exact putQ_form HRR.out ⟨rfl, HQ.out⟩
    | error x =>
      rw [hr] at hq
      obtain ⟨rfl, hq⟩ := hq
      have HQ := Lib.hid hq
      have HRR := Lib.hid hr
      clear hq hr
      go_wp2_with fail
      go_ret
      exact putQ_form HRR.out ⟨rfl, HQ.out⟩
  | false =>
    have HLE := Lib.hid (number_c N g st v l w hr h hl ho.num)
    rw [hc] at HIL
    rw [HST.out, if_neg (by rw [hc]; decide)]
    clear hr h hl ho hne hlc h0 hc HST
    go_enter Tryz.func27, Tryz.ntmps27
    go_wp2_with fail
    refine (HIL.out _).mono ?_
    rintro e w1 ⟨rfl, rfl⟩
    go_wp2_with fail
    refine HLE.out.mono ?_
    intro e w2 hq
    cases hr : numR (primeR st) l with
    | ok st' =>
      rw [hr] at hq
      obtain ⟨rfl, hq⟩ := hq
      have HQ := Lib.hid hq
      have HRR := Lib.hid hr
      clear hq hr
      go_wp2_with fail
      go_ret
      exact putQ_form HRR.out ⟨rfl, HQ.out⟩
    | error x =>
      rw [hr] at hq
      obtain ⟨rfl, hq⟩ := hq
      have HQ := Lib.hid hq
      have HRR := Lib.hid hr
      clear hq hr
      go_wp2_with fail
      go_ret
      exact putQ_form HRR.out ⟨rfl, HQ.out⟩
end Go.Proofs.YtbnbglngpgikfaaGreatDoor
