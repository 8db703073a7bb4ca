/- Layer 15: package pathtext: the iterator over a text's words. -/
import Derived.Test.YtbnbglngpgikfaaGreatDoorQc
namespace Go.Proofs.YtbnbglngpgikfaaGreatDoor
open Go.RowKit Go.Shelf
attribute [local go_sem] Oper.semAt_some
def ItI (KS : Nat → Prop) (J : Nat → World → Prop) (L : Nat) (l : Wd) (ws : List Wd) (W : World) (b : Nat) (A : World) : Prop :=
  ∃ p a, ItS KS J L W p a A ∧ a ≤ b ∧ p ≤ ws.length ∧ ws.drop p = wordsW (cutW l a b) (l.drop b)
set_option maxHeartbeats 4000000 in
set_option maxRecDepth 100000 in
theorem words1_c (bx : Nat) (KS : Nat → Prop) (l : Wd) (W : World) (hbs : KS bx) (hKS : ∀ j, KS j → j < W.heap.size) (hbx : W.cell? ⟨bx, 0, none⟩ = some (.string ⟨l.toArray⟩)) (hl2 : l.length ≤ 9000000000000000000) :
    YieldsS 44 (.pointer (some ⟨bx, 0, none⟩)) KS (wordsL l) W := by
  intro L J Jx hJ hY h0
  obtain ⟨ws, hws⟩ : ∃ ws, wordsL l = ws := ⟨_, rfl⟩
  rw [hws] at hY ⊢
  obtain ⟨n, hn⟩ : ∃ n, l.length = n := ⟨_, rfl⟩
  have HN := Lib.hid hn
  have HW := Lib.hid hws
  have HJ := Lib.hid hJ
  have HY := Lib.hid hY
  have HKS := Lib.hid hKS
  have HBS := Lib.hid hbs
  have HBX := Lib.hid hbx
  have hn63 : (n : Int) ≤ 9000000000000000000 := by omega
  have S0 : Hid (ItS KS J L W 0 0 ((W.alloc (.cells #[.func (.yield L) #[] #[]] 37)).alloc (.cells #[.int .i64 0] 3))) :=
    ⟨hJ _ _ _ h0 ((Keep.alloc _ _ _).trans (Keep.alloc _ _ _)), (Keep.alloc _ _ _).trans (Keep.alloc _ _ _), by simp, (Blk.new _ _ _).alloc _, Blk.newAt _ _ _ (by simp)⟩
  have hbl := hKS _ hbs
  clear h0 hJ hY hKS hbs hl2 hn hws
  refine callsIn_wide.2 ?_
  have hlen : (⟨l.toArray⟩ : ByteArray).size = n := by rw [← HN.out]; simp [ByteArray.size]
  go_enter Tryz.func44, Tryz.ntmps44
  go_wp2_with fail
  go_loopw [9] (fun i wr => ∃ b : Nat, b ≤ n ∧ i = .int .i64 (b : Int) ∧ Hid (ItI KS J L l ws W b wr)) (fun i _ => n - (intOf i).toNat)
  case atStart =>
    exact ⟨0, by omega, rfl, 0, 0, S0.out, Nat.le_refl _, Nat.zero_le _, by rw [cut_same]; exact HW.out.symm⟩
  case round =>
    obtain ⟨b, hb, rfl, hw⟩ := hrel
    clear S0
    by_cases hlt : b < n
    · have hd : decide ((b : Int) < (n : Int)) = true := by simp; omega
      obtain ⟨c, hc⟩ : ∃ c, l[b]? = some c := ⟨_, List.getElem?_eq_getElem (by rw [HN.out]; exact hlt)⟩
      have hix := index_str l hc
      obtain ⟨p, a, hS, hab, hp, hdr⟩ := hw.out
      have hsx := hS.s HBS.out hbl HBX.out
      have HS := Lib.hid hS
      have HG := Lib.hid (isGap_c c)
      have HLT := Lib.hid hlt
      rw [drop_cons hc] at hdr
      have HC := Lib.hid hc
      clear hS hc
      cases hg : gapB c with
      | true =>
        rw [hg] at HG
        rw [words_gap hg] at hdr
        have HL := Lib.hid (isLetter_c c)
        rw [gap_not_let hg] at HL
        have HD := Lib.hid hdr
        clear hdr hg hw
        by_cases hab' : a = b
        · subst hab'
          have HE := Lib.hid (ItS.no (nx := a + 1) HS.out HJ.out HKS.out HBS.out HBX.out (by have := HLT.out; have := HN.out; omega))
          simp only [endArgs, Int.natCast_add, Int.natCast_one] at HE
          go_wp2_with fail
          refine (HG.out _).mono ?_
          rintro e w1 ⟨rfl, rfl⟩
          go_wp2_with fail
          refine HE.out.mono ?_
          rintro e w2 ⟨rfl, hS2⟩
          have HS2 := Lib.hid hS2
          have hsx2 := hS2.s HBS.out hbl HBX.out
          clear hS2
          go_wp2_with fail
          refine (HL.out _).mono ?_
          rintro e w3 ⟨rfl, rfl⟩
          go_wp2_with fail
          exact ⟨⟨a + 1, by have := HLT.out; omega, by go_num, p, a + 1, HS2.out, Nat.le_refl _, hp, by rw [HD.out, cut_same, cut_same]; rfl⟩, by have := HLT.out; simp [intOf]; omega⟩
        · have hab2 : a < b := by omega
          have hne := cut_ne (l := l) hab2 (by have := HLT.out; have := HN.out; omega)
          have HF : Hid (ws.drop p = cutW l a b :: wordsW [] (l.drop (b + 1))) := by unfold Hid; rw [HD.out, flush_ne hne]; rfl
          have hpl := (drop_one HF.out)
          have HPL := Lib.hid (show p < ws.length from (List.getElem?_eq_some_iff.1 hpl.1).1)
          have HP2 := Lib.hid hpl.2
          have HE := Lib.hid (ItS.yes (nx := b + 1) (b := b) HS.out HJ.out HKS.out HBS.out HBX.out HY.out hab2 (by have := HLT.out; have := HN.out; omega) _ HF.out)
          simp only [endArgs, Int.natCast_add, Int.natCast_one] at HE
          clear hne hpl hab'
          go_wp2_with fail
          refine (HG.out _).mono ?_
          rintro e w1 ⟨rfl, rfl⟩
          go_wp2_with fail
          refine (callsIn_wide.1 HE.out).mono ?_
          rintro e w2 ⟨t, rfl, (⟨rfl, hS2⟩ | ⟨rfl, hx⟩)⟩
          · have HS2 := Lib.hid hS2
            have hsx2 := hS2.s HBS.out hbl HBX.out
            clear hS2
            go_wp2_with fail
            refine (HL.out _).mono ?_
            rintro e w3 ⟨rfl, rfl⟩
            go_wp2_with fail
            exact ⟨⟨b + 1, by have := HLT.out; omega, by go_num, p + 1, b + 1, HS2.out, Nat.le_refl _, HPL.out, by rw [HP2.out, cut_same]⟩, by have := HLT.out; simp [intOf]; omega⟩
          · have HX := Lib.hid hx
            clear hx
            go_wp2_with fail
            refine bodyPost_ret (results_none rfl _ _ _) rfl ?_
            exact ⟨⟨_, rfl⟩, .inr HX.out⟩
      | false =>
        rw [hg] at HG
        have HL := Lib.hid (isLetter_c c)
        cases hl : letB c with
        | true =>
          rw [hl] at HL
          rw [words_let hl] at hdr
          have HD := Lib.hid hdr
          clear hdr hg hl hw
          have HC1 : Hid (cutW l b (b + 1) = [c]) := by unfold Hid; rw [cut_succ (Nat.le_refl _) HC.out, cut_same]; rfl
          by_cases hab' : a = b
          · subst hab'
            have HE := Lib.hid (ItS.no (nx := a) HS.out HJ.out HKS.out HBS.out HBX.out (by have := HLT.out; have := HN.out; omega))
            simp only [endArgs] at HE
            have HF : Hid (ws.drop p = cutW l a (a + 1) :: wordsW [] (l.drop (a + 1))) := by unfold Hid; rw [HD.out, HC1.out, cut_same]; rfl
            have hpl := (drop_one HF.out)
            have HPL := Lib.hid (show p < ws.length from (List.getElem?_eq_some_iff.1 hpl.1).1)
            have HP2 := Lib.hid hpl.2
            clear hpl
            go_wp2_with fail
            refine (HG.out _).mono ?_
            rintro e w1 ⟨rfl, rfl⟩
            go_wp2_with fail
            refine (HL.out _).mono ?_
            rintro e w3 ⟨rfl, rfl⟩
            go_wp2_with fail
            refine HE.out.mono ?_
            rintro e w2 ⟨rfl, hS2⟩
            have HS2 := Lib.hid hS2
            clear hS2
            have HE2 := Lib.hid (ItS.yes (nx := a + 1) (b := a + 1) HS2.out HJ.out HKS.out HBS.out HBX.out HY.out (Nat.lt_succ_self _) (by have := HLT.out; have := HN.out; omega) _ HF.out)
            simp only [endArgs, Int.natCast_add, Int.natCast_one] at HE2
            go_wp2_with fail
            refine (callsIn_wide.1 HE2.out).mono ?_
            rintro e w4 ⟨t, rfl, (⟨rfl, hS3⟩ | ⟨rfl, hx⟩)⟩
            · have HS3 := Lib.hid hS3
              clear hS3
              go_wp2_with fail
              exact ⟨⟨a + 1, by have := HLT.out; omega, by go_num, p + 1, a + 1, HS3.out, Nat.le_refl _, HPL.out, by rw [HP2.out, cut_same]⟩, by have := HLT.out; simp [intOf]; omega⟩
            · have HX := Lib.hid hx
              clear hx
              go_wp2_with fail
              refine bodyPost_ret (results_none rfl _ _ _) rfl ?_
              exact ⟨⟨_, rfl⟩, .inr HX.out⟩
          · have hab2 : a < b := by omega
            have hne := cut_ne (l := l) hab2 (by have := HLT.out; have := HN.out; omega)
            have HF : Hid (ws.drop p = cutW l a b :: ([c] :: wordsW [] (l.drop (b + 1)))) := by unfold Hid; rw [HD.out, flush_ne hne]; rfl
            have hpl := (drop_one HF.out)
            have HPL := Lib.hid (show p < ws.length from (List.getElem?_eq_some_iff.1 hpl.1).1)
            have HF2 : Hid (ws.drop (p + 1) = cutW l b (b + 1) :: wordsW [] (l.drop (b + 1))) := by unfold Hid; rw [hpl.2, HC1.out]
            have hpl2 := (drop_one HF2.out)
            have HPL2 := Lib.hid (show p + 1 < ws.length from (List.getElem?_eq_some_iff.1 hpl2.1).1)
            have HP2 := Lib.hid hpl2.2
            have HE := Lib.hid (ItS.yes (nx := b) (b := b) HS.out HJ.out HKS.out HBS.out HBX.out HY.out hab2 (by have := HLT.out; have := HN.out; omega) _ HF.out)
            simp only [endArgs] at HE
            clear hne hpl hpl2 hab'
            go_wp2_with fail
            refine (HG.out _).mono ?_
            rintro e w1 ⟨rfl, rfl⟩
            go_wp2_with fail
            refine (HL.out _).mono ?_
            rintro e w3 ⟨rfl, rfl⟩
            go_wp2_with fail
            refine (callsIn_wide.1 HE.out).mono ?_
            rintro e w2 ⟨t, rfl, (⟨rfl, hS2⟩ | ⟨rfl, hx⟩)⟩
            · have HS2 := Lib.hid hS2
              clear hS2
              have HE2 := Lib.hid (ItS.yes (nx := b + 1) (b := b + 1) HS2.out HJ.out HKS.out HBS.out HBX.out HY.out (Nat.lt_succ_self _) (by have := HLT.out; have := HN.out; omega) _ HF2.out)
              simp only [endArgs, Int.natCast_add, Int.natCast_one] at HE2
              go_wp2_with fail
              refine (callsIn_wide.1 HE2.out).mono ?_
              rintro e w4 ⟨t, rfl, (⟨rfl, hS3⟩ | ⟨rfl, hx⟩)⟩
              · have HS3 := Lib.hid hS3
                clear hS3
                go_wp2_with fail
                exact ⟨⟨b + 1, by have := HLT.out; omega, by go_num, p + 1 + 1, b + 1, HS3.out, Nat.le_refl _, HPL2.out, by rw [HP2.out, cut_same]⟩, by have := HLT.out; simp [intOf]; omega⟩
              · have HX := Lib.hid hx
                clear hx
                go_wp2_with fail
                refine bodyPost_ret (results_none rfl _ _ _) rfl ?_
                exact ⟨⟨_, rfl⟩, .inr HX.out⟩
            · have HX := Lib.hid hx
              clear hx
              go_wp2_with fail
              refine bodyPost_ret (results_none rfl _ _ _) rfl ?_
              exact ⟨⟨_, rfl⟩, .inr HX.out⟩
        | false =>
          rw [hl] at HL
          rw [words_one (plain_iff.2 ⟨hg, hl⟩), ← cut_succ hab HC.out] at hdr
          have HD := Lib.hid hdr
          clear hdr hg hl hw
          go_wp2_with fail
          refine (HG.out _).mono ?_
          rintro e w1 ⟨rfl, rfl⟩
          go_wp2_with fail
          refine (HL.out _).mono ?_
          rintro e w3 ⟨rfl, rfl⟩
          go_wp2_with fail
          exact ⟨⟨b + 1, by have := HLT.out; omega, by go_num, p, a, HS.out, by omega, hp, HD.out⟩, by have := HLT.out; simp [intOf]; omega⟩
    · have hd : decide ((b : Int) < (n : Int)) = false := by simp; omega
      obtain rfl : b = n := by omega
      obtain ⟨p, a, hS, hab, hp, hdr⟩ := hw.out
      have hsx := hS.s HBS.out hbl HBX.out
      have HS := Lib.hid hS
      rw [List.drop_of_length_le (show l.length ≤ b by have := HN.out; omega), wordsW] at hdr
      have HD := Lib.hid hdr
      clear hS hdr hw
      by_cases hab' : a = b
      · subst hab'
        have HE := Lib.hid (ItS.no (nx := a) HS.out HJ.out HKS.out HBS.out HBX.out (by have := HN.out; omega))
        simp only [endArgs] at HE
        have HPE : Hid (p = ws.length) := by
          have h := congrArg List.length HD.out
          rw [cut_same, flushW, List.length_drop] at h
          simp at h
          unfold Hid; omega
        go_wp2_with fail
        refine HE.out.mono ?_
        rintro e w2 ⟨rfl, hS2⟩
        have HJ2 := Lib.hid hS2.j
        clear hS2
        go_wp2_with fail
        go_end0
        exact ⟨⟨_, rfl⟩, .inl (by rw [← HPE.out]; exact HJ2.out)⟩
      · have hab2 : a < b := by omega
        have hne := cut_ne (l := l) hab2 (by have := HN.out; omega)
        have HF : Hid (ws.drop p = cutW l a b :: []) := by unfold Hid; rw [HD.out, flush_ne hne]
        have hpl := (drop_one HF.out)
        have HPE : Hid (p + 1 = ws.length) := by
          have h := congrArg List.length HF.out
          rw [List.length_drop] at h
          simp at h
          unfold Hid; omega
        have HE := Lib.hid (ItS.yes (nx := b) (b := b) HS.out HJ.out HKS.out HBS.out HBX.out HY.out hab2 (by have := HN.out; omega) _ HF.out)
        simp only [endArgs] at HE
        clear hne hpl hab'
        go_wp2_with fail
        refine (callsIn_wide.1 HE.out).mono ?_
        rintro e w2 ⟨t, rfl, (⟨rfl, hS2⟩ | ⟨rfl, hx⟩)⟩
        · have HJ2 := Lib.hid hS2.j
          clear hS2
          go_wp2_with fail
          go_end0
          exact ⟨⟨_, rfl⟩, .inl (by rw [← HPE.out]; exact HJ2.out)⟩
        · have HX := Lib.hid hx
          clear hx
          go_wp2_with fail
          go_end0
          exact ⟨⟨_, rfl⟩, .inr HX.out⟩
end Go.Proofs.YtbnbglngpgikfaaGreatDoor
