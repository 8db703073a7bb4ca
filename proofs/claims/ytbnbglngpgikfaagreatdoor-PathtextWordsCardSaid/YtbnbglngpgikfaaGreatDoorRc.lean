/- Layer 15: the document: the words of a text. -/
import Derived.Test.YtbnbglngpgikfaaGreatDoorRb
import Derived.Test.YtbnbglngpgikfaaGreatDoorQg
namespace Go.Proofs.YtbnbglngpgikfaaGreatDoor
open Go.RowKit Go.Shelf
attribute [local go_sem] Oper.semAt_some
theorem flush_nil : flushW [] = [] := rfl
set_option maxHeartbeats 4000000 in
set_option maxRecDepth 100000 in
theorem refWords_c (l : Wd) (w : World) (hl : l.length ≤ 400000) : Calls Tryz.prog 20 #[.string ⟨l.toArray⟩] w fun e w' => ∃ u, e = .returned u ∧ OwnW w' w.heap.size u (wordsL l) ∧ Below w.heap.size w w' := by
  obtain ⟨N, hN⟩ : ∃ N, w.heap.size = N := ⟨_, rfl⟩
  obtain ⟨n, hn⟩ : ∃ n, l.length = n := ⟨_, rfl⟩
  have HN := Lib.hid hN
  have HNL : Hid (l.length = n ∧ n ≤ 400000) := ⟨hn, by omega⟩
  have hn63 : (n : Int) ≤ 400000 := by omega
  have hlen : (⟨l.toArray⟩ : ByteArray).size = n := by rw [← hn]; simp [ByteArray.size]
  rw [hN]
  clear hl hN hn
  go_enter Tryz.func20, Tryz.ntmps20
  go_wp2_with fail
  go_loopw [3, 4, 5] (fun u t i wr => ∃ (k : Nat) (a : Wd) (E : List Wd), k ≤ n + 1 ∧ i = .int .i64 (k : Int) ∧ t = .string ⟨a.toArray⟩ ∧ a.length ≤ k ∧ E.length ≤ 2 * k ∧ Hid (OwnW wr N u E ∧ Below N w wr) ∧ Hid ((k ≤ n ∧ wordsL l = E ++ wordsW a (l.drop k)) ∨ (k = n + 1 ∧ wordsL l = E))) (fun _ _ i _ => n + 1 - (intOf i).toNat)
  case atStart => exact ⟨0, [], [], by omega, rfl, rfl, by simp, by simp, ⟨OwnW.nil _ _, by rw [← HN.out]; exact Below.refl _ _⟩, .inl ⟨by omega, rfl⟩⟩
  case round =>
    obtain ⟨k, a, E, hk, rfl, rfl, hak, hEk, hw, hd⟩ := hrel
    by_cases hlt : k < n
    · have hd1 : decide ((k : Int) ≤ (n : Int)) = true := by simp; omega
      have hd2 : ((k : Int) == (n : Int)) = false := by simp; omega
      have hd3 : decide ((k : Int) < (n : Int)) = true := by simp; omega
      obtain ⟨c, hc⟩ : ∃ c, l[k]? = some c := ⟨_, List.getElem?_eq_getElem (by rw [HNL.out.1]; exact hlt)⟩
      have hix := index_str l hc
      have HD : Hid (wordsL l = E ++ wordsW a (c :: l.drop (k + 1))) := by
        unfold Hid
        rcases hd.out with ⟨_, h⟩ | ⟨h, _⟩
        · rw [h, drop_cons hc]
        · omega
      have HIL := Lib.hid (refIsLetter_c c)
      have HSL : Hid (∀ W, (Instr.sliceAt 9 (.string ⟨l.toArray⟩) (some (.int .i64 (k : Int))) (some (.int .i64 ((k : Int) + 1))) none).run Tryz.prog W = .ok (.string ⟨[c].toArray⟩) W) := fun W => by
        have h := slice_str l k (k + 1) (by omega) (by rw [HNL.out.1]; omega) W
        rw [show (l.drop k).take (k + 1 - k) = [c] by rw [drop_cons hc, show k + 1 - k = 1 by omega]; rfl] at h
        rw [← h]
        congr 3
      obtain ⟨va, vc, rfl⟩ := hw.out.1.shape
      obtain ⟨vn, hvn⟩ : ∃ m, E.length = m := ⟨_, rfl⟩
      rw [hvn] at hw ⊢
      have HLE : Hid (E.length + 1 ≤ 900000 ∧ E.length ≤ 2 * k ∧ a.length ≤ k ∧ k < n) := ⟨by have := HNL.out; omega, hEk, hak, hlt⟩
      have HVN := Lib.hid hvn
      clear hd hc hEk hak hvn hk
      cases hcl : gapB c with
      | true =>
        rw [gap_not_let hcl] at HIL
        rcases gap_parts.1 hcl with g1 | ⟨g1, g2⟩ | ⟨g1, g2, g3⟩
        · by_cases ha : a = []
          · subst ha
            have HE : Hid (wordsL l = E ++ wordsW [] (l.drop (k + 1))) := by unfold Hid; rw [HD.out, words_gap hcl]; rfl
            go_wp2_with fail
            refine (HIL.out _).mono ?_
            rintro e w9 ⟨rfl, rfl⟩
            go_wp2_with fail
            exact ⟨⟨k + 1, [], E, by have := HLE.out; omega, by go_num, rfl, by simp, by have := HLE.out; simp; omega, hw.out, .inl ⟨by have := HLE.out; omega, HE.out⟩⟩, by have := HLE.out; simp [intOf]; omega⟩
          · have hab : (a == ([] : Wd)) = false := by simpa using ha
            have HE : Hid (wordsL l = (E ++ [a]) ++ wordsW [] (l.drop (k + 1))) := by unfold Hid; rw [HD.out, words_gap hcl, flush_ne ha]; simp
            have HX1 : Hid (∀ j u, (strV [a])[j]? = some u → (wr.alloc (.cells #[.string ⟨a.toArray⟩] 9)).cell? ((⟨wr.heap.size, 0, none⟩ : Addr).add j) = some u) := str_src (Y := [a]) (Blk.new _ _ _)
            have HO1 : Hid (OwnW (wr.alloc (.cells #[.string ⟨a.toArray⟩] 9)) N (.slice va vn vc) E ∧ Below N w (wr.alloc (.cells #[.string ⟨a.toArray⟩] 9)) ∧ N ≤ (wr.alloc (.cells #[.string ⟨a.toArray⟩] 9)).heap.size) := by
              have hz : N ≤ wr.heap.size := by have := hw.out.2.size; have := HN.out; omega
              exact ⟨hw.out.1.grow ((Below.refl _ _).alloc (Nat.le_refl _) _), hw.out.2.alloc hz _, by simp; omega⟩
            clear ha
            go_wp2_with (at_builtin; refine wpList_app_strs rfl _ _ 42 rfl Tryz.underlying42 N _ E rfl HO1.out.1 ⟨wr.heap.size, 0, none⟩ 1 1 [a] rfl rfl HX1.out ?hl1 HO1.out.2.2 ?_)
            case hl1 => have := HLE.out; have := HNL.out; omega
            intro v1 w2 ho1 hg1 _
            have HW2 : Hid (OwnW w2 N v1 (E ++ [a]) ∧ Below N w w2) := ⟨ho1, own_below HO1.out.1 hg1 HO1.out.2.1 (Nat.le_refl _) HO1.out.2.2⟩
            obtain ⟨v1a, v1c, hv1⟩ := ho1.shape
            obtain ⟨v1n, hv1n⟩ : ∃ m, (E ++ [a]).length = m := ⟨_, rfl⟩
            rw [hv1n] at hv1
            subst hv1
            clear ho1 hg1 hv1n HO1 HX1
            go_wp2_with fail
            refine (HIL.out _).mono ?_
            rintro e w9 ⟨rfl, rfl⟩
            go_wp2_with fail
            exact ⟨⟨k + 1, [], E ++ [a], by have := HLE.out; omega, by go_num, rfl, by simp, by have := HLE.out; simp; omega, HW2.out, .inl ⟨by have := HLE.out; omega, HE.out⟩⟩, by have := HLE.out; simp [intOf]; omega⟩
        · by_cases ha : a = []
          · subst ha
            have HE : Hid (wordsL l = E ++ wordsW [] (l.drop (k + 1))) := by unfold Hid; rw [HD.out, words_gap hcl]; rfl
            go_wp2_with fail
            refine (HIL.out _).mono ?_
            rintro e w9 ⟨rfl, rfl⟩
            go_wp2_with fail
            exact ⟨⟨k + 1, [], E, by have := HLE.out; omega, by go_num, rfl, by simp, by have := HLE.out; simp; omega, hw.out, .inl ⟨by have := HLE.out; omega, HE.out⟩⟩, by have := HLE.out; simp [intOf]; omega⟩
          · have hab : (a == ([] : Wd)) = false := by simpa using ha
            have HE : Hid (wordsL l = (E ++ [a]) ++ wordsW [] (l.drop (k + 1))) := by unfold Hid; rw [HD.out, words_gap hcl, flush_ne ha]; simp
            have HX1 : Hid (∀ j u, (strV [a])[j]? = some u → (wr.alloc (.cells #[.string ⟨a.toArray⟩] 9)).cell? ((⟨wr.heap.size, 0, none⟩ : Addr).add j) = some u) := str_src (Y := [a]) (Blk.new _ _ _)
            have HO1 : Hid (OwnW (wr.alloc (.cells #[.string ⟨a.toArray⟩] 9)) N (.slice va vn vc) E ∧ Below N w (wr.alloc (.cells #[.string ⟨a.toArray⟩] 9)) ∧ N ≤ (wr.alloc (.cells #[.string ⟨a.toArray⟩] 9)).heap.size) := by
              have hz : N ≤ wr.heap.size := by have := hw.out.2.size; have := HN.out; omega
              exact ⟨hw.out.1.grow ((Below.refl _ _).alloc (Nat.le_refl _) _), hw.out.2.alloc hz _, by simp; omega⟩
            clear ha
            go_wp2_with (at_builtin; refine wpList_app_strs rfl _ _ 42 rfl Tryz.underlying42 N _ E rfl HO1.out.1 ⟨wr.heap.size, 0, none⟩ 1 1 [a] rfl rfl HX1.out ?hl1 HO1.out.2.2 ?_)
            case hl1 => have := HLE.out; have := HNL.out; omega
            intro v1 w2 ho1 hg1 _
            have HW2 : Hid (OwnW w2 N v1 (E ++ [a]) ∧ Below N w w2) := ⟨ho1, own_below HO1.out.1 hg1 HO1.out.2.1 (Nat.le_refl _) HO1.out.2.2⟩
            obtain ⟨v1a, v1c, hv1⟩ := ho1.shape
            obtain ⟨v1n, hv1n⟩ : ∃ m, (E ++ [a]).length = m := ⟨_, rfl⟩
            rw [hv1n] at hv1
            subst hv1
            clear ho1 hg1 hv1n HO1 HX1
            go_wp2_with fail
            refine (HIL.out _).mono ?_
            rintro e w9 ⟨rfl, rfl⟩
            go_wp2_with fail
            exact ⟨⟨k + 1, [], E ++ [a], by have := HLE.out; omega, by go_num, rfl, by simp, by have := HLE.out; simp; omega, HW2.out, .inl ⟨by have := HLE.out; omega, HE.out⟩⟩, by have := HLE.out; simp [intOf]; omega⟩
        · by_cases ha : a = []
          · subst ha
            have HE : Hid (wordsL l = E ++ wordsW [] (l.drop (k + 1))) := by unfold Hid; rw [HD.out, words_gap hcl]; rfl
            go_wp2_with fail
            refine (HIL.out _).mono ?_
            rintro e w9 ⟨rfl, rfl⟩
            go_wp2_with fail
            exact ⟨⟨k + 1, [], E, by have := HLE.out; omega, by go_num, rfl, by simp, by have := HLE.out; simp; omega, hw.out, .inl ⟨by have := HLE.out; omega, HE.out⟩⟩, by have := HLE.out; simp [intOf]; omega⟩
          · have hab : (a == ([] : Wd)) = false := by simpa using ha
            have HE : Hid (wordsL l = (E ++ [a]) ++ wordsW [] (l.drop (k + 1))) := by unfold Hid; rw [HD.out, words_gap hcl, flush_ne ha]; simp
            have HX1 : Hid (∀ j u, (strV [a])[j]? = some u → (wr.alloc (.cells #[.string ⟨a.toArray⟩] 9)).cell? ((⟨wr.heap.size, 0, none⟩ : Addr).add j) = some u) := str_src (Y := [a]) (Blk.new _ _ _)
            have HO1 : Hid (OwnW (wr.alloc (.cells #[.string ⟨a.toArray⟩] 9)) N (.slice va vn vc) E ∧ Below N w (wr.alloc (.cells #[.string ⟨a.toArray⟩] 9)) ∧ N ≤ (wr.alloc (.cells #[.string ⟨a.toArray⟩] 9)).heap.size) := by
              have hz : N ≤ wr.heap.size := by have := hw.out.2.size; have := HN.out; omega
              exact ⟨hw.out.1.grow ((Below.refl _ _).alloc (Nat.le_refl _) _), hw.out.2.alloc hz _, by simp; omega⟩
            clear ha
            go_wp2_with (at_builtin; refine wpList_app_strs rfl _ _ 42 rfl Tryz.underlying42 N _ E rfl HO1.out.1 ⟨wr.heap.size, 0, none⟩ 1 1 [a] rfl rfl HX1.out ?hl1 HO1.out.2.2 ?_)
            case hl1 => have := HLE.out; have := HNL.out; omega
            intro v1 w2 ho1 hg1 _
            have HW2 : Hid (OwnW w2 N v1 (E ++ [a]) ∧ Below N w w2) := ⟨ho1, own_below HO1.out.1 hg1 HO1.out.2.1 (Nat.le_refl _) HO1.out.2.2⟩
            obtain ⟨v1a, v1c, hv1⟩ := ho1.shape
            obtain ⟨v1n, hv1n⟩ : ∃ m, (E ++ [a]).length = m := ⟨_, rfl⟩
            rw [hv1n] at hv1
            subst hv1
            clear ho1 hg1 hv1n HO1 HX1
            go_wp2_with fail
            refine (HIL.out _).mono ?_
            rintro e w9 ⟨rfl, rfl⟩
            go_wp2_with fail
            exact ⟨⟨k + 1, [], E ++ [a], by have := HLE.out; omega, by go_num, rfl, by simp, by have := HLE.out; simp; omega, HW2.out, .inl ⟨by have := HLE.out; omega, HE.out⟩⟩, by have := HLE.out; simp [intOf]; omega⟩
      | false =>
        obtain ⟨g1, g2, g3⟩ := gap_parts.2 hcl
        cases hcl2 : letB c with
        | true =>
          have hcl := hcl2
          rw [hcl2] at HIL
          by_cases ha : a = []
          · subst ha
            have HE : Hid (wordsL l = E ++ ([c] :: wordsW [] (l.drop (k + 1)))) := by unfold Hid; rw [HD.out, words_let hcl]; rfl
            go_wp2_with fail
            refine (HIL.out _).mono ?_
            rintro e w8 ⟨rfl, rfl⟩
            have HX2 : Hid (∀ j u, (strV [[c]])[j]? = some u → (wr.alloc (.cells #[.string ⟨[c].toArray⟩] 9)).cell? ((⟨wr.heap.size, 0, none⟩ : Addr).add j) = some u) := str_src (Y := [[c]]) (Blk.new _ _ _)
            have HO2 : Hid (OwnW (wr.alloc (.cells #[.string ⟨[c].toArray⟩] 9)) N (.slice va vn vc) E ∧ Below N w (wr.alloc (.cells #[.string ⟨[c].toArray⟩] 9)) ∧ N ≤ (wr.alloc (.cells #[.string ⟨[c].toArray⟩] 9)).heap.size) := by
              have hz : N ≤ wr.heap.size := by have := hw.out.2.size; have := HN.out; omega
              exact ⟨hw.out.1.grow ((Below.refl _ _).alloc (Nat.le_refl _) _), hw.out.2.alloc hz _, by simp; omega⟩
            have hsl := HSL.out
            go_wp2_with fail
            refine (HIL.out _).mono ?_
            rintro e w9 ⟨rfl, rfl⟩
            go_wp2_with (at_builtin; refine wpList_app_strs rfl _ _ 42 rfl Tryz.underlying42 N _ E rfl HO2.out.1 ⟨wr.heap.size, 0, none⟩ 1 1 [[c]] rfl rfl HX2.out ?hl2 HO2.out.2.2 ?_)
            case hl2 => have := HLE.out; have := HNL.out; simp; omega
            intro v2 w3 ho2 hg2 _
            have HW3 : Hid (OwnW w3 N v2 (E ++ [[c]]) ∧ Below N w w3) := ⟨by simpa using ho2, own_below HO2.out.1 hg2 HO2.out.2.1 (Nat.le_refl _) HO2.out.2.2⟩
            clear ho2 hg2 HO2 HX2 hsl
            go_wp2_with fail
            exact ⟨⟨k + 1, [], E ++ [[c]], by have := HLE.out; omega, by go_num, rfl, by simp, by have := HLE.out; simp; omega, HW3.out, .inl ⟨by have := HLE.out; omega, by rw [HE.out]; simp⟩⟩, by have := HLE.out; simp [intOf]; omega⟩
          · have hab : (a == ([] : Wd)) = false := by simpa using ha
            have HE : Hid (wordsL l = (E ++ [a]) ++ ([c] :: wordsW [] (l.drop (k + 1)))) := by unfold Hid; rw [HD.out, words_let hcl, flush_ne ha]; simp
            have HX1 : Hid (∀ j u, (strV [a])[j]? = some u → (wr.alloc (.cells #[.string ⟨a.toArray⟩] 9)).cell? ((⟨wr.heap.size, 0, none⟩ : Addr).add j) = some u) := str_src (Y := [a]) (Blk.new _ _ _)
            have HO1 : Hid (OwnW (wr.alloc (.cells #[.string ⟨a.toArray⟩] 9)) N (.slice va vn vc) E ∧ Below N w (wr.alloc (.cells #[.string ⟨a.toArray⟩] 9)) ∧ N ≤ (wr.alloc (.cells #[.string ⟨a.toArray⟩] 9)).heap.size) := by
              have hz : N ≤ wr.heap.size := by have := hw.out.2.size; have := HN.out; omega
              exact ⟨hw.out.1.grow ((Below.refl _ _).alloc (Nat.le_refl _) _), hw.out.2.alloc hz _, by simp; omega⟩
            clear ha
            go_wp2_with fail
            refine (HIL.out _).mono ?_
            rintro e w8 ⟨rfl, rfl⟩
            go_wp2_with (at_builtin; refine wpList_app_strs rfl _ _ 42 rfl Tryz.underlying42 N _ E rfl HO1.out.1 ⟨wr.heap.size, 0, none⟩ 1 1 [a] rfl rfl HX1.out ?hl1 HO1.out.2.2 ?_)
            case hl1 => have := HLE.out; have := HNL.out; omega
            intro v1 w2 ho1 hg1 _
            have HW2 : Hid (OwnW w2 N v1 (E ++ [a]) ∧ Below N w w2) := ⟨ho1, own_below HO1.out.1 hg1 HO1.out.2.1 (Nat.le_refl _) HO1.out.2.2⟩
            obtain ⟨v1a, v1c, hv1⟩ := ho1.shape
            obtain ⟨v1n, hv1n⟩ : ∃ m, (E ++ [a]).length = m := ⟨_, rfl⟩
            rw [hv1n] at hv1
            subst hv1
            clear ho1 hg1 hv1n HO1 HX1
            have HX2 : Hid (∀ j u, (strV [[c]])[j]? = some u → (w2.alloc (.cells #[.string ⟨[c].toArray⟩] 9)).cell? ((⟨w2.heap.size, 0, none⟩ : Addr).add j) = some u) := str_src (Y := [[c]]) (Blk.new _ _ _)
            have HO2 : Hid (OwnW (w2.alloc (.cells #[.string ⟨[c].toArray⟩] 9)) N (.slice v1a v1n v1c) (E ++ [a]) ∧ Below N w (w2.alloc (.cells #[.string ⟨[c].toArray⟩] 9)) ∧ N ≤ (w2.alloc (.cells #[.string ⟨[c].toArray⟩] 9)).heap.size) := by
              have hz : N ≤ w2.heap.size := by have := HW2.out.2.size; have := HN.out; omega
              exact ⟨HW2.out.1.grow ((Below.refl _ _).alloc (Nat.le_refl _) _), HW2.out.2.alloc hz _, by simp; omega⟩
            have hsl := HSL.out
            go_wp2_with fail
            refine (HIL.out _).mono ?_
            rintro e w9 ⟨rfl, rfl⟩
            go_wp2_with (at_builtin; refine wpList_app_strs rfl _ _ 42 rfl Tryz.underlying42 N _ (E ++ [a]) rfl HO2.out.1 ⟨w2.heap.size, 0, none⟩ 1 1 [[c]] rfl rfl HX2.out ?hl2 HO2.out.2.2 ?_)
            case hl2 => have := HLE.out; have := HNL.out; simp; omega
            intro v2 w3 ho2 hg2 _
            have HW3 : Hid (OwnW w3 N v2 ((E ++ [a]) ++ [[c]]) ∧ Below N w w3) := ⟨by simpa using ho2, own_below HO2.out.1 hg2 HO2.out.2.1 (Nat.le_refl _) HO2.out.2.2⟩
            clear ho2 hg2 HO2 HX2 hsl
            go_wp2_with fail
            exact ⟨⟨k + 1, [], (E ++ [a]) ++ [[c]], by have := HLE.out; omega, by go_num, rfl, by simp, by have := HLE.out; simp; omega, HW3.out, .inl ⟨by have := HLE.out; omega, by rw [HE.out]; simp⟩⟩, by have := HLE.out; simp [intOf]; omega⟩
        | false =>
          rw [hcl2] at HIL
          have HE : Hid (wordsL l = E ++ wordsW (a ++ [c]) (l.drop (k + 1))) := by unfold Hid; rw [HD.out, words_one (plain_iff.2 ⟨hcl, hcl2⟩)]
          have hsl := HSL.out
          obtain ⟨a2, ha2⟩ : ∃ x, a ++ [c] = x := ⟨_, rfl⟩
          have hadd : ∀ W, (Op.stringOp .add ⟨a.toArray⟩ ⟨[c].toArray⟩).run Tryz.prog W = .ok (.string ⟨a2.toArray⟩) W := fun W => by rw [← ha2]; exact run_string_add_lists W _ _ (by have := HLE.out; have := HNL.out; omega) (by simp)
          have HA2 := Lib.hid ha2
          clear ha2
          go_wp2_with fail
          refine (HIL.out _).mono ?_
          rintro e w8 ⟨rfl, rfl⟩
          go_wp2_with fail
          exact ⟨⟨k + 1, a2, E, by have := HLE.out; omega, by go_num, rfl, by rw [← HA2.out]; have := HLE.out; simp; omega, by have := HLE.out; omega, hw.out, .inl ⟨by have := HLE.out; omega, by rw [← HA2.out]; exact HE.out⟩⟩, by have := HLE.out; simp [intOf]; omega⟩
    · by_cases hkn : k = n
      · subst hkn
        have hd1 : decide ((k : Int) ≤ (k : Int)) = true := by simp
        have hd3 : decide ((k : Int) < (k : Int)) = false := by simp
        have HD : Hid (wordsL l = E ++ flushW a) := by
          unfold Hid
          rcases hd.out with ⟨_, h⟩ | ⟨h, _⟩
          · rw [h, List.drop_of_length_le (Nat.le_of_eq HNL.out.1), wordsW]
          · omega
        obtain ⟨va, vc, rfl⟩ := hw.out.1.shape
        obtain ⟨vn, hvn⟩ : ∃ m, E.length = m := ⟨_, rfl⟩
        rw [hvn] at hw ⊢
        have HLE : Hid (E.length + 1 ≤ 900000 ∧ E.length ≤ 2 * k ∧ a.length ≤ k) := ⟨by have := HNL.out; omega, hEk, hak⟩
        clear hd hEk hak hvn hk hlt
        by_cases ha : a = []
        · subst ha
          go_wp2_with fail
          exact ⟨⟨k + 1, [], E, by omega, by go_num, rfl, by simp, by have := HLE.out; omega, hw.out, .inr ⟨rfl, by rw [HD.out, flushW, List.append_nil]⟩⟩, by simp [intOf]⟩
        · have hab : (a == ([] : Wd)) = false := by simpa using ha
          have HE : Hid (wordsL l = E ++ [a]) := by unfold Hid; rw [HD.out, flush_ne ha]
          have HX1 : Hid (∀ j u, (strV [a])[j]? = some u → (wr.alloc (.cells #[.string ⟨a.toArray⟩] 9)).cell? ((⟨wr.heap.size, 0, none⟩ : Addr).add j) = some u) := str_src (Y := [a]) (Blk.new _ _ _)
          have HO1 : Hid (OwnW (wr.alloc (.cells #[.string ⟨a.toArray⟩] 9)) N (.slice va vn vc) E ∧ Below N w (wr.alloc (.cells #[.string ⟨a.toArray⟩] 9)) ∧ N ≤ (wr.alloc (.cells #[.string ⟨a.toArray⟩] 9)).heap.size) := by
            have hz : N ≤ wr.heap.size := by have := hw.out.2.size; have := HN.out; omega
            exact ⟨hw.out.1.grow ((Below.refl _ _).alloc (Nat.le_refl _) _), hw.out.2.alloc hz _, by simp; omega⟩
          clear ha
          go_wp2_with (at_builtin; refine wpList_app_strs rfl _ _ 42 rfl Tryz.underlying42 N _ E rfl HO1.out.1 ⟨wr.heap.size, 0, none⟩ 1 1 [a] rfl rfl HX1.out ?hl1 HO1.out.2.2 ?_)
          case hl1 => have := HLE.out; omega
          intro v1 w2 ho1 hg1 _
          have HW2 : Hid (OwnW w2 N v1 (E ++ [a]) ∧ Below N w w2) := ⟨ho1, own_below HO1.out.1 hg1 HO1.out.2.1 (Nat.le_refl _) HO1.out.2.2⟩
          clear ho1 hg1 HO1 HX1
          go_wp2_with fail
          exact ⟨⟨k + 1, [], E ++ [a], by omega, by go_num, rfl, by simp, by have := HLE.out; simp; omega, HW2.out, .inr ⟨rfl, HE.out⟩⟩, by simp [intOf]⟩
      · have hd1 : decide ((k : Int) ≤ (n : Int)) = false := by simp; omega
        have HE : Hid (wordsL l = E) := by
          unfold Hid
          rcases hd.out with ⟨h, _⟩ | ⟨_, h⟩
          · omega
          · exact h
        go_wp2_with fail
        go_ret
        exact ⟨_, rfl, by rw [HE.out]; exact hw.out.1, hw.out.2⟩
end Go.Proofs.YtbnbglngpgikfaaGreatDoor
