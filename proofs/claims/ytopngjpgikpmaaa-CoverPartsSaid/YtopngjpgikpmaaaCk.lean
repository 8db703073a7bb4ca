/- Layer 8: Inside, Area; the document's In, Inside, Count; which inputs are small. -/
import Derived.Test.YtopngjpgikpmaaaCj
import Derived.Test.YtopngjpgikpmaaaGk
import Derived.BigQuiet
namespace Go.Proofs.Ytopngjpgikpmaaa
open Go.RowKit
theorem times_bound (P : List (List Pt)) (s : Pt) (hl : ∀ l ∈ P, l.length ≤ 1000) : -((1000 * P.length : Nat) : Int) ≤ timesI P s ∧ timesI P s ≤ ((1000 * P.length : Nat) : Int) := by
  have key : ∀ (P : List (List Pt)) (n : Int), (∀ l ∈ P, l.length ≤ 1000) → n - ((1000 * P.length : Nat) : Int) ≤ P.foldl (fun n l => n + windsI l s) n ∧ P.foldl (fun n l => n + windsI l s) n ≤ n + ((1000 * P.length : Nat) : Int) := fun P => by
    induction P with
    | nil => intro n _; simp
    | cons l P ih =>
      intro n h
      have h1 := ih (n + windsI l s) (fun x hx => h x (List.mem_cons_of_mem _ hx))
      have h2 := h l (List.mem_cons_self ..)
      have h3 : -(l.length : Int) ≤ windsI l s ∧ windsI l s ≤ l.length := by
        unfold windsI
        split
        · omega
        · next p _ =>
          have := wfold_bound s l (p, 0)
          simp only at this
          omega
      rw [List.foldl_cons, List.length_cons]
      omega
  have := key P 0 hl
  unfold timesI
  omega
set_option maxHeartbeats 2000000 in
set_option maxRecDepth 100000 in
theorem insideC_c (s : Value) (S : List (Value × List Pt)) (rule x y : Int) (w : World) (row : PolyR w s S) (hS : S.length ≤ 100) (hSl : ∀ x ∈ S, x.2.length ≤ 100) (hSr : ∀ x ∈ S, x.2.all roomP = true) (hs : roomP (x, y) = true) :
    Calls Try.prog 18 #[s, .int .i64 rule, .agg #[.int .i64 x, .int .i64 y]] w fun e w' => e = .returned (.bool (insideI (S.map Prod.snd) rule (x, y))) ∧ Below w.heap.size w w' := by
  have HI := Lib.hid (fun n w => isInside_c n rule w)
  obtain ⟨ao, c, rfl⟩ := row.shape
  obtain ⟨n, hn⟩ : ∃ n, S.length = n := ⟨_, rfl⟩
  rw [hn] at row hS
  have HN := Lib.hid hn; have HROW := Lib.hid row; have HSS := Lib.hid hS; have HSL := Lib.hid hSl; have HSR := Lib.hid hSr; have HS := Lib.hid hs
  rw [hn]
  clear hn row hS hSl hSr hs
  go_enter Try.func18, Try.ntmps18
  go_wp2_with fail
  go_loopw [7, 12] (fun t i wr => ∃ (k : Nat) (T : Int), k ≤ n ∧ t = .int .i64 T ∧ i = .int .i64 k ∧ Hid (timesI ((S.map Prod.snd).take k) (x, y) = T ∧ Below w.heap.size w wr ∧ Blk wr w.heap.size 39 (two (x, y)))) (fun _ i _ => n - (intOf i).toNat)
  case atStart => exact ⟨0, 0, by omega, rfl, rfl, rfl, (Below.refl _ _).alloc (Nat.le_refl _) _, Blk.new _ _ _⟩
  case round =>
    obtain ⟨k, T, hk, rfl, rfl, hw⟩ := hrel
    by_cases hlt : k < n
    · have hd : decide ((k : Int) < (n : Int)) = true := by simp; omega
      obtain ⟨⟨v, l⟩, hq⟩ : ∃ q, S[k]? = some q := ⟨_, List.getElem?_eq_getElem (by rw [HN.out]; exact hlt)⟩
      have hm := List.mem_of_getElem? hq
      obtain ⟨b, o, rfl, hbs, c0⟩ := (HROW.out.on hw.out.2.1).at hq
      have hrow : Row wr v l := (HROW.out.2 _ hm).on hw.out.2.1
      have hPk : (S.map Prod.snd)[k]? = some l := by rw [List.getElem?_map, hq]; rfl
      have HWD : Hid (Calls Try.prog 34 #[v, .agg #[.int .i64 x, .int .i64 y]] wr fun e w' => e = .returned (.int .i64 (windsI l (x, y))) ∧ Below wr.heap.size wr w') := winds_c v l x y wr (Nat.le_trans (HSL.out _ hm) (by decide)) hrow (HSR.out _ hm) HS.out
      have hnext := times_take (S.map Prod.snd) k l (x, y) hPk
      rw [hw.out.1] at hnext
      have hbd := times_bound ((S.map Prod.snd).take (k + 1)) (x, y) (fun l' hl' => by
        obtain ⟨z, hz, rfl⟩ := List.mem_map.1 (List.mem_of_mem_take hl')
        exact Nat.le_trans (HSL.out _ hz) (by decide))
      rw [hnext] at hbd
      have hlen : ((S.map Prod.snd).take (k + 1)).length = k + 1 := by rw [List.length_take, List.length_map, HN.out]; omega
      rw [hlen] at hbd
      obtain ⟨wn, hwn⟩ : ∃ z, windsI l (x, y) = z := ⟨_, rfl⟩
      rw [hwn] at hnext hbd HWD
      have hsum : wrap64 (T + wn) = T + wn := wrapR _ (by have := HSS.out; omega) (by have := HSS.out; omega)
      have hSS := HSS.out
      have p0 : wr.cell? ⟨w.heap.size, 0, none⟩ = some (.int .i64 x) := hw.out.2.2.cell 0
      have p1 : wr.cell? ⟨w.heap.size, 1, none⟩ = some (.int .i64 y) := hw.out.2.2.cell 1
      have HNX := Lib.hid hnext
      clear hq hm hbs hrow hPk hnext hbd hlen hwn
      simp only at c0
      go_wp2_with fail
      refine (HWD.out).mono ?_
      rintro e w2 ⟨rfl, hb⟩
      have F1 : Hid (Below w.heap.size w w2 ∧ Blk w2 w.heap.size 39 (two (x, y))) := ⟨hw.out.2.1.trans (hb.mono hw.out.2.1.size), hw.out.2.2.grow hb⟩
      clear hb c0 p0 p1
      go_wp2_with fail
      exact ⟨⟨k + 1, T + wn, by omega, by go_num, by go_num, HNX.out, F1.out⟩, by simp [intOf]; omega⟩
    · have hd : decide ((k : Int) < (n : Int)) = false := by simp; omega
      have hT : timesI (S.map Prod.snd) (x, y) = T := by
        have := hw.out.1
        rwa [List.take_of_length_le (by rw [List.length_map, HN.out]; omega)] at this
      have HT := Lib.hid hT
      clear hT
      go_wp2_with fail
      refine (HI.out _ _).mono ?_
      rintro e w2 ⟨rfl, rfl⟩
      have HV : Hid (inI rule T = insideI (S.map Prod.snd) rule (x, y)) := by unfold Hid insideI; rw [HT.out]
      obtain ⟨r, hr⟩ : ∃ r, inI rule T = r := ⟨_, rfl⟩
      rw [hr] at HV ⊢
      clear hr
      go_wp2_with fail
      go_ret
      exact ⟨retB HV.out, hw.out.2.1⟩
def sumI (M : List Nat) : Nat := M.foldl (fun n m => n + m) 0
theorem sumI_take (M : List Nat) (k m : Nat) (h : M[k]? = some m) : sumI (M.take (k + 1)) = sumI (M.take k) + m := by
  unfold sumI; rw [take_fold _ _ _ _ h]
theorem sumI_bound (M : List Nat) (h : ∀ m ∈ M, m ≤ 255) : sumI M ≤ 255 * M.length := by
  have key : ∀ (M : List Nat) (n : Nat), (∀ m ∈ M, m ≤ 255) → M.foldl (fun n m => n + m) n ≤ n + 255 * M.length := fun M => by
    induction M with
    | nil => intro n _; simp
    | cons a M ih =>
      intro n h
      have h1 := ih (n + a) (fun m hm => h m (List.mem_cons_of_mem _ hm))
      have h2 := h a (List.mem_cons_self ..)
      rw [List.foldl_cons, List.length_cons]
      omega
  have := key M 0 h
  unfold sumI
  omega
set_option maxHeartbeats 2000000 in
set_option maxRecDepth 100000 in
theorem area_c (s : Value) (M : List Nat) (w : World) (row : VRow w s (bytesL M)) (hM : M.length ≤ 100000) (hb : ∀ m ∈ M, m ≤ 255) :
    Calls Try.prog 16 #[s] w fun e w' => e = .returned (.int .i64 (sumI M : Nat)) ∧ w = w' := by
  obtain ⟨ao, c, rfl⟩ := row.shape
  obtain ⟨n, hn⟩ : ∃ n, M.length = n := ⟨_, rfl⟩
  have hn2 : (bytesL M).length = n := by unfold bytesL; rw [List.length_map, hn]
  rw [hn2] at row ⊢
  rw [hn] at hM
  have HN := Lib.hid hn; have HROW := Lib.hid row; have HM := Lib.hid hM; have HB := Lib.hid hb
  clear hn hn2 row hM hb
  go_enter Try.func16, Try.ntmps16
  go_wp2_with fail
  go_loopw [3, 8] (fun t i wr => ∃ k : Nat, k ≤ n ∧ t = .int .i64 (sumI (M.take k) : Nat) ∧ i = .int .i64 k ∧ Hid (w = wr)) (fun _ i _ => n - (intOf i).toNat)
  case atStart => exact ⟨0, by omega, rfl, rfl, rfl⟩
  case round =>
    obtain ⟨k, hk, rfl, rfl, hw⟩ := hrel
    by_cases hlt : k < n
    · have hd : decide ((k : Int) < (n : Int)) = true := by simp; omega
      obtain ⟨m, hq⟩ : ∃ q, M[k]? = some q := ⟨_, List.getElem?_eq_getElem (by rw [HN.out]; exact hlt)⟩
      have hmm := HB.out _ (List.mem_of_getElem? hq)
      obtain ⟨b, o, rfl, hbs, c0⟩ := HROW.out.addr (k := k) (x := .int .u8 (m : Int)) (by unfold bytesL; rw [List.getElem?_map, hq]; rfl)
      rw [hw.out] at c0
      have hnext := sumI_take M k m hq
      have hbd := sumI_bound (M.take k) (fun x hx => HB.out x (List.mem_of_mem_take hx))
      have hlen : (M.take k).length = k := by rw [List.length_take, HN.out]; omega
      rw [hlen] at hbd
      have HNX := Lib.hid hnext
      have hMM := HM.out
      obtain ⟨t, ht⟩ : ∃ t, sumI (M.take k) = t := ⟨_, rfl⟩
      rw [ht] at HNX hbd ⊢
      clear hq hbs hnext hlen ht
      go_wp2_with fail
      exact ⟨⟨k + 1, by omega, by rw [HNX.out]; go_num, by go_num, hw.out⟩, by simp [intOf]; omega⟩
    · have hd : decide ((k : Int) < (n : Int)) = false := by simp; omega
      have HT : Hid (M.take k = M) := List.take_of_length_le (by rw [HN.out]; omega)
      go_wp2_with fail
      go_ret
      exact ⟨by rw [HT.out]; rfl, hw.out⟩
set_option maxHeartbeats 4000000 in
set_option maxRecDepth 100000 in
theorem refAll_c (s : Value) (S : List (Value × List Pt)) (w : World) (row : PolyR w s S) (hS : S.length ≤ 1000) (hSl : ∀ x ∈ S, x.2.length ≤ 1000) :
    Calls Try.prog 14 #[s] w fun e w' => e = .returned (.bool (allR (S.map Prod.snd))) ∧ Below w.heap.size w w' := by
  have HX := Lib.hid (fun x w => refIn_c x w)
  obtain ⟨ao, c, rfl⟩ := row.shape
  obtain ⟨n, hn⟩ : ∃ n, S.length = n := ⟨_, rfl⟩
  rw [hn] at row hS ⊢
  have HN := Lib.hid hn; have HROW := Lib.hid row; have HSS := Lib.hid hS; have HSL := Lib.hid hSl
  clear hn row hS hSl
  go_enter Try.func14, Try.ntmps14
  go_wp2_with fail
  go_loopw [3] (fun i wr => ∃ k : Nat, k ≤ n ∧ i = .int .i64 k ∧ Hid (allR ((S.map Prod.snd).take k) = true ∧ w = wr)) (fun i _ => n - (intOf i).toNat)
  case atStart => exact ⟨0, by omega, rfl, rfl, rfl⟩
  case round =>
    obtain ⟨k, hk, rfl, hw⟩ := hrel
    obtain ⟨hw1, hw2⟩ := hw.out
    subst hw2
    by_cases hlt : k < n
    · have hd : decide ((k : Int) < (n : Int)) = true := by simp; omega
      obtain ⟨⟨v, l⟩, hq⟩ : ∃ q, S[k]? = some q := ⟨_, List.getElem?_eq_getElem (by rw [HN.out]; exact hlt)⟩
      have hm := List.mem_of_getElem? hq
      obtain ⟨b, o, rfl, hbs, c0⟩ := HROW.out.at hq
      have hrow : Row w v l := HROW.out.2 _ hm
      have hPk : (S.map Prod.snd)[k]? = some l := by rw [List.getElem?_map, hq]; rfl
      have HLN : Hid (l.length ≤ 1000) := HSL.out _ hm
      have hnot : l.all roomP = false → allR (S.map Prod.snd) = false := fun h => by
        unfold allR
        rw [List.all_eq_false]
        exact ⟨l, List.mem_map.2 ⟨_, hm, rfl⟩, by simp [h]⟩
      have hyes : l.all roomP = true → allR ((S.map Prod.snd).take (k + 1)) = true := fun h => by
        have h2 := hw1
        unfold allR at h2 ⊢
        rw [List.take_add_one, List.all_append, h2, hPk]
        simp only [Option.toList, List.all_cons, List.all_nil, Bool.true_and, Bool.and_true]
        exact h
      obtain ⟨aq, cq, rfl⟩ := hrow.shape
      obtain ⟨m, hmm⟩ : ∃ m, l.length = m := ⟨_, rfl⟩
      rw [hmm] at hrow HLN c0
      have HM := Lib.hid hmm; have HRW := Lib.hid hrow; have HNOT := Lib.hid hnot; have HYES := Lib.hid hyes
      have hln := HLN.out
      have hss := HSS.out
      simp only at c0
      clear hq hm hbs hrow hPk hnot hyes hmm hw1 hw
      go_wp2_with fail
      go_loopw [4] (fun i wr => ∃ j : Nat, j ≤ m ∧ i = .int .i64 j ∧ Hid ((l.take j).all roomP = true ∧ w = wr)) (fun i _ => m - (intOf i).toNat)
      case atStart => exact ⟨0, by omega, rfl, rfl, rfl⟩
      case round =>
        obtain ⟨j, hj, rfl, hu⟩ := hrel
        obtain ⟨hu1, hu2⟩ := hu.out
        subst hu2
        by_cases hlt2 : j < m
        · have hd2 : decide ((j : Int) < (m : Int)) = true := by simp; omega
          obtain ⟨b2, o2, rfl, hbs2, hpa⟩ := Row.addr HRW.out (k := j) (by rw [HM.out]; exact hlt2)
          obtain ⟨⟨px, py⟩, hp⟩ : ∃ p, l[j]? = some p := ⟨_, List.getElem?_eq_getElem (by rw [HM.out]; exact hlt2)⟩
          obtain ⟨c1, c2⟩ := hpa j (px, py) hp
          have hno : room px = false ∨ room py = false → l.all roomP = false := fun h => by
            rw [List.all_eq_false]
            exact ⟨(px, py), List.mem_of_getElem? hp, by unfold roomP; rcases h with h | h <;> simp [h]⟩
          have hye : room px = true → room py = true → (l.take (j + 1)).all roomP = true := fun h1 h2 => by
            rw [List.take_add_one, List.all_append, hu1, hp]
            simp [roomP, h1, h2]
          have HNO := Lib.hid hno; have HYE := Lib.hid hye
          simp only at c1 c2
          clear hno hye hp hpa hbs2 hu hu1
          generalize hx : room px = rx at *
          generalize hy : room py = ry at *
          have hX := Lib.hid hx; have hY := Lib.hid hy
          clear hx hy
          cases rx
          · go_wp2_with fail
            refine (HX.out _ _).mono ?_
            rw [hX.out]
            rintro e w' ⟨rfl, rfl⟩
            go_wp2_with fail
            go_ret
            exact ⟨retB (HNOT.out (HNO.out (.inl trivial))).symm, Below.refl _ _⟩
          · go_wp2_with fail
            refine (HX.out _ _).mono ?_
            rw [hX.out]
            rintro e w' ⟨rfl, rfl⟩
            go_wp2_with fail
            refine (HX.out _ _).mono ?_
            rw [hY.out]
            rintro e w' ⟨rfl, rfl⟩
            cases ry
            · go_wp2_with fail
              go_ret
              exact ⟨retB (HNOT.out (HNO.out (.inr trivial))).symm, Below.refl _ _⟩
            · go_wp2_with fail
              exact ⟨⟨j + 1, by omega, by go_num, HYE.out trivial trivial, trivial⟩, by simp [intOf]; omega⟩
        · have hd2 : decide ((j : Int) < (m : Int)) = false := by simp; omega
          have HALL : Hid (l.all roomP = true) := by
            rw [List.take_of_length_le (by rw [HM.out]; omega)] at hu1
            exact hu1
          go_wp2_with fail
          exact ⟨⟨k + 1, by omega, by go_num, HYES.out HALL.out, trivial⟩, by simp [intOf]; omega⟩
    · have hd : decide ((k : Int) < (n : Int)) = false := by simp; omega
      have HT : Hid (allR (S.map Prod.snd) = true) := by
        rw [List.take_of_length_le (by rw [List.length_map, HN.out]; omega)] at hw1
        exact hw1
      go_wp2_with fail
      go_ret
      exact ⟨retB HT.out.symm, Below.refl _ _⟩
end Go.Proofs.Ytopngjpgikpmaaa
