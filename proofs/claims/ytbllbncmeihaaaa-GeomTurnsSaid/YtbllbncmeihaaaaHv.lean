/- The law on polygons turned round, begun elsewhere, parted. -/
import Derived.Test.YtbllbncmeihaaaaHw
namespace Go.Proofs.Ytbllbncmeihaaaa
open Go.RowKit
set_option maxHeartbeats 4000000 in
set_option maxRecDepth 100000 in
theorem turns_law (w : World) (v : Value) (l : List Pt) (row : Row w v l) (hcap : ∀ ao n c, v = .slice ao n c → n ≤ c) (sx sy frm : Int) (hfrm : I64 frm) :
    Calls Try.prog 5 #[v, .agg #[.int .i64 sx, .int .i64 sy], .int .i64 frm] w fun e w' => e = .returned (.bool true) ∧ Below w.heap.size w w' := by
  obtain ⟨ao, c, rfl⟩ := row.shape
  have hnc := hcap _ _ _ rfl
  clear hcap
  obtain ⟨n, hn⟩ : ∃ n, l.length = n := ⟨_, rfl⟩
  rw [hn] at row hnc ⊢
  have HN := Lib.hid hn
  have HROW := Lib.hid row
  have HAW := Lib.hid awake_c
  have HNC := Lib.hid hnc
  obtain ⟨hf0, hf1⟩ := hfrm
  obtain ⟨W, hW⟩ : ∃ W, w.alloc (.cells #[.int .i64 sx, .int .i64 sy] 23) = W := ⟨_, rfl⟩
  have hS : Blk W w.heap.size 23 (two (sx, sy)) := by rw [← hW]; exact Blk.new _ _ _
  have hB : Below w.heap.size w W := by rw [← hW]; exact (Below.refl _ _).alloc (Nat.le_refl _) _
  have HS := Lib.hid hS; have HB := Lib.hid hB; have HW := Lib.hid hW
  obtain ⟨m, hm⟩ : ∃ m, w.heap.size = m := ⟨_, rfl⟩
  have Hm := Lib.hid hm
  rw [hm] at HS HB
  have hsz : m < W.heap.size := by have := hS.lt; omega
  have HZ := Lib.hid hsz
  clear hn row hW hS hB hsz hnc
  by_cases h60 : n > 60
  · go_enter Try.func5, Try.ntmps5
    go_wp2_with fail
    refine (HAW.out _).mono ?_
    rintro e w1 ⟨rfl, hb⟩
    rw [HW.out] at hb
    have B1 : Hid (Below m w w1) := HB.out.trans (hb.mono (by have := HZ.out; omega))
    clear hb
    go_wp2_with fail
    go_ret
    exact ⟨rfl, by rw [Hm.out]; exact B1.out⟩
  by_cases h0 : n = 0
  · have z0 : ((n : Int) == 0) = true := by simp; omega
    go_enter Try.func5, Try.ntmps5
    go_wp2_with fail
    refine (HAW.out _).mono ?_
    rintro e w1 ⟨rfl, hb⟩
    rw [HW.out] at hb
    have B1 : Hid (Below m w w1) := HB.out.trans (hb.mono (by have := HZ.out; omega))
    clear hb
    go_wp2_with fail
    go_ret
    exact ⟨rfl, by rw [Hm.out]; exact B1.out⟩
  have z0 : ((n : Int) == 0) = false := by simp; omega
  have hl : l.length ≤ 1000 := by rw [HN.out]; omega
  have HL := Lib.hid hl
  have rowW : Row W (.slice ao n c) l := HROW.out.on (by rw [hm]; exact HB.out)
  have HIN : Hid (∀ w', Below W.heap.size W w' → Calls Try.prog 10 #[.slice ao n c] w' fun e w'' => e = .returned (.bool (l.all roomP)) ∧ Below w'.heap.size w' w'') := fun w' h => in_c _ l w' hl (rowW.on h)
  have HR := Lib.hid rowW
  clear hl rowW
  go_enter Try.func5, Try.ntmps5
  go_wp2_with fail
  rw [HW.out]
  refine (HIN.out _ (Below.refl _ _)).mono ?_
  rintro e w1 ⟨rfl, hb1⟩
  have s1 := HS.out.grow hb1
  have q0 := s1.p0
  have q1 := s1.p1
  have B1 := Lib.hid hb1
  clear s1 hb1
  cases ha : l.all roomP
  · skip
    go_wp2_with fail
    refine (HAW.out _).mono ?_
    rintro e w2 ⟨rfl, hb2⟩
    have Bz : Hid (Below m w w2) := HB.out.trans ((below_next B1.out hb2).mono (by have := HZ.out; omega))
    clear hb2
    go_wp2_with fail
    go_ret
    exact ⟨rfl, by rw [Hm.out]; exact Bz.out⟩
  have HA := Lib.hid ha
  clear ha
  go_wp2_with fail
  refine (in_c _ [(sx, sy)] _ (by simp) (Row.new w1 [(sx, sy)] _ _ 1 rfl rfl)).mono ?_
  rintro e w2 ⟨rfl, hb2⟩
  have B2 : Hid (Below W.heap.size W w2) := below_next (B1.out.alloc B1.out.size _) hb2
  have s2 := HS.out.grow B2.out
  clear q0 q1 hb2
  have q0 := s2.p0
  have q1 := s2.p1
  have S2 := Lib.hid s2
  clear s2
  cases hs : [(sx, sy)].all roomP
  · skip
    go_wp2_with fail
    refine (HAW.out _).mono ?_
    rintro e w3 ⟨rfl, hb3⟩
    have Bz : Hid (Below m w w3) := HB.out.trans ((below_next B2.out hb3).mono (by have := HZ.out; omega))
    clear hb3
    go_wp2_with fail
    go_ret
    exact ⟨rfl, by rw [Hm.out]; exact Bz.out⟩
  have hsr : roomP (sx, sy) = true := by simpa using hs
  have HSR := Lib.hid hsr
  clear hs hsr
  by_cases hneg : frm < 0
  · skip
    go_wp2_with fail
    refine (HAW.out _).mono ?_
    rintro e w3 ⟨rfl, hb3⟩
    have Bz : Hid (Below m w w3) := HB.out.trans ((below_next B2.out hb3).mono (by have := HZ.out; omega))
    clear hb3
    go_wp2_with fail
    go_ret
    exact ⟨rfl, by rw [Hm.out]; exact Bz.out⟩
  by_cases hge : (n : Int) ≤ frm
  · skip
    go_wp2_with fail
    refine (HAW.out _).mono ?_
    rintro e w3 ⟨rfl, hb3⟩
    have Bz : Hid (Below m w w3) := HB.out.trans ((below_next B2.out hb3).mono (by have := HZ.out; omega))
    clear hb3
    go_wp2_with fail
    go_ret
    exact ⟨rfl, by rw [Hm.out]; exact Bz.out⟩
  obtain ⟨k, rfl⟩ := Int.eq_ofNat_of_zero_le (show 0 ≤ frm by omega)
  have hkn : k < n := by omega
  have hd1 : decide ((n : Int) ≤ (k : Int)) = false := by simp; omega
  have hd2 : decide ((k : Int) < 0) = false := by simp
  obtain ⟨b, o, rfl, hbs, hpa⟩ := Row.addr HROW.out (k := k) (by rw [HN.out]; exact hkn)
  have HPA := Lib.hid hpa
  have HBS := Lib.hid hbs
  clear hpa hbs hneg hge hf0 hf1
  have HWI : Hid (∀ w' s l', l'.length ≤ 1000 → Row w' s l' → l'.all roomP = true → Calls Try.prog 15 #[s, .agg #[.int .i64 sx, .int .i64 sy]] w' fun e w'' => e = .returned (.int .i64 (windsI l' (sx, sy))) ∧ Below w'.heap.size w' w'') := fun w' s l' h1 h2 h3 => winds_c s l' sx sy w' h1 h2 h3 HSR.out
  go_wp2_with fail
  refine (HWI.out _ _ l HL.out (HR.out.on B2.out) HA.out).mono ?_
  rintro e w3 ⟨rfl, hb3⟩
  have B3 : Hid (Below W.heap.size W w3) := below_next B2.out hb3
  have S3 : Hid (Blk w3 m 23 (two (sx, sy))) := S2.out.grow hb3
  have hwb : -(n : Int) ≤ windsI l (sx, sy) ∧ windsI l (sx, sy) ≤ n := by rw [winds_eq, HN.out]; exact rsum_bound _ _ _
  have HWB : Hid (windsI l.reverse (sx, sy) = -windsI l (sx, sy)) := winds_back _ _
  obtain ⟨ws, hws⟩ : ∃ ws, windsI l (sx, sy) = ws := ⟨_, rfl⟩
  rw [hws] at hwb HWB ⊢
  have HWS := Lib.hid hws
  clear hb3 q0 q1 hws
  have hmw3 : m < w3.heap.size := S3.out.lt
  have BW : Hid (Below m w w3) := HB.out.trans (B3.out.mono (by have := HZ.out; omega))
  obtain ⟨i0, hi, hz0, hz1, hz2⟩ := info_parts infoP
  go_wp2_with fail
  go_loopw [8, 49] (fun x i wr => ∃ q : Nat, q ≤ n ∧ i = .int .i64 q ∧ Hid (Own wr (m + 1) 23 x (l.reverse.take q) ∧ Blk wr m 23 (two (sx, sy)) ∧ Below m w wr)) (fun _ i _ => n - (intOf i).toNat)
  case atStart => exact ⟨0, by omega, rfl, Own.nil _ _ _, S3.out, BW.out⟩
  case round =>
    obtain ⟨q, hq, rfl, hw⟩ := hrel
    by_cases hlt : q < n
    · have hd : decide ((q : Int) < (n : Int)) = true := by simp; omega
      obtain ⟨⟨px, py⟩, hp⟩ : ∃ p, l[n - 1 - q]? = some p := ⟨_, List.getElem?_eq_getElem (by rw [HN.out]; omega)⟩
      obtain ⟨c0, c1⟩ := (HPA.out.on hw.out.2.2 (by have := HBS.out; omega)) (n - 1 - q) (px, py) hp
      have hrv : l.reverse[q]? = some (px, py) := by rw [List.getElem?_reverse (by rw [HN.out]; exact hlt), HN.out]; exact hp
      have HRV := Lib.hid hrv
      have hix : ((n : Int) - 1 - q) = ((n - 1 - q : Nat) : Int) := by omega
      have hms : m < wr.heap.size := hw.out.2.1.lt
      simp only at c0 c1
      clear hp hrv
      have O4 : Hid (Own (wr.alloc (.cells #[.int .i64 px, .int .i64 py] 23)) (m + 1) 23 u8 (l.reverse.take q)) := Own.grow hw.out.1 ((Below.refl _ _).alloc (Nat.le_refl _) _)
      have S4 : Hid (Blk (wr.alloc (.cells #[.int .i64 px, .int .i64 py] 23)) m 23 (two (sx, sy))) := hw.out.2.1.alloc _
      have B4 : Hid (Below m w (wr.alloc (.cells #[.int .i64 px, .int .i64 py] 23))) := hw.out.2.2.alloc (by omega) _
      have N4 : Hid (Blk (wr.alloc (.cells #[.int .i64 px, .int .i64 py] 23)) wr.heap.size 23 (two (px, py))) := Blk.new _ _ _
      have hlen : (l.reverse.take q).length = q := by rw [List.length_take, List.length_reverse, HN.out]; omega
      have HLEN := Lib.hid hlen
      clear hlen
      go_wp2_with (at_builtin; refine wpList_append_own _ rfl _ _ 31 rfl (m + 1) 23 i0 (.agg (two (0, 0))) 2 16 Try.underlying31 hi hz0 hz1 hz2 rfl (by decide) _ _ _ rfl O4.out ⟨wr.heap.size, 0, none⟩ 1 1 [.int .i64 px, .int .i64 py] rfl rfl ?c1 ?c2 ?c3 ?c4 ?c5 ?_)
      case c1 =>
        intro j u hj
        have e0 := N4.out.p0
        have e1 := N4.out.p1
        match j, hj with
        | 0, hj => simp at hj; subst hj; simp [Addr.add, e0]
        | 1, hj => simp at hj; subst hj; simp [Addr.add, e1]
      case c2 => intro u hu; simp at hu; rcases hu with rfl | rfl <;> rfl
      case c3 => rw [HLEN.out]; unfold maxLen; omega
      case c4 => rw [HLEN.out]; omega
      case c5 => simp; omega
      · intro v' w5 hown hgrow _
        have O5 : Hid (Own w5 (m + 1) 23 v' (l.reverse.take (q + 1))) := by
          have e1 : l.reverse.take (q + 1) = l.reverse.take q ++ [(px, py)] := by rw [List.take_add_one, HRV.out]; rfl
          have e2 : (l.reverse.take (q + 1)).length = min q l.length + 1 := by rw [List.length_take, List.length_reverse]; have := HN.out; omega
          unfold Hid Own
          rw [e2, e1, flatL_append]
          exact hown
        have S5 : Hid (Blk w5 m 23 (two (sx, sy))) := own_blk O4.out hgrow S4.out (by omega)
        have B5 : Hid (Below m w w5) := own_below O4.out hgrow B4.out (by omega) (by simp; omega)
        clear hown hgrow
        go_wp2_with fail
        exact ⟨⟨q + 1, by omega, by go_num, O5.out, S5.out, B5.out⟩, by simp [intOf]; omega⟩
    · have hd : decide ((q : Int) < (n : Int)) = false := by simp; omega
      have hqn : q = n := by omega
      have R8 : Hid (Row wr u8 l.reverse) := by
        have := hw.out.1.row
        rw [hqn, ← HN.out, ← List.length_reverse, List.take_length] at this
        exact this
      have S8 := Lib.hid hw.out.2.1
      have BR := Lib.hid hw.out.2.2
      clear hw
      clear hqn
      have hmle : m ≤ wr.heap.size := Nat.le_of_lt S8.out.lt
      have hl60 : l.length ≤ 60 := by rw [HN.out]; omega
      have hkle : k ≤ n := by omega
      have hck : ¬ c = k := by have := HNC.out; omega
      have hkc : k ≤ c := by have := HNC.out; omega
      go_upto_region 10 with fail
      refine wp_region_put (by kernel_rfl) (by kernel_rfl) (by kernel_rfl) (fun b' vs w' => (b' 1 = true → vs 1 = .slice (some ⟨b, o, none⟩) n c) ∧ (b' 2 = true → vs 2 = .int .i64 k) ∧ (b' 3 = true → vs 3 = .slice (some ⟨b, o + k * 2, none⟩) (n - k) (c - k)) ∧ (b' 5 = true → vs 5 = .slice (some ⟨b, o, none⟩) n c) ∧ (b' 6 = true → vs 6 = .int .i64 k) ∧ (b' 7 = true → vs 7 = .slice (some ⟨b, o, none⟩) k c) ∧ (b' 9 = true → b' 8 = true ∧ vs 9 = vs 8) ∧ Hid (ChM wr 23 [⟨0, []⟩, ⟨4, l.drop k⟩, ⟨8, l.drop k ++ l.take k⟩] b' vs w')) ?_ ?_ ?_
      · intro vs
        exact ⟨fun h => Bool.noConfusion h, fun h => Bool.noConfusion h, fun h => Bool.noConfusion h, fun h => Bool.noConfusion h, fun h => Bool.noConfusion h, fun h => Bool.noConfusion h, fun h => Bool.noConfusion h, ChM.start vs⟩
      · rintro b' vs w' i op hi' hun hall ⟨h1, h2, h3, h5, h6, h7, h9, hM⟩
        have hil : i < 10 := (List.getElem?_eq_some_iff.1 hi').1
        have hbelow := ChM.below hM.out
        rcases i with _ | _ | _ | _ | _ | _ | _ | _ | _ | _ | i
        · obtain rfl := Option.some.inj hi'
          refine wpOp_step rfl (fun K hK => ?_)
          have HKK := Lib.hid hK; clear hK
          simp only [putAll, Act.put, List.setIfInBounds_toArray, List.set_cons_zero, List.set_cons_succ]
          go_simp
          have hmade := ChM.made (w' := w'.alloc (.cells #[] 23)) hM.out ⟨0, []⟩ (by simp) (.slice (some ⟨w'.heap.size, 0, none⟩) 0 0) (hbelow.alloc hbelow.size _) (Own.made _ hbelow.size _ _ _ _ rfl rfl (by unfold maxLen; omega)) hun (by simp) (by simp)
          exact HKK.out _ _ ⟨_, by simp only [putAll, Act.put, List.setIfInBounds_toArray, List.set_cons_zero, List.set_cons_succ] <;> rfl, h1, h2, h3, h5, h6, h7, h9, hmade⟩
        · obtain rfl := Option.some.inj hi'
          refine wpOp_step rfl (fun K hK => ?_)
          have HKK := Lib.hid hK; clear hK
          simp only [putAll, Act.put, List.setIfInBounds_toArray, List.set_cons_zero, List.set_cons_succ]
          go_simp
          exact HKK.out _ _ ⟨_, by simp only [putAll, Act.put, List.setIfInBounds_toArray, List.set_cons_zero, List.set_cons_succ] <;> rfl, fun _ => rfl, h2, h3, h5, h6, h7, h9, ChM.other hM.out 1 _ rfl⟩
        · obtain rfl := Option.some.inj hi'
          refine wpOp_step rfl (fun K hK => ?_)
          have HKK := Lib.hid hK; clear hK
          simp only [putAll, Act.put, List.setIfInBounds_toArray, List.set_cons_zero, List.set_cons_succ]
          go_simp
          exact HKK.out _ _ ⟨_, by simp only [putAll, Act.put, List.setIfInBounds_toArray, List.set_cons_zero, List.set_cons_succ] <;> rfl, h1, fun _ => rfl, h3, h5, h6, h7, h9, ChM.other hM.out 2 _ rfl⟩
        · obtain rfl := Option.some.inj hi'
          have d1 := h1 (hall ⟨1, .data⟩ (by simp) rfl)
          have d2 := h2 (hall ⟨2, .data⟩ (by simp) rfl)
          have f1 := hkle; have f2 := hck; have f3 := hkc
          refine wpOp_step rfl (fun K hK => ?_)
          have HKK := Lib.hid hK; clear hK
          simp only [putAll, Act.put, List.setIfInBounds_toArray, List.set_cons_zero, List.set_cons_succ]
          go_simp
          exact HKK.out _ _ ⟨_, by simp only [putAll, Act.put, List.setIfInBounds_toArray, List.set_cons_zero, List.set_cons_succ, d1, d2] <;> rfl, h1, h2, fun _ => rfl, h5, h6, h7, h9, ChM.other hM.out 3 _ rfl⟩
        · obtain rfl := Option.some.inj hi'
          have d3 := h3 (hall ⟨3, .data⟩ (by simp) rfl)
          have no48 : b' 8 = false := by cases h8 : b' 8; rfl; exact absurd (hM.out.2.2 ⟨4, l.drop k⟩ (by simp) ⟨8, l.drop k ++ l.take k⟩ (by simp) (by simp) h8) (by rw [hun]; simp)
          have hprev := ChM.at hM.out ⟨0, []⟩ (by simp) (hall ⟨0, .data⟩ (by simp) rfl) (by simp; exact ⟨hun, no48⟩)
          refine wpOp_step rfl (fun K hK => ?_)
          have HKK := Lib.hid hK; clear hK
          simp only [putAll, Act.put, List.setIfInBounds_toArray, List.set_cons_zero, List.set_cons_succ]
          refine (if_pos rfl).mpr (wp_append_own _ _ _ 31 rfl wr.heap.size 23 i0 (.agg (two (0, 0))) 2 16 Try.underlying31 hi hz0 hz1 hz2 rfl (by decide) _ _ _ rfl hprev ⟨b, o + k * 2, none⟩ (n - k) (c - k) (flatL (l.drop k)) d3 (by rw [flatL_length]; rw [List.length_drop, HN.out]) (news_of ((HPA.out.on (BR.out.trans (hbelow.mono hmle)) (by have := HBS.out; omega)).drop k)) (fun u hu => flatL_one _ u hu) ?_ ?_ hbelow.size ?_)
          · unfold maxLen; simp; omega
          · simp; omega
          · intro v' w5 hown hgrow _
            have ho : Own w5 wr.heap.size 23 v' (l.drop k) := by
              unfold Own
              have e : (l.drop k).length = ([] : List Pt).length + (n - k) := by rw [List.length_drop, HN.out]; simp
              rw [e]
              exact hown
            have hmade := ChM.made hM.out ⟨4, l.drop k⟩ (by simp) v' (own_below hprev hgrow hbelow (Nat.le_refl _) hbelow.size) ho hun (by simp; exact hall ⟨0, .data⟩ (by simp) rfl) (by simp)
            exact HKK.out _ _ ⟨_, by simp only [putAll, Act.put, List.setIfInBounds_toArray, List.set_cons_zero, List.set_cons_succ, d3] <;> rfl, h1, h2, h3, h5, h6, h7, h9, hmade⟩
        · obtain rfl := Option.some.inj hi'
          refine wpOp_step rfl (fun K hK => ?_)
          have HKK := Lib.hid hK; clear hK
          simp only [putAll, Act.put, List.setIfInBounds_toArray, List.set_cons_zero, List.set_cons_succ]
          go_simp
          exact HKK.out _ _ ⟨_, by simp only [putAll, Act.put, List.setIfInBounds_toArray, List.set_cons_zero, List.set_cons_succ] <;> rfl, h1, h2, h3, fun _ => rfl, h6, h7, h9, ChM.other hM.out 5 _ rfl⟩
        · obtain rfl := Option.some.inj hi'
          refine wpOp_step rfl (fun K hK => ?_)
          have HKK := Lib.hid hK; clear hK
          simp only [putAll, Act.put, List.setIfInBounds_toArray, List.set_cons_zero, List.set_cons_succ]
          go_simp
          exact HKK.out _ _ ⟨_, by simp only [putAll, Act.put, List.setIfInBounds_toArray, List.set_cons_zero, List.set_cons_succ] <;> rfl, h1, h2, h3, h5, fun _ => rfl, h7, h9, ChM.other hM.out 6 _ rfl⟩
        · obtain rfl := Option.some.inj hi'
          have d5 := h5 (hall ⟨5, .data⟩ (by simp) rfl)
          have d6 := h6 (hall ⟨6, .data⟩ (by simp) rfl)
          have f1 := hkle; have f2 := hck; have f3 := hkc
          refine wpOp_step rfl (fun K hK => ?_)
          have HKK := Lib.hid hK; clear hK
          simp only [putAll, Act.put, List.setIfInBounds_toArray, List.set_cons_zero, List.set_cons_succ]
          go_simp
          exact HKK.out _ _ ⟨_, by simp only [putAll, Act.put, List.setIfInBounds_toArray, List.set_cons_zero, List.set_cons_succ, d5, d6] <;> rfl, h1, h2, h3, h5, h6, fun _ => rfl, h9, ChM.other hM.out 7 _ rfl⟩
        · obtain rfl := Option.some.inj hi'
          have d7 := h7 (hall ⟨7, .data⟩ (by simp) rfl)
          have hprev := ChM.at hM.out ⟨4, l.drop k⟩ (by simp) (hall ⟨4, .data⟩ (by simp) rfl) (by simp; exact hun)
          refine wpOp_step rfl (fun K hK => ?_)
          have HKK := Lib.hid hK; clear hK
          simp only [putAll, Act.put, List.setIfInBounds_toArray, List.set_cons_zero, List.set_cons_succ]
          refine (if_pos rfl).mpr (wp_append_own _ _ _ 31 rfl wr.heap.size 23 i0 (.agg (two (0, 0))) 2 16 Try.underlying31 hi hz0 hz1 hz2 rfl (by decide) _ _ _ rfl hprev ⟨b, o, none⟩ (k) (c) (flatL (l.take k)) d7 (by rw [flatL_length]; rw [List.length_take, HN.out]; congr 1; omega) (news_of ((HPA.out.on (BR.out.trans (hbelow.mono hmle)) (by have := HBS.out; omega)).take k)) (fun u hu => flatL_one _ u hu) ?_ ?_ hbelow.size ?_)
          · unfold maxLen; simp; omega
          · simp; omega
          · intro v' w5 hown hgrow _
            have ho : Own w5 wr.heap.size 23 v' (l.drop k ++ l.take k) := by
              unfold Own
              have e : (l.drop k ++ l.take k).length = (l.drop k).length + k := by rw [List.length_append, List.length_take, HN.out]; omega
              rw [e, flatL_append]
              exact hown
            have hmade := ChM.made hM.out ⟨8, l.drop k ++ l.take k⟩ (by simp) v' (own_below hprev hgrow hbelow (Nat.le_refl _) hbelow.size) ho hun (by simp; exact ⟨hM.out.2.2 ⟨0, []⟩ (by simp) ⟨4, l.drop k⟩ (by simp) (by simp) (hall ⟨4, .data⟩ (by simp) rfl), hall ⟨4, .data⟩ (by simp) rfl⟩) (by simp)
            exact HKK.out _ _ ⟨_, by simp only [putAll, Act.put, List.setIfInBounds_toArray, List.set_cons_zero, List.set_cons_succ, d7] <;> rfl, h1, h2, h3, h5, h6, h7, (fun h => absurd (h9 h).1 (Bool.eq_false_iff.1 hun)), hmade⟩
        · obtain rfl := Option.some.inj hi'
          have dof := hall ⟨8, .data⟩ (by simp) rfl
          refine wpOp_step rfl (fun K hK => ?_)
          have HKK := Lib.hid hK; clear hK
          simp only [putAll, Act.put, List.setIfInBounds_toArray, List.set_cons_zero, List.set_cons_succ]
          go_simp
          exact HKK.out _ _ ⟨_, by simp only [putAll, Act.put, List.setIfInBounds_toArray, List.set_cons_zero, List.set_cons_succ] <;> rfl, h1, h2, h3, h5, h6, h7, fun _ => ⟨dof, rfl⟩, ChM.other hM.out 9 _ rfl⟩
        · omega
      · rintro b' vs w10 hall ⟨h1, h2, h3, h5, h6, h7, h9, hM⟩
        have d1 := h1 (hall 1 (by simp)); have d2 := h2 (hall 2 (by simp)); have d3 := h3 (hall 3 (by simp)); have d5 := h5 (hall 5 (by simp)); have d6 := h6 (hall 6 (by simp)); have d7 := h7 (hall 7 (by simp))
        have d9 := (h9 (hall 9 (by simp))).2
        have O10 := (ChM.at hM.out ⟨8, l.drop k ++ l.take k⟩ (by simp) (hall 8 (by simp)) (by simp)).row
        have hb10 := ChM.below hM.out
        have R10 : Hid (Row w10 (vs 8) (l.drop k ++ l.take k)) := O10
        have RA10 : Hid (Row w10 u8 l.reverse) := R8.out.on hb10
        have S10 : Hid (Blk w10 m 23 (two (sx, sy))) := S8.out.grow hb10
        have B10 : Hid (Below m w w10) := BR.out.trans (hb10.mono hmle)
        simp only [putAll, Act.put, List.setIfInBounds_toArray, List.set_cons_zero, List.set_cons_succ, d1, d2, d3, d5, d6, d7, d9]
        generalize vs 0 = a0
        generalize vs 4 = a4
        generalize vs 8 = a8 at *
        clear h1 h2 h3 h5 h6 h7 h9 hM hall d1 d2 d3 d5 d6 d7 d9 O10 hb10 vs b' R8 S8 BR hmle
        have hmle : m ≤ w10.heap.size := Nat.le_of_lt S10.out.lt
        obtain ⟨⟨zx, zy⟩, hz⟩ : ∃ p, l[n - 1]? = some p := ⟨_, List.getElem?_eq_getElem (by rw [HN.out]; omega)⟩
        have HZL := Lib.hid hz
        clear hz
        have hpos : 0 < n := by omega
        have ew1 : IntKind.i64.wrap ((n : Int) - 1) = (n : Int) - 1 := by rw [IntKind.wrap_i64]; omega
        go_upto_region 11 with fail
        refine wp_region_put (by kernel_rfl) (by kernel_rfl) (by kernel_rfl) (fun b' vs w' => (b' 1 = true → vs 1 = .slice (some ⟨b, o, none⟩) n c) ∧ (b' 3 = true → vs 3 = .slice (some ⟨b, o, none⟩) n c) ∧ (b' 4 = true → vs 4 = .slice (some ⟨b, o, none⟩) n c) ∧ (b' 5 = true → vs 5 = .int .i64 n) ∧ (b' 6 = true → vs 6 = .int .i64 ((n : Int) - 1)) ∧ (b' 7 = true → vs 7 = .pointer (some ⟨b, o + (n - 1) * 2, none⟩)) ∧ (b' 8 = true → vs 8 = .agg #[.int .i64 zx, .int .i64 zy]) ∧ (b' 11 = true → b' 10 = true ∧ vs 11 = vs 10) ∧ Hid ((fun b' vs w' => ChM w10 23 [⟨0, []⟩, ⟨2, l⟩, ⟨10, l ++ [(zx, zy)]⟩] b' vs w' ∧ TmpM (zx, zy) b' vs w') b' vs w')) ?_ ?_ ?_
        · intro vs
          exact ⟨fun h => Bool.noConfusion h, fun h => Bool.noConfusion h, fun h => Bool.noConfusion h, fun h => Bool.noConfusion h, fun h => Bool.noConfusion h, fun h => Bool.noConfusion h, fun h => Bool.noConfusion h, fun h => Bool.noConfusion h, ⟨ChM.start vs, fun h => Bool.noConfusion h⟩⟩
        · rintro b' vs w' i op hi' hun hall ⟨h1, h3, h4, h5, h6, h7, h8, h11, hM⟩
          have hil : i < 12 := (List.getElem?_eq_some_iff.1 hi').1
          have hbelow := ChM.below hM.out.1
          rcases i with _ | _ | _ | _ | _ | _ | _ | _ | _ | _ | _ | _ | i
          · obtain rfl := Option.some.inj hi'
            refine wpOp_step rfl (fun K hK => ?_)
            have HKK := Lib.hid hK; clear hK
            simp only [putAll, Act.put, List.setIfInBounds_toArray, List.set_cons_zero, List.set_cons_succ]
            go_simp
            have hmade := ChM.made (w' := w'.alloc (.cells #[] 23)) hM.out.1 ⟨0, []⟩ (by simp) (.slice (some ⟨w'.heap.size, 0, none⟩) 0 0) (hbelow.alloc hbelow.size _) (Own.made _ hbelow.size _ _ _ _ rfl rfl (by unfold maxLen; omega)) hun (by simp) (by simp)
            exact HKK.out _ _ ⟨_, by simp only [putAll, Act.put, List.setIfInBounds_toArray, List.set_cons_zero, List.set_cons_succ] <;> rfl, h1, h3, h4, h5, h6, h7, h8, h11, ⟨hmade, fun h9' h10' => by obtain ⟨g, eg, kb, _⟩ := hM.out.2 h9' h10'; exact ⟨g, eg, kb.alloc _, fun _ _ h => by have := kb.lt; simp [upd, Value.ownBlock] at h; omega⟩⟩⟩
          · obtain rfl := Option.some.inj hi'
            refine wpOp_step rfl (fun K hK => ?_)
            have HKK := Lib.hid hK; clear hK
            simp only [putAll, Act.put, List.setIfInBounds_toArray, List.set_cons_zero, List.set_cons_succ]
            go_simp
            exact HKK.out _ _ ⟨_, by simp only [putAll, Act.put, List.setIfInBounds_toArray, List.set_cons_zero, List.set_cons_succ] <;> rfl, fun _ => rfl, h3, h4, h5, h6, h7, h8, h11, ⟨ChM.other hM.out.1 1 _ rfl, hM.out.2⟩⟩
          · obtain rfl := Option.some.inj hi'
            have d1 := h1 (hall ⟨1, .data⟩ (by simp) rfl)
            have no10 : b' 10 = false := by cases h10 : b' 10; rfl; exact absurd (hM.out.1.2.2 ⟨2, l⟩ (by simp) ⟨10, l ++ [(zx, zy)]⟩ (by simp) (by simp) h10) (by rw [hun]; simp)
            have hprev := ChM.at hM.out.1 ⟨0, []⟩ (by simp) (hall ⟨0, .data⟩ (by simp) rfl) (by simp; exact ⟨hun, no10⟩)
            refine wpOp_step rfl (fun K hK => ?_)
            have HKK := Lib.hid hK; clear hK
            simp only [putAll, Act.put, List.setIfInBounds_toArray, List.set_cons_zero, List.set_cons_succ]
            refine (if_pos rfl).mpr (wp_append_own _ _ _ 31 rfl w10.heap.size 23 i0 (.agg (two (0, 0))) 2 16 Try.underlying31 hi hz0 hz1 hz2 rfl (by decide) _ _ _ rfl hprev ⟨b, o, none⟩ (n) (c) (flatL l) d1 (by rw [flatL_length]; rw [HN.out]) (news_of (HPA.out.on (B10.out.trans (hbelow.mono hmle)) (by have := HBS.out; omega))) (fun u hu => flatL_one _ u hu) ?_ ?_ hbelow.size ?_)
            · unfold maxLen; simp; omega
            · simp; omega
            · intro v' w5 hown hgrow _
              have ho : Own w5 w10.heap.size 23 v' l := by
                unfold Own
                have e : l.length = ([] : List Pt).length + n := by rw [HN.out]; simp
                rw [e]
                exact hown
              have hmade := ChM.made hM.out.1 ⟨2, l⟩ (by simp) v' (own_below hprev hgrow hbelow (Nat.le_refl _) hbelow.size) ho hun (by simp; exact hall ⟨0, .data⟩ (by simp) rfl) (by simp)
              exact HKK.out _ _ ⟨_, by simp only [putAll, Act.put, List.setIfInBounds_toArray, List.set_cons_zero, List.set_cons_succ, d1] <;> rfl, h1, h3, h4, h5, h6, h7, h8, h11, ⟨hmade, fun h9' h10' => by obtain ⟨g, eg, kb, hne⟩ := hM.out.2 h9' h10'; exact ⟨g, eg, by unfold Blk; rw [hgrow.block g kb.lt (fun h => hne hun (hall ⟨0, .data⟩ (by simp) rfl) h.symm)]; exact kb, fun h2' => absurd h2' (by simp [upd])⟩⟩⟩
          · obtain rfl := Option.some.inj hi'
            refine wpOp_step rfl (fun K hK => ?_)
            have HKK := Lib.hid hK; clear hK
            simp only [putAll, Act.put, List.setIfInBounds_toArray, List.set_cons_zero, List.set_cons_succ]
            go_simp
            exact HKK.out _ _ ⟨_, by simp only [putAll, Act.put, List.setIfInBounds_toArray, List.set_cons_zero, List.set_cons_succ] <;> rfl, h1, fun _ => rfl, h4, h5, h6, h7, h8, h11, ⟨ChM.other hM.out.1 3 _ rfl, hM.out.2⟩⟩
          · obtain rfl := Option.some.inj hi'
            refine wpOp_step rfl (fun K hK => ?_)
            have HKK := Lib.hid hK; clear hK
            simp only [putAll, Act.put, List.setIfInBounds_toArray, List.set_cons_zero, List.set_cons_succ]
            go_simp
            exact HKK.out _ _ ⟨_, by simp only [putAll, Act.put, List.setIfInBounds_toArray, List.set_cons_zero, List.set_cons_succ] <;> rfl, h1, h3, fun _ => rfl, h5, h6, h7, h8, h11, ⟨ChM.other hM.out.1 4 _ rfl, hM.out.2⟩⟩
          · obtain rfl := Option.some.inj hi'
            have d4 := h4 (hall ⟨4, .data⟩ (by simp) rfl)
            refine wpOp_step rfl (fun K hK => ?_)
            have HKK := Lib.hid hK; clear hK
            simp only [putAll, Act.put, List.setIfInBounds_toArray, List.set_cons_zero, List.set_cons_succ]
            go_simp
            exact HKK.out _ _ ⟨_, by simp only [putAll, Act.put, List.setIfInBounds_toArray, List.set_cons_zero, List.set_cons_succ, d4] <;> rfl, h1, h3, h4, fun _ => rfl, h6, h7, h8, h11, ⟨ChM.other hM.out.1 5 _ rfl, hM.out.2⟩⟩
          · obtain rfl := Option.some.inj hi'
            have d5 := h5 (hall ⟨5, .data⟩ (by simp) rfl)
            have f1 := ew1
            refine wpOp_step rfl (fun K hK => ?_)
            have HKK := Lib.hid hK; clear hK
            simp only [putAll, Act.put, List.setIfInBounds_toArray, List.set_cons_zero, List.set_cons_succ]
            go_simp
            exact HKK.out _ _ ⟨_, by simp only [putAll, Act.put, List.setIfInBounds_toArray, List.set_cons_zero, List.set_cons_succ, d5] <;> rfl, h1, h3, h4, h5, fun _ => rfl, h7, h8, h11, ⟨ChM.other hM.out.1 6 _ rfl, hM.out.2⟩⟩
          · obtain rfl := Option.some.inj hi'
            have d3 := h3 (hall ⟨3, .data⟩ (by simp) rfl)
            have d6 := h6 (hall ⟨6, .data⟩ (by simp) rfl)
            have f1 := hpos
            have f2 : (1 : Int) ≤ (n : Int) := by omega
            have f3 : (n : Int) - 1 < (n : Int) := by omega
            refine wpOp_step rfl (fun K hK => ?_)
            have HKK := Lib.hid hK; clear hK
            simp only [putAll, Act.put, List.setIfInBounds_toArray, List.set_cons_zero, List.set_cons_succ]
            go_simp
            exact HKK.out _ _ ⟨_, by simp only [putAll, Act.put, List.setIfInBounds_toArray, List.set_cons_zero, List.set_cons_succ, d3, d6] <;> rfl, h1, h3, h4, h5, h6, fun _ => rfl, h8, h11, ⟨ChM.other hM.out.1 7 _ rfl, hM.out.2⟩⟩
          · obtain rfl := Option.some.inj hi'
            have d7 := h7 (hall ⟨7, .data⟩ (by simp) rfl)
            obtain ⟨c0, c1⟩ := (HPA.out.on (B10.out.trans (hbelow.mono hmle)) (by have := HBS.out; omega)) (n - 1) (zx, zy) HZL.out
            simp only at c0 c1
            refine wpOp_step rfl (fun K hK => ?_)
            have HKK := Lib.hid hK; clear hK
            simp only [putAll, Act.put, List.setIfInBounds_toArray, List.set_cons_zero, List.set_cons_succ]
            go_simp
            exact HKK.out _ _ ⟨_, by simp only [putAll, Act.put, List.setIfInBounds_toArray, List.set_cons_zero, List.set_cons_succ, d7] <;> rfl, h1, h3, h4, h5, h6, h7, fun _ => rfl, h11, ⟨ChM.other hM.out.1 8 _ rfl, hM.out.2⟩⟩
          · obtain rfl := Option.some.inj hi'
            have d8 := h8 (hall ⟨8, .data⟩ (by simp) rfl)
            refine wpOp_step rfl (fun K hK => ?_)
            have HKK := Lib.hid hK; clear hK
            simp only [putAll, Act.put, List.setIfInBounds_toArray, List.set_cons_zero, List.set_cons_succ]
            go_simp
            refine HKK.out _ _ ⟨_, by simp only [putAll, Act.put, List.setIfInBounds_toArray, List.set_cons_zero, List.set_cons_succ, d8] <;> rfl, h1, h3, h4, h5, h6, h7, h8, h11, ⟨ChM.other (ChM.grow hM.out.1 ((Below.refl _ _).alloc (Nat.le_refl _) _)) 9 _ rfl, fun _ _ => ⟨w'.heap.size, rfl, Blk.new _ _ _, fun h2' h0' e => ?_⟩⟩⟩
            have no10 : b' 10 = false := by cases h10 : b' 10; rfl; exact absurd (hM.out.1.2.2 ⟨2, l⟩ (by simp) ⟨10, l ++ [(zx, zy)]⟩ (by simp) (by simp) h10) (Bool.eq_false_iff.1 h2')
            have ho := ChM.at hM.out.1 ⟨0, []⟩ (by simp) h0' (by simp; exact ⟨h2', no10⟩)
            have := World.ownsRow.lt ho w'.heap.size e
            omega
          · obtain rfl := Option.some.inj hi'
            obtain ⟨g, eg, kb, _⟩ := hM.out.2 (hall ⟨9, .data⟩ (by simp) rfl) hun
            have hprev := ChM.at hM.out.1 ⟨2, l⟩ (by simp) (hall ⟨2, .data⟩ (by simp) rfl) (by simp; exact hun)
            refine wpOp_step rfl (fun K hK => ?_)
            have HKK := Lib.hid hK; clear hK
            simp only [putAll, Act.put, List.setIfInBounds_toArray, List.set_cons_zero, List.set_cons_succ]
            refine (if_pos rfl).mpr (wp_append_own _ _ _ 31 rfl w10.heap.size 23 i0 (.agg (two (0, 0))) 2 16 Try.underlying31 hi hz0 hz1 hz2 rfl (by decide) _ _ _ rfl hprev ⟨g, 0, none⟩ (1) (1) (flatL [(zx, zy)]) eg (by rw [flatL_length]; rfl) (news_of (PtsAt.ofBlk (l := [(zx, zy)]) kb)) (fun u hu => flatL_one _ u hu) ?_ ?_ hbelow.size ?_)
            · unfold maxLen; simp; omega
            · simp; omega
            · intro v' w5 hown hgrow _
              have ho : Own w5 w10.heap.size 23 v' (l ++ [(zx, zy)]) := by
                unfold Own
                have e : (l ++ [((zx, zy) : Pt)]).length = l.length + 1 := by simp
                rw [e, flatL_append]
                exact hown
              have hmade := ChM.made hM.out.1 ⟨10, l ++ [(zx, zy)]⟩ (by simp) v' (own_below hprev hgrow hbelow (Nat.le_refl _) hbelow.size) ho hun (by simp; exact ⟨hM.out.1.2.2 ⟨0, []⟩ (by simp) ⟨2, l⟩ (by simp) (by simp) (hall ⟨2, .data⟩ (by simp) rfl), hall ⟨2, .data⟩ (by simp) rfl⟩) (by simp)
              exact HKK.out _ _ ⟨_, by simp only [putAll, Act.put, List.setIfInBounds_toArray, List.set_cons_zero, List.set_cons_succ] <;> rfl, h1, h3, h4, h5, h6, h7, h8, (fun h => absurd (h11 h).1 (Bool.eq_false_iff.1 hun)), ⟨hmade, fun _ h10' => absurd h10' (by simp [upd])⟩⟩
          · obtain rfl := Option.some.inj hi'
            have dof := hall ⟨10, .data⟩ (by simp) rfl
            refine wpOp_step rfl (fun K hK => ?_)
            have HKK := Lib.hid hK; clear hK
            simp only [putAll, Act.put, List.setIfInBounds_toArray, List.set_cons_zero, List.set_cons_succ]
            go_simp
            exact HKK.out _ _ ⟨_, by simp only [putAll, Act.put, List.setIfInBounds_toArray, List.set_cons_zero, List.set_cons_succ] <;> rfl, h1, h3, h4, h5, h6, h7, h8, fun _ => ⟨dof, rfl⟩, ⟨ChM.other hM.out.1 11 _ rfl, hM.out.2⟩⟩
          · omega
        · rintro b' vs w11 hall ⟨h1, h3, h4, h5, h6, h7, h8, h11, hM⟩
          have d1 := h1 (hall 1 (by simp)); have d3 := h3 (hall 3 (by simp)); have d4 := h4 (hall 4 (by simp)); have d5 := h5 (hall 5 (by simp)); have d6 := h6 (hall 6 (by simp)); have d7 := h7 (hall 7 (by simp)); have d8 := h8 (hall 8 (by simp))
          have d11 := (h11 (hall 11 (by simp))).2
          have O11 := (ChM.at hM.out.1 ⟨10, l ++ [(zx, zy)]⟩ (by simp) (hall 10 (by simp)) (by simp)).row
          have hb11 := ChM.below hM.out.1
          have R11 : Hid (Row w11 (vs 10) (l ++ [(zx, zy)])) := O11
          have RB11 : Hid (Row w11 a8 (l.drop k ++ l.take k)) := R10.out.on hb11
          have RA11 : Hid (Row w11 u8 l.reverse) := RA10.out.on hb11
          have S11 : Hid (Blk w11 m 23 (two (sx, sy))) := S10.out.grow hb11
          have B11 : Hid (Below m w w11) := B10.out.trans (hb11.mono hmle)
          simp only [putAll, Act.put, List.setIfInBounds_toArray, List.set_cons_zero, List.set_cons_succ, d1, d3, d4, d5, d6, d7, d8, d11]
          generalize vs 0 = e0
          generalize vs 2 = e2
          generalize vs 9 = e9
          generalize vs 10 = e10 at *
          clear h1 h3 h4 h5 h6 h7 h8 h11 hM hall d1 d3 d4 d5 d6 d7 d8 d11 O11 hb11 vs b' R10 RA10 S10 B10 hmle ew1
          have hmle : m ≤ w11.heap.size := Nat.le_of_lt S11.out.lt
          have hkc1 : k + 1 ≤ c := by have := HNC.out; omega
          have ek1 : IntKind.i64.wrap ((k : Int) + 1) = (k : Int) + 1 := by rw [IntKind.wrap_i64]; omega
          have O12 : Hid (Own (w11.alloc (.cells #[] 23)) w11.heap.size 23 (.slice (some ⟨w11.heap.size, 0, none⟩) 0 0) []) := Own.made w11 (Nat.le_refl _) _ [] #[] 0 rfl rfl (by unfold maxLen; omega)
          have PT : Hid (PtsAt (w11.alloc (.cells #[] 23)) b o (l.take (k + 1))) := (HPA.out.on (B11.out.alloc hmle _) (by have := HBS.out; omega)).take (k + 1)
          have hlt1 : (l.take (k + 1)).length = k + 1 := by rw [List.length_take, HN.out]; omega
          have HLT := Lib.hid hlt1
          clear hlt1
          go_upto_region 13 with (at_builtin; refine wpList_append_own _ rfl _ _ 31 rfl w11.heap.size 23 i0 (.agg (two (0, 0))) 2 16 Try.underlying31 hi hz0 hz1 hz2 rfl (by decide) _ _ _ rfl O12.out ⟨b, o, none⟩ (k + 1) c (flatL (l.take (k + 1))) rfl ?d1 ?d2 ?d3 ?d4 ?d5 ?d6 ?_)
          case d1 => rw [flatL_length, HLT.out]
          case d2 => exact news_of PT.out
          case d3 => exact fun u hu => flatL_one _ u hu
          case d4 => unfold maxLen; simp; omega
          case d5 => simp; omega
          case d6 => simp
          intro v12 w12 hown hgrow _
          have ho12 : Own w12 w11.heap.size 23 v12 (l.take (k + 1)) := by
            unfold Own
            rw [HLT.out]
            exact hown
          have hb12 : Below w11.heap.size w11 w12 := own_below O12.out hgrow ((Below.refl _ _).alloc (Nat.le_refl _) _) (Nat.le_refl _) (by simp)
          have RD12 : Hid (Row w12 v12 (l.take (k + 1))) := ho12.row
          have RC12 : Hid (Row w12 e10 (l ++ [(zx, zy)])) := R11.out.on hb12
          have RB12 : Hid (Row w12 a8 (l.drop k ++ l.take k)) := RB11.out.on hb12
          have RA12 : Hid (Row w12 u8 l.reverse) := RA11.out.on hb12
          have S12 : Hid (Blk w12 m 23 (two (sx, sy))) := S11.out.grow hb12
          have B12 : Hid (Below m w w12) := B11.out.trans (hb12.mono hmle)
          clear hown hgrow ho12 hb12 O12 PT HLT R11 RB11 RA11 S11 B11 hmle hkc1 ek1
          have hmle : m ≤ w12.heap.size := Nat.le_of_lt S12.out.lt
          obtain ⟨⟨hx, hy⟩, hh⟩ : ∃ p, l[0]? = some p := ⟨_, List.getElem?_eq_getElem (by rw [HN.out]; omega)⟩
          have HH := Lib.hid hh
          clear hh
          go_upto_region 13 with fail
          refine wp_region_put (by kernel_rfl) (by kernel_rfl) (by kernel_rfl) (fun b' vs w' => (b' 0 = true → vs 0 = .slice (some ⟨b, o, none⟩) n c) ∧ (b' 1 = true → vs 1 = .pointer (some ⟨b, o, none⟩)) ∧ (b' 2 = true → vs 2 = .agg #[.int .i64 hx, .int .i64 hy]) ∧ (b' 4 = true → vs 4 = .slice (some ⟨b, o, none⟩) n c) ∧ (b' 5 = true → vs 5 = .int .i64 k) ∧ (b' 6 = true → vs 6 = .slice (some ⟨b, o + k * 2, none⟩) (n - k) (c - k)) ∧ (b' 8 = true → b' 7 = true ∧ vs 8 = vs 7) ∧ Hid (ChM w12 23 [⟨3, [(hx, hy)]⟩, ⟨7, (hx, hy) :: l.drop k⟩] b' vs w')) ?_ ?_ ?_
          · intro vs
            exact ⟨fun h => Bool.noConfusion h, fun h => Bool.noConfusion h, fun h => Bool.noConfusion h, fun h => Bool.noConfusion h, fun h => Bool.noConfusion h, fun h => Bool.noConfusion h, fun h => Bool.noConfusion h, ChM.start vs⟩
          · rintro b' vs w' i op hi' hun hall ⟨h0, h1, h2, h4, h5, h6, h8, hM⟩
            have hil : i < 9 := (List.getElem?_eq_some_iff.1 hi').1
            have hbelow := ChM.below hM.out
            rcases i with _ | _ | _ | _ | _ | _ | _ | _ | _ | i
            · obtain rfl := Option.some.inj hi'
              refine wpOp_step rfl (fun K hK => ?_)
              have HKK := Lib.hid hK; clear hK
              simp only [putAll, Act.put, List.setIfInBounds_toArray, List.set_cons_zero, List.set_cons_succ]
              go_simp
              exact HKK.out _ _ ⟨_, by simp only [putAll, Act.put, List.setIfInBounds_toArray, List.set_cons_zero, List.set_cons_succ] <;> rfl, fun _ => rfl, h1, h2, h4, h5, h6, h8, ChM.other hM.out 0 _ rfl⟩
            · obtain rfl := Option.some.inj hi'
              have d0 := h0 (hall ⟨0, .data⟩ (by simp) rfl)
              have f1 := hpos
              refine wpOp_step rfl (fun K hK => ?_)
              have HKK := Lib.hid hK; clear hK
              simp only [putAll, Act.put, List.setIfInBounds_toArray, List.set_cons_zero, List.set_cons_succ]
              go_simp
              exact HKK.out _ _ ⟨_, by simp only [putAll, Act.put, List.setIfInBounds_toArray, List.set_cons_zero, List.set_cons_succ, d0] <;> rfl, h0, fun _ => rfl, h2, h4, h5, h6, h8, ChM.other hM.out 1 _ rfl⟩
            · obtain rfl := Option.some.inj hi'
              have d1 := h1 (hall ⟨1, .data⟩ (by simp) rfl)
              obtain ⟨c0, c1⟩ := (HPA.out.on (B12.out.trans (hbelow.mono hmle)) (by have := HBS.out; omega)) 0 (hx, hy) HH.out
              simp only [Nat.zero_mul, Nat.add_zero] at c0 c1
              refine wpOp_step rfl (fun K hK => ?_)
              have HKK := Lib.hid hK; clear hK
              simp only [putAll, Act.put, List.setIfInBounds_toArray, List.set_cons_zero, List.set_cons_succ]
              go_simp
              exact HKK.out _ _ ⟨_, by simp only [putAll, Act.put, List.setIfInBounds_toArray, List.set_cons_zero, List.set_cons_succ, d1] <;> rfl, h0, h1, fun _ => rfl, h4, h5, h6, h8, ChM.other hM.out 2 _ rfl⟩
            · obtain rfl := Option.some.inj hi'
              have d2 := h2 (hall ⟨2, .data⟩ (by simp) rfl)
              refine wpOp_step rfl (fun K hK => ?_)
              have HKK := Lib.hid hK; clear hK
              simp only [putAll, Act.put, List.setIfInBounds_toArray, List.set_cons_zero, List.set_cons_succ]
              go_simp
              have hmade := ChM.made (w' := w'.alloc (.cells #[.int .i64 hx, .int .i64 hy] 23)) hM.out ⟨3, [(hx, hy)]⟩ (by simp) (.slice (some ⟨w'.heap.size, 0, none⟩) 1 1) (hbelow.alloc hbelow.size _) (Own.made _ hbelow.size _ _ _ _ rfl rfl (by unfold maxLen; omega)) hun (by simp) (by simp)
              exact HKK.out _ _ ⟨_, by simp only [putAll, Act.put, List.setIfInBounds_toArray, List.set_cons_zero, List.set_cons_succ, d2] <;> rfl, h0, h1, h2, h4, h5, h6, h8, hmade⟩
            · obtain rfl := Option.some.inj hi'
              refine wpOp_step rfl (fun K hK => ?_)
              have HKK := Lib.hid hK; clear hK
              simp only [putAll, Act.put, List.setIfInBounds_toArray, List.set_cons_zero, List.set_cons_succ]
              go_simp
              exact HKK.out _ _ ⟨_, by simp only [putAll, Act.put, List.setIfInBounds_toArray, List.set_cons_zero, List.set_cons_succ] <;> rfl, h0, h1, h2, fun _ => rfl, h5, h6, h8, ChM.other hM.out 4 _ rfl⟩
            · obtain rfl := Option.some.inj hi'
              refine wpOp_step rfl (fun K hK => ?_)
              have HKK := Lib.hid hK; clear hK
              simp only [putAll, Act.put, List.setIfInBounds_toArray, List.set_cons_zero, List.set_cons_succ]
              go_simp
              exact HKK.out _ _ ⟨_, by simp only [putAll, Act.put, List.setIfInBounds_toArray, List.set_cons_zero, List.set_cons_succ] <;> rfl, h0, h1, h2, h4, fun _ => rfl, h6, h8, ChM.other hM.out 5 _ rfl⟩
            · obtain rfl := Option.some.inj hi'
              have d4 := h4 (hall ⟨4, .data⟩ (by simp) rfl)
              have d5 := h5 (hall ⟨5, .data⟩ (by simp) rfl)
              have f1 := hkle; have f2 := hck; have f3 := hkc
              refine wpOp_step rfl (fun K hK => ?_)
              have HKK := Lib.hid hK; clear hK
              simp only [putAll, Act.put, List.setIfInBounds_toArray, List.set_cons_zero, List.set_cons_succ]
              go_simp
              exact HKK.out _ _ ⟨_, by simp only [putAll, Act.put, List.setIfInBounds_toArray, List.set_cons_zero, List.set_cons_succ, d4, d5] <;> rfl, h0, h1, h2, h4, h5, fun _ => rfl, h8, ChM.other hM.out 6 _ rfl⟩
            · obtain rfl := Option.some.inj hi'
              have d6 := h6 (hall ⟨6, .data⟩ (by simp) rfl)
              have hprev := ChM.at hM.out ⟨3, [(hx, hy)]⟩ (by simp) (hall ⟨3, .data⟩ (by simp) rfl) (by simp; exact hun)
              refine wpOp_step rfl (fun K hK => ?_)
              have HKK := Lib.hid hK; clear hK
              simp only [putAll, Act.put, List.setIfInBounds_toArray, List.set_cons_zero, List.set_cons_succ]
              refine (if_pos rfl).mpr (wp_append_own _ _ _ 31 rfl w12.heap.size 23 i0 (.agg (two (0, 0))) 2 16 Try.underlying31 hi hz0 hz1 hz2 rfl (by decide) _ _ _ rfl hprev ⟨b, o + k * 2, none⟩ (n - k) (c - k) (flatL (l.drop k)) d6 (by rw [flatL_length]; rw [List.length_drop, HN.out]) (news_of ((HPA.out.on (B12.out.trans (hbelow.mono hmle)) (by have := HBS.out; omega)).drop k)) (fun u hu => flatL_one _ u hu) ?_ ?_ hbelow.size ?_)
              · unfold maxLen; simp; omega
              · simp; omega
              · intro v' w5 hown hgrow _
                have ho : Own w5 w12.heap.size 23 v' ((hx, hy) :: l.drop k) := by
                  unfold Own
                  have e : ((hx, hy) :: l.drop k : List Pt).length = ([(hx, hy)] : List Pt).length + (n - k) := by rw [List.length_cons, List.length_drop, HN.out]; simp; omega
                  rw [e]
                  exact hown
                have hmade := ChM.made hM.out ⟨7, (hx, hy) :: l.drop k⟩ (by simp) v' (own_below hprev hgrow hbelow (Nat.le_refl _) hbelow.size) ho hun (by simp; exact hall ⟨3, .data⟩ (by simp) rfl) (by simp)
                exact HKK.out _ _ ⟨_, by simp only [putAll, Act.put, List.setIfInBounds_toArray, List.set_cons_zero, List.set_cons_succ, d6] <;> rfl, h0, h1, h2, h4, h5, h6, (fun h => absurd (h8 h).1 (Bool.eq_false_iff.1 hun)), hmade⟩
            · obtain rfl := Option.some.inj hi'
              have dof := hall ⟨7, .data⟩ (by simp) rfl
              refine wpOp_step rfl (fun K hK => ?_)
              have HKK := Lib.hid hK; clear hK
              simp only [putAll, Act.put, List.setIfInBounds_toArray, List.set_cons_zero, List.set_cons_succ]
              go_simp
              exact HKK.out _ _ ⟨_, by simp only [putAll, Act.put, List.setIfInBounds_toArray, List.set_cons_zero, List.set_cons_succ] <;> rfl, h0, h1, h2, h4, h5, h6, fun _ => ⟨dof, rfl⟩, ChM.other hM.out 8 _ rfl⟩
            · omega
          · rintro b' vs w13 hall ⟨h0, h1, h2, h4, h5, h6, h8, hM⟩
            have d0 := h0 (hall 0 (by simp)); have d1 := h1 (hall 1 (by simp)); have d2 := h2 (hall 2 (by simp)); have d4 := h4 (hall 4 (by simp)); have d5 := h5 (hall 5 (by simp)); have d6 := h6 (hall 6 (by simp))
            have d8 := (h8 (hall 8 (by simp))).2
            have O13 := (ChM.at hM.out ⟨7, (hx, hy) :: l.drop k⟩ (by simp) (hall 7 (by simp)) (by simp)).row
            have hb13 := ChM.below hM.out
            have R13 : Hid (Row w13 (vs 7) ((hx, hy) :: l.drop k)) := O13
            have RD13 : Hid (Row w13 v12 (l.take (k + 1))) := RD12.out.on hb13
            have RC13 : Hid (Row w13 e10 (l ++ [(zx, zy)])) := RC12.out.on hb13
            have RB13 : Hid (Row w13 a8 (l.drop k ++ l.take k)) := RB12.out.on hb13
            have RA13 : Hid (Row w13 u8 l.reverse) := RA12.out.on hb13
            have S13 : Hid (Blk w13 m 23 (two (sx, sy))) := S12.out.grow hb13
            have B13 : Hid (Below m w w13) := B12.out.trans (hb13.mono hmle)
            simp only [putAll, Act.put, List.setIfInBounds_toArray, List.set_cons_zero, List.set_cons_succ, d0, d1, d2, d4, d5, d6, d8]
            generalize vs 3 = f3
            generalize vs 7 = f7 at *
            clear h0 h1 h2 h4 h5 h6 h8 hM hall d0 d1 d2 d4 d5 d6 d8 O13 hb13 vs b' RD12 RC12 RB12 RA12 S12 B12 hmle
            have hmle : m ≤ w13.heap.size := Nat.le_of_lt S13.out.lt
            have hln := HN.out
            have hlast : l.getLast? = some (zx, zy) := by rw [List.getLast?_eq_getElem?, hln]; exact HZL.out
            have HW100 : Hid (∀ w', Out w13 w' → Calls Try.prog 15 #[u8, .agg #[.int .i64 sx, .int .i64 sy]] w' fun e w'' => e = .returned (.int .i64 (-ws)) ∧ Below w'.heap.size w' w'') := fun w' h => by have := HWI.out w' _ l.reverse (by simp; omega) (RA13.out.on h) (room_sub HA.out (fun p hp => List.mem_reverse.1 hp)); rwa [HWB.out] at this
            have HW107 : Hid (∀ w', Out w13 w' → Calls Try.prog 15 #[a8, .agg #[.int .i64 sx, .int .i64 sy]] w' fun e w'' => e = .returned (.int .i64 ws) ∧ Below w'.heap.size w' w'') := fun w' h => by have := HWI.out w' _ (l.drop k ++ l.take k) (by simp; omega) (RB13.out.on h) (room_sub HA.out (fun p hp => by rcases List.mem_append.1 hp with h | h; exact List.mem_of_mem_drop h; exact List.mem_of_mem_take h)); rwa [winds_moved, HWS.out] at this
            have HW114 : Hid (∀ w', Out w13 w' → Calls Try.prog 15 #[e10, .agg #[.int .i64 sx, .int .i64 sy]] w' fun e w'' => e = .returned (.int .i64 ws) ∧ Below w'.heap.size w' w'') := fun w' h => by have := HWI.out w' _ (l ++ [(zx, zy)]) (by simp; omega) (RC13.out.on h) (room_sub HA.out (fun p hp => by rcases List.mem_append.1 hp with h | h; exact h; rw [List.mem_singleton] at h; subst h; exact List.mem_of_getElem? HZL.out)); rwa [winds_twice l _ _ hlast, HWS.out] at this
            have hsum := winds_split l k (by rw [hln]; exact hkn) (hx, hy) (sx, sy) HH.out
            rw [HWS.out] at hsum
            obtain ⟨wa, hwa⟩ : ∃ x, windsI (l.take (k + 1)) (sx, sy) = x := ⟨_, rfl⟩
            obtain ⟨wb, hwb2⟩ : ∃ x, windsI ((hx, hy) :: l.drop k) (sx, sy) = x := ⟨_, rfl⟩
            rw [hwa, hwb2] at hsum
            have HW121 : Hid (∀ w', Out w13 w' → Calls Try.prog 15 #[v12, .agg #[.int .i64 sx, .int .i64 sy]] w' fun e w'' => e = .returned (.int .i64 wa) ∧ Below w'.heap.size w' w'') := fun w' h => by have := HWI.out w' _ (l.take (k + 1)) (by simp; omega) (RD13.out.on h) (room_sub HA.out (fun p hp => List.mem_of_mem_take hp)); rwa [hwa] at this
            have HW124 : Hid (∀ w', Out w13 w' → Calls Try.prog 15 #[f7, .agg #[.int .i64 sx, .int .i64 sy]] w' fun e w'' => e = .returned (.int .i64 wb) ∧ Below w'.heap.size w' w'') := fun w' h => by have := HWI.out w' _ ((hx, hy) :: l.drop k) (by simp; omega) (R13.out.on h) (room_sub HA.out (fun p hp => by rcases List.mem_cons.1 hp with h | h; subst h; exact List.mem_of_getElem? HH.out; exact List.mem_of_mem_drop h)); rwa [hwb2] at this
            have e1 : IntKind.i64.wrap (-ws) = -ws := by rw [IntKind.wrap_i64]; omega
            have e2 : wrap64 (-ws) = -ws := by unfold wrap64; omega
            have e3 : IntKind.i64.wrap (wa + wb) = ws := by rw [IntKind.wrap_i64, hsum]; omega
            have HQ : Hid (∀ w', Out w13 w' → w'.cell? ⟨m, 0, none⟩ = some (.int .i64 sx) ∧ w'.cell? ⟨m, 1, none⟩ = some (.int .i64 sy)) := fun w' h => ⟨(S13.out.grow h).p0, (S13.out.grow h).p1⟩
            clear hsum hwa hwb2 hlast hln hwb HWB HWS
            go_wp2_with fail
            refine wp_region_quiet (C := Out w13) (by kernel_rfl) (by kernel_rfl) ⟨rfl, rfl, rfl, Nat.le_refl _, fun _ _ => rfl⟩ ?_
            refine BigFrame.wpQuiet_want rfl (fun K hK => ?_)
            refine quiet_val (u8) (fun w' hw' => by go_simp) (hK _ ?_)
            clear hK K
            simp only [Act.put, List.setIfInBounds_toArray, List.set_cons_zero, List.set_cons_succ]
            refine BigFrame.wpQuiet_want rfl (fun K hK => ?_)
            refine quiet_val (.agg #[.int .i64 sx, .int .i64 sy]) (fun w' hw' => by obtain ⟨q0, q1⟩ := HQ.out w' hw'; go_simp) (hK _ ?_)
            clear hK K
            simp only [Act.put, List.setIfInBounds_toArray, List.set_cons_zero, List.set_cons_succ]
            refine BigFrame.wpQuiet_want rfl (fun K hK => ?_)
            refine quiet_call 15 #[u8, .agg #[.int .i64 sx, .int .i64 sy]] (.int .i64 (-ws)) (fun w' _ => by go_simp) (fun w' hw' => Calls.out hw' (HW100.out _ hw')) (hK _ ?_)
            clear hK K
            simp only [Act.put, List.setIfInBounds_toArray, List.set_cons_zero, List.set_cons_succ]
            refine BigFrame.wpQuiet_want rfl (fun K hK => ?_)
            refine quiet_val (.int .i64 ws) (fun w' hw' => by go_simp) (hK _ ?_)
            clear hK K
            simp only [Act.put, List.setIfInBounds_toArray, List.set_cons_zero, List.set_cons_succ]
            refine BigFrame.wpQuiet_want rfl (fun K hK => ?_)
            refine quiet_val (.int .i64 (-ws)) (fun w' hw' => by go_simp) (hK _ ?_)
            clear hK K
            simp only [Act.put, List.setIfInBounds_toArray, List.set_cons_zero, List.set_cons_succ]
            refine BigFrame.wpQuiet_want rfl (fun K hK => ?_)
            refine quiet_val (.bool true) (fun w' hw' => by go_simp) (hK _ ?_)
            clear hK K
            simp only [Act.put, List.setIfInBounds_toArray, List.set_cons_zero, List.set_cons_succ]
            refine BigFrame.wpQuiet_want rfl (fun K hK => ?_)
            refine quiet_val (.bool true) (fun w' hw' => by go_simp) (hK _ ?_)
            clear hK K
            simp only [Act.put, List.setIfInBounds_toArray, List.set_cons_zero, List.set_cons_succ]
            refine BigFrame.wpQuiet_want rfl (fun K hK => ?_)
            refine quiet_val (a8) (fun w' hw' => by go_simp) (hK _ ?_)
            clear hK K
            simp only [Act.put, List.setIfInBounds_toArray, List.set_cons_zero, List.set_cons_succ]
            refine BigFrame.wpQuiet_want rfl (fun K hK => ?_)
            refine quiet_val (.agg #[.int .i64 sx, .int .i64 sy]) (fun w' hw' => by obtain ⟨q0, q1⟩ := HQ.out w' hw'; go_simp) (hK _ ?_)
            clear hK K
            simp only [Act.put, List.setIfInBounds_toArray, List.set_cons_zero, List.set_cons_succ]
            refine BigFrame.wpQuiet_want rfl (fun K hK => ?_)
            refine quiet_call 15 #[a8, .agg #[.int .i64 sx, .int .i64 sy]] (.int .i64 ws) (fun w' _ => by go_simp) (fun w' hw' => Calls.out hw' (HW107.out _ hw')) (hK _ ?_)
            clear hK K
            simp only [Act.put, List.setIfInBounds_toArray, List.set_cons_zero, List.set_cons_succ]
            refine BigFrame.wpQuiet_want rfl (fun K hK => ?_)
            refine quiet_val (.int .i64 ws) (fun w' hw' => by go_simp) (hK _ ?_)
            clear hK K
            simp only [Act.put, List.setIfInBounds_toArray, List.set_cons_zero, List.set_cons_succ]
            refine BigFrame.wpQuiet_want rfl (fun K hK => ?_)
            refine quiet_val (.bool true) (fun w' hw' => by go_simp) (hK _ ?_)
            clear hK K
            simp only [Act.put, List.setIfInBounds_toArray, List.set_cons_zero, List.set_cons_succ]
            refine BigFrame.wpQuiet_want rfl (fun K hK => ?_)
            refine quiet_val (.bool true) (fun w' hw' => by go_simp) (hK _ ?_)
            clear hK K
            simp only [Act.put, List.setIfInBounds_toArray, List.set_cons_zero, List.set_cons_succ]
            refine BigFrame.wpQuiet_want rfl (fun K hK => ?_)
            refine quiet_val (.bool true) (fun w' hw' => by go_simp) (hK _ ?_)
            clear hK K
            simp only [Act.put, List.setIfInBounds_toArray, List.set_cons_zero, List.set_cons_succ]
            refine BigFrame.wpQuiet_want rfl (fun K hK => ?_)
            refine quiet_val (e10) (fun w' hw' => by go_simp) (hK _ ?_)
            clear hK K
            simp only [Act.put, List.setIfInBounds_toArray, List.set_cons_zero, List.set_cons_succ]
            refine BigFrame.wpQuiet_want rfl (fun K hK => ?_)
            refine quiet_val (.agg #[.int .i64 sx, .int .i64 sy]) (fun w' hw' => by obtain ⟨q0, q1⟩ := HQ.out w' hw'; go_simp) (hK _ ?_)
            clear hK K
            simp only [Act.put, List.setIfInBounds_toArray, List.set_cons_zero, List.set_cons_succ]
            refine BigFrame.wpQuiet_want rfl (fun K hK => ?_)
            refine quiet_call 15 #[e10, .agg #[.int .i64 sx, .int .i64 sy]] (.int .i64 ws) (fun w' _ => by go_simp) (fun w' hw' => Calls.out hw' (HW114.out _ hw')) (hK _ ?_)
            clear hK K
            simp only [Act.put, List.setIfInBounds_toArray, List.set_cons_zero, List.set_cons_succ]
            refine BigFrame.wpQuiet_want rfl (fun K hK => ?_)
            refine quiet_val (.int .i64 ws) (fun w' hw' => by go_simp) (hK _ ?_)
            clear hK K
            simp only [Act.put, List.setIfInBounds_toArray, List.set_cons_zero, List.set_cons_succ]
            refine BigFrame.wpQuiet_want rfl (fun K hK => ?_)
            refine quiet_val (.bool true) (fun w' hw' => by go_simp) (hK _ ?_)
            clear hK K
            simp only [Act.put, List.setIfInBounds_toArray, List.set_cons_zero, List.set_cons_succ]
            refine BigFrame.wpQuiet_want rfl (fun K hK => ?_)
            refine quiet_val (.bool true) (fun w' hw' => by go_simp) (hK _ ?_)
            clear hK K
            simp only [Act.put, List.setIfInBounds_toArray, List.set_cons_zero, List.set_cons_succ]
            refine BigFrame.wpQuiet_want rfl (fun K hK => ?_)
            refine quiet_val (.bool true) (fun w' hw' => by go_simp) (hK _ ?_)
            clear hK K
            simp only [Act.put, List.setIfInBounds_toArray, List.set_cons_zero, List.set_cons_succ]
            refine BigFrame.wpQuiet_want rfl (fun K hK => ?_)
            refine quiet_val (v12) (fun w' hw' => by go_simp) (hK _ ?_)
            clear hK K
            simp only [Act.put, List.setIfInBounds_toArray, List.set_cons_zero, List.set_cons_succ]
            refine BigFrame.wpQuiet_want rfl (fun K hK => ?_)
            refine quiet_val (.agg #[.int .i64 sx, .int .i64 sy]) (fun w' hw' => by obtain ⟨q0, q1⟩ := HQ.out w' hw'; go_simp) (hK _ ?_)
            clear hK K
            simp only [Act.put, List.setIfInBounds_toArray, List.set_cons_zero, List.set_cons_succ]
            refine BigFrame.wpQuiet_want rfl (fun K hK => ?_)
            refine quiet_call 15 #[v12, .agg #[.int .i64 sx, .int .i64 sy]] (.int .i64 wa) (fun w' _ => by go_simp) (fun w' hw' => Calls.out hw' (HW121.out _ hw')) (hK _ ?_)
            clear hK K
            simp only [Act.put, List.setIfInBounds_toArray, List.set_cons_zero, List.set_cons_succ]
            refine BigFrame.wpQuiet_want rfl (fun K hK => ?_)
            refine quiet_val (f7) (fun w' hw' => by go_simp) (hK _ ?_)
            clear hK K
            simp only [Act.put, List.setIfInBounds_toArray, List.set_cons_zero, List.set_cons_succ]
            refine BigFrame.wpQuiet_want rfl (fun K hK => ?_)
            refine quiet_val (.agg #[.int .i64 sx, .int .i64 sy]) (fun w' hw' => by obtain ⟨q0, q1⟩ := HQ.out w' hw'; go_simp) (hK _ ?_)
            clear hK K
            simp only [Act.put, List.setIfInBounds_toArray, List.set_cons_zero, List.set_cons_succ]
            refine BigFrame.wpQuiet_want rfl (fun K hK => ?_)
            refine quiet_call 15 #[f7, .agg #[.int .i64 sx, .int .i64 sy]] (.int .i64 wb) (fun w' _ => by go_simp) (fun w' hw' => Calls.out hw' (HW124.out _ hw')) (hK _ ?_)
            clear hK K
            simp only [Act.put, List.setIfInBounds_toArray, List.set_cons_zero, List.set_cons_succ]
            refine BigFrame.wpQuiet_want rfl (fun K hK => ?_)
            refine quiet_val (.int .i64 ws) (fun w' hw' => by go_simp) (hK _ ?_)
            clear hK K
            simp only [Act.put, List.setIfInBounds_toArray, List.set_cons_zero, List.set_cons_succ]
            refine BigFrame.wpQuiet_want rfl (fun K hK => ?_)
            refine quiet_val (.int .i64 ws) (fun w' hw' => by go_simp) (hK _ ?_)
            clear hK K
            simp only [Act.put, List.setIfInBounds_toArray, List.set_cons_zero, List.set_cons_succ]
            refine BigFrame.wpQuiet_want rfl (fun K hK => ?_)
            refine quiet_val (.bool true) (fun w' hw' => by go_simp) (hK _ ?_)
            clear hK K
            simp only [Act.put, List.setIfInBounds_toArray, List.set_cons_zero, List.set_cons_succ]
            refine BigFrame.wpQuiet_want rfl (fun K hK => ?_)
            refine quiet_val (.bool true) (fun w' hw' => by go_simp) (hK _ ?_)
            clear hK K
            simp only [Act.put, List.setIfInBounds_toArray, List.set_cons_zero, List.set_cons_succ]
            refine BigFrame.wpQuiet_want rfl (fun K hK => ?_)
            refine quiet_val (.bool true) (fun w' hw' => by go_simp) (hK _ ?_)
            clear hK K
            simp only [Act.put, List.setIfInBounds_toArray, List.set_cons_zero, List.set_cons_succ]
            refine BigFrame.wpQuiet_want rfl (fun K hK => ?_)
            refine quiet_call 11 #[] (.bool true) (fun w' _ => by go_simp) (fun w' hw' => Calls.out hw' (HAW.out _)) (hK _ ?_)
            clear hK K
            simp only [Act.put, List.setIfInBounds_toArray, List.set_cons_zero, List.set_cons_succ]
            refine BigFrame.wpQuiet_want rfl (fun K hK => ?_)
            refine quiet_val (.bool true) (fun w' hw' => by go_simp) (hK _ ?_)
            clear hK K
            simp only [Act.put, List.setIfInBounds_toArray, List.set_cons_zero, List.set_cons_succ]
            refine BigFrame.wpQuiet_want rfl (fun K hK => ?_)
            refine quiet_val (.bool true) (fun w' hw' => by go_simp) (hK _ ?_)
            clear hK K
            simp only [Act.put, List.setIfInBounds_toArray, List.set_cons_zero, List.set_cons_succ]
            refine wpQuiet_nil ?_
            intro w' hw'
            have Hw : Hid (Below m w w') := B13.out.trans (hw'.mono hmle)
            clear hw'
            go_wp2_with fail
            go_ret
            exact ⟨rfl, by rw [Hm.out]; exact Hw.out⟩
end Go.Proofs.Ytbllbncmeihaaaa
