/- The law on windings. -/
import Derived.Test.YtbllbncmeihaaaaHf
namespace Go.Proofs.Ytbllbncmeihaaaa
open Go.RowKit
set_option maxHeartbeats 2000000 in
set_option maxRecDepth 100000 in
theorem winds_law (w : World) (v : Value) (l : List Pt) (row : Row w v l) (sx sy : Int) : Calls Try.prog 4 #[v, .agg #[.int .i64 sx, .int .i64 sy]] w fun e w' => e = .returned (.bool true) ∧ Below w.heap.size w w' := by
  obtain ⟨ao, c, rfl⟩ := row.shape
  obtain ⟨n, hn⟩ : ∃ n, l.length = n := ⟨_, rfl⟩
  rw [hn] at row ⊢
  have HN := Lib.hid hn
  have HROW := Lib.hid row
  have HAW := Lib.hid awake_c
  have HREF := Lib.hid ref_c
  obtain ⟨W, hW⟩ : ∃ W, w.alloc (.cells #[.int .i64 sx, .int .i64 sy] 23) = W := ⟨_, rfl⟩
  have hS : Blk W w.heap.size 23 (two (sx, sy)) := by rw [← hW]; exact Blk.new _ _ _
  have hB : Below w.heap.size w W := by rw [← hW]; exact (Below.refl _ _).alloc (Nat.le_refl _) _
  have HS := Lib.hid hS; have HB := Lib.hid hB; have HW := Lib.hid hW
  obtain ⟨m, hm⟩ : ∃ m, w.heap.size = m := ⟨_, rfl⟩
  have Hm := Lib.hid hm
  rw [hm] at HS HB
  have hsz : m < W.heap.size := by have := hS.lt; omega
  have HZ := Lib.hid hsz
  clear hn row hW hS hB hsz
  by_cases h60 : n > 60
  · go_enter Try.func4, Try.ntmps4
    go_wp2_with fail
    refine (HAW.out _).mono ?_
    rintro e w1 ⟨rfl, hb⟩
    rw [HW.out] at hb
    have B1 : Hid (Below m w w1) := HB.out.trans (hb.mono (by have := HZ.out; omega))
    clear hb
    go_wp2_with fail
    go_ret
    exact ⟨rfl, by rw [Hm.out]; exact B1.out⟩
  · have hl : l.length ≤ 1000 := by rw [HN.out]; omega
    have HL := Lib.hid hl
    have rowW : Row W (.slice ao n c) l := HROW.out.on (by rw [hm]; exact HB.out)
    have HIN : Hid (∀ w', Below W.heap.size W w' → Calls Try.prog 10 #[.slice ao n c] w' fun e w'' => e = .returned (.bool (l.all roomP)) ∧ Below w'.heap.size w' w'') := fun w' h => in_c _ l w' hl (rowW.on h)
    have HR := Lib.hid rowW
    clear hl rowW
    go_enter Try.func4, Try.ntmps4
    go_wp2_with fail
    rw [HW.out]
    refine (HIN.out _ (Below.refl _ _)).mono ?_
    rintro e w1 ⟨rfl, hb1⟩
    have s1 := HS.out.grow hb1
    have q0 := s1.p0
    have q1 := s1.p1
    have B1 := Lib.hid hb1
    clear s1 hb1
    cases ha : l.all roomP
    · go_wp2_with fail
      refine (HAW.out _).mono ?_
      rintro e w2 ⟨rfl, hb2⟩
      have B2 : Hid (Below m w w2) := HB.out.trans ((below_next B1.out hb2).mono (by have := HZ.out; omega))
      clear hb2
      go_wp2_with fail
      go_ret
      exact ⟨rfl, by rw [Hm.out]; exact B2.out⟩
    · have HA := Lib.hid ha
      clear ha
      go_wp2_with fail
      refine (in_c _ [(sx, sy)] _ (by simp) (Row.new w1 [(sx, sy)] _ _ 1 rfl rfl)).mono ?_
      rintro e w2 ⟨rfl, hb2⟩
      have B2 : Hid (Below W.heap.size W w2) := below_next (B1.out.alloc B1.out.size _) hb2
      have s2 := HS.out.grow B2.out
      clear q0 q1 hb2
      have q0 := s2.p0
      have q1 := s2.p1
      have S2 := Lib.hid s2
      clear s2
      cases hs : [(sx, sy)].all roomP
      · go_wp2_with fail
        refine (HAW.out _).mono ?_
        rintro e w3 ⟨rfl, hb3⟩
        have B3 : Hid (Below m w w3) := HB.out.trans ((below_next B2.out hb3).mono (by have := HZ.out; omega))
        clear hb3
        go_wp2_with fail
        go_ret
        exact ⟨rfl, by rw [Hm.out]; exact B3.out⟩
      · have hsr : roomP (sx, sy) = true := by simpa using hs
        have HSR := Lib.hid hsr
        clear hs hsr
        clear q0 q1
        have hmw2 : m < w2.heap.size := S2.out.lt
        have BW : Hid (Below m w w2) := HB.out.trans (B2.out.mono (by have := HZ.out; omega))
        obtain ⟨i0, hi, hz0, hz1, hz2⟩ := info_parts infoR
        go_wp2_with fail
        go_loopw [5, 25] (fun x i wr => ∃ k : Nat, k ≤ n ∧ i = .int .i64 k ∧ Hid (Own wr (m + 1) 28 x (l.take k) ∧ Blk wr m 23 (two (sx, sy)) ∧ Below m w wr)) (fun _ i _ => n - (intOf i).toNat)
        case atStart => exact ⟨0, by omega, rfl, Own.nil _ _ _, S2.out, BW.out⟩
        case round =>
          obtain ⟨k, hk, rfl, hw⟩ := hrel
          by_cases hlt : k < n
          · have hd : decide ((k : Int) < (n : Int)) = true := by simp; omega
            obtain ⟨b, o, rfl, hbs, hpa⟩ := Row.addr HROW.out (k := k) (by rw [HN.out]; exact hlt)
            obtain ⟨⟨px, py⟩, hq⟩ : ∃ p, l[k]? = some p := ⟨_, List.getElem?_eq_getElem (by rw [HN.out]; exact hlt)⟩
            obtain ⟨c0, c1⟩ := (hpa.on hw.out.2.2 (by omega)) k (px, py) hq
            have HQ := Lib.hid hq
            have hms : m < wr.heap.size := hw.out.2.1.lt
            simp only at c0 c1
            clear hpa hq hbs
            go_wp2_with fail
            refine (HREF.out _ _ _).mono ?_
            rintro e w4 ⟨rfl, hb4⟩
            have O4 : Hid (Own (w4.alloc (.cells #[.int .i64 px, .int .i64 py] 28)) (m + 1) 28 u5 (l.take k)) := (Own.grow hw.out.1 (below_next ((Below.refl _ _).alloc (Nat.le_refl _) _) hb4)).grow ((Below.refl _ _).alloc (Nat.le_refl _) _)
            have S4 : Hid (Blk (w4.alloc (.cells #[.int .i64 px, .int .i64 py] 28)) m 23 (two (sx, sy))) := ((hw.out.2.1.alloc _).grow hb4).alloc _
            have B4 : Hid (Below m w (w4.alloc (.cells #[.int .i64 px, .int .i64 py] 28))) := ((hw.out.2.2.alloc (by omega) _).trans (hb4.mono (by simp; omega))).alloc (by have := hb4.size; simp at this; omega) _
            have hs4 : m < w4.heap.size := by have := hb4.size; simp at this; omega
            have N4 : Hid (Blk (w4.alloc (.cells #[.int .i64 px, .int .i64 py] 28)) w4.heap.size 28 (two (px, py))) := Blk.new _ _ _
            have hlen : (l.take k).length = k := by rw [List.length_take, HN.out]; omega
            have HLEN := Lib.hid hlen
            clear hb4 hlen
            go_wp2_with (at_builtin; refine wpList_append_own _ rfl _ _ 32 rfl (m + 1) 28 i0 (.agg (two (0, 0))) 2 16 Try.underlying32 hi hz0 hz1 hz2 rfl (by decide) _ _ _ rfl O4.out ⟨w4.heap.size, 0, none⟩ 1 1 [.int .i64 px, .int .i64 py] rfl rfl ?c1 ?c2 ?c3 ?c4 ?c5 ?_)
            case c1 =>
              intro j u hj
              have e0 := N4.out.p0
              have e1 := N4.out.p1
              match j, hj with
              | 0, hj => simp at hj; subst hj; simp [Addr.add, e0]
              | 1, hj => simp at hj; subst hj; simp [Addr.add, e1]
            case c2 => intro u hu; simp at hu; rcases hu with rfl | rfl <;> rfl
            case c3 => rw [HLEN.out]; unfold maxLen; omega
            case c4 => rw [HLEN.out]; omega
            case c5 => simp; omega
            · intro v' w5 hown hgrow _
              have O5 : Hid (Own w5 (m + 1) 28 v' (l.take (k + 1))) := by
                have e1 : l.take (k + 1) = l.take k ++ [(px, py)] := by rw [List.take_add_one, HQ.out]; rfl
                have e2 : (l.take (k + 1)).length = min k l.length + 1 := by rw [List.length_take]; have := HN.out; omega
                unfold Hid Own
                rw [e2, e1, flatL_append]
                exact hown
              have S5 : Hid (Blk w5 m 23 (two (sx, sy))) := own_blk O4.out hgrow S4.out (by omega)
              have B5 : Hid (Below m w w5) := own_below O4.out hgrow B4.out (by omega) (by simp; omega)
              clear hown hgrow
              go_wp2_with fail
              exact ⟨⟨k + 1, by omega, by go_num, O5.out, S5.out, B5.out⟩, by simp [intOf]; omega⟩
          · have hd : decide ((k : Int) < (n : Int)) = false := by simp; omega
            have hkn : k = n := by omega
            have hx : Row wr u5 l := by
              have := hw.out.1.row
              rwa [hkn, ← HN.out, List.take_length] at this
            have hl := HL.out
            have HW1 : Hid (∀ w', Out wr w' → Calls Try.prog 15 #[.slice ao n c, .agg #[.int .i64 sx, .int .i64 sy]] w' fun e w'' => e = .returned (.int .i64 (windsI l (sx, sy))) ∧ Below w'.heap.size w' w'') := fun w' h => winds_c _ l sx sy w' hl ((HROW.out.on (by rw [hm]; exact hw.out.2.2)).on h) HA.out HSR.out
            have HW2 : Hid (∀ w', Out wr w' → Calls Try.prog 16 #[u5, .agg #[.int .i64 sx, .int .i64 sy]] w' fun e w'' => e = .returned (.int .i64 (windsI l (sx, sy))) ∧ Below w'.heap.size w' w'') := fun w' h => refWinds_c _ l sx sy w' hl (hx.on h) HA.out HSR.out
            have HQ : Hid (∀ w', Out wr w' → w'.cell? ⟨m, 0, none⟩ = some (.int .i64 sx) ∧ w'.cell? ⟨m, 1, none⟩ = some (.int .i64 sy)) := fun w' h => ⟨(hw.out.2.1.grow h).p0, (hw.out.2.1.grow h).p1⟩
            have BR := Lib.hid hw.out.2.2
            have hmr : m < wr.heap.size := hw.out.2.1.lt
            generalize windsI l (sx, sy) = ws at *
            clear hw hx hl
            go_wp2_with fail
            refine wp_region_quiet (C := Out wr) (by kernel_rfl) (by kernel_rfl) ⟨rfl, rfl, rfl, Nat.le_refl _, fun _ _ => rfl⟩ ?_
            refine BigFrame.wpQuiet_want rfl (fun K hK => ?_)
            refine quiet_val (.slice ao n c) (fun w' hw' => by go_simp) (hK _ ?_)
            clear hK K
            simp only [Act.put, List.setIfInBounds_toArray, List.set_cons_zero, List.set_cons_succ]
            refine BigFrame.wpQuiet_want rfl (fun K hK => ?_)
            refine quiet_val (.agg #[.int .i64 sx, .int .i64 sy]) (fun w' hw' => by obtain ⟨q0, q1⟩ := HQ.out w' hw'; go_simp) (hK _ ?_)
            clear hK K
            simp only [Act.put, List.setIfInBounds_toArray, List.set_cons_zero, List.set_cons_succ]
            refine BigFrame.wpQuiet_want rfl (fun K hK => ?_)
            refine quiet_call 15 #[.slice ao n c, .agg #[.int .i64 sx, .int .i64 sy]] (.int .i64 ws) (fun w' _ => by go_simp) (fun w' hw' => Calls.out hw' (HW1.out _ hw')) (hK _ ?_)
            clear hK K
            simp only [Act.put, List.setIfInBounds_toArray, List.set_cons_zero, List.set_cons_succ]
            refine BigFrame.wpQuiet_want rfl (fun K hK => ?_)
            refine quiet_val (u5) (fun w' hw' => by go_simp) (hK _ ?_)
            clear hK K
            simp only [Act.put, List.setIfInBounds_toArray, List.set_cons_zero, List.set_cons_succ]
            refine BigFrame.wpQuiet_want rfl (fun K hK => ?_)
            refine quiet_val (.agg #[.int .i64 sx, .int .i64 sy]) (fun w' hw' => by obtain ⟨q0, q1⟩ := HQ.out w' hw'; go_simp) (hK _ ?_)
            clear hK K
            simp only [Act.put, List.setIfInBounds_toArray, List.set_cons_zero, List.set_cons_succ]
            refine BigFrame.wpQuiet_want rfl (fun K hK => ?_)
            refine quiet_call 14 #[.agg #[.int .i64 sx, .int .i64 sy]] (.agg #[.int .i64 sx, .int .i64 sy]) (fun w' _ => by go_simp) (fun w' hw' => Calls.out hw' (HREF.out _ _ _)) (hK _ ?_)
            clear hK K
            simp only [Act.put, List.setIfInBounds_toArray, List.set_cons_zero, List.set_cons_succ]
            refine BigFrame.wpQuiet_want rfl (fun K hK => ?_)
            refine quiet_call 16 #[u5, .agg #[.int .i64 sx, .int .i64 sy]] (.int .i64 ws) (fun w' _ => by go_simp) (fun w' hw' => Calls.out hw' (HW2.out _ hw')) (hK _ ?_)
            clear hK K
            simp only [Act.put, List.setIfInBounds_toArray, List.set_cons_zero, List.set_cons_succ]
            refine BigFrame.wpQuiet_want rfl (fun K hK => ?_)
            refine quiet_val (.bool true) (fun w' hw' => by go_simp) (hK _ ?_)
            clear hK K
            simp only [Act.put, List.setIfInBounds_toArray, List.set_cons_zero, List.set_cons_succ]
            refine BigFrame.wpQuiet_want rfl (fun K hK => ?_)
            refine quiet_val (.bool true) (fun w' hw' => by go_simp) (hK _ ?_)
            clear hK K
            simp only [Act.put, List.setIfInBounds_toArray, List.set_cons_zero, List.set_cons_succ]
            refine BigFrame.wpQuiet_want rfl (fun K hK => ?_)
            refine quiet_call 11 #[] (.bool true) (fun w' _ => by go_simp) (fun w' hw' => Calls.out hw' (HAW.out _)) (hK _ ?_)
            clear hK K
            simp only [Act.put, List.setIfInBounds_toArray, List.set_cons_zero, List.set_cons_succ]
            refine BigFrame.wpQuiet_want rfl (fun K hK => ?_)
            refine quiet_val (.bool true) (fun w' hw' => by go_simp) (hK _ ?_)
            clear hK K
            simp only [Act.put, List.setIfInBounds_toArray, List.set_cons_zero, List.set_cons_succ]
            refine BigFrame.wpQuiet_want rfl (fun K hK => ?_)
            refine quiet_val (.bool true) (fun w' hw' => by go_simp) (hK _ ?_)
            clear hK K
            simp only [Act.put, List.setIfInBounds_toArray, List.set_cons_zero, List.set_cons_succ]
            refine wpQuiet_nil ?_
            intro w' hw'
            have Hw : Hid (Below m w w') := BR.out.trans (hw'.mono (by omega))
            clear hw'
            go_wp2_with fail
            go_ret
            exact ⟨rfl, by rw [Hm.out]; exact Hw.out⟩
end Go.Proofs.Ytbllbncmeihaaaa
