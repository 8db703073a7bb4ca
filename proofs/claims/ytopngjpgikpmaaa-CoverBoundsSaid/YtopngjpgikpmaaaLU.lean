/- The walk of the statement CoverBounds. -/
import Derived.Test.YtopngjpgikpmaaaCq
import Derived.Test.YtopngjpgikpmaaaLM
namespace Go.Proofs.Ytopngjpgikpmaaa
open Go.RowKit
def SmallU (S : List (Value × List Pt)) (w : World) (e : Ending) (w' : World) : Prop := ∃ r, e = .returned (.bool r) ∧ (r = true → Small S ⟨0, 0, 0, 0⟩ ∧ (S.map Prod.snd).flatten.length ≤ 60) ∧ Below w.heap.size w w'
def MaskU (W : World) (z : Int) (M : List Nat) (e : Ending) (w' : World) : Prop := ∃ v, e = .returned (.tuple #[v, .int .i64 z]) ∧ VRow w' v (bytesL M) ∧ Below W.heap.size W w'
theorem mask_one (P : List (List Pt)) (rule x y : Int) (hx : -1048576 ≤ x ∧ x ≤ 1048576) (hy : -1048576 ≤ y ∧ y ≤ 1048576) (ha : allR P = true) : maskO P rule ⟨x, y, x + 1, y + 1⟩ = if ruleB rule = true then (0, [countI P rule x y]) else (30, []) := by
  have hw : winB ⟨x, y, x + 1, y + 1⟩ = true := by rw [winB_iff]; simp only; omega
  unfold maskO
  rw [hw, ha]
  simp only [Bool.and_true]
  have e1 : acrossI ⟨x, y, x + 1, y + 1⟩ = 1 := by unfold acrossI; simp only; omega
  have e2 : downI ⟨x, y, x + 1, y + 1⟩ = 1 := by unfold downI; simp only; omega
  unfold maskI
  rw [e1, e2]
  simp [List.range, List.range.loop]
set_option maxHeartbeats 16000000 in
set_option maxRecDepth 100000 in
theorem coverBounds_law (s : Value) (S : List (Value × List Pt)) (rule x y : Int) (w : World) (row : PolyR w s S) :
    Calls Try.prog 7 #[.agg #[s, .int .i64 rule, .int .i64 x, .int .i64 y]] w fun e w' => e = .returned (.bool true) ∧ Below w.heap.size w w' := by
  have HAW := Lib.hid awake_c
  have HSM : Hid (∀ W, Below w.heap.size w W → Calls Try.prog 9 #[s, .agg #[.int .i64 0, .int .i64 0, .int .i64 0, .int .i64 0]] W fun e w' => SmallU S W e w') := fun W hb => smallT_c s S 0 0 0 0 W (row.on hb)
  have HRF : Hid (Small S ⟨0, 0, 0, 0⟩ → ∀ W, Below w.heap.size w W → Calls Try.prog 11 #[s] W fun e w' => RefsP (S.map Prod.snd) W e w') := fun hs W hb => refs_p s S W (row.on hb) (by have := hs.1; omega) (fun x hx => by have := hs.2.1 x hx; omega)
  obtain ⟨ao, c, rfl⟩ := row.shape
  obtain ⟨n, hn⟩ : ∃ n, S.length = n := ⟨_, rfl⟩
  have HN := Lib.hid hn; have HROW := Lib.hid row
  rw [hn] at HSM HRF HROW ⊢
  clear row hn
  go_enter Try.func7, Try.ntmps7
  go_wp2_with fail
  go_quiet (fail)
  go_wp2_with fail
  obtain ⟨w1, hw1⟩ : ∃ X, (w.alloc (.cells #[.slice ao n c, .int .i64 rule, .int .i64 x, .int .i64 y] 50)).drewN nq = X := ⟨_, rfl⟩
  have S1 : Hid (Below w.heap.size w w1) := by rw [← hw1]; exact below_drewN ((Below.refl _ _).alloc (Nat.le_refl _) _) _
  rw [hw1]
  clear hw1
  refine (HSM.out _ S1.out).mono ?_
  rintro e w2 ⟨r, rfl, hr, hb⟩
  have B2 : Hid (Below w.heap.size w w2) := S1.out.trans (hb.mono S1.out.size)
  clear hb S1
  cases r
  · have hx0 : True := trivial
    go_wp2_with fail
    refine (HAW.out _).mono ?_
    rintro e w9 ⟨rfl, hb⟩
    have B9 : Hid (Below w.heap.size w w9) := (B2.out).trans (hb.mono (B2.out).size)
    clear hb
    go_wp2_with fail
    go_ret
    exact ⟨rfl, B9.out⟩
  have hsm := hr rfl
  have HS := Lib.hid hsm.1
  have HT := Lib.hid hsm.2
  clear hr hsm
  go_wp2_with fail
  refine (HRF.out HS.out _ B2.out).mono ?_
  rintro e w3 ⟨u, S', rfl, hp, he, hb⟩
  have S3 : Hid (Below w.heap.size w w3 ∧ PolyR w3 u S' ∧ S'.map Prod.snd = S.map Prod.snd) := ⟨B2.out.trans (hb.mono B2.out.size), hp, he⟩
  clear hb B2 hp he
  go_wp2_with fail
  have HRA : Hid (Calls Try.prog 14 #[u] w3 fun e w' => e = .returned (.bool (allR (S.map Prod.snd))) ∧ Below w3.heap.size w3 w') := by
    have h1 := same_pts S3.out.2.2 (fun l => l.length ≤ 20) HS.out.2.1
    have := refAll_c u S' w3 S3.out.2.1 (by have := HS.out.1; omega) (fun x hx => by have := h1.2 x hx; omega)
    rwa [S3.out.2.2] at this
  obtain ⟨ra, hra⟩ : ∃ r, allR (S.map Prod.snd) = r := ⟨_, rfl⟩
  rw [hra] at HRA
  have HRAE := Lib.hid hra
  clear hra
  refine (HRA.out).mono ?_
  rintro e w4 ⟨rfl, hb⟩
  have B4 : Hid (Below w.heap.size w w4) := S3.out.1.trans (hb.mono S3.out.1.size)
  clear hb HRA S3
  cases ra
  · have hx0 : True := trivial
    go_wp2_with fail
    refine (HAW.out _).mono ?_
    rintro e w9 ⟨rfl, hb⟩
    have B9 : Hid (Below w.heap.size w w9) := (B4.out).trans (hb.mono (B4.out).size)
    clear hb
    go_wp2_with fail
    go_ret
    exact ⟨rfl, B9.out⟩
  by_cases hc0 : x < -1048576
  · have hd0 : decide (x < -1048576) = true := by simp; omega
    go_wp2_with fail
    refine (HAW.out _).mono ?_
    rintro e w9 ⟨rfl, hb⟩
    have B9 : Hid (Below w.heap.size w w9) := (B4.out).trans (hb.mono (B4.out).size)
    clear hb
    go_wp2_with fail
    go_ret
    exact ⟨rfl, B9.out⟩
  have hd0 : decide (x < -1048576) = false := by simp; omega
  by_cases hc1 : x > 1048576
  · have hd1 : decide (x > 1048576) = true := by simp; omega
    go_wp2_with fail
    refine (HAW.out _).mono ?_
    rintro e w9 ⟨rfl, hb⟩
    have B9 : Hid (Below w.heap.size w w9) := (B4.out).trans (hb.mono (B4.out).size)
    clear hb
    go_wp2_with fail
    go_ret
    exact ⟨rfl, B9.out⟩
  have hd1 : decide (x > 1048576) = false := by simp; omega
  by_cases hc2 : y < -1048576
  · have hd2 : decide (y < -1048576) = true := by simp; omega
    go_wp2_with fail
    refine (HAW.out _).mono ?_
    rintro e w9 ⟨rfl, hb⟩
    have B9 : Hid (Below w.heap.size w w9) := (B4.out).trans (hb.mono (B4.out).size)
    clear hb
    go_wp2_with fail
    go_ret
    exact ⟨rfl, B9.out⟩
  have hd2 : decide (y < -1048576) = false := by simp; omega
  by_cases hc3 : y > 1048576
  · have hd3 : decide (y > 1048576) = true := by simp; omega
    go_wp2_with fail
    refine (HAW.out _).mono ?_
    rintro e w9 ⟨rfl, hb⟩
    have B9 : Hid (Below w.heap.size w w9) := (B4.out).trans (hb.mono (B4.out).size)
    clear hb
    go_wp2_with fail
    go_ret
    exact ⟨rfl, B9.out⟩
  have hd3 : decide (y > 1048576) = false := by simp; omega
  have HX : Hid (-1048576 ≤ x ∧ x ≤ 1048576) := ⟨by omega, by omega⟩
  have HY : Hid (-1048576 ≤ y ∧ y ≤ 1048576) := ⟨by omega, by omega⟩
  go_wp2_with fail
  clear hc0 hc1 hc2 hc3 hd0 hd1 hd2 hd3
  obtain ⟨m0, hm0⟩ : ∃ m, w4.heap.size = m := ⟨_, rfl⟩
  have HM0 := Lib.hid hm0
  clear hm0
  have hn60 : n ≤ 60 := by rw [← HN.out]; exact HS.out.1
  go_loopw [7, 52] (fun v i wr => ∃ k : Nat, k ≤ n ∧ i = .int .i64 k ∧ Hid (Own wr m0 39 v ((S.map Prod.snd).take k).flatten ∧ Below m0 w4 wr ∧ m0 ≤ wr.heap.size)) (fun _ i _ => n - (intOf i).toNat)
  case atStart => exact ⟨0, by omega, rfl, Own.nil _ _ _, by rw [← HM0.out]; exact Below.refl _ _, by rw [HM0.out]; exact Nat.le_refl _⟩
  case round =>
    obtain ⟨k, hk, rfl, hw⟩ := hrel
    have B5 : Hid (Below w.heap.size w wr) := B4.out.trans (hw.out.2.1.mono (by rw [← HM0.out]; exact B4.out.size))
    by_cases hlt : k < n
    · have hd : decide ((k : Int) < (n : Int)) = true := by simp; omega
      obtain ⟨⟨v, l⟩, hq⟩ : ∃ q, S[k]? = some q := ⟨_, List.getElem?_eq_getElem (by rw [HN.out]; exact hlt)⟩
      have hm := List.mem_of_getElem? hq
      obtain ⟨b, o, rfl, hbs, c0⟩ := (HROW.out.on B5.out).at hq
      have hrow : Row wr v l := (HROW.out.2 _ hm).on B5.out
      have hPk : (S.map Prod.snd)[k]? = some l := by rw [List.getElem?_map, hq]; rfl
      have HRW := Lib.hid hrow
      have hlen : ((S.map Prod.snd).take k).flatten.length + l.length ≤ 60 := by
        have h1 : ((S.map Prod.snd).take (k + 1)).flatten.length ≤ 60 := by
          refine Nat.le_trans ?_ HT.out
          conv => rhs; rw [← List.take_append_drop (k + 1) (S.map Prod.snd), List.flatten_append, List.length_append]
          omega
        rw [List.take_add_one, hPk] at h1
        simpa using h1
      have HLEN := Lib.hid hlen
      have hnext : ((S.map Prod.snd).take (k + 1)).flatten = ((S.map Prod.snd).take k).flatten ++ l := by rw [List.take_add_one, hPk]; simp
      have HNX := Lib.hid hnext
      simp only at c0
      have hs5 := hw.out.2.2
      clear hq hm hbs hrow hPk hlen hnext
      go_wp2_with (at_builtin; refine wpList_append_pts rfl _ _ 47 39 rfl Try.underlying47 infoP m0 _ _ rfl hw.out.1 _ l rfl HRW.out ?c3 ?c5 ?_)
      case c3 => have := HLEN.out; omega
      case c5 => omega
      intro v' w6 hown hgrow _
      have F1 : Hid (Own w6 m0 39 v' ((S.map Prod.snd).take (k + 1)).flatten ∧ Below m0 w4 w6 ∧ m0 ≤ w6.heap.size) := by
        rw [HNX.out]
        exact ⟨hown, own_below hw.out.1 hgrow hw.out.2.1 (Nat.le_refl _) hs5, Nat.le_trans hs5 hgrow.size⟩
      clear hown hgrow
      go_wp2_with fail
      exact ⟨⟨k + 1, by omega, by go_num, F1.out⟩, by simp [intOf]; omega⟩
    · have hd : decide ((k : Int) < (n : Int)) = false := by simp; omega
      have hT : (S.map Prod.snd).take k = S.map Prod.snd := List.take_of_length_le (by rw [List.length_map, HN.out]; omega)
      obtain ⟨Q, hQ⟩ : ∃ Q, (S.map Prod.snd).flatten = Q := ⟨_, rfl⟩
      have HQ := Lib.hid hQ
      have hrow := hw.out.1.row
      rw [hT, hQ] at hrow
      obtain ⟨aq, cq, hsh⟩ := hrow.shape
      rw [hsh] at hrow ⊢
      have HRW := Lib.hid hrow
      have HQL : Hid (Q.length ≤ 60) := by have := HT.out; rwa [hQ] at this
      have HQR : Hid (Q.all roomP = true) := by
        unfold Hid
        rw [← hQ, List.all_flatten]
        exact HRAE.out
      obtain ⟨nq, hnq⟩ : ∃ z, Q.length = z := ⟨_, rfl⟩
      have HNQ := Lib.hid hnq
      rw [hnq] at HRW ⊢
      have HBD : Hid (Calls Try.prog 22 #[.slice aq nq cq] wr fun e w' => e = .returned (.agg (four (boundI Q))) ∧ Below wr.heap.size wr w') := bound_c _ Q wr (Nat.le_trans HQL.out (by decide)) HRW.out HQR.out
      have HPX := Lib.hid (pixels_c (boundI Q))
      have HCI : Hid (∀ rule x y, countI (S.map Prod.snd) rule x y ≠ 0 → pixelsI (boundI Q) ≠ ⟨0, 0, 0, 0⟩ → hasI (pixelsI (boundI Q)) x y = true) := by
        have := covered_in (S.map Prod.snd)
        rw [hQ] at this
        exact this
      have HPI := Lib.hid (point_in Q)
      generalize boundI Q = b1 at HBD HPX HCI HPI
      generalize pixelsI b1 = b2 at HPX HCI HPI
      clear hT hQ hsh hrow hnq hw
      go_wp2_with fail
      refine (HBD.out).mono ?_
      rintro e w6 ⟨rfl, hb⟩
      have S6 : Hid (Below w.heap.size w w6 ∧ Row w6 (.slice aq nq cq) Q) := ⟨B5.out.trans (hb.mono B5.out.size), HRW.out.on hb⟩
      clear hb HBD HRW B5
      go_wp2_with fail
      refine (HPX.out _).mono ?_
      rintro e w7 ⟨rfl, hb⟩
      have S7 : Hid (Below w.heap.size w w7 ∧ Row w7 (.slice aq nq cq) Q) := ⟨S6.out.1.trans (hb.mono S6.out.1.size), S6.out.2.on hb⟩
      clear hb HPX S6
      go_wp2_with fail
      obtain ⟨w8, hw8⟩ : ∃ X, w7.alloc (.cells #[.int .i64 b2.x0, .int .i64 b2.y0, .int .i64 b2.x1, .int .i64 b2.y1] 24) = X := ⟨_, rfl⟩
      obtain ⟨g8, hg8⟩ : ∃ z, w7.heap.size = z := ⟨_, rfl⟩
      have S8 : Hid (Below w.heap.size w w8 ∧ Row w8 (.slice aq nq cq) Q ∧ Blk w8 g8 24 (four b2)) := by
        rw [← hw8]
        exact ⟨S7.out.1.alloc S7.out.1.size _, S7.out.2.on ((Below.refl _ _).alloc (Nat.le_refl _) _), Blk.newAt _ _ _ hg8⟩
      rw [hw8, hg8]
      clear hw8 hg8 S7
      by_cases hz : b2 = ⟨0, 0, 0, 0⟩
      · subst hz
        go_loopw [65] (fun i wr => ∃ k : Nat, k ≤ nq ∧ i = .int .i64 k ∧ Hid (Below w8.heap.size w8 wr)) (fun i _ => nq - (intOf i).toNat)
        case atStart => exact ⟨0, by omega, rfl, Below.refl _ _⟩
        case round =>
          obtain ⟨k, hk, rfl, hv⟩ := hrel
          by_cases hlt2 : k < nq
          · have hd2 : decide ((k : Int) < (nq : Int)) = true := by simp; omega
            obtain ⟨b3, o3, rfl, hbs3, hpa⟩ := Row.addr S8.out.2.1 (k := k) (by rw [HNQ.out]; exact hlt2)
            obtain ⟨⟨px, py⟩, hp⟩ : ∃ p, Q[k]? = some p := ⟨_, List.getElem?_eq_getElem (by rw [HNQ.out]; exact hlt2)⟩
            obtain ⟨c1, c2⟩ := (hpa.on hv.out hbs3) k (px, py) hp
            have hmem := List.mem_of_getElem? hp
            have hrm : roomP (px, py) = true := List.all_eq_true.1 HQR.out _ hmem
            simp only [roomP, Bool.and_eq_true, room_iff] at hrm
            have HPX2 : Hid ((-9223372036854775808 ≤ px ∧ px ≤ 9223372036854775807) ∧ (-9223372036854775808 ≤ py ∧ py ≤ 9223372036854775807)) := ⟨by omega, by omega⟩
            have HBE : Hid (∀ a w, (-9223372036854775808 ≤ a ∧ a ≤ 9223372036854775807) → Calls Try.prog 24 #[.int .i64 a, .int .i64 256] w fun e w' => e = .returned (.int .i64 (a / 256)) ∧ Below w.heap.size w w') := fun a w h => (below_any a 256 w h.1 h.2 (by decide)).mono fun _ _ ⟨h1, h2⟩ => ⟨h1, h2 ▸ Below.refl _ _⟩
            simp only at c1 c2
            have hnq60 : nq ≤ 60 := by rw [← HNQ.out]; exact HQL.out
            have S9 : Hid (Below w8.heap.size w8 (wr.alloc (.cells #[.int .i64 px, .int .i64 py] 39)) ∧ True ∧ Blk (wr.alloc (.cells #[.int .i64 px, .int .i64 py] 39)) g8 24 (four ⟨0, 0, 0, 0⟩) ∧ Blk (wr.alloc (.cells #[.int .i64 px, .int .i64 py] 39)) wr.heap.size 39 (two (px, py))) :=
              ⟨hv.out.alloc hv.out.size _, trivial, (S8.out.2.2.grow hv.out).alloc _, Blk.new _ _ _⟩
            clear hpa hp hbs3 hmem hrm
            go_wp2_with fail
            obtain ⟨w9, hw9⟩ : ∃ X, wr.alloc (.cells #[.int .i64 px, .int .i64 py] 39) = X := ⟨_, rfl⟩
            rw [hw9] at S9 ⊢
            clear hw9 c1 c2
            by_cases hp1 : px < 2147483648
            · have he1 : decide (px < 2147483648) = true := by simp; omega
              by_cases hp2 : py < 2147483648
              · have he2 : decide (py < 2147483648) = true := by simp; omega
                refine wp_region_quiet (C := Out w9) (by kernel_rfl) (by kernel_rfl) ⟨rfl, rfl, rfl, Nat.le_refl _, fun _ _ => rfl⟩ ?_
                refine BigFrame.wpQuiet_want rfl (fun K hK => ?_)
                refine quiet_val (.pointer (some ⟨wr.heap.size, 0, none⟩)) (fun w' hw' => by go_simp) (hK _ ?_)
                clear hK K
                simp only [Act.put, List.setIfInBounds_toArray, List.set_cons_zero, List.set_cons_succ]
                refine BigFrame.wpQuiet_want rfl (fun K hK => ?_)
                refine quiet_val (.int .i64 px) (fun w' hw' => by have kk := S9.out.2.2.2.grow hw'; have x0 : w'.cell? ⟨wr.heap.size, 0, none⟩ = some (.int .i64 px) := kk.cell 0; clear kk; go_simp) (hK _ ?_)
                clear hK K
                simp only [Act.put, List.setIfInBounds_toArray, List.set_cons_zero, List.set_cons_succ]
                refine BigFrame.wpQuiet_want rfl (fun K hK => ?_)
                refine quiet_val (.bool true) (fun w' hw' => by go_simp) (hK _ ?_)
                clear hK K
                simp only [Act.put, List.setIfInBounds_toArray, List.set_cons_zero, List.set_cons_succ]
                refine BigFrame.wpQuiet_want rfl (fun K hK => ?_)
                refine quiet_val (.bool true) (fun w' hw' => by go_simp) (hK _ ?_)
                clear hK K
                simp only [Act.put, List.setIfInBounds_toArray, List.set_cons_zero, List.set_cons_succ]
                refine BigFrame.wpQuiet_want rfl (fun K hK => ?_)
                refine quiet_val (.pointer (some ⟨wr.heap.size, 1, none⟩)) (fun w' hw' => by go_simp) (hK _ ?_)
                clear hK K
                simp only [Act.put, List.setIfInBounds_toArray, List.set_cons_zero, List.set_cons_succ]
                refine BigFrame.wpQuiet_want rfl (fun K hK => ?_)
                refine quiet_val (.int .i64 py) (fun w' hw' => by have kk := S9.out.2.2.2.grow hw'; have x0 : w'.cell? ⟨wr.heap.size, 1, none⟩ = some (.int .i64 py) := kk.cell 1; clear kk; go_simp) (hK _ ?_)
                clear hK K
                simp only [Act.put, List.setIfInBounds_toArray, List.set_cons_zero, List.set_cons_succ]
                refine BigFrame.wpQuiet_want rfl (fun K hK => ?_)
                refine quiet_val (.bool true) (fun w' hw' => by go_simp) (hK _ ?_)
                clear hK K
                simp only [Act.put, List.setIfInBounds_toArray, List.set_cons_zero, List.set_cons_succ]
                refine BigFrame.wpQuiet_want rfl (fun K hK => ?_)
                refine quiet_val (.bool true) (fun w' hw' => by go_simp) (hK _ ?_)
                clear hK K
                simp only [Act.put, List.setIfInBounds_toArray, List.set_cons_zero, List.set_cons_succ]
                refine BigFrame.wpQuiet_want rfl (fun K hK => ?_)
                refine quiet_val (.bool true) (fun w' hw' => by go_simp) (hK _ ?_)
                clear hK K
                simp only [Act.put, List.setIfInBounds_toArray, List.set_cons_zero, List.set_cons_succ]
                refine BigFrame.wpQuiet_want rfl (fun K hK => ?_)
                refine quiet_val (.agg #[.int .i64 0, .int .i64 0, .int .i64 0, .int .i64 0]) (fun w' hw' => by have kk := S9.out.2.2.1.grow hw'; have x0 := kk.b0; have x1 := kk.b1; have x2 := kk.b2; have x3 := kk.b3; clear kk; go_simp) (hK _ ?_)
                clear hK K
                simp only [Act.put, List.setIfInBounds_toArray, List.set_cons_zero, List.set_cons_succ]
                refine BigFrame.wpQuiet_want rfl (fun K hK => ?_)
                refine quiet_val (.agg #[.int .i64 0, .int .i64 0, .int .i64 0, .int .i64 0]) (fun w' hw' => by go_simp) (hK _ ?_)
                clear hK K
                simp only [Act.put, List.setIfInBounds_toArray, List.set_cons_zero, List.set_cons_succ]
                refine BigFrame.wpQuiet_want rfl (fun K hK => ?_)
                refine quiet_val (.bool false) (fun w' hw' => by go_simp) (hK _ ?_)
                clear hK K
                simp only [Act.put, List.setIfInBounds_toArray, List.set_cons_zero, List.set_cons_succ]
                refine BigFrame.wpQuiet_want rfl (fun K hK => ?_)
                refine quiet_val (.bool false) (fun w' hw' => by go_simp) (hK _ ?_)
                clear hK K
                simp only [Act.put, List.setIfInBounds_toArray, List.set_cons_zero, List.set_cons_succ]
                refine BigFrame.wpQuiet_want rfl (fun K hK => ?_)
                refine quiet_val (.bool false) (fun w' hw' => by go_simp) (hK _ ?_)
                clear hK K
                simp only [Act.put, List.setIfInBounds_toArray, List.set_cons_zero, List.set_cons_succ]
                go_big_quiet_skip
                go_big_quiet_skip
                go_big_quiet_skip
                go_big_quiet_skip
                go_big_quiet_skip
                go_big_quiet_skip
                go_big_quiet_skip
                go_big_quiet_skip
                go_big_quiet_skip
                go_big_quiet_skip
                refine BigFrame.wpQuiet_want rfl (fun K hK => ?_)
                refine quiet_val (.bool false) (fun w' hw' => by go_simp) (hK _ ?_)
                clear hK K
                simp only [Act.put, List.setIfInBounds_toArray, List.set_cons_zero, List.set_cons_succ]
                refine wpQuiet_nil ?_
                intro w10 hb10
                have B10 : Hid (Below w8.heap.size w8 w10) := S9.out.1.trans (hb10.mono S9.out.1.size)
                clear hb10
                go_wp2_with fail
                exact ⟨⟨k + 1, by omega, by go_num, B10.out⟩, by simp [intOf]; omega⟩
              · have he2 : decide (py < 2147483648) = false := by simp; omega
                refine wp_region_quiet (C := Out w9) (by kernel_rfl) (by kernel_rfl) ⟨rfl, rfl, rfl, Nat.le_refl _, fun _ _ => rfl⟩ ?_
                refine BigFrame.wpQuiet_want rfl (fun K hK => ?_)
                refine quiet_val (.pointer (some ⟨wr.heap.size, 0, none⟩)) (fun w' hw' => by go_simp) (hK _ ?_)
                clear hK K
                simp only [Act.put, List.setIfInBounds_toArray, List.set_cons_zero, List.set_cons_succ]
                refine BigFrame.wpQuiet_want rfl (fun K hK => ?_)
                refine quiet_val (.int .i64 px) (fun w' hw' => by have kk := S9.out.2.2.2.grow hw'; have x0 : w'.cell? ⟨wr.heap.size, 0, none⟩ = some (.int .i64 px) := kk.cell 0; clear kk; go_simp) (hK _ ?_)
                clear hK K
                simp only [Act.put, List.setIfInBounds_toArray, List.set_cons_zero, List.set_cons_succ]
                refine BigFrame.wpQuiet_want rfl (fun K hK => ?_)
                refine quiet_val (.bool true) (fun w' hw' => by go_simp) (hK _ ?_)
                clear hK K
                simp only [Act.put, List.setIfInBounds_toArray, List.set_cons_zero, List.set_cons_succ]
                refine BigFrame.wpQuiet_want rfl (fun K hK => ?_)
                refine quiet_val (.bool true) (fun w' hw' => by go_simp) (hK _ ?_)
                clear hK K
                simp only [Act.put, List.setIfInBounds_toArray, List.set_cons_zero, List.set_cons_succ]
                refine BigFrame.wpQuiet_want rfl (fun K hK => ?_)
                refine quiet_val (.pointer (some ⟨wr.heap.size, 1, none⟩)) (fun w' hw' => by go_simp) (hK _ ?_)
                clear hK K
                simp only [Act.put, List.setIfInBounds_toArray, List.set_cons_zero, List.set_cons_succ]
                refine BigFrame.wpQuiet_want rfl (fun K hK => ?_)
                refine quiet_val (.int .i64 py) (fun w' hw' => by have kk := S9.out.2.2.2.grow hw'; have x0 : w'.cell? ⟨wr.heap.size, 1, none⟩ = some (.int .i64 py) := kk.cell 1; clear kk; go_simp) (hK _ ?_)
                clear hK K
                simp only [Act.put, List.setIfInBounds_toArray, List.set_cons_zero, List.set_cons_succ]
                refine BigFrame.wpQuiet_want rfl (fun K hK => ?_)
                refine quiet_val (.bool false) (fun w' hw' => by go_simp) (hK _ ?_)
                clear hK K
                simp only [Act.put, List.setIfInBounds_toArray, List.set_cons_zero, List.set_cons_succ]
                refine BigFrame.wpQuiet_want rfl (fun K hK => ?_)
                refine quiet_val (.bool false) (fun w' hw' => by go_simp) (hK _ ?_)
                clear hK K
                simp only [Act.put, List.setIfInBounds_toArray, List.set_cons_zero, List.set_cons_succ]
                refine BigFrame.wpQuiet_want rfl (fun K hK => ?_)
                refine quiet_val (.bool false) (fun w' hw' => by go_simp) (hK _ ?_)
                clear hK K
                simp only [Act.put, List.setIfInBounds_toArray, List.set_cons_zero, List.set_cons_succ]
                go_big_quiet_skip
                go_big_quiet_skip
                go_big_quiet_skip
                refine BigFrame.wpQuiet_want rfl (fun K hK => ?_)
                refine quiet_val (.bool false) (fun w' hw' => by go_simp) (hK _ ?_)
                clear hK K
                simp only [Act.put, List.setIfInBounds_toArray, List.set_cons_zero, List.set_cons_succ]
                refine BigFrame.wpQuiet_want rfl (fun K hK => ?_)
                refine quiet_val (.bool false) (fun w' hw' => by go_simp) (hK _ ?_)
                clear hK K
                simp only [Act.put, List.setIfInBounds_toArray, List.set_cons_zero, List.set_cons_succ]
                go_big_quiet_skip
                go_big_quiet_skip
                go_big_quiet_skip
                go_big_quiet_skip
                go_big_quiet_skip
                go_big_quiet_skip
                go_big_quiet_skip
                go_big_quiet_skip
                go_big_quiet_skip
                go_big_quiet_skip
                refine BigFrame.wpQuiet_want rfl (fun K hK => ?_)
                refine quiet_val (.bool false) (fun w' hw' => by go_simp) (hK _ ?_)
                clear hK K
                simp only [Act.put, List.setIfInBounds_toArray, List.set_cons_zero, List.set_cons_succ]
                refine wpQuiet_nil ?_
                intro w10 hb10
                have B10 : Hid (Below w8.heap.size w8 w10) := S9.out.1.trans (hb10.mono S9.out.1.size)
                clear hb10
                go_wp2_with fail
                exact ⟨⟨k + 1, by omega, by go_num, B10.out⟩, by simp [intOf]; omega⟩
            · have he1 : decide (px < 2147483648) = false := by simp; omega
              refine wp_region_quiet (C := Out w9) (by kernel_rfl) (by kernel_rfl) ⟨rfl, rfl, rfl, Nat.le_refl _, fun _ _ => rfl⟩ ?_
              refine BigFrame.wpQuiet_want rfl (fun K hK => ?_)
              refine quiet_val (.pointer (some ⟨wr.heap.size, 0, none⟩)) (fun w' hw' => by go_simp) (hK _ ?_)
              clear hK K
              simp only [Act.put, List.setIfInBounds_toArray, List.set_cons_zero, List.set_cons_succ]
              refine BigFrame.wpQuiet_want rfl (fun K hK => ?_)
              refine quiet_val (.int .i64 px) (fun w' hw' => by have kk := S9.out.2.2.2.grow hw'; have x0 : w'.cell? ⟨wr.heap.size, 0, none⟩ = some (.int .i64 px) := kk.cell 0; clear kk; go_simp) (hK _ ?_)
              clear hK K
              simp only [Act.put, List.setIfInBounds_toArray, List.set_cons_zero, List.set_cons_succ]
              refine BigFrame.wpQuiet_want rfl (fun K hK => ?_)
              refine quiet_val (.bool false) (fun w' hw' => by go_simp) (hK _ ?_)
              clear hK K
              simp only [Act.put, List.setIfInBounds_toArray, List.set_cons_zero, List.set_cons_succ]
              refine BigFrame.wpQuiet_want rfl (fun K hK => ?_)
              refine quiet_val (.bool false) (fun w' hw' => by go_simp) (hK _ ?_)
              clear hK K
              simp only [Act.put, List.setIfInBounds_toArray, List.set_cons_zero, List.set_cons_succ]
              go_big_quiet_skip
              go_big_quiet_skip
              go_big_quiet_skip
              refine BigFrame.wpQuiet_want rfl (fun K hK => ?_)
              refine quiet_val (.bool false) (fun w' hw' => by go_simp) (hK _ ?_)
              clear hK K
              simp only [Act.put, List.setIfInBounds_toArray, List.set_cons_zero, List.set_cons_succ]
              refine BigFrame.wpQuiet_want rfl (fun K hK => ?_)
              refine quiet_val (.bool false) (fun w' hw' => by go_simp) (hK _ ?_)
              clear hK K
              simp only [Act.put, List.setIfInBounds_toArray, List.set_cons_zero, List.set_cons_succ]
              go_big_quiet_skip
              go_big_quiet_skip
              go_big_quiet_skip
              refine BigFrame.wpQuiet_want rfl (fun K hK => ?_)
              refine quiet_val (.bool false) (fun w' hw' => by go_simp) (hK _ ?_)
              clear hK K
              simp only [Act.put, List.setIfInBounds_toArray, List.set_cons_zero, List.set_cons_succ]
              refine BigFrame.wpQuiet_want rfl (fun K hK => ?_)
              refine quiet_val (.bool false) (fun w' hw' => by go_simp) (hK _ ?_)
              clear hK K
              simp only [Act.put, List.setIfInBounds_toArray, List.set_cons_zero, List.set_cons_succ]
              go_big_quiet_skip
              go_big_quiet_skip
              go_big_quiet_skip
              go_big_quiet_skip
              go_big_quiet_skip
              go_big_quiet_skip
              go_big_quiet_skip
              go_big_quiet_skip
              go_big_quiet_skip
              go_big_quiet_skip
              refine BigFrame.wpQuiet_want rfl (fun K hK => ?_)
              refine quiet_val (.bool false) (fun w' hw' => by go_simp) (hK _ ?_)
              clear hK K
              simp only [Act.put, List.setIfInBounds_toArray, List.set_cons_zero, List.set_cons_succ]
              refine wpQuiet_nil ?_
              intro w10 hb10
              have B10 : Hid (Below w8.heap.size w8 w10) := S9.out.1.trans (hb10.mono S9.out.1.size)
              clear hb10
              go_wp2_with fail
              exact ⟨⟨k + 1, by omega, by go_num, B10.out⟩, by simp [intOf]; omega⟩
          · have hd2 : decide ((k : Int) < (nq : Int)) = false := by simp; omega
            have S10 : Hid (Below w.heap.size w wr ∧ Blk wr g8 24 (four ⟨0, 0, 0, 0⟩)) := ⟨S8.out.1.trans (hv.out.mono S8.out.1.size), S8.out.2.2.grow hv.out⟩
            obtain ⟨hxa, hxb⟩ := HX.out
            obtain ⟨hya, hyb⟩ := HY.out
            have hmo := mask_one (S.map Prod.snd) rule x y HX.out HY.out HRAE.out
            have HMK : Hid (Calls Try.prog 12 #[.slice ao n c, .int .i64 rule, .agg #[.int .i64 x, .int .i64 y, .int .i64 (x + 1), .int .i64 (y + 1)]] wr fun e w' => MaskU wr (maskO (S.map Prod.snd) rule ⟨x, y, x + 1, y + 1⟩).1 (maskO (S.map Prod.snd) rule ⟨x, y, x + 1, y + 1⟩).2 e w') :=
              mask_c _ S rule ⟨x, y, x + 1, y + 1⟩ wr (HROW.out.on S10.out.1) (by have := HS.out.1; omega) (fun x hx => by have := HS.out.2.1 x hx; omega)
            rw [hmo] at HMK
            clear hmo hv
            cases hrb : ruleB rule
            · rw [hrb, if_neg (by decide)] at HMK
              have hr1 : (rule != 1) = true := by unfold ruleB at hrb; simp at hrb ⊢; exact hrb.1
              have hr2 : (rule != 2) = true := by unfold ruleB at hrb; simp at hrb ⊢; exact hrb.2
              clear hrb
              go_wp2_with fail
              refine (HMK.out).mono ?_
              rintro e w11 ⟨v, rfl, hvv, hb11⟩
              have B11 : Hid (Below w.heap.size w w11) := S10.out.1.trans (hb11.mono S10.out.1.size)
              clear hvv hb11 HMK
              go_wp2_with fail
              refine (HAW.out _).mono ?_
              rintro e w9 ⟨rfl, hb⟩
              have B9 : Hid (Below w.heap.size w w9) := (B11.out).trans (hb.mono (B11.out).size)
              clear hb
              go_wp2_with fail
              go_ret
              exact ⟨rfl, B9.out⟩
            · rw [hrb, if_pos rfl] at HMK
              obtain ⟨q, hq⟩ : ∃ q, countI (S.map Prod.snd) rule x y = q := ⟨_, rfl⟩
              rw [hq] at HMK
              have HQE := Lib.hid hq
              have hq16 : q ≤ 16 := by rw [← hq]; exact count_le _ _ _ _
              clear hrb hq
              go_wp2_with fail
              refine (HMK.out).mono ?_
              rintro e w11 ⟨v, rfl, hvv, hb11⟩
              obtain ⟨mb, mo, mc, rfl, hl1, hc1⟩ := hvv.byte1
              have S11 : Hid (Below w.heap.size w w11 ∧ Blk w11 g8 24 (four ⟨0, 0, 0, 0⟩)) := ⟨S10.out.1.trans (hb11.mono S10.out.1.size), S10.out.2.grow hb11⟩
              have HQC : Hid (∀ W, Below w11.heap.size w11 W → W.cell? ⟨mb, mo, none⟩ = some (.int .u8 (q : Int))) := fun W hW => by rw [cell_below hW hl1]; exact hc1
              clear hvv hb11 HMK hl1 hc1
              go_wp2_with fail
              by_cases hq0 : q = 0
              · subst hq0
                refine wp_region_quiet (C := Out w11) (by kernel_rfl) (by kernel_rfl) ⟨rfl, rfl, rfl, Nat.le_refl _, fun _ _ => rfl⟩ ?_
                refine BigFrame.wpQuiet_want rfl (fun K hK => ?_)
                refine quiet_val (.slice (some ⟨mb, mo, none⟩) 1 mc) (fun w' hw' => by go_simp) (hK _ ?_)
                clear hK K
                simp only [Act.put, List.setIfInBounds_toArray, List.set_cons_zero, List.set_cons_succ]
                refine BigFrame.wpQuiet_want rfl (fun K hK => ?_)
                refine quiet_val (.int .i64 1) (fun w' hw' => by go_simp) (hK _ ?_)
                clear hK K
                simp only [Act.put, List.setIfInBounds_toArray, List.set_cons_zero, List.set_cons_succ]
                refine BigFrame.wpQuiet_want rfl (fun K hK => ?_)
                refine quiet_val (.bool true) (fun w' hw' => by go_simp) (hK _ ?_)
                clear hK K
                simp only [Act.put, List.setIfInBounds_toArray, List.set_cons_zero, List.set_cons_succ]
                refine BigFrame.wpQuiet_want rfl (fun K hK => ?_)
                refine quiet_val (.bool true) (fun w' hw' => by go_simp) (hK _ ?_)
                clear hK K
                simp only [Act.put, List.setIfInBounds_toArray, List.set_cons_zero, List.set_cons_succ]
                refine BigFrame.wpQuiet_want rfl (fun K hK => ?_)
                refine quiet_val (.slice (some ⟨mb, mo, none⟩) 1 mc) (fun w' hw' => by go_simp) (hK _ ?_)
                clear hK K
                simp only [Act.put, List.setIfInBounds_toArray, List.set_cons_zero, List.set_cons_succ]
                refine BigFrame.wpQuiet_want rfl (fun K hK => ?_)
                refine quiet_val (.pointer (some ⟨mb, mo, none⟩)) (fun w' hw' => by go_simp) (hK _ ?_)
                clear hK K
                simp only [Act.put, List.setIfInBounds_toArray, List.set_cons_zero, List.set_cons_succ]
                refine BigFrame.wpQuiet_want rfl (fun K hK => ?_)
                refine quiet_val (.int .u8 0) (fun w' hw' => by have x0 := HQC.out w' hw'; go_simp) (hK _ ?_)
                clear hK K
                simp only [Act.put, List.setIfInBounds_toArray, List.set_cons_zero, List.set_cons_succ]
                refine BigFrame.wpQuiet_want rfl (fun K hK => ?_)
                refine quiet_val (.bool true) (fun w' hw' => by go_simp) (hK _ ?_)
                clear hK K
                simp only [Act.put, List.setIfInBounds_toArray, List.set_cons_zero, List.set_cons_succ]
                refine BigFrame.wpQuiet_want rfl (fun K hK => ?_)
                refine quiet_val (.bool true) (fun w' hw' => by go_simp) (hK _ ?_)
                clear hK K
                simp only [Act.put, List.setIfInBounds_toArray, List.set_cons_zero, List.set_cons_succ]
                go_big_quiet_skip
                go_big_quiet_skip
                go_big_quiet_skip
                refine BigFrame.wpQuiet_want rfl (fun K hK => ?_)
                refine quiet_val (.bool true) (fun w' hw' => by go_simp) (hK _ ?_)
                clear hK K
                simp only [Act.put, List.setIfInBounds_toArray, List.set_cons_zero, List.set_cons_succ]
                refine BigFrame.wpQuiet_want rfl (fun K hK => ?_)
                refine quiet_val (.bool true) (fun w' hw' => by go_simp) (hK _ ?_)
                clear hK K
                simp only [Act.put, List.setIfInBounds_toArray, List.set_cons_zero, List.set_cons_succ]
                go_big_quiet_skip
                go_big_quiet_skip
                go_big_quiet_skip
                go_big_quiet_skip
                go_big_quiet_skip
                refine BigFrame.wpQuiet_want rfl (fun K hK => ?_)
                refine quiet_val (.bool true) (fun w' hw' => by go_simp) (hK _ ?_)
                clear hK K
                simp only [Act.put, List.setIfInBounds_toArray, List.set_cons_zero, List.set_cons_succ]
                refine BigFrame.wpQuiet_want rfl (fun K hK => ?_)
                refine quiet_val (.bool true) (fun w' hw' => by go_simp) (hK _ ?_)
                clear hK K
                simp only [Act.put, List.setIfInBounds_toArray, List.set_cons_zero, List.set_cons_succ]
                refine BigFrame.wpQuiet_want rfl (fun K hK => ?_)
                refine quiet_val (.bool true) (fun w' hw' => by go_simp) (hK _ ?_)
                clear hK K
                simp only [Act.put, List.setIfInBounds_toArray, List.set_cons_zero, List.set_cons_succ]
                refine BigFrame.wpQuiet_want rfl (fun K hK => ?_)
                refine quiet_call 10 #[] (.bool true) (fun w' _ => by go_simp) (fun w' hw' => Calls.out hw' (HAW.out w')) (hK _ ?_)
                clear hK K
                simp only [Act.put, List.setIfInBounds_toArray, List.set_cons_zero, List.set_cons_succ]
                refine BigFrame.wpQuiet_want rfl (fun K hK => ?_)
                refine quiet_val (.bool true) (fun w' hw' => by go_simp) (hK _ ?_)
                clear hK K
                simp only [Act.put, List.setIfInBounds_toArray, List.set_cons_zero, List.set_cons_succ]
                refine BigFrame.wpQuiet_want rfl (fun K hK => ?_)
                refine quiet_val (.bool true) (fun w' hw' => by go_simp) (hK _ ?_)
                clear hK K
                simp only [Act.put, List.setIfInBounds_toArray, List.set_cons_zero, List.set_cons_succ]
                refine wpQuiet_nil ?_
                intro w12 hb12
                have B12 : Hid (Below w.heap.size w w12) := S11.out.1.trans (hb12.mono S11.out.1.size)
                clear hb12
                go_wp2_with fail
                go_ret
                exact ⟨rfl, B12.out⟩
              · have hqz : ((q : Int) == 0) = false := by simp; omega
                refine wp_region_quiet (C := Out w11) (by kernel_rfl) (by kernel_rfl) ⟨rfl, rfl, rfl, Nat.le_refl _, fun _ _ => rfl⟩ ?_
                refine BigFrame.wpQuiet_want rfl (fun K hK => ?_)
                refine quiet_val (.slice (some ⟨mb, mo, none⟩) 1 mc) (fun w' hw' => by go_simp) (hK _ ?_)
                clear hK K
                simp only [Act.put, List.setIfInBounds_toArray, List.set_cons_zero, List.set_cons_succ]
                refine BigFrame.wpQuiet_want rfl (fun K hK => ?_)
                refine quiet_val (.int .i64 1) (fun w' hw' => by go_simp) (hK _ ?_)
                clear hK K
                simp only [Act.put, List.setIfInBounds_toArray, List.set_cons_zero, List.set_cons_succ]
                refine BigFrame.wpQuiet_want rfl (fun K hK => ?_)
                refine quiet_val (.bool true) (fun w' hw' => by go_simp) (hK _ ?_)
                clear hK K
                simp only [Act.put, List.setIfInBounds_toArray, List.set_cons_zero, List.set_cons_succ]
                refine BigFrame.wpQuiet_want rfl (fun K hK => ?_)
                refine quiet_val (.bool true) (fun w' hw' => by go_simp) (hK _ ?_)
                clear hK K
                simp only [Act.put, List.setIfInBounds_toArray, List.set_cons_zero, List.set_cons_succ]
                refine BigFrame.wpQuiet_want rfl (fun K hK => ?_)
                refine quiet_val (.slice (some ⟨mb, mo, none⟩) 1 mc) (fun w' hw' => by go_simp) (hK _ ?_)
                clear hK K
                simp only [Act.put, List.setIfInBounds_toArray, List.set_cons_zero, List.set_cons_succ]
                refine BigFrame.wpQuiet_want rfl (fun K hK => ?_)
                refine quiet_val (.pointer (some ⟨mb, mo, none⟩)) (fun w' hw' => by go_simp) (hK _ ?_)
                clear hK K
                simp only [Act.put, List.setIfInBounds_toArray, List.set_cons_zero, List.set_cons_succ]
                refine BigFrame.wpQuiet_want rfl (fun K hK => ?_)
                refine quiet_val (.int .u8 (q : Int)) (fun w' hw' => by have x0 := HQC.out w' hw'; go_simp) (hK _ ?_)
                clear hK K
                simp only [Act.put, List.setIfInBounds_toArray, List.set_cons_zero, List.set_cons_succ]
                refine BigFrame.wpQuiet_want rfl (fun K hK => ?_)
                refine quiet_val (.bool false) (fun w' hw' => by go_simp) (hK _ ?_)
                clear hK K
                simp only [Act.put, List.setIfInBounds_toArray, List.set_cons_zero, List.set_cons_succ]
                refine BigFrame.wpQuiet_want rfl (fun K hK => ?_)
                refine quiet_val (.bool false) (fun w' hw' => by go_simp) (hK _ ?_)
                clear hK K
                simp only [Act.put, List.setIfInBounds_toArray, List.set_cons_zero, List.set_cons_succ]
                refine BigFrame.wpQuiet_want rfl (fun K hK => ?_)
                refine quiet_val (.agg #[.int .i64 0, .int .i64 0, .int .i64 0, .int .i64 0]) (fun w' hw' => by have kk := S11.out.2.grow hw'; have x0 := kk.b0; have x1 := kk.b1; have x2 := kk.b2; have x3 := kk.b3; clear kk; go_simp) (hK _ ?_)
                clear hK K
                simp only [Act.put, List.setIfInBounds_toArray, List.set_cons_zero, List.set_cons_succ]
                refine BigFrame.wpQuiet_want rfl (fun K hK => ?_)
                refine quiet_val (.agg #[.int .i64 0, .int .i64 0, .int .i64 0, .int .i64 0]) (fun w' hw' => by go_simp) (hK _ ?_)
                clear hK K
                simp only [Act.put, List.setIfInBounds_toArray, List.set_cons_zero, List.set_cons_succ]
                refine BigFrame.wpQuiet_want rfl (fun K hK => ?_)
                refine quiet_val (.bool true) (fun w' hw' => by go_simp) (hK _ ?_)
                clear hK K
                simp only [Act.put, List.setIfInBounds_toArray, List.set_cons_zero, List.set_cons_succ]
                refine BigFrame.wpQuiet_want rfl (fun K hK => ?_)
                refine quiet_val (.bool true) (fun w' hw' => by go_simp) (hK _ ?_)
                clear hK K
                simp only [Act.put, List.setIfInBounds_toArray, List.set_cons_zero, List.set_cons_succ]
                refine BigFrame.wpQuiet_want rfl (fun K hK => ?_)
                refine quiet_val (.bool true) (fun w' hw' => by go_simp) (hK _ ?_)
                clear hK K
                simp only [Act.put, List.setIfInBounds_toArray, List.set_cons_zero, List.set_cons_succ]
                go_big_quiet_skip
                go_big_quiet_skip
                go_big_quiet_skip
                go_big_quiet_skip
                go_big_quiet_skip
                refine BigFrame.wpQuiet_want rfl (fun K hK => ?_)
                refine quiet_val (.bool true) (fun w' hw' => by go_simp) (hK _ ?_)
                clear hK K
                simp only [Act.put, List.setIfInBounds_toArray, List.set_cons_zero, List.set_cons_succ]
                refine BigFrame.wpQuiet_want rfl (fun K hK => ?_)
                refine quiet_val (.bool true) (fun w' hw' => by go_simp) (hK _ ?_)
                clear hK K
                simp only [Act.put, List.setIfInBounds_toArray, List.set_cons_zero, List.set_cons_succ]
                refine BigFrame.wpQuiet_want rfl (fun K hK => ?_)
                refine quiet_val (.bool true) (fun w' hw' => by go_simp) (hK _ ?_)
                clear hK K
                simp only [Act.put, List.setIfInBounds_toArray, List.set_cons_zero, List.set_cons_succ]
                refine BigFrame.wpQuiet_want rfl (fun K hK => ?_)
                refine quiet_call 10 #[] (.bool true) (fun w' _ => by go_simp) (fun w' hw' => Calls.out hw' (HAW.out w')) (hK _ ?_)
                clear hK K
                simp only [Act.put, List.setIfInBounds_toArray, List.set_cons_zero, List.set_cons_succ]
                refine BigFrame.wpQuiet_want rfl (fun K hK => ?_)
                refine quiet_val (.bool true) (fun w' hw' => by go_simp) (hK _ ?_)
                clear hK K
                simp only [Act.put, List.setIfInBounds_toArray, List.set_cons_zero, List.set_cons_succ]
                refine BigFrame.wpQuiet_want rfl (fun K hK => ?_)
                refine quiet_val (.bool true) (fun w' hw' => by go_simp) (hK _ ?_)
                clear hK K
                simp only [Act.put, List.setIfInBounds_toArray, List.set_cons_zero, List.set_cons_succ]
                refine wpQuiet_nil ?_
                intro w12 hb12
                have B12 : Hid (Below w.heap.size w w12) := S11.out.1.trans (hb12.mono S11.out.1.size)
                clear hb12
                go_wp2_with fail
                go_ret
                exact ⟨rfl, B12.out⟩

      · have HZ4 : Hid (b2.x0 = 0 → b2.y0 = 0 → b2.x1 = 0 → ¬b2.y1 = 0) := fun h1 h2 h3 h4 => hz (by obtain ⟨_, _, _, _⟩ := b2; simp only at h1 h2 h3 h4; subst h1 h2 h3 h4; rfl)
        go_loopw [65] (fun i wr => ∃ k : Nat, k ≤ nq ∧ i = .int .i64 k ∧ Hid (Below w8.heap.size w8 wr)) (fun i _ => nq - (intOf i).toNat)
        case atStart => exact ⟨0, by omega, rfl, Below.refl _ _⟩
        case round =>
          obtain ⟨k, hk, rfl, hv⟩ := hrel
          by_cases hlt2 : k < nq
          · have hd2 : decide ((k : Int) < (nq : Int)) = true := by simp; omega
            obtain ⟨b3, o3, rfl, hbs3, hpa⟩ := Row.addr S8.out.2.1 (k := k) (by rw [HNQ.out]; exact hlt2)
            obtain ⟨⟨px, py⟩, hp⟩ : ∃ p, Q[k]? = some p := ⟨_, List.getElem?_eq_getElem (by rw [HNQ.out]; exact hlt2)⟩
            obtain ⟨c1, c2⟩ := (hpa.on hv.out hbs3) k (px, py) hp
            have hmem := List.mem_of_getElem? hp
            have hrm : roomP (px, py) = true := List.all_eq_true.1 HQR.out _ hmem
            simp only [roomP, Bool.and_eq_true, room_iff] at hrm
            have HPX2 : Hid ((-9223372036854775808 ≤ px ∧ px ≤ 9223372036854775807) ∧ (-9223372036854775808 ≤ py ∧ py ≤ 9223372036854775807)) := ⟨by omega, by omega⟩
            have HBE : Hid (∀ a w, (-9223372036854775808 ≤ a ∧ a ≤ 9223372036854775807) → Calls Try.prog 24 #[.int .i64 a, .int .i64 256] w fun e w' => e = .returned (.int .i64 (a / 256)) ∧ Below w.heap.size w w') := fun a w h => (below_any a 256 w h.1 h.2 (by decide)).mono fun _ _ ⟨h1, h2⟩ => ⟨h1, h2 ▸ Below.refl _ _⟩
            have HHS : Hid (∀ W, Calls Try.prog 23 #[.agg #[.int .i64 b2.x0, .int .i64 b2.y0, .int .i64 b2.x1, .int .i64 b2.y1], .agg #[.int .i64 (px / 256), .int .i64 (py / 256)]] W fun e w' => e = .returned (.bool true) ∧ Below W.heap.size W w') := fun W => by
              have := has_c b2 (px / 256) (py / 256) W
              rwa [HPI.out (px, py) hmem hz] at this
            simp only at c1 c2
            have hnq60 : nq ≤ 60 := by rw [← HNQ.out]; exact HQL.out
            have S9 : Hid (Below w8.heap.size w8 (wr.alloc (.cells #[.int .i64 px, .int .i64 py] 39)) ∧ True ∧ Blk (wr.alloc (.cells #[.int .i64 px, .int .i64 py] 39)) g8 24 (four b2) ∧ Blk (wr.alloc (.cells #[.int .i64 px, .int .i64 py] 39)) wr.heap.size 39 (two (px, py))) :=
              ⟨hv.out.alloc hv.out.size _, trivial, (S8.out.2.2.grow hv.out).alloc _, Blk.new _ _ _⟩
            clear hpa hp hbs3 hmem hrm
            go_wp2_with fail
            obtain ⟨w9, hw9⟩ : ∃ X, wr.alloc (.cells #[.int .i64 px, .int .i64 py] 39) = X := ⟨_, rfl⟩
            rw [hw9] at S9 ⊢
            clear hw9 c1 c2
            by_cases hp1 : px < 2147483648
            · have he1 : decide (px < 2147483648) = true := by simp; omega
              by_cases hp2 : py < 2147483648
              · have he2 : decide (py < 2147483648) = true := by simp; omega
                refine wp_region_quiet (C := Out w9) (by kernel_rfl) (by kernel_rfl) ⟨rfl, rfl, rfl, Nat.le_refl _, fun _ _ => rfl⟩ ?_
                refine BigFrame.wpQuiet_want rfl (fun K hK => ?_)
                refine quiet_val (.pointer (some ⟨wr.heap.size, 0, none⟩)) (fun w' hw' => by go_simp) (hK _ ?_)
                clear hK K
                simp only [Act.put, List.setIfInBounds_toArray, List.set_cons_zero, List.set_cons_succ]
                refine BigFrame.wpQuiet_want rfl (fun K hK => ?_)
                refine quiet_val (.int .i64 px) (fun w' hw' => by have kk := S9.out.2.2.2.grow hw'; have x0 : w'.cell? ⟨wr.heap.size, 0, none⟩ = some (.int .i64 px) := kk.cell 0; clear kk; go_simp) (hK _ ?_)
                clear hK K
                simp only [Act.put, List.setIfInBounds_toArray, List.set_cons_zero, List.set_cons_succ]
                refine BigFrame.wpQuiet_want rfl (fun K hK => ?_)
                refine quiet_val (.bool true) (fun w' hw' => by go_simp) (hK _ ?_)
                clear hK K
                simp only [Act.put, List.setIfInBounds_toArray, List.set_cons_zero, List.set_cons_succ]
                refine BigFrame.wpQuiet_want rfl (fun K hK => ?_)
                refine quiet_val (.bool true) (fun w' hw' => by go_simp) (hK _ ?_)
                clear hK K
                simp only [Act.put, List.setIfInBounds_toArray, List.set_cons_zero, List.set_cons_succ]
                refine BigFrame.wpQuiet_want rfl (fun K hK => ?_)
                refine quiet_val (.pointer (some ⟨wr.heap.size, 1, none⟩)) (fun w' hw' => by go_simp) (hK _ ?_)
                clear hK K
                simp only [Act.put, List.setIfInBounds_toArray, List.set_cons_zero, List.set_cons_succ]
                refine BigFrame.wpQuiet_want rfl (fun K hK => ?_)
                refine quiet_val (.int .i64 py) (fun w' hw' => by have kk := S9.out.2.2.2.grow hw'; have x0 : w'.cell? ⟨wr.heap.size, 1, none⟩ = some (.int .i64 py) := kk.cell 1; clear kk; go_simp) (hK _ ?_)
                clear hK K
                simp only [Act.put, List.setIfInBounds_toArray, List.set_cons_zero, List.set_cons_succ]
                refine BigFrame.wpQuiet_want rfl (fun K hK => ?_)
                refine quiet_val (.bool true) (fun w' hw' => by go_simp) (hK _ ?_)
                clear hK K
                simp only [Act.put, List.setIfInBounds_toArray, List.set_cons_zero, List.set_cons_succ]
                refine BigFrame.wpQuiet_want rfl (fun K hK => ?_)
                refine quiet_val (.bool true) (fun w' hw' => by go_simp) (hK _ ?_)
                clear hK K
                simp only [Act.put, List.setIfInBounds_toArray, List.set_cons_zero, List.set_cons_succ]
                refine BigFrame.wpQuiet_want rfl (fun K hK => ?_)
                refine quiet_val (.bool true) (fun w' hw' => by go_simp) (hK _ ?_)
                clear hK K
                simp only [Act.put, List.setIfInBounds_toArray, List.set_cons_zero, List.set_cons_succ]
                refine BigFrame.wpQuiet_want rfl (fun K hK => ?_)
                refine quiet_val (.agg #[.int .i64 b2.x0, .int .i64 b2.y0, .int .i64 b2.x1, .int .i64 b2.y1]) (fun w' hw' => by have kk := S9.out.2.2.1.grow hw'; have x0 := kk.b0; have x1 := kk.b1; have x2 := kk.b2; have x3 := kk.b3; clear kk; go_simp) (hK _ ?_)
                clear hK K
                simp only [Act.put, List.setIfInBounds_toArray, List.set_cons_zero, List.set_cons_succ]
                refine BigFrame.wpQuiet_want rfl (fun K hK => ?_)
                refine quiet_val (.agg #[.int .i64 0, .int .i64 0, .int .i64 0, .int .i64 0]) (fun w' hw' => by go_simp) (hK _ ?_)
                clear hK K
                simp only [Act.put, List.setIfInBounds_toArray, List.set_cons_zero, List.set_cons_succ]
                refine BigFrame.wpQuiet_want rfl (fun K hK => ?_)
                refine quiet_val (.bool true) (fun w' hw' => by go_simp; exact HZ4.out) (hK _ ?_)
                clear hK K
                simp only [Act.put, List.setIfInBounds_toArray, List.set_cons_zero, List.set_cons_succ]
                refine BigFrame.wpQuiet_want rfl (fun K hK => ?_)
                refine quiet_val (.bool true) (fun w' hw' => by go_simp) (hK _ ?_)
                clear hK K
                simp only [Act.put, List.setIfInBounds_toArray, List.set_cons_zero, List.set_cons_succ]
                refine BigFrame.wpQuiet_want rfl (fun K hK => ?_)
                refine quiet_val (.bool true) (fun w' hw' => by go_simp) (hK _ ?_)
                clear hK K
                simp only [Act.put, List.setIfInBounds_toArray, List.set_cons_zero, List.set_cons_succ]
                refine BigFrame.wpQuiet_want rfl (fun K hK => ?_)
                refine quiet_val (.agg #[.int .i64 b2.x0, .int .i64 b2.y0, .int .i64 b2.x1, .int .i64 b2.y1]) (fun w' hw' => by have kk := S9.out.2.2.1.grow hw'; have x0 := kk.b0; have x1 := kk.b1; have x2 := kk.b2; have x3 := kk.b3; clear kk; go_simp) (hK _ ?_)
                clear hK K
                simp only [Act.put, List.setIfInBounds_toArray, List.set_cons_zero, List.set_cons_succ]
                refine BigFrame.wpQuiet_want rfl (fun K hK => ?_)
                refine quiet_val (.pointer (some ⟨wr.heap.size, 0, none⟩)) (fun w' hw' => by go_simp) (hK _ ?_)
                clear hK K
                simp only [Act.put, List.setIfInBounds_toArray, List.set_cons_zero, List.set_cons_succ]
                refine BigFrame.wpQuiet_want rfl (fun K hK => ?_)
                refine quiet_val (.int .i64 px) (fun w' hw' => by have kk := S9.out.2.2.2.grow hw'; have x0 : w'.cell? ⟨wr.heap.size, 0, none⟩ = some (.int .i64 px) := kk.cell 0; clear kk; go_simp) (hK _ ?_)
                clear hK K
                simp only [Act.put, List.setIfInBounds_toArray, List.set_cons_zero, List.set_cons_succ]
                refine BigFrame.wpQuiet_want rfl (fun K hK => ?_)
                refine quiet_call 24 #[.int .i64 px, .int .i64 256] (.int .i64 (px / 256)) (fun w' _ => by go_simp) (fun w' hw' => Calls.out hw' (HBE.out px w' HPX2.out.1)) (hK _ ?_)
                clear hK K
                simp only [Act.put, List.setIfInBounds_toArray, List.set_cons_zero, List.set_cons_succ]
                refine BigFrame.wpQuiet_want rfl (fun K hK => ?_)
                refine quiet_val (.pointer (some ⟨wr.heap.size, 1, none⟩)) (fun w' hw' => by go_simp) (hK _ ?_)
                clear hK K
                simp only [Act.put, List.setIfInBounds_toArray, List.set_cons_zero, List.set_cons_succ]
                refine BigFrame.wpQuiet_want rfl (fun K hK => ?_)
                refine quiet_val (.int .i64 py) (fun w' hw' => by have kk := S9.out.2.2.2.grow hw'; have x0 : w'.cell? ⟨wr.heap.size, 1, none⟩ = some (.int .i64 py) := kk.cell 1; clear kk; go_simp) (hK _ ?_)
                clear hK K
                simp only [Act.put, List.setIfInBounds_toArray, List.set_cons_zero, List.set_cons_succ]
                refine BigFrame.wpQuiet_want rfl (fun K hK => ?_)
                refine quiet_call 24 #[.int .i64 py, .int .i64 256] (.int .i64 (py / 256)) (fun w' _ => by go_simp) (fun w' hw' => Calls.out hw' (HBE.out py w' HPX2.out.2)) (hK _ ?_)
                clear hK K
                simp only [Act.put, List.setIfInBounds_toArray, List.set_cons_zero, List.set_cons_succ]
                refine BigFrame.wpQuiet_want rfl (fun K hK => ?_)
                refine quiet_call 20 #[.int .i64 (px / 256), .int .i64 (py / 256)] (.agg #[.int .i64 (px / 256), .int .i64 (py / 256)]) (fun w' _ => by go_simp) (fun w' hw' => Calls.out hw' (at_c _ _ w')) (hK _ ?_)
                clear hK K
                simp only [Act.put, List.setIfInBounds_toArray, List.set_cons_zero, List.set_cons_succ]
                refine BigFrame.wpQuiet_want rfl (fun K hK => ?_)
                refine quiet_call 23 #[.agg #[.int .i64 b2.x0, .int .i64 b2.y0, .int .i64 b2.x1, .int .i64 b2.y1], .agg #[.int .i64 (px / 256), .int .i64 (py / 256)]] (.bool true) (fun w' _ => by go_simp) (fun w' hw' => Calls.out hw' (HHS.out w')) (hK _ ?_)
                clear hK K
                simp only [Act.put, List.setIfInBounds_toArray, List.set_cons_zero, List.set_cons_succ]
                refine BigFrame.wpQuiet_want rfl (fun K hK => ?_)
                refine quiet_val (.bool false) (fun w' hw' => by go_simp) (hK _ ?_)
                clear hK K
                simp only [Act.put, List.setIfInBounds_toArray, List.set_cons_zero, List.set_cons_succ]
                refine BigFrame.wpQuiet_want rfl (fun K hK => ?_)
                refine quiet_val (.bool false) (fun w' hw' => by go_simp) (hK _ ?_)
                clear hK K
                simp only [Act.put, List.setIfInBounds_toArray, List.set_cons_zero, List.set_cons_succ]
                refine wpQuiet_nil ?_
                intro w10 hb10
                have B10 : Hid (Below w8.heap.size w8 w10) := S9.out.1.trans (hb10.mono S9.out.1.size)
                clear hb10
                go_wp2_with fail
                exact ⟨⟨k + 1, by omega, by go_num, B10.out⟩, by simp [intOf]; omega⟩
              · have he2 : decide (py < 2147483648) = false := by simp; omega
                refine wp_region_quiet (C := Out w9) (by kernel_rfl) (by kernel_rfl) ⟨rfl, rfl, rfl, Nat.le_refl _, fun _ _ => rfl⟩ ?_
                refine BigFrame.wpQuiet_want rfl (fun K hK => ?_)
                refine quiet_val (.pointer (some ⟨wr.heap.size, 0, none⟩)) (fun w' hw' => by go_simp) (hK _ ?_)
                clear hK K
                simp only [Act.put, List.setIfInBounds_toArray, List.set_cons_zero, List.set_cons_succ]
                refine BigFrame.wpQuiet_want rfl (fun K hK => ?_)
                refine quiet_val (.int .i64 px) (fun w' hw' => by have kk := S9.out.2.2.2.grow hw'; have x0 : w'.cell? ⟨wr.heap.size, 0, none⟩ = some (.int .i64 px) := kk.cell 0; clear kk; go_simp) (hK _ ?_)
                clear hK K
                simp only [Act.put, List.setIfInBounds_toArray, List.set_cons_zero, List.set_cons_succ]
                refine BigFrame.wpQuiet_want rfl (fun K hK => ?_)
                refine quiet_val (.bool true) (fun w' hw' => by go_simp) (hK _ ?_)
                clear hK K
                simp only [Act.put, List.setIfInBounds_toArray, List.set_cons_zero, List.set_cons_succ]
                refine BigFrame.wpQuiet_want rfl (fun K hK => ?_)
                refine quiet_val (.bool true) (fun w' hw' => by go_simp) (hK _ ?_)
                clear hK K
                simp only [Act.put, List.setIfInBounds_toArray, List.set_cons_zero, List.set_cons_succ]
                refine BigFrame.wpQuiet_want rfl (fun K hK => ?_)
                refine quiet_val (.pointer (some ⟨wr.heap.size, 1, none⟩)) (fun w' hw' => by go_simp) (hK _ ?_)
                clear hK K
                simp only [Act.put, List.setIfInBounds_toArray, List.set_cons_zero, List.set_cons_succ]
                refine BigFrame.wpQuiet_want rfl (fun K hK => ?_)
                refine quiet_val (.int .i64 py) (fun w' hw' => by have kk := S9.out.2.2.2.grow hw'; have x0 : w'.cell? ⟨wr.heap.size, 1, none⟩ = some (.int .i64 py) := kk.cell 1; clear kk; go_simp) (hK _ ?_)
                clear hK K
                simp only [Act.put, List.setIfInBounds_toArray, List.set_cons_zero, List.set_cons_succ]
                refine BigFrame.wpQuiet_want rfl (fun K hK => ?_)
                refine quiet_val (.bool false) (fun w' hw' => by go_simp) (hK _ ?_)
                clear hK K
                simp only [Act.put, List.setIfInBounds_toArray, List.set_cons_zero, List.set_cons_succ]
                refine BigFrame.wpQuiet_want rfl (fun K hK => ?_)
                refine quiet_val (.bool false) (fun w' hw' => by go_simp) (hK _ ?_)
                clear hK K
                simp only [Act.put, List.setIfInBounds_toArray, List.set_cons_zero, List.set_cons_succ]
                refine BigFrame.wpQuiet_want rfl (fun K hK => ?_)
                refine quiet_val (.bool false) (fun w' hw' => by go_simp) (hK _ ?_)
                clear hK K
                simp only [Act.put, List.setIfInBounds_toArray, List.set_cons_zero, List.set_cons_succ]
                go_big_quiet_skip
                go_big_quiet_skip
                go_big_quiet_skip
                refine BigFrame.wpQuiet_want rfl (fun K hK => ?_)
                refine quiet_val (.bool false) (fun w' hw' => by go_simp) (hK _ ?_)
                clear hK K
                simp only [Act.put, List.setIfInBounds_toArray, List.set_cons_zero, List.set_cons_succ]
                refine BigFrame.wpQuiet_want rfl (fun K hK => ?_)
                refine quiet_val (.bool false) (fun w' hw' => by go_simp) (hK _ ?_)
                clear hK K
                simp only [Act.put, List.setIfInBounds_toArray, List.set_cons_zero, List.set_cons_succ]
                go_big_quiet_skip
                go_big_quiet_skip
                go_big_quiet_skip
                go_big_quiet_skip
                go_big_quiet_skip
                go_big_quiet_skip
                go_big_quiet_skip
                go_big_quiet_skip
                go_big_quiet_skip
                go_big_quiet_skip
                refine BigFrame.wpQuiet_want rfl (fun K hK => ?_)
                refine quiet_val (.bool false) (fun w' hw' => by go_simp) (hK _ ?_)
                clear hK K
                simp only [Act.put, List.setIfInBounds_toArray, List.set_cons_zero, List.set_cons_succ]
                refine wpQuiet_nil ?_
                intro w10 hb10
                have B10 : Hid (Below w8.heap.size w8 w10) := S9.out.1.trans (hb10.mono S9.out.1.size)
                clear hb10
                go_wp2_with fail
                exact ⟨⟨k + 1, by omega, by go_num, B10.out⟩, by simp [intOf]; omega⟩
            · have he1 : decide (px < 2147483648) = false := by simp; omega
              refine wp_region_quiet (C := Out w9) (by kernel_rfl) (by kernel_rfl) ⟨rfl, rfl, rfl, Nat.le_refl _, fun _ _ => rfl⟩ ?_
              refine BigFrame.wpQuiet_want rfl (fun K hK => ?_)
              refine quiet_val (.pointer (some ⟨wr.heap.size, 0, none⟩)) (fun w' hw' => by go_simp) (hK _ ?_)
              clear hK K
              simp only [Act.put, List.setIfInBounds_toArray, List.set_cons_zero, List.set_cons_succ]
              refine BigFrame.wpQuiet_want rfl (fun K hK => ?_)
              refine quiet_val (.int .i64 px) (fun w' hw' => by have kk := S9.out.2.2.2.grow hw'; have x0 : w'.cell? ⟨wr.heap.size, 0, none⟩ = some (.int .i64 px) := kk.cell 0; clear kk; go_simp) (hK _ ?_)
              clear hK K
              simp only [Act.put, List.setIfInBounds_toArray, List.set_cons_zero, List.set_cons_succ]
              refine BigFrame.wpQuiet_want rfl (fun K hK => ?_)
              refine quiet_val (.bool false) (fun w' hw' => by go_simp) (hK _ ?_)
              clear hK K
              simp only [Act.put, List.setIfInBounds_toArray, List.set_cons_zero, List.set_cons_succ]
              refine BigFrame.wpQuiet_want rfl (fun K hK => ?_)
              refine quiet_val (.bool false) (fun w' hw' => by go_simp) (hK _ ?_)
              clear hK K
              simp only [Act.put, List.setIfInBounds_toArray, List.set_cons_zero, List.set_cons_succ]
              go_big_quiet_skip
              go_big_quiet_skip
              go_big_quiet_skip
              refine BigFrame.wpQuiet_want rfl (fun K hK => ?_)
              refine quiet_val (.bool false) (fun w' hw' => by go_simp) (hK _ ?_)
              clear hK K
              simp only [Act.put, List.setIfInBounds_toArray, List.set_cons_zero, List.set_cons_succ]
              refine BigFrame.wpQuiet_want rfl (fun K hK => ?_)
              refine quiet_val (.bool false) (fun w' hw' => by go_simp) (hK _ ?_)
              clear hK K
              simp only [Act.put, List.setIfInBounds_toArray, List.set_cons_zero, List.set_cons_succ]
              go_big_quiet_skip
              go_big_quiet_skip
              go_big_quiet_skip
              refine BigFrame.wpQuiet_want rfl (fun K hK => ?_)
              refine quiet_val (.bool false) (fun w' hw' => by go_simp) (hK _ ?_)
              clear hK K
              simp only [Act.put, List.setIfInBounds_toArray, List.set_cons_zero, List.set_cons_succ]
              refine BigFrame.wpQuiet_want rfl (fun K hK => ?_)
              refine quiet_val (.bool false) (fun w' hw' => by go_simp) (hK _ ?_)
              clear hK K
              simp only [Act.put, List.setIfInBounds_toArray, List.set_cons_zero, List.set_cons_succ]
              go_big_quiet_skip
              go_big_quiet_skip
              go_big_quiet_skip
              go_big_quiet_skip
              go_big_quiet_skip
              go_big_quiet_skip
              go_big_quiet_skip
              go_big_quiet_skip
              go_big_quiet_skip
              go_big_quiet_skip
              refine BigFrame.wpQuiet_want rfl (fun K hK => ?_)
              refine quiet_val (.bool false) (fun w' hw' => by go_simp) (hK _ ?_)
              clear hK K
              simp only [Act.put, List.setIfInBounds_toArray, List.set_cons_zero, List.set_cons_succ]
              refine wpQuiet_nil ?_
              intro w10 hb10
              have B10 : Hid (Below w8.heap.size w8 w10) := S9.out.1.trans (hb10.mono S9.out.1.size)
              clear hb10
              go_wp2_with fail
              exact ⟨⟨k + 1, by omega, by go_num, B10.out⟩, by simp [intOf]; omega⟩
          · have hd2 : decide ((k : Int) < (nq : Int)) = false := by simp; omega
            have S10 : Hid (Below w.heap.size w wr ∧ Blk wr g8 24 (four b2)) := ⟨S8.out.1.trans (hv.out.mono S8.out.1.size), S8.out.2.2.grow hv.out⟩
            obtain ⟨hxa, hxb⟩ := HX.out
            obtain ⟨hya, hyb⟩ := HY.out
            have hmo := mask_one (S.map Prod.snd) rule x y HX.out HY.out HRAE.out
            have HMK : Hid (Calls Try.prog 12 #[.slice ao n c, .int .i64 rule, .agg #[.int .i64 x, .int .i64 y, .int .i64 (x + 1), .int .i64 (y + 1)]] wr fun e w' => MaskU wr (maskO (S.map Prod.snd) rule ⟨x, y, x + 1, y + 1⟩).1 (maskO (S.map Prod.snd) rule ⟨x, y, x + 1, y + 1⟩).2 e w') :=
              mask_c _ S rule ⟨x, y, x + 1, y + 1⟩ wr (HROW.out.on S10.out.1) (by have := HS.out.1; omega) (fun x hx => by have := HS.out.2.1 x hx; omega)
            rw [hmo] at HMK
            clear hmo hv
            cases hrb : ruleB rule
            · rw [hrb, if_neg (by decide)] at HMK
              have hr1 : (rule != 1) = true := by unfold ruleB at hrb; simp at hrb ⊢; exact hrb.1
              have hr2 : (rule != 2) = true := by unfold ruleB at hrb; simp at hrb ⊢; exact hrb.2
              clear hrb
              go_wp2_with fail
              refine (HMK.out).mono ?_
              rintro e w11 ⟨v, rfl, hvv, hb11⟩
              have B11 : Hid (Below w.heap.size w w11) := S10.out.1.trans (hb11.mono S10.out.1.size)
              clear hvv hb11 HMK
              go_wp2_with fail
              refine (HAW.out _).mono ?_
              rintro e w9 ⟨rfl, hb⟩
              have B9 : Hid (Below w.heap.size w w9) := (B11.out).trans (hb.mono (B11.out).size)
              clear hb
              go_wp2_with fail
              go_ret
              exact ⟨rfl, B9.out⟩
            · rw [hrb, if_pos rfl] at HMK
              obtain ⟨q, hq⟩ : ∃ q, countI (S.map Prod.snd) rule x y = q := ⟨_, rfl⟩
              rw [hq] at HMK
              have HQE := Lib.hid hq
              have hq16 : q ≤ 16 := by rw [← hq]; exact count_le _ _ _ _
              clear hrb hq
              go_wp2_with fail
              refine (HMK.out).mono ?_
              rintro e w11 ⟨v, rfl, hvv, hb11⟩
              obtain ⟨mb, mo, mc, rfl, hl1, hc1⟩ := hvv.byte1
              have S11 : Hid (Below w.heap.size w w11 ∧ Blk w11 g8 24 (four b2)) := ⟨S10.out.1.trans (hb11.mono S10.out.1.size), S10.out.2.grow hb11⟩
              have HQC : Hid (∀ W, Below w11.heap.size w11 W → W.cell? ⟨mb, mo, none⟩ = some (.int .u8 (q : Int))) := fun W hW => by rw [cell_below hW hl1]; exact hc1
              clear hvv hb11 HMK hl1 hc1
              go_wp2_with fail
              by_cases hq0 : q = 0
              · subst hq0
                refine wp_region_quiet (C := Out w11) (by kernel_rfl) (by kernel_rfl) ⟨rfl, rfl, rfl, Nat.le_refl _, fun _ _ => rfl⟩ ?_
                refine BigFrame.wpQuiet_want rfl (fun K hK => ?_)
                refine quiet_val (.slice (some ⟨mb, mo, none⟩) 1 mc) (fun w' hw' => by go_simp) (hK _ ?_)
                clear hK K
                simp only [Act.put, List.setIfInBounds_toArray, List.set_cons_zero, List.set_cons_succ]
                refine BigFrame.wpQuiet_want rfl (fun K hK => ?_)
                refine quiet_val (.int .i64 1) (fun w' hw' => by go_simp) (hK _ ?_)
                clear hK K
                simp only [Act.put, List.setIfInBounds_toArray, List.set_cons_zero, List.set_cons_succ]
                refine BigFrame.wpQuiet_want rfl (fun K hK => ?_)
                refine quiet_val (.bool true) (fun w' hw' => by go_simp) (hK _ ?_)
                clear hK K
                simp only [Act.put, List.setIfInBounds_toArray, List.set_cons_zero, List.set_cons_succ]
                refine BigFrame.wpQuiet_want rfl (fun K hK => ?_)
                refine quiet_val (.bool true) (fun w' hw' => by go_simp) (hK _ ?_)
                clear hK K
                simp only [Act.put, List.setIfInBounds_toArray, List.set_cons_zero, List.set_cons_succ]
                refine BigFrame.wpQuiet_want rfl (fun K hK => ?_)
                refine quiet_val (.slice (some ⟨mb, mo, none⟩) 1 mc) (fun w' hw' => by go_simp) (hK _ ?_)
                clear hK K
                simp only [Act.put, List.setIfInBounds_toArray, List.set_cons_zero, List.set_cons_succ]
                refine BigFrame.wpQuiet_want rfl (fun K hK => ?_)
                refine quiet_val (.pointer (some ⟨mb, mo, none⟩)) (fun w' hw' => by go_simp) (hK _ ?_)
                clear hK K
                simp only [Act.put, List.setIfInBounds_toArray, List.set_cons_zero, List.set_cons_succ]
                refine BigFrame.wpQuiet_want rfl (fun K hK => ?_)
                refine quiet_val (.int .u8 0) (fun w' hw' => by have x0 := HQC.out w' hw'; go_simp) (hK _ ?_)
                clear hK K
                simp only [Act.put, List.setIfInBounds_toArray, List.set_cons_zero, List.set_cons_succ]
                refine BigFrame.wpQuiet_want rfl (fun K hK => ?_)
                refine quiet_val (.bool true) (fun w' hw' => by go_simp) (hK _ ?_)
                clear hK K
                simp only [Act.put, List.setIfInBounds_toArray, List.set_cons_zero, List.set_cons_succ]
                refine BigFrame.wpQuiet_want rfl (fun K hK => ?_)
                refine quiet_val (.bool true) (fun w' hw' => by go_simp) (hK _ ?_)
                clear hK K
                simp only [Act.put, List.setIfInBounds_toArray, List.set_cons_zero, List.set_cons_succ]
                go_big_quiet_skip
                go_big_quiet_skip
                go_big_quiet_skip
                refine BigFrame.wpQuiet_want rfl (fun K hK => ?_)
                refine quiet_val (.bool true) (fun w' hw' => by go_simp) (hK _ ?_)
                clear hK K
                simp only [Act.put, List.setIfInBounds_toArray, List.set_cons_zero, List.set_cons_succ]
                refine BigFrame.wpQuiet_want rfl (fun K hK => ?_)
                refine quiet_val (.bool true) (fun w' hw' => by go_simp) (hK _ ?_)
                clear hK K
                simp only [Act.put, List.setIfInBounds_toArray, List.set_cons_zero, List.set_cons_succ]
                go_big_quiet_skip
                go_big_quiet_skip
                go_big_quiet_skip
                go_big_quiet_skip
                go_big_quiet_skip
                refine BigFrame.wpQuiet_want rfl (fun K hK => ?_)
                refine quiet_val (.bool true) (fun w' hw' => by go_simp) (hK _ ?_)
                clear hK K
                simp only [Act.put, List.setIfInBounds_toArray, List.set_cons_zero, List.set_cons_succ]
                refine BigFrame.wpQuiet_want rfl (fun K hK => ?_)
                refine quiet_val (.bool true) (fun w' hw' => by go_simp) (hK _ ?_)
                clear hK K
                simp only [Act.put, List.setIfInBounds_toArray, List.set_cons_zero, List.set_cons_succ]
                refine BigFrame.wpQuiet_want rfl (fun K hK => ?_)
                refine quiet_val (.bool true) (fun w' hw' => by go_simp) (hK _ ?_)
                clear hK K
                simp only [Act.put, List.setIfInBounds_toArray, List.set_cons_zero, List.set_cons_succ]
                refine BigFrame.wpQuiet_want rfl (fun K hK => ?_)
                refine quiet_call 10 #[] (.bool true) (fun w' _ => by go_simp) (fun w' hw' => Calls.out hw' (HAW.out w')) (hK _ ?_)
                clear hK K
                simp only [Act.put, List.setIfInBounds_toArray, List.set_cons_zero, List.set_cons_succ]
                refine BigFrame.wpQuiet_want rfl (fun K hK => ?_)
                refine quiet_val (.bool true) (fun w' hw' => by go_simp) (hK _ ?_)
                clear hK K
                simp only [Act.put, List.setIfInBounds_toArray, List.set_cons_zero, List.set_cons_succ]
                refine BigFrame.wpQuiet_want rfl (fun K hK => ?_)
                refine quiet_val (.bool true) (fun w' hw' => by go_simp) (hK _ ?_)
                clear hK K
                simp only [Act.put, List.setIfInBounds_toArray, List.set_cons_zero, List.set_cons_succ]
                refine wpQuiet_nil ?_
                intro w12 hb12
                have B12 : Hid (Below w.heap.size w w12) := S11.out.1.trans (hb12.mono S11.out.1.size)
                clear hb12
                go_wp2_with fail
                go_ret
                exact ⟨rfl, B12.out⟩
              · have hqz : ((q : Int) == 0) = false := by simp; omega
                have HHX : Hid (∀ W, Calls Try.prog 23 #[.agg #[.int .i64 b2.x0, .int .i64 b2.y0, .int .i64 b2.x1, .int .i64 b2.y1], .agg #[.int .i64 x, .int .i64 y]] W fun e w' => e = .returned (.bool true) ∧ Below W.heap.size W w') := fun W => by
                  have := has_c b2 x y W
                  rwa [HCI.out rule x y (by rw [HQE.out]; exact hq0) hz] at this
                refine wp_region_quiet (C := Out w11) (by kernel_rfl) (by kernel_rfl) ⟨rfl, rfl, rfl, Nat.le_refl _, fun _ _ => rfl⟩ ?_
                refine BigFrame.wpQuiet_want rfl (fun K hK => ?_)
                refine quiet_val (.slice (some ⟨mb, mo, none⟩) 1 mc) (fun w' hw' => by go_simp) (hK _ ?_)
                clear hK K
                simp only [Act.put, List.setIfInBounds_toArray, List.set_cons_zero, List.set_cons_succ]
                refine BigFrame.wpQuiet_want rfl (fun K hK => ?_)
                refine quiet_val (.int .i64 1) (fun w' hw' => by go_simp) (hK _ ?_)
                clear hK K
                simp only [Act.put, List.setIfInBounds_toArray, List.set_cons_zero, List.set_cons_succ]
                refine BigFrame.wpQuiet_want rfl (fun K hK => ?_)
                refine quiet_val (.bool true) (fun w' hw' => by go_simp) (hK _ ?_)
                clear hK K
                simp only [Act.put, List.setIfInBounds_toArray, List.set_cons_zero, List.set_cons_succ]
                refine BigFrame.wpQuiet_want rfl (fun K hK => ?_)
                refine quiet_val (.bool true) (fun w' hw' => by go_simp) (hK _ ?_)
                clear hK K
                simp only [Act.put, List.setIfInBounds_toArray, List.set_cons_zero, List.set_cons_succ]
                refine BigFrame.wpQuiet_want rfl (fun K hK => ?_)
                refine quiet_val (.slice (some ⟨mb, mo, none⟩) 1 mc) (fun w' hw' => by go_simp) (hK _ ?_)
                clear hK K
                simp only [Act.put, List.setIfInBounds_toArray, List.set_cons_zero, List.set_cons_succ]
                refine BigFrame.wpQuiet_want rfl (fun K hK => ?_)
                refine quiet_val (.pointer (some ⟨mb, mo, none⟩)) (fun w' hw' => by go_simp) (hK _ ?_)
                clear hK K
                simp only [Act.put, List.setIfInBounds_toArray, List.set_cons_zero, List.set_cons_succ]
                refine BigFrame.wpQuiet_want rfl (fun K hK => ?_)
                refine quiet_val (.int .u8 (q : Int)) (fun w' hw' => by have x0 := HQC.out w' hw'; go_simp) (hK _ ?_)
                clear hK K
                simp only [Act.put, List.setIfInBounds_toArray, List.set_cons_zero, List.set_cons_succ]
                refine BigFrame.wpQuiet_want rfl (fun K hK => ?_)
                refine quiet_val (.bool false) (fun w' hw' => by go_simp) (hK _ ?_)
                clear hK K
                simp only [Act.put, List.setIfInBounds_toArray, List.set_cons_zero, List.set_cons_succ]
                refine BigFrame.wpQuiet_want rfl (fun K hK => ?_)
                refine quiet_val (.bool false) (fun w' hw' => by go_simp) (hK _ ?_)
                clear hK K
                simp only [Act.put, List.setIfInBounds_toArray, List.set_cons_zero, List.set_cons_succ]
                refine BigFrame.wpQuiet_want rfl (fun K hK => ?_)
                refine quiet_val (.agg #[.int .i64 b2.x0, .int .i64 b2.y0, .int .i64 b2.x1, .int .i64 b2.y1]) (fun w' hw' => by have kk := S11.out.2.grow hw'; have x0 := kk.b0; have x1 := kk.b1; have x2 := kk.b2; have x3 := kk.b3; clear kk; go_simp) (hK _ ?_)
                clear hK K
                simp only [Act.put, List.setIfInBounds_toArray, List.set_cons_zero, List.set_cons_succ]
                refine BigFrame.wpQuiet_want rfl (fun K hK => ?_)
                refine quiet_val (.agg #[.int .i64 0, .int .i64 0, .int .i64 0, .int .i64 0]) (fun w' hw' => by go_simp) (hK _ ?_)
                clear hK K
                simp only [Act.put, List.setIfInBounds_toArray, List.set_cons_zero, List.set_cons_succ]
                refine BigFrame.wpQuiet_want rfl (fun K hK => ?_)
                refine quiet_val (.bool false) (fun w' hw' => by go_simp; exact HZ4.out) (hK _ ?_)
                clear hK K
                simp only [Act.put, List.setIfInBounds_toArray, List.set_cons_zero, List.set_cons_succ]
                refine BigFrame.wpQuiet_want rfl (fun K hK => ?_)
                refine quiet_val (.bool false) (fun w' hw' => by go_simp) (hK _ ?_)
                clear hK K
                simp only [Act.put, List.setIfInBounds_toArray, List.set_cons_zero, List.set_cons_succ]
                refine BigFrame.wpQuiet_want rfl (fun K hK => ?_)
                refine quiet_val (.bool false) (fun w' hw' => by go_simp) (hK _ ?_)
                clear hK K
                simp only [Act.put, List.setIfInBounds_toArray, List.set_cons_zero, List.set_cons_succ]
                refine BigFrame.wpQuiet_want rfl (fun K hK => ?_)
                refine quiet_val (.agg #[.int .i64 b2.x0, .int .i64 b2.y0, .int .i64 b2.x1, .int .i64 b2.y1]) (fun w' hw' => by have kk := S11.out.2.grow hw'; have x0 := kk.b0; have x1 := kk.b1; have x2 := kk.b2; have x3 := kk.b3; clear kk; go_simp) (hK _ ?_)
                clear hK K
                simp only [Act.put, List.setIfInBounds_toArray, List.set_cons_zero, List.set_cons_succ]
                refine BigFrame.wpQuiet_want rfl (fun K hK => ?_)
                refine quiet_val (.int .i64 x) (fun w' hw' => by go_simp) (hK _ ?_)
                clear hK K
                simp only [Act.put, List.setIfInBounds_toArray, List.set_cons_zero, List.set_cons_succ]
                refine BigFrame.wpQuiet_want rfl (fun K hK => ?_)
                refine quiet_val (.int .i64 y) (fun w' hw' => by go_simp) (hK _ ?_)
                clear hK K
                simp only [Act.put, List.setIfInBounds_toArray, List.set_cons_zero, List.set_cons_succ]
                refine BigFrame.wpQuiet_want rfl (fun K hK => ?_)
                refine quiet_call 20 #[.int .i64 x, .int .i64 y] (.agg #[.int .i64 x, .int .i64 y]) (fun w' _ => by go_simp) (fun w' hw' => Calls.out hw' (at_c _ _ w')) (hK _ ?_)
                clear hK K
                simp only [Act.put, List.setIfInBounds_toArray, List.set_cons_zero, List.set_cons_succ]
                refine BigFrame.wpQuiet_want rfl (fun K hK => ?_)
                refine quiet_call 23 #[.agg #[.int .i64 b2.x0, .int .i64 b2.y0, .int .i64 b2.x1, .int .i64 b2.y1], .agg #[.int .i64 x, .int .i64 y]] (.bool true) (fun w' _ => by go_simp) (fun w' hw' => Calls.out hw' (HHX.out w')) (hK _ ?_)
                clear hK K
                simp only [Act.put, List.setIfInBounds_toArray, List.set_cons_zero, List.set_cons_succ]
                refine BigFrame.wpQuiet_want rfl (fun K hK => ?_)
                refine quiet_val (.bool true) (fun w' hw' => by go_simp) (hK _ ?_)
                clear hK K
                simp only [Act.put, List.setIfInBounds_toArray, List.set_cons_zero, List.set_cons_succ]
                refine BigFrame.wpQuiet_want rfl (fun K hK => ?_)
                refine quiet_val (.bool true) (fun w' hw' => by go_simp) (hK _ ?_)
                clear hK K
                simp only [Act.put, List.setIfInBounds_toArray, List.set_cons_zero, List.set_cons_succ]
                refine BigFrame.wpQuiet_want rfl (fun K hK => ?_)
                refine quiet_val (.bool true) (fun w' hw' => by go_simp) (hK _ ?_)
                clear hK K
                simp only [Act.put, List.setIfInBounds_toArray, List.set_cons_zero, List.set_cons_succ]
                refine BigFrame.wpQuiet_want rfl (fun K hK => ?_)
                refine quiet_call 10 #[] (.bool true) (fun w' _ => by go_simp) (fun w' hw' => Calls.out hw' (HAW.out w')) (hK _ ?_)
                clear hK K
                simp only [Act.put, List.setIfInBounds_toArray, List.set_cons_zero, List.set_cons_succ]
                refine BigFrame.wpQuiet_want rfl (fun K hK => ?_)
                refine quiet_val (.bool true) (fun w' hw' => by go_simp) (hK _ ?_)
                clear hK K
                simp only [Act.put, List.setIfInBounds_toArray, List.set_cons_zero, List.set_cons_succ]
                refine BigFrame.wpQuiet_want rfl (fun K hK => ?_)
                refine quiet_val (.bool true) (fun w' hw' => by go_simp) (hK _ ?_)
                clear hK K
                simp only [Act.put, List.setIfInBounds_toArray, List.set_cons_zero, List.set_cons_succ]
                refine wpQuiet_nil ?_
                intro w12 hb12
                have B12 : Hid (Below w.heap.size w w12) := S11.out.1.trans (hb12.mono S11.out.1.size)
                clear hb12
                go_wp2_with fail
                go_ret
                exact ⟨rfl, B12.out⟩

end Go.Proofs.Ytopngjpgikpmaaa
