/- Layer 14: the law StoreCrashes. -/
import Derived.Test.YtdcjchakgfpgaaaNc
namespace Go.Proofs.Ytdcjchakgfpgaaa
open Go.RowKit
theorem wp_append_clip {w : World} {o : Oper} {a : Act} {K : Act → World → Prop} {Q : Exit → Act → World → Prop} (s x : Operand)
    (ho : o.op = .call { callee := .builtin .append, args := #[s, x], argTypes := #[24, 24] })
    (ao : Option Addr) (n : Nat) (E : List Int) (hs : a.eval s = .slice ao n n) (hrow : RowB w (.slice ao n n) E) (hE : E.length = n) (b : Value) (Y : List Int) (hxe : a.eval x = b) (row : RowB w b Y) (hl : n + Y.length ≤ 100000)
    (h : ∀ v' w', RowB w' v' (E ++ Y) → CapS v' → Below w.heap.size w w' → (∀ k, v'.ownBlock = some k → (E ++ Y).length ≠ 0 → (E.length ≠ 0 ∧ (Value.slice ao n n).ownBlock = some k) ∨ w.heap.size ≤ k) → K (a.put o.dst v') w') : o.wp Try.prog a w K Q := by
  obtain ⟨v', w', hr, h2, h3, h4, h5⟩ := run_append_clip w o.type ao n E hrow hE b Y row hl
  unfold Oper.wp
  simp [execOp, ho, resolve, invoke, builtin, hs, hxe, hr, Result.andThen]
  exact h v' w' h2 h3 h4 h5
theorem RowS.on {w w' : World} {s : Value} {L : List Op14} (h : RowS w s L) (hb : Below w.heap.size w w') : RowS w' s L := by
  refine ⟨?_, fun p hp => ?_⟩
  · rcases h.1 with h | h | ⟨b, o, c, h1, h2, h3⟩
    · exact .inl h
    · exact .inr (.inl h)
    · exact .inr (.inr ⟨b, o, c, h1, Nat.lt_of_lt_of_le h2 hb.size, fun i p hp => (h3 i p hp).on hb h2⟩)
  · have q := h.2 p hp
    exact ⟨q.n, q.torn, q.cut, q.drow.on hb, q.dok, q.dcap, fun h0 k e => Nat.lt_of_lt_of_le (q.dlt h0 k e) hb.size, q.krow.on hb, q.kcap, fun h0 k e => Nat.lt_of_lt_of_le (q.klt h0 k e) hb.size⟩
set_option maxHeartbeats 16000000 in
set_option maxRecDepth 100000 in
theorem crashes_law (s : Value) (L : List Op14) (w : World) (hr : RowS w s L) (hl : L.length ≤ 9223372036854775807) : Calls Try.prog 5 #[s] w fun e w' => e = .returned (.bool true) ∧ Below w.heap.size w w' := by
  have HAW : Hid (∀ W, Calls Try.prog 7 #[] W fun e w' => e = .returned (.bool true) ∧ Below W.heap.size W w') := fun W => awake14_c W
  have HM := Lib.hid (made_c 12 32 w ⟨by decide, by decide, by decide, by decide⟩ (by decide) (by decide) (by decide))
  have HROW := Lib.hid hr
  have HSM : Hid (∀ W, Below w.heap.size w W → Calls Try.prog 17 #[s, .int .i64 40] W fun e w' => e = .returned (.bool (small14 L 40)) ∧ Below W.heap.size W w') := fun W hW => small14_c s L 40 W (HROW.out.on hW) hl
  obtain ⟨ao, ac, rfl⟩ := hr.shape
  obtain ⟨n, hn⟩ : ∃ n, L.length = n := ⟨_, rfl⟩
  have HN := Lib.hid hn
  rw [hn] at HROW HSM ⊢
  clear hr hl hn
  go_enter Try.func5, Try.ntmps5
  go_wp2_with fail
  refine (HM.out).mono ?_
  rintro e w1 ⟨U1, a, g, s1, rfl, q1, q2, q3, q4, q5, q6, q7⟩
  have H1 : Hid (SS U1 w1 a g s1 ∧ Up s1 32 5 27 1 ∧ s1.h = ⟨1, 0, 0, 0⟩ ∧ s1.D = [] ∧ Below w.heap.size w w1 ∧ ∀ k, U1 k → w.heap.size ≤ k) := ⟨q1, q2, q3, q4, q6, q7⟩
  have HS1 := Lib.hid (HSM.out w1 q6)
  clear q1 q2 q3 q4 q5 q6 q7 HM HSM
  obtain ⟨sm, hsm⟩ : ∃ b, small14 L 40 = b := ⟨_, rfl⟩
  have HSMB := Lib.hid hsm
  rw [hsm] at HS1
  clear hsm
  cases sm with
  | false =>
    go_wp2_with fail
    refine (HS1.out).mono ?_
    rintro e w2 ⟨rfl, hb⟩
    have H2 : Hid (Below w.heap.size w w2) := H1.out.2.2.2.2.1.trans (hb.mono H1.out.2.2.2.2.1.size)
    clear hb
    go_wp2_with fail
    refine (HAW.out _).mono ?_
    rintro e w3 ⟨rfl, hb⟩
    have H3 : Hid (Below w.heap.size w w3) := H2.out.trans (hb.mono H2.out.size)
    clear hb
    go_wp2_with fail
    go_ret
    exact ⟨rfl, H3.out⟩
  | true =>
    go_wp2_with fail
    refine (HS1.out).mono ?_
    rintro e w2 ⟨rfl, hb⟩
    have HST : Hid (LoopQ w g a 32 5 (27 + 20 * ((0 : Nat) : Int)) (1 + ((0 : Nat) : Int)) (.slice none 0 0) (.slice none 0 0) (.slice none 0 0) (.slice none 0 0) false w2) := by
      refine ⟨U1, s1, [], [], [], [], H1.out.1.to hb, ⟨H1.out.2.2.2.1, by rw [H1.out.2.2.1]; rfl, .inl ⟨rfl, H1.out.2.1⟩⟩, RowQ.nil _ _, RowQ.nil _ _, RowQ.nil _ _, RowQ.nil _ _, H1.out.2.2.2.2.1.trans (hb.mono H1.out.2.2.2.2.1.size), H1.out.2.2.2.2.2⟩
    have HL : Hid (n ≤ 40) := by
      have h := HSMB.out
      unfold small14 at h
      rw [Bool.and_eq_true] at h
      have h2 := of_decide_eq_true h.2
      rw [HN.out] at h2
      unfold Hid
      omega
    have HOPS : Hid (∀ p ∈ L, okOp p) := by
      have h := HSMB.out
      unfold small14 at h
      rw [Bool.and_eq_true, List.all_eq_true] at h
      exact fun p hp => of_decide_eq_true (h.1 p hp)
    clear hb HS1 HSMB H1
    go_wp2_with fail
    go_loopw [3, 5, 6, 7, 8, 9, 11, 12, 13, 14, 15, 16, 35] (fun s3 s5 s6 s7 s8 s9 _ _ _ _ _ _ i wr => ∃ k : Nat, k ≤ n ∧ i = .int .i64 (k : Int) ∧ ∃ a asked, s3 = ptrD a ∧ s9 = .bool asked ∧ Hid (LoopQ w g a 32 5 (27 + 20 * (k : Int)) (1 + (k : Int)) s5 s6 s7 s8 asked wr)) (fun _ _ _ _ _ _ _ _ _ _ _ _ i _ => n - (intOf i).toNat)
    case atStart => exact ⟨0, Nat.zero_le _, rfl, a, false, rfl, rfl, HST.out⟩
    case round =>
      obtain ⟨k, hk, rfl, a, asked, rfl, rfl, hw⟩ := hrel
      clear HST
      by_cases hlt : k < n
      · have hd : decide ((k : Int) < (n : Int)) = true := by simp; omega
        have hki : (k : Int) < (n : Int) := by omega
        have HKN : Hid (k + 1 ≤ n) := hlt
        have HKM : Hid (27 + 20 * ((k + 1 : Nat) : Int) = 27 + 20 * (k : Int) + 20 ∧ 1 + ((k + 1 : Nat) : Int) = 1 + (k : Int) + 1) := ⟨by omega, by omega⟩
        obtain ⟨U, st, SN, LG, NS, NL, hss, hmd, q5, q6, q7, q8, hbw, hfar⟩ := hw.out
        obtain ⟨b, of, rfl, hb, hc⟩ := RowS.addr HROW.out (by rw [HN.out]; omega)
        obtain ⟨p, hp⟩ : ∃ p, L[k]? = some p := ⟨_, List.getElem?_eq_getElem (by rw [HN.out]; exact hlt)⟩
        obtain ⟨c0, c1, c2, c3, c4, c5⟩ := (hc k p hp).on hbw hb
        have HOK := Lib.hid (HROW.out.2 p (List.mem_of_getElem? hp))
        have HOP := Lib.hid (HOPS.out p (List.mem_of_getElem? hp))
        obtain ⟨da, dc, hdv⟩ := HOK.out.drow.shape
        obtain ⟨ka, kc, hkv⟩ := HOK.out.krow.shape
        obtain ⟨dn, hdn⟩ : ∃ x, p.data.length = x := ⟨_, rfl⟩
        obtain ⟨kn, hkn⟩ : ∃ x, p.keep.length = x := ⟨_, rfl⟩
        have HLEN : Hid (p.data.length = dn ∧ p.keep.length = kn) := ⟨hdn, hkn⟩
        rw [hdn] at hdv
        rw [hkn] at hkv
        have HDV : Hid (p.dv = .slice da dn dc ∧ p.kv = .slice ka kn kc) := ⟨hdv, hkv⟩
        rw [hdv] at c2
        rw [hkv] at c3
        have hbl : b < wr.heap.size := Nat.lt_of_lt_of_le hb hbw.size
        obtain ⟨l6, c6, hv6⟩ := q6.row.shape
        obtain ⟨n6, hn6⟩ : ∃ x, LG.length = x := ⟨_, rfl⟩
        rw [hn6] at hv6
        subst hv6
        have H0 : Hid (SS U wr a g st ∧ ModeQ st 32 5 SN LG NS NL asked (27 + 20 * (k : Int)) (1 + (k : Int)) ∧ RowQ U wr u5 SN ∧ RowQ U wr (.slice l6 n6 c6) LG ∧ RowQ U wr u7 NS ∧ RowQ U wr u8 NL ∧ Below w.heap.size w wr ∧ (∀ k, U k → w.heap.size ≤ k) ∧ LG.length = n6) := ⟨hss, hmd, q5, q6, q7, q8, hbw, hfar, hn6⟩
        clear hw hss hmd q5 q6 q7 q8 hbw hfar hdv hkv hdn hkn hp hc hb hn6 hk
        obtain ⟨G, hG⟩ : ∃ G, wr.heap.size = G := ⟨_, rfl⟩
        have HG := Lib.hid hG
        obtain ⟨wa, hwa⟩ : ∃ x, wr.alloc (.cells #[.int .i64 0, .int .i64 0, .slice none 0 0, .slice none 0 0, .int .i64 0, .int .i64 0] 52) = x := ⟨_, rfl⟩
        have HA : Hid (Below wr.heap.size wr wa ∧ Blk wa G 52 #[.int .i64 0, .int .i64 0, .slice none 0 0, .slice none 0 0, .int .i64 0, .int .i64 0]) := by
          rw [← hwa, ← hG]
          exact ⟨(Below.refl _ _).alloc (Nat.le_refl _) _, Blk.new _ _ _⟩
        have z0 : wa.cell? ⟨G, 0, none⟩ = some (.int .i64 0) := HA.out.2.cell 0
        have z1 : wa.cell? ⟨G, 1, none⟩ = some (.int .i64 0) := HA.out.2.cell 1
        have z2 : wa.cell? ⟨G, 2, none⟩ = some (.slice none 0 0) := HA.out.2.cell 2
        have z3 : wa.cell? ⟨G, 3, none⟩ = some (.slice none 0 0) := HA.out.2.cell 3
        have z4 : wa.cell? ⟨G, 4, none⟩ = some (.int .i64 0) := HA.out.2.cell 4
        have z5 : wa.cell? ⟨G, 5, none⟩ = some (.int .i64 0) := HA.out.2.cell 5
        have y0 := HA.out.2.free 0
        have y1 := HA.out.2.free 1
        have y2 := HA.out.2.free 2
        have y3 := HA.out.2.free 3
        have y4 := HA.out.2.free 4
        have y5 := HA.out.2.free 5
        have ylt := HA.out.2.lt
        go_upto_region 9 with fail
        try rw [hwa]
        try rw [hG]
        clear hwa hG z0 z1 z2 z3 z4 z5 y0 y1 y2 y3 y4 y5 ylt c0 c1 c2 c3 c4 c5 hbl
        obtain ⟨wb, hwb⟩ : ∃ x, (((((wa.setCell ⟨G, 0, none⟩ (.int .i64 p.kind)).setCell ⟨G, 1, none⟩ (.int .i64 p.n)).setCell ⟨G, 2, none⟩ (.slice da dn dc)).setCell ⟨G, 3, none⟩ (.slice ka kn kc)).setCell ⟨G, 4, none⟩ (.int .i64 p.torn)).setCell ⟨G, 5, none⟩ (.int .i64 p.cut) = x := ⟨_, rfl⟩
        have HBB : Hid (Below wr.heap.size wr wb ∧ Blk wb G 52 #[.int .i64 p.kind, .int .i64 p.n, .slice da dn dc, .slice ka kn kc, .int .i64 p.torn, .int .i64 p.cut]) := by
          rw [← hwb]
          have hle : wr.heap.size ≤ G := by rw [HG.out]; exact Nat.le_refl _
          exact ⟨below_set6 HA.out.1 hle _ _ _ _ _ _, set6_blk HA.out.2 _ _ _ _ _ _⟩
        rw [hwb]
        clear hwb HA HG
        have HBK : Hid (Blk wb G 52 #[.int .i64 p.kind, .int .i64 p.n, .slice da dn dc, .slice ka kn kc, .int .i64 p.torn, .int .i64 p.cut]) := HBB.out.2
        have HB : Hid (SS U wb a g st ∧ ModeQ st 32 5 SN LG NS NL asked (27 + 20 * (k : Int)) (1 + (k : Int)) ∧ RowQ U wb u5 SN ∧ RowQ U wb (.slice l6 n6 c6) LG ∧ RowQ U wb u7 NS ∧ RowQ U wb u8 NL ∧ Below w.heap.size w wb ∧ (∀ k, U k → w.heap.size ≤ k) ∧ RowQ U wb (.slice da dn dc) p.data) := by
          obtain ⟨h1, h2, h3, h4, h5, h6, h7, h8, h9⟩ := H0.out
          have tb := To.below (T := U) HBB.out.1
          have hbw := h7.trans (HBB.out.1.mono h7.size)
          refine ⟨h1.to HBB.out.1, h2, h3.to tb, h4.to tb, h5.to tb, h6.to tb, hbw, h8, ?_⟩
          rw [← HDV.out.1]
          exact ⟨HOK.out.drow.on hbw, HOK.out.dok, HOK.out.dcap, fun h0 k e hU => by have := HOK.out.dlt h0 k e; have := h8 k hU; omega⟩
        have HN6 : Hid (LG.length = n6 ∧ n6 ≤ 160 ∧ p.data.length ≤ 400) := by
          have h1 := H0.out.2.1.good.fit
          have h2 := H0.out.2.1.1
          rw [h2, List.length_append, H0.out.2.2.2.2.2.2.2.2] at h1
          exact ⟨H0.out.2.2.2.2.2.2.2.2, by omega, HOP.out.1⟩
        clear H0 HBB
        have v5e : True := trivial
        by_cases hk1 : p.kind = 1
        · have z0 : wb.cell? ⟨G, 0, none⟩ = some (.int .i64 1) := by rw [← hk1]; exact HBK.out.cell 0
          rw [hk1] at HBK
          clear hk1
          have c6l : n6 ≤ c6 := HB.out.2.2.2.1.cap _ _ _ rfl
          have HNN : Hid (n6 ≤ c6 ∧ (n6 : Int) ≤ (c6 : Int) ∧ (0 : Int) ≤ (n6 : Int)) := ⟨c6l, by omega, by omega⟩
          obtain ⟨l7, hl7⟩ : ∃ x, cutA l6 0 n6 = x := ⟨_, rfl⟩
          have HL7 := Lib.hid hl7
          have HCT : Hid (∀ W : World, (Instr.sliceAt 24 (.slice l6 n6 c6) none (some (.int .i64 (n6 : Int))) (some (.int .i64 (n6 : Int)))).run Try.prog W = .ok (.slice l7 n6 n6) W) := fun W => by
            have key := run_cut W l6 n6 c6 0 n6 n6 n6 none (some (.int .i64 (n6 : Int))) (some (.int .i64 (n6 : Int))) (.inr ⟨rfl, rfl⟩) (.inl ⟨rfl, c6l, rfl⟩) (Nat.zero_le _) (Nat.le_refl _) rfl
            rw [hl7, Nat.sub_zero] at key
            exact key
          have HR6 : Hid (∀ W, Below wb.heap.size wb W → RowB W (.slice l7 n6 n6) LG) := fun W hW => by
            have key := RowB.cutU (HB.out.2.2.2.1.row.on hW) HN6.out.1 (l := 0) (k := n6) (m := n6) (by omega) (by omega) c6l
            have e : cutL LG 0 n6 = LG := by unfold cutL; rw [List.drop_zero]; exact List.take_of_length_le (by have := HN6.out.1; omega)
            rw [e, hl7, Nat.sub_zero] at key
            exact key
          have HRD : Hid (∀ W, Below wb.heap.size wb W → RowB W (.slice da dn dc) p.data) := fun W hW => HB.out.2.2.2.2.2.2.2.2.row.on hW
          have HLN : Hid (LG.length = n6 ∧ n6 + p.data.length ≤ 100000) := ⟨HN6.out.1, by have := HN6.out; omega⟩
          clear c6l hl7
          go_upto_region 12 with fail
          clear z0
          refine wp_region_put (by kernel_rfl) (by kernel_rfl) (by kernel_rfl) (fun b' vs w' => (b' 0 = true → vs 0 = u5) ∧ (b' 1 = true → vs 1 = .slice l6 n6 c6) ∧ (b' 2 = true → vs 2 = .slice l6 n6 c6) ∧ (b' 3 = true → vs 3 = .int .i64 (n6 : Int)) ∧ (b' 4 = true → vs 4 = .slice l6 n6 c6) ∧ (b' 5 = true → vs 5 = .int .i64 (n6 : Int)) ∧ (b' 6 = true → vs 6 = .slice l7 n6 n6) ∧ (b' 7 = true → vs 7 = .pointer (some ⟨G, 2, none⟩)) ∧ (b' 8 = true → vs 8 = .slice da dn dc) ∧ (b' 10 = true → vs 10 = u5) ∧ (b' 9 = true → Hid (RowB w' (vs 9) (LG ++ p.data) ∧ CapS (vs 9) ∧ ∀ k, (vs 9).ownBlock = some k → (LG ++ p.data).length ≠ 0 → (LG.length ≠ 0 ∧ (Value.slice l7 n6 n6).ownBlock = some k) ∨ wb.heap.size ≤ k)) ∧ (b' 11 = true → Hid (RowB w' (vs 11) (LG ++ p.data) ∧ CapS (vs 11) ∧ ∀ k, (vs 11).ownBlock = some k → (LG ++ p.data).length ≠ 0 → (LG.length ≠ 0 ∧ (Value.slice l7 n6 n6).ownBlock = some k) ∨ wb.heap.size ≤ k)) ∧ (Hid (Below wb.heap.size wb w'))) ?_ ?_ ?_
          · intro vs
            exact ⟨fun h => Bool.noConfusion h, fun h => Bool.noConfusion h, fun h => Bool.noConfusion h, fun h => Bool.noConfusion h, fun h => Bool.noConfusion h, fun h => Bool.noConfusion h, fun h => Bool.noConfusion h, fun h => Bool.noConfusion h, fun h => Bool.noConfusion h, fun h => Bool.noConfusion h, fun h => Bool.noConfusion h, fun h => Bool.noConfusion h, below_drewN (Below.refl _ _) 1⟩
          · rintro b' vs w' i op hi hun hall ⟨h0, h1, h2, h3, h4, h5, h6, h7, h8, h10, y9, y11, hB⟩
            have hil : i < 12 := (List.getElem?_eq_some_iff.1 hi).1
            rcases i with _ | _ | _ | _ | _ | _ | _ | _ | _ | _ | _ | _ | i
            · obtain rfl := Option.some.inj hi
              clear hi hil
              refine wpOp_step rfl (fun K hK => ?_)
              have HKK := Lib.hid hK; clear hK
              simp only [putAll, Act.put, List.setIfInBounds_toArray, List.set_cons_zero, List.set_cons_succ]
              go_simp
              exact HKK.out _ _ ⟨_, by simp only [putAll, Act.put, List.setIfInBounds_toArray, List.set_cons_zero, List.set_cons_succ] <;> rfl, fun _ => rfl, h1, h2, h3, h4, h5, h6, h7, h8, h10, y9, y11, hB⟩
            · obtain rfl := Option.some.inj hi
              clear hi hil
              refine wpOp_step rfl (fun K hK => ?_)
              have HKK := Lib.hid hK; clear hK
              simp only [putAll, Act.put, List.setIfInBounds_toArray, List.set_cons_zero, List.set_cons_succ]
              go_simp
              exact HKK.out _ _ ⟨_, by simp only [putAll, Act.put, List.setIfInBounds_toArray, List.set_cons_zero, List.set_cons_succ] <;> rfl, h0, fun _ => rfl, h2, h3, h4, h5, h6, h7, h8, h10, y9, y11, hB⟩
            · obtain rfl := Option.some.inj hi
              clear hi hil
              refine wpOp_step rfl (fun K hK => ?_)
              have HKK := Lib.hid hK; clear hK
              simp only [putAll, Act.put, List.setIfInBounds_toArray, List.set_cons_zero, List.set_cons_succ]
              go_simp
              exact HKK.out _ _ ⟨_, by simp only [putAll, Act.put, List.setIfInBounds_toArray, List.set_cons_zero, List.set_cons_succ] <;> rfl, h0, h1, fun _ => rfl, h3, h4, h5, h6, h7, h8, h10, y9, y11, hB⟩
            · obtain rfl := Option.some.inj hi
              clear hi hil
              have d2 := h2 (hall ⟨2, .data⟩ (by simp) rfl)
              refine wpOp_step rfl (fun K hK => ?_)
              have HKK := Lib.hid hK; clear hK
              simp only [putAll, Act.put, List.setIfInBounds_toArray, List.set_cons_zero, List.set_cons_succ]
              go_simp
              exact HKK.out _ _ ⟨_, by simp only [putAll, Act.put, List.setIfInBounds_toArray, List.set_cons_zero, List.set_cons_succ, d2] <;> rfl, h0, h1, h2, fun _ => rfl, h4, h5, h6, h7, h8, h10, y9, y11, hB⟩
            · obtain rfl := Option.some.inj hi
              clear hi hil
              refine wpOp_step rfl (fun K hK => ?_)
              have HKK := Lib.hid hK; clear hK
              simp only [putAll, Act.put, List.setIfInBounds_toArray, List.set_cons_zero, List.set_cons_succ]
              go_simp
              exact HKK.out _ _ ⟨_, by simp only [putAll, Act.put, List.setIfInBounds_toArray, List.set_cons_zero, List.set_cons_succ] <;> rfl, h0, h1, h2, h3, fun _ => rfl, h5, h6, h7, h8, h10, y9, y11, hB⟩
            · obtain rfl := Option.some.inj hi
              clear hi hil
              have d4 := h4 (hall ⟨4, .data⟩ (by simp) rfl)
              refine wpOp_step rfl (fun K hK => ?_)
              have HKK := Lib.hid hK; clear hK
              simp only [putAll, Act.put, List.setIfInBounds_toArray, List.set_cons_zero, List.set_cons_succ]
              go_simp
              exact HKK.out _ _ ⟨_, by simp only [putAll, Act.put, List.setIfInBounds_toArray, List.set_cons_zero, List.set_cons_succ, d4] <;> rfl, h0, h1, h2, h3, h4, fun _ => rfl, h6, h7, h8, h10, y9, y11, hB⟩
            · obtain rfl := Option.some.inj hi
              clear hi hil
              have d1 := h1 (hall ⟨1, .data⟩ (by simp) rfl)
              have d3 := h3 (hall ⟨3, .data⟩ (by simp) rfl)
              have d5 := h5 (hall ⟨5, .data⟩ (by simp) rfl)
              have hct := HCT.out w'
              obtain ⟨s0, s1, s2⟩ := HNN.out
              refine wpOp_step rfl (fun K hK => ?_)
              have HKK := Lib.hid hK; clear hK
              simp only [putAll, Act.put, List.setIfInBounds_toArray, List.set_cons_zero, List.set_cons_succ]
              go_simp
              exact HKK.out _ _ ⟨_, by simp only [putAll, Act.put, List.setIfInBounds_toArray, List.set_cons_zero, List.set_cons_succ, d1, d3, d5] <;> rfl, h0, h1, h2, h3, h4, h5, fun _ => rfl, h7, h8, h10, y9, y11, hB⟩
            · obtain rfl := Option.some.inj hi
              clear hi hil
              refine wpOp_step rfl (fun K hK => ?_)
              have HKK := Lib.hid hK; clear hK
              simp only [putAll, Act.put, List.setIfInBounds_toArray, List.set_cons_zero, List.set_cons_succ]
              go_simp
              exact HKK.out _ _ ⟨_, by simp only [putAll, Act.put, List.setIfInBounds_toArray, List.set_cons_zero, List.set_cons_succ] <;> rfl, h0, h1, h2, h3, h4, h5, h6, fun _ => rfl, h8, h10, y9, y11, hB⟩
            · obtain rfl := Option.some.inj hi
              clear hi hil
              have d7 := h7 (hall ⟨7, .data⟩ (by simp) rfl)
              have z2 : w'.cell? ⟨G, 2, none⟩ = some (.slice da dn dc) := (HBK.out.grow hB.out).cell 2
              refine wpOp_step rfl (fun K hK => ?_)
              have HKK := Lib.hid hK; clear hK
              simp only [putAll, Act.put, List.setIfInBounds_toArray, List.set_cons_zero, List.set_cons_succ]
              go_simp
              exact HKK.out _ _ ⟨_, by simp only [putAll, Act.put, List.setIfInBounds_toArray, List.set_cons_zero, List.set_cons_succ, d7] <;> rfl, h0, h1, h2, h3, h4, h5, h6, h7, fun _ => rfl, h10, y9, y11, hB⟩
            · obtain rfl := Option.some.inj hi
              clear hi hil
              have d6 := h6 (hall ⟨6, .data⟩ (by simp) rfl)
              have d8 := h8 (hall ⟨8, .data⟩ (by simp) rfl)
              refine wpOp_step rfl (fun K hK => ?_)
              have HKK := Lib.hid hK; clear hK
              simp only [putAll, Act.put, List.setIfInBounds_toArray, List.set_cons_zero, List.set_cons_succ]
              refine (if_pos rfl).mpr (wp_append_clip _ _ rfl l7 n6 LG d6 (HR6.out w' hB.out) HLN.out.1 (.slice da dn dc) p.data d8 (HRD.out w' hB.out) HLN.out.2 ?_)
              intro v2 w2 hr9 hc9 hb9 hf9
              exact HKK.out _ _ ⟨_, by simp only [putAll, Act.put, List.setIfInBounds_toArray, List.set_cons_zero, List.set_cons_succ, d6, d8] <;> rfl, h0, h1, h2, h3, h4, h5, h6, h7, h8, h10, fun _ => Lib.hid ⟨hr9, hc9, fun k e h0 => (hf9 k e h0).imp id (fun h => Nat.le_trans hB.out.size h)⟩, fun h => Lib.hid ⟨(y11 h).out.1.on hb9, (y11 h).out.2⟩, hB.out.trans (hb9.mono hB.out.size)⟩
            · obtain rfl := Option.some.inj hi
              clear hi hil
              have d0 := h0 (hall ⟨0, .data⟩ (by simp) rfl)
              refine wpOp_step rfl (fun K hK => ?_)
              have HKK := Lib.hid hK; clear hK
              simp only [putAll, Act.put, List.setIfInBounds_toArray, List.set_cons_zero, List.set_cons_succ]
              go_simp
              exact HKK.out _ _ ⟨_, by simp only [putAll, Act.put, List.setIfInBounds_toArray, List.set_cons_zero, List.set_cons_succ, d0] <;> rfl, h0, h1, h2, h3, h4, h5, h6, h7, h8, fun _ => rfl, y9, y11, hB⟩
            · obtain rfl := Option.some.inj hi
              clear hi hil
              have o11 := y9 (hall ⟨9, .data⟩ (by simp) rfl)
              refine wpOp_step rfl (fun K hK => ?_)
              have HKK := Lib.hid hK; clear hK
              simp only [putAll, Act.put, List.setIfInBounds_toArray, List.set_cons_zero, List.set_cons_succ]
              go_simp
              exact HKK.out _ _ ⟨_, by simp only [putAll, Act.put, List.setIfInBounds_toArray, List.set_cons_zero, List.set_cons_succ] <;> rfl, h0, h1, h2, h3, h4, h5, h6, h7, h8, h10, y9, fun _ => o11, hB⟩
            · omega
          rintro b' vs wq hall ⟨h0, h1, h2, h3, h4, h5, h6, h7, h8, h10, y9, y11, hB⟩
          have d0 := h0 (hall 0 (by simp))
          have d1 := h1 (hall 1 (by simp))
          have d2 := h2 (hall 2 (by simp))
          have d3 := h3 (hall 3 (by simp))
          have d4 := h4 (hall 4 (by simp))
          have d5 := h5 (hall 5 (by simp))
          have d6 := h6 (hall 6 (by simp))
          have d7 := h7 (hall 7 (by simp))
          have d8 := h8 (hall 8 (by simp))
          have d10 := h10 (hall 10 (by simp))
          have HC : Hid (Below wb.heap.size wb wq ∧ RowB wq (vs 11) (LG ++ p.data) ∧ CapS (vs 11) ∧ ∀ k, (vs 11).ownBlock = some k → (LG ++ p.data).length ≠ 0 → (LG.length ≠ 0 ∧ (Value.slice l7 n6 n6).ownBlock = some k) ∨ wb.heap.size ≤ k) := ⟨hB.out, (y11 (hall 11 (by simp))).out⟩
          simp only [putAll, Act.put, List.setIfInBounds_toArray, List.set_cons_zero, List.set_cons_succ, d0, d1, d2, d3, d4, d5, d6, d7, d8, d10]
          clear hall y9 y11 hB h0 d0 h1 d1 h2 d2 h3 d3 h4 d4 h5 d5 h6 d6 h7 d7 h8 d8 h10 d10
          generalize vs 11 = vn at *
          generalize vs 9 = vo at *
          have HROWN : Hid (RowQ U wq vn (LG ++ p.data)) := by
            refine ⟨HC.out.2.1, OkB.append HB.out.2.2.2.1.ok HB.out.2.2.2.2.2.2.2.2.ok, HC.out.2.2.1, fun h0 k e hU => ?_⟩
            rcases HC.out.2.2.2 k e h0 with ⟨hz, h1⟩ | h1
            · rw [← HL7.out, cutA_block l6 0 n6 n6 n6 n6 c6] at h1
              exact HB.out.2.2.2.1.off hz k h1 hU
            · have := HB.out.1.lt k hU
              omega
          have HQ0 : Hid (SS U wq a g st ∧ Below w.heap.size w wq ∧ RowQ U wq (.slice da dn dc) p.data) := ⟨HB.out.1.to HC.out.1, HB.out.2.2.2.2.2.2.1.trans (HC.out.1.mono HB.out.2.2.2.2.2.2.1.size), HB.out.2.2.2.2.2.2.2.2.to (To.below HC.out.1)⟩
          have HBKQ : Hid (Blk wq G 52 #[.int .i64 1, .int .i64 p.n, .slice da dn dc, .slice ka kn kc, .int .i64 p.torn, .int .i64 p.cut]) := HBK.out.grow HC.out.1
          have HQ : Hid (RowQ U wq u5 SN ∧ RowQ U wq (.slice l6 n6 c6) LG ∧ RowQ U wq u7 NS ∧ RowQ U wq u8 NL ∧ RowQ U wq u5 SN ∧ RowQ U wq vn (LG ++ p.data)) := by
            have tb := To.below (T := U) HC.out.1
            exact ⟨HB.out.2.2.1.to tb, HB.out.2.2.2.1.to tb, HB.out.2.2.2.2.1.to tb, HB.out.2.2.2.2.2.1.to tb, HB.out.2.2.1.to tb, HROWN.out⟩
          have HW : Hid (Below w.heap.size w wq ∧ ∀ k, U k → w.heap.size ≤ k) := ⟨HQ0.out.2.1, HB.out.2.2.2.2.2.2.2.1⟩
          have z0 : wq.cell? ⟨G, 0, none⟩ = some (.int .i64 1) := HBKQ.out.cell 0
          have z2 : wq.cell? ⟨G, 2, none⟩ = some (.slice da dn dc) := HBKQ.out.cell 2
          have HCALL := Lib.hid (append_q HQ0.out.1 HB.out.2.1 (by have := HKN.out; have := HL.out; omega) (by have := HKN.out; have := HL.out; omega) HQ0.out.2.2 HN6.out.2.2 (by decide))
          go_wp2_with fail
          refine (HCALL.out).mono ?_
          clear z0 z2
          rintro e wd ⟨U2, s2, x, rfl, hs2, ht2, hq2⟩
          have hfar2 := To.far HW.out.1 HW.out.2 ht2
          have HD : Hid (SS U2 wd a g s2 ∧ RowQ U2 wd u5 SN ∧ RowQ U2 wd (.slice l6 n6 c6) LG ∧ RowQ U2 wd u7 NS ∧ RowQ U2 wd u8 NL ∧ RowQ U2 wd u5 (SN) ∧ RowQ U2 wd vn (LG ++ p.data) ∧ Below w.heap.size w wd ∧ (∀ k, U2 k → w.heap.size ≤ k)) := ⟨hs2, HQ.out.1.to ht2, HQ.out.2.1.to ht2, HQ.out.2.2.1.to ht2, HQ.out.2.2.2.1.to ht2, HQ.out.2.2.2.2.1.to ht2, HQ.out.2.2.2.2.2.to ht2, hfar2⟩
          have HST := Lib.hid hq2
          clear hs2 ht2 hq2 hfar2 HCALL
          rcases HST.out with ⟨rfl, hmd⟩ | ⟨rfl, rfl, hmd⟩ | ⟨rfl, rfl, hmd⟩ | ⟨rfl, rfl, hmd⟩
          · cases asked with
            | false =>
              have HMD : Hid (ModeQ s2 32 5 SN LG NS NL false (27 + 20 * ((k + 1 : Nat) : Int)) (1 + ((k + 1 : Nat) : Int))) := by rw [Hid, HKM.out.1, HKM.out.2]; exact hmd
              have HIS := Lib.hid (is_t HD.out.1 HMD.out (by have := HKN.out; have := HL.out; omega) (by have := HKN.out; have := HL.out; omega) (by decide) HD.out.2.1 HD.out.2.2.1)
              clear hmd HST
              go_wp2_with fail
              refine (HIS.out).mono ?_
              rintro e we ⟨rfl, hb⟩
              have HEND : Hid (LoopQ w g a 32 5 (27 + 20 * ((k + 1 : Nat) : Int)) (1 + ((k + 1 : Nat) : Int)) (u5) (.slice l6 n6 c6) (u7) (u8) false we) := ⟨U2, s2, SN, LG, NS, NL, HD.out.1.to hb, HMD.out, HD.out.2.1.to (To.below hb), HD.out.2.2.1.to (To.below hb), HD.out.2.2.2.1.to (To.below hb), HD.out.2.2.2.2.1.to (To.below hb), HD.out.2.2.2.2.2.2.2.1.trans (hb.mono HD.out.2.2.2.2.2.2.2.1.size), HD.out.2.2.2.2.2.2.2.2⟩
              clear hb HIS HMD
              have hkn := HKN.out
              have hl9 := HL.out
              go_wp2_with fail
              exact ⟨⟨k + 1, HKN.out, by go_num, a, false, rfl, rfl, HEND.out⟩, by simp [intOf]; omega⟩
            | true =>
              have HMD : Hid (ModeQ s2 32 5 SN LG NS NL true (27 + 20 * ((k + 1 : Nat) : Int)) (1 + ((k + 1 : Nat) : Int))) := by rw [Hid, HKM.out.1, HKM.out.2]; exact hmd
              have HIS := Lib.hid (is_t HD.out.1 HMD.out (by have := HKN.out; have := HL.out; omega) (by have := HKN.out; have := HL.out; omega) (by decide) HD.out.2.1 HD.out.2.2.1)
              clear hmd HST
              go_wp2_with fail
              refine (HIS.out).mono ?_
              rintro e we ⟨rfl, hb⟩
              have HEND : Hid (LoopQ w g a 32 5 (27 + 20 * ((k + 1 : Nat) : Int)) (1 + ((k + 1 : Nat) : Int)) (u5) (.slice l6 n6 c6) (u7) (u8) true we) := ⟨U2, s2, SN, LG, NS, NL, HD.out.1.to hb, HMD.out, HD.out.2.1.to (To.below hb), HD.out.2.2.1.to (To.below hb), HD.out.2.2.2.1.to (To.below hb), HD.out.2.2.2.2.1.to (To.below hb), HD.out.2.2.2.2.2.2.2.1.trans (hb.mono HD.out.2.2.2.2.2.2.2.1.size), HD.out.2.2.2.2.2.2.2.2⟩
              clear hb HIS HMD
              have hkn := HKN.out
              have hl9 := HL.out
              go_wp2_with fail
              exact ⟨⟨k + 1, HKN.out, by go_num, a, true, rfl, rfl, HEND.out⟩, by simp [intOf]; omega⟩
          · have HMD : Hid (ModeQ s2 32 5 (SN) (LG ++ p.data) NS NL false (27 + 20 * ((k + 1 : Nat) : Int)) (1 + ((k + 1 : Nat) : Int))) := by rw [Hid, HKM.out.1, HKM.out.2]; exact hmd
            have HIS := Lib.hid (is_t HD.out.1 HMD.out (by have := HKN.out; have := HL.out; omega) (by have := HKN.out; have := HL.out; omega) (by decide) HD.out.2.2.2.2.2.1 HD.out.2.2.2.2.2.2.1)
            clear hmd HST
            go_wp2_with fail
            refine (HIS.out).mono ?_
            rintro e we ⟨rfl, hb⟩
            have HEND : Hid (LoopQ w g a 32 5 (27 + 20 * ((k + 1 : Nat) : Int)) (1 + ((k + 1 : Nat) : Int)) (u5) (vn) (u7) (u8) false we) := ⟨U2, s2, (SN), (LG ++ p.data), NS, NL, HD.out.1.to hb, HMD.out, HD.out.2.2.2.2.2.1.to (To.below hb), HD.out.2.2.2.2.2.2.1.to (To.below hb), HD.out.2.2.2.1.to (To.below hb), HD.out.2.2.2.2.1.to (To.below hb), HD.out.2.2.2.2.2.2.2.1.trans (hb.mono HD.out.2.2.2.2.2.2.2.1.size), HD.out.2.2.2.2.2.2.2.2⟩
            clear hb HIS HMD
            have hkn := HKN.out
            have hl9 := HL.out
            go_wp2_with fail
            exact ⟨⟨k + 1, HKN.out, by go_num, a, false, rfl, rfl, HEND.out⟩, by simp [intOf]; omega⟩
          · have HMD : Hid (ModeQ s2 32 5 SN LG NS NL true (27 + 20 * ((k + 1 : Nat) : Int)) (1 + ((k + 1 : Nat) : Int))) := by rw [Hid, HKM.out.1, HKM.out.2]; exact hmd
            have HIS := Lib.hid (is_t HD.out.1 HMD.out (by have := HKN.out; have := HL.out; omega) (by have := HKN.out; have := HL.out; omega) (by decide) HD.out.2.1 HD.out.2.2.1)
            clear hmd HST
            go_wp2_with fail
            refine (HIS.out).mono ?_
            rintro e we ⟨rfl, hb⟩
            have HEND : Hid (LoopQ w g a 32 5 (27 + 20 * ((k + 1 : Nat) : Int)) (1 + ((k + 1 : Nat) : Int)) (u5) (.slice l6 n6 c6) (u7) (u8) true we) := ⟨U2, s2, SN, LG, NS, NL, HD.out.1.to hb, HMD.out, HD.out.2.1.to (To.below hb), HD.out.2.2.1.to (To.below hb), HD.out.2.2.2.1.to (To.below hb), HD.out.2.2.2.2.1.to (To.below hb), HD.out.2.2.2.2.2.2.2.1.trans (hb.mono HD.out.2.2.2.2.2.2.2.1.size), HD.out.2.2.2.2.2.2.2.2⟩
            clear hb HIS HMD
            have hkn := HKN.out
            have hl9 := HL.out
            go_wp2_with fail
            exact ⟨⟨k + 1, HKN.out, by go_num, a, true, rfl, rfl, HEND.out⟩, by simp [intOf]; omega⟩
          · have HMD : Hid (ModeQ s2 32 5 SN LG (SN) (LG ++ p.data) true (27 + 20 * ((k + 1 : Nat) : Int)) (1 + ((k + 1 : Nat) : Int))) := by rw [Hid, HKM.out.1, HKM.out.2]; exact hmd
            have HIS := Lib.hid (is_t HD.out.1 HMD.out (by have := HKN.out; have := HL.out; omega) (by have := HKN.out; have := HL.out; omega) (by decide) HD.out.2.1 HD.out.2.2.1)
            clear hmd HST
            go_wp2_with fail
            refine (HIS.out).mono ?_
            rintro e we ⟨rfl, hb⟩
            have HEND : Hid (LoopQ w g a 32 5 (27 + 20 * ((k + 1 : Nat) : Int)) (1 + ((k + 1 : Nat) : Int)) (u5) (.slice l6 n6 c6) (u5) (vn) true we) := ⟨U2, s2, SN, LG, (SN), (LG ++ p.data), HD.out.1.to hb, HMD.out, HD.out.2.1.to (To.below hb), HD.out.2.2.1.to (To.below hb), HD.out.2.2.2.2.2.1.to (To.below hb), HD.out.2.2.2.2.2.2.1.to (To.below hb), HD.out.2.2.2.2.2.2.2.1.trans (hb.mono HD.out.2.2.2.2.2.2.2.1.size), HD.out.2.2.2.2.2.2.2.2⟩
            clear hb HIS HMD
            have hkn := HKN.out
            have hl9 := HL.out
            go_wp2_with fail
            exact ⟨⟨k + 1, HKN.out, by go_num, a, true, rfl, rfl, HEND.out⟩, by simp [intOf]; omega⟩
        by_cases hk2 : p.kind = 2
        · have z0 : wb.cell? ⟨G, 0, none⟩ = some (.int .i64 2) := by rw [← hk2]; exact HBK.out.cell 0
          rw [hk2] at HBK
          clear hk2 hk1
          have c6l : n6 ≤ c6 := HB.out.2.2.2.1.cap _ _ _ rfl
          have HNN : Hid (n6 ≤ c6 ∧ (n6 : Int) ≤ (c6 : Int) ∧ (0 : Int) ≤ (n6 : Int)) := ⟨c6l, by omega, by omega⟩
          obtain ⟨l7, hl7⟩ : ∃ x, cutA l6 0 n6 = x := ⟨_, rfl⟩
          have HL7 := Lib.hid hl7
          have HCT : Hid (∀ W : World, (Instr.sliceAt 24 (.slice l6 n6 c6) none (some (.int .i64 (n6 : Int))) (some (.int .i64 (n6 : Int)))).run Try.prog W = .ok (.slice l7 n6 n6) W) := fun W => by
            have key := run_cut W l6 n6 c6 0 n6 n6 n6 none (some (.int .i64 (n6 : Int))) (some (.int .i64 (n6 : Int))) (.inr ⟨rfl, rfl⟩) (.inl ⟨rfl, c6l, rfl⟩) (Nat.zero_le _) (Nat.le_refl _) rfl
            rw [hl7, Nat.sub_zero] at key
            exact key
          have HR6 : Hid (∀ W, Below wb.heap.size wb W → RowB W (.slice l7 n6 n6) LG) := fun W hW => by
            have key := RowB.cutU (HB.out.2.2.2.1.row.on hW) HN6.out.1 (l := 0) (k := n6) (m := n6) (by omega) (by omega) c6l
            have e : cutL LG 0 n6 = LG := by unfold cutL; rw [List.drop_zero]; exact List.take_of_length_le (by have := HN6.out.1; omega)
            rw [e, hl7, Nat.sub_zero] at key
            exact key
          have HRD : Hid (∀ W, Below wb.heap.size wb W → RowB W (.slice da dn dc) p.data) := fun W hW => HB.out.2.2.2.2.2.2.2.2.row.on hW
          have HLN : Hid (LG.length = n6 ∧ n6 + p.data.length ≤ 100000) := ⟨HN6.out.1, by have := HN6.out; omega⟩
          clear c6l hl7
          go_upto_region 12 with fail
          clear z0
          refine wp_region_put (by kernel_rfl) (by kernel_rfl) (by kernel_rfl) (fun b' vs w' => (b' 0 = true → vs 0 = u5) ∧ (b' 1 = true → vs 1 = .slice l6 n6 c6) ∧ (b' 2 = true → vs 2 = .slice l6 n6 c6) ∧ (b' 3 = true → vs 3 = .int .i64 (n6 : Int)) ∧ (b' 4 = true → vs 4 = .slice l6 n6 c6) ∧ (b' 5 = true → vs 5 = .int .i64 (n6 : Int)) ∧ (b' 6 = true → vs 6 = .slice l7 n6 n6) ∧ (b' 7 = true → vs 7 = .pointer (some ⟨G, 2, none⟩)) ∧ (b' 8 = true → vs 8 = .slice da dn dc) ∧ (b' 10 = true → vs 10 = u5) ∧ (b' 9 = true → Hid (RowB w' (vs 9) (LG ++ p.data) ∧ CapS (vs 9) ∧ ∀ k, (vs 9).ownBlock = some k → (LG ++ p.data).length ≠ 0 → (LG.length ≠ 0 ∧ (Value.slice l7 n6 n6).ownBlock = some k) ∨ wb.heap.size ≤ k)) ∧ (b' 11 = true → Hid (RowB w' (vs 11) (LG ++ p.data) ∧ CapS (vs 11) ∧ ∀ k, (vs 11).ownBlock = some k → (LG ++ p.data).length ≠ 0 → (LG.length ≠ 0 ∧ (Value.slice l7 n6 n6).ownBlock = some k) ∨ wb.heap.size ≤ k)) ∧ (Hid (Below wb.heap.size wb w'))) ?_ ?_ ?_
          · intro vs
            exact ⟨fun h => Bool.noConfusion h, fun h => Bool.noConfusion h, fun h => Bool.noConfusion h, fun h => Bool.noConfusion h, fun h => Bool.noConfusion h, fun h => Bool.noConfusion h, fun h => Bool.noConfusion h, fun h => Bool.noConfusion h, fun h => Bool.noConfusion h, fun h => Bool.noConfusion h, fun h => Bool.noConfusion h, fun h => Bool.noConfusion h, below_drewN (Below.refl _ _) 1⟩
          · rintro b' vs w' i op hi hun hall ⟨h0, h1, h2, h3, h4, h5, h6, h7, h8, h10, y9, y11, hB⟩
            have hil : i < 12 := (List.getElem?_eq_some_iff.1 hi).1
            rcases i with _ | _ | _ | _ | _ | _ | _ | _ | _ | _ | _ | _ | i
            · obtain rfl := Option.some.inj hi
              clear hi hil
              refine wpOp_step rfl (fun K hK => ?_)
              have HKK := Lib.hid hK; clear hK
              simp only [putAll, Act.put, List.setIfInBounds_toArray, List.set_cons_zero, List.set_cons_succ]
              go_simp
              exact HKK.out _ _ ⟨_, by simp only [putAll, Act.put, List.setIfInBounds_toArray, List.set_cons_zero, List.set_cons_succ] <;> rfl, fun _ => rfl, h1, h2, h3, h4, h5, h6, h7, h8, h10, y9, y11, hB⟩
            · obtain rfl := Option.some.inj hi
              clear hi hil
              refine wpOp_step rfl (fun K hK => ?_)
              have HKK := Lib.hid hK; clear hK
              simp only [putAll, Act.put, List.setIfInBounds_toArray, List.set_cons_zero, List.set_cons_succ]
              go_simp
              exact HKK.out _ _ ⟨_, by simp only [putAll, Act.put, List.setIfInBounds_toArray, List.set_cons_zero, List.set_cons_succ] <;> rfl, h0, fun _ => rfl, h2, h3, h4, h5, h6, h7, h8, h10, y9, y11, hB⟩
            · obtain rfl := Option.some.inj hi
              clear hi hil
              refine wpOp_step rfl (fun K hK => ?_)
              have HKK := Lib.hid hK; clear hK
              simp only [putAll, Act.put, List.setIfInBounds_toArray, List.set_cons_zero, List.set_cons_succ]
              go_simp
              exact HKK.out _ _ ⟨_, by simp only [putAll, Act.put, List.setIfInBounds_toArray, List.set_cons_zero, List.set_cons_succ] <;> rfl, h0, h1, fun _ => rfl, h3, h4, h5, h6, h7, h8, h10, y9, y11, hB⟩
            · obtain rfl := Option.some.inj hi
              clear hi hil
              have d2 := h2 (hall ⟨2, .data⟩ (by simp) rfl)
              refine wpOp_step rfl (fun K hK => ?_)
              have HKK := Lib.hid hK; clear hK
              simp only [putAll, Act.put, List.setIfInBounds_toArray, List.set_cons_zero, List.set_cons_succ]
              go_simp
              exact HKK.out _ _ ⟨_, by simp only [putAll, Act.put, List.setIfInBounds_toArray, List.set_cons_zero, List.set_cons_succ, d2] <;> rfl, h0, h1, h2, fun _ => rfl, h4, h5, h6, h7, h8, h10, y9, y11, hB⟩
            · obtain rfl := Option.some.inj hi
              clear hi hil
              refine wpOp_step rfl (fun K hK => ?_)
              have HKK := Lib.hid hK; clear hK
              simp only [putAll, Act.put, List.setIfInBounds_toArray, List.set_cons_zero, List.set_cons_succ]
              go_simp
              exact HKK.out _ _ ⟨_, by simp only [putAll, Act.put, List.setIfInBounds_toArray, List.set_cons_zero, List.set_cons_succ] <;> rfl, h0, h1, h2, h3, fun _ => rfl, h5, h6, h7, h8, h10, y9, y11, hB⟩
            · obtain rfl := Option.some.inj hi
              clear hi hil
              have d4 := h4 (hall ⟨4, .data⟩ (by simp) rfl)
              refine wpOp_step rfl (fun K hK => ?_)
              have HKK := Lib.hid hK; clear hK
              simp only [putAll, Act.put, List.setIfInBounds_toArray, List.set_cons_zero, List.set_cons_succ]
              go_simp
              exact HKK.out _ _ ⟨_, by simp only [putAll, Act.put, List.setIfInBounds_toArray, List.set_cons_zero, List.set_cons_succ, d4] <;> rfl, h0, h1, h2, h3, h4, fun _ => rfl, h6, h7, h8, h10, y9, y11, hB⟩
            · obtain rfl := Option.some.inj hi
              clear hi hil
              have d1 := h1 (hall ⟨1, .data⟩ (by simp) rfl)
              have d3 := h3 (hall ⟨3, .data⟩ (by simp) rfl)
              have d5 := h5 (hall ⟨5, .data⟩ (by simp) rfl)
              have hct := HCT.out w'
              obtain ⟨s0, s1, s2⟩ := HNN.out
              refine wpOp_step rfl (fun K hK => ?_)
              have HKK := Lib.hid hK; clear hK
              simp only [putAll, Act.put, List.setIfInBounds_toArray, List.set_cons_zero, List.set_cons_succ]
              go_simp
              exact HKK.out _ _ ⟨_, by simp only [putAll, Act.put, List.setIfInBounds_toArray, List.set_cons_zero, List.set_cons_succ, d1, d3, d5] <;> rfl, h0, h1, h2, h3, h4, h5, fun _ => rfl, h7, h8, h10, y9, y11, hB⟩
            · obtain rfl := Option.some.inj hi
              clear hi hil
              refine wpOp_step rfl (fun K hK => ?_)
              have HKK := Lib.hid hK; clear hK
              simp only [putAll, Act.put, List.setIfInBounds_toArray, List.set_cons_zero, List.set_cons_succ]
              go_simp
              exact HKK.out _ _ ⟨_, by simp only [putAll, Act.put, List.setIfInBounds_toArray, List.set_cons_zero, List.set_cons_succ] <;> rfl, h0, h1, h2, h3, h4, h5, h6, fun _ => rfl, h8, h10, y9, y11, hB⟩
            · obtain rfl := Option.some.inj hi
              clear hi hil
              have d7 := h7 (hall ⟨7, .data⟩ (by simp) rfl)
              have z2 : w'.cell? ⟨G, 2, none⟩ = some (.slice da dn dc) := (HBK.out.grow hB.out).cell 2
              refine wpOp_step rfl (fun K hK => ?_)
              have HKK := Lib.hid hK; clear hK
              simp only [putAll, Act.put, List.setIfInBounds_toArray, List.set_cons_zero, List.set_cons_succ]
              go_simp
              exact HKK.out _ _ ⟨_, by simp only [putAll, Act.put, List.setIfInBounds_toArray, List.set_cons_zero, List.set_cons_succ, d7] <;> rfl, h0, h1, h2, h3, h4, h5, h6, h7, fun _ => rfl, h10, y9, y11, hB⟩
            · obtain rfl := Option.some.inj hi
              clear hi hil
              have d6 := h6 (hall ⟨6, .data⟩ (by simp) rfl)
              have d8 := h8 (hall ⟨8, .data⟩ (by simp) rfl)
              refine wpOp_step rfl (fun K hK => ?_)
              have HKK := Lib.hid hK; clear hK
              simp only [putAll, Act.put, List.setIfInBounds_toArray, List.set_cons_zero, List.set_cons_succ]
              refine (if_pos rfl).mpr (wp_append_clip _ _ rfl l7 n6 LG d6 (HR6.out w' hB.out) HLN.out.1 (.slice da dn dc) p.data d8 (HRD.out w' hB.out) HLN.out.2 ?_)
              intro v2 w2 hr9 hc9 hb9 hf9
              exact HKK.out _ _ ⟨_, by simp only [putAll, Act.put, List.setIfInBounds_toArray, List.set_cons_zero, List.set_cons_succ, d6, d8] <;> rfl, h0, h1, h2, h3, h4, h5, h6, h7, h8, h10, fun _ => Lib.hid ⟨hr9, hc9, fun k e h0 => (hf9 k e h0).imp id (fun h => Nat.le_trans hB.out.size h)⟩, fun h => Lib.hid ⟨(y11 h).out.1.on hb9, (y11 h).out.2⟩, hB.out.trans (hb9.mono hB.out.size)⟩
            · obtain rfl := Option.some.inj hi
              clear hi hil
              have d0 := h0 (hall ⟨0, .data⟩ (by simp) rfl)
              refine wpOp_step rfl (fun K hK => ?_)
              have HKK := Lib.hid hK; clear hK
              simp only [putAll, Act.put, List.setIfInBounds_toArray, List.set_cons_zero, List.set_cons_succ]
              go_simp
              exact HKK.out _ _ ⟨_, by simp only [putAll, Act.put, List.setIfInBounds_toArray, List.set_cons_zero, List.set_cons_succ, d0] <;> rfl, h0, h1, h2, h3, h4, h5, h6, h7, h8, fun _ => rfl, y9, y11, hB⟩
            · obtain rfl := Option.some.inj hi
              clear hi hil
              have o11 := y9 (hall ⟨9, .data⟩ (by simp) rfl)
              refine wpOp_step rfl (fun K hK => ?_)
              have HKK := Lib.hid hK; clear hK
              simp only [putAll, Act.put, List.setIfInBounds_toArray, List.set_cons_zero, List.set_cons_succ]
              go_simp
              exact HKK.out _ _ ⟨_, by simp only [putAll, Act.put, List.setIfInBounds_toArray, List.set_cons_zero, List.set_cons_succ] <;> rfl, h0, h1, h2, h3, h4, h5, h6, h7, h8, h10, y9, fun _ => o11, hB⟩
            · omega
          rintro b' vs wq hall ⟨h0, h1, h2, h3, h4, h5, h6, h7, h8, h10, y9, y11, hB⟩
          have d0 := h0 (hall 0 (by simp))
          have d1 := h1 (hall 1 (by simp))
          have d2 := h2 (hall 2 (by simp))
          have d3 := h3 (hall 3 (by simp))
          have d4 := h4 (hall 4 (by simp))
          have d5 := h5 (hall 5 (by simp))
          have d6 := h6 (hall 6 (by simp))
          have d7 := h7 (hall 7 (by simp))
          have d8 := h8 (hall 8 (by simp))
          have d10 := h10 (hall 10 (by simp))
          have HC : Hid (Below wb.heap.size wb wq ∧ RowB wq (vs 11) (LG ++ p.data) ∧ CapS (vs 11) ∧ ∀ k, (vs 11).ownBlock = some k → (LG ++ p.data).length ≠ 0 → (LG.length ≠ 0 ∧ (Value.slice l7 n6 n6).ownBlock = some k) ∨ wb.heap.size ≤ k) := ⟨hB.out, (y11 (hall 11 (by simp))).out⟩
          simp only [putAll, Act.put, List.setIfInBounds_toArray, List.set_cons_zero, List.set_cons_succ, d0, d1, d2, d3, d4, d5, d6, d7, d8, d10]
          clear hall y9 y11 hB h0 d0 h1 d1 h2 d2 h3 d3 h4 d4 h5 d5 h6 d6 h7 d7 h8 d8 h10 d10
          generalize vs 11 = vn at *
          generalize vs 9 = vo at *
          have HROWN : Hid (RowQ U wq vn (LG ++ p.data)) := by
            refine ⟨HC.out.2.1, OkB.append HB.out.2.2.2.1.ok HB.out.2.2.2.2.2.2.2.2.ok, HC.out.2.2.1, fun h0 k e hU => ?_⟩
            rcases HC.out.2.2.2 k e h0 with ⟨hz, h1⟩ | h1
            · rw [← HL7.out, cutA_block l6 0 n6 n6 n6 n6 c6] at h1
              exact HB.out.2.2.2.1.off hz k h1 hU
            · have := HB.out.1.lt k hU
              omega
          have HQ0 : Hid (SS U wq a g st ∧ Below w.heap.size w wq ∧ RowQ U wq (.slice da dn dc) p.data) := ⟨HB.out.1.to HC.out.1, HB.out.2.2.2.2.2.2.1.trans (HC.out.1.mono HB.out.2.2.2.2.2.2.1.size), HB.out.2.2.2.2.2.2.2.2.to (To.below HC.out.1)⟩
          have HBKQ : Hid (Blk wq G 52 #[.int .i64 2, .int .i64 p.n, .slice da dn dc, .slice ka kn kc, .int .i64 p.torn, .int .i64 p.cut]) := HBK.out.grow HC.out.1
          clear HROWN
          have z0 : wq.cell? ⟨G, 0, none⟩ = some (.int .i64 2) := HBKQ.out.cell 0
          have HO : Hid (OwnB (wq.alloc (.cells #[] 5)) wq.heap.size (.slice (some ⟨wq.heap.size, 0, none⟩) 0 0) [] ∧ Below wq.heap.size wq (wq.alloc (.cells #[] 5)) ∧ RowB (wq.alloc (.cells #[] 5)) (.slice da dn dc) p.data) :=
            ⟨OwnB.made wq (Nat.le_refl _) [] 0 #[] rfl rfl (by decide), (Below.refl _ _).alloc (Nat.le_refl _) _, HQ0.out.2.2.row.on ((Below.refl _ _).alloc (Nat.le_refl _) _)⟩
          have z2 : (wq.alloc (.cells #[] 5)).cell? ⟨G, 2, none⟩ = some (.slice da dn dc) := (HBKQ.out.grow HO.out.2.1).cell 2
          have z2q : wq.cell? ⟨G, 2, none⟩ = some (.slice da dn dc) := HBKQ.out.cell 2
          have zlt : G < wq.heap.size := HBKQ.out.lt
          have HLE : Hid (([] : List Int).length + p.data.length ≤ 100000) := by have := HN6.out.2.2; unfold Hid; simp; omega
          go_wp2_with (at_builtin; refine wpList_append_row rfl _ _ 24 rfl Try.underlying24 wq.heap.size _ [] rfl HO.out.1 (.slice da dn dc) p.data rfl HO.out.2.2 HLE.out HO.out.2.1.size ?_)
          intro v2 w2 ho2 hg2 _
          have HB2 : Hid (OwnB w2 wq.heap.size v2 p.data ∧ Below wq.heap.size wq w2) := ⟨by simpa using ho2, own_below HO.out.1 hg2 HO.out.2.1 (Nat.le_refl _) HO.out.2.1.size⟩
          clear ho2 hg2 HO HLE z2 z2q zlt z0
          have HQ1 : Hid (SS U w2 a g st ∧ Below w.heap.size w w2 ∧ RowQ U w2 (.slice da dn dc) p.data ∧ Below wb.heap.size wb w2) := by
            have hbb := HC.out.1.trans (HB2.out.2.mono HC.out.1.size)
            exact ⟨HQ0.out.1.to HB2.out.2, HQ0.out.2.1.trans (HB2.out.2.mono HQ0.out.2.1.size), HQ0.out.2.2.to (To.below HB2.out.2), hbb⟩
          have HQ : Hid (RowQ U w2 u5 SN ∧ RowQ U w2 (.slice l6 n6 c6) LG ∧ RowQ U w2 u7 NS ∧ RowQ U w2 u8 NL ∧ RowQ U w2 v2 p.data ∧ RowQ U w2 (.slice none 0 0) []) := by
            have tb := To.below (T := U) HQ1.out.2.2.2
            refine ⟨HB.out.2.2.1.to tb, HB.out.2.2.2.1.to tb, HB.out.2.2.2.2.1.to tb, HB.out.2.2.2.2.2.1.to tb, ⟨HB2.out.1.row, HB.out.2.2.2.2.2.2.2.2.ok, HB2.out.1.cap, fun h0 k e hU => ?_⟩, RowQ.nil _ _⟩
            have h1 := (HB2.out.1.lt k e).1
            have h2 := HQ0.out.1.lt k hU
            omega
          have HW : Hid (Below w.heap.size w w2 ∧ ∀ k, U k → w.heap.size ≤ k) := ⟨HQ1.out.2.1, HB.out.2.2.2.2.2.2.2.1⟩
          have z2 : w2.cell? ⟨G, 2, none⟩ = some (.slice da dn dc) := (HBKQ.out.grow HB2.out.2).cell 2
          have HCALL := Lib.hid (comp_q HQ1.out.1 HB.out.2.1 (by have := HKN.out; have := HL.out; omega) (by have := HKN.out; have := HL.out; omega) HQ1.out.2.2.1 HN6.out.2.2)
          go_wp2_with fail
          refine (HCALL.out).mono ?_
          clear z2
          rintro e wd ⟨U2, s2, x, rfl, hs2, ht2, hq2⟩
          have hfar2 := To.far HW.out.1 HW.out.2 ht2
          have HD : Hid (SS U2 wd a g s2 ∧ RowQ U2 wd u5 SN ∧ RowQ U2 wd (.slice l6 n6 c6) LG ∧ RowQ U2 wd u7 NS ∧ RowQ U2 wd u8 NL ∧ RowQ U2 wd v2 (p.data) ∧ RowQ U2 wd (.slice none 0 0) ([]) ∧ Below w.heap.size w wd ∧ (∀ k, U2 k → w.heap.size ≤ k)) := ⟨hs2, HQ.out.1.to ht2, HQ.out.2.1.to ht2, HQ.out.2.2.1.to ht2, HQ.out.2.2.2.1.to ht2, HQ.out.2.2.2.2.1.to ht2, HQ.out.2.2.2.2.2.to ht2, hfar2⟩
          have HST := Lib.hid hq2
          clear hs2 ht2 hq2 hfar2 HCALL
          rcases HST.out with ⟨rfl, hmd⟩ | ⟨rfl, rfl, hmd⟩ | ⟨rfl, rfl, hmd⟩ | ⟨rfl, rfl, hmd⟩
          · cases asked with
            | false =>
              have HMD : Hid (ModeQ s2 32 5 SN LG NS NL false (27 + 20 * ((k + 1 : Nat) : Int)) (1 + ((k + 1 : Nat) : Int))) := by rw [Hid, HKM.out.1, HKM.out.2]; exact hmd
              have HIS := Lib.hid (is_t HD.out.1 HMD.out (by have := HKN.out; have := HL.out; omega) (by have := HKN.out; have := HL.out; omega) (by decide) HD.out.2.1 HD.out.2.2.1)
              clear hmd HST
              go_wp2_with fail
              refine (HIS.out).mono ?_
              rintro e we ⟨rfl, hb⟩
              have HEND : Hid (LoopQ w g a 32 5 (27 + 20 * ((k + 1 : Nat) : Int)) (1 + ((k + 1 : Nat) : Int)) (u5) (.slice l6 n6 c6) (u7) (u8) false we) := ⟨U2, s2, SN, LG, NS, NL, HD.out.1.to hb, HMD.out, HD.out.2.1.to (To.below hb), HD.out.2.2.1.to (To.below hb), HD.out.2.2.2.1.to (To.below hb), HD.out.2.2.2.2.1.to (To.below hb), HD.out.2.2.2.2.2.2.2.1.trans (hb.mono HD.out.2.2.2.2.2.2.2.1.size), HD.out.2.2.2.2.2.2.2.2⟩
              clear hb HIS HMD
              have hkn := HKN.out
              have hl9 := HL.out
              go_wp2_with fail
              exact ⟨⟨k + 1, HKN.out, by go_num, a, false, rfl, rfl, HEND.out⟩, by simp [intOf]; omega⟩
            | true =>
              have HMD : Hid (ModeQ s2 32 5 SN LG NS NL true (27 + 20 * ((k + 1 : Nat) : Int)) (1 + ((k + 1 : Nat) : Int))) := by rw [Hid, HKM.out.1, HKM.out.2]; exact hmd
              have HIS := Lib.hid (is_t HD.out.1 HMD.out (by have := HKN.out; have := HL.out; omega) (by have := HKN.out; have := HL.out; omega) (by decide) HD.out.2.1 HD.out.2.2.1)
              clear hmd HST
              go_wp2_with fail
              refine (HIS.out).mono ?_
              rintro e we ⟨rfl, hb⟩
              have HEND : Hid (LoopQ w g a 32 5 (27 + 20 * ((k + 1 : Nat) : Int)) (1 + ((k + 1 : Nat) : Int)) (u5) (.slice l6 n6 c6) (u7) (u8) true we) := ⟨U2, s2, SN, LG, NS, NL, HD.out.1.to hb, HMD.out, HD.out.2.1.to (To.below hb), HD.out.2.2.1.to (To.below hb), HD.out.2.2.2.1.to (To.below hb), HD.out.2.2.2.2.1.to (To.below hb), HD.out.2.2.2.2.2.2.2.1.trans (hb.mono HD.out.2.2.2.2.2.2.2.1.size), HD.out.2.2.2.2.2.2.2.2⟩
              clear hb HIS HMD
              have hkn := HKN.out
              have hl9 := HL.out
              go_wp2_with fail
              exact ⟨⟨k + 1, HKN.out, by go_num, a, true, rfl, rfl, HEND.out⟩, by simp [intOf]; omega⟩
          · have HMD : Hid (ModeQ s2 32 5 (p.data) ([]) NS NL false (27 + 20 * ((k + 1 : Nat) : Int)) (1 + ((k + 1 : Nat) : Int))) := by rw [Hid, HKM.out.1, HKM.out.2]; exact hmd
            have HIS := Lib.hid (is_t HD.out.1 HMD.out (by have := HKN.out; have := HL.out; omega) (by have := HKN.out; have := HL.out; omega) (by decide) HD.out.2.2.2.2.2.1 HD.out.2.2.2.2.2.2.1)
            clear hmd HST
            go_wp2_with fail
            refine (HIS.out).mono ?_
            rintro e we ⟨rfl, hb⟩
            have HEND : Hid (LoopQ w g a 32 5 (27 + 20 * ((k + 1 : Nat) : Int)) (1 + ((k + 1 : Nat) : Int)) (v2) ((.slice none 0 0)) (u7) (u8) false we) := ⟨U2, s2, (p.data), ([]), NS, NL, HD.out.1.to hb, HMD.out, HD.out.2.2.2.2.2.1.to (To.below hb), HD.out.2.2.2.2.2.2.1.to (To.below hb), HD.out.2.2.2.1.to (To.below hb), HD.out.2.2.2.2.1.to (To.below hb), HD.out.2.2.2.2.2.2.2.1.trans (hb.mono HD.out.2.2.2.2.2.2.2.1.size), HD.out.2.2.2.2.2.2.2.2⟩
            clear hb HIS HMD
            have hkn := HKN.out
            have hl9 := HL.out
            go_wp2_with fail
            exact ⟨⟨k + 1, HKN.out, by go_num, a, false, rfl, rfl, HEND.out⟩, by simp [intOf]; omega⟩
          · have HMD : Hid (ModeQ s2 32 5 SN LG NS NL true (27 + 20 * ((k + 1 : Nat) : Int)) (1 + ((k + 1 : Nat) : Int))) := by rw [Hid, HKM.out.1, HKM.out.2]; exact hmd
            have HIS := Lib.hid (is_t HD.out.1 HMD.out (by have := HKN.out; have := HL.out; omega) (by have := HKN.out; have := HL.out; omega) (by decide) HD.out.2.1 HD.out.2.2.1)
            clear hmd HST
            go_wp2_with fail
            refine (HIS.out).mono ?_
            rintro e we ⟨rfl, hb⟩
            have HEND : Hid (LoopQ w g a 32 5 (27 + 20 * ((k + 1 : Nat) : Int)) (1 + ((k + 1 : Nat) : Int)) (u5) (.slice l6 n6 c6) (u7) (u8) true we) := ⟨U2, s2, SN, LG, NS, NL, HD.out.1.to hb, HMD.out, HD.out.2.1.to (To.below hb), HD.out.2.2.1.to (To.below hb), HD.out.2.2.2.1.to (To.below hb), HD.out.2.2.2.2.1.to (To.below hb), HD.out.2.2.2.2.2.2.2.1.trans (hb.mono HD.out.2.2.2.2.2.2.2.1.size), HD.out.2.2.2.2.2.2.2.2⟩
            clear hb HIS HMD
            have hkn := HKN.out
            have hl9 := HL.out
            go_wp2_with fail
            exact ⟨⟨k + 1, HKN.out, by go_num, a, true, rfl, rfl, HEND.out⟩, by simp [intOf]; omega⟩
          · have HMD : Hid (ModeQ s2 32 5 SN LG (p.data) ([]) true (27 + 20 * ((k + 1 : Nat) : Int)) (1 + ((k + 1 : Nat) : Int))) := by rw [Hid, HKM.out.1, HKM.out.2]; exact hmd
            have HIS := Lib.hid (is_t HD.out.1 HMD.out (by have := HKN.out; have := HL.out; omega) (by have := HKN.out; have := HL.out; omega) (by decide) HD.out.2.1 HD.out.2.2.1)
            clear hmd HST
            go_wp2_with fail
            refine (HIS.out).mono ?_
            rintro e we ⟨rfl, hb⟩
            have HEND : Hid (LoopQ w g a 32 5 (27 + 20 * ((k + 1 : Nat) : Int)) (1 + ((k + 1 : Nat) : Int)) (u5) (.slice l6 n6 c6) (v2) ((.slice none 0 0)) true we) := ⟨U2, s2, SN, LG, (p.data), ([]), HD.out.1.to hb, HMD.out, HD.out.2.1.to (To.below hb), HD.out.2.2.1.to (To.below hb), HD.out.2.2.2.2.2.1.to (To.below hb), HD.out.2.2.2.2.2.2.1.to (To.below hb), HD.out.2.2.2.2.2.2.2.1.trans (hb.mono HD.out.2.2.2.2.2.2.2.1.size), HD.out.2.2.2.2.2.2.2.2⟩
            clear hb HIS HMD
            have hkn := HKN.out
            have hl9 := HL.out
            go_wp2_with fail
            exact ⟨⟨k + 1, HKN.out, by go_num, a, true, rfl, rfl, HEND.out⟩, by simp [intOf]; omega⟩
        by_cases hk3 : p.kind = 3
        · have z0 : wb.cell? ⟨G, 0, none⟩ = some (.int .i64 3) := by rw [← hk3]; exact HBK.out.cell 0
          have z1 : wb.cell? ⟨G, 1, none⟩ = some (.int .i64 p.n) := HBK.out.cell 1
          clear hk3 hk2 hk1
          have HCALL := Lib.hid (arm_q (n := p.n) HB.out.1 HB.out.2.1 (by have := HKN.out; have := HL.out; omega) HOK.out.n)
          go_wp2_with fail
          refine (HCALL.out).mono ?_
          clear z0 z1 HCALL
          rintro e wd ⟨U2, s2, rfl, hs2, ht2, hm2⟩
          have HEND : Hid (LoopQ w g a 32 5 (27 + 20 * ((k + 1 : Nat) : Int)) (1 + ((k + 1 : Nat) : Int)) u5 (.slice l6 n6 c6) u7 u8 asked wd) := by
            have far := To.far HB.out.2.2.2.2.2.2.1 HB.out.2.2.2.2.2.2.2.1 ht2
            have := HKM.out
            exact ⟨U2, s2, SN, LG, NS, NL, hs2, hm2.mono (by omega) (by omega), HB.out.2.2.1.to ht2, HB.out.2.2.2.1.to ht2, HB.out.2.2.2.2.1.to ht2, HB.out.2.2.2.2.2.1.to ht2, far.1, far.2⟩
          clear hs2 ht2 hm2
          have hkn := HKN.out
          have hl9 := HL.out
          go_wp2_with fail
          exact ⟨⟨k + 1, HKN.out, by go_num, a, asked, rfl, rfl, HEND.out⟩, by simp [intOf]; omega⟩
        by_cases hk4 : p.kind = 4
        · have z0 : wb.cell? ⟨G, 0, none⟩ = some (.int .i64 4) := by rw [← hk4]; exact HBK.out.cell 0
          have z3 : wb.cell? ⟨G, 3, none⟩ = some (.slice ka kn kc) := HBK.out.cell 3
          have z4 : wb.cell? ⟨G, 4, none⟩ = some (.int .i64 p.torn) := HBK.out.cell 4
          have z5 : wb.cell? ⟨G, 5, none⟩ = some (.int .i64 p.cut) := HBK.out.cell 5
          clear hk4 hk3 hk2 hk1
          have HKR : Hid (RowT wb (.slice ka kn kc) p.keep ∧ CapS (.slice ka kn kc) ∧ (p.keep.length ≠ 0 → ∀ k, (Value.slice ka kn kc).ownBlock = some k → ¬ U k) ∧ p.keep.length ≤ 1000) := by
            rw [← HDV.out.2]
            exact ⟨HOK.out.krow.on HB.out.2.2.2.2.2.2.1, HOK.out.kcap, fun h0 k e hU => by have := HOK.out.klt h0 k e; have := HB.out.2.2.2.2.2.2.2.1 k hU; omega, by have := HOP.out.2; omega⟩
          have HCALL := Lib.hid (crash_ss p.torn p.cut HB.out.1 (HB.out.2.1.good.ok.mono (by have := HKN.out; have := HL.out; omega)) HKR.out.1 HKR.out.2.1 HKR.out.2.2.2 HKR.out.2.2.1 HOK.out.torn HOK.out.cut)
          go_wp2_with fail
          refine (HCALL.out).mono ?_
          clear z0 z3 z4 z5 HCALL HKR
          rintro e wd ⟨T2, rfl, hd2, ht2⟩
          have HD4 : Hid (At12 T2 wd g (crashD st.d p.keep p.torn p.cut) ∧ RowQ T2 wd u5 SN ∧ RowQ T2 wd (.slice l6 n6 c6) LG ∧ RowQ T2 wd u7 NS ∧ RowQ T2 wd u8 NL ∧ Below w.heap.size w wd ∧ ∀ k, T2 k → w.heap.size ≤ k) := by
            have far := To.far HB.out.2.2.2.2.2.2.1 HB.out.2.2.2.2.2.2.2.1 ht2
            exact ⟨hd2, HB.out.2.2.1.to ht2, HB.out.2.2.2.1.to ht2, HB.out.2.2.2.2.1.to ht2, HB.out.2.2.2.2.2.1.to ht2, far.1, far.2⟩
          clear hd2 ht2
          obtain ⟨hidle, h', D', him, hgen, hway⟩ := crash_mode HB.out.2.1 (by omega) p.keep p.torn p.cut
          have HI4 := Lib.hid hidle
          clear hidle
          rcases hway with ⟨hD, hS⟩ | ⟨rfl, hD, hS⟩
          · have HCALL := Lib.hid (open_q (m := 27 + 20 * (k : Int)) HD4.out.1 HI4.out (by omega) (by have := HKN.out; have := HL.out; omega) him hgen (by decide) (by decide) hD hS NS NL)
            clear him hgen hD hS
            go_wp2_with fail
            refine (HCALL.out).mono ?_
            clear HCALL
            rintro e we ⟨U3, a3, s3, rfl, hs3, ht3, hm3⟩
            have HE4 : Hid (SS U3 we a3 g s3 ∧ ModeQ s3 32 5 SN LG NS NL false (27 + 20 * (k : Int) + 20) (1 + (k : Int)) ∧ RowQ U3 we u5 SN ∧ RowQ U3 we (.slice l6 n6 c6) LG ∧ RowQ U3 we u7 NS ∧ RowQ U3 we u8 NL ∧ Below w.heap.size w we ∧ ∀ k, U3 k → w.heap.size ≤ k) := by
              have far := To.far HD4.out.2.2.2.2.2.1 HD4.out.2.2.2.2.2.2 ht3
              exact ⟨hs3, hm3, HD4.out.2.1.to ht3, HD4.out.2.2.1.to ht3, HD4.out.2.2.2.1.to ht3, HD4.out.2.2.2.2.1.to ht3, far.1, far.2⟩
            clear hs3 ht3 hm3
            have HIS := Lib.hid (is_t HE4.out.1 HE4.out.2.1 (by have := HKN.out; have := HL.out; omega) (by have := HKN.out; have := HL.out; omega) (by decide) HE4.out.2.2.1 HE4.out.2.2.2.1)
            go_wp2_with fail
            refine (HIS.out).mono ?_
            clear HIS
            rintro e wz ⟨rfl, hb⟩
            have HZ := Lib.hid hb
            clear hb
            have HEND : Hid (LoopQ w g a3 32 5 (27 + 20 * ((k + 1 : Nat) : Int)) (1 + ((k + 1 : Nat) : Int)) (u5) (.slice l6 n6 c6) u7 u8 false wz) := by
              have tb := To.below (T := U3) HZ.out
              have := HKM.out
              have hb := HE4.out.2.2.2.2.2.2.1.trans (HZ.out.mono HE4.out.2.2.2.2.2.2.1.size)
              refine ⟨U3, s3, SN, LG, NS, NL, HE4.out.1.to HZ.out, ModeQ.mono (m := 27 + 20 * (k : Int) + 20) (gm := 1 + (k : Int)) ?_ (by omega) (by omega), HE4.out.2.2.1.to tb, HE4.out.2.2.2.1.to tb, HE4.out.2.2.2.2.1.to tb, HE4.out.2.2.2.2.2.1.to tb, hb, HE4.out.2.2.2.2.2.2.2⟩
              exact HE4.out.2.1
            have hkn := HKN.out
            have hl9 := HL.out
            go_wp2_with fail
            exact ⟨⟨k + 1, HKN.out, by go_num, a3, false, rfl, rfl, HEND.out⟩, by simp [intOf]; omega⟩
          · have HCALL := Lib.hid (open_q (m := 27 + 20 * (k : Int)) HD4.out.1 HI4.out (by omega) (by have := HKN.out; have := HL.out; omega) him hgen (by decide) (by decide) hD hS NS NL)
            clear him hgen hD hS
            go_wp2_with fail
            refine (HCALL.out).mono ?_
            clear HCALL
            rintro e we ⟨U3, a3, s3, rfl, hs3, ht3, hm3⟩
            have HE4 : Hid (SS U3 we a3 g s3 ∧ ModeQ s3 32 5 NS NL NS NL false (27 + 20 * (k : Int) + 20) (1 + (k : Int)) ∧ RowQ U3 we u5 SN ∧ RowQ U3 we (.slice l6 n6 c6) LG ∧ RowQ U3 we u7 NS ∧ RowQ U3 we u8 NL ∧ Below w.heap.size w we ∧ ∀ k, U3 k → w.heap.size ≤ k) := by
              have far := To.far HD4.out.2.2.2.2.2.1 HD4.out.2.2.2.2.2.2 ht3
              exact ⟨hs3, hm3, HD4.out.2.1.to ht3, HD4.out.2.2.1.to ht3, HD4.out.2.2.2.1.to ht3, HD4.out.2.2.2.2.1.to ht3, far.1, far.2⟩
            clear hs3 ht3 hm3
            have HIS := Lib.hid (is_q HE4.out.1 HE4.out.2.1.good (by have := HKN.out; have := HL.out; omega) (by have := HKN.out; have := HL.out; omega) (by decide) HE4.out.2.2.1 HE4.out.2.2.2.1)
            obtain ⟨same, hsame⟩ : ∃ x, decide (s3.D.take s3.h.snap.toNat = SN ∧ s3.D.drop s3.h.snap.toNat = LG) = x := ⟨_, rfl⟩
            have HSAME := Lib.hid hsame
            rw [hsame] at HIS
            clear hsame
            cases same with
            | true =>
              have HEQ : Hid (NS = SN ∧ NL = LG) := by
                have h1 := of_decide_eq_true HSAME.out
                have h2 := HE4.out.2.1.parts
                exact ⟨h2.1.symm.trans h1.1, h2.2.symm.trans h1.2⟩
              go_wp2_with fail
              refine (HIS.out).mono ?_
              clear HIS
              rintro e wz ⟨rfl, hb⟩
              have HZ := Lib.hid hb
              clear hb
              have HEND : Hid (LoopQ w g a3 32 5 (27 + 20 * ((k + 1 : Nat) : Int)) (1 + ((k + 1 : Nat) : Int)) (u5) (.slice l6 n6 c6) u7 u8 false wz) := by
                have tb := To.below (T := U3) HZ.out
                have := HKM.out
                have hb := HE4.out.2.2.2.2.2.2.1.trans (HZ.out.mono HE4.out.2.2.2.2.2.2.1.size)
                refine ⟨U3, s3, SN, LG, NS, NL, HE4.out.1.to HZ.out, ModeQ.mono (m := 27 + 20 * (k : Int) + 20) (gm := 1 + (k : Int)) ?_ (by omega) (by omega), HE4.out.2.2.1.to tb, HE4.out.2.2.2.1.to tb, HE4.out.2.2.2.2.1.to tb, HE4.out.2.2.2.2.2.1.to tb, hb, HE4.out.2.2.2.2.2.2.2⟩
                exact (by have h := HE4.out.2.1; rw [HEQ.out.1, HEQ.out.2] at h; rw [HEQ.out.1, HEQ.out.2]; exact h)
              have hkn := HKN.out
              have hl9 := HL.out
              go_wp2_with fail
              exact ⟨⟨k + 1, HKN.out, by go_num, a3, false, rfl, rfl, HEND.out⟩, by simp [intOf]; omega⟩
            | false =>
              go_wp2_with fail
              refine (HIS.out).mono ?_
              clear HIS
              rintro e wz ⟨rfl, hb⟩
              have HZ1 := Lib.hid hb
              clear hb
              have HIS2 := Lib.hid (is_t (HE4.out.1.to HZ1.out) HE4.out.2.1 (by have := HKN.out; have := HL.out; omega) (by have := HKN.out; have := HL.out; omega) (by decide) (HE4.out.2.2.2.2.1.to (To.below HZ1.out)) (HE4.out.2.2.2.2.2.1.to (To.below HZ1.out)))
              go_wp2_with fail
              refine (HIS2.out).mono ?_
              clear HIS2
              rintro e wy ⟨rfl, hb⟩
              have HZ := Lib.hid (HZ1.out.trans (hb.mono HZ1.out.size))
              clear hb
              have HEND : Hid (LoopQ w g a3 32 5 (27 + 20 * ((k + 1 : Nat) : Int)) (1 + ((k + 1 : Nat) : Int)) (u7) (u8) u7 u8 false wy) := by
                have tb := To.below (T := U3) HZ.out
                have := HKM.out
                have hb := HE4.out.2.2.2.2.2.2.1.trans (HZ.out.mono HE4.out.2.2.2.2.2.2.1.size)
                refine ⟨U3, s3, NS, NL, NS, NL, HE4.out.1.to HZ.out, ModeQ.mono (m := 27 + 20 * (k : Int) + 20) (gm := 1 + (k : Int)) ?_ (by omega) (by omega), HE4.out.2.2.2.2.1.to tb, HE4.out.2.2.2.2.2.1.to tb, HE4.out.2.2.2.2.1.to tb, HE4.out.2.2.2.2.2.1.to tb, hb, HE4.out.2.2.2.2.2.2.2⟩
                exact HE4.out.2.1
              have hkn := HKN.out
              have hl9 := HL.out
              go_wp2_with fail
              exact ⟨⟨k + 1, HKN.out, by go_num, a3, false, rfl, rfl, HEND.out⟩, by simp [intOf]; omega⟩
        have e1 : (p.kind == 1) = false := by simp; exact hk1
        have e2 : (p.kind == 2) = false := by simp; exact hk2
        have e3 : (p.kind == 3) = false := by simp; exact hk3
        have e4 : (p.kind == 4) = false := by simp; exact hk4
        have f1 : decide (p.kind = 1) = false := decide_eq_false hk1
        have f2 : decide (p.kind = 2) = false := decide_eq_false hk2
        have f3 : decide (p.kind = 3) = false := decide_eq_false hk3
        have f4 : decide (p.kind = 4) = false := decide_eq_false hk4
        have z0 : wb.cell? ⟨G, 0, none⟩ = some (.int .i64 p.kind) := HBK.out.cell 0
        have HEND : Hid (LoopQ w g a 32 5 (27 + 20 * ((k + 1 : Nat) : Int)) (1 + ((k + 1 : Nat) : Int)) u5 (.slice l6 n6 c6) u7 u8 asked wb) := by
          have := HKM.out
          exact ⟨U, st, SN, LG, NS, NL, HB.out.1, HB.out.2.1.mono (by omega) (by omega), HB.out.2.2.1, HB.out.2.2.2.1, HB.out.2.2.2.2.1, HB.out.2.2.2.2.2.1, HB.out.2.2.2.2.2.2.1, HB.out.2.2.2.2.2.2.2.1⟩
        have hkn := HKN.out
        have hl9 := HL.out
        go_wp2_with fail
        exact ⟨⟨k + 1, HKN.out, by go_num, a, asked, rfl, rfl, HEND.out⟩, by simp [intOf]; omega⟩
      · have hd : decide ((k : Int) < (n : Int)) = false := by simp; omega
        have HF : Hid (Below w.heap.size w wr) := by
          obtain ⟨_, _, _, _, _, _, _, _, _, _, _, _, h, _⟩ := hw.out
          exact h
        clear hw
        go_wp2_with fail
        refine (HAW.out _).mono ?_
        rintro e w3 ⟨rfl, hb⟩
        have H3 : Hid (Below w.heap.size w w3) := HF.out.trans (hb.mono HF.out.size)
        clear hb
        go_wp2_with fail
        go_ret
        exact ⟨rfl, H3.out⟩
end Go.Proofs.Ytdcjchakgfpgaaa
