/- Layer 14: the law StorePlays. -/
import Derived.Test.YtdcjchakgfpgaaaNd
import Derived.Test.YtdcjchakgfpgaaaNe
namespace Go.Proofs.Ytdcjchakgfpgaaa
open Go.RowKit
theorem wordL_zeros : ∀ (E : List Int), (∀ x ∈ E, x = 0) → wordL E = 0 := fun E h => by
  have key : ∀ (E : List Int), (∀ x ∈ E, x = 0) → ∀ n : Int, n = 0 → E.foldl (fun n c => n * 256 + c) n = 0 := fun E => by
    induction E with
    | nil => intro _ n hn; exact hn
    | cons x E ih =>
      intro h n hn
      rw [List.foldl_cons]
      exact ih (fun y hy => h y (List.mem_cons_of_mem _ hy)) _ (by rw [h x (List.mem_cons_self ..), hn]; rfl)
  exact key E h 0 rfl
theorem zero_last (z : Nat) (cap : Int) (n : Nat) : ∀ k, lastL z cap (List.replicate n 0) k = zeroHd
  | 0 => rfl
  | k + 1 => by
    have e : decI (secZ z k (List.replicate n 0)) cap = none := by
      unfold decI
      rw [if_neg]
      rintro ⟨_, h, _⟩
      have h1 : 1 ≤ (rawHd (secZ z k (List.replicate n 0))).gen := h.1
      have h2 : (rawHd (secZ z k (List.replicate n 0))).gen = 0 := wordL_zeros _ (fun x hx => by
        have h3 := List.mem_of_mem_drop (List.mem_of_mem_take hx)
        have h4 := List.mem_of_mem_drop (List.mem_of_mem_take h3)
        exact (List.mem_replicate.1 h4).2)
      omega
    rw [lastL, zero_last z cap n k, e]
    rfl
set_option maxHeartbeats 16000000 in
set_option maxRecDepth 100000 in
theorem plays_law (sN zN : Int) (s : Value) (L : List Op14) (w : World) (hr : RowS w s L) (hl : L.length ≤ 9223372036854775807) : Calls Try.prog 4 #[.int .i64 sN, .int .i64 zN, s] w fun e w' => e = .returned (.bool true) ∧ Below w.heap.size w w' := by
  have HAW : Hid (∀ W, Calls Try.prog 7 #[] W fun e w' => e = .returned (.bool true) ∧ Below W.heap.size W w') := fun W => awake14_c W
  by_cases h60 : sN > 60
  · have c1 : decide (sN > 60) = true := decide_eq_true h60
    have c1b : decide (60 < sN) = true := decide_eq_true h60
    clear hr hl
    go_enter Try.func4, Try.ntmps4
    go_wp2_with fail
    refine (HAW.out _).mono ?_
    rintro e wz ⟨rfl, hb⟩
    have HZ9 := Lib.hid hb
    clear hb
    go_wp2_with fail
    go_ret
    exact ⟨rfl, HZ9.out⟩
  have c1 : decide (sN > 60) = false := decide_eq_false h60
  have c1b : decide (60 < sN) = false := decide_eq_false h60
  by_cases hno : ¬ diskOkI sN zN
  · have HN := Lib.hid (kNewBad_c sN zN w hno)
    clear hr hl hno
    go_enter Try.func4, Try.ntmps4
    go_wp2_with fail
    refine (HN.out).mono ?_
    rintro e w1 ⟨rfl, hb⟩
    have H1 := Lib.hid hb
    clear hb HN
    go_wp2_with fail
    refine (capNil_c _).mono ?_
    rintro e w2 ⟨rfl, rfl⟩
    go_wp2_with fail
    refine (format_nil _).mono ?_
    rintro e w2 ⟨rfl, rfl⟩
    go_wp2_with fail
    refine (HAW.out _).mono ?_
    rintro e wz ⟨rfl, hb⟩
    have HZ9 : Hid (Below w.heap.size w wz) := H1.out.trans (hb.mono H1.out.size)
    clear hb
    go_wp2_with fail
    go_ret
    exact ⟨rfl, HZ9.out⟩
  have hok : diskOkI sN zN := Classical.not_not.1 hno
  clear hno
  have hfew : sN * zN ≤ 31000 := by
    have h := Int.mul_le_mul (Int.not_lt.1 h60) hok.2.2.2 (by have := hok.2.2.1; omega) (by decide)
    omega
  have HN := Lib.hid (kNew_c sN zN w hok)
  have HOKN := Lib.hid (new_few hok hfew)
  by_cases hsm : sN < 4 ∨ zN < 32
  · have HC0 : Hid (capI (newD sN zN) = 0) := if_pos hsm
    obtain ⟨b4, hb4⟩ : ∃ b, decide (sN < 4) = b := ⟨_, rfl⟩
    have hb32 : b4 = false → decide (zN < 32) = true := fun h => by
      rw [h] at hb4
      have h1 := of_decide_eq_false hb4
      exact decide_eq_true (by omega)
    clear hr hl hsm hfew hok
    go_enter Try.func4, Try.ntmps4
    go_wp2_with fail
    refine (HN.out).mono ?_
    rintro e w1 ⟨T, g, rfl, q1, q2, _⟩
    have H1 := Lib.hid (And.intro q1 q2)
    clear q1 q2 HN
    go_wp2_with fail
    refine (open_range T _ g _ H1.out.1 (HOKN.out.mono (by decide)) HC0.out).mono ?_
    rintro e w2 ⟨rfl, hb⟩
    have H2 : Hid (At12 T w2 g (newD sN zN) ∧ Below w.heap.size w w2) := ⟨at_grow H1.out.1 hb, H1.out.2.trans (hb.mono H1.out.2.size)⟩
    clear hb H1
    have HCC := Lib.hid (capD_c T w2 g _ H2.out.1 (HOKN.out.mono (by decide)))
    rw [HC0.out] at HCC
    cases b4 with
    | true =>
      go_wp2_with fail
      refine (HCC.out).mono ?_
      rintro e w3 ⟨rfl, hb⟩
      have H3 : Hid (At12 T w3 g (newD sN zN) ∧ Below w.heap.size w w3) := ⟨at_grow H2.out.1 hb, H2.out.2.trans (hb.mono H2.out.2.size)⟩
      clear hb
      go_wp2_with fail
      refine (format_range T _ g _ H3.out.1 (HOKN.out.mono (by decide)) HC0.out).mono ?_
      rintro e w4 ⟨rfl, hb⟩
      have H4 : Hid (Below w.heap.size w w4) := H3.out.2.trans (hb.mono H3.out.2.size)
      clear hb
      go_wp2_with fail
      refine (HAW.out _).mono ?_
      rintro e wz ⟨rfl, hb⟩
      have HZ9 : Hid (Below w.heap.size w wz) := H4.out.trans (hb.mono H4.out.size)
      clear hb
      go_wp2_with fail
      go_ret
      exact ⟨rfl, HZ9.out⟩
    | false =>
      have c3 := hb32 rfl
      go_wp2_with fail
      refine (HCC.out).mono ?_
      rintro e w3 ⟨rfl, hb⟩
      have H3 : Hid (At12 T w3 g (newD sN zN) ∧ Below w.heap.size w w3) := ⟨at_grow H2.out.1 hb, H2.out.2.trans (hb.mono H2.out.2.size)⟩
      clear hb
      go_wp2_with fail
      refine (format_range T _ g _ H3.out.1 (HOKN.out.mono (by decide)) HC0.out).mono ?_
      rintro e w4 ⟨rfl, hb⟩
      have H4 : Hid (Below w.heap.size w w4) := H3.out.2.trans (hb.mono H3.out.2.size)
      clear hb
      go_wp2_with fail
      refine (HAW.out _).mono ?_
      rintro e wz ⟨rfl, hb⟩
      have HZ9 : Hid (Below w.heap.size w wz) := H4.out.trans (hb.mono H4.out.size)
      clear hb
      go_wp2_with fail
      go_ret
      exact ⟨rfl, HZ9.out⟩
  have c2 : decide (sN < 4) = false := decide_eq_false (by omega)
  have c3 : decide (zN < 32) = false := decide_eq_false (by omega)
  obtain ⟨h4, h32⟩ : 4 ≤ sN ∧ 32 ≤ zN := by omega
  obtain ⟨H, hH⟩ : ∃ x, ((sN - 2) / 2).toNat = x := ⟨_, rfl⟩
  obtain ⟨Z, hZ⟩ : ∃ x, zN.toNat = x := ⟨_, rfl⟩
  obtain ⟨cp, hcp⟩ : ∃ x, (sN - 2) / 2 * zN = x := ⟨_, rfl⟩
  have eH : (sN - 2) / 2 = (H : Int) := by omega
  have eZ : zN = (Z : Int) := by omega
  have HCP : Hid (cp = ((H * Z : Nat) : Int)) := by rw [← hcp, eH, eZ]; exact nat_mul_int H Z
  have HH : Hid (H ≤ 29 ∧ H * Z ≤ 20000) := by
    have h1 : H ≤ 29 := by omega
    have h2 : Z ≤ 512 := by have := hok.2.2.2; omega
    exact ⟨h1, by have := Nat.mul_le_mul h1 h2; omega⟩
  have HHZ : Hid (H * Z ≤ 31000) := by have := HH.out.2; unfold Hid; omega
  have HM : Hid (∀ W, Calls Try.prog 16 #[.int .i64 sN, .int .i64 zN] W (MadeQ W Z H)) := fun W => by
    have key := made_c sN zN W hok hfew h4 h32
    rw [hH, hZ] at key
    exact key
  have HI : Hid (Idle (newD sN zN) Z H 0) := by
    have key := idle_new hok hfew h4 h32
    rw [hH, hZ] at key
    exact key
  have HI2 := Lib.hid (readN_idle HI.out (by decide) 0 2)
  have HBADQ : Hid (∀ T W g, At12 T W g (newD sN zN) → Calls Try.prog 15 #[ptrD g] W fun e w' => ∃ T', e = .returned (.tuple #[.pointer none, .int .i64 43]) ∧ At12 T' w' g (readN (newD sN zN) 0 2) ∧ To T W T' w') := fun T W g h => open_bad T W g (newD sN zN) Z 0 h HOKN.out (by decide) (by decide) rfl eZ h4 (by omega) (by
    show (lastL Z _ (List.replicate _ 0) 2).gen = 0
    rw [zero_last]; rfl)
  have e1 : wrap64 (sN - 2) = sN - 2 := wrapR _ (by omega) (by omega)
  have e2 : Int.tdiv (sN - 2) 2 = (sN - 2) / 2 := Int.tdiv_eq_ediv_of_nonneg (by omega)
  have e3 : wrap64 ((sN - 2) / 2) = (sN - 2) / 2 := wrapR _ (by omega) (by omega)
  have e4 : wrap64 ((sN - 2) / 2 * zN) = cp := by rw [hcp]; have := HCP.out; have := HH.out; exact wrapR _ (by omega) (by omega)
  have HROW := Lib.hid hr
  have HSM : Hid (∀ W, Below w.heap.size w W → Calls Try.prog 17 #[s, .int .i64 30] W fun e w' => e = .returned (.bool (small14 L 30)) ∧ Below W.heap.size W w') := fun W hW => small14_c s L 30 W (HROW.out.on hW) hl
  obtain ⟨ao, ac, rfl⟩ := hr.shape
  obtain ⟨n, hn⟩ : ∃ n, L.length = n := ⟨_, rfl⟩
  have HNL := Lib.hid hn
  have HN2 := HN
  clear HN
  have HN := HNL
  rw [hn] at HROW HSM ⊢
  clear hr hl hn hH hZ hcp eH eZ h4 h32 hfew hok hsm HNL
  go_enter Try.func4, Try.ntmps4
  go_wp2_with fail
  refine (HN2.out).mono ?_
  rintro e w1 ⟨T, g0, rfl, q1, q2, q3⟩
  have H1 : Hid (At12 T w1 g0 (newD sN zN) ∧ Below w.heap.size w w1 ∧ ∀ k, T k → w.heap.size ≤ k) := ⟨q1, q2, q3⟩
  clear q1 q2 q3 HN2
  go_wp2_with fail
  refine (HBADQ.out T _ g0 H1.out.1).mono ?_
  rintro e w2 ⟨T2, rfl, q1, q2⟩
  have H2 : Hid (At12 T2 w2 g0 (readN (newD sN zN) 0 2) ∧ Below w.heap.size w w2) := ⟨q1, (To.far H1.out.2.1 H1.out.2.2 q2).1⟩
  clear q1 q2 H1 HBADQ
  go_wp2_with fail
  refine (HM.out _).mono ?_
  rintro e w3 ⟨U1, a, g, s1, rfl, q1, q2, q3, q4, q5, q6, q7⟩
  rw [e4]
  have H3 : Hid (SS U1 w3 a g s1 ∧ Pl s1 Z H ((H : Int) + 22) 1 [] [] 1 ∧ Below w.heap.size w w3 ∧ (∀ k, U1 k → w.heap.size ≤ k) ∧ At12 T2 w3 g0 (readN (newD sN zN) 0 2)) :=
    ⟨q1, ⟨q2, q5, by rw [q4]; rfl, by rw [q3]; rfl, by rw [q3]⟩, H2.out.2.trans (q6.mono H2.out.2.size), fun k hk => Nat.le_trans H2.out.2.size (q7 k hk), at_grow H2.out.1 q6⟩
  have HS1 := Lib.hid (HSM.out w3 H3.out.2.2.1)
  have HCD : Hid (∀ W, Below w3.heap.size w3 W → Calls Try.prog 13 #[ptrD g0] W fun e w' => e = .returned (.int .i64 cp) ∧ Below W.heap.size W w') := fun W hW => by
    have key := capD_c T2 W g0 _ (at_grow H3.out.2.2.2.2 hW) (HI2.out.1.ok.mono (by decide))
    rw [HI2.out.1.geo.cap, ← HCP.out] at key
    exact key
  clear q1 q2 q3 q4 q5 q6 q7 HM HSM H2 HI2 HI HOKN e1 e2 e3 e4
  obtain ⟨sm, hsm⟩ : ∃ b, small14 L 30 = b := ⟨_, rfl⟩
  have HSMB := Lib.hid hsm
  rw [hsm] at HS1
  clear hsm
  cases sm with
  | false =>
    go_wp2_with fail
    refine (HS1.out).mono ?_
    rintro e w4 ⟨rfl, hb⟩
    have HB4 := Lib.hid hb
    clear hb
    go_wp2_with fail
    refine (HCD.out _ HB4.out).mono ?_
    rintro e w5 ⟨rfl, hb⟩
    have HF5 : Hid (Below w.heap.size w w5) := by
      have h := HB4.out.trans (hb.mono HB4.out.size)
      exact H3.out.2.2.1.trans (h.mono H3.out.2.2.1.size)
    clear hb
    go_wp2_with fail
    refine (HAW.out _).mono ?_
    rintro e wz ⟨rfl, hb⟩
    have HZ9 : Hid (Below w.heap.size w wz) := HF5.out.trans (hb.mono HF5.out.size)
    clear hb
    go_wp2_with fail
    go_ret
    exact ⟨rfl, HZ9.out⟩
  | true =>
    go_wp2_with fail
    refine (HS1.out).mono ?_
    rintro e w4 ⟨rfl, hb⟩
    have HB4 := Lib.hid hb
    clear hb
    go_wp2_with fail
    refine (HCD.out _ HB4.out).mono ?_
    rintro e w5 ⟨rfl, hb⟩
    have HB5 := Lib.hid (HB4.out.trans (hb.mono HB4.out.size))
    clear hb
    have HCAP := Lib.hid (cap_p (H3.out.1.to HB5.out) H3.out.2.1 (by have := HH.out; omega))
    rw [← HCP.out] at HCAP
    go_wp2_with fail
    refine (HCAP.out).mono ?_
    rintro e w6 ⟨rfl, hb⟩
    have HB6 := Lib.hid (HB5.out.trans (hb.mono HB5.out.size))
    clear hb HCAP
    have HST : Hid (LoopP w g a Z H ((H : Int) + 22 + 20 * ((0 : Nat) : Int)) (1 + ((0 : Nat) : Int)) 1 (.slice none 0 0) (.slice none 0 0) w6) := by
      refine ⟨U1, s1, [], [], H3.out.1.to HB6.out, H3.out.2.1.mono (by omega) (by omega), RowQ.nil _ _, RowQ.nil _ _, H3.out.2.2.1.trans (HB6.out.mono H3.out.2.2.1.size), H3.out.2.2.2.1⟩
    have HL : Hid (n ≤ 30) := by
      have h := HSMB.out
      unfold small14 at h
      rw [Bool.and_eq_true] at h
      have h2 := of_decide_eq_true h.2
      rw [HN.out] at h2
      unfold Hid
      omega
    have HOPS : Hid (∀ p ∈ L, okOp p) := by
      have h := HSMB.out
      unfold small14 at h
      rw [Bool.and_eq_true, List.all_eq_true] at h
      exact fun p hp => of_decide_eq_true (h.1 p hp)
    clear HS1 HSMB H3 HB4 HB5 HB6 HCD c1 c1b c2 c3
    go_wp2_with fail
    go_loopw [13, 14, 15, 17, 18, 19, 116] (fun s5 s6 s7 _ _ _ i wr => ∃ k : Nat, k ≤ n ∧ i = .int .i64 (k : Int) ∧ ∃ gen, s7 = .int .i64 gen ∧ Hid (LoopP w g a Z H ((H : Int) + 22 + 20 * (k : Int)) (1 + (k : Int)) gen s5 s6 wr)) (fun _ _ _ _ _ _ i _ => n - (intOf i).toNat)
    case atStart => exact ⟨0, Nat.zero_le _, rfl, 1, rfl, HST.out⟩
    case round =>
      obtain ⟨k, hk, rfl, gen, rfl, hw⟩ := hrel
      clear HST
      by_cases hlt : k < n
      · have hd : decide ((k : Int) < (n : Int)) = true := by simp; omega
        have hki : (k : Int) < (n : Int) := by omega
        have HKN : Hid (k + 1 ≤ n) := hlt
        have HKM : Hid ((H : Int) + 22 + 20 * ((k + 1 : Nat) : Int) = (H : Int) + 22 + 20 * (k : Int) + 20 ∧ 1 + ((k + 1 : Nat) : Int) = 1 + (k : Int) + 1) := ⟨by omega, by omega⟩
        obtain ⟨U, st, SN, LG, hss, hpl, q5, q6, hbw, hfar⟩ := hw.out
        obtain ⟨b, of, rfl, hb, hc⟩ := RowS.addr HROW.out (by rw [HN.out]; omega)
        obtain ⟨p, hp⟩ : ∃ p, L[k]? = some p := ⟨_, List.getElem?_eq_getElem (by rw [HN.out]; exact hlt)⟩
        obtain ⟨c0, c1, c2, c3, c4, c5⟩ := (hc k p hp).on hbw hb
        have HOK := Lib.hid (HROW.out.2 p (List.mem_of_getElem? hp))
        have HOP := Lib.hid (HOPS.out p (List.mem_of_getElem? hp))
        obtain ⟨da, dc, hdv⟩ := HOK.out.drow.shape
        obtain ⟨ka, kc, hkv⟩ := HOK.out.krow.shape
        obtain ⟨dn, hdn⟩ : ∃ x, p.data.length = x := ⟨_, rfl⟩
        obtain ⟨kn, hkn⟩ : ∃ x, p.keep.length = x := ⟨_, rfl⟩
        have HLEN : Hid (p.data.length = dn ∧ p.keep.length = kn) := ⟨hdn, hkn⟩
        rw [hdn] at hdv
        rw [hkn] at hkv
        have HDV : Hid (p.dv = .slice da dn dc ∧ p.kv = .slice ka kn kc) := ⟨hdv, hkv⟩
        rw [hdv] at c2
        rw [hkv] at c3
        have hbl : b < wr.heap.size := Nat.lt_of_lt_of_le hb hbw.size
        obtain ⟨l5, m5, hv5⟩ := q5.row.shape
        obtain ⟨n5, hn5⟩ : ∃ x, SN.length = x := ⟨_, rfl⟩
        rw [hn5] at hv5
        subst hv5
        obtain ⟨l6, c6, hv6⟩ := q6.row.shape
        obtain ⟨n6, hn6⟩ : ∃ x, LG.length = x := ⟨_, rfl⟩
        rw [hn6] at hv6
        subst hv6
        have H0 : Hid (SS U wr a g st ∧ Pl st Z H ((H : Int) + 22 + 20 * (k : Int)) (1 + (k : Int)) SN LG gen ∧ RowQ U wr (.slice l5 n5 m5) SN ∧ RowQ U wr (.slice l6 n6 c6) LG ∧ Below w.heap.size w wr ∧ (∀ k, U k → w.heap.size ≤ k) ∧ SN.length = n5 ∧ LG.length = n6) := ⟨hss, hpl, q5, q6, hbw, hfar, hn5, hn6⟩
        clear hw hss hpl q5 q6 hbw hfar hdv hkv hdn hkn hp hc hb hn6 hn5 hk
        obtain ⟨G, hG⟩ : ∃ G, wr.heap.size = G := ⟨_, rfl⟩
        have HG := Lib.hid hG
        have HGS := Lib.hid hG
        obtain ⟨wa, hwa⟩ : ∃ x, wr.alloc (.cells #[.int .i64 0, .int .i64 0, .slice none 0 0, .slice none 0 0, .int .i64 0, .int .i64 0] 52) = x := ⟨_, rfl⟩
        have HA : Hid (Below wr.heap.size wr wa ∧ Blk wa G 52 #[.int .i64 0, .int .i64 0, .slice none 0 0, .slice none 0 0, .int .i64 0, .int .i64 0]) := by
          rw [← hwa, ← hG]
          exact ⟨(Below.refl _ _).alloc (Nat.le_refl _) _, Blk.new _ _ _⟩
        have z0 : wa.cell? ⟨G, 0, none⟩ = some (.int .i64 0) := HA.out.2.cell 0
        have z1 : wa.cell? ⟨G, 1, none⟩ = some (.int .i64 0) := HA.out.2.cell 1
        have z2 : wa.cell? ⟨G, 2, none⟩ = some (.slice none 0 0) := HA.out.2.cell 2
        have z3 : wa.cell? ⟨G, 3, none⟩ = some (.slice none 0 0) := HA.out.2.cell 3
        have z4 : wa.cell? ⟨G, 4, none⟩ = some (.int .i64 0) := HA.out.2.cell 4
        have z5 : wa.cell? ⟨G, 5, none⟩ = some (.int .i64 0) := HA.out.2.cell 5
        have y0 := HA.out.2.free 0
        have y1 := HA.out.2.free 1
        have y2 := HA.out.2.free 2
        have y3 := HA.out.2.free 3
        have y4 := HA.out.2.free 4
        have y5 := HA.out.2.free 5
        have ylt := HA.out.2.lt
        go_upto_region 18 with fail
        try rw [hwa]
        try rw [hG]
        clear hwa hG z0 z1 z2 z3 z4 z5 y0 y1 y2 y3 y4 y5 ylt c0 c1 c2 c3 c4 c5 hbl
        obtain ⟨wb, hwb⟩ : ∃ x, (((((wa.setCell ⟨G, 0, none⟩ (.int .i64 p.kind)).setCell ⟨G, 1, none⟩ (.int .i64 p.n)).setCell ⟨G, 2, none⟩ (.slice da dn dc)).setCell ⟨G, 3, none⟩ (.slice ka kn kc)).setCell ⟨G, 4, none⟩ (.int .i64 p.torn)).setCell ⟨G, 5, none⟩ (.int .i64 p.cut) = x := ⟨_, rfl⟩
        have HBB : Hid (Below wr.heap.size wr wb ∧ Blk wb G 52 #[.int .i64 p.kind, .int .i64 p.n, .slice da dn dc, .slice ka kn kc, .int .i64 p.torn, .int .i64 p.cut]) := by
          rw [← hwb]
          have hle : wr.heap.size ≤ G := by rw [HG.out]; exact Nat.le_refl _
          exact ⟨below_set6 HA.out.1 hle _ _ _ _ _ _, set6_blk HA.out.2 _ _ _ _ _ _⟩
        rw [hwb]
        clear hwb HA HG
        have HBK : Hid (Blk wb G 52 #[.int .i64 p.kind, .int .i64 p.n, .slice da dn dc, .slice ka kn kc, .int .i64 p.torn, .int .i64 p.cut]) := HBB.out.2
        have HNU : Hid (¬ U G) := fun hU => by have := H0.out.1.lt G hU; have := HGS.out; omega
        have HB : Hid (SS U wb a g st ∧ Pl st Z H ((H : Int) + 22 + 20 * (k : Int)) (1 + (k : Int)) SN LG gen ∧ RowQ U wb (.slice l5 n5 m5) SN ∧ RowQ U wb (.slice l6 n6 c6) LG ∧ Below w.heap.size w wb ∧ (∀ k, U k → w.heap.size ≤ k) ∧ RowQ U wb (.slice da dn dc) p.data) := by
          obtain ⟨h1, h2, h3, h4, h7, h8, _, _⟩ := H0.out
          have tb := To.below (T := U) HBB.out.1
          have hbw := h7.trans (HBB.out.1.mono h7.size)
          refine ⟨h1.to HBB.out.1, h2, h3.to tb, h4.to tb, hbw, h8, ?_⟩
          rw [← HDV.out.1]
          exact ⟨HOK.out.drow.on hbw, HOK.out.dok, HOK.out.dcap, fun h0 k e hU => by have := HOK.out.dlt h0 k e; have := h8 k hU; omega⟩
        have HLN : Hid (SN.length = n5 ∧ LG.length = n6 ∧ p.data.length = dn ∧ p.data.length ≤ 400 ∧ n5 + n6 ≤ H * Z) := by
          have h1 := H0.out.2.1.fit
          rw [H0.out.2.2.2.2.2.2.1, H0.out.2.2.2.2.2.2.2] at h1
          exact ⟨H0.out.2.2.2.2.2.2.1, H0.out.2.2.2.2.2.2.2, HLEN.out.1, HOP.out.1, h1⟩
        have HGN : Hid (1 ≤ gen ∧ gen ≤ 1 + (k : Int)) := by
          have h1 := H0.out.2.1.up.good.gen
          have h2 := H0.out.2.1.up.good.right.1
          rw [H0.out.2.1.gen] at h1 h2
          exact ⟨h2, h1⟩
        clear H0 HBB
        have e5 : wrap64 (cp - (n5 : Int)) = cp - (n5 : Int) := by have := HLN.out; have := HH.out; have := HCP.out; exact wrapR _ (by omega) (by omega)
        have e6 : wrap64 (cp - (n5 : Int) - (n6 : Int)) = cp - (n5 : Int) - (n6 : Int) := by have := HLN.out; have := HH.out; have := HCP.out; exact wrapR _ (by omega) (by omega)
        have e8 : wrap64 (gen + 1) = gen + 1 := by have := HGN.out; have := HKN.out; have := HL.out; exact wrapR _ (by omega) (by omega)
        by_cases hk1 : p.kind = 1
        · have z0 : wb.cell? ⟨G, 0, none⟩ = some (.int .i64 1) := by rw [← hk1]; exact HBK.out.cell 0
          have z2 : wb.cell? ⟨G, 2, none⟩ = some (.slice da dn dc) := HBK.out.cell 2
          rw [hk1] at HBK
          clear hk1
          have HCALL := Lib.hid (append_p HB.out.1 HB.out.2.1 (by have := HKN.out; have := HL.out; have := HH.out; omega) (by have := HKN.out; have := HL.out; omega) HB.out.2.2.2.2.2.2 HLN.out.2.2.2.1 HH.out.2)
          go_wp2_with fail
          refine (HCALL.out).mono ?_
          rintro e wd ⟨U2, s2, x, rfl, hs2, ht2, hway⟩
          have HBK2 : Hid (Blk wd G 52 #[.int .i64 1, .int .i64 p.n, .slice da dn dc, .slice ka kn kc, .int .i64 p.torn, .int .i64 p.cut]) := ht2.blk14 HBK.out HNU.out
          have HD : Hid (SS U2 wd a g s2 ∧ RowQ U2 wd (.slice l5 n5 m5) SN ∧ RowQ U2 wd (.slice l6 n6 c6) LG ∧ RowQ U2 wd (.slice da dn dc) p.data ∧ Below w.heap.size w wd ∧ (∀ k, U2 k → w.heap.size ≤ k)) := by
            have far := To.far HB.out.2.2.2.2.1 HB.out.2.2.2.2.2.1 ht2
            exact ⟨hs2, HB.out.2.2.1.to ht2, HB.out.2.2.2.1.to ht2, HB.out.2.2.2.2.2.2.to ht2, far.1, far.2⟩
          have HWAY := Lib.hid hway
          clear hs2 ht2 hway HCALL z0 z2
          have z2 : wd.cell? ⟨G, 2, none⟩ = some (.slice da dn dc) := HBK2.out.cell 2
          have zlt : G < wd.heap.size := HBK2.out.lt
          rcases HWAY.out with ⟨hgt, rfl, hp2⟩ | ⟨hle, rfl, hp2⟩
          · have HP2 := Lib.hid hp2
            rw [← HCP.out, HLN.out.1, HLN.out.2.1, HLN.out.2.2.1] at hgt
            have e7 : decide ((dn : Int) > cp - (n5 : Int) - (n6 : Int)) = true := decide_eq_true hgt
            have e7b : decide (cp - (n5 : Int) - (n6 : Int) < (dn : Int)) = true := decide_eq_true hgt
            clear hp2 HWAY
            have HIS := Lib.hid (is_p HD.out.1 HP2.out (by have := HKN.out; have := HL.out; have := HH.out; omega) (by have := HKN.out; have := HL.out; omega) HHZ.out HD.out.2.1 HD.out.2.2.1)
            go_wp2_with fail
            try rw [e8]
            refine (HIS.out).mono ?_
            clear HIS
            rintro e we ⟨rfl, hb⟩
            have HE1 := Lib.hid hb
            clear hb
            have HDR := Lib.hid (hdr_p ((HD.out.1).to HE1.out) HP2.out)
            go_wp2_with fail
            refine (HDR.out).mono ?_
            clear HDR
            rintro e wf ⟨x1, x2, x3, rfl, hb⟩
            have HE2 : Hid (Below wd.heap.size wd wf) := HE1.out.trans (hb.mono HE1.out.size)
            clear hb
            have HEND : Hid (LoopP w g a Z H ((H : Int) + 22 + 20 * ((k + 1 : Nat) : Int)) (1 + ((k + 1 : Nat) : Int)) (gen) (.slice l5 n5 m5) (.slice l6 n6 c6) wf) := by
              have tb := To.below (T := U2) HE2.out
              have hkm := HKM.out
              exact ⟨U2, s2, SN, LG, (HD.out.1).to HE2.out, (HP2.out).mono (by omega) (by omega), (HD.out.2.1).to tb, (HD.out.2.2.1).to tb, (HD.out.2.2.2.2.1).trans (HE2.out.mono (HD.out.2.2.2.2.1).size), HD.out.2.2.2.2.2⟩
            have hkn := HKN.out
            have hl9 := HL.out
            go_wp2_with fail
            change (_ : Act → World → Prop) (Act.put _ _ (Value.int .i64 (gen))) _
            go_wp2_with fail
            exact ⟨⟨k + 1, HKN.out, by go_num, (gen), rfl, HEND.out⟩, by simp [intOf]; omega⟩
          · have HP2 := Lib.hid hp2
            rw [← HCP.out, HLN.out.1, HLN.out.2.1, HLN.out.2.2.1] at hle
            have e7 : decide ((dn : Int) > cp - (n5 : Int) - (n6 : Int)) = false := decide_eq_false (by omega)
            have e7b : decide (cp - (n5 : Int) - (n6 : Int) < (dn : Int)) = false := decide_eq_false (by omega)
            clear hp2 HWAY
            have c6l : n6 ≤ c6 := HD.out.2.2.1.cap _ _ _ rfl
            have HNN : Hid (n6 ≤ c6 ∧ (n6 : Int) ≤ (c6 : Int) ∧ (0 : Int) ≤ (n6 : Int)) := ⟨c6l, by omega, by omega⟩
            obtain ⟨l7, hl7⟩ : ∃ x, cutA l6 0 n6 = x := ⟨_, rfl⟩
            have HL7 := Lib.hid hl7
            have HCT : Hid (∀ W : World, (Instr.sliceAt 24 (.slice l6 n6 c6) none (some (.int .i64 (n6 : Int))) (some (.int .i64 (n6 : Int)))).run Try.prog W = .ok (.slice l7 n6 n6) W) := fun W => by
              have key := run_cut W l6 n6 c6 0 n6 n6 n6 none (some (.int .i64 (n6 : Int))) (some (.int .i64 (n6 : Int))) (.inr ⟨rfl, rfl⟩) (.inl ⟨rfl, c6l, rfl⟩) (Nat.zero_le _) (Nat.le_refl _) rfl
              rw [hl7, Nat.sub_zero] at key
              exact key
            have HR6 : Hid (∀ W, Below wd.heap.size wd W → RowB W (.slice l7 n6 n6) LG) := fun W hW => by
              have key := RowB.cutU (HD.out.2.2.1.row.on hW) HLN.out.2.1 (l := 0) (k := n6) (m := n6) (by omega) (by omega) c6l
              have e : cutL LG 0 n6 = LG := by unfold cutL; rw [List.drop_zero]; exact List.take_of_length_le (by have := HLN.out.2.1; omega)
              rw [e, hl7, Nat.sub_zero] at key
              exact key
            have HRD : Hid (∀ W, Below wd.heap.size wd W → RowB W (.slice da dn dc) p.data) := fun W hW => HD.out.2.2.2.1.row.on hW
            have HLE : Hid (LG.length = n6 ∧ n6 + p.data.length ≤ 100000) := ⟨HLN.out.2.1, by have := HLN.out; have := HH.out; omega⟩
            clear c6l hl7
            go_upto_region 26 with fail
            try rw [e6]
            try rw [e5]
            clear z2 zlt e5 e6
            refine wp_region_put2 (by kernel_rfl) (by kernel_rfl) (by kernel_rfl) (fun b' vs w' => (b' 0 = true → vs 0 = .slice l6 n6 c6) ∧ (b' 1 = true → vs 1 = .slice l6 n6 c6) ∧ (b' 2 = true → vs 2 = .int .i64 (n6 : Int)) ∧ (b' 3 = true → vs 3 = .slice l6 n6 c6) ∧ (b' 4 = true → vs 4 = .int .i64 (n6 : Int)) ∧ (b' 5 = true → vs 5 = .slice l7 n6 n6) ∧ (b' 6 = true → vs 6 = .pointer (some ⟨G, 2, none⟩)) ∧ (b' 7 = true → vs 7 = .slice da dn dc) ∧ (b' 2 = true → b' 1 = true) ∧ (b' 4 = true → b' 3 = true) ∧ (b' 5 = true → b' 0 = true ∧ b' 1 = true ∧ b' 3 = true) ∧ (b' 8 = true → b' 0 = true ∧ b' 1 = true ∧ b' 3 = true) ∧ (b' 9 = true → b' 0 = true ∧ b' 1 = true ∧ b' 3 = true) ∧ (b' 9 = false → vs 9 = .slice l6 n6 c6) ∧ (b' 8 = true → Hid (RowB w' (vs 8) (LG ++ p.data) ∧ CapS (vs 8) ∧ ∀ k, (vs 8).ownBlock = some k → (LG ++ p.data).length ≠ 0 → (LG.length ≠ 0 ∧ (Value.slice l7 n6 n6).ownBlock = some k) ∨ wd.heap.size ≤ k)) ∧ (b' 9 = true → Hid (RowB w' (vs 9) (LG ++ p.data) ∧ CapS (vs 9) ∧ ∀ k, (vs 9).ownBlock = some k → (LG ++ p.data).length ≠ 0 → (LG.length ≠ 0 ∧ (Value.slice l7 n6 n6).ownBlock = some k) ∨ wd.heap.size ≤ k)) ∧ (Hid (Below wd.heap.size wd w'))) ?_ ?_ ?_
            · intro vs hvs
              exact ⟨fun h => Bool.noConfusion h, fun h => Bool.noConfusion h, fun h => Bool.noConfusion h, fun h => Bool.noConfusion h, fun h => Bool.noConfusion h, fun h => Bool.noConfusion h, fun h => Bool.noConfusion h, fun h => Bool.noConfusion h, fun h => Bool.noConfusion h, fun h => Bool.noConfusion h, fun h => Bool.noConfusion h, fun h => Bool.noConfusion h, fun h => Bool.noConfusion h, fun _ => hvs 9 _ 14 rfl rfl, fun h => Bool.noConfusion h, fun h => Bool.noConfusion h, below_drewN (Below.refl _ _) 1⟩
            · rintro b' vs w' i op hi hun hall ⟨h0, h1, h2, h3, h4, h5, h6, h7, g2, g4, g5, g8, g9, k9, y8, y9, hB⟩
              have hil : i < 10 := (List.getElem?_eq_some_iff.1 hi).1
              rcases i with _ | _ | _ | _ | _ | _ | _ | _ | _ | _ | i
              · obtain rfl := Option.some.inj hi
                clear hi hil
                have b9 : b' 9 = false := by
                  cases hb9 : b' 9 with
                  | false => rfl
                  | true => exact absurd (((g9 hb9).1).symm.trans hun) (by decide)
                have d9 := k9 b9
                refine wpOp_step rfl (fun K hK => ?_)
                have HKK := Lib.hid hK; clear hK
                simp only [putAll, Act.put, List.setIfInBounds_toArray, List.set_cons_zero, List.set_cons_succ]
                go_simp
                exact HKK.out _ _ ⟨_, by simp only [putAll, Act.put, List.setIfInBounds_toArray, List.set_cons_zero, List.set_cons_succ, d9] <;> rfl, fun _ => rfl, h1, h2, h3, h4, h5, h6, h7, g2, g4, fun h => ⟨rfl, (g5 h).2⟩, fun h => ⟨rfl, (g8 h).2⟩, fun h => ⟨rfl, (g9 h).2⟩, k9, y8, y9, hB⟩
              · obtain rfl := Option.some.inj hi
                clear hi hil
                have b9 : b' 9 = false := by
                  cases hb9 : b' 9 with
                  | false => rfl
                  | true => exact absurd (((g9 hb9).2.1).symm.trans hun) (by decide)
                have d9 := k9 b9
                refine wpOp_step rfl (fun K hK => ?_)
                have HKK := Lib.hid hK; clear hK
                simp only [putAll, Act.put, List.setIfInBounds_toArray, List.set_cons_zero, List.set_cons_succ]
                go_simp
                exact HKK.out _ _ ⟨_, by simp only [putAll, Act.put, List.setIfInBounds_toArray, List.set_cons_zero, List.set_cons_succ, d9] <;> rfl, h0, fun _ => rfl, h2, h3, h4, h5, h6, h7, fun _ => rfl, g4, fun h => ⟨(g5 h).1, rfl, (g5 h).2.2⟩, fun h => ⟨(g8 h).1, rfl, (g8 h).2.2⟩, fun h => ⟨(g9 h).1, rfl, (g9 h).2.2⟩, k9, y8, y9, hB⟩
              · obtain rfl := Option.some.inj hi
                clear hi hil
                have d1 := h1 (hall ⟨1, .data⟩ (by simp) rfl)
                refine wpOp_step rfl (fun K hK => ?_)
                have HKK := Lib.hid hK; clear hK
                simp only [putAll, Act.put, List.setIfInBounds_toArray, List.set_cons_zero, List.set_cons_succ]
                go_simp
                exact HKK.out _ _ ⟨_, by simp only [putAll, Act.put, List.setIfInBounds_toArray, List.set_cons_zero, List.set_cons_succ, d1] <;> rfl, h0, h1, fun _ => rfl, h3, h4, h5, h6, h7, fun _ => hall ⟨1, .data⟩ (by simp) rfl, g4, g5, g8, g9, k9, y8, y9, hB⟩
              · obtain rfl := Option.some.inj hi
                clear hi hil
                have b9 : b' 9 = false := by
                  cases hb9 : b' 9 with
                  | false => rfl
                  | true => exact absurd (((g9 hb9).2.2).symm.trans hun) (by decide)
                have d9 := k9 b9
                refine wpOp_step rfl (fun K hK => ?_)
                have HKK := Lib.hid hK; clear hK
                simp only [putAll, Act.put, List.setIfInBounds_toArray, List.set_cons_zero, List.set_cons_succ]
                go_simp
                exact HKK.out _ _ ⟨_, by simp only [putAll, Act.put, List.setIfInBounds_toArray, List.set_cons_zero, List.set_cons_succ, d9] <;> rfl, h0, h1, h2, fun _ => rfl, h4, h5, h6, h7, g2, fun _ => rfl, fun h => ⟨(g5 h).1, (g5 h).2.1, rfl⟩, fun h => ⟨(g8 h).1, (g8 h).2.1, rfl⟩, fun h => ⟨(g9 h).1, (g9 h).2.1, rfl⟩, k9, y8, y9, hB⟩
              · obtain rfl := Option.some.inj hi
                clear hi hil
                have d3 := h3 (hall ⟨3, .data⟩ (by simp) rfl)
                refine wpOp_step rfl (fun K hK => ?_)
                have HKK := Lib.hid hK; clear hK
                simp only [putAll, Act.put, List.setIfInBounds_toArray, List.set_cons_zero, List.set_cons_succ]
                go_simp
                exact HKK.out _ _ ⟨_, by simp only [putAll, Act.put, List.setIfInBounds_toArray, List.set_cons_zero, List.set_cons_succ, d3] <;> rfl, h0, h1, h2, h3, fun _ => rfl, h5, h6, h7, g2, fun _ => hall ⟨3, .data⟩ (by simp) rfl, g5, g8, g9, k9, y8, y9, hB⟩
              · obtain rfl := Option.some.inj hi
                clear hi hil
                have d0 := h0 (hall ⟨0, .data⟩ (by simp) rfl)
                have d2 := h2 (hall ⟨2, .data⟩ (by simp) rfl)
                have d4 := h4 (hall ⟨4, .data⟩ (by simp) rfl)
                have hct := HCT.out w'
                obtain ⟨s0, s1, s2⟩ := HNN.out
                refine wpOp_step rfl (fun K hK => ?_)
                have HKK := Lib.hid hK; clear hK
                simp only [putAll, Act.put, List.setIfInBounds_toArray, List.set_cons_zero, List.set_cons_succ]
                go_simp
                exact HKK.out _ _ ⟨_, by simp only [putAll, Act.put, List.setIfInBounds_toArray, List.set_cons_zero, List.set_cons_succ, d0, d2, d4] <;> rfl, h0, h1, h2, h3, h4, fun _ => rfl, h6, h7, g2, g4, fun _ => ⟨hall ⟨0, .data⟩ (by simp) rfl, g2 (hall ⟨2, .data⟩ (by simp) rfl), g4 (hall ⟨4, .data⟩ (by simp) rfl)⟩, g8, g9, k9, y8, y9, hB⟩
              · obtain rfl := Option.some.inj hi
                clear hi hil
                refine wpOp_step rfl (fun K hK => ?_)
                have HKK := Lib.hid hK; clear hK
                simp only [putAll, Act.put, List.setIfInBounds_toArray, List.set_cons_zero, List.set_cons_succ]
                go_simp
                exact HKK.out _ _ ⟨_, by simp only [putAll, Act.put, List.setIfInBounds_toArray, List.set_cons_zero, List.set_cons_succ] <;> rfl, h0, h1, h2, h3, h4, h5, fun _ => rfl, h7, g2, g4, g5, g8, g9, k9, y8, y9, hB⟩
              · obtain rfl := Option.some.inj hi
                clear hi hil
                have d6 := h6 (hall ⟨6, .data⟩ (by simp) rfl)
                have z2 : w'.cell? ⟨G, 2, none⟩ = some (.slice da dn dc) := (HBK2.out.grow hB.out).cell 2
                refine wpOp_step rfl (fun K hK => ?_)
                have HKK := Lib.hid hK; clear hK
                simp only [putAll, Act.put, List.setIfInBounds_toArray, List.set_cons_zero, List.set_cons_succ]
                go_simp
                exact HKK.out _ _ ⟨_, by simp only [putAll, Act.put, List.setIfInBounds_toArray, List.set_cons_zero, List.set_cons_succ, d6] <;> rfl, h0, h1, h2, h3, h4, h5, h6, fun _ => rfl, g2, g4, g5, g8, g9, k9, y8, y9, hB⟩
              · obtain rfl := Option.some.inj hi
                clear hi hil
                have d5 := h5 (hall ⟨5, .data⟩ (by simp) rfl)
                have d7 := h7 (hall ⟨7, .data⟩ (by simp) rfl)
                refine wpOp_step rfl (fun K hK => ?_)
                have HKK := Lib.hid hK; clear hK
                simp only [putAll, Act.put, List.setIfInBounds_toArray, List.set_cons_zero, List.set_cons_succ]
                refine (if_pos rfl).mpr (wp_append_clip _ _ rfl l7 n6 LG d5 (HR6.out w' hB.out) HLE.out.1 (.slice da dn dc) p.data d7 (HRD.out w' hB.out) HLE.out.2 ?_)
                intro v2 w2 hr9 hc9 hb9 hf9
                exact HKK.out _ _ ⟨_, by simp only [putAll, Act.put, List.setIfInBounds_toArray, List.set_cons_zero, List.set_cons_succ, d5, d7] <;> rfl, h0, h1, h2, h3, h4, h5, h6, h7, g2, g4, g5, fun _ => g5 (hall ⟨5, .data⟩ (by simp) rfl), g9, k9, fun _ => Lib.hid ⟨hr9, hc9, fun k e h0 => (hf9 k e h0).imp id (fun h => Nat.le_trans hB.out.size h)⟩, fun h => Lib.hid ⟨(y9 h).out.1.on hb9, (y9 h).out.2⟩, hB.out.trans (hb9.mono hB.out.size)⟩
              · obtain rfl := Option.some.inj hi
                clear hi hil
                have o9 := y8 (hall ⟨8, .data⟩ (by simp) rfl)
                refine wpOp_step rfl (fun K hK => ?_)
                have HKK := Lib.hid hK; clear hK
                simp only [putAll, Act.put, List.setIfInBounds_toArray, List.set_cons_zero, List.set_cons_succ]
                go_simp
                exact HKK.out _ _ ⟨_, by simp only [putAll, Act.put, List.setIfInBounds_toArray, List.set_cons_zero, List.set_cons_succ] <;> rfl, h0, h1, h2, h3, h4, h5, h6, h7, g2, g4, g5, g8, fun _ => g8 (hall ⟨8, .data⟩ (by simp) rfl), fun h => Bool.noConfusion (show true = false from h), y8, fun _ => o9, hB⟩
              · omega
            rintro b' vs wq hall ⟨h0, h1, h2, h3, h4, h5, h6, h7, g2, g4, g5, g8, g9, k9, y8, y9, hB⟩
            have d0 := h0 (hall 0 (by simp))
            have d1 := h1 (hall 1 (by simp))
            have d2 := h2 (hall 2 (by simp))
            have d3 := h3 (hall 3 (by simp))
            have d4 := h4 (hall 4 (by simp))
            have d5 := h5 (hall 5 (by simp))
            have d6 := h6 (hall 6 (by simp))
            have d7 := h7 (hall 7 (by simp))
            have HC : Hid (Below wd.heap.size wd wq ∧ RowB wq (vs 9) (LG ++ p.data) ∧ CapS (vs 9) ∧ ∀ k, (vs 9).ownBlock = some k → (LG ++ p.data).length ≠ 0 → (LG.length ≠ 0 ∧ (Value.slice l7 n6 n6).ownBlock = some k) ∨ wd.heap.size ≤ k) := ⟨hB.out, (y9 (hall 9 (by simp))).out⟩
            simp only [putAll, Act.put, List.setIfInBounds_toArray, List.set_cons_zero, List.set_cons_succ, d0, d1, d2, d3, d4, d5, d6, d7]
            clear hall y8 y9 hB g2 g4 g5 g8 g9 k9 h0 d0 h1 d1 h2 d2 h3 d3 h4 d4 h5 d5 h6 d6 h7 d7
            generalize vs 9 = vn at *
            generalize vs 8 = vo at *
            have HROWN : Hid (RowQ U2 wq vn (LG ++ p.data)) := by
              refine ⟨HC.out.2.1, OkB.append HD.out.2.2.1.ok HD.out.2.2.2.1.ok, HC.out.2.2.1, fun h0 k e hU => ?_⟩
              rcases HC.out.2.2.2 k e h0 with ⟨hz, h1⟩ | h1
              · rw [← HL7.out, cutA_block l6 0 n6 n6 n6 n6 c6] at h1
                exact HD.out.2.2.1.off hz k h1 hU
              · have := HD.out.1.lt k hU
                omega
            have HD3 : Hid (SS U2 wq a g s2 ∧ RowQ U2 wq (.slice l5 n5 m5) SN ∧ Below w.heap.size w wq) := ⟨HD.out.1.to HC.out.1, HD.out.2.1.to (To.below HC.out.1), HD.out.2.2.2.2.1.trans (HC.out.1.mono HD.out.2.2.2.2.1.size)⟩
            have HIS := Lib.hid (is_p HD3.out.1 HP2.out (by have := HKN.out; have := HL.out; have := HH.out; omega) (by have := HKN.out; have := HL.out; omega) HHZ.out HD3.out.2.1 HROWN.out)
            go_wp2_with fail
            try rw [e8]
            refine (HIS.out).mono ?_
            clear HIS
            rintro e we ⟨rfl, hb⟩
            have HE1 := Lib.hid hb
            clear hb
            have HDR := Lib.hid (hdr_p ((HD3.out.1).to HE1.out) HP2.out)
            go_wp2_with fail
            refine (HDR.out).mono ?_
            clear HDR
            rintro e wf ⟨x1, x2, x3, rfl, hb⟩
            have HE2 : Hid (Below wq.heap.size wq wf) := HE1.out.trans (hb.mono HE1.out.size)
            clear hb
            have HEND : Hid (LoopP w g a Z H ((H : Int) + 22 + 20 * ((k + 1 : Nat) : Int)) (1 + ((k + 1 : Nat) : Int)) (gen + 1) (.slice l5 n5 m5) (vn) wf) := by
              have tb := To.below (T := U2) HE2.out
              have hkm := HKM.out
              exact ⟨U2, s2, SN, (LG ++ p.data), (HD3.out.1).to HE2.out, (HP2.out).mono (by omega) (by omega), (HD3.out.2.1).to tb, (HROWN.out).to tb, (HD3.out.2.2).trans (HE2.out.mono (HD3.out.2.2).size), HD.out.2.2.2.2.2⟩
            have hkn := HKN.out
            have hl9 := HL.out
            go_wp2_with fail
            change (_ : Act → World → Prop) (Act.put _ _ (Value.int .i64 (gen + 1))) _
            go_wp2_with fail
            exact ⟨⟨k + 1, HKN.out, by go_num, (gen + 1), rfl, HEND.out⟩, by simp [intOf]; omega⟩
        by_cases hk2 : p.kind = 2
        · have z0 : wb.cell? ⟨G, 0, none⟩ = some (.int .i64 2) := by rw [← hk2]; exact HBK.out.cell 0
          have z2 : wb.cell? ⟨G, 2, none⟩ = some (.slice da dn dc) := HBK.out.cell 2
          rw [hk2] at HBK
          clear hk2 hk1
          have HCALL := Lib.hid (comp_p HB.out.1 HB.out.2.1 (by have := HKN.out; have := HL.out; have := HH.out; omega) (by have := HKN.out; have := HL.out; omega) HB.out.2.2.2.2.2.2 HLN.out.2.2.2.1)
          go_wp2_with fail
          refine (HCALL.out).mono ?_
          rintro e wd ⟨U2, s2, x, rfl, hs2, ht2, hway⟩
          have HBK2 : Hid (Blk wd G 52 #[.int .i64 2, .int .i64 p.n, .slice da dn dc, .slice ka kn kc, .int .i64 p.torn, .int .i64 p.cut]) := ht2.blk14 HBK.out HNU.out
          have HD : Hid (SS U2 wd a g s2 ∧ RowQ U2 wd (.slice l5 n5 m5) SN ∧ RowQ U2 wd (.slice l6 n6 c6) LG ∧ RowQ U2 wd (.slice da dn dc) p.data ∧ Below w.heap.size w wd ∧ (∀ k, U2 k → w.heap.size ≤ k)) := by
            have far := To.far HB.out.2.2.2.2.1 HB.out.2.2.2.2.2.1 ht2
            exact ⟨hs2, HB.out.2.2.1.to ht2, HB.out.2.2.2.1.to ht2, HB.out.2.2.2.2.2.2.to ht2, far.1, far.2⟩
          have HWAY := Lib.hid hway
          clear hs2 ht2 hway HCALL z0 z2
          have z2 : wd.cell? ⟨G, 2, none⟩ = some (.slice da dn dc) := HBK2.out.cell 2
          have zlt : G < wd.heap.size := HBK2.out.lt
          rcases HWAY.out with ⟨hgt, rfl, hp2⟩ | ⟨hle, rfl, hp2⟩
          · have HP2 := Lib.hid hp2
            rw [← HCP.out, HLN.out.2.2.1] at hgt
            have e7 : decide ((dn : Int) > cp) = true := decide_eq_true hgt
            have e7b : decide (cp < (dn : Int)) = true := decide_eq_true hgt
            clear hp2 HWAY
            have HIS := Lib.hid (is_p HD.out.1 HP2.out (by have := HKN.out; have := HL.out; have := HH.out; omega) (by have := HKN.out; have := HL.out; omega) HHZ.out HD.out.2.1 HD.out.2.2.1)
            go_wp2_with fail
            try rw [e8]
            refine (HIS.out).mono ?_
            clear HIS
            rintro e we ⟨rfl, hb⟩
            have HE1 := Lib.hid hb
            clear hb
            have HDR := Lib.hid (hdr_p ((HD.out.1).to HE1.out) HP2.out)
            go_wp2_with fail
            refine (HDR.out).mono ?_
            clear HDR
            rintro e wf ⟨x1, x2, x3, rfl, hb⟩
            have HE2 : Hid (Below wd.heap.size wd wf) := HE1.out.trans (hb.mono HE1.out.size)
            clear hb
            have HEND : Hid (LoopP w g a Z H ((H : Int) + 22 + 20 * ((k + 1 : Nat) : Int)) (1 + ((k + 1 : Nat) : Int)) (gen) (.slice l5 n5 m5) (.slice l6 n6 c6) wf) := by
              have tb := To.below (T := U2) HE2.out
              have hkm := HKM.out
              exact ⟨U2, s2, SN, LG, (HD.out.1).to HE2.out, (HP2.out).mono (by omega) (by omega), (HD.out.2.1).to tb, (HD.out.2.2.1).to tb, (HD.out.2.2.2.2.1).trans (HE2.out.mono (HD.out.2.2.2.2.1).size), HD.out.2.2.2.2.2⟩
            have hkn := HKN.out
            have hl9 := HL.out
            go_wp2_with fail
            change (_ : Act → World → Prop) (Act.put _ _ (Value.int .i64 (gen))) _
            go_wp2_with fail
            exact ⟨⟨k + 1, HKN.out, by go_num, (gen), rfl, HEND.out⟩, by simp [intOf]; omega⟩
          · have HP2 := Lib.hid hp2
            rw [← HCP.out, HLN.out.2.2.1] at hle
            have e7 : decide ((dn : Int) > cp) = false := decide_eq_false (by omega)
            have e7b : decide (cp < (dn : Int)) = false := decide_eq_false (by omega)
            clear hp2 HWAY
            have HO : Hid (OwnB (wd.alloc (.cells #[] 5)) wd.heap.size (.slice (some ⟨wd.heap.size, 0, none⟩) 0 0) [] ∧ Below wd.heap.size wd (wd.alloc (.cells #[] 5)) ∧ RowB (wd.alloc (.cells #[] 5)) (.slice da dn dc) p.data) :=
              ⟨OwnB.made wd (Nat.le_refl _) [] 0 #[] rfl rfl (by decide), (Below.refl _ _).alloc (Nat.le_refl _) _, HD.out.2.2.2.1.row.on ((Below.refl _ _).alloc (Nat.le_refl _) _)⟩
            have z2b : (wd.alloc (.cells #[] 5)).cell? ⟨G, 2, none⟩ = some (.slice da dn dc) := (HBK2.out.grow HO.out.2.1).cell 2
            have HLE : Hid (([] : List Int).length + p.data.length ≤ 100000) := by have := HLN.out; unfold Hid; simp; omega
            go_wp2_with (at_builtin; refine wpList_append_row rfl _ _ 24 rfl Try.underlying24 wd.heap.size _ [] rfl HO.out.1 (.slice da dn dc) p.data rfl HO.out.2.2 HLE.out HO.out.2.1.size ?_)
            intro v2 w2 ho2 hg2 _
            have HB2 : Hid (OwnB w2 wd.heap.size v2 p.data ∧ Below wd.heap.size wd w2) := ⟨by simpa using ho2, own_below HO.out.1 hg2 HO.out.2.1 (Nat.le_refl _) HO.out.2.1.size⟩
            clear ho2 hg2 HO HLE z2 z2b zlt
            have HD3 : Hid (SS U2 w2 a g s2 ∧ RowQ U2 w2 v2 p.data ∧ RowQ U2 w2 (.slice none 0 0) [] ∧ Below w.heap.size w w2) := by
              refine ⟨HD.out.1.to HB2.out.2, ⟨HB2.out.1.row, HD.out.2.2.2.1.ok, HB2.out.1.cap, fun h0 k e hU => ?_⟩, RowQ.nil _ _, HD.out.2.2.2.2.1.trans (HB2.out.2.mono HD.out.2.2.2.2.1.size)⟩
              have h1 := (HB2.out.1.lt k e).1
              have h2 := HD.out.1.lt k hU
              omega
            have HIS := Lib.hid (is_p HD3.out.1 HP2.out (by have := HKN.out; have := HL.out; have := HH.out; omega) (by have := HKN.out; have := HL.out; omega) HHZ.out HD3.out.2.1 HD3.out.2.2.1)
            go_wp2_with fail
            try rw [e8]
            refine (HIS.out).mono ?_
            clear HIS
            rintro e we ⟨rfl, hb⟩
            have HE1 := Lib.hid hb
            clear hb
            have HDR := Lib.hid (hdr_p ((HD3.out.1).to HE1.out) HP2.out)
            go_wp2_with fail
            refine (HDR.out).mono ?_
            clear HDR
            rintro e wf ⟨x1, x2, x3, rfl, hb⟩
            have HE2 : Hid (Below w2.heap.size w2 wf) := HE1.out.trans (hb.mono HE1.out.size)
            clear hb
            have HEND : Hid (LoopP w g a Z H ((H : Int) + 22 + 20 * ((k + 1 : Nat) : Int)) (1 + ((k + 1 : Nat) : Int)) (gen + 1) (v2) (.slice none 0 0) wf) := by
              have tb := To.below (T := U2) HE2.out
              have hkm := HKM.out
              exact ⟨U2, s2, p.data, [], (HD3.out.1).to HE2.out, (HP2.out).mono (by omega) (by omega), (HD3.out.2.1).to tb, (HD3.out.2.2.1).to tb, (HD3.out.2.2.2).trans (HE2.out.mono (HD3.out.2.2.2).size), HD.out.2.2.2.2.2⟩
            have hkn := HKN.out
            have hl9 := HL.out
            go_wp2_with fail
            change (_ : Act → World → Prop) (Act.put _ _ (Value.int .i64 (gen + 1))) _
            go_wp2_with fail
            exact ⟨⟨k + 1, HKN.out, by go_num, (gen + 1), rfl, HEND.out⟩, by simp [intOf]; omega⟩
        have e21 : (p.kind == 1) = false := by simp; exact hk1
        have e22 : (p.kind == 2) = false := by simp; exact hk2
        have f1 : decide (p.kind = 1) = false := decide_eq_false hk1
        have f2 : decide (p.kind = 2) = false := decide_eq_false hk2
        have z0 : wb.cell? ⟨G, 0, none⟩ = some (.int .i64 p.kind) := HBK.out.cell 0
        have HIS := Lib.hid (is_p HB.out.1 HB.out.2.1 (by have := HKN.out; have := HL.out; have := HH.out; omega) (by have := HKN.out; have := HL.out; omega) HHZ.out HB.out.2.2.1 HB.out.2.2.2.1)
        go_wp2_with fail
        try rw [e8]
        refine (HIS.out).mono ?_
        clear HIS
        rintro e we ⟨rfl, hb⟩
        have HE1 := Lib.hid hb
        clear hb
        have HDR := Lib.hid (hdr_p ((HB.out.1).to HE1.out) HB.out.2.1)
        go_wp2_with fail
        refine (HDR.out).mono ?_
        clear HDR
        rintro e wf ⟨x1, x2, x3, rfl, hb⟩
        have HE2 : Hid (Below wb.heap.size wb wf) := HE1.out.trans (hb.mono HE1.out.size)
        clear hb
        have HEND : Hid (LoopP w g a Z H ((H : Int) + 22 + 20 * ((k + 1 : Nat) : Int)) (1 + ((k + 1 : Nat) : Int)) (gen) (.slice l5 n5 m5) (.slice l6 n6 c6) wf) := by
          have tb := To.below (T := U) HE2.out
          have hkm := HKM.out
          exact ⟨U, st, SN, LG, (HB.out.1).to HE2.out, (HB.out.2.1).mono (by omega) (by omega), (HB.out.2.2.1).to tb, (HB.out.2.2.2.1).to tb, (HB.out.2.2.2.2.1).trans (HE2.out.mono (HB.out.2.2.2.2.1).size), HB.out.2.2.2.2.2.1⟩
        have hkn := HKN.out
        have hl9 := HL.out
        go_wp2_with fail
        change (_ : Act → World → Prop) (Act.put _ _ (Value.int .i64 (gen))) _
        go_wp2_with fail
        exact ⟨⟨k + 1, HKN.out, by go_num, (gen), rfl, HEND.out⟩, by simp [intOf]; omega⟩
      · have hd : decide ((k : Int) < (n : Int)) = false := by simp; omega
        have HF : Hid (Below w.heap.size w wr) := by
          obtain ⟨_, _, _, _, _, _, _, _, h, _⟩ := hw.out
          exact h
        clear hw
        go_wp2_with fail
        refine (HAW.out _).mono ?_
        rintro e wz ⟨rfl, hb⟩
        have HZ9 : Hid (Below w.heap.size w wz) := HF.out.trans (hb.mono HF.out.size)
        clear hb
        go_wp2_with fail
        go_ret
        exact ⟨rfl, HZ9.out⟩
end Go.Proofs.Ytdcjchakgfpgaaa
