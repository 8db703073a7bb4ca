/- Layer 13: numbers in bytes, the highest first; the document's frame. -/
import Derived.Test.YteobffggfcmghaaDoorSa
namespace Go.Proofs.YteobffggfcmghaaDoor
open Go.RowKit
/-- An append of whatever row of bytes: nil, empty, or not. -/
theorem wpList_append_row {w : World} {ops : Array Oper} {rest : List Oper} {o : Oper} {a : Act} {Q : Exit → Act → World → Prop} (hgd : o.guard = none) (s x : Operand) (t : TypeId)
    (ho : o.op = .call { callee := .builtin .append, args := #[s, x], argTypes := #[t, t] }) (ht : Tryd.prog.underlying t = some (.slice 5))
    (base : Nat) (v : Value) (E : List Int) (hs : a.eval s = v) (hown : OwnB w base v E) (u : Value) (Y : List Int) (hxe : a.eval x = u) (hY : RowB w u Y) (hl : E.length + Y.length ≤ 100000) (hbase : base ≤ w.heap.size)
    (h : ∀ v' w', OwnB w' base v' (E ++ Y) → w.grownBy w' v.ownBlock → Moved w v v' → wpList Tryd.prog ops Q rest (a.put o.dst v') w') : wpList Tryd.prog ops Q (o :: rest) a w := by
  rcases hY.news with ⟨rfl, rfl⟩ | ⟨ad, c, rfl, hx⟩
  · obtain ⟨i, hi, hz0, hz1, hz2⟩ := info_parts infoB
    refine wpList_append_own_none hgd s x t ho base 5 i 1 ht hi v E.length (bytV E) hs hown hxe ?_
    exact h v w (by rw [List.append_nil]; exact hown) ⟨rfl, rfl, rfl, Nat.le_refl _, fun _ _ _ => rfl⟩ (.inl rfl)
  · exact wpList_append_byts hgd s x t ho ht base v E hs hown ad _ c Y hxe rfl hx hl hbase h
/-- A number in so many bytes, the highest first. -/
def lowI (n : Int) : Nat → List Int
  | 0 => []
  | i + 1 => n / 256 ^ i % 256 :: lowI n i
theorem lowI_len (n : Int) : ∀ i, (lowI n i).length = i
  | 0 => rfl
  | i + 1 => by rw [lowI, List.length_cons, lowI_len n i]
theorem lowI_ok (n : Int) : ∀ i, OkB (lowI n i)
  | 0 => fun x hx => by cases hx
  | i + 1 => fun x hx => by
    rw [lowI] at hx
    rcases List.mem_cons.1 hx with rfl | hx
    · omega
    · exact lowI_ok n i x hx
theorem div_step (n : Int) (i : Nat) : n / 256 ^ (i + 1) = n / 256 ^ i / 256 := by
  rw [Int.pow_succ, Int.ediv_ediv_of_nonneg (Int.pow_nonneg (by omega))] <;> omega
set_option maxHeartbeats 4000000 in
set_option maxRecDepth 100000 in
theorem high_c (n : Int) (sz : Nat) (w : World) (h0 : 0 ≤ n) (h1 : n ≤ 9223372036854775807) (hsz : sz ≤ 100) : Calls Tryd.prog 31 #[.int .i64 n, .int .i64 (sz : Int)] w fun e w' => ∃ v, e = .returned v ∧ OwnB w' w.heap.size v (lowI n sz) ∧ Below w.heap.size w w' := by
  have HSZ := Lib.hid hsz
  have HN : Hid (0 ≤ n ∧ n ≤ 9223372036854775807) := ⟨h0, h1⟩
  clear h0 h1 hsz
  go_enter Tryd.func31, Tryd.ntmps31
  go_wp2_with fail
  go_loopw [0, 5, 6] (fun s0 s5 s6 wr => ∃ k : Nat, k ≤ sz ∧ s6 = .int .i64 (k : Int) ∧ s0 = .int .i64 (n / 256 ^ k) ∧ Hid (Below w.heap.size w wr ∧ OwnB wr w.heap.size s5 (lowI n k))) (fun _ _ s6 _ => sz - (intOf s6).toNat)
  case atStart => exact ⟨0, by omega, rfl, by simp, Below.refl _ _, World.ownsRow_nil _ _ _ _⟩
  case round =>
    obtain ⟨k, hk, rfl, rfl, hw⟩ := hrel
    by_cases hlt : k < sz
    · have hd : decide ((k : Int) < (sz : Int)) = true := by simp; omega
      have hki : (k : Int) < (sz : Int) := by omega
      obtain ⟨q, hq⟩ : ∃ q, n / 256 ^ k = q := ⟨_, rfl⟩
      have hq0 : 0 ≤ q := by rw [← hq]; exact Int.ediv_nonneg HN.out.1 (Int.pow_nonneg (by omega))
      have hq1 : q ≤ 9223372036854775807 := by rw [← hq]; exact Int.le_trans (Int.ediv_le_self _ HN.out.1) HN.out.2
      have HST : Hid (lowI n (k + 1) = q % 256 :: lowI n k) := by unfold Hid; rw [lowI, hq]
      have HDV : Hid (n / 256 ^ (k + 1) = q / 256) := by unfold Hid; rw [div_step, hq]
      rw [hq]
      have r1 : q.tmod 256 = q % 256 := Int.tmod_eq_emod_of_nonneg hq0
      have r2 : q.tdiv 256 = q / 256 := Int.tdiv_eq_ediv_of_nonneg hq0
      have r3 : wrap64 (q % 256) = q % 256 := wrapR _ (by omega) (by omega)
      have r4 : wrap64 (q / 256) = q / 256 := wrapR _ (by omega) (by omega)
      obtain ⟨x, hx⟩ : ∃ x, q % 256 = x := ⟨_, rfl⟩
      have r5 : IntKind.u8.wrap x = x := by unfold IntKind.wrap; simp [IntKind.bits, IntKind.signed]; omega
      have HX := Lib.hid hx
      have HROW : Hid (RowB (wr.alloc (.cells #[.int .u8 x] 5)) u5 (lowI n k)) := (hw.out.2.grow ((Below.refl _ _).alloc (Nat.le_refl _) _)).row
      have HO : Hid (OwnB (wr.alloc (.cells #[.int .u8 x] 5)) w.heap.size (.slice (some ⟨wr.heap.size, 0, none⟩) 1 1) [x]) := OwnB.made wr hw.out.1.size [x] 1 _ rfl rfl (by decide)
      have HSZ2 : Hid (w.heap.size ≤ (wr.alloc (.cells #[.int .u8 x] 5)).heap.size) := Lib.hid (by have := hw.out.1.size; simp; omega)
      have HLE : Hid ([x].length + (lowI n k).length ≤ 100000) := Lib.hid (by rw [lowI_len]; have := HSZ.out; simp; omega)
      rw [hx] at r1 r3
      clear hq hx hq0 hq1
      go_wp2_with (at_builtin; refine wpList_append_row rfl _ _ 22 rfl Tryd.underlying22 w.heap.size _ [x] rfl HO.out u5 (lowI n k) rfl HROW.out HLE.out HSZ2.out ?_)
      intro v' w2 h2 hg _
      have HS : Hid (Below w.heap.size w w2 ∧ OwnB w2 w.heap.size v' (lowI n (k + 1))) := ⟨own_below HO.out hg (hw.out.1.alloc hw.out.1.size _) (Nat.le_refl _) HSZ2.out, by rw [HST.out, HX.out]; exact h2⟩
      clear h2 hg
      have hs9 := HSZ.out
      go_wp2_with fail
      exact ⟨⟨k + 1, by omega, by go_num, by rw [HDV.out, r4], HS.out⟩, by simp [intOf]; omega⟩
    · have hd : decide ((k : Int) < (sz : Int)) = false := by simp; omega
      have hkn : k = sz := by omega
      subst hkn
      go_wp2_with fail
      go_ret
      exact ⟨_, rfl, hw.out.2, hw.out.1⟩
/-- A frame's bytes ahead of its sum; the frame. -/
def headI (seq kind : Int) (E : List Int) : List Int := lowI (E.length : Int) 4 ++ lowI seq 8 ++ [kind] ++ E
def frameI (seq kind : Int) (E : List Int) : List Int := headI seq kind E ++ lowI (sumI (headI seq kind E)) 4
theorem headI_len (seq kind : Int) (E : List Int) : (headI seq kind E).length = 13 + E.length := by unfold headI; simp [lowI_len]; omega
theorem frameI_len (seq kind : Int) (E : List Int) : (frameI seq kind E).length = 17 + E.length := by unfold frameI; rw [List.length_append, headI_len, lowI_len]; omega
theorem OkB.append {A B : List Int} (h : OkB A) (k : OkB B) : OkB (A ++ B) := fun x hx => (List.mem_append.1 hx).elim (h x) (k x)
theorem headI_ok {seq kind : Int} {E : List Int} (hk : 0 ≤ kind ∧ kind ≤ 255) (hE : OkB E) : OkB (headI seq kind E) :=
  (((lowI_ok _ 4).append (lowI_ok _ 8)).append (fun x hx => by rw [List.mem_singleton] at hx; subst hx; exact hk)).append hE
theorem frameI_ok {seq kind : Int} {E : List Int} (hk : 0 ≤ kind ∧ kind ≤ 255) (hE : OkB E) : OkB (frameI seq kind E) := (headI_ok hk hE).append (lowI_ok _ 4)
theorem sumI_in (E : List Int) : 0 ≤ sumI E ∧ sumI E ≤ 4294967295 := by
  unfold sumI
  have := (~~~ crcB E).isLt
  omega
set_option maxHeartbeats 4000000 in
set_option maxRecDepth 100000 in
theorem refFrame_c (seq kind : Int) (s : Value) (E : List Int) (w : World) (row : RowB w s E) (hE : OkB E) (hl : E.length ≤ 60000) (hs : 0 ≤ seq ∧ seq ≤ 9223372036854775807) (hk : 0 ≤ kind ∧ kind ≤ 255) : Calls Tryd.prog 14 #[.int .i64 seq, .int .i64 kind, s] w fun e w' => ∃ v, e = .returned v ∧ OwnB w' w.heap.size v (frameI seq kind E) ∧ Below w.heap.size w w' := by
  obtain ⟨ao, ac, rfl⟩ := row.shape
  obtain ⟨n, hn⟩ : ∃ n, E.length = n := ⟨_, rfl⟩
  have HN := Lib.hid hn
  have HR := Lib.hid row
  have HE := Lib.hid hE
  have HL : Hid (n ≤ 60000) := by rw [← hn]; exact hl
  have HS := Lib.hid hs
  have HK := Lib.hid hk
  have r5 : IntKind.u8.wrap kind = kind := by unfold IntKind.wrap; simp [IntKind.bits, IntKind.signed]; omega
  have H4 := Lib.hid (high_c (n : Int) 4 w (by omega) (by omega) (by omega))
  rw [hn] at HR ⊢
  obtain ⟨h1, hh1⟩ : ∃ l, lowI (n : Int) 4 = l := ⟨_, rfl⟩
  obtain ⟨h2, hh2⟩ : ∃ l, h1 ++ lowI seq 8 = l := ⟨_, rfl⟩
  obtain ⟨h3, hh3⟩ : ∃ l, h2 ++ [kind] = l := ⟨_, rfl⟩
  obtain ⟨h4, hh4⟩ : ∃ l, h3 ++ E = l := ⟨_, rfl⟩
  have HH : Hid (headI seq kind E = h4) := by unfold headI Hid; rw [hn, hh1, hh2, hh3, hh4]
  have HF : Hid (frameI seq kind E = h4 ++ lowI (sumI h4) 4) := by unfold frameI Hid; rw [HH.out]
  have HLN : Hid (h1.length = 4 ∧ h2.length = 12 ∧ h3.length = 13 ∧ h4.length = 13 + n) := by
    rw [← hh4, ← hh3, ← hh2, ← hh1]
    simp [lowI_len, hn]
    unfold Hid
    omega
  have HO4 : Hid (OkB h4) := by rw [Hid, ← HH.out]; exact headI_ok hk hE
  rw [hh1] at H4
  have HH2 := Lib.hid hh2
  have HH3 := Lib.hid hh3
  have HH4 := Lib.hid hh4
  rw [HF.out]
  clear row hE hl hn hs hk hh1 hh2 hh3 hh4
  go_enter Tryd.func14, Tryd.ntmps14
  go_wp2_with fail
  refine (H4.out).mono ?_
  rintro e w1 ⟨v1, rfl, ho1, hb1⟩
  have H1 : Hid (OwnB w1 w.heap.size v1 h1 ∧ Below w.heap.size w w1) := ⟨ho1, hb1⟩
  clear ho1 hb1 H4
  go_wp2_with fail
  refine (high_c seq 8 w1 HS.out.1 HS.out.2 (by omega)).mono ?_
  rintro e w2 ⟨v2, rfl, ho2, hb2⟩
  have H2 : Hid (OwnB w2 w.heap.size v1 h1 ∧ Below w.heap.size w w2 ∧ RowB w2 v2 (lowI seq 8)) := ⟨H1.out.1.grow hb2, H1.out.2.trans (hb2.mono H1.out.2.size), ho2.row⟩
  clear ho2 hb2 H1
  go_wp2_with (at_builtin; refine wpList_append_row rfl _ _ 22 rfl Tryd.underlying22 w.heap.size _ h1 rfl H2.out.1 v2 (lowI seq 8) rfl H2.out.2.2 (by rw [HLN.out.1, lowI_len]; omega) H2.out.2.1.size ?_)
  intro v3 w3 ho3 hg3 _
  have H3 : Hid (OwnB w3 w.heap.size v3 h2 ∧ Below w.heap.size w w3) := ⟨by rw [← HH2.out]; exact ho3, own_below H2.out.1 hg3 H2.out.2.1 (Nat.le_refl _) H2.out.2.1.size⟩
  clear ho3 hg3 H2
  have HX3 : Hid (∀ j u, (bytV [kind])[j]? = some u → (w3.alloc (.cells #[.int .u8 kind] 5)).cell? ((⟨w3.heap.size, 0, none⟩ : Addr).add j) = some u) := news_byt w3 [kind] 5 #[.int .u8 kind] rfl
  have HA3 : Hid (OwnB (w3.alloc (.cells #[.int .u8 kind] 5)) w.heap.size v3 h2 ∧ Below w.heap.size w (w3.alloc (.cells #[.int .u8 kind] 5))) := ⟨H3.out.1.grow ((Below.refl _ _).alloc (Nat.le_refl _) _), H3.out.2.alloc H3.out.2.size _⟩
  have HL3 : Hid (h2.length + 1 ≤ 100000) := Lib.hid (by rw [HLN.out.2.1]; omega)
  go_wp2_with (at_builtin; refine wpList_append_byts rfl _ _ 22 rfl Tryd.underlying22 w.heap.size _ h2 rfl HA3.out.1 ⟨w3.heap.size, 0, none⟩ 1 1 [kind] rfl rfl HX3.out HL3.out HA3.out.2.size ?_)
  intro v4 w4 ho4 hg4 _
  have H4 : Hid (OwnB w4 w.heap.size v4 h3 ∧ Below w.heap.size w w4) := ⟨by rw [← HH3.out]; exact ho4, own_below HA3.out.1 hg4 HA3.out.2 (Nat.le_refl _) HA3.out.2.size⟩
  clear ho4 hg4 H3 HX3 HA3
  have HR4 : Hid (RowB w4 (.slice ao n ac) E) := HR.out.on H4.out.2
  have HL4 : Hid (h3.length + E.length ≤ 100000) := Lib.hid (by rw [HLN.out.2.2.1, HN.out]; have := HL.out; omega)
  go_wp2_with (at_builtin; refine wpList_append_row rfl _ _ 22 rfl Tryd.underlying22 w.heap.size _ h3 rfl H4.out.1 (.slice ao n ac) E rfl HR4.out HL4.out H4.out.2.size ?_)
  intro v5 w5 ho5 hg5 _
  have H5 : Hid (OwnB w5 w.heap.size v5 h4 ∧ Below w.heap.size w w5) := ⟨by rw [← HH4.out]; exact ho5, own_below H4.out.1 hg5 H4.out.2 (Nat.le_refl _) H4.out.2.size⟩
  clear ho5 hg5 H4 HR4
  go_wp2_with fail
  refine (refSum_c v5 h4 w5 H5.out.1.row HO4.out (by rw [HLN.out.2.2.2]; have := HL.out; omega)).mono ?_
  rintro e w6 ⟨rfl, rfl⟩
  have hsi := sumI_in h4
  obtain ⟨q, hq⟩ : ∃ q, sumI h4 = q := ⟨_, rfl⟩
  rw [hq] at hsi
  have HQ := Lib.hid hq
  have r6 : wrap64 q = q := wrapR _ (by omega) (by omega)
  have r7 : IntKind.i64.wrap q = q := (wrap_is _).trans r6
  have HSI := Lib.hid hsi
  rw [hq]
  clear hq hsi
  go_wp2_with fail
  refine (high_c q 4 w5 HSI.out.1 (by have := HSI.out.2; omega) (by omega)).mono ?_
  rintro e w7 ⟨v7, rfl, ho7, hb7⟩
  have H7 : Hid (OwnB w7 w.heap.size v5 h4 ∧ Below w.heap.size w w7 ∧ RowB w7 v7 (lowI q 4)) := ⟨H5.out.1.grow hb7, H5.out.2.trans (hb7.mono H5.out.2.size), ho7.row⟩
  clear ho7 hb7 H5
  have HL7 : Hid (h4.length + (lowI q 4).length ≤ 100000) := Lib.hid (by rw [HLN.out.2.2.2, lowI_len]; have := HL.out; omega)
  go_wp2_with (at_builtin; refine wpList_append_row rfl _ _ 22 rfl Tryd.underlying22 w.heap.size _ h4 rfl H7.out.1 v7 (lowI q 4) rfl H7.out.2.2 HL7.out H7.out.2.1.size ?_)
  intro v8 w8 ho8 hg8 _
  have H8 : Hid (OwnB w8 w.heap.size v8 (h4 ++ lowI (sumI h4) 4) ∧ Below w.heap.size w w8) := ⟨by rw [HQ.out]; exact ho8, own_below H7.out.1 hg8 H7.out.2.1 (Nat.le_refl _) H7.out.2.1.size⟩
  clear ho8 hg8 H7
  go_wp2_with fail
  go_ret
  exact ⟨_, rfl, H8.out⟩
end Go.Proofs.YteobffggfcmghaaDoor
