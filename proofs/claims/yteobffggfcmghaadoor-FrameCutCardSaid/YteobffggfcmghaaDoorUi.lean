/- Layer 13: package frame: an Out. -/
import Derived.Test.YteobffggfcmghaaDoorUd
namespace Go.Proofs.YteobffggfcmghaaDoor
open Go.RowKit
/-- An Out in memory: its bytes lie in a row of its own. -/
structure OutA (T : Nat → Prop) (w : World) (g : Nat) (L : List Int) (v : Value) : Prop where
  blk : Blk w g 48 #[v]
  tg : T g
  lt : ∀ k, T k → k < w.heap.size
  row : OwnB w 0 v L
  own : ∀ k, v.ownBlock = some k → T k
def OutAt (T : Nat → Prop) (w : World) (g : Nat) (L : List Int) : Prop := ∃ v, OutA T w g L v
theorem OutA.off {T : Nat → Prop} {w : World} {g : Nat} {L : List Int} {v : Value} (h : OutA T w g L v) : ∀ k, v.ownBlock = some k → k ≠ g := fun k e hk => owns_off h.row h.blk (by decide) (hk ▸ e)
theorem OutA.keep {T : Nat → Prop} {w w' : World} {g : Nat} {L : List Int} {v : Value} (h : OutA T w g L v) (hk : Keep T w w') : OutA T w' g L v :=
  ⟨hk.blk h.blk h.tg, h.tg, fun k ht => Nat.lt_of_lt_of_le (h.lt k ht) hk.size, owns_keep h.row hk h.own, h.own⟩
/-- Bytes are appended to those of an Out, and what comes of it is stored. -/
theorem OutA.put {T : Nat → Prop} {w w0 w1 : World} {g : Nat} {L E : List Int} {v v' : Value} (h : OutA T w g L v) (hb : Below w.heap.size w w0) (hg : w0.grownBy w1 v.ownBlock) (ho : OwnB w1 0 v' (L ++ E)) (hm : Moved w0 v v') : Blk w1 g 48 #[v] ∧ ∃ T', OutA T' (w1.setCell ⟨g, 0, none⟩ v') g (L ++ E) v' ∧ To T w T' (w1.setCell ⟨g, 0, none⟩ v') := by
  have h0 := h.keep (Keep.of_below (S := T) hb)
  have hK := Keep.of_grown hg
  have hblk : Blk w1 g 48 #[v] := hK.blk h0.blk (owns_off h0.row h0.blk (by decide))
  have hs : Keep (fun k => k ≠ g) w1 (w1.setCell ⟨g, 0, none⟩ v') := Keep.setCell _ _ _ (by simp)
  have hvg : ∀ k, v'.ownBlock = some k → k ≠ g := fun k e hk => owns_off ho hblk (by decide) (hk ▸ e)
  have hvl : ∀ k, v'.ownBlock = some k → k < (w1.setCell ⟨g, 0, none⟩ v').heap.size := fun k e => Nat.lt_of_lt_of_le (World.ownsRow.lt ho k e).2 hs.size
  have hsz : w0.heap.size ≤ (w1.setCell ⟨g, 0, none⟩ v').heap.size := Nat.le_trans hK.size hs.size
  refine ⟨hblk, fun k => T k ∨ (w.heap.size ≤ k ∧ k < (w1.setCell ⟨g, 0, none⟩ v').heap.size), ⟨hblk.set 0 v', .inl h.tg, ?_, owns_keep ho hs hvg, ?_⟩, ⟨hs.os.trans (hK.os.trans hb.os), hs.tape.trans (hK.tape.trans hb.tape), hs.output.trans (hK.output.trans hb.output), Nat.le_trans hb.size hsz, fun k hT hlt => ?_⟩, ?_⟩
  · rintro k (hk | hk)
    · exact Nat.lt_of_lt_of_le (h0.lt k hk) hsz
    · exact hk.2
  · intro k e
    rcases hm with q | ⟨k', e', hk'⟩
    · exact .inl (h.own k (by rw [← q]; exact e))
    · rw [e] at e'
      cases e'
      exact .inr ⟨Nat.le_trans hb.size hk', hvl k e⟩
  · have e1 := hb.block k hlt
    have e2 := hK.block k (fun e => hT (h.own k e)) (by have := hb.size; omega)
    have e3 := hs.block k (fun e => hT (e ▸ h.tg)) (by have := hK.size; have := hb.size; omega)
    rw [e3, e2, e1]
  · rintro k (hk | hk)
    · exact .inl hk
    · exact .inr hk.1
theorem To.refl (T : Nat → Prop) (w : World) : To T w T w := ⟨Keep.refl _ _, fun _ h => .inl h⟩
theorem To.join {T T' T'' : Nat → Prop} {w w' u : World} (h : To T w T' w') (k : To T' w' T'' u) : To T w T'' u := by
  refine ⟨⟨k.keep.os.trans h.keep.os, k.keep.tape.trans h.keep.tape, k.keep.output.trans h.keep.output, Nat.le_trans h.keep.size k.keep.size, fun i hi hl => ?_⟩, fun i hi => ?_⟩
  · rw [← h.keep.block i hi hl]
    refine k.keep.block i (fun hT => ?_) (Nat.lt_of_lt_of_le hl h.keep.size)
    rcases h.new i hT with q | q
    · exact hi q
    · omega
  · rcases k.new i hi with q | q
    · exact h.new i q
    · exact .inr (Nat.le_trans h.keep.size q)
theorem digI_step {f : Nat} {z : Int} (h : 127 < z) : digI (f + 1) z = (z % 128 + 128) :: digI f (z / 128) := by rw [digI, if_pos h]
theorem or_128 : ∀ c : Nat, c < 256 → bits .or .u8 (c : Int) 128 = ((c % 128 + 128 : Nat) : Int) := by
  intro c hc
  have h : (List.range 256).all (fun c => decide (bits .or .u8 (c : Int) 128 = ((c % 128 + 128 : Nat) : Int))) = true := by decide +kernel
  have := List.all_eq_true.1 h c (List.mem_range.2 hc)
  simpa using this
theorem pow128_64 (j : Nat) (h : j ≤ 9) {z : Int} (hz : z < 128 ^ (10 - j)) : 9 - j = 0 → z ≤ 127 := fun e => by
  obtain rfl : j = 9 := by omega
  simp at hz
  omega
set_option maxHeartbeats 4000000 in
set_option maxRecDepth 100000 in
theorem outInt_c (T : Nat → Prop) (w : World) (g : Nat) (L : List Int) (n : Int) (h : OutAt T w g L) (hl : L.length ≤ 20000) (hn : rngN n) : Calls Tryd.prog 17 #[ptrG g, .int .i64 n] w fun e w' => ∃ T', e = .returned (ptrG g) ∧ OutAt T' w' g (L ++ intI n) ∧ To T w T' w' := by
  have HZ := Lib.hid (zigzag_c n w hn)
  have hz := zigI_in hn
  have HI : Hid (intI n = digI 9 (zigI n)) := rfl
  obtain ⟨z, hzz⟩ : ∃ z, zigI n = z := ⟨_, rfl⟩
  rw [hzz] at HZ hz HI
  have H0 := Lib.hid h
  have HL := Lib.hid hl
  have HZR := Lib.hid hz
  clear h hn hzz hl hz
  go_enter Tryd.func17, Tryd.ntmps17
  go_wp2_with fail
  refine (HZ.out).mono ?_
  rintro e w' ⟨rfl, rfl⟩
  go_wp2_with fail
  go_loopw [5] (fun s5 wr => ∃ (j : Nat) (y : Int), s5 = .int .u64 y ∧ Hid (j ≤ 9 ∧ 0 ≤ y ∧ y < 128 ^ (10 - j) ∧ y ≤ 18446744073709551615) ∧ Hid (∃ A T1, A ++ digI (9 - j) y = digI 9 z ∧ A.length = j ∧ OutAt T1 wr g (L ++ A) ∧ To T w T1 wr)) (fun s5 _ => (intOf s5).toNat)
  case atStart => exact ⟨0, z, rfl, ⟨by omega, HZR.out.1, by have := HZR.out.2; simp; omega, HZR.out.2⟩, [], T, rfl, rfl, by rw [List.append_nil]; exact H0.out, To.refl _ _⟩
  case round =>
    obtain ⟨j, y, rfl, hj, hw⟩ := hrel
    obtain ⟨A, T1, hA, hAl, ⟨v, ho⟩, hto⟩ := hw.out
    obtain ⟨ao, c, rfl⟩ := ho.row.shape
    have HJ := Lib.hid hj.out
    have HA := Lib.hid (And.intro hA hAl)
    have hllen : (L ++ A).length ≤ 20009 := by rw [List.length_append]; have := HL.out; have := hj.out.1; omega
    have HLL := Lib.hid hllen
    obtain ⟨la, hla⟩ : ∃ la, (L ++ A).length = la := ⟨_, rfl⟩
    rw [hla] at ho
    have HO := Lib.hid (And.intro ho hto)
    have c0 : wr.cell? ⟨g, 0, none⟩ = some (.slice ao la c) := ho.blk.cell 0
    have hlt := ho.blk.lt
    clear hw hA hAl hto hj hllen
    by_cases h128 : 128 ≤ y
    · have d1 : decide (y ≥ 128) = true := by simp; omega
      have hj8 : j ≤ 8 := by
        have := HJ.out
        rcases Nat.lt_or_ge j 9 with q | q
        · omega
        · obtain rfl : j = 9 := by omega
          have := this.2.2.1
          simp at this
          omega
      obtain ⟨x, hx⟩ : ∃ x, y % 128 + 128 = x := ⟨_, rfl⟩
      have hor : bits .or .u8 (y % 256) 128 = x := by
        have key := or_128 (y % 256).toNat (by omega)
        rw [show (((y % 256).toNat : Nat) : Int) = y % 256 by omega] at key
        rw [key]
        omega
      have HST : Hid (digI (9 - j) y = x :: digI (9 - (j + 1)) (y / 128)) := by
        rw [Hid, show 9 - j = (9 - (j + 1)) + 1 by omega, digI_step (by omega), hx]
      have HJN : Hid (j + 1 ≤ 9 ∧ 0 ≤ y / 128 ∧ y / 128 < 128 ^ (10 - (j + 1)) ∧ y / 128 ≤ 18446744073709551615) := by
        have h4 := HJ.out.2.2.1
        rw [show 10 - j = (10 - (j + 1)) + 1 by omega, Int.pow_succ] at h4
        have h5 := HJ.out
        exact ⟨by omega, by omega, by omega, by omega⟩
      have HDEC : Hid ((y / 128).toNat < y.toNat) := by unfold Hid; omega
      have HAX : Hid ((A ++ [x]) ++ digI (9 - (j + 1)) (y / 128) = digI 9 z ∧ (A ++ [x]).length = j + 1) := ⟨by rw [← HA.out.1, HST.out, List.append_assoc]; rfl, by rw [List.length_append, HA.out.2]; rfl⟩
      clear hj8 hx h128 HST
      have HX3 : Hid (∀ j u, (bytV [x])[j]? = some u → (wr.alloc (.cells #[.int .u8 x] 5)).cell? ((⟨wr.heap.size, 0, none⟩ : Addr).add j) = some u) := news_byt wr [x] 5 #[.int .u8 x] rfl
      have HA3 : Hid (OwnB (wr.alloc (.cells #[.int .u8 x] 5)) 0 (.slice ao la c) (L ++ A) ∧ Below wr.heap.size wr (wr.alloc (.cells #[.int .u8 x] 5))) := ⟨ho.row.grow ((Below.refl _ _).alloc (Nat.le_refl _) _), (Below.refl _ _).alloc (Nat.le_refl _) _⟩
      have HL3 : Hid ((L ++ A).length + 1 ≤ 100000) := Lib.hid (by have := HLL.out; omega)
      clear ho hla
      go_wp2_with (at_builtin; refine wpList_append_byts rfl _ _ 22 rfl Tryd.underlying22 0 _ (L ++ A) rfl HA3.out.1 ⟨wr.heap.size, 0, none⟩ 1 1 [x] rfl rfl HX3.out HL3.out (Nat.zero_le _) ?_)
      intro v4 w4 ho4 hg4 hm4
      obtain ⟨a4, k4, rfl⟩ := ho4.shape
      obtain ⟨l4, hl4⟩ : ∃ l, (L ++ (A ++ [x])).length = l := ⟨_, rfl⟩
      rw [hl4] at ho4 hm4 ⊢
      clear hl4
      have HP := Lib.hid (HO.out.1.put HA3.out.2 hg4 (by rw [List.append_assoc]; exact ho4) hm4)
      have c4 : w4.cell? ⟨g, 0, none⟩ = some (.slice ao la c) := HP.out.1.cell 0
      have f4 := HP.out.1.free 0
      have hlt4 := HP.out.1.lt
      clear ho4 hg4 hm4 HX3 HA3
      go_wp2_with fail
      obtain ⟨_, T2, hp1, hp2⟩ := HP.out
      exact ⟨⟨j + 1, y / 128, rfl, HJN.out, A ++ [x], T2, HAX.out.1, HAX.out.2, ⟨_, by rw [← List.append_assoc]; exact hp1⟩, HO.out.2.join hp2⟩, by simpa [intOf] using HDEC.out⟩
    · have d1 : decide (y ≥ 128) = false := by simp; omega
      have hyr := HJ.out.2.1
      have h256 : y % 256 = y := by omega
      have HAX : Hid (A ++ [y] = digI 9 z) := by
        rw [Hid, ← HA.out.1, digI_small (by omega)]
      clear h128
      have HX3 : Hid (∀ j u, (bytV [y])[j]? = some u → (wr.alloc (.cells #[.int .u8 y] 5)).cell? ((⟨wr.heap.size, 0, none⟩ : Addr).add j) = some u) := news_byt wr [y] 5 #[.int .u8 y] rfl
      have HA3 : Hid (OwnB (wr.alloc (.cells #[.int .u8 y] 5)) 0 (.slice ao la c) (L ++ A) ∧ Below wr.heap.size wr (wr.alloc (.cells #[.int .u8 y] 5))) := ⟨ho.row.grow ((Below.refl _ _).alloc (Nat.le_refl _) _), (Below.refl _ _).alloc (Nat.le_refl _) _⟩
      have HL3 : Hid ((L ++ A).length + 1 ≤ 100000) := Lib.hid (by have := HLL.out; omega)
      clear ho hla
      go_wp2_with (at_builtin; refine wpList_append_byts rfl _ _ 22 rfl Tryd.underlying22 0 _ (L ++ A) rfl HA3.out.1 ⟨wr.heap.size, 0, none⟩ 1 1 [y] rfl rfl HX3.out HL3.out (Nat.zero_le _) ?_)
      intro v4 w4 ho4 hg4 hm4
      obtain ⟨a4, k4, rfl⟩ := ho4.shape
      obtain ⟨l4, hl4⟩ : ∃ l, (L ++ (A ++ [y])).length = l := ⟨_, rfl⟩
      rw [hl4] at ho4 hm4 ⊢
      clear hl4
      have HP := Lib.hid (HO.out.1.put HA3.out.2 hg4 (by rw [List.append_assoc]; exact ho4) hm4)
      have c4 : w4.cell? ⟨g, 0, none⟩ = some (.slice ao la c) := HP.out.1.cell 0
      have f4 := HP.out.1.free 0
      have hlt4 := HP.out.1.lt
      clear ho4 hg4 hm4 HX3 HA3
      go_wp2_with fail
      go_ret
      obtain ⟨_, T2, hp1, hp2⟩ := HP.out
      exact ⟨T2, rfl, ⟨_, by rw [HI.out, ← HAX.out, ← List.append_assoc]; exact hp1⟩, HO.out.2.join hp2⟩
theorem RowB.keepT {T : Nat → Prop} {w w' : World} {v : Value} {L : List Int} (h : RowB w v L) (hk : Keep T w w') (ht : L.length ≠ 0 → ∀ k, v.ownBlock = some k → T k) : RowB w' v L := by
  rcases h with h | h | ⟨b, o, c, h1, h2, h3⟩
  · exact .inl h
  · exact .inr (.inl h)
  · by_cases h0 : L.length = 0
    · have e : L = [] := List.eq_nil_of_length_eq_zero h0
      subst e
      exact .inr (.inl ⟨_, c, h1, rfl⟩)
    · refine .inr (.inr ⟨b, o, c, h1, Nat.lt_of_lt_of_le h2 hk.size, fun i x hx => ?_⟩)
      rw [← h3 i x hx]
      have hT : T b := ht h0 b (by rw [h1]; rfl)
      simp only [World.cell?, hk.block b hT h2]
set_option maxHeartbeats 4000000 in
set_option maxRecDepth 100000 in
theorem outText_c (T : Nat → Prop) (w : World) (g : Nat) (L : List Int) (v : Value) (E : List Int) (h : OutAt T w g L) (hl : L.length ≤ 20000) (row : RowB w v E) (hE : E.length ≤ 1000) (hv : E.length ≠ 0 → ∀ k, v.ownBlock = some k → ¬ T k) : Calls Tryd.prog 19 #[ptrG g, v] w fun e w' => ∃ T', e = .returned (ptrG g) ∧ OutAt T' w' g (L ++ (intI (E.length : Int) ++ E)) ∧ To T w T' w' := by
  obtain ⟨ao, c, rfl⟩ := row.shape
  obtain ⟨n, hn⟩ : ∃ n, E.length = n := ⟨_, rfl⟩
  rw [hn] at row hE hv ⊢
  have HI := Lib.hid (outInt_c T w g L (n : Int) h hl ⟨by omega, by omega⟩)
  have HN := Lib.hid hn
  have HR := Lib.hid row
  have HV := Lib.hid hv
  have HL : Hid (L.length ≤ 20000 ∧ n ≤ 1000) := ⟨hl, hE⟩
  clear row h hl hE hv hn
  go_enter Tryd.func19, Tryd.ntmps19
  go_wp2_with fail
  refine (HI.out).mono ?_
  rintro e w1 ⟨T1, rfl, ⟨v1, ho⟩, hto⟩
  obtain ⟨bo, d, rfl⟩ := ho.row.shape
  have hlen : (L ++ intI (n : Int)).length ≤ 20010 := by rw [List.length_append]; have := HL.out.1; have := (intI_len (n : Int)).2; omega
  obtain ⟨la, hla⟩ : ∃ la, (L ++ intI (n : Int)).length = la := ⟨_, rfl⟩
  have HLA := Lib.hid hla
  rw [hla] at ho
  have HO := Lib.hid (And.intro ho hto)
  have c0 : w1.cell? ⟨g, 0, none⟩ = some (.slice bo la d) := ho.blk.cell 0
  have hlt := ho.blk.lt
  have HR1 : Hid (RowB w1 (.slice ao n c) E) := HR.out.keepT hto.keep fun h0 k e hT => HV.out (by rw [HN.out] at h0; exact h0) k e hT
  have HOW : Hid (OwnB w1 0 (.slice bo la d) (L ++ intI (n : Int))) := ho.row
  have HL3 : Hid ((L ++ intI (n : Int)).length + E.length ≤ 100000) := Lib.hid (by rw [HN.out]; have := HL.out.2; omega)
  clear hlen hla ho hto HI
  go_wp2_with (at_builtin; refine wpList_append_row rfl _ _ 22 rfl Tryd.underlying22 0 _ (L ++ intI (n : Int)) rfl HOW.out (.slice ao n c) E rfl HR1.out HL3.out (Nat.zero_le _) ?_)
  intro v4 w4 ho4 hg4 hm4
  obtain ⟨a4, k4, rfl⟩ := ho4.shape
  obtain ⟨l4, hl4⟩ : ∃ l, (L ++ (intI (n : Int) ++ E)).length = l := ⟨_, rfl⟩
  rw [hl4] at ho4 hm4 ⊢
  clear hl4
  have HP := Lib.hid (HO.out.1.put (Below.refl _ _) hg4 (by rw [List.append_assoc]; exact ho4) hm4)
  have c4 : w4.cell? ⟨g, 0, none⟩ = some (.slice bo la d) := HP.out.1.cell 0
  have f4 := HP.out.1.free 0
  have hlt4 := HP.out.1.lt
  clear ho4 hg4 hm4
  go_wp2_with fail
  go_ret
  obtain ⟨_, T2, hp1, hp2⟩ := HP.out
  exact ⟨T2, rfl, ⟨_, by rw [← List.append_assoc]; exact hp1⟩, HO.out.2.join hp2⟩
set_option maxHeartbeats 4000000 in
set_option maxRecDepth 100000 in
theorem outBytes_c (T : Nat → Prop) (w : World) (g : Nat) (L : List Int) (h : OutAt T w g L) (hl : L.length ≤ 20000) : Calls Tryd.prog 20 #[ptrG g] w fun e w' => ∃ v, e = .returned v ∧ OwnB w' w.heap.size v L ∧ Below w.heap.size w w' ∧ ∀ k, v.ownBlock = some k → ¬ T k := by
  obtain ⟨v, h⟩ := h
  have c0 : w.cell? ⟨g, 0, none⟩ = some v := h.blk.cell 0
  have hlt := h.blk.lt
  have HC := Lib.hid (clone_c v L w h.row.row (by omega))
  have HT := Lib.hid h.lt
  obtain ⟨ao, c, rfl⟩ := h.row.shape
  obtain ⟨n, hn⟩ : ∃ n, L.length = n := ⟨_, rfl⟩
  rw [hn] at c0 HC
  clear h hl
  go_enter Tryd.func20, Tryd.ntmps20
  go_wp2_with fail
  refine (HC.out).mono ?_
  rintro e w1 ⟨u, rfl, ho, hb⟩
  have HF : Hid (OwnB w1 w.heap.size u L ∧ Below w.heap.size w w1 ∧ ∀ k, u.ownBlock = some k → ¬ T k) := ⟨ho, hb, fun k e ht => by
    have h1 := HT.out k ht
    have h2 := (ho.lt k e).1
    omega⟩
  clear ho hb HC
  go_wp2_with fail
  go_ret
  exact ⟨_, rfl, HF.out⟩
/-- A zero Out. -/
theorem outAt_new (w : World) : OutAt (fun k => k = w.heap.size) (w.alloc (.cells #[.slice none 0 0] 48)) w.heap.size [] :=
  ⟨.slice none 0 0, Blk.new _ _ _, rfl, fun k e => by subst e; simp, World.ownsRow_nil _ _ _ _, fun k e => by cases e⟩
theorem outOk : OutOk Rd OutAt where
  keep := fun ⟨v, h⟩ hk => ⟨v, h.keep hk⟩
  lt := fun ⟨_, h⟩ hk => h.lt _ hk
  int := fun T w g L n _ h hl hn => outInt_c T w g L n h hl hn
  text := fun T w g L v E _ h hl row _ _ hE hv => outText_c T w g L v E h hl row hE hv
  bytes := fun T w g L _ h hl => outBytes_c T w g L h hl
end Go.Proofs.YteobffggfcmghaaDoor
