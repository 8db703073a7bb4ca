/- Layer 15: package pathtext: a letter. -/
import Derived.Test.YtbnbglngpgikfaaGreatDoorQl
namespace Go.Proofs.YtbnbglngpgikfaaGreatDoor
open Go.RowKit Go.Shelf
attribute [local go_sem] Oper.semAt_some
theorem letR_form (N g : Nat) (v : Value) (w : World) (st : Rs) (c : UInt8) (e : Ending) (w' : World) {r : Except Int Rs} (hr : letR st c = r) (h : PutQ N g v w r e w') : PutQ N g v w (letR st c) e w' := by rw [hr]; exact h
set_option maxHeartbeats 4000000 in
set_option maxRecDepth 100000 in
theorem letter_none (N g : Nat) (st : Rs) (v : Value) (c : UInt8) (w : World) (hr : Ev N w) (h : RdAt N g st v w) (hc : letB c = true) (hl : st.l.length ≤ 4096) (hk : kindL c = 0) :
    Calls Tryz.prog 48 #[ptrR g, .int .u8 (c.toNat : Int)] w (PutQ N g v w (letR st c)) := by
  obtain ⟨i1, i2⟩ := idx_at c hc
  rw [hk] at i1
  have HIX := Lib.hid (Tryz.strings_IndexByte ⟨#[77, 76, 81, 67, 90]⟩ (bits .andNot .u8 (c.toNat : Int) 32))
  rw [show (⟨#[77, 76, 81, 67, 90]⟩ : ByteArray).data.toList = [77, 76, 81, 67, 90] from rfl, i1] at HIX
  obtain ⟨m, hm⟩ : ∃ m, smallL c = m := ⟨_, rfl⟩
  rw [hm] at i2
  have H := Lib.hid h
  have HR := Lib.hid hr
  have HK := Lib.hid hk
  have HM := Lib.hid hm
  have HL := Lib.hid hl
  have HFU := Lib.hid (full_c N g st v w h)
  obtain ⟨n, hn⟩ : ∃ n, c.toNat = n := ⟨_, rfl⟩
  rw [hn] at HIX i2 ⊢
  have cd := h.cd
  have co := h.co
  have f9 := h.blk.free 9
  have c9 := h.cs
  have l0 := h.blk.lt
  clear h hr hc hl hk hm hn i1
  go_enter Tryz.func48, Tryz.ntmps48
  go_wp2_with fail
  refine (HIX.out _).mono ?_
  rintro e w1 ⟨rfl, hw1⟩
  have hw2 := hw1.symm
  subst hw2
  clear hw1
  go_wp2_with fail
  go_ret
  refine letR_form _ _ _ _ _ _ _ _ (r := .error 20) ?_ ⟨rfl, Keep.refl _ _⟩
  unfold letR
  rw [if_pos (.inl HK.out)]
set_option maxHeartbeats 4000000 in
set_option maxRecDepth 100000 in
theorem letter_due1 (N g : Nat) (st : Rs) (v : Value) (c : UInt8) (w : World) (hr : Ev N w) (h : RdAt N g st v w) (hc : letB c = true) (hl : st.l.length ≤ 4096) (hk : kindL c = 1) (hd : 0 < st.due) :
    Calls Tryz.prog 48 #[ptrR g, .int .u8 (c.toNat : Int)] w (PutQ N g v w (letR st c)) := by
  obtain ⟨i1, i2⟩ := idx_at c hc
  rw [hk] at i1
  have HIX := Lib.hid (Tryz.strings_IndexByte ⟨#[77, 76, 81, 67, 90]⟩ (bits .andNot .u8 (c.toNat : Int) 32))
  rw [show (⟨#[77, 76, 81, 67, 90]⟩ : ByteArray).data.toList = [77, 76, 81, 67, 90] from rfl, i1] at HIX
  obtain ⟨m, hm⟩ : ∃ m, smallL c = m := ⟨_, rfl⟩
  rw [hm] at i2
  have H := Lib.hid h
  have HR := Lib.hid hr
  have HK := Lib.hid hk
  have HM := Lib.hid hm
  have HL := Lib.hid hl
  have HFU := Lib.hid (full_c N g st v w h)
  obtain ⟨n, hn⟩ : ∃ n, c.toNat = n := ⟨_, rfl⟩
  rw [hn] at HIX i2 ⊢
  have cd := h.cd
  have co := h.co
  have f9 := h.blk.free 9
  have c9 := h.cs
  have l0 := h.blk.lt
  obtain ⟨d, hdd⟩ : ∃ d, st.due = d := ⟨_, rfl⟩
  have HPOS := Lib.hid hd
  rw [hdd] at hd cd
  clear hdd
  clear h hr hc hl hk hm hn i1
  go_enter Tryz.func48, Tryz.ntmps48
  go_wp2_with fail
  refine (HIX.out _).mono ?_
  rintro e w1 ⟨rfl, hw1⟩
  have hw2 := hw1.symm
  subst hw2
  clear hw1
  go_wp2_with fail
  go_ret
  refine letR_form _ _ _ _ _ _ _ _ (r := .error 20) ?_ ⟨rfl, Keep.refl _ _⟩
  unfold letR
  rw [if_pos (.inr HPOS.out)]
set_option maxHeartbeats 4000000 in
set_option maxRecDepth 100000 in
theorem letter_due2 (N g : Nat) (st : Rs) (v : Value) (c : UInt8) (w : World) (hr : Ev N w) (h : RdAt N g st v w) (hc : letB c = true) (hl : st.l.length ≤ 4096) (hk : kindL c = 2) (hd : 0 < st.due) :
    Calls Tryz.prog 48 #[ptrR g, .int .u8 (c.toNat : Int)] w (PutQ N g v w (letR st c)) := by
  obtain ⟨i1, i2⟩ := idx_at c hc
  rw [hk] at i1
  have HIX := Lib.hid (Tryz.strings_IndexByte ⟨#[77, 76, 81, 67, 90]⟩ (bits .andNot .u8 (c.toNat : Int) 32))
  rw [show (⟨#[77, 76, 81, 67, 90]⟩ : ByteArray).data.toList = [77, 76, 81, 67, 90] from rfl, i1] at HIX
  obtain ⟨m, hm⟩ : ∃ m, smallL c = m := ⟨_, rfl⟩
  rw [hm] at i2
  have H := Lib.hid h
  have HR := Lib.hid hr
  have HK := Lib.hid hk
  have HM := Lib.hid hm
  have HL := Lib.hid hl
  have HFU := Lib.hid (full_c N g st v w h)
  obtain ⟨n, hn⟩ : ∃ n, c.toNat = n := ⟨_, rfl⟩
  rw [hn] at HIX i2 ⊢
  have cd := h.cd
  have co := h.co
  have f9 := h.blk.free 9
  have c9 := h.cs
  have l0 := h.blk.lt
  obtain ⟨d, hdd⟩ : ∃ d, st.due = d := ⟨_, rfl⟩
  have HPOS := Lib.hid hd
  rw [hdd] at hd cd
  clear hdd
  clear h hr hc hl hk hm hn i1
  go_enter Tryz.func48, Tryz.ntmps48
  go_wp2_with fail
  refine (HIX.out _).mono ?_
  rintro e w1 ⟨rfl, hw1⟩
  have hw2 := hw1.symm
  subst hw2
  clear hw1
  go_wp2_with fail
  go_ret
  refine letR_form _ _ _ _ _ _ _ _ (r := .error 20) ?_ ⟨rfl, Keep.refl _ _⟩
  unfold letR
  rw [if_pos (.inr HPOS.out)]
set_option maxHeartbeats 4000000 in
set_option maxRecDepth 100000 in
theorem letter_due3 (N g : Nat) (st : Rs) (v : Value) (c : UInt8) (w : World) (hr : Ev N w) (h : RdAt N g st v w) (hc : letB c = true) (hl : st.l.length ≤ 4096) (hk : kindL c = 3) (hd : 0 < st.due) :
    Calls Tryz.prog 48 #[ptrR g, .int .u8 (c.toNat : Int)] w (PutQ N g v w (letR st c)) := by
  obtain ⟨i1, i2⟩ := idx_at c hc
  rw [hk] at i1
  have HIX := Lib.hid (Tryz.strings_IndexByte ⟨#[77, 76, 81, 67, 90]⟩ (bits .andNot .u8 (c.toNat : Int) 32))
  rw [show (⟨#[77, 76, 81, 67, 90]⟩ : ByteArray).data.toList = [77, 76, 81, 67, 90] from rfl, i1] at HIX
  obtain ⟨m, hm⟩ : ∃ m, smallL c = m := ⟨_, rfl⟩
  rw [hm] at i2
  have H := Lib.hid h
  have HR := Lib.hid hr
  have HK := Lib.hid hk
  have HM := Lib.hid hm
  have HL := Lib.hid hl
  have HFU := Lib.hid (full_c N g st v w h)
  obtain ⟨n, hn⟩ : ∃ n, c.toNat = n := ⟨_, rfl⟩
  rw [hn] at HIX i2 ⊢
  have cd := h.cd
  have co := h.co
  have f9 := h.blk.free 9
  have c9 := h.cs
  have l0 := h.blk.lt
  obtain ⟨d, hdd⟩ : ∃ d, st.due = d := ⟨_, rfl⟩
  have HPOS := Lib.hid hd
  rw [hdd] at hd cd
  clear hdd
  clear h hr hc hl hk hm hn i1
  go_enter Tryz.func48, Tryz.ntmps48
  go_wp2_with fail
  refine (HIX.out _).mono ?_
  rintro e w1 ⟨rfl, hw1⟩
  have hw2 := hw1.symm
  subst hw2
  clear hw1
  go_wp2_with fail
  go_ret
  refine letR_form _ _ _ _ _ _ _ _ (r := .error 20) ?_ ⟨rfl, Keep.refl _ _⟩
  unfold letR
  rw [if_pos (.inr HPOS.out)]
set_option maxHeartbeats 4000000 in
set_option maxRecDepth 100000 in
theorem letter_due4 (N g : Nat) (st : Rs) (v : Value) (c : UInt8) (w : World) (hr : Ev N w) (h : RdAt N g st v w) (hc : letB c = true) (hl : st.l.length ≤ 4096) (hk : kindL c = 4) (hd : 0 < st.due) :
    Calls Tryz.prog 48 #[ptrR g, .int .u8 (c.toNat : Int)] w (PutQ N g v w (letR st c)) := by
  obtain ⟨i1, i2⟩ := idx_at c hc
  rw [hk] at i1
  have HIX := Lib.hid (Tryz.strings_IndexByte ⟨#[77, 76, 81, 67, 90]⟩ (bits .andNot .u8 (c.toNat : Int) 32))
  rw [show (⟨#[77, 76, 81, 67, 90]⟩ : ByteArray).data.toList = [77, 76, 81, 67, 90] from rfl, i1] at HIX
  obtain ⟨m, hm⟩ : ∃ m, smallL c = m := ⟨_, rfl⟩
  rw [hm] at i2
  have H := Lib.hid h
  have HR := Lib.hid hr
  have HK := Lib.hid hk
  have HM := Lib.hid hm
  have HL := Lib.hid hl
  have HFU := Lib.hid (full_c N g st v w h)
  obtain ⟨n, hn⟩ : ∃ n, c.toNat = n := ⟨_, rfl⟩
  rw [hn] at HIX i2 ⊢
  have cd := h.cd
  have co := h.co
  have f9 := h.blk.free 9
  have c9 := h.cs
  have l0 := h.blk.lt
  obtain ⟨d, hdd⟩ : ∃ d, st.due = d := ⟨_, rfl⟩
  have HPOS := Lib.hid hd
  rw [hdd] at hd cd
  clear hdd
  clear h hr hc hl hk hm hn i1
  go_enter Tryz.func48, Tryz.ntmps48
  go_wp2_with fail
  refine (HIX.out _).mono ?_
  rintro e w1 ⟨rfl, hw1⟩
  have hw2 := hw1.symm
  subst hw2
  clear hw1
  go_wp2_with fail
  go_ret
  refine letR_form _ _ _ _ _ _ _ _ (r := .error 20) ?_ ⟨rfl, Keep.refl _ _⟩
  unfold letR
  rw [if_pos (.inr HPOS.out)]
set_option maxHeartbeats 4000000 in
set_option maxRecDepth 100000 in
theorem letter_due5 (N g : Nat) (st : Rs) (v : Value) (c : UInt8) (w : World) (hr : Ev N w) (h : RdAt N g st v w) (hc : letB c = true) (hl : st.l.length ≤ 4096) (hk : kindL c = 5) (hd : 0 < st.due) :
    Calls Tryz.prog 48 #[ptrR g, .int .u8 (c.toNat : Int)] w (PutQ N g v w (letR st c)) := by
  obtain ⟨i1, i2⟩ := idx_at c hc
  rw [hk] at i1
  have HIX := Lib.hid (Tryz.strings_IndexByte ⟨#[77, 76, 81, 67, 90]⟩ (bits .andNot .u8 (c.toNat : Int) 32))
  rw [show (⟨#[77, 76, 81, 67, 90]⟩ : ByteArray).data.toList = [77, 76, 81, 67, 90] from rfl, i1] at HIX
  obtain ⟨m, hm⟩ : ∃ m, smallL c = m := ⟨_, rfl⟩
  rw [hm] at i2
  have H := Lib.hid h
  have HR := Lib.hid hr
  have HK := Lib.hid hk
  have HM := Lib.hid hm
  have HL := Lib.hid hl
  have HFU := Lib.hid (full_c N g st v w h)
  obtain ⟨n, hn⟩ : ∃ n, c.toNat = n := ⟨_, rfl⟩
  rw [hn] at HIX i2 ⊢
  have cd := h.cd
  have co := h.co
  have f9 := h.blk.free 9
  have c9 := h.cs
  have l0 := h.blk.lt
  obtain ⟨d, hdd⟩ : ∃ d, st.due = d := ⟨_, rfl⟩
  have HPOS := Lib.hid hd
  rw [hdd] at hd cd
  clear hdd
  clear h hr hc hl hk hm hn i1
  go_enter Tryz.func48, Tryz.ntmps48
  go_wp2_with fail
  refine (HIX.out _).mono ?_
  rintro e w1 ⟨rfl, hw1⟩
  have hw2 := hw1.symm
  subst hw2
  clear hw1
  go_wp2_with fail
  go_ret
  refine letR_form _ _ _ _ _ _ _ _ (r := .error 20) ?_ ⟨rfl, Keep.refl _ _⟩
  unfold letR
  rw [if_pos (.inr HPOS.out)]
set_option maxHeartbeats 4000000 in
set_option maxRecDepth 100000 in
theorem letter_full (N g : Nat) (st : Rs) (v : Value) (c : UInt8) (w : World) (hr : Ev N w) (h : RdAt N g st v w) (hc : letB c = true) (hl : st.l.length ≤ 4096) (hk : kindL c = 5) (hd : st.due = 0) (hf : st.l.length = 4096) :
    Calls Tryz.prog 48 #[ptrR g, .int .u8 (c.toNat : Int)] w (PutQ N g v w (letR st c)) := by
  obtain ⟨i1, i2⟩ := idx_at c hc
  rw [hk] at i1
  have HIX := Lib.hid (Tryz.strings_IndexByte ⟨#[77, 76, 81, 67, 90]⟩ (bits .andNot .u8 (c.toNat : Int) 32))
  rw [show (⟨#[77, 76, 81, 67, 90]⟩ : ByteArray).data.toList = [77, 76, 81, 67, 90] from rfl, i1] at HIX
  obtain ⟨m, hm⟩ : ∃ m, smallL c = m := ⟨_, rfl⟩
  rw [hm] at i2
  have H := Lib.hid h
  have HR := Lib.hid hr
  have HK := Lib.hid hk
  have HM := Lib.hid hm
  have HL := Lib.hid hl
  have HFU := Lib.hid (full_c N g st v w h)
  obtain ⟨n, hn⟩ : ∃ n, c.toNat = n := ⟨_, rfl⟩
  rw [hn] at HIX i2 ⊢
  have cd := h.cd
  have co := h.co
  have f9 := h.blk.free 9
  have c9 := h.cs
  have l0 := h.blk.lt
  rw [hd] at cd
  have HD := Lib.hid hd
  clear hd
  have HF := Lib.hid hf
  rw [hf] at HFU
  clear hf
  clear h hr hc hl hk hm hn i1
  go_enter Tryz.func48, Tryz.ntmps48
  go_wp2_with fail
  refine (HIX.out _).mono ?_
  rintro e w1 ⟨rfl, hw1⟩
  have hw2 := hw1.symm
  subst hw2
  clear hw1
  go_wp2_with fail
  refine (HFU.out).mono ?_
  rintro e w2 ⟨rfl, rfl⟩
  go_wp2_with fail
  go_ret
  refine letR_form _ _ _ _ _ _ _ _ (r := .error 36) ?_ ⟨rfl, Keep.refl _ _⟩
  have hz : ¬ (kindL c = 0 ∨ 0 < st.due) := by rw [HK.out, HD.out]; decide
  unfold letR
  rw [if_neg hz, if_pos ⟨HK.out, HF.out⟩]
set_option maxHeartbeats 4000000 in
set_option maxRecDepth 100000 in
theorem letter_shutno (N g : Nat) (st : Rs) (v : Value) (c : UInt8) (w : World) (hr : Ev N w) (h : RdAt N g st v w) (hc : letB c = true) (hl : st.l.length ≤ 4096) (hk : kindL c = 5) (hd : st.due = 0) (hf : st.l.length ≠ 4096) (ho : st.opn = false) :
    Calls Tryz.prog 48 #[ptrR g, .int .u8 (c.toNat : Int)] w (PutQ N g v w (letR st c)) := by
  obtain ⟨i1, i2⟩ := idx_at c hc
  rw [hk] at i1
  have HIX := Lib.hid (Tryz.strings_IndexByte ⟨#[77, 76, 81, 67, 90]⟩ (bits .andNot .u8 (c.toNat : Int) 32))
  rw [show (⟨#[77, 76, 81, 67, 90]⟩ : ByteArray).data.toList = [77, 76, 81, 67, 90] from rfl, i1] at HIX
  obtain ⟨m, hm⟩ : ∃ m, smallL c = m := ⟨_, rfl⟩
  rw [hm] at i2
  have H := Lib.hid h
  have HR := Lib.hid hr
  have HK := Lib.hid hk
  have HM := Lib.hid hm
  have HL := Lib.hid hl
  have HFU := Lib.hid (full_c N g st v w h)
  obtain ⟨n, hn⟩ : ∃ n, c.toNat = n := ⟨_, rfl⟩
  rw [hn] at HIX i2 ⊢
  have cd := h.cd
  have co := h.co
  have f9 := h.blk.free 9
  have c9 := h.cs
  have l0 := h.blk.lt
  rw [hd] at cd
  have HD := Lib.hid hd
  clear hd
  have HF := Lib.hid hf
  have HO := Lib.hid ho
  rw [ho] at co
  rw [decide_eq_false hf] at HFU
  clear hf ho
  clear h hr hc hl hk hm hn i1
  go_enter Tryz.func48, Tryz.ntmps48
  go_wp2_with fail
  refine (HIX.out _).mono ?_
  rintro e w1 ⟨rfl, hw1⟩
  have hw2 := hw1.symm
  subst hw2
  clear hw1
  go_wp2_with fail
  refine (HFU.out).mono ?_
  rintro e w2 ⟨rfl, rfl⟩
  go_wp2_with fail
  go_ret
  refine letR_form _ _ _ _ _ _ _ _ (r := .error 33) ?_ ⟨rfl, Keep.refl _ _⟩
  have hz : ¬ (kindL c = 0 ∨ 0 < st.due) := by rw [HK.out, HD.out]; decide
  unfold letR
  rw [if_neg hz, if_neg (fun h => HF.out h.2), if_pos ⟨by rw [HK.out]; decide, HO.out⟩]
set_option maxHeartbeats 4000000 in
set_option maxRecDepth 100000 in
theorem letter_shut (N g : Nat) (st : Rs) (v : Value) (c : UInt8) (w : World) (hr : Ev N w) (h : RdAt N g st v w) (hc : letB c = true) (hl : st.l.length ≤ 4096) (hk : kindL c = 5) (hd : st.due = 0) (hf : st.l.length ≠ 4096) (ho : st.opn = true) :
    Calls Tryz.prog 48 #[ptrR g, .int .u8 (c.toNat : Int)] w (PutQ N g v w (letR st c)) := by
  obtain ⟨i1, i2⟩ := idx_at c hc
  rw [hk] at i1
  have HIX := Lib.hid (Tryz.strings_IndexByte ⟨#[77, 76, 81, 67, 90]⟩ (bits .andNot .u8 (c.toNat : Int) 32))
  rw [show (⟨#[77, 76, 81, 67, 90]⟩ : ByteArray).data.toList = [77, 76, 81, 67, 90] from rfl, i1] at HIX
  obtain ⟨m, hm⟩ : ∃ m, smallL c = m := ⟨_, rfl⟩
  rw [hm] at i2
  have H := Lib.hid h
  have HR := Lib.hid hr
  have HK := Lib.hid hk
  have HM := Lib.hid hm
  have HL := Lib.hid hl
  have HFU := Lib.hid (full_c N g st v w h)
  obtain ⟨n, hn⟩ : ∃ n, c.toNat = n := ⟨_, rfl⟩
  rw [hn] at HIX i2 ⊢
  have cd := h.cd
  have co := h.co
  have f9 := h.blk.free 9
  have c9 := h.cs
  have l0 := h.blk.lt
  rw [hd] at cd
  have HD := Lib.hid hd
  clear hd
  have HF := Lib.hid hf
  have HO := Lib.hid ho
  rw [ho] at co
  rw [decide_eq_false hf] at HFU
  clear hf ho
  clear h hr hc hl hk hm hn i1
  go_enter Tryz.func48, Tryz.ntmps48
  go_wp2_with fail
  refine (HIX.out _).mono ?_
  rintro e w1 ⟨rfl, hw1⟩
  have hw2 := hw1.symm
  subst hw2
  clear hw1
  go_wp2_with fail
  refine (HFU.out).mono ?_
  rintro e w2 ⟨rfl, rfl⟩
  go_wp2_with fail
  have HS1 : Hid (RdAt N g { st with small := m } v (w.setCell ⟨g, 9, none⟩ (.bool m)) ∧ Keep (fun j => j ≠ g ∧ v.ownBlock ≠ some j) w (w.setCell ⟨g, 9, none⟩ (.bool m))) := by
    have ks : Keep (fun j => j ≠ g) w (w.setCell ⟨g, 9, none⟩ (.bool m)) := Keep.setCell _ _ _ (by simp)
    exact ⟨H.out.turn ks (by simpa [cellsR] using H.out.blk.set 9 (.bool m)) rfl, ks.mono fun j hj => hj.1⟩
  clear cd co f9 c9 l0 i2
  generalize w.setCell ⟨g, 9, none⟩ (.bool m) = w2 at HS1 ⊢
  refine (start_c N g { st with small := m } v 5 w2 (HR.out.on (keep_own H.out HS1.out.2)) HS1.out.1).mono ?_
  rintro e w3 ⟨⟨u, rfl⟩, hst, hks⟩
  have HS3 : Hid (RdAt N g (startR { st with small := m } 5) v w3 ∧ Keep (fun j => j ≠ g ∧ v.ownBlock ≠ some j) w w3) := ⟨hst, HS1.out.2.trans (hks.mono fun j hj => hj.1)⟩
  have cd : w3.cell? ⟨g, 8, none⟩ = some (.int .i64 0) := hst.cd
  clear hst hks
  go_wp2_with fail
  refine (finish_c N g _ v w3 (HR.out.on (keep_own H.out HS3.out.2)) HS3.out.1 (by have := HL.out; show st.l.length + 1 ≤ 100000; omega) rfl).mono ?_
  rintro e w4 ⟨⟨u, rfl⟩, hq⟩
  have HQ := Lib.hid hq
  clear hq cd
  go_wp2_with fail
  go_ret
  refine letR_form _ _ _ _ _ _ _ _ (r := .ok (finR (startR { st with small := m } 5))) ?_ ⟨rfl, StepQ.pre HS3.out.2 HQ.out⟩
  have hz : ¬ (kindL c = 0 ∨ 0 < st.due) := by rw [HK.out, HD.out]; decide
  unfold letR
  rw [if_neg hz, if_neg (fun h => HF.out h.2), if_neg (fun h => by have := HO.out; rw [h.2] at this; cases this), if_pos HK.out, HM.out]
set_option maxHeartbeats 4000000 in
set_option maxRecDepth 100000 in
theorem letter_move (N g : Nat) (st : Rs) (v : Value) (c : UInt8) (w : World) (hr : Ev N w) (h : RdAt N g st v w) (hc : letB c = true) (hl : st.l.length ≤ 4096) (hk : kindL c = 1) (hd : st.due = 0) :
    Calls Tryz.prog 48 #[ptrR g, .int .u8 (c.toNat : Int)] w (PutQ N g v w (letR st c)) := by
  obtain ⟨i1, i2⟩ := idx_at c hc
  rw [hk] at i1
  have HIX := Lib.hid (Tryz.strings_IndexByte ⟨#[77, 76, 81, 67, 90]⟩ (bits .andNot .u8 (c.toNat : Int) 32))
  rw [show (⟨#[77, 76, 81, 67, 90]⟩ : ByteArray).data.toList = [77, 76, 81, 67, 90] from rfl, i1] at HIX
  obtain ⟨m, hm⟩ : ∃ m, smallL c = m := ⟨_, rfl⟩
  rw [hm] at i2
  have H := Lib.hid h
  have HR := Lib.hid hr
  have HK := Lib.hid hk
  have HM := Lib.hid hm
  have HL := Lib.hid hl
  have HFU := Lib.hid (full_c N g st v w h)
  obtain ⟨n, hn⟩ : ∃ n, c.toNat = n := ⟨_, rfl⟩
  rw [hn] at HIX i2 ⊢
  have cd := h.cd
  have co := h.co
  have f9 := h.blk.free 9
  have c9 := h.cs
  have l0 := h.blk.lt
  rw [hd] at cd
  have HD := Lib.hid hd
  clear hd
  clear h hr hc hl hk hm hn i1
  go_enter Tryz.func48, Tryz.ntmps48
  go_wp2_with fail
  refine (HIX.out _).mono ?_
  rintro e w1 ⟨rfl, hw1⟩
  have hw2 := hw1.symm
  subst hw2
  clear hw1
  go_wp2_with fail
  have HS1 : Hid (RdAt N g { st with small := m } v (w.setCell ⟨g, 9, none⟩ (.bool m)) ∧ Keep (fun j => j ≠ g ∧ v.ownBlock ≠ some j) w (w.setCell ⟨g, 9, none⟩ (.bool m))) := by
    have ks : Keep (fun j => j ≠ g) w (w.setCell ⟨g, 9, none⟩ (.bool m)) := Keep.setCell _ _ _ (by simp)
    exact ⟨H.out.turn ks (by simpa [cellsR] using H.out.blk.set 9 (.bool m)) rfl, ks.mono fun j hj => hj.1⟩
  clear cd co f9 c9 l0 i2
  generalize w.setCell ⟨g, 9, none⟩ (.bool m) = w2 at HS1 ⊢
  refine (start_c N g { st with small := m } v 1 w2 (HR.out.on (keep_own H.out HS1.out.2)) HS1.out.1).mono ?_
  rintro e w3 ⟨⟨u, rfl⟩, hst, hks⟩
  have HS3 : Hid (RdAt N g (startR { st with small := m } 1) v w3 ∧ Keep (fun j => j ≠ g ∧ v.ownBlock ≠ some j) w w3) := ⟨hst, HS1.out.2.trans (hks.mono fun j hj => hj.1)⟩
  have cd : w3.cell? ⟨g, 8, none⟩ = some (.int .i64 2) := hst.cd
  clear hst hks
  go_wp2_with fail
  go_ret
  refine letR_form _ _ _ _ _ _ _ _ (r := .ok (startR { st with small := m } 1)) ?_ ⟨rfl, v, HS3.out.1, HS3.out.2, Moved.refl _ _⟩
  have hz : ¬ (kindL c = 0 ∨ 0 < st.due) := by rw [HK.out, HD.out]; decide
  unfold letR
  rw [if_neg hz, if_neg (fun h => by have := HK.out; rw [h.1] at this; cases this), if_neg (fun h => h.1 HK.out), if_neg (by rw [HK.out]; decide), HM.out, HK.out]
set_option maxHeartbeats 4000000 in
set_option maxRecDepth 100000 in
theorem letter_lineno (N g : Nat) (st : Rs) (v : Value) (c : UInt8) (w : World) (hr : Ev N w) (h : RdAt N g st v w) (hc : letB c = true) (hl : st.l.length ≤ 4096) (hk : kindL c = 2) (hd : st.due = 0) (ho : st.opn = false) :
    Calls Tryz.prog 48 #[ptrR g, .int .u8 (c.toNat : Int)] w (PutQ N g v w (letR st c)) := by
  obtain ⟨i1, i2⟩ := idx_at c hc
  rw [hk] at i1
  have HIX := Lib.hid (Tryz.strings_IndexByte ⟨#[77, 76, 81, 67, 90]⟩ (bits .andNot .u8 (c.toNat : Int) 32))
  rw [show (⟨#[77, 76, 81, 67, 90]⟩ : ByteArray).data.toList = [77, 76, 81, 67, 90] from rfl, i1] at HIX
  obtain ⟨m, hm⟩ : ∃ m, smallL c = m := ⟨_, rfl⟩
  rw [hm] at i2
  have H := Lib.hid h
  have HR := Lib.hid hr
  have HK := Lib.hid hk
  have HM := Lib.hid hm
  have HL := Lib.hid hl
  have HFU := Lib.hid (full_c N g st v w h)
  obtain ⟨n, hn⟩ : ∃ n, c.toNat = n := ⟨_, rfl⟩
  rw [hn] at HIX i2 ⊢
  have cd := h.cd
  have co := h.co
  have f9 := h.blk.free 9
  have c9 := h.cs
  have l0 := h.blk.lt
  rw [hd] at cd
  have HD := Lib.hid hd
  clear hd
  have HO := Lib.hid ho
  rw [ho] at co
  clear ho
  clear h hr hc hl hk hm hn i1
  go_enter Tryz.func48, Tryz.ntmps48
  go_wp2_with fail
  refine (HIX.out _).mono ?_
  rintro e w1 ⟨rfl, hw1⟩
  have hw2 := hw1.symm
  subst hw2
  clear hw1
  go_wp2_with fail
  go_ret
  refine letR_form _ _ _ _ _ _ _ _ (r := .error 33) ?_ ⟨rfl, Keep.refl _ _⟩
  have hz : ¬ (kindL c = 0 ∨ 0 < st.due) := by rw [HK.out, HD.out]; decide
  unfold letR
  rw [if_neg hz, if_neg (fun h => by have := HK.out; rw [h.1] at this; cases this), if_pos ⟨by rw [HK.out]; decide, HO.out⟩]
set_option maxHeartbeats 4000000 in
set_option maxRecDepth 100000 in
theorem letter_line (N g : Nat) (st : Rs) (v : Value) (c : UInt8) (w : World) (hr : Ev N w) (h : RdAt N g st v w) (hc : letB c = true) (hl : st.l.length ≤ 4096) (hk : kindL c = 2) (hd : st.due = 0) (ho : st.opn = true) :
    Calls Tryz.prog 48 #[ptrR g, .int .u8 (c.toNat : Int)] w (PutQ N g v w (letR st c)) := by
  obtain ⟨i1, i2⟩ := idx_at c hc
  rw [hk] at i1
  have HIX := Lib.hid (Tryz.strings_IndexByte ⟨#[77, 76, 81, 67, 90]⟩ (bits .andNot .u8 (c.toNat : Int) 32))
  rw [show (⟨#[77, 76, 81, 67, 90]⟩ : ByteArray).data.toList = [77, 76, 81, 67, 90] from rfl, i1] at HIX
  obtain ⟨m, hm⟩ : ∃ m, smallL c = m := ⟨_, rfl⟩
  rw [hm] at i2
  have H := Lib.hid h
  have HR := Lib.hid hr
  have HK := Lib.hid hk
  have HM := Lib.hid hm
  have HL := Lib.hid hl
  have HFU := Lib.hid (full_c N g st v w h)
  obtain ⟨n, hn⟩ : ∃ n, c.toNat = n := ⟨_, rfl⟩
  rw [hn] at HIX i2 ⊢
  have cd := h.cd
  have co := h.co
  have f9 := h.blk.free 9
  have c9 := h.cs
  have l0 := h.blk.lt
  rw [hd] at cd
  have HD := Lib.hid hd
  clear hd
  have HO := Lib.hid ho
  rw [ho] at co
  clear ho
  clear h hr hc hl hk hm hn i1
  go_enter Tryz.func48, Tryz.ntmps48
  go_wp2_with fail
  refine (HIX.out _).mono ?_
  rintro e w1 ⟨rfl, hw1⟩
  have hw2 := hw1.symm
  subst hw2
  clear hw1
  go_wp2_with fail
  have HS1 : Hid (RdAt N g { st with small := m } v (w.setCell ⟨g, 9, none⟩ (.bool m)) ∧ Keep (fun j => j ≠ g ∧ v.ownBlock ≠ some j) w (w.setCell ⟨g, 9, none⟩ (.bool m))) := by
    have ks : Keep (fun j => j ≠ g) w (w.setCell ⟨g, 9, none⟩ (.bool m)) := Keep.setCell _ _ _ (by simp)
    exact ⟨H.out.turn ks (by simpa [cellsR] using H.out.blk.set 9 (.bool m)) rfl, ks.mono fun j hj => hj.1⟩
  clear cd co f9 c9 l0 i2
  generalize w.setCell ⟨g, 9, none⟩ (.bool m) = w2 at HS1 ⊢
  refine (start_c N g { st with small := m } v 2 w2 (HR.out.on (keep_own H.out HS1.out.2)) HS1.out.1).mono ?_
  rintro e w3 ⟨⟨u, rfl⟩, hst, hks⟩
  have HS3 : Hid (RdAt N g (startR { st with small := m } 2) v w3 ∧ Keep (fun j => j ≠ g ∧ v.ownBlock ≠ some j) w w3) := ⟨hst, HS1.out.2.trans (hks.mono fun j hj => hj.1)⟩
  have cd : w3.cell? ⟨g, 8, none⟩ = some (.int .i64 2) := hst.cd
  clear hst hks
  go_wp2_with fail
  go_ret
  refine letR_form _ _ _ _ _ _ _ _ (r := .ok (startR { st with small := m } 2)) ?_ ⟨rfl, v, HS3.out.1, HS3.out.2, Moved.refl _ _⟩
  have hz : ¬ (kindL c = 0 ∨ 0 < st.due) := by rw [HK.out, HD.out]; decide
  unfold letR
  rw [if_neg hz, if_neg (fun h => by have := HK.out; rw [h.1] at this; cases this), if_neg (fun h => by have := HO.out; rw [h.2] at this; cases this), if_neg (by rw [HK.out]; decide), HM.out, HK.out]
set_option maxHeartbeats 4000000 in
set_option maxRecDepth 100000 in
theorem letter_quadno (N g : Nat) (st : Rs) (v : Value) (c : UInt8) (w : World) (hr : Ev N w) (h : RdAt N g st v w) (hc : letB c = true) (hl : st.l.length ≤ 4096) (hk : kindL c = 3) (hd : st.due = 0) (ho : st.opn = false) :
    Calls Tryz.prog 48 #[ptrR g, .int .u8 (c.toNat : Int)] w (PutQ N g v w (letR st c)) := by
  obtain ⟨i1, i2⟩ := idx_at c hc
  rw [hk] at i1
  have HIX := Lib.hid (Tryz.strings_IndexByte ⟨#[77, 76, 81, 67, 90]⟩ (bits .andNot .u8 (c.toNat : Int) 32))
  rw [show (⟨#[77, 76, 81, 67, 90]⟩ : ByteArray).data.toList = [77, 76, 81, 67, 90] from rfl, i1] at HIX
  obtain ⟨m, hm⟩ : ∃ m, smallL c = m := ⟨_, rfl⟩
  rw [hm] at i2
  have H := Lib.hid h
  have HR := Lib.hid hr
  have HK := Lib.hid hk
  have HM := Lib.hid hm
  have HL := Lib.hid hl
  have HFU := Lib.hid (full_c N g st v w h)
  obtain ⟨n, hn⟩ : ∃ n, c.toNat = n := ⟨_, rfl⟩
  rw [hn] at HIX i2 ⊢
  have cd := h.cd
  have co := h.co
  have f9 := h.blk.free 9
  have c9 := h.cs
  have l0 := h.blk.lt
  rw [hd] at cd
  have HD := Lib.hid hd
  clear hd
  have HO := Lib.hid ho
  rw [ho] at co
  clear ho
  clear h hr hc hl hk hm hn i1
  go_enter Tryz.func48, Tryz.ntmps48
  go_wp2_with fail
  refine (HIX.out _).mono ?_
  rintro e w1 ⟨rfl, hw1⟩
  have hw2 := hw1.symm
  subst hw2
  clear hw1
  go_wp2_with fail
  go_ret
  refine letR_form _ _ _ _ _ _ _ _ (r := .error 33) ?_ ⟨rfl, Keep.refl _ _⟩
  have hz : ¬ (kindL c = 0 ∨ 0 < st.due) := by rw [HK.out, HD.out]; decide
  unfold letR
  rw [if_neg hz, if_neg (fun h => by have := HK.out; rw [h.1] at this; cases this), if_pos ⟨by rw [HK.out]; decide, HO.out⟩]
set_option maxHeartbeats 4000000 in
set_option maxRecDepth 100000 in
theorem letter_quad (N g : Nat) (st : Rs) (v : Value) (c : UInt8) (w : World) (hr : Ev N w) (h : RdAt N g st v w) (hc : letB c = true) (hl : st.l.length ≤ 4096) (hk : kindL c = 3) (hd : st.due = 0) (ho : st.opn = true) :
    Calls Tryz.prog 48 #[ptrR g, .int .u8 (c.toNat : Int)] w (PutQ N g v w (letR st c)) := by
  obtain ⟨i1, i2⟩ := idx_at c hc
  rw [hk] at i1
  have HIX := Lib.hid (Tryz.strings_IndexByte ⟨#[77, 76, 81, 67, 90]⟩ (bits .andNot .u8 (c.toNat : Int) 32))
  rw [show (⟨#[77, 76, 81, 67, 90]⟩ : ByteArray).data.toList = [77, 76, 81, 67, 90] from rfl, i1] at HIX
  obtain ⟨m, hm⟩ : ∃ m, smallL c = m := ⟨_, rfl⟩
  rw [hm] at i2
  have H := Lib.hid h
  have HR := Lib.hid hr
  have HK := Lib.hid hk
  have HM := Lib.hid hm
  have HL := Lib.hid hl
  have HFU := Lib.hid (full_c N g st v w h)
  obtain ⟨n, hn⟩ : ∃ n, c.toNat = n := ⟨_, rfl⟩
  rw [hn] at HIX i2 ⊢
  have cd := h.cd
  have co := h.co
  have f9 := h.blk.free 9
  have c9 := h.cs
  have l0 := h.blk.lt
  rw [hd] at cd
  have HD := Lib.hid hd
  clear hd
  have HO := Lib.hid ho
  rw [ho] at co
  clear ho
  clear h hr hc hl hk hm hn i1
  go_enter Tryz.func48, Tryz.ntmps48
  go_wp2_with fail
  refine (HIX.out _).mono ?_
  rintro e w1 ⟨rfl, hw1⟩
  have hw2 := hw1.symm
  subst hw2
  clear hw1
  go_wp2_with fail
  have HS1 : Hid (RdAt N g { st with small := m } v (w.setCell ⟨g, 9, none⟩ (.bool m)) ∧ Keep (fun j => j ≠ g ∧ v.ownBlock ≠ some j) w (w.setCell ⟨g, 9, none⟩ (.bool m))) := by
    have ks : Keep (fun j => j ≠ g) w (w.setCell ⟨g, 9, none⟩ (.bool m)) := Keep.setCell _ _ _ (by simp)
    exact ⟨H.out.turn ks (by simpa [cellsR] using H.out.blk.set 9 (.bool m)) rfl, ks.mono fun j hj => hj.1⟩
  clear cd co f9 c9 l0 i2
  generalize w.setCell ⟨g, 9, none⟩ (.bool m) = w2 at HS1 ⊢
  refine (start_c N g { st with small := m } v 3 w2 (HR.out.on (keep_own H.out HS1.out.2)) HS1.out.1).mono ?_
  rintro e w3 ⟨⟨u, rfl⟩, hst, hks⟩
  have HS3 : Hid (RdAt N g (startR { st with small := m } 3) v w3 ∧ Keep (fun j => j ≠ g ∧ v.ownBlock ≠ some j) w w3) := ⟨hst, HS1.out.2.trans (hks.mono fun j hj => hj.1)⟩
  have cd : w3.cell? ⟨g, 8, none⟩ = some (.int .i64 4) := hst.cd
  clear hst hks
  go_wp2_with fail
  go_ret
  refine letR_form _ _ _ _ _ _ _ _ (r := .ok (startR { st with small := m } 3)) ?_ ⟨rfl, v, HS3.out.1, HS3.out.2, Moved.refl _ _⟩
  have hz : ¬ (kindL c = 0 ∨ 0 < st.due) := by rw [HK.out, HD.out]; decide
  unfold letR
  rw [if_neg hz, if_neg (fun h => by have := HK.out; rw [h.1] at this; cases this), if_neg (fun h => by have := HO.out; rw [h.2] at this; cases this), if_neg (by rw [HK.out]; decide), HM.out, HK.out]
set_option maxHeartbeats 4000000 in
set_option maxRecDepth 100000 in
theorem letter_cubicno (N g : Nat) (st : Rs) (v : Value) (c : UInt8) (w : World) (hr : Ev N w) (h : RdAt N g st v w) (hc : letB c = true) (hl : st.l.length ≤ 4096) (hk : kindL c = 4) (hd : st.due = 0) (ho : st.opn = false) :
    Calls Tryz.prog 48 #[ptrR g, .int .u8 (c.toNat : Int)] w (PutQ N g v w (letR st c)) := by
  obtain ⟨i1, i2⟩ := idx_at c hc
  rw [hk] at i1
  have HIX := Lib.hid (Tryz.strings_IndexByte ⟨#[77, 76, 81, 67, 90]⟩ (bits .andNot .u8 (c.toNat : Int) 32))
  rw [show (⟨#[77, 76, 81, 67, 90]⟩ : ByteArray).data.toList = [77, 76, 81, 67, 90] from rfl, i1] at HIX
  obtain ⟨m, hm⟩ : ∃ m, smallL c = m := ⟨_, rfl⟩
  rw [hm] at i2
  have H := Lib.hid h
  have HR := Lib.hid hr
  have HK := Lib.hid hk
  have HM := Lib.hid hm
  have HL := Lib.hid hl
  have HFU := Lib.hid (full_c N g st v w h)
  obtain ⟨n, hn⟩ : ∃ n, c.toNat = n := ⟨_, rfl⟩
  rw [hn] at HIX i2 ⊢
  have cd := h.cd
  have co := h.co
  have f9 := h.blk.free 9
  have c9 := h.cs
  have l0 := h.blk.lt
  rw [hd] at cd
  have HD := Lib.hid hd
  clear hd
  have HO := Lib.hid ho
  rw [ho] at co
  clear ho
  clear h hr hc hl hk hm hn i1
  go_enter Tryz.func48, Tryz.ntmps48
  go_wp2_with fail
  refine (HIX.out _).mono ?_
  rintro e w1 ⟨rfl, hw1⟩
  have hw2 := hw1.symm
  subst hw2
  clear hw1
  go_wp2_with fail
  go_ret
  refine letR_form _ _ _ _ _ _ _ _ (r := .error 33) ?_ ⟨rfl, Keep.refl _ _⟩
  have hz : ¬ (kindL c = 0 ∨ 0 < st.due) := by rw [HK.out, HD.out]; decide
  unfold letR
  rw [if_neg hz, if_neg (fun h => by have := HK.out; rw [h.1] at this; cases this), if_pos ⟨by rw [HK.out]; decide, HO.out⟩]
set_option maxHeartbeats 4000000 in
set_option maxRecDepth 100000 in
theorem letter_cubic (N g : Nat) (st : Rs) (v : Value) (c : UInt8) (w : World) (hr : Ev N w) (h : RdAt N g st v w) (hc : letB c = true) (hl : st.l.length ≤ 4096) (hk : kindL c = 4) (hd : st.due = 0) (ho : st.opn = true) :
    Calls Tryz.prog 48 #[ptrR g, .int .u8 (c.toNat : Int)] w (PutQ N g v w (letR st c)) := by
  obtain ⟨i1, i2⟩ := idx_at c hc
  rw [hk] at i1
  have HIX := Lib.hid (Tryz.strings_IndexByte ⟨#[77, 76, 81, 67, 90]⟩ (bits .andNot .u8 (c.toNat : Int) 32))
  rw [show (⟨#[77, 76, 81, 67, 90]⟩ : ByteArray).data.toList = [77, 76, 81, 67, 90] from rfl, i1] at HIX
  obtain ⟨m, hm⟩ : ∃ m, smallL c = m := ⟨_, rfl⟩
  rw [hm] at i2
  have H := Lib.hid h
  have HR := Lib.hid hr
  have HK := Lib.hid hk
  have HM := Lib.hid hm
  have HL := Lib.hid hl
  have HFU := Lib.hid (full_c N g st v w h)
  obtain ⟨n, hn⟩ : ∃ n, c.toNat = n := ⟨_, rfl⟩
  rw [hn] at HIX i2 ⊢
  have cd := h.cd
  have co := h.co
  have f9 := h.blk.free 9
  have c9 := h.cs
  have l0 := h.blk.lt
  rw [hd] at cd
  have HD := Lib.hid hd
  clear hd
  have HO := Lib.hid ho
  rw [ho] at co
  clear ho
  clear h hr hc hl hk hm hn i1
  go_enter Tryz.func48, Tryz.ntmps48
  go_wp2_with fail
  refine (HIX.out _).mono ?_
  rintro e w1 ⟨rfl, hw1⟩
  have hw2 := hw1.symm
  subst hw2
  clear hw1
  go_wp2_with fail
  have HS1 : Hid (RdAt N g { st with small := m } v (w.setCell ⟨g, 9, none⟩ (.bool m)) ∧ Keep (fun j => j ≠ g ∧ v.ownBlock ≠ some j) w (w.setCell ⟨g, 9, none⟩ (.bool m))) := by
    have ks : Keep (fun j => j ≠ g) w (w.setCell ⟨g, 9, none⟩ (.bool m)) := Keep.setCell _ _ _ (by simp)
    exact ⟨H.out.turn ks (by simpa [cellsR] using H.out.blk.set 9 (.bool m)) rfl, ks.mono fun j hj => hj.1⟩
  clear cd co f9 c9 l0 i2
  generalize w.setCell ⟨g, 9, none⟩ (.bool m) = w2 at HS1 ⊢
  refine (start_c N g { st with small := m } v 4 w2 (HR.out.on (keep_own H.out HS1.out.2)) HS1.out.1).mono ?_
  rintro e w3 ⟨⟨u, rfl⟩, hst, hks⟩
  have HS3 : Hid (RdAt N g (startR { st with small := m } 4) v w3 ∧ Keep (fun j => j ≠ g ∧ v.ownBlock ≠ some j) w w3) := ⟨hst, HS1.out.2.trans (hks.mono fun j hj => hj.1)⟩
  have cd : w3.cell? ⟨g, 8, none⟩ = some (.int .i64 6) := hst.cd
  clear hst hks
  go_wp2_with fail
  go_ret
  refine letR_form _ _ _ _ _ _ _ _ (r := .ok (startR { st with small := m } 4)) ?_ ⟨rfl, v, HS3.out.1, HS3.out.2, Moved.refl _ _⟩
  have hz : ¬ (kindL c = 0 ∨ 0 < st.due) := by rw [HK.out, HD.out]; decide
  unfold letR
  rw [if_neg hz, if_neg (fun h => by have := HK.out; rw [h.1] at this; cases this), if_neg (fun h => by have := HO.out; rw [h.2] at this; cases this), if_neg (by rw [HK.out]; decide), HM.out, HK.out]
theorem kindL_cases (c : UInt8) : kindL c = 0 ∨ isKindB (kindL c) = true := by
  unfold kindL isKindB
  repeat' split
  all_goals simp
theorem letter_c (N g : Nat) (st : Rs) (v : Value) (c : UInt8) (w : World) (hr : Ev N w) (h : RdAt N g st v w) (hc : letB c = true) (hl : st.l.length ≤ 4096) :
    Calls Tryz.prog 48 #[ptrR g, .int .u8 (c.toNat : Int)] w (PutQ N g v w (letR st c)) := by
  rcases kindL_cases c with hk | hk
  · exact letter_none N g st v c w hr h hc hl hk
  by_cases hd : 0 < st.due
  · rcases isKind_cases hk with e | e | e | e | e
    · exact letter_due1 N g st v c w hr h hc hl e hd
    · exact letter_due2 N g st v c w hr h hc hl e hd
    · exact letter_due3 N g st v c w hr h hc hl e hd
    · exact letter_due4 N g st v c w hr h hc hl e hd
    · exact letter_due5 N g st v c w hr h hc hl e hd
  have hd0 : st.due = 0 := by omega
  rcases isKind_cases hk with e | e | e | e | e
  · exact letter_move N g st v c w hr h hc hl e hd0
  · cases ho : st.opn with
    | true => exact letter_line N g st v c w hr h hc hl e hd0 ho
    | false => exact letter_lineno N g st v c w hr h hc hl e hd0 ho
  · cases ho : st.opn with
    | true => exact letter_quad N g st v c w hr h hc hl e hd0 ho
    | false => exact letter_quadno N g st v c w hr h hc hl e hd0 ho
  · cases ho : st.opn with
    | true => exact letter_cubic N g st v c w hr h hc hl e hd0 ho
    | false => exact letter_cubicno N g st v c w hr h hc hl e hd0 ho
  · by_cases hf : st.l.length = 4096
    · exact letter_full N g st v c w hr h hc hl e hd0 hf
    · cases ho : st.opn with
      | true => exact letter_shut N g st v c w hr h hc hl e hd0 hf ho
      | false => exact letter_shutno N g st v c w hr h hc hl e hd0 hf ho
end Go.Proofs.YtbnbglngpgikfaaGreatDoor
