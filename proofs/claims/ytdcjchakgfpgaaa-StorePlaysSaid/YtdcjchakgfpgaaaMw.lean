/- Layer 14: made; awake. -/
import Derived.Test.YtdcjchakgfpgaaaMu
import Derived.Test.YtdcjchakgfpgaaaMl
import Derived.Lib.SmallJoins
namespace Go.Proofs.Ytdcjchakgfpgaaa
open Go.RowKit
open Go.Shelf
theorem geo_new {s z : Int} (h : diskOkI s z) (h4 : 4 ≤ s) (h32 : 32 ≤ z) : Geo (newD s z) z.toNat ((s - 2) / 2).toNat := by
  obtain ⟨h1, h2, h3, h5⟩ := h
  refine ⟨by show z = _; omega, by show (s - 2) / 2 = _; omega, ?_, by omega, by omega⟩
  show 2 + 2 * ((((s - 2) / 2).toNat : Nat) : Int) ≤ s
  omega
theorem new_few {s z : Int} (h : diskOkI s z) (hf : s * z ≤ 31000) : OkD (newD s z) 0 := by
  have h0 : 0 ≤ s * z := Int.mul_nonneg (by unfold diskOkI at h; omega) (by unfold diskOkI at h; omega)
  refine ⟨h, by show ((List.replicate _ _).length : Int) = s * z; rw [List.length_replicate]; omega, by show (List.replicate _ _).length ≤ _; rw [List.length_replicate]; omega, fun x hx => by obtain ⟨_, rfl⟩ := List.mem_replicate.1 hx; omega, fun x hx => (by cases hx), Int.le_refl _, fun e => (by cases e), by show _ ≤ (0 : Int) ∧ (0 : Int) ≤ _; omega, ⟨Int.le_refl _, Int.le_refl _⟩, by show ((List.replicate s.toNat (0 : Int)).length : Int) = s; rw [List.length_replicate]; unfold diskOkI at h; omega, fun x hx => ?_⟩
  have hx' : x ∈ List.replicate s.toNat (0 : Int) := hx
  obtain ⟨_, rfl⟩ := List.mem_replicate.1 hx'
  exact ⟨Int.le_refl _, Int.le_refl _⟩
theorem idle_new {s z : Int} (h : diskOkI s z) (hf : s * z ≤ 31000) (h4 : 4 ≤ s) (h32 : 32 ≤ z) : Idle (newD s z) z.toNat ((s - 2) / 2).toNat 0 := ⟨geo_new h h4 h32, new_few h hf, rfl, rfl⟩
theorem half_fit {s z : Int} (h : diskOkI s z) (hf : s * z ≤ 31000) (h4 : 4 ≤ s) : ((s - 2) / 2).toNat * z.toNat ≤ 30000 := by
  obtain ⟨h1, h2, h3, h5⟩ := h
  obtain ⟨a, ha⟩ : ∃ a : Nat, s = (a : Int) := ⟨s.toNat, by omega⟩
  obtain ⟨b, hb⟩ : ∃ b : Nat, z = (b : Int) := ⟨z.toNat, by omega⟩
  subst ha hb
  rw [nat_mul_int] at hf
  rw [Int.toNat_natCast]
  have h6 : (((a : Int) - 2) / 2).toNat * 2 ≤ a := by omega
  have h7 : (((a : Int) - 2) / 2).toNat * 2 * b ≤ a * b := Nat.mul_le_mul_right b h6
  rw [Nat.mul_right_comm] at h7
  omega
/-- What made tells of a disk that can bear a store. -/
def MadeQ (w : World) (z H : Nat) (e : Ending) (w' : World) : Prop := ∃ U' a g s, e = .returned (.tuple #[ptrD a, ptrD g]) ∧ SS U' w' a g s ∧ Up s z H (H + 22) 1 ∧ s.h = ⟨1, 0, 0, 0⟩ ∧ s.D = [] ∧ s.d.armed = false ∧ Below w.heap.size w w' ∧ ∀ k, U' k → w.heap.size ≤ k
set_option maxHeartbeats 4000000 in
set_option maxRecDepth 100000 in
theorem made_c (s z : Int) (w : World) (h : diskOkI s z) (hf : s * z ≤ 31000) (h4 : 4 ≤ s) (h32 : 32 ≤ z) : Calls Try.prog 16 #[.int .i64 s, .int .i64 z] w (MadeQ w z.toNat ((s - 2) / 2).toNat) := by
  have HN := Lib.hid (kNew_c s z w h)
  have idle := idle_new h hf h4 h32
  obtain ⟨d1, d2, f1, f2, f3, f4, f5, f6⟩ := format_up idle (Int.le_refl _) rfl
  have hfit := half_fit h hf h4
  have hsz : (newD s z).size = (z.toNat : Int) := idle.geo.size
  obtain ⟨r, hr⟩ : ∃ r, saveI ⟨d2, zeroHd, [], false⟩ zeroHd [] 0 = r := ⟨_, rfl⟩
  rw [hr] at f3 f4 f5 f6
  have hs4096 : ((s - 2) / 2).toNat ≤ 800 := by
    have h5 : 32 * s ≤ s * z := by rw [Int.mul_comm]; exact Int.mul_le_mul_of_nonneg_left h32 (by omega)
    omega
  have HF : Hid (∀ W T g, At12 T W g (newD s z) → Calls Try.prog 14 #[ptrD g] W fun e w' => ∃ T', e = .returned (.int .i64 0) ∧ At12 T' w' g r.1.d ∧ To T W T' w') := fun W T g ha => by
    have key := format_c T W g (newD s z) z.toNat 0 ha idle.ok (Int.le_refl _) (by decide) hsz h4 (by omega) d1 d2 f1 f2 r hr
    rw [f3] at key
    exact key
  obtain ⟨zn, hzn⟩ : ∃ x, z.toNat = x := ⟨_, rfl⟩
  obtain ⟨Hn, hHn⟩ : ∃ x, ((s - 2) / 2).toNat = x := ⟨_, rfl⟩
  rw [hzn, hHn] at f5 f6 hfit
  rw [hHn] at hs4096
  rw [hzn, hHn]
  have HO : Hid (∀ W T g, At12 T W g r.1.d → Calls Try.prog 15 #[ptrD g] W fun e w' => ∃ U' a s, e = .returned (.tuple #[ptrD a, .int .i64 0]) ∧ SS U' w' a g s ∧ To T W U' w' ∧ s.h = ⟨1, 0, 0, 0⟩ ∧ s.D = [] ∧ Up s zn Hn (0 + 20 + Hn + 2) 1 ∧ s.d.armed = r.1.d.armed) := fun W T g ha => open_img T W g ha f5 (by decide) (by omega) f6 (Int.le_refl _) hfit
  have HAR : Hid (r.1.d.armed = false ∧ Hn * 32 ≤ 30000 ∧ Hn ≤ 800) := ⟨f4, by
    have : Hn * 32 ≤ Hn * zn := Nat.mul_le_mul_left Hn (by omega)
    omega, hs4096⟩
  clear h hf h4 h32 idle f1 f2 f3 f4 f5 f6 hfit hsz hr hzn hHn hs4096
  go_enter Try.func16, Try.ntmps16
  go_wp2_with fail
  refine (HN.out).mono ?_
  rintro e w1 ⟨T, g, rfl, ha, hb, hT⟩
  have H1 := Lib.hid (And.intro ha (And.intro hb hT))
  have HF1 := Lib.hid (HF.out w1 T g ha)
  clear ha hb hT HN HF
  go_wp2_with fail
  refine (HF1.out).mono ?_
  rintro e w2 ⟨T2, rfl, ha2, ht2⟩
  have H2 : Hid (At12 T2 w2 g r.1.d ∧ Below w.heap.size w w2 ∧ ∀ k, T2 k → w.heap.size ≤ k) := ⟨ha2, H1.out.2.1.trans (ht2.keep.below (fun k hk hT => absurd (H1.out.2.2 k hT) (by omega)) H1.out.2.1.size), fun k hk => (ht2.new k hk).elim (H1.out.2.2 k) (Nat.le_trans H1.out.2.1.size)⟩
  have HO1 := Lib.hid (HO.out w2 T2 g ha2)
  clear ha2 ht2 HF1 HO
  go_wp2_with fail
  refine (HO1.out).mono ?_
  rintro e w3 ⟨U3, a, s3, rfl, hss, hto, s1, s2, s3', s4⟩
  have H3 : Hid (SS U3 w3 a g s3 ∧ Up s3 zn Hn (0 + 20 + Hn + 2) 1 ∧ s3.h = ⟨1, 0, 0, 0⟩ ∧ s3.D = [] ∧ s3.d.armed = false ∧ Below w.heap.size w w3 ∧ ∀ k, U3 k → w.heap.size ≤ k) := ⟨hss, s3', s1, s2, s4.trans HAR.out.1, H2.out.2.1.trans (hto.keep.below (fun k hk hT => absurd (H2.out.2.2 k hT) (by omega)) H2.out.2.1.size), fun k hk => (hto.new k hk).elim (H2.out.2.2 k) (Nat.le_trans H2.out.2.1.size)⟩
  clear hss hto s1 s2 s3' s4 HO1
  go_wp2_with fail
  have hup : Up s3 zn Hn ((Hn : Int) + 22) 1 := by
    have h1 := H3.out.2.1
    have e : (0 : Int) + 20 + (Hn : Int) + 2 = (Hn : Int) + 22 := by omega
    rw [e] at h1
    exact h1
  exact bodyPost_ret (results_2t rfl rfl rfl) rfl ⟨U3, a, g, s3, rfl, H3.out.1, hup, H3.out.2.2⟩
theorem crash_ss {U : Nat → Prop} {w : World} {a g : Nat} {s : SM} {v : Value} {keep : List Bool} (torn cut : Int) (st : SS U w a g s) (ok : OkD s.d 1000) (hv : RowT w v keep) (hc : CapS v) (hl : keep.length ≤ 1000) (hT : keep.length ≠ 0 → ∀ k, v.ownBlock = some k → ¬ U k) (ht : rngI torn) (hct : rngI cut) :
    Calls Try.prog 24 #[ptrD g, v, .int .i64 torn, .int .i64 cut] w fun e w' => ∃ T', e = .returned (.tuple #[]) ∧ At12 T' w' g (crashD s.d keep torn cut) ∧ To U w T' w' := by
  obtain ⟨T, sv, hd, sat, hU⟩ := st
  refine (kCrash_c T w g s.d v keep torn cut hd ok hv hc hl (fun h0 k e hk => hT h0 k e ((hU k).2 (.inl hk))) ht hct).mono ?_
  rintro e w' ⟨T', he, ha, hto⟩
  exact ⟨T', he, ha, ⟨hto.keep.mono fun k hk hT => hk ((hU k).2 (.inl hT)), fun k hk => (hto.new k hk).imp (fun h => (hU k).2 (.inl h)) id⟩⟩
/-- A store that is up, behind a crash: the disk bears the same image. -/
theorem crash_up {s : SM} {z H : Nat} {m gm : Int} (u : Up s z H m gm) (hm : 0 ≤ m) (keep : List Bool) (torn cut : Int) : Idle (crashD s.d keep torn cut) z H m ∧ Img z H (crashD s.d keep torn cut).safe s.h s.D := by
  refine ⟨⟨u.good.geo.same rfl rfl, u.good.ok.crash hm keep torn cut, rfl, rfl⟩, ?_⟩
  show Img z H (crashM keep torn cut s.d.size 0 s.d.wait s.d.safe) s.h s.D
  rw [u.wait]
  exact u.img
def helloB : List Int := [104, 101, 108, 108, 111]
theorem str_hello : strI helloB = { data := #[104, 101, 108, 108, 111] } := by decide +kernel
theorem row_mark (w : World) (E : List Int) (n : Nat) (C : Array Value) (hC : C = (bytV E).toArray) (hn : E.length = n) (fr : Nat × Nat) : RowB (w.alloc (.cells C 5 fr)) (.slice (some ⟨w.heap.size, 0, none⟩) n n) E := by
  subst hC hn
  refine .inr (.inr ⟨w.heap.size, 0, E.length, rfl, by simp, fun i x hx => ?_⟩)
  rw [Nat.zero_add, Joins.cell_alloc_mark_at w _ _ fr _ i rfl]
  simp [bytV, hx]
theorem conv_1 (w : World) (C : Array Value) (n c g : Nat) (hg : g = w.heap.size) : (convert 24 24 (.slice (some ⟨g, 0, none⟩) n c)).run Try.prog (w.alloc (.cells C 5)) = .ok (.slice (some ⟨g, 0, none⟩) n c) (w.alloc (.cells C 5 (C.size, C.size + 1))) :=
  Joins.run_convert_bytes_const_at w _ _ C n c g hg Try.underlying24 Try.underlying5
set_option maxHeartbeats 8000000 in
set_option maxRecDepth 100000 in
theorem awake14_c (w : World) : Calls Try.prog 7 #[] w fun e w' => e = .returned (.bool true) ∧ Below w.heap.size w w' := by
  have HM := Lib.hid (made_c 10 32 w ⟨by decide, by decide, by decide, by decide⟩ (by decide) (by decide) (by decide))
  have hok : OkB helloB := by unfold helloB; intro x hx; simp at hx; omega
  have HOK := Lib.hid hok
  have HAP : Hid (∀ W U a g s bv, SS U W a g s → Up s 32 4 26 1 → s.D = [] → s.h = ⟨1, 0, 0, 0⟩ → s.d.armed = false → RowB W bv helloB → (∀ k, bv.ownBlock = some k → ¬ U k) → Calls Try.prog 19 #[ptrD a, bv] W fun e w' => ∃ U' s', e = .returned (.int .i64 0) ∧ SS U' w' a g s' ∧ To U W U' w' ∧ Up s' 32 4 46 2 ∧ s'.D = helloB ∧ s'.h = ⟨2, 0, 0, 5⟩) := fun W U a g s bv hs hu hD hh ha hr ho => by
    have hcap : capI s.d = 128 := hu.good.geo.cap
    have hz : s.d.size.toNat = 32 := by rw [hu.good.geo.size]; rfl
    have hle : (helloB.length : Int) = 5 := rfl
    have au := app_up hu (by decide) (by decide) hok (by decide) (by decide) (by rw [hcap, hD, hle]; decide)
    have key := append_c U W a g s 26 bv helloB hs hu.good.ok (hu.good.sok (by decide)) hr hok (by decide) (by rw [hcap]; decide) (fun _ => ho) (by rw [hh]; decide) (by rw [hz, hD]; decide)
    refine key.mono ?_
    rintro e w' ⟨U', he, hs', hto⟩
    have h2 := (au.2 ha).1
    rcases au.1 with h3 | h3
    · rw [h3.1] at he
      refine ⟨U', _, he, hs', hto, h3.2.2.2, ?_, ?_⟩
      · rw [h3.2.2.1, hD]; rfl
      · rw [h3.2.1, hh]; rfl
    · rw [h2] at h3
      exact absurd h3.1 (by decide)
  have HSH : Hid (strI helloB = { data := #[104, 101, 108, 108, 111] }) := Lib.hid str_hello
  clear hok
  go_enter Try.func7, Try.ntmps7
  go_wp2_with fail
  refine (HM.out).mono ?_
  rintro e w1 ⟨U1, a, g, s1, rfl, q1, q2, q3, q4, q5, q6, q7⟩
  have H1 : Hid (SS U1 w1 a g s1 ∧ Up s1 32 4 26 1 ∧ s1.h = ⟨1, 0, 0, 0⟩ ∧ s1.D = [] ∧ s1.d.armed = false ∧ Below w.heap.size w w1 ∧ ∀ k, U1 k → w.heap.size ≤ k) := ⟨q1, q2, q3, q4, q5, q6, q7⟩
  clear q1 q2 q3 q4 q5 q6 q7 HM
  obtain ⟨w2, hw2⟩ : ∃ x, w1.alloc (.cells #[.int .u8 104, .int .u8 101, .int .u8 108, .int .u8 108, .int .u8 111] 5 (5, 5 + 1)) = x := ⟨_, rfl⟩
  obtain ⟨gb, hgb⟩ : ∃ x, w1.heap.size = x := ⟨_, rfl⟩
  have hcv := conv_1 w1 #[.int .u8 104, .int .u8 101, .int .u8 108, .int .u8 108, .int .u8 111] 5 5 gb hgb.symm
  have H2 : Hid (Below w1.heap.size w1 w2 ∧ RowB w2 (.slice (some ⟨gb, 0, none⟩) 5 5) helloB ∧ w1.heap.size = gb) := by
    rw [← hw2, ← hgb]
    exact ⟨(Below.refl _ _).alloc (Nat.le_refl _) _, row_mark w1 helloB 5 _ rfl rfl _, rfl⟩
  have HSS : Hid (SS U1 w2 a g s1 ∧ ∀ k, (Value.slice (some ⟨gb, 0, none⟩) 5 5).ownBlock = some k → ¬ U1 k) := by
    obtain ⟨T, sv, hd, sat, hU⟩ := H1.out.1
    refine ⟨⟨T, sv, at_grow hd H2.out.1, sat.grow H2.out.1, hU⟩, fun k e hk => ?_⟩
    have e' : gb = k := Option.some.inj e
    have h0 := H2.out.2.2
    have h1 : w1.heap.size ≤ k := by omega
    rcases (hU k).1 hk with h | h | h
    · have := at_lt hd h; omega
    · have := sat.blk.lt; omega
    · have := (World.ownsRow.lt sat.all k h).2; omega
  have HA1 := Lib.hid (HAP.out w2 U1 a g s1 _ HSS.out.1 H1.out.2.1 H1.out.2.2.2.1 H1.out.2.2.1 H1.out.2.2.2.2.1 H2.out.2.1 HSS.out.2)
  go_wp2_with fail
  try rw [hw2]
  try rw [hgb]
  clear hw2 hgb HAP hcv
  refine (HA1.out).mono ?_
  rintro e w3 ⟨U3, s3, rfl, q1, q2, q3, q4, q5⟩
  have H3 : Hid (SS U3 w3 a g s3 ∧ Up s3 32 4 46 2 ∧ s3.D = helloB ∧ s3.h = ⟨2, 0, 0, 5⟩ ∧ Below w.heap.size w w3 ∧ ∀ k, U3 k → w.heap.size ≤ k) := by
    have hb := H1.out.2.2.2.2.2.1.trans (H2.out.1.mono H1.out.2.2.2.2.2.1.size)
    exact ⟨q1, q3, q4, q5, hb.trans (q2.keep.below (fun k hk hT => absurd (H1.out.2.2.2.2.2.2 k hT) (by omega)) hb.size), fun k hk => (q2.new k hk).elim (H1.out.2.2.2.2.2.2 k) (Nat.le_trans hb.size)⟩
  have HC1 := Lib.hid (crash_ss (v := .slice none 0 0) (keep := []) (-1) 0 q1 (q3.good.ok.mono (by decide)) (.inl ⟨rfl, rfl⟩) (fun a n c e => by cases e; exact Nat.le_refl _) (by decide) (fun h => absurd rfl h) ⟨by decide, by decide⟩ ⟨by decide, by decide⟩)
  clear q1 q2 q3 q4 q5 HA1
  go_wp2_with fail
  refine (HC1.out).mono ?_
  rintro e w4 ⟨T4, rfl, q1, q2⟩
  obtain ⟨id4, im4⟩ := crash_up H3.out.2.1 (by decide) [] (-1) 0
  have H4 : Hid (At12 T4 w4 g (crashD s3.d [] (-1) 0) ∧ Below w.heap.size w w4 ∧ ∀ k, T4 k → w.heap.size ≤ k) := ⟨q1, H3.out.2.2.2.2.1.trans (q2.keep.below (fun k hk hT => absurd (H3.out.2.2.2.2.2 k hT) (by omega)) H3.out.2.2.2.2.1.size), fun k hk => (q2.new k hk).elim (H3.out.2.2.2.2.2 k) (Nat.le_trans H3.out.2.2.2.2.1.size)⟩
  have HO1 := Lib.hid (open_img T4 w4 g (gm := 2) q1 id4 (by decide) (by decide) im4 (by rw [H3.out.2.2.2.1]; decide) (by decide))
  clear q1 q2 id4 im4 HC1
  go_wp2_with fail
  refine (HO1.out).mono ?_
  rintro e w5 ⟨U5, a5, s5, rfl, q1, q2, q3, q4, q5, q6⟩
  have hh5 : s5.h = ⟨2, 0, 0, 5⟩ := q3.trans H3.out.2.2.2.1
  have hD5 : s5.D = helloB := q4.trans H3.out.2.2.1
  have H5 : Hid (Below w.heap.size w w5) := H4.out.2.1.trans (q2.keep.below (fun k hk hT => absurd (H4.out.2.2 k hT) (by omega)) H4.out.2.1.size)
  obtain ⟨T6, sv6, hd6, sat6, hU6⟩ := q1
  have ok6 : OkD s5.d 1000 := q5.good.ok.mono (by decide)
  have HL1 : Hid (Calls Try.prog 25 #[ptrD a5] w5 fun e w' => ∃ v, e = .returned v ∧ OwnB w' w5.heap.size v helloB ∧ Below w5.heap.size w5 w') := by
    have key := sLog_c sat6 (q5.good.sok (by decide)) (by rw [hD5]; decide)
    rw [hh5, hD5] at key
    exact key
  have HC2 : Hid (∀ W, Below w5.heap.size w5 W → Calls Try.prog 18 #[ptrD a5] W fun e w' => e = .returned (.int .i64 128) ∧ Below W.heap.size W w') := fun W hW => by
    have key := sCap_c (at_grow hd6 hW) ok6 (sat6.grow hW)
    rw [q5.good.geo.cap] at key
    exact key
  clear q2 q3 q4 q5 q6 hd6 sat6 hU6 ok6 hh5 hD5 HO1
  go_wp2_with fail
  refine (HL1.out).mono ?_
  rintro e w6 ⟨v6, rfl, ho6, hb6⟩
  have H6 : Hid (Below w5.heap.size w5 w6 ∧ OwnB w6 w5.heap.size v6 helloB) := ⟨hb6, ho6⟩
  have HC3 := Lib.hid (HC2.out w6 hb6)
  have cv := conv_b ho6.row HOK.out
  rw [HSH.out] at cv
  clear ho6 hb6 HL1 HC2
  go_wp2_with fail
  refine (HC3.out).mono ?_
  rintro e w7 ⟨rfl, hb⟩
  have H7 : Hid (Below w.heap.size w w7) := (H5.out.trans (H6.out.1.mono H5.out.size)).trans (hb.mono (Nat.le_trans H5.out.size H6.out.1.size))
  clear hb HC3
  go_wp2_with fail
  go_ret
  exact ⟨rfl, H7.out⟩
end Go.Proofs.Ytdcjchakgfpgaaa
