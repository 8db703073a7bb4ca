/- Layer 14: package store: newest. -/
import Derived.Test.YtdcjchakgfpgaaaMk
namespace Go.Proofs.Ytdcjchakgfpgaaa
open Go.RowKit
open Go.Shelf
/-- The same disk, but for how often its sectors were read. -/
structure SameD (d d' : DM) : Prop where
  safe : d'.safe = d.safe
  size : d'.size = d.size
  sectors : d'.sectors = d.sectors
  wait : d'.wait = d.wait
  left : d'.left = d.left
  done : d'.done = d.done
  armed : d'.armed = d.armed
  down : d'.down = d.down
theorem SameD.refl (d : DM) : SameD d d := ⟨rfl, rfl, rfl, rfl, rfl, rfl, rfl, rfl⟩
theorem SameD.trans {a b c : DM} (h : SameD a b) (k : SameD b c) : SameD a c := ⟨k.safe.trans h.safe, k.size.trans h.size, k.sectors.trans h.sectors, k.wait.trans h.wait, k.left.trans h.left, k.done.trans h.done, k.armed.trans h.armed, k.down.trans h.down⟩
theorem SameD.now {a b : DM} (h : SameD a b) : nowD b = nowD a := by unfold nowD; rw [h.safe, h.size, h.wait]
theorem SameD.cap {a b : DM} (h : SameD a b) : capI b = capI a := by unfold capI halfI; rw [h.sectors, h.size]
theorem SameD.half {a b : DM} (h : SameD a b) : halfI b = halfI a := by unfold halfI; rw [h.sectors]
theorem SameD.read (d : DM) (i : Int) : SameD d (readD d i).1 := by
  unfold readD
  split
  · exact .refl d
  · split
    · exact .refl d
    · exact ⟨rfl, rfl, rfl, rfl, rfl, rfl, rfl, rfl⟩
theorem secD_secZ {d : DM} {z : Nat} (hz : d.size = (z : Int)) (i : Nat) : secD d (i : Int) = secZ z i (nowD d) := by
  unfold secD secZ
  rw [hz, nat_mul_int, Int.toNat_natCast, Int.toNat_natCast]
theorem read_up {d : DM} {i : Int} (hd : d.down = false) (hi : 0 ≤ i ∧ i < d.sectors) : (readD d i).2 = (0, secD d i) := by
  unfold readD
  have h : hasD d i = true := by unfold hasD; simp; omega
  rw [if_neg (by rw [hd]; decide), if_neg (by rw [h]; decide)]
theorem kRead_up (T : Nat → Prop) (w : World) (g : Nat) (d : DM) (z i : Nat) (h : At12 T w g d) (ok : OkD d 1000) (hd : d.down = false) (hz : d.size = (z : Int)) (hi : (i : Int) < d.sectors) : Calls Try.prog 49 #[ptrD g, .int .i64 (i : Int)] w fun e w' => ∃ T' v, e = .returned (.tuple #[v, .int .i64 0]) ∧ At12 T' w' g (readD d i).1 ∧ To T w T' w' ∧ OwnB w' w.heap.size v (secZ z i (nowD d)) ∧ ∀ k, v.ownBlock = some k → ¬ T' k := by
  have key := kRead_c T w g d i h ok (by have := ok.made; unfold diskOkI at this; unfold rngI; omega)
  rw [read_up hd ⟨by omega, hi⟩] at key
  dsimp only at key
  rw [secD_secZ hz] at key
  exact key
/-- The younger of a header found before and one that bytes are. -/
def nextL (l : Hd) (o : Option Hd) : Hd := match o with
  | none => l
  | some h => if h.gen > l.gen then h else l
def lastL (z : Nat) (cap : Int) (A : List Int) : Nat → Hd
  | 0 => zeroHd
  | k + 1 => nextL (lastL z cap A k) (decI (secZ z k A) cap)
theorem lastL_img {z H : Nat} {A : List Int} {h : Hd} {D : List Int} (im : Img z H A h D) : lastL z ((H * z : Nat) : Int) A 2 = h := by
  have h1 : decI (secZ z (h.gen % 2).toNat A) ((H * z : Nat) : Int) = some h := by rw [im.head]; exact dec_hdr im.size im.right
  have h2 : ∀ r, decI (secZ z ((h.gen + 1) % 2).toNat A) ((H * z : Nat) : Int) = some r → r.gen < h.gen := fun r hr => by
    have := safe_dec im.other hr
    omega
  have hg : 1 ≤ h.gen := im.right.1
  have hz : zeroHd.gen = 0 := rfl
  have e2 : lastL z ((H * z : Nat) : Int) A 2 = nextL (nextL zeroHd (decI (secZ z 0 A) ((H * z : Nat) : Int))) (decI (secZ z 1 A) ((H * z : Nat) : Int)) := rfl
  rw [e2]
  rcases (by omega : h.gen % 2 = 0 ∧ (h.gen + 1) % 2 = 1 ∨ h.gen % 2 = 1 ∧ (h.gen + 1) % 2 = 0) with ⟨e1, e2⟩ | ⟨e1, e2⟩
  · rw [e1] at h1
    rw [e2] at h2
    have h1' : decI (secZ z 0 A) ((H * z : Nat) : Int) = some h := h1
    have h2' : ∀ r, decI (secZ z 1 A) ((H * z : Nat) : Int) = some r → r.gen < h.gen := h2
    rw [h1']
    have e3 : nextL zeroHd (some h) = h := if_pos (by rw [hz]; omega)
    rw [e3]
    cases ho : decI (secZ z 1 A) ((H * z : Nat) : Int) with
    | none => rfl
    | some r => exact if_neg (by have := h2' r ho; omega)
  · rw [e1] at h1
    rw [e2] at h2
    have h1' : decI (secZ z 1 A) ((H * z : Nat) : Int) = some h := h1
    have h2' : ∀ r, decI (secZ z 0 A) ((H * z : Nat) : Int) = some r → r.gen < h.gen := h2
    rw [h1']
    cases ho : decI (secZ z 0 A) ((H * z : Nat) : Int) with
    | none => exact if_pos (by show h.gen > zeroHd.gen; rw [hz]; omega)
    | some r =>
      have h3 := h2' r ho
      by_cases hr : r.gen > zeroHd.gen
      · have e4 : nextL zeroHd (some r) = r := if_pos hr
        rw [e4]
        exact if_pos (by omega)
      · have e4 : nextL zeroHd (some r) = zeroHd := if_neg hr
        rw [e4]
        exact if_pos (by rw [hz]; omega)
theorem results_hn {fn : Func} {tmps : Array Value} {W : World} {g : Nat} {h : Hd} {v : Value} (hres : fn.results = #[.cell 2 23, .tmp 3]) (hg : tmps[2]? = some (.pointer (some ⟨g, 0, none⟩))) (h3 : tmps[3]? = some v) (hb : Blk W g 23 (hdC h)) :
    (results fn tmps).run Try.prog W = .ok (.tuple #[hdV h, v]) W := by
  have c0 : W.cell? ⟨g, 0, none⟩ = some (.int .i64 h.gen) := hb.cell 0
  have c1 : W.cell? ⟨g, 1, none⟩ = some (.int .i64 h.half) := hb.cell 1
  have c2 : W.cell? ⟨g, 2, none⟩ = some (.int .i64 h.snap) := hb.cell 2
  have c3 : W.cell? ⟨g, 3, none⟩ = some (.int .i64 h.log) := hb.cell 3
  simp [results, hres, hg, h3, go_sem, c0, c1, c2, c3]
/-- How the disk stands when so many sectors from one on were read. -/
def readN (d : DM) (i0 : Nat) : Nat → DM
  | 0 => d
  | k + 1 => (readD (readN d i0 k) ((i0 + k : Nat) : Int)).1
theorem readN_same (d : DM) (i0 : Nat) : ∀ k, SameD d (readN d i0 k)
  | 0 => .refl d
  | k + 1 => (readN_same d i0 k).trans (.read _ _)
theorem readN_ok {d : DM} {m : Int} (h : OkD d m) (hm : 0 ≤ m) (i0 : Nat) : ∀ k, OkD (readN d i0 k) (m + k)
  | 0 => h.mono (by omega)
  | k + 1 => ((readN_ok h hm i0 k).read (by omega) _).mono (by omega)
end Go.Proofs.Ytdcjchakgfpgaaa
namespace Go.Proofs.Ytdcjchakgfpgaaa
open Go.RowKit
open Go.Shelf
/-- A disk changed, and what was made from G on. -/
structure ToG (T : Nat → Prop) (w : World) (G : Nat) (T' : Nat → Prop) (w' : World) : Prop where
  keep : Keep (fun k => ¬ T k ∧ k < G) w w'
  new : ∀ k, T' k → T k ∨ w.heap.size ≤ k
theorem ToG.refl (T : Nat → Prop) (w : World) (G : Nat) : ToG T w G T w := ⟨Keep.refl _ _, fun _ h => .inl h⟩
theorem ToG.to {T T' T'' : Nat → Prop} {w w' w'' : World} {G : Nat} (h : ToG T w G T' w') (k : To T' w' T'' w'') (_hG : G ≤ w.heap.size) : ToG T w G T'' w'' := by
  refine ⟨⟨k.keep.os.trans h.keep.os, k.keep.tape.trans h.keep.tape, k.keep.output.trans h.keep.output, Nat.le_trans h.keep.size k.keep.size, fun q hq hl => ?_⟩, fun q hq => ?_⟩
  · rw [k.keep.block q (fun hT => (h.new q hT).elim hq.1 (fun h2 => by omega)) (Nat.lt_of_lt_of_le hl h.keep.size), h.keep.block q hq hl]
  · rcases k.new q hq with h1 | h1
    · exact h.new q h1
    · exact .inr (Nat.le_trans h.keep.size h1)
theorem ToG.off {T T' : Nat → Prop} {w w' : World} {G : Nat} (h : ToG T w G T' w') {k : Nat} (hk : ¬ T k) (hl : k < w.heap.size) : ¬ T' k := fun hT => (h.new k hT).elim hk (fun h2 => by omega)
/-- On the way: the disk, read k times; the last header found. -/
def NewAt (T : Nat → Prop) (w2 : World) (g G : Nat) (d : DM) (z : Nat) (cap : Int) (A : List Int) (k : Nat) (wr : World) : Prop := ∃ T', At12 T' wr g (readN d 0 k) ∧ ToG T w2 G T' wr ∧ Blk wr (G + 1) 23 (hdC (lastL z cap A k)) ∧ Blk wr G 23 (hdC zeroHd)
theorem lastL_gen (z : Nat) (cap : Int) (A : List Int) : ∀ k, 0 ≤ (lastL z cap A k).gen
  | 0 => Int.le_refl 0
  | k + 1 => by
    show 0 ≤ (nextL _ _).gen
    have ih := lastL_gen z cap A k
    unfold nextL
    split
    · exact ih
    · split
      · omega
      · exact ih
theorem secZ_ok {z i : Nat} {A : List Int} (h : OkB A) : OkB (secZ z i A) := fun x hx => h x (List.mem_of_mem_drop (List.mem_of_mem_take hx))
theorem secZ_le {z i : Nat} {A : List Int} : (secZ z i A).length ≤ z := by unfold secZ; rw [List.length_take]; omega
theorem now_ok {d : DM} {m : Int} (h : OkD d m) : OkB (nowD d) := nowM_ok d.size d.wait d.safe h.byts (fun x hx => (h.wait x hx).2.2.2)
theorem Keep.set4h (w : World) (g : Nat) (x y z u : Value) : Keep (fun k => k ≠ g) w ((((w.setCell ⟨g, 0, none⟩ x).setCell ⟨g, 1, none⟩ y).setCell ⟨g, 2, none⟩ z).setCell ⟨g, 3, none⟩ u) :=
  (((Keep.setCell w ⟨g, 0, none⟩ x (by simp)).trans (Keep.setCell _ ⟨g, 1, none⟩ y (by simp))).trans (Keep.setCell _ ⟨g, 2, none⟩ z (by simp))).trans (Keep.setCell _ ⟨g, 3, none⟩ u (by simp))
set_option maxHeartbeats 8000000 in
set_option maxRecDepth 100000 in
theorem newest_c (T : Nat → Prop) (w : World) (g : Nat) (d : DM) (z : Nat) (m : Int) (cap : Int) (A : List Int) (hd : At12 T w g d) (ok : OkD d m) (hm0 : 0 ≤ m) (hm : m + 3 ≤ 1000) (hup : d.down = false) (hz : d.size = (z : Int)) (hA : nowD d = A) (hcap : capI d = cap) (h4 : 4 ≤ d.sectors) :
    Calls Try.prog 39 #[ptrD g] w fun e w' => ∃ T', e = .returned (.tuple #[hdV (if (lastL z cap A 2).gen = 0 then zeroHd else lastL z cap A 2), .int .i64 (if (lastL z cap A 2).gen = 0 then 43 else 0)]) ∧ At12 T' w' g (readN d 0 2) ∧ To T w T' w' := by
  obtain ⟨l, hl⟩ : ∃ l, lastL z cap A 2 = l := ⟨_, rfl⟩
  rw [hl]
  have HLL := Lib.hid hl
  clear hl
  have hz5 : z ≤ 512 := by have := ok.made.2.2.2; omega
  have HRD : Hid (∀ k W T', k < 2 → At12 T' W g (readN d 0 k) → Calls Try.prog 49 #[ptrD g, .int .i64 (k : Int)] W fun e w' => ∃ T'' v, e = .returned (.tuple #[v, .int .i64 0]) ∧ At12 T'' w' g (readN d 0 (k + 1)) ∧ To T' W T'' w' ∧ OwnB w' W.heap.size v (secZ z k A) ∧ ∀ q, v.ownBlock = some q → ¬ T'' q) := fun k W T' hk ha => by
    have hs := readN_same d 0 k
    have key := kRead_up T' W g (readN d 0 k) z k ha ((readN_ok ok hm0 0 k).mono (by omega)) (hs.down.trans hup) (hs.size.trans hz) (by rw [hs.sectors]; omega)
    rw [hs.now, hA] at key
    have e : readN d 0 (k + 1) = (readD (readN d 0 k) (k : Int)).1 := by show (readD (readN d 0 k) ((0 + k : Nat) : Int)).1 = _; rw [Nat.zero_add]
    rw [e]
    exact key
  have HCP : Hid (∀ k W T', k ≤ 2 → At12 T' W g (readN d 0 k) → Calls Try.prog 13 #[ptrD g] W fun e w' => e = .returned (.int .i64 cap) ∧ Below W.heap.size W w') := fun k W T' hk ha => by
    have key := capD_c T' W g _ ha ((readN_ok ok hm0 0 k).mono (by omega))
    rw [(readN_same d 0 k).cap, hcap] at key
    exact key
  have HDE : Hid (∀ W v k, OwnB W 0 v (secZ z k A) → Calls Try.prog 10 #[v, .int .i64 cap] W fun e w' => e = .returned (DecV (decI (secZ z k A) cap)) ∧ Below W.heap.size W w') := fun W v k ho => sdecode_c v _ cap W ho.row (by rw [← hA]; exact secZ_ok (now_ok ok)) ho.cap (by have := secZ_le (z := z) (i := k) (A := A); omega) (by have := capI_le ok.made; rw [hcap] at this; unfold rngI; omega)
  obtain ⟨G, hG⟩ : ∃ G, w.heap.size = G := ⟨_, rfl⟩
  obtain ⟨wa, hwa⟩ : ∃ x, w.alloc (.cells #[.int .i64 0, .int .i64 0, .int .i64 0, .int .i64 0] 23) = x := ⟨_, rfl⟩
  obtain ⟨w2, hw2⟩ : ∃ x, wa.alloc (.cells #[.int .i64 0, .int .i64 0, .int .i64 0, .int .i64 0] 23) = x := ⟨_, rfl⟩
  have has : wa.heap.size = G + 1 := by rw [← hwa, ← hG]; simp
  have H2 : Hid (Below w.heap.size w w2 ∧ ¬ T G ∧ ¬ T (G + 1) ∧ w2.heap.size = G + 2 ∧ G = w.heap.size ∧ NewAt T w2 g G d z cap A 0 w2) := by
    have b1 : Below w.heap.size w wa := by rw [← hwa]; exact (Below.refl _ _).alloc (Nat.le_refl _) _
    have b2 : Below wa.heap.size wa w2 := by rw [← hw2]; exact (Below.refl _ _).alloc (Nat.le_refl _) _
    have b3 := b1.trans (b2.mono b1.size)
    refine ⟨b3, fun h => ?_, fun h => ?_, by rw [← hw2, World.alloc]; simp [has], hG.symm, T, at_grow hd b3, ToG.refl _ _ _, ?_, ?_⟩
    · have := at_lt hd h; omega
    · have := at_lt hd h; omega
    · rw [← hw2, ← has]
      exact Blk.new _ _ _
    · have hb : Blk wa G 23 (hdC zeroHd) := by rw [← hwa, ← hG]; exact Blk.new _ _ _
      exact hb.grow b2
  clear hd ok hm0 hm hup hz hA hcap h4 hz5
  go_enter Try.func39, Try.ntmps39
  go_upto_region 2 with fail
  try rw [hwa]
  try rw [has]
  try rw [hw2]
  try rw [hG]
  clear hwa hw2 has hG
  go_wp2_with fail
  go_loopw [5, 6, 7, 8, 9, 10] (fun _ _ _ _ _ s10 wr => ∃ k : Nat, k ≤ 2 ∧ s10 = .int .i64 (k : Int) ∧ Hid (NewAt T w2 g G d z cap A k wr)) (fun _ _ _ _ _ s10 _ => 2 - (intOf s10).toNat)
  case atStart => exact ⟨0, by omega, rfl, H2.out.2.2.2.2.2⟩
  case round =>
    obtain ⟨k, hk, rfl, hw⟩ := hrel
    obtain ⟨T', hat, hto, hbl, hbr⟩ := hw.out
    have HT := Lib.hid (And.intro hat (And.intro hto (And.intro hbl hbr)))
    clear hw hat hto hbl hbr
    by_cases hlt : k < 2
    · have hd : decide ((k : Int) < 2) = true := by simp; omega
      have HK : Hid (k < 2) := hlt
      have HR1 := Lib.hid (HRD.out k wr T' hlt HT.out.1)
      clear hk
      go_wp2_with fail
      refine (HR1.out).mono ?_
      rintro e wb ⟨T2, v, rfl, ha2, ht2, ho2, hof2⟩
      have HB : Hid (At12 T2 wb g (readN d 0 (k + 1)) ∧ ToG T w2 G T2 wb ∧ OwnB wb 0 v (secZ z k A) ∧ Blk wb (G + 1) 23 (hdC (lastL z cap A k)) ∧ Blk wb G 23 (hdC zeroHd) ∧ w2.heap.size ≤ wb.heap.size) := by
        have h1 : ¬ T' (G + 1) := HT.out.2.1.off H2.out.2.2.1 (by have := H2.out.2.2.2.1; omega)
        have h2 : ¬ T' G := HT.out.2.1.off H2.out.2.1 (by have := H2.out.2.2.2.1; omega)
        exact ⟨ha2, HT.out.2.1.to ht2 (by have := H2.out.2.2.2.1; omega), owns_base ho2 (Nat.zero_le _), ht2.blk14 HT.out.2.2.1 h1, ht2.blk14 HT.out.2.2.2 h2, Nat.le_trans HT.out.2.1.keep.size ht2.keep.size⟩
      have HC1 := Lib.hid (HCP.out (k + 1) wb T2 (by omega) ha2)
      clear ha2 ht2 ho2 hof2 HR1
      go_wp2_with fail
      refine (HC1.out).mono ?_
      rintro e wc ⟨rfl, hb⟩
      have HC : Hid (Below wb.heap.size wb wc) := hb
      have HD1 := Lib.hid (HDE.out wc v k (HB.out.2.2.1.grow hb))
      clear hb HC1
      obtain ⟨o, ho⟩ : ∃ o, decI (secZ z k A) cap = o := ⟨_, rfl⟩
      have HO := Lib.hid ho
      rw [ho] at HD1
      clear ho
      obtain ⟨r, hr⟩ : ∃ r, o.getD zeroHd = r := ⟨_, rfl⟩
      obtain ⟨q, hq⟩ : ∃ q, o.isSome = q := ⟨_, rfl⟩
      have HRQ : Hid (o.getD zeroHd = r ∧ o.isSome = q) := ⟨hr, hq⟩
      have hdv : DecV o = .tuple #[hdV r, .bool q] := by unfold DecV; rw [hr, hq]
      rw [hdv] at HD1
      clear hr hq hdv
      go_wp2_with fail
      refine (HD1.out).mono ?_
      rintro e wd ⟨rfl, hb⟩
      have HD : Hid (Below wb.heap.size wb wd) := HC.out.trans (hb.mono HC.out.size)
      clear hb HD1
      obtain ⟨S, hS⟩ : ∃ S, wd.heap.size = S := ⟨_, rfl⟩
      have HS := Lib.hid hS
      obtain ⟨we, hwe⟩ : ∃ x, wd.alloc (.cells #[.int .i64 0, .int .i64 0, .int .i64 0, .int .i64 0] 23) = x := ⟨_, rfl⟩
      have HE : Hid (Below wd.heap.size wd we ∧ Blk we S 23 #[.int .i64 0, .int .i64 0, .int .i64 0, .int .i64 0]) := by
        rw [← hwe, ← hS]
        exact ⟨(Below.refl _ _).alloc (Nat.le_refl _) _, Blk.new _ _ _⟩
      have z0 : we.cell? ⟨S, 0, none⟩ = some (.int .i64 0) := HE.out.2.cell 0
      have z1 : we.cell? ⟨S, 1, none⟩ = some (.int .i64 0) := HE.out.2.cell 1
      have z2 : we.cell? ⟨S, 2, none⟩ = some (.int .i64 0) := HE.out.2.cell 2
      have z3 : we.cell? ⟨S, 3, none⟩ = some (.int .i64 0) := HE.out.2.cell 3
      have y0 := HE.out.2.free 0
      have y1 := HE.out.2.free 1
      have y2 := HE.out.2.free 2
      have y3 := HE.out.2.free 3
      have ylt := HE.out.2.lt
      go_upto_region 9 with fail
      try rw [hwe]
      try rw [hS]
      clear hwe hS z0 z1 z2 z3 y0 y1 y2 y3 ylt
      obtain ⟨wf, hwf⟩ : ∃ WW, (((we.setCell ⟨S, 0, none⟩ (.int .i64 r.gen)).setCell ⟨S, 1, none⟩ (.int .i64 r.half)).setCell ⟨S, 2, none⟩ (.int .i64 r.snap)).setCell ⟨S, 3, none⟩ (.int .i64 r.log) = WW := ⟨_, rfl⟩
      have HF : Hid (Below wb.heap.size wb wf ∧ Blk wf S 23 (hdC r) ∧ S ≠ G ∧ S ≠ G + 1 ∧ w2.heap.size ≤ S) := by
        rw [← hwf]
        have hle : wd.heap.size ≤ S := by rw [HS.out]; exact Nat.le_refl _
        have h2 := H2.out.2.2.2.1
        have h3 := HB.out.2.2.2.2.2
        have h4 := HD.out.size
        have h5 := HS.out
        exact ⟨HD.out.trans ((((((HE.out.1).setCell hle _).setCell hle _).setCell hle _).setCell hle _).mono HD.out.size), set4_blk HE.out.2 _ _ _ _, by omega, by omega, by omega⟩
      rw [hwf]
      clear hwf HE
      have HN2 : Hid (At12 T2 wf g (readN d 0 (k + 1)) ∧ ToG T w2 G T2 wf ∧ Blk wf (G + 1) 23 (hdC (lastL z cap A k)) ∧ Blk wf G 23 (hdC zeroHd)) := ⟨at_grow HB.out.1 HF.out.1, HB.out.2.1.to (To.below HF.out.1) (by have := H2.out.2.2.2.1; omega), HB.out.2.2.2.1.grow HF.out.1, HB.out.2.2.2.2.1.grow HF.out.1⟩
      obtain ⟨lk, hl⟩ : ∃ l, lastL z cap A k = l := ⟨_, rfl⟩
      have HL := Lib.hid hl
      rw [hl] at HN2
      clear hl
      obtain ⟨l0, l1, l2, l3⟩ := HN2.out.2.2.1.hd4c
      obtain ⟨r0, r1, r2, r3⟩ := HF.out.2.1.hd4c
      have k0 := HN2.out.2.2.1.free 0
      have k1 := HN2.out.2.2.1.free 1
      have k2 := HN2.out.2.2.1.free 2
      have k3 := HN2.out.2.2.1.free 3
      have klt := HN2.out.2.2.1.lt
      have HNX : Hid (lastL z cap A (k + 1) = if q = true ∧ r.gen > lk.gen then r else lk) := by
        show nextL (lastL z cap A k) (decI (secZ z k A) cap) = _
        rw [HL.out, HO.out]
        have h1 := HRQ.out.1
        have h2 := HRQ.out.2
        cases o with
        | none =>
          have h3 : q = false := h2.symm
          rw [h3, if_neg (fun h => Bool.noConfusion h.1)]
          rfl
        | some x =>
          have h3 : q = true := h2.symm
          have h4 : x = r := h1
          rw [h3, h4]
          unfold nextL
          dsimp only
          by_cases hc : r.gen > lk.gen
          · rw [if_pos hc, if_pos ⟨rfl, hc⟩]
          · rw [if_neg hc, if_neg (fun h => hc h.2)]
      have HKK2 : Hid (k + 1 ≤ 2) := hlt
      clear hlt
      cases q with
      | false =>
        have HEND : Hid (NewAt T w2 g G d z cap A (k + 1) wf) := ⟨T2, HN2.out.1, HN2.out.2.1, by rw [HNX.out, if_neg (fun h => Bool.noConfusion h.1)]; exact HN2.out.2.2.1, HN2.out.2.2.2⟩
        clear l0 l1 l2 l3 r0 r1 r2 r3 k0 k1 k2 k3 klt
        have hk2 : k < 2 := HK.out
        go_wp2_with fail
        exact ⟨⟨k + 1, HKK2.out, by go_num, HEND.out⟩, by simp [intOf]; omega⟩
      | true =>
        by_cases hc : r.gen > lk.gen
        · have e1 : decide (r.gen > lk.gen) = true := decide_eq_true hc
          have e2 : decide (lk.gen < r.gen) = true := decide_eq_true hc
          obtain ⟨wg, hwg⟩ : ∃ WW, (((wf.setCell ⟨G + 1, 0, none⟩ (.int .i64 r.gen)).setCell ⟨G + 1, 1, none⟩ (.int .i64 r.half)).setCell ⟨G + 1, 2, none⟩ (.int .i64 r.snap)).setCell ⟨G + 1, 3, none⟩ (.int .i64 r.log) = WW := ⟨_, rfl⟩
          have HEND : Hid (NewAt T w2 g G d z cap A (k + 1) wg) := by
            have hkp : Keep (fun q => q ≠ G + 1) wf wg := by rw [← hwg]; exact Keep.set4h _ _ _ _ _ _
            have hn : ¬ T2 (G + 1) := HN2.out.2.1.off H2.out.2.2.1 (by have := H2.out.2.2.2.1; omega)
            refine ⟨T2, at_keep HN2.out.1 (hkp.mono fun q hT e => hn (e ▸ hT)), ⟨HN2.out.2.1.keep.trans (hkp.mono fun q hq e => by have := hq.2; omega), HN2.out.2.1.new⟩, ?_, hkp.blk HN2.out.2.2.2 (by omega)⟩
            · rw [HNX.out, if_pos ⟨rfl, hc⟩, ← hwg]
              exact set4_blk HN2.out.2.2.1 _ _ _ _
          clear hc
          have hk2 : k < 2 := HK.out
          go_wp2_with fail
          try rw [hwg]
          exact ⟨⟨k + 1, HKK2.out, by go_num, HEND.out⟩, by simp [intOf]; omega⟩
        · have e1 : decide (r.gen > lk.gen) = false := decide_eq_false hc
          have e2 : decide (lk.gen < r.gen) = false := decide_eq_false hc
          have HEND : Hid (NewAt T w2 g G d z cap A (k + 1) wf) := ⟨T2, HN2.out.1, HN2.out.2.1, by rw [HNX.out, if_neg (fun h => hc h.2)]; exact HN2.out.2.2.1, HN2.out.2.2.2⟩
          have hk2 : k < 2 := HK.out
          go_wp2_with fail
          exact ⟨⟨k + 1, HKK2.out, by go_num, HEND.out⟩, by simp [intOf]; omega⟩
    · have hd : decide ((k : Int) < 2) = false := by simp; omega
      have hk2 : k = 2 := by omega
      subst hk2
      have hge := lastL_gen z cap A 2
      rw [HLL.out] at HT hge
      clear hlt
      obtain ⟨l0, l1, l2, l3⟩ := HT.out.2.2.1.hd4c
      have c0 : wr.cell? ⟨G, 0, none⟩ = some (.int .i64 0) := HT.out.2.2.2.cell 0
      have c1 : wr.cell? ⟨G, 1, none⟩ = some (.int .i64 0) := HT.out.2.2.2.cell 1
      have c2 : wr.cell? ⟨G, 2, none⟩ = some (.int .i64 0) := HT.out.2.2.2.cell 2
      have c3 : wr.cell? ⟨G, 3, none⟩ = some (.int .i64 0) := HT.out.2.2.2.cell 3
      have k0 := HT.out.2.2.2.free 0
      have k1 := HT.out.2.2.2.free 1
      have k2 := HT.out.2.2.2.free 2
      have k3 := HT.out.2.2.2.free 3
      have klt := HT.out.2.2.2.lt
      have HFIN : Hid (∀ a b c e : Value, At12 T' ((((wr.setCell ⟨G, 0, none⟩ a).setCell ⟨G, 1, none⟩ b).setCell ⟨G, 2, none⟩ c).setCell ⟨G, 3, none⟩ e) g (readN d 0 2) ∧ To T w T' ((((wr.setCell ⟨G, 0, none⟩ a).setCell ⟨G, 1, none⟩ b).setCell ⟨G, 2, none⟩ c).setCell ⟨G, 3, none⟩ e)) := fun a b c e => by
        have hkp := Keep.set4h wr G a b c e
        have hn : ¬ T' G := HT.out.2.1.off H2.out.2.1 (by have := H2.out.2.2.2.1; omega)
        refine ⟨at_keep HT.out.1 (hkp.mono fun q hT e => hn (e ▸ hT)), ?_⟩
        have h0 := H2.out.1
        have h1 := HT.out.2.1
        have h2 := H2.out.2.2.2.2.1
        refine ⟨⟨(hkp.os.trans h1.keep.os).trans h0.os, (hkp.tape.trans h1.keep.tape).trans h0.tape, (hkp.output.trans h1.keep.output).trans h0.output, Nat.le_trans h0.size (Nat.le_trans h1.keep.size hkp.size), fun q hq hl => ?_⟩, fun q hq => (h1.new q hq).imp id (fun h3 => Nat.le_trans h0.size h3)⟩
        rw [hkp.block q (by omega) (Nat.lt_of_lt_of_le hl (Nat.le_trans h0.size h1.keep.size)), h1.keep.block q ⟨hq, by omega⟩ (Nat.lt_of_lt_of_le hl h0.size)]
        exact h0.block q hl
      by_cases h0 : l.gen = 0
      · have e0 : decide (l.gen = 0) = true := decide_eq_true h0
        go_wp2_with fail
        exact bodyPost_ret (results_hn (h := zeroHd) rfl rfl rfl (set4_blk HT.out.2.2.2 _ _ _ _)) rfl ⟨by first | rfl | (rw [if_pos h0, if_pos h0]) | simp [h0], T', HFIN.out _ _ _ _⟩
      · have e0 : decide (l.gen = 0) = false := decide_eq_false h0
        go_wp2_with fail
        exact bodyPost_ret (results_hn (h := l) rfl rfl rfl (set4_blk HT.out.2.2.2 _ _ _ _)) rfl ⟨by first | rfl | (rw [if_neg h0, if_neg h0]) | simp [h0], T', HFIN.out _ _ _ _⟩
end Go.Proofs.Ytdcjchakgfpgaaa
