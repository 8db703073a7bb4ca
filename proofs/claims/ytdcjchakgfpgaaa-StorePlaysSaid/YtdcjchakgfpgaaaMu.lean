/- Layer 14: a disk formatted; a store opened on its image. -/
import Derived.Test.YtdcjchakgfpgaaaMr
import Derived.Test.YtdcjchakgfpgaaaMm
namespace Go.Proofs.Ytdcjchakgfpgaaa
open Go.RowKit
open Go.Shelf
/-- The disk's measures, as whole numbers. -/
structure Geo (d : DM) (z H : Nat) : Prop where
  size : d.size = (z : Int)
  half : halfI d = (H : Int)
  sec : 2 + 2 * (H : Int) ≤ d.sectors
  z32 : 32 ≤ z
  h1 : 1 ≤ H
theorem Geo.same {d d' : DM} {z H : Nat} (g : Geo d z H) (h1 : d'.size = d.size) (h2 : d'.sectors = d.sectors) : Geo d' z H := ⟨h1.trans g.size, by rw [halfI_same h2]; exact g.half, by rw [h2]; exact g.sec, g.z32, g.h1⟩
theorem Geo.cap {d : DM} {z H : Nat} (g : Geo d z H) : capI d = ((H * z : Nat) : Int) := by
  unfold capI
  have h1 := g.sec
  have h2 := g.h1
  have h3 := g.z32
  rw [if_neg (by rw [g.size]; omega), g.half, g.size, nat_mul_int]
theorem cmd_out (d : DM) (hd : d.down = false) : ((cmdD d).2 = 0 ∧ (cmdD d).1.down = false) ∨ ((cmdD d).2 = 40 ∧ (cmdD d).1.down = true) := by
  unfold cmdD cmdOut
  dsimp only
  split
  · exact .inr ⟨rfl, rfl⟩
  · split
    · exact .inl ⟨rfl, hd⟩
    · exact .inl ⟨rfl, hd⟩
theorem cmd_free (d : DM) (ha : d.armed = false) : (cmdD d).2 = 0 ∧ (cmdD d).1.armed = false := by
  unfold cmdD cmdOut
  dsimp only
  rw [ha]
  exact ⟨rfl, rfl⟩
theorem cmd_keeps (d : DM) : (cmdD d).1.safe = d.safe ∧ (cmdD d).1.wait = d.wait ∧ (cmdD d).1.armed = d.armed := by
  unfold cmdD cmdOut
  dsimp only
  refine ⟨rfl, rfl, ?_⟩
  split
  · rfl
  · split <;> rfl
/-- A write of a whole sector on a disk that is up: it waits; done, or the power went. -/
theorem write_up {d : DM} {i : Int} {b : List Int} (hd : d.down = false) (hi : 0 ≤ i ∧ i < d.sectors) (hb : (b.length : Int) = d.size) :
    (writeD d i b).1.safe = d.safe ∧ (writeD d i b).1.wait = d.wait ++ [(i, b)] ∧ (((writeD d i b).2 = 0 ∧ (writeD d i b).1.down = false) ∨ ((writeD d i b).2 = 40 ∧ (writeD d i b).1.down = true)) ∧ (d.armed = false → (writeD d i b).2 = 0 ∧ (writeD d i b).1.armed = false) := by
  have e : writeD d i b = cmdD { d with wait := d.wait ++ [(i, b)] } := by
    unfold writeD
    have h : hasD d i = true := by unfold hasD; simp; omega
    rw [if_neg (by rw [hd]; decide), if_neg (by rw [h]; decide), if_neg (by rw [hb]; simp)]
  rw [e]
  have k := cmd_keeps { d with wait := d.wait ++ [(i, b)] }
  exact ⟨k.1, k.2.1, cmd_out _ hd, fun ha => cmd_free _ ha⟩
theorem sync_up {d : DM} (hd : d.down = false) :
    ((syncD d).2 = 0 ∧ (syncD d).1.down = false ∧ (syncD d).1.safe = nowD d ∧ (syncD d).1.wait = []) ∨ ((syncD d).2 = 40 ∧ (syncD d).1.down = true ∧ (syncD d).1.safe = d.safe ∧ (syncD d).1.wait = d.wait) := by
  have k := cmd_keeps d
  unfold syncD
  rw [if_neg (by rw [hd]; decide)]
  rcases cmd_out d hd with h | h
  · rw [if_pos h.1]
    exact .inl ⟨rfl, h.2, rfl, rfl⟩
  · rw [if_neg (by rw [h.1]; decide)]
    exact .inr ⟨h.1, h.2, k.1, k.2.1⟩
theorem sync_free {d : DM} (hd : d.down = false) (ha : d.armed = false) : (syncD d).2 = 0 ∧ (syncD d).1.armed = false := by
  have h := cmd_free d ha
  unfold syncD
  rw [if_neg (by rw [hd]; decide), if_pos h.1]
  exact ⟨rfl, h.2⟩
/-- The data's writes on a disk that is up. -/
theorem runN_up {d : DM} {z H : Nat} {half : Int} {D : List Int} {i0 : Nat} (g : Geo d z H) (hd : d.down = false) (hw : d.wait = []) (hh : 0 ≤ half ∧ half ≤ 1) : ∀ n, (∀ i, i < n → i0 + i < H ∧ (i0 + i) * z ≤ D.length) →
    (runN d H half D i0 n).1.safe = d.safe ∧ (((runN d H half D i0 n).2 = 0 ∧ (runN d H half D i0 n).1.down = false ∧ (runN d H half D i0 n).1.wait = dataW z H half D i0 n) ∨ ((runN d H half D i0 n).2 = 40 ∧ (runN d H half D i0 n).1.down = true ∧ ∃ j, j ≤ n ∧ (runN d H half D i0 n).1.wait = dataW z H half D i0 j)) ∧ (d.armed = false → (runN d H half D i0 n).2 = 0 ∧ (runN d H half D i0 n).1.armed = false)
  | 0, _ => ⟨rfl, .inl ⟨rfl, hd, hw⟩, fun ha => ⟨rfl, ha⟩⟩
  | n + 1, hf => by
    have ih := runN_up g hd hw hh n (fun i hi => hf i (by omega))
    have hs := runN_same d H half D i0 n
    obtain ⟨f1, f2⟩ := hf n (by omega)
    rw [runN]
    obtain ⟨r, hr⟩ : ∃ r, runN d H half D i0 n = r := ⟨_, rfl⟩
    rw [hr] at ih hs ⊢
    obtain ⟨i1, i2, i3⟩ := ih
    rcases i2 with ⟨a, b, c⟩ | ⟨a, b, j, c1, c2⟩
    · rw [if_pos a]
      have hz : d.size.toNat = z := by rw [g.size, Int.toNat_natCast]
      have hlen : ((padB d.size.toNat D (i0 + n)).length : Int) = r.1.size := by rw [hz, padB_len f2, hs.1, g.size]
      have hrange : 0 ≤ ((2 + half.toNat * H + (i0 + n) : Nat) : Int) ∧ ((2 + half.toNat * H + (i0 + n) : Nat) : Int) < r.1.sectors := by
        have h1 : half.toNat * H ≤ 1 * H := Nat.mul_le_mul_right H (by omega)
        have h2 := g.sec
        rw [hs.2]
        omega
      obtain ⟨w1, w2, w3, w4⟩ := write_up b hrange hlen
      refine ⟨w1.trans i1, ?_, fun ha => w4 (i3 ha).2⟩
      rw [c, hz] at w2
      rw [hz] at w3 ⊢
      rcases w3 with w3 | w3
      · exact .inl ⟨w3.1, w3.2, w2⟩
      · exact .inr ⟨w3.1, w3.2, n + 1, Nat.le_refl _, w2⟩
    · rw [if_neg (by rw [a]; decide)]
      exact ⟨i1, .inr ⟨a, b, j, by omega, c2⟩, i3⟩
theorem now_eq {d : DM} {z : Nat} (hz : d.size = (z : Int)) : nowD d = nowM (z : Int) d.safe d.wait := by unfold nowD; rw [hz]
/-- What came of a save: done; or the power went, and whatever a crash keeps, the elder's image is there, or the younger's. -/
def SavedTo (z H : Nat) (h : Hd) (D : List Int) (h' : Hd) (D' : List Int) (r : DM × Int) : Prop :=
  (r.2 = 0 ∧ r.1.down = false ∧ r.1.wait = [] ∧ Img z H r.1.safe h' D') ∨ (r.2 = 40 ∧ r.1.down = true ∧ ∀ keep torn cut, Img z H (crashM keep torn cut r.1.size 0 r.1.wait r.1.safe) h D ∨ Img z H (crashM keep torn cut r.1.size 0 r.1.wait r.1.safe) h' D')
theorem write_saved {d : DM} {z H : Nat} {h h' : Hd} {D D' : List Int} {i0 n : Nat} (g : Geo d z H) (hd : d.down = false) (hw : d.wait = []) (im : Img z H d.safe h D) (hg : h'.gen = h.gen + 1) (hr : okHd h' ((H * z : Nat) : Int)) (hlen : (D'.length : Int) = h'.snap + h'.log)
    (hf : ∀ i, i < n → i0 + i < H ∧ (i0 + i) * z ≤ D'.length) (hn : D'.length ≤ (i0 + n) * z) (hin : i0 + n ≤ H) (hal : (2 + 2 * H) * z ≤ d.safe.length)
    (h0 : ∀ j, j < i0 * z → j < D'.length → bAt d.safe (baseI z H h'.half + j) = bAt D' j) (harm : ∀ i, i < n → HarmP (KeepP z H h D) d.safe (z : Int) (((2 + h'.half.toNat * H + (i0 + i) : Nat) : Int), padB z D' (i0 + i))) :
    SavedTo z H h D h' D' (writeM d h' D' i0 n) ∧ (d.armed = false → (writeM d h' D' i0 n).2 = 0 ∧ (writeM d h' D' i0 n).1.armed = false) := by
  have hh : 0 ≤ h'.half ∧ h'.half ≤ 1 := ⟨hr.2.2.1, hr.2.2.2.1⟩
  have hHn : (halfI d).toNat = H := by rw [g.half, Int.toNat_natCast]
  have harmW : ∀ j, j ≤ n → ∀ x ∈ dataW z H h'.half D' i0 j, HarmP (KeepP z H h D) d.safe (z : Int) x := fun j hj x hx => by
    obtain ⟨i, hi, rfl⟩ := mem_dataW j hx
    exact harm i (by omega)
  have henc : encI h' d.size = hdrB h' z := by
    have he : encOk h' := ⟨by have := hr.1; omega, hr.2.2.1, hr.2.2.2.1, hr.2.2.2.2.1, hr.2.2.2.2.2.1, hr.2.2.2.2.2.2.1, hr.2.2.2.2.2.2.2.1⟩
    unfold encI
    rw [g.size, if_pos ⟨by have := g.z32; omega, he⟩, Int.toNat_natCast]
  have hidx : h'.gen % 2 = (((h'.gen % 2).toNat : Nat) : Int) := by omega
  obtain ⟨r1, r2, r3⟩ := runN_up (D := D') (i0 := i0) g hd hw hh n hf
  have rs := runN_same d H h'.half D' i0 n
  unfold writeM
  rw [hHn, henc]
  obtain ⟨ra, hra⟩ : ∃ r, runN d H h'.half D' i0 n = r := ⟨_, rfl⟩
  rw [hra] at r1 r2 r3 rs ⊢
  rcases Or.symm r2 with ⟨a, b, j, c1, c2⟩ | ⟨a, b, c⟩
  · rw [if_neg (by rw [a]; decide)]
    refine ⟨.inr ⟨a, b, fun keep torn cut => .inl ?_⟩, r3⟩
    rw [r1, c2, rs.1, g.size]
    exact im.crash_any (harmW j c1) keep torn cut 0
  rw [if_pos a]
  have ga : Geo ra.1 z H := g.same rs.1 rs.2
  have ss := sync_same ra.1
  have sf := fun ha => sync_free b (r3 ha).2
  obtain ⟨sa, hsa⟩ : ∃ r, syncD ra.1 = r := ⟨_, rfl⟩
  have su := sync_up b
  rw [hsa] at ss sf su ⊢
  rcases Or.symm su with ⟨s1, s2, s3, s4⟩ | ⟨s1, s2, s3, s4⟩
  · rw [if_neg (by rw [s1]; decide)]
    refine ⟨.inr ⟨s1, s2, fun keep torn cut => .inl ?_⟩, sf⟩
    rw [s3, s4, r1, c, ss.1, rs.1, g.size]
    exact im.crash_any (harmW n (Nat.le_refl _)) keep torn cut 0
  rw [if_pos s1]
  have gs : Geo sa.1 z H := ga.same ss.1 ss.2
  have hA1 : sa.1.safe = nowM (z : Int) d.safe (dataW z H h'.half D' i0 n) := by rw [s3, now_eq ga.size, r1, c]
  have im1 : Img z H sa.1.safe h D := by rw [hA1]; exact im.now_any (harmW n (Nat.le_refl _))
  have dt1 : DataAt z H sa.1.safe h' D' := by
    rw [hA1]
    refine dataW_all hlen h0 (fun i hi => (hf i hi).2) hn ?_
    unfold baseI
    rw [← Nat.add_mul]
    refine Nat.le_trans (Nat.mul_le_mul_right z ?_) hal
    have h1 : h'.half.toNat * H ≤ 1 * H := Nat.mul_le_mul_right H (by omega)
    omega
  have hbl : ((hdrB h' z).length : Int) = sa.1.size := by rw [hdrB_len g.z32, gs.size]
  obtain ⟨w1, w2, w3, w4⟩ := write_up (i := h'.gen % 2) s2 ⟨by omega, by have := gs.sec; have := gs.h1; omega⟩ hbl
  have ws := write_same sa.1 (h'.gen % 2) (hdrB h' z)
  obtain ⟨wa, hwa⟩ : ∃ r, writeD sa.1 (h'.gen % 2) (hdrB h' z) = r := ⟨_, rfl⟩
  rw [hwa] at w1 w2 w3 w4 ws ⊢
  rw [s4, List.nil_append, hidx] at w2
  have gw : Geo wa.1 z H := gs.same ws.1 ws.2
  have hcr : ∀ keep torn cut, Img z H (crashM keep torn cut wa.1.size 0 wa.1.wait wa.1.safe) h D ∨ Img z H (crashM keep torn cut wa.1.size 0 wa.1.wait wa.1.safe) h' D' := fun keep torn cut => by
    rw [w1, w2, gw.size]
    exact im1.crash hg hr dt1 keep torn cut 0
  rcases Or.symm w3 with w3 | w3
  · rw [if_neg (by rw [w3.1]; decide)]
    exact ⟨.inr ⟨w3.1, w3.2, hcr⟩, fun ha => w4 (sf ha).2⟩
  rw [if_pos w3.1]
  have yf := fun ha => sync_free w3.2 (w4 (sf ha).2).2
  have ys := sync_same wa.1
  have yu := sync_up w3.2
  obtain ⟨ya, hya⟩ : ∃ r, syncD wa.1 = r := ⟨_, rfl⟩
  rw [hya] at yf yu ys ⊢
  refine ⟨?_, yf⟩
  rcases yu with ⟨y1, y2, y3, y4⟩ | ⟨y1, y2, y3, y4⟩
  · refine .inl ⟨y1, y2, y4, ?_⟩
    rw [y3, now_eq gw.size, w1, w2]
    exact im1.saved hg hr dt1
  · refine .inr ⟨y1, y2, fun keep torn cut => ?_⟩
    rw [y3, y4, ys.1]
    exact hcr keep torn cut
end Go.Proofs.Ytdcjchakgfpgaaa
namespace Go.Proofs.Ytdcjchakgfpgaaa
open Go.RowKit
open Go.Shelf
/-- A store on a disk that was made for it. -/
structure Good (s : SM) (z H : Nat) (m gm : Int) : Prop where
  geo : Geo s.d z H
  ok : OkD s.d m
  byts : OkB s.D
  gen : s.h.gen ≤ gm
  right : okHd s.h ((H * z : Nat) : Int)
  len : (s.D.length : Int) = s.h.snap + s.h.log
structure Up (s : SM) (z H : Nat) (m gm : Int) : Prop where
  good : Good s z H m gm
  f : s.f = false
  down : s.d.down = false
  wait : s.d.wait = []
  img : Img z H s.d.safe s.h s.D
/-- A header and its data. -/
structure OkP (z H : Nat) (gm : Int) (h : Hd) (D : List Int) : Prop where
  byts : OkB D
  gen : h.gen ≤ gm
  right : okHd h ((H * z : Nat) : Int)
  len : (D.length : Int) = h.snap + h.log
structure Dn (s : SM) (z H : Nat) (m gm : Int) (h' : Hd) (D' : List Int) : Prop where
  good : Good s z H m gm
  f : s.f = true
  down : s.d.down = true
  next : OkP z H gm h' D'
  img : ∀ keep torn cut, Img z H (crashD s.d keep torn cut).safe s.h s.D ∨ Img z H (crashD s.d keep torn cut).safe h' D'
theorem Good.sok {s : SM} {z H : Nat} {m gm : Int} (g : Good s z H m gm) (hg : gm ≤ 1000000) : SOk s.d s.h s.D := by
  obtain ⟨g1, g2, a1, a2, s1, s2, l1, l2, c1, c2⟩ := g.right
  refine ⟨by have := g.geo.sec; have := g.geo.h1; omega, by rw [g.geo.size]; have := g.geo.z32; omega, g.len, g.byts, by rw [g.geo.cap, g.len]; omega, ⟨g1, by have := g.gen; omega⟩, ⟨a1, a2⟩, s1, l1⟩
theorem Good.fit {s : SM} {z H : Nat} {m gm : Int} (g : Good s z H m gm) : s.D.length ≤ H * z := by
  have h1 := g.len
  obtain ⟨_, _, _, _, _, _, _, _, c1, c2⟩ := g.right
  omega
theorem Good.area {s : SM} {z H : Nat} {m gm : Int} (g : Good s z H m gm) : (2 + 2 * H) * z ≤ s.d.safe.length := by
  have h1 := g.ok.len
  have h2 := g.geo.sec
  rw [g.geo.size] at h1
  have h3 : ((2 + 2 * H : Nat) : Int) * (z : Int) ≤ s.d.sectors * (z : Int) := Int.mul_le_mul_of_nonneg_right (by omega) (by omega)
  rw [nat_mul_int] at h3
  omega
theorem writeM_ok {d : DM} {m : Int} (h : OkD d m) (hm : 0 ≤ m) (hd : Hd) (_he : rngH hd) {D : List Int} (hD : OkB D) (i0 n : Nat) : OkD (writeM d hd D i0 n).1 (m + n + 3) := by
  have heb : OkB (encI hd d.size) := by
    unfold encI
    split
    · next hc => exact hdrB_ok ⟨hc.2.2.1, by have := hc.2.2.2.1; omega⟩
    · intro x hx; cases hx
  have h1 := runN_ok (H := (halfI d).toNat) (half := hd.half) (i0 := i0) h hD n
  unfold writeM
  split
  · have h2 := h1.sync (by omega)
    split
    · have h3 := h2.write (hd.gen % 2) heb
      split
      · exact (h3.sync (by omega)).mono (by omega)
      · exact h3.mono (by omega)
    · exact h2.mono (by omega)
  · exact h1.mono (by omega)
theorem writeM_same (d : DM) (h : Hd) (D : List Int) (i0 n : Nat) : (writeM d h D i0 n).1.size = d.size ∧ (writeM d h D i0 n).1.sectors = d.sectors := by
  have h1 := runN_same d (halfI d).toNat h.half D i0 n
  unfold writeM
  split
  · have h2 := sync_same (runN d (halfI d).toNat h.half D i0 n).1
    split
    · have h3 := write_same (syncD (runN d (halfI d).toNat h.half D i0 n).1).1 (h.gen % 2) (encI h d.size)
      split
      · have h4 := sync_same (writeD (syncD (runN d (halfI d).toNat h.half D i0 n).1).1 (h.gen % 2) (encI h d.size)).1
        exact ⟨h4.1.trans (h3.1.trans (h2.1.trans h1.1)), h4.2.trans (h3.2.trans (h2.2.trans h1.2))⟩
      · exact ⟨h3.1.trans (h2.1.trans h1.1), h3.2.trans (h2.2.trans h1.2)⟩
    · exact ⟨h2.1.trans h1.1, h2.2.trans h1.2⟩
  · exact h1
/-- A save of a store that is up. -/
theorem save_up {s : SM} {z H : Nat} {m gm : Int} (u : Up s z H m gm) (hm : 0 ≤ m) (h1 : Hd) (D' : List Int) (i0 : Nat) (hg : h1.gen = s.h.gen) (_hgm : gm ≤ 1000000) (p : OkP z H (gm + 1) ⟨h1.gen + 1, h1.half, h1.snap, h1.log⟩ D')
    (hi0 : i0 * z ≤ D'.length) (hn14 : needN z D'.length i0 ≤ 15)
    (h0 : ∀ j, j < i0 * z → j < D'.length → bAt s.d.safe (baseI z H h1.half + j) = bAt D' j) (harm : ∀ i, i0 + i < H → (i0 + i) * z ≤ D'.length → HarmP (KeepP z H s.h s.D) s.d.safe (z : Int) (((2 + h1.half.toNat * H + (i0 + i) : Nat) : Int), padB z D' (i0 + i))) :
    (((saveI s h1 D' i0).2 = 0 ∧ (saveI s h1 D' i0).1.h = ⟨h1.gen + 1, h1.half, h1.snap, h1.log⟩ ∧ (saveI s h1 D' i0).1.D = D' ∧ Up (saveI s h1 D' i0).1 z H (m + 20) (gm + 1)) ∨ ((saveI s h1 D' i0).2 = 40 ∧ (saveI s h1 D' i0).1.h = s.h ∧ (saveI s h1 D' i0).1.D = s.D ∧ Dn (saveI s h1 D' i0).1 z H (m + 20) (gm + 1) ⟨h1.gen + 1, h1.half, h1.snap, h1.log⟩ D'))
    ∧ (s.d.armed = false → (saveI s h1 D' i0).2 = 0 ∧ (saveI s h1 D' i0).1.d.armed = false) := by
  obtain ⟨d, h, D, f⟩ := s
  obtain ⟨g, hf, hdn, hw, im⟩ := u
  have area := g.area
  have fit := g.fit
  dsimp only at *
  have hz : d.size.toNat = z := by rw [g.geo.size, Int.toNat_natCast]
  have hz1 := g.geo.z32
  obtain ⟨n1, n2⟩ := need_ok (z := z) (len := D'.length) (i0 := i0) (by omega) hi0
  obtain ⟨n, hn⟩ : ∃ n, needN z D'.length i0 = n := ⟨_, rfl⟩
  have hfit' : D'.length ≤ H * z := by
    have h1 := p.len
    obtain ⟨_, _, _, _, _, _, _, _, c1, c2⟩ := p.right
    dsimp only at *
    omega
  have hlt : ∀ i, i < n → i0 + i < H ∧ (i0 + i) * z ≤ D'.length := fun i hi => by
    have h1 := n1 i (by omega)
    refine ⟨?_, by omega⟩
    apply Classical.byContradiction
    intro hno
    have h2 : H * z ≤ (i0 + i) * z := Nat.mul_le_mul_right z (by omega)
    omega
  have hin : i0 + n ≤ H := by
    cases n with
    | zero =>
      apply Classical.byContradiction
      intro hno
      have h2 : (H + 1) * z ≤ i0 * z := Nat.mul_le_mul_right z (by omega)
      rw [Nat.add_mul, Nat.one_mul] at h2
      omega
    | succ n => have := (hlt n (by omega)).1; omega
  rw [hn] at n1 n2 hn14
  unfold saveI
  dsimp only
  rw [hf, if_neg (by decide), hz, hn]
  obtain ⟨sv, fr⟩ := write_saved (h' := ⟨h1.gen + 1, h1.half, h1.snap, h1.log⟩) (D' := D') (i0 := i0) (n := n) g.geo hdn hw im (by dsimp only; rw [hg]) p.right p.len hlt n2 hin area h0 (fun i hi => harm i (hlt i hi).1 (hlt i hi).2)
  have hrg : rngH ⟨h1.gen + 1, h1.half, h1.snap, h1.log⟩ := by
    obtain ⟨q1, q2, q3, q4, q5, q6, q7, q8, q9, q10⟩ := p.right
    dsimp only at *
    exact ⟨⟨by dsimp only; omega, q2⟩, ⟨by dsimp only; omega, by dsimp only; omega⟩, ⟨by dsimp only; omega, by dsimp only; omega⟩, ⟨by dsimp only; omega, by dsimp only; omega⟩⟩
  have wok := writeM_ok g.ok hm ⟨h1.gen + 1, h1.half, h1.snap, h1.log⟩ hrg p.byts i0 n
  have ws := writeM_same d ⟨h1.gen + 1, h1.half, h1.snap, h1.log⟩ D' i0 n
  obtain ⟨r, hr⟩ : ∃ r, writeM d ⟨h1.gen + 1, h1.half, h1.snap, h1.log⟩ D' i0 n = r := ⟨_, rfl⟩
  rw [hr] at sv fr wok ws ⊢
  have geo' : Geo r.1 z H := g.geo.same ws.1 ws.2
  have ok' : OkD r.1 (m + 20) := wok.mono (by omega)
  rcases sv with ⟨a, b, c, e⟩ | ⟨a, b, e⟩
  · rw [if_pos a]
    exact ⟨.inl ⟨rfl, rfl, rfl, ⟨⟨geo', ok', p.byts, p.gen, p.right, p.len⟩, rfl, b, c, e⟩⟩, fun ha => ⟨rfl, (fr ha).2⟩⟩
  · rw [if_neg (by rw [a]; decide)]
    refine ⟨.inr ⟨a, rfl, rfl, ⟨⟨geo', ok', g.byts, by have := g.gen; dsimp only at *; omega, g.right, g.len⟩, rfl, b, p, e⟩⟩, fun ha => by
      have := (fr ha).1
      rw [a] at this
      exact absurd this (by decide)⟩
theorem need_small {z L M : Nat} (hz : 32 ≤ z) (hM : M ≤ 400) : needN z (L + M) (L / z) ≤ 15 := by
  unfold needN
  have h1 : L < L / z * z + z := Nat.lt_div_mul_add (by omega)
  have h2 : (L + M + z - 1) / z ≤ L / z + 15 := by
    apply Nat.le_of_lt_succ
    apply (Nat.div_lt_iff_lt_mul (by omega)).2
    have h5 : (L / z + 15 + 1) * z = L / z * z + 16 * z := by rw [Nat.add_assoc, Nat.add_mul]
    show L + M + z - 1 < (L / z + 15 + 1) * z
    rw [h5]
    omega
  omega
theorem bAt_img {z H : Nat} {A : List Int} {h : Hd} {D : List Int} (d : DataAt z H A h D) {j : Nat} (hj : j < D.length) : bAt A (baseI z H h.half + j) = bAt D j := by
  have e := d.2
  have e1 : D[j]? = A[baseI z H h.half + j]? := by
    have e2 : D[j]? = ((A.drop (baseI z H h.half)).take D.length)[j]? := by rw [show (A.drop (baseI z H h.half)).take D.length = D from e]
    rw [e2, List.getElem?_take, if_pos hj, List.getElem?_drop]
  unfold bAt
  rw [List.getD_eq_getElem?_getD, List.getD_eq_getElem?_getD, e1]
theorem app_up {s : SM} {z H : Nat} {m gm : Int} (u : Up s z H m gm) (hm : 0 ≤ m) (hgm : gm ≤ 1000000) {b : List Int} (hb : OkB b) (hl : b.length ≤ 400) (hH : ((H * z : Nat) : Int) ≤ 1000000) (hfit : ¬ (b.length : Int) > capI s.d - (s.D.length : Int)) :
    (((appI s b).2 = 0 ∧ (appI s b).1.h = ⟨s.h.gen + 1, s.h.half, s.h.snap, s.h.log + (b.length : Int)⟩ ∧ (appI s b).1.D = s.D ++ b ∧ Up (appI s b).1 z H (m + 20) (gm + 1)) ∨ ((appI s b).2 = 40 ∧ (appI s b).1.h = s.h ∧ (appI s b).1.D = s.D ∧ Dn (appI s b).1 z H (m + 20) (gm + 1) ⟨s.h.gen + 1, s.h.half, s.h.snap, s.h.log + (b.length : Int)⟩ (s.D ++ b)))
    ∧ (s.d.armed = false → (appI s b).2 = 0 ∧ (appI s b).1.d.armed = false) := by
  have hz : s.d.size.toNat = z := by rw [u.good.geo.size, Int.toNat_natCast]
  have hz1 := u.good.geo.z32
  have hcap := u.good.geo.cap
  unfold appI
  rw [if_neg hfit, hz]
  rw [hcap] at hfit
  have hle : s.D.length / z * z ≤ s.D.length := Nat.div_mul_le_self _ _
  have hpre : s.D <+: s.D ++ b := ⟨b, rfl⟩
  obtain ⟨q1, q2, q3, q4, q5, q6, q7, q8, q9, q10⟩ := u.good.right
  have hln := u.good.len
  have hgn := u.good.gen
  refine save_up u hm ⟨s.h.gen, s.h.half, s.h.snap, s.h.log + (b.length : Int)⟩ (s.D ++ b) _ rfl hgm ?_ ?_ ?_ ?_ ?_
  · refine ⟨OkB.append u.good.byts hb, by dsimp only; omega, ⟨by dsimp only; omega, by dsimp only; omega, q3, q4, q5, q6, by dsimp only; omega, by dsimp only; omega, q9, by dsimp only; omega⟩, by rw [List.length_append]; dsimp only; omega⟩
  · rw [List.length_append]; omega
  · rw [List.length_append]; exact need_small hz1 hl
  · intro j hj hj2
    rw [bAt_img u.img.data (by omega)]
    unfold bAt
    rw [List.getD_eq_getElem?_getD, List.getD_eq_getElem?_getD, List.getElem?_append_left (by omega)]
  · intro i hi hi2
    exact harm_grow u.img hpre hi2
theorem comp_up {s : SM} {z H : Nat} {m gm : Int} (u : Up s z H m gm) (hm : 0 ≤ m) (hgm : gm ≤ 1000000) {b : List Int} (hb : OkB b) (hl : b.length ≤ 400) (hfit : ¬ (b.length : Int) > capI s.d) :
    (((compI s b).2 = 0 ∧ (compI s b).1.h = ⟨s.h.gen + 1, 1 - s.h.half, (b.length : Int), 0⟩ ∧ (compI s b).1.D = b ∧ Up (compI s b).1 z H (m + 20) (gm + 1)) ∨ ((compI s b).2 = 40 ∧ (compI s b).1.h = s.h ∧ (compI s b).1.D = s.D ∧ Dn (compI s b).1 z H (m + 20) (gm + 1) ⟨s.h.gen + 1, 1 - s.h.half, (b.length : Int), 0⟩ b))
    ∧ (s.d.armed = false → (compI s b).2 = 0 ∧ (compI s b).1.d.armed = false) := by
  have hz1 := u.good.geo.z32
  have hcap := u.good.geo.cap
  unfold compI
  rw [if_neg hfit]
  rw [hcap] at hfit
  obtain ⟨q1, q2, q3, q4, q5, q6, q7, q8, q9, q10⟩ := u.good.right
  have hgn := u.good.gen
  refine save_up u hm ⟨s.h.gen, 1 - s.h.half, (b.length : Int), 0⟩ b 0 rfl hgm ?_ ?_ ?_ ?_ ?_
  · exact ⟨hb, by dsimp only; omega, ⟨by dsimp only; omega, by dsimp only; omega, by dsimp only; omega, by dsimp only; omega, by dsimp only; omega, by dsimp only; omega, Int.le_refl _, by dsimp only; omega, by dsimp only; omega, by dsimp only; omega⟩, by dsimp only; omega⟩
  · rw [Nat.zero_mul]; exact Nat.zero_le _
  · have := need_small (z := z) (L := 0) (M := b.length) hz1 hl
    rw [Nat.zero_add, Nat.zero_div] at this
    exact this
  · intro j hj hj2
    rw [Nat.zero_mul] at hj
    exact absurd hj (Nat.not_lt_zero _)
  · intro i hi hi2
    exact harm_other u.img u.good.fit ⟨by dsimp only; omega, by dsimp only; omega, by dsimp only; omega⟩ hi hi2
end Go.Proofs.Ytdcjchakgfpgaaa
namespace Go.Proofs.Ytdcjchakgfpgaaa
open Go.RowKit
open Go.Shelf
/-- A disk that is up, with nothing waiting. -/
structure Idle (d : DM) (z H : Nat) (m : Int) : Prop where
  geo : Geo d z H
  ok : OkD d m
  down : d.down = false
  wait : d.wait = []
theorem format_up {d : DM} {z H : Nat} {m : Int} (i : Idle d z H m) (hm : 0 ≤ m) (ha : d.armed = false) :
    ∃ d1 d2, writeD d 0 (List.replicate z 0) = (d1, 0) ∧ syncD d1 = (d2, 0) ∧ (saveI ⟨d2, zeroHd, [], false⟩ zeroHd [] 0).2 = 0 ∧ (saveI ⟨d2, zeroHd, [], false⟩ zeroHd [] 0).1.d.armed = false ∧ Idle (saveI ⟨d2, zeroHd, [], false⟩ zeroHd [] 0).1.d z H (m + 20) ∧ Img z H (saveI ⟨d2, zeroHd, [], false⟩ zeroHd [] 0).1.d.safe ⟨1, 0, 0, 0⟩ [] := by
  have g := i.geo
  have h32 := g.z32
  have hbz : OkB (List.replicate z (0 : Int)) := fun x hx => by rw [(List.mem_replicate.1 hx).2]; decide
  obtain ⟨w1, w2, w3, w4⟩ := write_up (i := 0) (b := List.replicate z 0) i.down ⟨Int.le_refl _, by have := g.sec; omega⟩ (by rw [List.length_replicate, g.size])
  have o1 := i.ok.write 0 hbz
  have s1 := write_same d 0 (List.replicate z 0)
  obtain ⟨p1, hp1⟩ : ∃ p, writeD d 0 (List.replicate z 0) = p := ⟨_, rfl⟩
  rw [hp1] at w1 w2 w3 w4 o1 s1
  have a1 := w4 ha
  have dn1 : p1.1.down = false := by
    rcases w3 with h | h
    · exact h.2
    · rw [a1.1] at h; exact absurd h.1 (by decide)
  have f2 := sync_free dn1 a1.2
  have o2 := o1.sync (by omega)
  have s2 := sync_same p1.1
  have u2 := sync_up dn1
  obtain ⟨p2, hp2⟩ : ∃ p, syncD p1.1 = p := ⟨_, rfl⟩
  rw [hp2] at f2 o2 s2 u2
  have g1 : Geo p1.1 z H := g.same s1.1 s1.2
  have g2 : Geo p2.1 z H := g1.same s2.1 s2.2
  have v2 : p2.1.down = false ∧ p2.1.safe = layB d.safe (List.replicate z 0) ((0 * z : Nat) : Int) ∧ p2.1.wait = [] := by
    rcases u2 with h | h
    · refine ⟨h.2.1, ?_, h.2.2.2⟩
      rw [h.2.2.1, now_eq g1.size, w1, w2, i.wait]
      show layB d.safe (List.replicate z 0) ((0 : Int) * (z : Int)) = _
      congr 1
    · rw [f2.1] at h; exact absurd h.1 (by decide)
  refine ⟨p1.1, p2.1, ?_, ?_, ?_⟩
  · rw [hp1, ← a1.1]
  · rw [hp2, ← f2.1]
  have hz : p2.1.size.toNat = z := by rw [g2.size, Int.toNat_natCast]
  have hn : needN z 0 0 = 0 := by
    unfold needN
    rw [Nat.zero_add, Nat.sub_zero]
    exact Nat.div_eq_of_lt (by omega)
  have hrg : rngH ⟨1, 0, 0, 0⟩ := ⟨⟨by decide, by decide⟩, ⟨by decide, by decide⟩, ⟨by decide, by decide⟩, ⟨by decide, by decide⟩⟩
  have wok := writeM_ok o2 (by omega) ⟨1, 0, 0, 0⟩ hrg (D := []) (fun x hx => by cases hx) 0 0
  have ws := writeM_same p2.1 ⟨1, 0, 0, 0⟩ [] 0 0
  have hlen0 : (([] : List Int).length) = 0 := rfl
  have hM : (writeM p2.1 ⟨1, 0, 0, 0⟩ [] 0 0).2 = 0 ∧ (writeM p2.1 ⟨1, 0, 0, 0⟩ [] 0 0).1.armed = false ∧ (writeM p2.1 ⟨1, 0, 0, 0⟩ [] 0 0).1.down = false ∧ (writeM p2.1 ⟨1, 0, 0, 0⟩ [] 0 0).1.wait = [] ∧ (writeM p2.1 ⟨1, 0, 0, 0⟩ [] 0 0).1.safe = layB p2.1.safe (hdrB ⟨1, 0, 0, 0⟩ z) ((1 * z : Nat) : Int) := by
    have henc : encI ⟨1, 0, 0, 0⟩ p2.1.size = hdrB ⟨1, 0, 0, 0⟩ z := by
      unfold encI
      rw [g2.size, if_pos ⟨by omega, by decide⟩, Int.toNat_natCast]
    unfold writeM
    rw [henc]
    have e0 : runN p2.1 (halfI p2.1).toNat (0 : Int) [] 0 0 = (p2.1, 0) := rfl
    dsimp only
    rw [e0, if_pos rfl]
    dsimp only
    have f3 := sync_free v2.1 f2.2
    have u3 := sync_up v2.1
    have s3 := sync_same p2.1
    obtain ⟨p3, hp3⟩ : ∃ p, syncD p2.1 = p := ⟨_, rfl⟩
    rw [hp3] at f3 u3 s3 ⊢
    rw [if_pos f3.1]
    have g3 : Geo p3.1 z H := g2.same s3.1 s3.2
    have v3 : p3.1.down = false ∧ p3.1.safe = p2.1.safe ∧ p3.1.wait = [] := by
      rcases u3 with h | h
      · refine ⟨h.2.1, ?_, h.2.2.2⟩
        rw [h.2.2.1, now_eq g2.size, v2.2.2]
        rfl
      · rw [f3.1] at h; exact absurd h.1 (by decide)
    have hbl : ((hdrB ⟨1, 0, 0, 0⟩ z).length : Int) = p3.1.size := by rw [hdrB_len h32, g3.size]
    obtain ⟨x1, x2, x3, x4⟩ := write_up (i := (1 : Int) % 2) v3.1 ⟨by decide, by have := g3.sec; omega⟩ hbl
    have s4 := write_same p3.1 ((1 : Int) % 2) (hdrB ⟨1, 0, 0, 0⟩ z)
    obtain ⟨p4, hp4⟩ : ∃ p, writeD p3.1 ((1 : Int) % 2) (hdrB ⟨1, 0, 0, 0⟩ z) = p := ⟨_, rfl⟩
    rw [hp4] at x1 x2 x3 x4 s4 ⊢
    have a4 := x4 f3.2
    rw [if_pos a4.1]
    have dn4 : p4.1.down = false := by
      rcases x3 with h | h
      · exact h.2
      · rw [a4.1] at h; exact absurd h.1 (by decide)
    have f5 := sync_free dn4 a4.2
    have u5 := sync_up dn4
    have g4 : Geo p4.1 z H := g3.same s4.1 s4.2
    rcases u5 with h | h
    · refine ⟨f5.1, f5.2, h.2.1, h.2.2.2, ?_⟩
      rw [h.2.2.1, now_eq g4.size, x1, x2, v3.2.1, v3.2.2]
      show layB p2.1.safe _ ((1 : Int) % 2 * (z : Int)) = _
      congr 1
    · rw [f5.1] at h; exact absurd h.1 (by decide)
  obtain ⟨rr, hrr⟩ : ∃ r, writeM p2.1 ⟨1, 0, 0, 0⟩ [] 0 0 = r := ⟨_, rfl⟩
  have hS : saveI ⟨p2.1, zeroHd, [], false⟩ zeroHd [] 0 = (⟨rr.1, ⟨1, 0, 0, 0⟩, [], false⟩, 0) := by
    unfold saveI
    dsimp only
    rw [hz, hlen0, hn]
    have e1 : writeM p2.1 ⟨zeroHd.gen + 1, zeroHd.half, zeroHd.snap, zeroHd.log⟩ [] 0 0 = rr := hrr
    rw [if_neg (by decide), e1, if_pos (by rw [← hrr]; exact hM.1)]
    rfl
  rw [hrr] at hM wok ws
  rw [hS]
  have o20 : OkD rr.1 (m + 20) := wok.mono (by omega)
  refine ⟨rfl, hM.2.1, ⟨g2.same ws.1 ws.2, o20, hM.2.2.1, hM.2.2.2.1⟩, ?_⟩
  show Img z H rr.1.safe ⟨1, 0, 0, 0⟩ []
  rw [hM.2.2.2.2, v2.2.1]
  refine Img.format h32 ?_
  have h1 := i.ok.len
  have h2 := g.sec
  rw [g.size] at h1
  have h3 : ((2 : Nat) : Int) * (z : Int) ≤ d.sectors * (z : Int) := Int.mul_le_mul_of_nonneg_right (by omega) (by omega)
  rw [nat_mul_int] at h3
  omega
theorem img_ok {z H : Nat} {A : List Int} {h : Hd} {D : List Int} (im : Img z H A h D) (hA : OkB A) : OkB D := fun x hx => by
  have e := im.data.2
  rw [← e] at hx
  exact hA x (List.mem_of_mem_drop (List.mem_of_mem_take hx))
theorem readN_idle {d : DM} {z H : Nat} {m : Int} (i : Idle d z H m) (hm : 0 ≤ m) (i0 k : Nat) : Idle (readN d i0 k) z H (m + k) ∧ (readN d i0 k).safe = d.safe ∧ (readN d i0 k).armed = d.armed := by
  have s := readN_same d i0 k
  exact ⟨⟨i.geo.same s.size s.sectors, readN_ok i.ok hm i0 k, s.down.trans i.down, s.wait.trans i.wait⟩, s.safe, s.armed⟩
/-- A store is opened on the image that a disk bears. -/
theorem open_img (T : Nat → Prop) (w : World) (g : Nat) {d : DM} {z H : Nat} {m gm : Int} {h : Hd} {D : List Int} (hd : At12 T w g d) (i : Idle d z H m) (hm0 : 0 ≤ m) (hm : m + H + 5 ≤ 1000) (im : Img z H d.safe h D) (hgm : h.gen ≤ gm) (hH : H * z ≤ 30000) :
    Calls Try.prog 15 #[ptrD g] w fun e w' => ∃ U' a s, e = .returned (.tuple #[ptrD a, .int .i64 0]) ∧ SS U' w' a g s ∧ To T w U' w' ∧ s.h = h ∧ s.D = D ∧ Up s z H (m + H + 2) gm ∧ s.d.armed = d.armed := by
  have geo := i.geo
  have now : nowD d = d.safe := by rw [now_eq geo.size, i.wait]; rfl
  obtain ⟨q1, q2, q3, q4, q5, q6, q7, q8, q9, q10⟩ := im.right
  have hlen := im.data.1
  have hDl : D.length ≤ H * z := by omega
  have h32 := geo.z32
  obtain ⟨n1, n2⟩ := need_ok (z := z) (len := D.length) (i0 := 0) (by omega) (by rw [Nat.zero_mul]; exact Nat.zero_le _)
  obtain ⟨n, hn⟩ : ∃ n, needN z D.length 0 = n := ⟨_, rfl⟩
  rw [hn, Nat.zero_add] at n2
  rw [hn] at n1
  have hnH : n ≤ H := by
    cases n with
    | zero => exact Nat.zero_le _
    | succ k =>
      have h1 := n1 k (by omega)
      rw [Nat.zero_add] at h1
      apply Classical.byContradiction
      intro hno
      have h2 : H * z ≤ k * z := Nat.mul_le_mul_right z (by omega)
      omega
  obtain ⟨b0, hb0⟩ : ∃ b : Nat, 2 + h.half.toNat * H = b := ⟨_, rfl⟩
  have hhH : h.half.toNat * H ≤ 1 * H := Nat.mul_le_mul_right H (by omega)
  have hb0' : 2 + h.half * halfI d = (b0 : Int) := by
    obtain ⟨a, ha⟩ : ∃ a : Nat, h.half = (a : Int) := ⟨h.half.toNat, by omega⟩
    rw [geo.half, ← hb0, ha, Int.toNat_natCast, nat_mul_int]
    omega
  have key := open_c T w g d z b0 n m h D hd i.ok hm0 (by omega) i.down geo.size (by have := geo.sec; have := geo.h1; omega) h32 (by rw [now, geo.cap]; exact lastL_img im) q1 ⟨q3, q4⟩ hb0' (by have := geo.sec; omega) q5 q7 hlen (by omega) (by rw [now, ← hb0]; exact im.data.2) (fun k hk => by have := n1 k hk; rw [Nat.zero_add] at this; exact this) n2
  refine key.mono ?_
  rintro e w' ⟨U', a, he, hss, hto⟩
  have r1 := readN_idle i hm0 0 2
  have r2 := readN_idle r1.1 (by omega) b0 n
  refine ⟨U', a, _, he, hss, hto, rfl, rfl, ⟨⟨r2.1.geo, r2.1.ok.mono (by omega), img_ok im i.ok.byts, hgm, im.right, hlen⟩, rfl, r2.1.down, r2.1.wait, ?_⟩, r2.2.2.trans r1.2.2⟩
  show Img z H (readN (readN d 0 2) b0 n).safe h D
  rw [r2.2.1, r1.2.1]
  exact im
end Go.Proofs.Ytdcjchakgfpgaaa
