/- Layer 14: package store: write. -/
import Derived.Test.YtdcjchakgfpgaaaMg
namespace Go.Proofs.Ytdcjchakgfpgaaa
open Go.RowKit
open Go.Shelf
/-- The sectors of data written one behind the other, until one isn't done. -/
def runN (d : DM) (H : Nat) (half : Int) (D : List Int) (i0 : Nat) : Nat → DM × Int
  | 0 => (d, 0)
  | n + 1 => if (runN d H half D i0 n).2 = 0 then writeD (runN d H half D i0 n).1 ((2 + half.toNat * H + (i0 + n) : Nat) : Int) (padB d.size.toNat D (i0 + n)) else runN d H half D i0 n
/-- What a save does on the disk. -/
def writeM (d : DM) (h : Hd) (D : List Int) (i0 n : Nat) : DM × Int :=
  if (runN d (halfI d).toNat h.half D i0 n).2 = 0 then
    if (syncD (runN d (halfI d).toNat h.half D i0 n).1).2 = 0 then
      if (writeD (syncD (runN d (halfI d).toNat h.half D i0 n).1).1 (h.gen % 2) (encI h d.size)).2 = 0 then syncD (writeD (syncD (runN d (halfI d).toNat h.half D i0 n).1).1 (h.gen % 2) (encI h d.size)).1
      else writeD (syncD (runN d (halfI d).toNat h.half D i0 n).1).1 (h.gen % 2) (encI h d.size)
    else syncD (runN d (halfI d).toNat h.half D i0 n).1
  else runN d (halfI d).toNat h.half D i0 n
theorem runN_stop {d : DM} {H : Nat} {half : Int} {D : List Int} {i0 k : Nat} (h : (runN d H half D i0 k).2 ≠ 0) : ∀ n, k ≤ n → runN d H half D i0 n = runN d H half D i0 k
  | 0, hk => by obtain rfl : k = 0 := by omega
                rfl
  | n + 1, hk => by
    by_cases e : k = n + 1
    · rw [e]
    · have ih := runN_stop h n (by omega)
      rw [runN, ih, if_neg h]
theorem runN_ok {d : DM} {H : Nat} {half : Int} {D : List Int} {i0 : Nat} {m : Int} (h : OkD d m) (hD : OkB D) : ∀ n, OkD (runN d H half D i0 n).1 (m + n)
  | 0 => by
    rw [runN]
    exact h.mono (by omega)
  | n + 1 => by
    have ih := runN_ok (H := H) (half := half) (i0 := i0) h hD n
    rw [runN]
    split
    · exact (ih.write _ (padB_ok hD)).mono (by omega)
    · exact ih.mono (by omega)
theorem cmd_same (d : DM) : (cmdD d).1.size = d.size ∧ (cmdD d).1.sectors = d.sectors := ⟨rfl, rfl⟩
theorem write_same (d : DM) (i : Int) (b : List Int) : (writeD d i b).1.size = d.size ∧ (writeD d i b).1.sectors = d.sectors := by
  unfold writeD
  split
  · exact ⟨rfl, rfl⟩
  · split
    · exact ⟨rfl, rfl⟩
    · split
      · exact ⟨rfl, rfl⟩
      · exact ⟨rfl, rfl⟩
theorem sync_same (d : DM) : (syncD d).1.size = d.size ∧ (syncD d).1.sectors = d.sectors := by
  unfold syncD
  split
  · exact ⟨rfl, rfl⟩
  · split
    · exact ⟨rfl, rfl⟩
    · exact ⟨rfl, rfl⟩
theorem runN_same (d : DM) (H : Nat) (half : Int) (D : List Int) (i0 : Nat) : ∀ n, (runN d H half D i0 n).1.size = d.size ∧ (runN d H half D i0 n).1.sectors = d.sectors
  | 0 => ⟨rfl, rfl⟩
  | n + 1 => by
    have ih := runN_same d H half D i0 n
    rw [runN]
    split
    · exact ⟨(write_same _ _ _).1.trans ih.1, (write_same _ _ _).2.trans ih.2⟩
    · exact ih
theorem halfI_same {d d' : DM} (h : d'.sectors = d.sectors) : halfI d' = halfI d := by unfold halfI; rw [h]
/-- The part of a sector's bytes that there are, over noughts. -/
theorem pad_laid {z i : Nat} {D : List Int} (h : i * z ≤ D.length) : layB (List.replicate z 0) ((D.drop (i * z)).take z) ((0 : Nat) : Int) = padB z D i := by
  have hl := padB_len h
  apply List.ext_getElem?
  intro j
  by_cases hj : j < z
  · rw [bAt_some (by rw [layB_len, List.length_replicate]; exact hj), bAt_some (by rw [hl]; exact hj), padB_at hj, layB_at _ _ _ (by rw [List.length_replicate]; exact hj)]
    congr 1
    unfold layV
    by_cases hd : i * z + j < D.length
    · rw [if_pos ⟨by omega, by rw [List.length_take, List.length_drop]; omega⟩, bAt_take (by omega), bAt_drop]
      first | rfl | (congr 1)
    · rw [if_neg (by rw [List.length_take, List.length_drop]; omega)]
      have e1 : bAt D (i * z + j) = 0 := by
        unfold bAt
        rw [List.getD_eq_getElem?_getD, List.getElem?_eq_none (by omega)]
        rfl
      rw [e1]
      unfold bAt
      rw [List.getD_eq_getElem?_getD, List.getElem?_replicate]
      split <;> rfl
  · rw [List.getElem?_eq_none (by rw [layB_len, List.length_replicate]; omega), List.getElem?_eq_none (by omega)]
/-- The copy builtin over an owned row, which may be shorter than what is copied. -/
theorem run_copy_min {w : World} (ty : TypeId) (g n c : Nat) (A B : List Int) (hown : OwnB w 0 (.slice (some ⟨g, 0, none⟩) n c) A) (L dc sc : Nat) (so : Option Addr) (hL : B.length = L) (row : RowB w (.slice so L sc) B) :
    ∃ w', (Builtin.copy_ #[24, 24] ty #[.slice (some ⟨g, 0, none⟩) n dc, .slice so L sc]).run Try.prog w = .ok (goInt (B.take n).length) w' ∧ OwnB w' 0 (.slice (some ⟨g, 0, none⟩) n c) (layB A (B.take n) ((0 : Nat) : Int)) ∧ Keep (fun k => k ≠ g) w w' := by
  obtain ⟨i, hi, hz0, hz1, hz2⟩ := info_parts infoB
  have hsz : (Try.prog.info? 5).map (·.size) = some 1 := by rw [hi]; simp [hz1]
  have hl : (B.take n).length = Nat.min L n := by rw [List.length_take, hL]; exact Nat.min_comm _ _
  have hpre : ∀ (j : Nat) (x : Int), (B.take n)[j]? = some x → B[j]? = some x := fun j x hx => by
    rw [List.getElem?_take] at hx
    split at hx
    · exact hx
    · cases hx
  have hle : (B.take n).length ≤ n := by rw [List.length_take]; omega
  have hne : (B.take n).length ≠ 0 → 0 < B.length := by rw [List.length_take]; omega
  obtain ⟨C, hC⟩ : ∃ C, B.take n = C := ⟨_, rfl⟩
  rw [hC] at hl hpre hle hne ⊢
  by_cases h0 : C.length = 0
  · have hB : C = [] := List.eq_nil_of_length_eq_zero h0
    have hrun := run_copy_none (P := Try.prog) w 24 24 ty 5 (some ⟨g, 0, none⟩) so n dc L sc Try.underlying24 hsz (by rw [← hl]; exact h0)
    refine ⟨w, by rw [h0]; exact hrun, by rw [hB, layB_nil]; exact hown, Keep.refl _ _⟩
  · obtain ⟨sb, sof, rfl, hsb, hcell⟩ := row.addr (hne h0)
    obtain ⟨cur, hg, hcur, hlaid⟩ := hown.laid (B := C) 0 (by omega)
    have hrun := run_copy_row (P := Try.prog) w 24 24 ty 5 g 0 n dc ⟨sb, sof, none⟩ L sc cur 5 (bytV C) Try.underlying24 hsz hg (by rw [← hl]; simp [bytV]) (fun j u hj => by
      unfold bytV at hj
      rw [List.getElem?_map] at hj
      cases hx : C[j]? with
      | none => rw [hx] at hj; cases hj
      | some x =>
        rw [hx] at hj
        obtain rfl := Option.some.inj hj
        rw [show (⟨sb, sof, none⟩ : Addr).add j = ⟨sb, sof + j, none⟩ from Addr.add_lit ..]
        exact hcell j x (hpre j x hx)) (by simpa [bytV] using hcur) (fun u hu => by
      unfold bytV at hu
      obtain ⟨x, _, rfl⟩ := List.mem_map.1 hu; rfl)
    have hrun2 : (Builtin.copy_ #[24, 24] ty #[.slice (some ⟨g, 0, none⟩) n dc, .slice (some ⟨sb, sof, none⟩) L sc]).run Try.prog w = .ok (goInt C.length) (w.setRow g (splice cur.toList 0 (bytV C)).toArray) := by
      simpa [splice, bytV] using hrun
    exact ⟨_, hrun2, hlaid, ⟨rfl, rfl, rfl, by simp [World.setRow], fun k hk _ => setRow_other w g k _ hk⟩⟩
end Go.Proofs.Ytdcjchakgfpgaaa
namespace Go.Proofs.Ytdcjchakgfpgaaa
open Go.RowKit
theorem To.blk14 {T T' : Nat → Prop} {w w' : World} (h : To T w T' w') {G : Nat} {t : TypeId} {cs : Array Value} (hb : Blk w G t cs) (hn : ¬ T G) : Blk w' G t cs := h.keep.blk hb hn
theorem Blk.hd4c {w : World} {g : Nat} {t : TypeId} {h : Hd} (b : Blk w g t (hdC h)) : w.cell? ⟨g, 0, none⟩ = some (.int .i64 h.gen) ∧ w.cell? ⟨g, 1, none⟩ = some (.int .i64 h.half) ∧ w.cell? ⟨g, 2, none⟩ = some (.int .i64 h.snap) ∧ w.cell? ⟨g, 3, none⟩ = some (.int .i64 h.log) := ⟨b.cell 0, b.cell 1, b.cell 2, b.cell 3⟩
theorem nat_mul_int (a z : Nat) : (a : Int) * (z : Int) = ((a * z : Nat) : Int) := by simp
set_option maxHeartbeats 8000000 in
set_option maxRecDepth 100000 in
theorem swrite_c (T : Nat → Prop) (w : World) (g : Nat) (d : DM) (h : Hd) (sv : Value) (D : List Int) (i0 n : Nat) (m : Int) (hd : At12 T w g d) (ok : OkD d m) (hm : m + n + 3 ≤ 1000) (own : OwnB w 0 sv D) (off : ∀ k, sv.ownBlock = some k → ¬ T k)
    (h4 : 4 ≤ d.sectors) (h32 : 32 ≤ d.size) (hD : OkB D) (hl : D.length ≤ 31000) (hg : 0 ≤ h.gen ∧ h.gen ≤ 1000001) (hh : 0 ≤ h.half ∧ h.half ≤ 1) (hs : 0 ≤ h.snap ∧ h.snap ≤ 2000000) (hlg : 0 ≤ h.log ∧ h.log ≤ 2000000)
    (hi0 : i0 * d.size.toNat ≤ D.length) (hn1 : ∀ k, k < n → (i0 + k) * d.size.toNat < D.length) (hn2 : D.length ≤ (i0 + n) * d.size.toNat) :
    Calls Try.prog 48 #[ptrD g, hdV h, sv, .int .i64 (i0 : Int)] w fun e w' => ∃ T', e = .returned (.int .i64 (writeM d h D i0 n).2) ∧ At12 T' w' g (writeM d h D i0 n).1 ∧ To T w T' w' := by
  obtain ⟨z, hz⟩ : ∃ z : Nat, d.size = (z : Int) := ⟨d.size.toNat, by omega⟩
  have hzn : d.size.toNat = z := by omega
  rw [hzn] at hi0 hn1 hn2
  have hmade := ok.made
  have hz5 : 32 ≤ z ∧ z ≤ 512 := by have := hmade.2.2.2; omega
  have hhf := halfI_in hmade h4
  have HM0 : Hid (m + n + 3 ≤ 1000 ∧ n ≤ 1000) := ⟨hm, by
    have := ok.done
    omega⟩
  obtain ⟨R, hR⟩ : ∃ R : Nat → DM × Int, (fun k => runN d (halfI d).toNat h.half D i0 k) = R := ⟨_, rfl⟩
  have hRk : ∀ k, runN d (halfI d).toNat h.half D i0 k = R k := fun k => by rw [← hR]
  obtain ⟨ix, hix⟩ : ∃ ix : Nat → Int, (fun k => ((2 + h.half.toNat * (halfI d).toNat + (i0 + k) : Nat) : Int)) = ix := ⟨_, rfl⟩
  have hixk : ∀ k, ((2 + h.half.toNat * (halfI d).toNat + (i0 + k) : Nat) : Int) = ix k := fun k => by rw [← hix]
  have HR0 : Hid (R 0 = (d, 0)) := (hRk 0).symm
  have HRS : Hid (∀ k, (R k).2 = 0 → R (k + 1) = writeD (R k).1 (ix k) (padB z D (i0 + k))) := fun k hk => by
    rw [← hRk (k + 1), runN, hRk, if_pos hk, hixk, hzn]
  have HRT : Hid (∀ k, k ≤ n → (R k).2 ≠ 0 → R n = R k) := fun k hk he => by
    rw [← hRk, ← hRk]
    exact runN_stop (by rw [hRk]; exact he) n hk
  have HRO : Hid (∀ k, k ≤ n → OkD (R k).1 (m + k) ∧ (R k).1.size = (z : Int) ∧ (R k).1.sectors = d.sectors ∧ OkD (R k).1 1000) := fun k hk => by
    rw [← hRk]
    have hs := runN_same d (halfI d).toNat h.half D i0 k
    exact ⟨runN_ok ok hD k, hs.1.trans hz, hs.2, (runN_ok ok hD k).mono (by have := HM0.out; omega)⟩
  obtain ⟨fs, hfs⟩ : ∃ fs : Int, 2 + h.half * halfI d = fs := ⟨_, rfl⟩
  have hfix : ∀ k : Nat, fs + ((i0 + k : Nat) : Int) = ix k ∧ 2 ≤ fs ∧ fs ≤ 2049 := fun k => by
    obtain ⟨a, ha⟩ : ∃ a : Nat, h.half = (a : Int) := ⟨h.half.toNat, by omega⟩
    obtain ⟨b, hb⟩ : ∃ b : Nat, halfI d = (b : Int) := ⟨(halfI d).toNat, by omega⟩
    rw [← hixk, ← hfs, ha, hb, Int.toNat_natCast, Int.toNat_natCast, nat_mul_int]
    have hab : a * b ≤ 1 * b := Nat.mul_le_mul_right b (by omega)
    omega
  have HIX := Lib.hid hfix
  have HSZ : Hid (∀ (k : Nat) (W : World) (T' : Nat → Prop), k ≤ n → At12 T' W g (R k).1 → Calls Try.prog 34 #[ptrD g] W fun e w' => e = .returned (.int .i64 (z : Int)) ∧ Below W.heap.size W w') := fun k W T' hk ha => by
    have key := kSize_c T' W g _ ha (HRO.out k hk).2.2.2
    rw [(HRO.out k hk).2.1] at key
    exact key
  have HFS : Hid (∀ (k : Nat) (W : World) (T' : Nat → Prop), k ≤ n → At12 T' W g (R k).1 → Calls Try.prog 50 #[ptrD g, .int .i64 h.half] W fun e w' => e = .returned (.int .i64 fs) ∧ Below W.heap.size W w') := fun k W T' hk ha => by
    have key := firstSector_c T' W g _ h.half ha (HRO.out k hk).2.2.2 (by rw [(HRO.out k hk).2.2.1]; exact h4) hh
    rw [halfI_same (HRO.out k hk).2.2.1, hfs] at key
    exact key
  have HWR : Hid (∀ (k : Nat) (W : World) (T' : Nat → Prop) (v : Value), k < n → At12 T' W g (R k).1 → RowB W v (padB z D (i0 + k)) → CapS v → (∀ q, v.ownBlock = some q → ¬ T' q) → Calls Try.prog 36 #[ptrD g, .int .i64 (ix k), v] W fun e w' => ∃ T'', e = .returned (.int .i64 (writeD (R k).1 (ix k) (padB z D (i0 + k))).2) ∧ At12 T'' w' g (writeD (R k).1 (ix k) (padB z D (i0 + k))).1 ∧ To T' W T'' w') := fun k W T' v hk ha hv hc ho => by
    have hp := hn1 k hk
    have hix := hfix k
    have hi : i0 + k ≤ (i0 + k) * z := Nat.le_mul_of_pos_right _ (by omega)
    exact kWrite_c T' W g _ (ix k) v _ ha (HRO.out k (by omega)).2.2.2 (by unfold rngI; omega) hv hc (by rw [padB_len (by omega)]; omega) (padB_ok hD) ho
  have HWM : Hid (writeM d h D i0 n = if (R n).2 = 0 then (if (syncD (R n).1).2 = 0 then (if (writeD (syncD (R n).1).1 (h.gen % 2) (encI h (z : Int))).2 = 0 then syncD (writeD (syncD (R n).1).1 (h.gen % 2) (encI h (z : Int))).1 else writeD (syncD (R n).1).1 (h.gen % 2) (encI h (z : Int))) else syncD (R n).1) else R n) := by
    unfold Hid
    rw [← hRk n, ← hz]
    rfl
  have HPL : Hid (∀ k, k < n → padB z D (i0 + k) = layB (List.replicate z 0) ((D.drop ((i0 + k) * z)).take z) ((0 : Nat) : Int)) := fun k hk => (pad_laid (by have := hn1 k hk; omega)).symm
  have HN1 := Lib.hid hn1
  have HN2 := Lib.hid hn2
  have HZ := Lib.hid hz5
  have HLD : Hid (D.length ≤ 31000 ∧ i0 * z ≤ 31000 ∧ i0 ≤ 31000) := ⟨hl, by omega, by have := Nat.le_mul_of_pos_right i0 (show 0 < z by omega); omega⟩
  obtain ⟨w1, hw1⟩ : ∃ WW, w.alloc (.cells (hdC h) 23) = WW := ⟨_, rfl⟩
  have H1 : Hid (Below w.heap.size w w1 ∧ Blk w1 w.heap.size 23 (hdC h) ∧ At12 T w1 g d ∧ OwnB w1 0 sv D ∧ ¬ T w.heap.size) := by
    obtain ⟨a1, a2⟩ := hd_cells (h := h) hw1
    exact ⟨a1, a2, at_grow hd a1, own.grow a1, fun ht => Nat.lt_irrefl _ (at_lt hd ht)⟩
  have HOFF := Lib.hid off
  obtain ⟨so, sc, hsv⟩ := own.shape
  obtain ⟨L, hL⟩ : ∃ L, D.length = L := ⟨_, rfl⟩
  have HCP : Hid (L ≤ sc) := by have := own.cap _ _ _ hsv; rw [hL] at this; exact this
  have HL := Lib.hid hL
  rw [hL] at hsv
  subst hsv
  have HE9 : Hid (OkB (encI h (z : Int)) ∧ (encI h (z : Int)).length ≤ 1000 ∧ rngH h ∧ encOk h) := by
    have he : encOk h := ⟨hg.1, hh.1, hh.2, hs.1, by omega, hlg.1, by omega⟩
    have e : encI h (z : Int) = hdrB h z := by unfold encI; rw [if_pos ⟨by omega, he⟩, Int.toNat_natCast]
    rw [e]
    refine ⟨hdrB_ok ⟨hh.1, by omega⟩, by rw [hdrB_len hz5.1]; omega, ⟨⟨by omega, by omega⟩, ⟨by omega, by omega⟩, ⟨by omega, by omega⟩, ⟨by omega, by omega⟩⟩, he⟩
  have EM : Hid (Int.tmod h.gen 2 = h.gen % 2) := Int.tmod_eq_emod_of_nonneg hg.1
  have HG := Lib.hid hg
  obtain ⟨RES, hRES⟩ : ∃ r, writeM d h D i0 n = r := ⟨_, rfl⟩
  rw [hRES] at HWM ⊢
  clear hRES
  have hz00 : wrap64 ((i0 : Int) * (z : Int)) = ((i0 * z : Nat) : Int) := by rw [nat_mul_int]; exact wrapR _ (by omega) (by have := HLD.out; omega)
  have HSZ0 := Lib.hid (HSZ.out 0 w1 T (Nat.zero_le _) (by rw [HR0.out]; exact H1.out.2.2.1))
  have hmk : ∀ W : World, _ := fun W => make_b W z (by omega)
  obtain ⟨mc, hmc⟩ : ∃ mc, Array.replicate z (Value.int .u8 0) = mc := ⟨_, rfl⟩
  have HMC : Hid (mc = (bytV (List.replicate z 0)).toArray) := by rw [Hid, ← hmc]; simp [bytV]
  simp only [hmc] at hmk
  have HMK := Lib.hid hmk
  clear hd ok hm own off h4 h32 hD hl hg hh hs hlg hi0 hn1 hn2 hz hzn hmade hz5 hhf hR hRk hix hixk hfs hfix hL hmc hmk
  go_enter Try.func48, Try.ntmps48
  go_upto_region 1 with fail
  try rw [hw1]
  clear hw1
  go_wp2_with fail
  refine (HSZ0.out).mono ?_
  rintro e w2 ⟨rfl, hb⟩
  have H2 : Hid ((R 0).2 = 0 ∧ ∃ T', At12 T' w2 g (R 0).1 ∧ To T w1 T' w2) := by
    rw [HR0.out]
    exact ⟨rfl, T, at_grow H1.out.2.2.1 hb, To.below hb⟩
  clear hb HSZ0
  go_wp2_with fail
  obtain ⟨M, hM⟩ : ∃ M, (i0 + n) * z = M := ⟨_, rfl⟩
  have HM := Lib.hid hM
  clear hM
  go_loopw [9, 10, 11] (fun s9 s10 s11 wr => ∃ k : Nat, k ≤ n ∧ s9 = .int .i64 (((i0 + k) * z : Nat) : Int) ∧ Hid ((R k).2 = 0 ∧ ∃ T', At12 T' wr g (R k).1 ∧ To T w1 T' wr)) (fun s9 _ _ _ => M - (intOf s9).toNat)
  case atStart => exact ⟨0, Nat.zero_le _, by rw [Nat.add_zero]; exact congrArg (Value.int .i64) hz00, H2.out⟩
  case round =>
    obtain ⟨k, hk, rfl, hw⟩ := hrel
    clear hz00
    obtain ⟨he0, T', hat, hto⟩ := hw.out
    have HK : Hid ((R k).2 = 0 ∧ k ≤ n) := ⟨he0, hk⟩
    have HT := Lib.hid (And.intro hat hto)
    have hbox := To.blk14 hto H1.out.2.1 H1.out.2.2.2.2
    have hrow := owns_keep H1.out.2.2.2.1 hto.keep HOFF.out
    have HBX : Hid (Blk wr w.heap.size 23 (hdC h)) := hbox
    have HROW : Hid (OwnB wr 0 (.slice so L sc) D) := hrow
    clear hw he0 hat hto hbox hrow
    obtain ⟨p, hp⟩ : ∃ p, (i0 + k) * z = p := ⟨_, rfl⟩
    have hpb : (i0 + k) * z ≤ 31000 + 1000 * 512 := by
      have h1 : (i0 + k) * z = i0 * z + k * z := Nat.add_mul _ _ _
      have h2 : k * z ≤ 1000 * 512 := Nat.mul_le_mul (by have := HM0.out; omega) (by have := HZ.out; omega)
      have := HLD.out
      omega
    rw [hp] at hpb ⊢
    by_cases hlt : p < L
    · have hd : decide ((p : Int) < (L : Int)) = true := by simp; omega
      have hkn : k < n := by
        apply Classical.byContradiction
        intro hno
        have e : k = n := by omega
        have := HN2.out
        rw [← e, hp, HL.out] at this
        omega
      have HKN := Lib.hid hkn
      have HP := Lib.hid hp
      have HSZ1 := Lib.hid (HSZ.out k wr T' hk HT.out.1)
      have HPB : Hid (p ≤ 31000 + 1000 * 512) := hpb
      clear hk hkn hp
      go_wp2_with fail
      refine (HSZ1.out).mono ?_
      rintro e wa ⟨rfl, hb⟩
      have HA : Hid (Below wr.heap.size wr wa) := hb
      clear hb HSZ1
      have hmk := HMK.out
      go_upto_region 5 with fail
      clear hmk
      obtain ⟨wb, hwb⟩ : ∃ WW, wa.alloc (.cells mc 5) = WW := ⟨_, rfl⟩
      obtain ⟨gs, hgs⟩ : ∃ G, wa.heap.size = G := ⟨_, rfl⟩
      have HB : Hid (Below wr.heap.size wr wb ∧ OwnB wb 0 (.slice (some ⟨gs, 0, none⟩) z z) (List.replicate z 0) ∧ wr.heap.size ≤ gs ∧ gs < wb.heap.size) := by
        have hbw : Below wa.heap.size wa wb := by rw [← hwb]; exact (Below.refl _ _).alloc (Nat.le_refl _) _
        refine ⟨HA.out.trans (hbw.mono HA.out.size), ?_, by rw [← hgs]; exact HA.out.size, ?_⟩
        · rw [← hwb, ← hgs]
          exact OwnB.madeL wa (Nat.zero_le _) _ z _ HMC.out (by simp) (by have := HZ.out; omega)
        · rw [← hwb, ← hgs]; simp
      rw [hwb, hgs]
      clear hwb hgs HA
      have HCR : Hid (RowB wb (.slice (cutA so p sc) (L - p) (sc - p)) (D.drop p) ∧ (D.drop p).length = L - p) := by
        have hpl : p ≤ L := by simp at hd; omega
        have key := RowB.cutU ((HROW.out.grow HB.out.1).row) HL.out (l := p) (k := L - p) (m := sc) (by omega) (by have := HCP.out; omega) (Nat.le_refl _)
        have e : cutL D p (L - p) = D.drop p := by unfold cutL; exact List.take_of_length_le (by rw [List.length_drop, HL.out]; omega)
        rw [e] at key
        exact ⟨key, by rw [List.length_drop, HL.out]⟩
      have HPL2 : Hid (p ≤ L) := by simp at hd; unfold Hid; omega
      obtain ⟨ao', hao⟩ : ∃ x, cutA so p sc = x := ⟨_, rfl⟩
      have HCQ : Hid (RowB wb (.slice ao' (L - p) (sc - p)) (D.drop p)) := by rw [Hid, ← hao]; exact HCR.out.1
      obtain ⟨wc, hcpy, ho, hkp⟩ := run_copy_min 3 gs z z _ (D.drop p) HB.out.2.1 (L - p) z _ ao' HCR.out.2 HCQ.out
      have HCPY : Hid (OwnB wc 0 (.slice (some ⟨gs, 0, none⟩) z z) (layB (List.replicate z 0) ((D.drop p).take z) ((0 : Nat) : Int)) ∧ Keep (fun k => k ≠ gs) wb wc) := ⟨ho, hkp⟩
      have HAO := Lib.hid hao
      obtain ⟨gi, hgi⟩ : ∃ x, goInt ((D.drop p).take z).length = x := ⟨_, rfl⟩
      rw [hgi] at hcpy
      clear ho hkp hao hgi
      go_upto_region 6 with (refine wpList_cut rfl _ _ _ _ rfl so L sc p L sc (L - p) rfl (.inl rfl) (.inr ⟨rfl, rfl, .inr ⟨rfl, rfl⟩⟩) HPL2.out HCP.out rfl ?_; intro ao2 h2; have h3 := HAO.out.symm.trans h2; subst h3)
      clear hcpy
      obtain ⟨ho, hkp⟩ := HCPY.out
      have HC : Hid (Below wr.heap.size wr wc ∧ OwnB wc 0 (.slice (some ⟨gs, 0, none⟩) z z) (padB z D (i0 + k))) := by
        refine ⟨HB.out.1.trans (hkp.below (fun q hq e => by have := HB.out.2.2.1; omega) HB.out.1.size), ?_⟩
        rw [HPL.out k HKN.out, HP.out]
        exact ho
      clear ho hkp
      obtain ⟨b0, b1, b2, b3⟩ := (HBX.out.grow HC.out.1).hd4c
      have HFS1 := Lib.hid (HFS.out k wc T' HK.out.2 (at_grow HT.out.1 HC.out.1))
      go_wp2_with fail
      refine (HFS1.out).mono ?_
      rintro e wd ⟨rfl, hb⟩
      have HD4 : Hid (Below wr.heap.size wr wd ∧ OwnB wd 0 (.slice (some ⟨gs, 0, none⟩) z z) (padB z D (i0 + k))) := ⟨HC.out.1.trans (hb.mono HC.out.1.size), HC.out.2.grow hb⟩
      clear hb HFS1 b0 b1 b2 b3
      have HSZ1 := Lib.hid (HSZ.out k wd T' HK.out.2 (at_grow HT.out.1 HD4.out.1))
      have hqe : (p : Int) / (z : Int) = ((i0 + k : Nat) : Int) := by
        rw [← HP.out, ← nat_mul_int]
        exact Int.mul_ediv_cancel _ (by have := HZ.out; omega)
      have hq : Int.tdiv (p : Int) (z : Int) = ((i0 + k : Nat) : Int) := by
        rw [Int.tdiv_eq_ediv_of_nonneg (by omega)]
        exact hqe
      have hzz : ¬ ((z : Int) = 0) := by have := HZ.out; omega
      have hzn0 : ¬ (z = 0) := by have := HZ.out; omega
      have hwq : wrap64 ((i0 + k : Nat) : Int) = ((i0 + k : Nat) : Int) := by
        have h1 := HLD.out
        have h2 := HM0.out
        have h3 := HK.out
        exact wrapR _ (by omega) (by omega)
      have hwx : wrap64 (fs + ((i0 + k : Nat) : Int)) = ix k := by
        have h1 := HIX.out k
        have h2 := HLD.out
        have h3 := HM0.out
        have h4 := HK.out
        rw [← h1.1]
        exact wrapR _ (by omega) (by omega)
      obtain ⟨qq, hqq⟩ : ∃ q : Int, ((i0 + k : Nat) : Int) = q := ⟨_, rfl⟩
      rw [hqq] at hq hqe hwq hwx
      clear hqq
      go_wp2_with fail
      refine (HSZ1.out).mono ?_
      rintro e we ⟨rfl, hb⟩
      have HE6 : Hid (Below wr.heap.size wr we ∧ OwnB we 0 (.slice (some ⟨gs, 0, none⟩) z z) (padB z D (i0 + k))) := ⟨HD4.out.1.trans (hb.mono HD4.out.1.size), HD4.out.2.grow hb⟩
      clear hb HSZ1
      have HWRK : Hid (Calls Try.prog 36 #[ptrD g, .int .i64 (ix k), .slice (some ⟨gs, 0, none⟩) z z] we fun e w' => ∃ T'', e = .returned (.int .i64 (R (k + 1)).2) ∧ At12 T'' w' g (R (k + 1)).1 ∧ To T' we T'' w') := by
        have key := HWR.out k we T' _ HKN.out (at_grow HT.out.1 HE6.out.1) HE6.out.2.row HE6.out.2.cap (fun q e hT => by
          have e' : gs = q := Option.some.inj e
          rw [← e'] at hT
          have h1 := at_lt HT.out.1 hT
          have h2 := HB.out.2.2.1
          omega)
        rw [← HRS.out k HK.out.1] at key
        exact key
      go_wp2_with fail
      refine (HWRK.out).mono ?_
      rintro e wf ⟨T2, rfl, ha2, ht2⟩
      have HF : Hid (At12 T2 wf g (R (k + 1)).1 ∧ To T w1 T2 wf) := ⟨ha2, (HT.out.2.trans (To.below HE6.out.1)).trans ht2⟩
      clear ha2 ht2 HWRK hq hqe hwq hwx
      obtain ⟨e1, he1⟩ : ∃ e, (R (k + 1)).2 = e := ⟨_, rfl⟩
      have HE1 := Lib.hid he1
      rw [he1]
      clear he1
      by_cases h0 : e1 = 0
      · subst h0
        have HSZ1 := Lib.hid (HSZ.out (k + 1) wf T2 HKN.out HF.out.1)
        go_wp2_with fail
        refine (HSZ1.out).mono ?_
        rintro e wg ⟨rfl, hb⟩
        have HG7 : Hid ((R (k + 1)).2 = 0 ∧ ∃ T', At12 T' wg g (R (k + 1)).1 ∧ To T w1 T' wg) := ⟨HE1.out, T2, at_grow HF.out.1 hb, HF.out.2.trans (To.below hb)⟩
        clear hb HSZ1
        have hpz : (i0 + (k + 1)) * z = p + z := by rw [← HP.out, show i0 + (k + 1) = (i0 + k) + 1 by omega, Nat.add_mul, Nat.one_mul]
        have hpm : p + z ≤ M := by
          rw [← HM.out, ← hpz]
          exact Nat.mul_le_mul_right z (by have := HKN.out; omega)
        have hzp := HZ.out
        have HPM : Hid (p + z ≤ M ∧ 32 ≤ z ∧ (i0 + (k + 1)) * z = p + z) := ⟨hpm, hzp.1, hpz⟩
        clear hpz hpm hzp
        have hq1 : p ≤ 543000 := HPB.out
        have hq2 : z ≤ 512 := HZ.out.2
        go_wp2_with fail
        clear hq1 hq2 hd hlt
        refine ⟨⟨k + 1, HKN.out, ?_, HG7.out⟩, ?_⟩
        · rw [HPM.out.2.2]
          simp only [Value.int.injEq, true_and]
          exact (Int.natCast_add p z).symm
        · have h1 := HPM.out
          simp [intOf]
          omega
      · have hne : ¬ (R n).2 = 0 ∧ R n = R (k + 1) := by
          have e := HRT.out (k + 1) HKN.out (by rw [HE1.out]; exact h0)
          rw [e, HE1.out]
          exact ⟨h0, rfl⟩
        have HNE := Lib.hid hne
        have hd0 : decide (e1 = 0) = false := decide_eq_false h0
        clear hne
        go_wp2_with fail
        go_ret
        have HRS2 : RES = R (k + 1) := by rw [HWM.out, if_neg HNE.out.1, HNE.out.2]
        rw [HRS2, HE1.out]
        first | exact ⟨T2, rfl, HF.out.1, (To.below H1.out.1).trans HF.out.2⟩ | exact ⟨rfl, T2, HF.out.1, (To.below H1.out.1).trans HF.out.2⟩
    · have hd : decide ((p : Int) < (L : Int)) = false := by simp; omega
      have hd' : decide (p < L) = false := by simp; omega
      have hkn : k = n := by
        apply Classical.byContradiction
        intro hno
        have h1 := HN1.out k (by omega)
        rw [hp, HL.out] at h1
        exact hlt h1
      subst hkn
      have HSY := Lib.hid (kSync_c T' wr g _ HT.out.1 (HRO.out k (Nat.le_refl _)).2.2.2)
      clear hp hpb
      go_wp2_with fail
      refine (HSY.out).mono ?_
      rintro e w9 ⟨T2, rfl, ha2, ht2⟩
      obtain ⟨ds, hds⟩ : ∃ x, (syncD (R k).1).1 = x := ⟨_, rfl⟩
      obtain ⟨e2, he2⟩ : ∃ x, (syncD (R k).1).2 = x := ⟨_, rfl⟩
      rw [hds] at ha2
      rw [hds, he2] at HWM
      rw [he2]
      have HWM2 : Hid (RES = _) := HWM.out.trans (if_pos HK.out.1)
      clear HWM
      have hro := HRO.out k (Nat.le_refl _)
      have hm0 : 0 ≤ m + (k : Int) := by have := hro.1.done; omega
      have hss := sync_same (R k).1
      have HDS : Hid (OkD ds (m + k + 1) ∧ ds.size = (z : Int)) := by
        rw [Hid, ← hds]
        exact ⟨hro.1.sync hm0, hss.1.trans hro.2.1⟩
      have H9 : Hid (At12 T2 w9 g ds ∧ To T w1 T2 w9) := ⟨ha2, HT.out.2.trans ht2⟩
      have HE2 := Lib.hid he2
      have HDSE := Lib.hid hds
      clear ha2 ht2 HSY hro hm0 hss he2 hds
      by_cases h0 : ¬ e2 = 0
      · have hd0 : decide (e2 = 0) = false := decide_eq_false h0
        have HNE := Lib.hid h0
        go_wp2_with fail
        go_ret
        have e3 : syncD (R k).1 = (ds, e2) := by rw [← HDSE.out, ← HE2.out]
        have e4 : RES = (ds, e2) := (HWM2.out.trans (if_neg HNE.out)).trans e3
        rw [e4]
        first | exact ⟨T2, rfl, H9.out.1, (To.below H1.out.1).trans H9.out.2⟩ | exact ⟨rfl, T2, H9.out.1, (To.below H1.out.1).trans H9.out.2⟩
      replace h0 := Classical.not_not.1 h0
      subst h0
      have HWM3 : Hid (RES = _) := HWM2.out.trans (if_pos rfl)
      clear HWM2
      obtain ⟨E9, hE9⟩ : ∃ E, encI h (z : Int) = E := ⟨_, rfl⟩
      rw [hE9] at HWM3
      have HEE := Lib.hid hE9
      have HBX : Hid (∀ W, Below w9.heap.size w9 W → W.cell? ⟨w.heap.size, 0, none⟩ = some (.int .i64 h.gen) ∧ W.cell? ⟨w.heap.size, 1, none⟩ = some (.int .i64 h.half) ∧ W.cell? ⟨w.heap.size, 2, none⟩ = some (.int .i64 h.snap) ∧ W.cell? ⟨w.heap.size, 3, none⟩ = some (.int .i64 h.log)) := fun W hW => ((To.blk14 H9.out.2 H1.out.2.1 H1.out.2.2.2.2).grow hW).hd4c
      have HD1 : Hid (OkD ds 1000) := HDS.out.1.mono (by have := HM0.out.1; omega)
      have HSZ2 : Hid (∀ W, Below w9.heap.size w9 W → Calls Try.prog 34 #[ptrD g] W fun e w' => e = .returned (.int .i64 (z : Int)) ∧ Below W.heap.size W w') := fun W hW => by
        have key := kSize_c T2 W g ds (at_grow H9.out.1 hW) HD1.out
        rw [HDS.out.2] at key
        exact key
      have HEN2 : Hid (∀ W, Below w9.heap.size w9 W → Calls Try.prog 8 #[hdV h, .int .i64 (z : Int)] W fun e w' => ∃ v, e = .returned v ∧ OwnB w' W.heap.size v E9 ∧ Below W.heap.size W w') := fun W hW => by
        have key := encode_c h (z : Int) W HE9.out.2.2.1 (by have := HZ.out; omega) (by have := HZ.out; unfold rngI; omega)
        rw [HEE.out] at key
        exact key
      have HWR2 : Hid (∀ W v, Below w9.heap.size w9 W → OwnB W w9.heap.size v E9 → Calls Try.prog 36 #[ptrD g, .int .i64 (h.gen % 2), v] W fun e w' => ∃ T3, e = .returned (.int .i64 (writeD ds (h.gen % 2) E9).2) ∧ At12 T3 w' g (writeD ds (h.gen % 2) E9).1 ∧ To T w1 T3 w') := fun W v hW ho => by
        refine (kWrite_c T2 W g ds (h.gen % 2) v E9 (at_grow H9.out.1 hW) HD1.out (by unfold rngI; omega) ho.row ho.cap (by rw [← HEE.out]; exact HE9.out.2.1) (by rw [← HEE.out]; exact HE9.out.1) (fun q e hT => by
          have h1 := at_lt H9.out.1 hT
          have h2 := (ho.lt q e).1
          omega)).mono ?_
        rintro e w' ⟨T3, he, ha, ht⟩
        exact ⟨T3, he, ha, (H9.out.2.trans (To.below hW)).trans ht⟩
      go_upto_region 12 with fail
      refine wp_region_put (by kernel_rfl) (by kernel_rfl) (by kernel_rfl) (fun b' vs w' => (b' 0 = true → vs 0 = ptrD g) ∧ (b' 1 = true → vs 1 = .pointer (some ⟨w.heap.size, 0, none⟩)) ∧ (b' 2 = true → vs 2 = .int .i64 h.gen) ∧ (b' 3 = true → vs 3 = .int .i64 (h.gen % 2)) ∧ (b' 4 = true → vs 4 = hdV h) ∧ (b' 5 = true → vs 5 = ptrD g) ∧ (b' 6 = true → vs 6 = .int .i64 (z : Int)) ∧ (b' 7 = true → b' 8 = false → Hid (OwnB w' w9.heap.size (vs 7) E9)) ∧ (b' 8 = false → Hid (Below w9.heap.size w9 w' ∧ w9.heap.size ≤ w'.heap.size)) ∧ (b' 8 = true → Hid (∃ T3, (vs 8) = .int .i64 (writeD ds (h.gen % 2) E9).2 ∧ At12 T3 w' g (writeD ds (h.gen % 2) E9).1 ∧ To T w1 T3 w')) ∧ (b' 3 = true → b' 2 = true) ∧ (b' 7 = true → b' 4 = true) ∧ (b' 7 = true → b' 6 = true) ∧ (b' 8 = true → b' 2 = true) ∧ (b' 8 = true → b' 4 = true) ∧ (b' 8 = true → b' 6 = true) ∧ (b' 8 = true → b' 7 = true) ∧ (b' 9 = true → b' 8 = true ∧ vs 9 = vs 8)) ?_ ?_ ?_
      · intro vs
        exact ⟨fun h => Bool.noConfusion h, fun h => Bool.noConfusion h, fun h => Bool.noConfusion h, fun h => Bool.noConfusion h, fun h => Bool.noConfusion h, fun h => Bool.noConfusion h, fun h => Bool.noConfusion h, fun h => Bool.noConfusion h, fun _ => Lib.hid ⟨below_drewN (Below.refl _ _) 1, Nat.le_refl _⟩, fun h => Bool.noConfusion h, fun h => Bool.noConfusion h, fun h => Bool.noConfusion h, fun h => Bool.noConfusion h, fun h => Bool.noConfusion h, fun h => Bool.noConfusion h, fun h => Bool.noConfusion h, fun h => Bool.noConfusion h, fun h => Bool.noConfusion h⟩
      · rintro b' vs w' i op hi hun hall ⟨h0, h1, h2, h3, h4, h5, h6, y7, hB, hG, hE3_2, hE7_4, hE7_6, hW2, hW4, hW6, hW7, hA⟩
        have hil : i < 10 := (List.getElem?_eq_some_iff.1 hi).1
        rcases i with _ | _ | _ | _ | _ | _ | _ | _ | _ | _ | i
        · obtain rfl := Option.some.inj hi
          clear hi hil
          refine wpOp_step rfl (fun K hK => ?_)
          have HKK := Lib.hid hK; clear hK
          simp only [putAll, Act.put, List.setIfInBounds_toArray, List.set_cons_zero, List.set_cons_succ]
          go_simp
          exact HKK.out _ _ ⟨_, by simp only [putAll, Act.put, List.setIfInBounds_toArray, List.set_cons_zero, List.set_cons_succ] <;> rfl, fun _ => rfl, h1, h2, h3, h4, h5, h6, y7, hB, hG, hE3_2, hE7_4, hE7_6, hW2, hW4, hW6, hW7, hA⟩
        · obtain rfl := Option.some.inj hi
          clear hi hil
          refine wpOp_step rfl (fun K hK => ?_)
          have HKK := Lib.hid hK; clear hK
          simp only [putAll, Act.put, List.setIfInBounds_toArray, List.set_cons_zero, List.set_cons_succ]
          go_simp
          exact HKK.out _ _ ⟨_, by simp only [putAll, Act.put, List.setIfInBounds_toArray, List.set_cons_zero, List.set_cons_succ] <;> rfl, h0, fun _ => rfl, h2, h3, h4, h5, h6, y7, hB, hG, hE3_2, hE7_4, hE7_6, hW2, hW4, hW6, hW7, hA⟩
        · obtain rfl := Option.some.inj hi
          clear hi hil
          have hap : b' 8 = false := by
            cases hz : b' 8 with
            | false => rfl
            | true => exact absurd (hW2 hz) (by rw [hun]; decide)
          have d1 := h1 (hall ⟨1, .data⟩ (by simp) rfl)
          obtain ⟨b0, b1, b2, b3⟩ := HBX.out w' (hB hap).out.1
          refine wpOp_step rfl (fun K hK => ?_)
          have HKK := Lib.hid hK; clear hK
          simp only [putAll, Act.put, List.setIfInBounds_toArray, List.set_cons_zero, List.set_cons_succ]
          go_simp
          exact HKK.out _ _ ⟨_, by simp only [putAll, Act.put, List.setIfInBounds_toArray, List.set_cons_zero, List.set_cons_succ, d1] <;> rfl, h0, h1, fun _ => rfl, h3, h4, h5, h6, y7, hB, hG, fun _ => rfl, hE7_4, hE7_6, fun _ => rfl, hW4, hW6, hW7, hA⟩
        · obtain rfl := Option.some.inj hi
          clear hi hil
          have d2 := h2 (hall ⟨2, .data⟩ (by simp) rfl)
          refine wpOp_step rfl (fun K hK => ?_)
          have HKK := Lib.hid hK; clear hK
          simp only [putAll, Act.put, List.setIfInBounds_toArray, List.set_cons_zero, List.set_cons_succ]
          go_simp
          exact HKK.out _ _ ⟨_, by simp only [putAll, Act.put, List.setIfInBounds_toArray, List.set_cons_zero, List.set_cons_succ, d2, EM.out] <;> rfl, h0, h1, h2, fun _ => rfl, h4, h5, h6, y7, hB, hG, fun _ => hall ⟨2, .data⟩ (by simp) rfl, hE7_4, hE7_6, hW2, hW4, hW6, hW7, hA⟩
        · obtain rfl := Option.some.inj hi
          clear hi hil
          have hap : b' 8 = false := by
            cases hz : b' 8 with
            | false => rfl
            | true => exact absurd (hW4 hz) (by rw [hun]; decide)
          obtain ⟨b0, b1, b2, b3⟩ := HBX.out w' (hB hap).out.1
          refine wpOp_step rfl (fun K hK => ?_)
          have HKK := Lib.hid hK; clear hK
          simp only [putAll, Act.put, List.setIfInBounds_toArray, List.set_cons_zero, List.set_cons_succ]
          go_simp
          exact HKK.out _ _ ⟨_, by simp only [putAll, Act.put, List.setIfInBounds_toArray, List.set_cons_zero, List.set_cons_succ] <;> rfl, h0, h1, h2, h3, fun _ => rfl, h5, h6, y7, hB, hG, hE3_2, fun _ => rfl, hE7_6, hW2, fun _ => rfl, hW6, hW7, hA⟩
        · obtain rfl := Option.some.inj hi
          clear hi hil
          refine wpOp_step rfl (fun K hK => ?_)
          have HKK := Lib.hid hK; clear hK
          simp only [putAll, Act.put, List.setIfInBounds_toArray, List.set_cons_zero, List.set_cons_succ]
          go_simp
          exact HKK.out _ _ ⟨_, by simp only [putAll, Act.put, List.setIfInBounds_toArray, List.set_cons_zero, List.set_cons_succ] <;> rfl, h0, h1, h2, h3, h4, fun _ => rfl, h6, y7, hB, hG, hE3_2, hE7_4, hE7_6, hW2, hW4, hW6, hW7, hA⟩
        · obtain rfl := Option.some.inj hi
          clear hi hil
          have hap : b' 8 = false := by
            cases hz : b' 8 with
            | false => rfl
            | true => exact absurd (hW6 hz) (by rw [hun]; decide)
          have d5 := h5 (hall ⟨5, .data⟩ (by simp) rfl)
          refine wpOp_step rfl (fun K hK => ?_)
          have HKK := Lib.hid hK; clear hK
          simp only [putAll, Act.put, List.setIfInBounds_toArray, List.set_cons_zero, List.set_cons_succ]
          go_simp
          refine (HSZ2.out w' (hB hap).out.1).mono ?_
          rintro e w2 ⟨rfl, hb2⟩
          exact HKK.out _ _ ⟨_, by simp only [putAll, Act.put, List.setIfInBounds_toArray, List.set_cons_zero, List.set_cons_succ, d5] <;> rfl, h0, h1, h2, h3, h4, h5, fun _ => rfl, fun h ha => Lib.hid ((y7 h ha).out.grow hb2), fun ha => Lib.hid ⟨(hB ha).out.1.trans (hb2.mono (hB ha).out.2), Nat.le_trans (hB ha).out.2 hb2.size⟩, fun h => absurd (show b' 8 = true from h) (by rw [hap]; decide), hE3_2, hE7_4, fun _ => rfl, hW2, hW4, fun _ => rfl, hW7, hA⟩
        · obtain rfl := Option.some.inj hi
          clear hi hil
          have hap : b' 8 = false := by
            cases hz : b' 8 with
            | false => rfl
            | true => exact absurd (hW7 hz) (by rw [hun]; decide)
          have d4 := h4 (hall ⟨4, .data⟩ (by simp) rfl)
          have d6 := h6 (hall ⟨6, .data⟩ (by simp) rfl)
          refine wpOp_step rfl (fun K hK => ?_)
          have HKK := Lib.hid hK; clear hK
          simp only [putAll, Act.put, List.setIfInBounds_toArray, List.set_cons_zero, List.set_cons_succ]
          go_simp
          refine (HEN2.out w' (hB hap).out.1).mono ?_
          rintro e w2' ⟨v2, rfl, ho2, hb2⟩
          exact HKK.out _ _ ⟨_, by simp only [putAll, Act.put, List.setIfInBounds_toArray, List.set_cons_zero, List.set_cons_succ, d4, d6] <;> rfl, h0, h1, h2, h3, h4, h5, h6, fun _ _ => Lib.hid (owns_base ho2 (hB hap).out.2), fun ha => Lib.hid ⟨(hB ha).out.1.trans (hb2.mono (hB ha).out.2), Nat.le_trans (hB ha).out.2 hb2.size⟩, fun h => absurd (show b' 8 = true from h) (by rw [hap]; decide), hE3_2, fun _ => hall ⟨4, .data⟩ (by simp) rfl, fun _ => hall ⟨6, .data⟩ (by simp) rfl, hW2, hW4, hW6, fun _ => rfl, hA⟩
        · obtain rfl := Option.some.inj hi
          clear hi hil
          have hap : b' 8 = false := hun
          have d0 := h0 (hall ⟨0, .data⟩ (by simp) rfl)
          have d3 := h3 (hall ⟨3, .data⟩ (by simp) rfl)
          have o7 := y7 (hall ⟨7, .data⟩ (by simp) rfl) hap
          refine wpOp_step rfl (fun K hK => ?_)
          have HKK := Lib.hid hK; clear hK
          simp only [putAll, Act.put, List.setIfInBounds_toArray, List.set_cons_zero, List.set_cons_succ]
          go_simp
          have ow := o7.out
          refine (HWR2.out w' (vs 7) (hB hap).out.1 ow).mono ?_
          rintro e w2' ⟨T3, rfl, ha3, hto3⟩
          exact HKK.out _ _ ⟨_, by simp only [putAll, Act.put, List.setIfInBounds_toArray, List.set_cons_zero, List.set_cons_succ, d0, d3] <;> rfl, h0, h1, h2, h3, h4, h5, h6, fun _ h => Bool.noConfusion h, fun h => Bool.noConfusion h, fun _ => Lib.hid (⟨T3, rfl, ha3, hto3⟩), hE3_2, hE7_4, hE7_6, fun _ => hE3_2 (hall ⟨3, .data⟩ (by simp) rfl), fun _ => hE7_4 (hall ⟨7, .data⟩ (by simp) rfl), fun _ => hE7_6 (hall ⟨7, .data⟩ (by simp) rfl), fun _ => hall ⟨7, .data⟩ (by simp) rfl, fun hq => absurd (hA hq).1 (by rw [hun]; decide)⟩
        · obtain rfl := Option.some.inj hi
          clear hi hil
          have gB := hG (hall ⟨8, .data⟩ (by simp) rfl)
          refine wpOp_step rfl (fun K hK => ?_)
          have HKK := Lib.hid hK; clear hK
          simp only [putAll, Act.put, List.setIfInBounds_toArray, List.set_cons_zero, List.set_cons_succ]
          go_simp
          exact HKK.out _ _ ⟨_, by simp only [putAll, Act.put, List.setIfInBounds_toArray, List.set_cons_zero, List.set_cons_succ] <;> rfl, h0, h1, h2, h3, h4, h5, h6, y7, hB, hG, hE3_2, hE7_4, hE7_6, hW2, hW4, hW6, hW7, fun _ => ⟨hall ⟨8, .data⟩ (by simp) rfl, rfl⟩⟩
        · omega
      rintro b' vs wz hall ⟨h0, h1, h2, h3, h4, h5, h6, y7, hB, hG, hE3_2, hE7_4, hE7_6, hW2, hW4, hW6, hW7, hA⟩
      have d0 := h0 (hall 0 (by simp))
      have d1 := h1 (hall 1 (by simp))
      have d2 := h2 (hall 2 (by simp))
      have d3 := h3 (hall 3 (by simp))
      have d4 := h4 (hall 4 (by simp))
      have d5 := h5 (hall 5 (by simp))
      have d6 := h6 (hall 6 (by simp))
      have GG := hG (hall 8 (by simp))
      have dA := (hA (hall 9 (by simp))).2
      simp only [putAll, Act.put, List.setIfInBounds_toArray, List.set_cons_zero, List.set_cons_succ, d0, d1, d2, d3, d4, d5, d6, dA]
      clear hall h0 d0 h1 d1 h2 d2 h3 d3 h4 d4 h5 d5 h6 d6 y7 hB hG hE3_2 hE7_4 hE7_6 hW2 hW4 hW6 hW7 hA dA
      generalize vs 8 = va at *
      obtain ⟨T3, e3, ha3, ht3⟩ := GG.out
      subst e3
      have H3 : Hid (At12 T3 wz g (writeD ds (h.gen % 2) E9).1 ∧ To T w1 T3 wz) := ⟨ha3, ht3⟩
      clear GG ha3 ht3 HSZ2 HEN2 HWR2 HBX
      have HDW : Hid (OkD (writeD ds (h.gen % 2) E9).1 1000) := by
        have := HDS.out.1.write (h.gen % 2) (b := E9) (by rw [← HEE.out]; exact HE9.out.1)
        exact this.mono (by have := HM0.out.1; omega)
      obtain ⟨dw, hdw⟩ : ∃ x, (writeD ds (h.gen % 2) E9).1 = x := ⟨_, rfl⟩
      obtain ⟨e3, he3⟩ : ∃ x, (writeD ds (h.gen % 2) E9).2 = x := ⟨_, rfl⟩
      have HWE : Hid (writeD ds (h.gen % 2) E9 = (dw, e3)) := by rw [Hid, ← hdw, ← he3]
      rw [HWE.out] at H3 HDW HWM3
      rw [HWE.out]
      clear hdw he3
      by_cases h0 : ¬ e3 = 0
      · have hd0 : decide (e3 = 0) = false := decide_eq_false h0
        have HNE := Lib.hid h0
        go_wp2_with fail
        go_ret
        have e4 : RES = (dw, e3) := HWM3.out.trans (if_neg HNE.out)
        rw [e4]
        first | exact ⟨T3, rfl, H3.out.1, (To.below H1.out.1).trans H3.out.2⟩ | exact ⟨rfl, T3, H3.out.1, (To.below H1.out.1).trans H3.out.2⟩
      replace h0 := Classical.not_not.1 h0
      subst h0
      have HWM4 : Hid (RES = syncD dw) := HWM3.out.trans (if_pos rfl)
      have HSY := Lib.hid (kSync_c T3 wz g dw H3.out.1 HDW.out)
      go_wp2_with fail
      refine (HSY.out).mono ?_
      rintro e w4 ⟨T4, rfl, ha4, ht4⟩
      have H4 : Hid (At12 T4 w4 g (syncD dw).1 ∧ To T w1 T4 w4) := ⟨ha4, H3.out.2.trans ht4⟩
      clear ha4 ht4 HSY
      go_wp2_with fail
      go_ret
      rw [HWM4.out]
      first | exact ⟨T4, rfl, H4.out.1, (To.below H1.out.1).trans H4.out.2⟩ | exact ⟨rfl, T4, H4.out.1, (To.below H1.out.1).trans H4.out.2⟩
end Go.Proofs.Ytdcjchakgfpgaaa
