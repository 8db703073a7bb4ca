/- Layer 14: package store: read. -/
import Derived.Test.YtdcjchakgfpgaaaMo
namespace Go.Proofs.Ytdcjchakgfpgaaa
open Go.RowKit
open Go.Shelf
theorem ToG.grown {T T' : Nat → Prop} {w w' w'' : World} {G : Nat} {r : Option Nat} (h : ToG T w G T' w') (k : w'.grownBy w'' r) (hr : ∀ q, r = some q → G ≤ q) : ToG T w G T' w'' := by
  refine ⟨⟨k.os.trans h.keep.os, k.tape.trans h.keep.tape, k.output.trans h.keep.output, Nat.le_trans h.keep.size k.size, fun q hq hl => ?_⟩, h.new⟩
  rw [k.block q (Nat.lt_of_lt_of_le hl h.keep.size) (fun e => by have := hr q e.symm; omega), h.keep.block q hq hl]
theorem ToG.done {T T' : Nat → Prop} {w0 w w' : World} (b : Below w0.heap.size w0 w) (h : ToG T w w.heap.size T' w') : To T w0 T' w' := by
  refine ⟨⟨h.keep.os.trans b.os, h.keep.tape.trans b.tape, h.keep.output.trans b.output, Nat.le_trans b.size h.keep.size, fun q hq hl => ?_⟩, fun q hq => (h.new q hq).imp id (fun h3 => Nat.le_trans b.size h3)⟩
  rw [h.keep.block q ⟨hq, Nat.lt_of_lt_of_le hl b.size⟩ (Nat.lt_of_lt_of_le hl b.size)]
  exact b.block q hl
/-- The first bytes of a row of one's own. -/
theorem OwnB.pre {w : World} {base n c k : Nat} {ao : Option Addr} {E : List Int} (h : OwnB w base (.slice ao n c) E) (hk : k ≤ n) : OwnB w base (.slice (cutA ao 0 c) k (c - 0)) (E.take k) := by
  obtain ⟨a', c', e⟩ := h.shape
  have hn : E.length = n := by cases e; rfl
  obtain ⟨h1, ⟨e, h0⟩ | ⟨g, cap, cur, e, hb, hg, hc, hm, hs, ht⟩⟩ := h
  · cases e
    have hk0 : k = 0 := by omega
    subst hk0
    have hc0 : cutA none 0 0 = none := rfl
    rw [hc0, List.take_zero]
    exact World.ownsRow_nil _ _ _ _
  · cases e
    have e1 : cutA (some ⟨g, 0, none⟩) 0 c = some ⟨g, 0, none⟩ := by
      unfold cutA
      split
      · rfl
      · rw [Option.map_some, Addr.add_lit]
    rw [e1, Nat.sub_zero]
    have hl : (E.take k).length = k := by rw [List.length_take]; omega
    unfold OwnB
    rw [hl]
    refine ⟨by simp [bytV]; omega, .inr ⟨g, c, cur, rfl, hb, hg, by omega, hm, hs, ?_⟩⟩
    have e2 : (cur.toList.take (E.length * 1)).take (k * 1) = (bytV E).take (k * 1) := by rw [ht]
    rw [List.take_take, Nat.min_eq_left (by omega)] at e2
    rw [e2]
    unfold bytV
    rw [List.map_take, Nat.mul_one]
theorem take_sec {A : List Int} {o z k : Nat} : (A.drop (o * z)).take (k * z) ++ secZ z (o + k) A = (A.drop (o * z)).take ((k + 1) * z) := by
  unfold secZ
  rw [Nat.add_mul k 1 z, Nat.one_mul, Nat.add_mul o k z, ← List.drop_drop, List.take_add]
theorem results_2t {fn : Func} {tmps : Array Value} {W : World} {i j : Nat} {u v : Value} (hres : fn.results = #[.tmp i, .tmp j]) (h1 : tmps[i]? = some u) (h2 : tmps[j]? = some v) : (results fn tmps).run Try.prog W = .ok (.tuple #[u, v]) W := by
  simp [results, hres, h1, h2, go_sem]
/-- On the way: so many sectors are read. -/
def ReadAt (T : Nat → Prop) (w1 : World) (g G : Nat) (d : DM) (b0 z : Nat) (A : List Int) (h : Hd) (k : Nat) (v : Value) (wr : World) : Prop := ∃ T', At12 T' wr g (readN d b0 k) ∧ ToG T w1 w1.heap.size T' wr ∧ Blk wr G 23 (hdC h) ∧ OwnB wr w1.heap.size v ((A.drop (b0 * z)).take (k * z)) ∧ ∀ q, v.ownBlock = some q → ¬ T' q
set_option maxHeartbeats 8000000 in
set_option maxRecDepth 100000 in
theorem read_c (T : Nat → Prop) (w : World) (g : Nat) (d : DM) (z b0 n : Nat) (m : Int) (A : List Int) (h : Hd) (D : List Int) (hd : At12 T w g d) (ok : OkD d m) (hm0 : 0 ≤ m) (hm : m + n + 1 ≤ 1000) (hup : d.down = false) (hz : d.size = (z : Int)) (hA : nowD d = A) (h4 : 4 ≤ d.sectors) (hh : 0 ≤ h.half ∧ h.half ≤ 1) (hb0 : 2 + h.half * halfI d = (b0 : Int)) (hfit : ((b0 + n : Nat) : Int) ≤ d.sectors) (hs : 0 ≤ h.snap) (hl : 0 ≤ h.log) (hlen : (D.length : Int) = h.snap + h.log) (hld : D.length ≤ 31000)
    (hD : (A.drop (b0 * z)).take D.length = D) (hAl : A.length = (d.sectors * d.size).toNat) (hn1 : ∀ k, k < n → k * z < D.length) (hn2 : D.length ≤ n * z) :
    Calls Try.prog 40 #[ptrD g, hdV h] w fun e w' => ∃ T' v, e = .returned (.tuple #[v, .int .i64 0]) ∧ At12 T' w' g (readN d b0 n) ∧ To T w T' w' ∧ OwnB w' w.heap.size v D ∧ ∀ q, v.ownBlock = some q → ¬ T' q := by
  have hz5 : 16 ≤ z ∧ z ≤ 512 := by have := ok.made.2.2; omega
  have hsec : d.sectors ≤ 4096 := ok.made.2.1
  obtain ⟨ns, hns⟩ : ∃ ns : Nat, d.sectors = (ns : Int) := ⟨d.sectors.toNat, by omega⟩
  have hAl2 : A.length = ns * z := by rw [hAl, hns, hz, nat_mul_int, Int.toNat_natCast]
  have hfn : b0 + n ≤ ns := by omega
  have HFN : Hid (b0 + n ≤ ns ∧ ns ≤ 4096) := ⟨hfn, by omega⟩
  have HSL : Hid (∀ k, k < n → (secZ z (b0 + k) A).length = z) := fun k hk => by
    refine secZ_len ?_
    have h1 : (b0 + k + 1) * z ≤ ns * z := Nat.mul_le_mul_right z (by omega)
    rw [Nat.add_mul (b0 + k) 1 z, Nat.one_mul] at h1
    omega
  have HRD : Hid (∀ k W T', k < n → At12 T' W g (readN d b0 k) → Calls Try.prog 49 #[ptrD g, .int .i64 ((b0 + k : Nat) : Int)] W fun e w' => ∃ T'' v, e = .returned (.tuple #[v, .int .i64 0]) ∧ At12 T'' w' g (readN d b0 (k + 1)) ∧ To T' W T'' w' ∧ OwnB w' W.heap.size v (secZ z (b0 + k) A) ∧ ∀ q, v.ownBlock = some q → ¬ T'' q) := fun k W T' hk ha => by
    have hs := readN_same d b0 k
    have key := kRead_up T' W g (readN d b0 k) z (b0 + k) ha ((readN_ok ok hm0 b0 k).mono (by omega)) (hs.down.trans hup) (hs.size.trans hz) (by rw [hs.sectors]; omega)
    rw [hs.now, hA] at key
    exact key
  have HTL : Hid (∀ k, k ≤ n → ((A.drop (b0 * z)).take (k * z)).length = k * z) := fun k hk => by
    rw [List.length_take, List.length_drop, hAl2]
    have h1 : (b0 + k) * z ≤ ns * z := Nat.mul_le_mul_right z (by omega)
    rw [Nat.add_mul] at h1
    omega
  have HKZ : Hid (∀ k, k ≤ n → k * z ≤ 31000 + 512) := fun k hk => by
    cases k with
    | zero => omega
    | succ k =>
      have h1 := hn1 k (by omega)
      rw [Nat.add_mul, Nat.one_mul]
      omega
  obtain ⟨G, hG⟩ : ∃ G, w.heap.size = G := ⟨_, rfl⟩
  obtain ⟨w1, hw1⟩ : ∃ WW, w.alloc (.cells (hdC h) 23) = WW := ⟨_, rfl⟩
  obtain ⟨Le, hLe⟩ : ∃ L, D.length = L := ⟨_, rfl⟩
  have H1 : Hid (Below w.heap.size w w1 ∧ Blk w1 G 23 (hdC h) ∧ At12 T w1 g d ∧ G < w1.heap.size ∧ w.heap.size = G ∧ ¬ T G) := by
    obtain ⟨a1, a2⟩ := hd_cells (h := h) hw1
    rw [hG] at a2
    exact ⟨a1, a2, at_grow hd a1, a2.lt, hG, fun hT => by have := at_lt hd hT; omega⟩
  have HUS : Hid (∀ W, Calls Try.prog 30 #[hdV h] W fun e w' => e = .returned (.int .i64 (Le : Int)) ∧ Below W.heap.size W w') := fun W => by
    have key := used_c h W ⟨hs, by omega⟩ ⟨hl, by omega⟩
    rw [← hlen, hLe] at key
    exact key
  have HFS := Lib.hid (firstSector_c T w1 g d h.half H1.out.2.2.1 (ok.mono (by omega)) h4 hh)
  rw [hb0] at HFS
  rw [hLe] at hn1 hn2 hD hld
  have HN1 := Lib.hid hn1
  have HN2 := Lib.hid hn2
  have HD := Lib.hid hD
  have HZ := Lib.hid hz5
  have HLE : Hid (Le ≤ 31000) := hld
  have hbs : b0 ≤ 4096 := by omega
  obtain ⟨b0', b1', b2', b3'⟩ := H1.out.2.1.hd4c
  clear hd ok hm0 hm hup hz hA h4 hh hb0 hfit hs hl hlen hld hD hAl hn1 hn2 hz5 hsec hns hAl2 hfn hLe
  go_enter Try.func40, Try.ntmps40
  go_upto_region 1 with fail
  try rw [hw1]
  try rw [hG]
  clear hw1 hG
  go_wp2_with fail
  refine (HFS.out).mono ?_
  rintro e w2 ⟨rfl, hb⟩
  have H2 : Hid (ReadAt T w1 g G d b0 z A h 0 (.slice none 0 0) w2) := by
    refine ⟨T, at_grow H1.out.2.2.1 hb, (ToG.refl _ _ _).to (To.below hb) (Nat.le_refl _), H1.out.2.1.grow hb, ?_, fun q e => by cases e⟩
    rw [Nat.zero_mul, List.take_zero]
    exact World.ownsRow_nil _ _ _ _
  clear hb HFS b0' b1' b2' b3'
  go_wp2_with fail
  go_loopw [6, 7, 8, 9] (fun s6 s7 _ _ wr => ∃ k : Nat, k ≤ n ∧ s7 = .int .i64 ((b0 + k : Nat) : Int) ∧ Hid (ReadAt T w1 g G d b0 z A h k s6 wr)) (fun _ s7 _ _ _ => b0 + n - (intOf s7).toNat)
  case atStart => exact ⟨0, Nat.zero_le _, by rw [Nat.add_zero], H2.out⟩
  case round =>
    obtain ⟨k, hk, rfl, hw⟩ := hrel
    obtain ⟨T', hat, hto, hbk, hown, hoff⟩ := hw.out
    obtain ⟨ao, c, hv⟩ := hown.shape
    rw [HTL.out k hk] at hv
    obtain ⟨p, hp⟩ : ∃ p, k * z = p := ⟨_, rfl⟩
    have hpb := HKZ.out k hk
    rw [hp] at hv hpb
    subst hv
    have HP := Lib.hid hp
    have HT : Hid (At12 T' wr g (readN d b0 k) ∧ ToG T w1 w1.heap.size T' wr ∧ Blk wr G 23 (hdC h) ∧ OwnB wr w1.heap.size (.slice ao p c) ((A.drop (b0 * z)).take (k * z)) ∧ ∀ q, (Value.slice ao p c).ownBlock = some q → ¬ T' q) := ⟨hat, hto, hbk, hown, hoff⟩
    obtain ⟨b0', b1', b2', b3'⟩ := hbk.hd4c
    have hc : p ≤ c := hown.cap _ _ _ rfl
    have HC := Lib.hid hc
    clear hw hat hto hbk hown hoff hc hp
    have HPB : Hid (p ≤ 31512) := hpb
    by_cases hlt : p < Le
    · have hd : decide ((p : Int) < (Le : Int)) = true := by simp; omega
      have hkn : k < n := by
        apply Classical.byContradiction
        intro hno
        have e : k = n := by omega
        have := HN2.out
        rw [← e, HP.out] at this
        omega
      have HK : Hid (k < n) := hkn
      clear hk hkn
      go_wp2_with fail
      refine (HUS.out wr).mono ?_
      rintro e wa ⟨rfl, hb⟩
      have HA : Hid (Below wr.heap.size wr wa) := hb
      have HR1 := Lib.hid (HRD.out k wa T' HK.out (at_grow HT.out.1 hb))
      clear hb b0' b1' b2' b3'
      go_wp2_with fail
      refine (HR1.out).mono ?_
      rintro e wb ⟨T2, v2, rfl, ha2, ht2, ho2, hof2⟩
      have hz9 := HZ.out
      obtain ⟨g9, c9, hv9, hc9, hg9⟩ := ho2.form (by rw [HSL.out k HK.out]; omega)
      rw [HSL.out k HK.out] at hv9
      subst hv9
      have HB : Hid (At12 T2 wb g (readN d b0 (k + 1)) ∧ ToG T w1 w1.heap.size T2 wb ∧ Blk wb G 23 (hdC h) ∧ OwnB wb w1.heap.size (.slice ao p c) ((A.drop (b0 * z)).take (k * z)) ∧ (∀ q, (Value.slice ao p c).ownBlock = some q → ¬ T2 q) ∧ w1.heap.size ≤ wb.heap.size) := by
        have hG2 : ¬ T' G := HT.out.2.1.off H1.out.2.2.2.2.2 H1.out.2.2.2.1
        have h1 := HT.out.2.1.to (To.below HA.out) (Nat.le_refl _)
        have h2 := h1.to ht2 (Nat.le_refl _)
        have h3 := own_to (owns_base (HT.out.2.2.2.1.grow HA.out) (Nat.zero_le _)) HT.out.2.2.2.2 ht2
        exact ⟨ha2, h2, ht2.blk14 (HT.out.2.2.1.grow HA.out) hG2, owns_raise h3.1 HT.out.2.2.2.1, h3.2, h2.keep.size⟩
      have HX : Hid (∀ j u, (bytV (secZ z (b0 + k) A))[j]? = some u → wb.cell? ((⟨g9, 0, none⟩ : Addr).add j) = some u) := fun j u hj => by
        have := World.ownsRow.cells ho2 (g := g9) rfl j u hj
        exact this
      have HLN : Hid (((A.drop (b0 * z)).take (k * z)).length + z ≤ 100000) := by rw [Hid, HTL.out k (Nat.le_of_lt HK.out), HP.out]; omega
      have HZL : Hid ((secZ z (b0 + k) A).length = z) := HSL.out k HK.out
      clear ha2 ht2 ho2 hof2 HR1 hc9 hg9 hz9
      go_wp2_with (at_builtin; refine wpList_append_byts rfl _ _ 24 rfl Try.underlying24 w1.heap.size _ _ rfl HB.out.2.2.2.1 ⟨g9, 0, none⟩ z c9 (secZ z (b0 + k) A) rfl HZL.out HX.out HLN.out HB.out.2.2.2.2.2 ?_)
      intro v3 w3 ho3 hg3 hm3
      have HE : Hid (ReadAt T w1 g G d b0 z A h (k + 1) v3 w3) := by
        rw [take_sec] at ho3
        have hr : ∀ q, (Value.slice ao p c).ownBlock = some q → w1.heap.size ≤ q := fun q e => (World.ownsRow.lt HB.out.2.2.2.1 q e).1
        have hkp := Keep.of_grown hg3
        refine ⟨T2, at_keep HB.out.1 (hkp.mono fun q hT e => HB.out.2.2.2.2.1 q e hT), HB.out.2.1.grown hg3 hr, hkp.blk HB.out.2.2.1 (fun e => by have := hr G e; have := H1.out.2.2.2.1; omega), ho3, fun q e hT => ?_⟩
        rcases moved_far hm3 e with h1 | h1
        · exact HB.out.2.2.2.2.1 q h1 hT
        · have := at_lt HB.out.1 hT; omega
      clear ho3 hg3 hm3 HX
      have hbk : b0 + k < 5000 := by have := HFN.out; have := HK.out; omega
      have hkn := HK.out
      go_wp2_with fail
      exact ⟨⟨k + 1, HK.out, by go_num, HE.out⟩, by simp [intOf]; omega⟩
    · have hd : decide ((p : Int) < (Le : Int)) = false := by simp; omega
      have hd' : decide (p < Le) = false := by simp; omega
      have hkn : k = n := by
        apply Classical.byContradiction
        intro hno
        have h1 := HN1.out k (by omega)
        rw [HP.out] at h1
        exact hlt h1
      subst hkn
      have HPL : Hid (Le ≤ p) := by unfold Hid; omega
      go_wp2_with fail
      refine (HUS.out wr).mono ?_
      rintro e wa ⟨rfl, hb⟩
      have HA : Hid (Below wr.heap.size wr wa) := hb
      clear hb b0' b1' b2' b3'
      obtain ⟨b0', b1', b2', b3'⟩ := (HT.out.2.2.1.grow HA.out).hd4c
      go_wp2_with fail
      refine (HUS.out wa).mono ?_
      rintro e wb ⟨rfl, hb⟩
      have HB : Hid (Below wr.heap.size wr wb) := HA.out.trans (hb.mono HA.out.size)
      clear hb
      obtain ⟨ao', hao⟩ : ∃ x, cutA ao 0 c = x := ⟨_, rfl⟩
      have HAO := Lib.hid hao
      have HFIN : Hid (At12 T' wb g (readN d b0 k) ∧ To T w T' wb ∧ OwnB wb w.heap.size (.slice ao' Le (c - 0)) D ∧ ∀ q, (Value.slice ao' Le (c - 0)).ownBlock = some q → ¬ T' q) := by
        have ho := (HT.out.2.2.2.1.grow HB.out).pre HPL.out
        rw [List.take_take, Nat.min_eq_left (by rw [HP.out]; exact HPL.out), HD.out, hao] at ho
        have hbk : (Value.slice ao' Le (c - 0)).ownBlock = (Value.slice ao p c).ownBlock := by rw [← hao]; exact cutA_block _ _ _ _ _ _ _
        exact ⟨at_grow HT.out.1 HB.out, (HT.out.2.1.to (To.below HB.out) (Nat.le_refl _)).done H1.out.1, owns_base ho H1.out.1.size, fun q e => HT.out.2.2.2.2 q (hbk ▸ e)⟩
      clear hao hd hd' hlt
      go_wp2_with (refine wpList_cut rfl _ _ _ _ rfl ao p c 0 Le c Le rfl (.inr ⟨rfl, rfl⟩) (.inr ⟨rfl, rfl, .inl rfl⟩) (Nat.zero_le _) (by have := HPL.out; have := HC.out; omega) rfl ?_; intro ao2 h2; have h3 := HAO.out.symm.trans h2; subst h3)
      exact bodyPost_ret (results_2t rfl rfl rfl) rfl (by first | exact ⟨T', _, rfl, HFIN.out⟩ | exact ⟨_, rfl, T', HFIN.out⟩)
end Go.Proofs.Ytdcjchakgfpgaaa
