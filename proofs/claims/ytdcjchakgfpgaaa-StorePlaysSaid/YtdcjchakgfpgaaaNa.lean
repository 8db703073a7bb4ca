/- Layer 14: the script's rows; small. -/
import Derived.Test.YtdcjchakgfpgaaaMv
import Derived.Test.YtdcjchakgfpgaaaMw
namespace Go.Proofs.Ytdcjchakgfpgaaa
open Go.RowKit
open Go.Shelf
/-- One call of a script. -/
structure Op14 where
  kind : Int
  n : Int
  dv : Value
  data : List Int
  kv : Value
  keep : List Bool
  torn : Int
  cut : Int
/-- A call's six cells. -/
structure At14 (w : World) (b o : Nat) (p : Op14) : Prop where
  c0 : w.cell? ⟨b, o, none⟩ = some (.int .i64 p.kind)
  c1 : w.cell? ⟨b, o + 1, none⟩ = some (.int .i64 p.n)
  c2 : w.cell? ⟨b, o + 2, none⟩ = some p.dv
  c3 : w.cell? ⟨b, o + 3, none⟩ = some p.kv
  c4 : w.cell? ⟨b, o + 4, none⟩ = some (.int .i64 p.torn)
  c5 : w.cell? ⟨b, o + 5, none⟩ = some (.int .i64 p.cut)
theorem At14.on {w w' : World} {b o : Nat} {p : Op14} (h : At14 w b o p) (hb : Below w.heap.size w w') (hl : b < w.heap.size) : At14 w' b o p :=
  ⟨(cell_below hb hl).trans h.c0, (cell_below hb hl).trans h.c1, (cell_below hb hl).trans h.c2, (cell_below hb hl).trans h.c3, (cell_below hb hl).trans h.c4, (cell_below hb hl).trans h.c5⟩
/-- What is known of a call of a script. -/
structure Ok14 (w : World) (p : Op14) : Prop where
  n : rngI p.n
  torn : rngI p.torn
  cut : rngI p.cut
  drow : RowB w p.dv p.data
  dok : OkB p.data
  dcap : CapS p.dv
  dlt : p.data.length ≠ 0 → ∀ k, p.dv.ownBlock = some k → k < w.heap.size
  krow : RowT w p.kv p.keep
  kcap : CapS p.kv
  klt : p.keep.length ≠ 0 → ∀ k, p.kv.ownBlock = some k → k < w.heap.size
/-- A slice of calls. -/
def RowS (w : World) (s : Value) (L : List Op14) : Prop :=
  ((s = .slice none 0 0 ∧ L = []) ∨ (∃ a c, s = .slice (some a) 0 c ∧ L = []) ∨ ∃ b o c, s = .slice (some ⟨b, o, none⟩) L.length c ∧ b < w.heap.size ∧ ∀ i p, L[i]? = some p → At14 w b (o + i * 6) p) ∧ ∀ p ∈ L, Ok14 w p
theorem RowS.shape {w : World} {v : Value} {L : List Op14} (h : RowS w v L) : ∃ ao c, v = .slice ao L.length c := by
  rcases h.1 with ⟨rfl, rfl⟩ | ⟨a, c, rfl, rfl⟩ | ⟨b, o, c, rfl, _, _⟩ <;> exact ⟨_, _, rfl⟩
theorem RowS.addr {w : World} {ao : Option Addr} {n c : Nat} {L : List Op14} (h : RowS w (.slice ao n c) L) (h0 : 0 < L.length) : ∃ b o, ao = some ⟨b, o, none⟩ ∧ b < w.heap.size ∧ ∀ i p, L[i]? = some p → At14 w b (o + i * 6) p := by
  rcases h.1 with ⟨_, rfl⟩ | ⟨_, _, _, rfl⟩ | ⟨b, o, c', e, h1, h2⟩
  · simp at h0
  · simp at h0
  · cases e; exact ⟨b, o, rfl, h1, h2⟩
def okOp (p : Op14) : Prop := p.data.length ≤ 400 ∧ p.keep.length ≤ 60
instance (p : Op14) : Decidable (okOp p) := by unfold okOp; infer_instance
def small14 (L : List Op14) (most : Int) : Bool := L.all (fun p => decide (okOp p)) && decide ((L.length : Int) ≤ most)
abbrev cells14 (p : Op14) : Array Value := #[.int .i64 p.kind, .int .i64 p.n, p.dv, p.kv, .int .i64 p.torn, .int .i64 p.cut]
theorem below_set6 {B : Nat} {w w' : World} {g : Nat} (h : Below B w w') (hg : B ≤ g) (a b c d e f : Value) : Below B w ((((((w'.setCell ⟨g, 0, none⟩ a).setCell ⟨g, 1, none⟩ b).setCell ⟨g, 2, none⟩ c).setCell ⟨g, 3, none⟩ d).setCell ⟨g, 4, none⟩ e).setCell ⟨g, 5, none⟩ f) := (((((h.setCell hg _).setCell hg _).setCell hg _).setCell hg _).setCell hg _).setCell hg _
theorem set6_blk {w : World} {g : Nat} {tt : TypeId} {x0 x1 x2 x3 x4 x5 : Value} (h : Blk w g tt #[x0, x1, x2, x3, x4, x5]) (a b c d e f : Value) : Blk ((((((w.setCell ⟨g, 0, none⟩ a).setCell ⟨g, 1, none⟩ b).setCell ⟨g, 2, none⟩ c).setCell ⟨g, 3, none⟩ d).setCell ⟨g, 4, none⟩ e).setCell ⟨g, 5, none⟩ f) g tt #[a, b, c, d, e, f] := ((((((h.put 0 a #[a, x1, x2, x3, x4, x5] rfl).put 1 b #[a, b, x2, x3, x4, x5] rfl).put 2 c #[a, b, c, x3, x4, x5] rfl).put 3 d #[a, b, c, d, x4, x5] rfl).put 4 e #[a, b, c, d, e, x5] rfl).put 5 f #[a, b, c, d, e, f] rfl)
set_option maxHeartbeats 4000000 in
set_option maxRecDepth 100000 in
theorem small14_c (s : Value) (L : List Op14) (most : Int) (w : World) (hr : RowS w s L) (hl : L.length ≤ 9223372036854775807) : Calls Try.prog 17 #[s, .int .i64 most] w fun e w' => e = .returned (.bool (small14 L most)) ∧ Below w.heap.size w w' := by
  have HR := Lib.hid hr
  obtain ⟨ao, ac, rfl⟩ := hr.shape
  obtain ⟨n, hn⟩ : ∃ n, L.length = n := ⟨_, rfl⟩
  have HN := Lib.hid hn
  rw [hn] at HR ⊢
  have HL : Hid (n ≤ 9223372036854775807) := by rw [← hn]; exact hl
  clear hr hl hn
  go_enter Try.func17, Try.ntmps17
  go_wp2_with fail
  go_loopw [6, 9] (fun s6 s9 wr => ∃ k : Nat, k ≤ n ∧ s9 = .int .i64 (k : Int) ∧ Hid (Below w.heap.size w wr ∧ ∀ j p, L[j]? = some p → j < k → okOp p)) (fun _ s9 _ => n - (intOf s9).toNat)
  case atStart => exact ⟨0, by omega, rfl, Below.refl _ _, fun _ _ _ h => absurd h (Nat.not_lt_zero _)⟩
  case round =>
    obtain ⟨k, hk, rfl, hw⟩ := hrel
    by_cases hlt : k < n
    · have hd : decide ((k : Int) < (n : Int)) = true := by simp; omega
      have hki : (k : Int) < (n : Int) := by omega
      obtain ⟨b, of, rfl, hb, hc⟩ := RowS.addr HR.out (by rw [HN.out]; omega)
      obtain ⟨p, hp⟩ : ∃ p, L[k]? = some p := ⟨_, List.getElem?_eq_getElem (by rw [HN.out]; exact hlt)⟩
      obtain ⟨c0, c1, c2, c3, c4, c5⟩ := (hc k p hp).on hw.out.1 hb
      have hok := HR.out.2 p (List.mem_of_getElem? hp)
      obtain ⟨da, dc, hdv⟩ := hok.drow.shape
      obtain ⟨ka, kc, hkv⟩ := hok.krow.shape
      have HP := Lib.hid hp
      obtain ⟨dn, hdn⟩ : ∃ x, p.data.length = x := ⟨_, rfl⟩
      obtain ⟨kn, hkn⟩ : ∃ x, p.keep.length = x := ⟨_, rfl⟩
      have HLN : Hid (p.data.length = dn ∧ p.keep.length = kn) := ⟨hdn, hkn⟩
      rw [hdn] at hdv
      rw [hkn] at hkv
      rw [hdv] at c2
      rw [hkv] at c3
      have hbl : b < wr.heap.size := Nat.lt_of_lt_of_le hb hw.out.1.size
      clear hok hdv hkv hdn hkn hp hc hb
      obtain ⟨G, hG⟩ : ∃ G, wr.heap.size = G := ⟨_, rfl⟩
      have HG := Lib.hid hG
      obtain ⟨wa, hwa⟩ : ∃ x, wr.alloc (.cells #[.int .i64 0, .int .i64 0, .slice none 0 0, .slice none 0 0, .int .i64 0, .int .i64 0] 52) = x := ⟨_, rfl⟩
      have HA : Hid (Below w.heap.size w wa ∧ Blk wa G 52 #[.int .i64 0, .int .i64 0, .slice none 0 0, .slice none 0 0, .int .i64 0, .int .i64 0] ∧ w.heap.size ≤ G) := by
        rw [← hwa, ← hG]
        exact ⟨hw.out.1.alloc hw.out.1.size _, Blk.new _ _ _, hw.out.1.size⟩
      have z0 : wa.cell? ⟨G, 0, none⟩ = some (.int .i64 0) := HA.out.2.1.cell 0
      have z1 : wa.cell? ⟨G, 1, none⟩ = some (.int .i64 0) := HA.out.2.1.cell 1
      have z2 : wa.cell? ⟨G, 2, none⟩ = some (.slice none 0 0) := HA.out.2.1.cell 2
      have z3 : wa.cell? ⟨G, 3, none⟩ = some (.slice none 0 0) := HA.out.2.1.cell 3
      have z4 : wa.cell? ⟨G, 4, none⟩ = some (.int .i64 0) := HA.out.2.1.cell 4
      have z5 : wa.cell? ⟨G, 5, none⟩ = some (.int .i64 0) := HA.out.2.1.cell 5
      have y0 := HA.out.2.1.free 0
      have y1 := HA.out.2.1.free 1
      have y2 := HA.out.2.1.free 2
      have y3 := HA.out.2.1.free 3
      have y4 := HA.out.2.1.free 4
      have y5 := HA.out.2.1.free 5
      have ylt := HA.out.2.1.lt
      go_upto_region 4 with fail
      try rw [hwa]
      try rw [hG]
      clear hwa hG z0 z1 z2 z3 z4 z5 y0 y1 y2 y3 y4 y5 ylt c0 c1 c2 c3 c4 c5 hbl
      obtain ⟨wb, hwb⟩ : ∃ x, (((((wa.setCell ⟨G, 0, none⟩ (.int .i64 p.kind)).setCell ⟨G, 1, none⟩ (.int .i64 p.n)).setCell ⟨G, 2, none⟩ (.slice da dn dc)).setCell ⟨G, 3, none⟩ (.slice ka kn kc)).setCell ⟨G, 4, none⟩ (.int .i64 p.torn)).setCell ⟨G, 5, none⟩ (.int .i64 p.cut) = x := ⟨_, rfl⟩
      have HB : Hid (Below w.heap.size w wb ∧ Blk wb G 52 #[.int .i64 p.kind, .int .i64 p.n, .slice da dn dc, .slice ka kn kc, .int .i64 p.torn, .int .i64 p.cut]) := by
        rw [← hwb]
        exact ⟨below_set6 HA.out.1 HA.out.2.2 _ _ _ _ _ _, set6_blk HA.out.2.1 _ _ _ _ _ _⟩
      rw [hwb]
      clear hwb HA
      have z2 : wb.cell? ⟨G, 2, none⟩ = some (.slice da dn dc) := HB.out.2.cell 2
      have z3 : wb.cell? ⟨G, 3, none⟩ = some (.slice ka kn kc) := HB.out.2.cell 3
      have HW2 : Hid (∀ j p, L[j]? = some p → j < k → okOp p) := hw.out.2
      clear hw
      by_cases k1 : dn > 400
      · have e1 : decide ((dn : Int) > 400) = true := by simp; omega
        have e1' : decide (400 < dn) = true := by simp; omega
        have hno : Hid (small14 L most = false) := by
          unfold small14 Hid
          have : L.all (fun p => decide (okOp p)) = false := by
            apply Bool.eq_false_iff.2
            intro hall
            have h1 := List.all_eq_true.1 hall p (List.mem_of_getElem? HP.out)
            have h2 := of_decide_eq_true h1
            have h3 := h2.1
            rw [HLN.out.1] at h3
            omega
          rw [this]
          rfl
        go_wp2_with fail
        go_ret
        exact ⟨by rw [hno.out]; exact rfl, HB.out.1⟩
      have e1 : decide ((dn : Int) > 400) = false := by simp; omega
      have e1' : decide (400 < dn) = false := by simp; omega
      by_cases k2 : kn > 60
      · have e2 : decide ((kn : Int) > 60) = true := by simp; omega
        have e2' : decide (60 < kn) = true := by simp; omega
        have hno : Hid (small14 L most = false) := by
          unfold small14 Hid
          have : L.all (fun p => decide (okOp p)) = false := by
            apply Bool.eq_false_iff.2
            intro hall
            have h1 := List.all_eq_true.1 hall p (List.mem_of_getElem? HP.out)
            have h2 := of_decide_eq_true h1
            have h3 := h2.2
            rw [HLN.out.2] at h3
            omega
          rw [this]
          rfl
        go_wp2_with fail
        go_ret
        exact ⟨by rw [hno.out]; exact rfl, HB.out.1⟩
      have e2 : decide ((kn : Int) > 60) = false := by simp; omega
      have e2' : decide (60 < kn) = false := by simp; omega
      have HNX : Hid (∀ j p, L[j]? = some p → j < k + 1 → okOp p) := fun j q hq hj => by
        rcases Nat.lt_succ_iff_lt_or_eq.1 hj with h | rfl
        · exact HW2.out j q hq h
        · rw [HP.out] at hq
          cases hq
          exact ⟨by rw [HLN.out.1]; omega, by rw [HLN.out.2]; omega⟩
      have HKN : Hid (k + 1 ≤ n) := hlt
      clear k1 k2
      have hl9 := HL.out
      go_wp2_with fail
      exact ⟨⟨k + 1, HKN.out, by go_num, HB.out.1, HNX.out⟩, by simp [intOf]; omega⟩
    · have hd : decide ((k : Int) < (n : Int)) = false := by simp; omega
      have hkn : k = n := by omega
      subst hkn
      have HSM : Hid (small14 L most = decide ((k : Int) ≤ most)) := by
        unfold small14 Hid
        have : L.all (fun p => decide (okOp p)) = true := by
          rw [List.all_eq_true]
          intro q hq
          obtain ⟨j, hj⟩ := List.getElem?_of_mem hq
          exact decide_eq_true (hw.out.2 j q hj (by have := (List.getElem?_eq_some_iff.1 hj).1; rw [HN.out] at this; exact this))
        rw [this, HN.out]
        rfl
      have HF : Hid (Below w.heap.size w wr) := hw.out.1
      clear hw
      go_wp2_with fail
      go_ret
      exact ⟨by rw [HSM.out]; exact rfl, HF.out⟩
end Go.Proofs.Ytdcjchakgfpgaaa
