/- Layer 14: Append, Compact, Arm, Crash and Open as the laws call them. -/
import Derived.Test.YtdcjchakgfpgaaaNb
namespace Go.Proofs.Ytdcjchakgfpgaaa
open Go.RowKit
open Go.Shelf
/-- What a law's loop keeps. -/
def LoopQ (w : World) (g a z H : Nat) (m gm : Int) (v5 v6 v7 v8 : Value) (asked : Bool) (wr : World) : Prop :=
  ∃ U s SN LG NS NL, SS U wr a g s ∧ ModeQ s z H SN LG NS NL asked m gm ∧ RowQ U wr v5 SN ∧ RowQ U wr v6 LG ∧ RowQ U wr v7 NS ∧ RowQ U wr v8 NL ∧ Below w.heap.size w wr ∧ ∀ k, U k → w.heap.size ≤ k
theorem To.far {U U' : Nat → Prop} {w wr w' : World} (hb : Below w.heap.size w wr) (hf : ∀ k, U k → w.heap.size ≤ k) (ht : To U wr U' w') : Below w.heap.size w w' ∧ ∀ k, U' k → w.heap.size ≤ k :=
  ⟨hb.trans (ht.keep.below (fun k hk hT => absurd (hf k hT) (by omega)) hb.size), fun k hk => (ht.new k hk).elim (hf k) (Nat.le_trans hb.size)⟩
theorem append_q {U : Nat → Prop} {w : World} {a g : Nat} {s : SM} {z H : Nat} {SN LG NS NL b : List Int} {asked : Bool} {m gm : Int} {bv : Value} (st : SS U w a g s) (h : ModeQ s z H SN LG NS NL asked m gm) (hm : 0 ≤ m ∧ m ≤ 900) (hgm : gm ≤ 900000) (hr : RowQ U w bv b) (hl : b.length ≤ 400) (hH : H * z ≤ 20000) :
    Calls Try.prog 19 #[ptrD a, bv] w fun e w' => ∃ U' s' x, e = .returned (.int .i64 x) ∧ SS U' w' a g s' ∧ To U w U' w' ∧ StepQ s' z H SN LG NS NL SN (LG ++ b) asked x (m + 20) (gm + 1) := by
  have g' := h.good
  have hz : s.d.size.toNat = z := by rw [g'.geo.size, Int.toNat_natCast]
  have hn := need_small (z := z) (L := s.D.length) (M := b.length) g'.geo.z32 hl
  refine (append_c U w a g s m bv b st g'.ok (g'.sok (by omega)) hr.row hr.ok hl (by rw [g'.geo.cap]; omega) hr.off (by have := g'.gen; omega) (by rw [hz]; omega)).mono ?_
  rintro e w' ⟨U', he, hs, ht⟩
  exact ⟨U', _, _, he, hs, ht, app_step h hm.1 hgm hr.ok hl (by omega)⟩
theorem comp_q {U : Nat → Prop} {w : World} {a g : Nat} {s : SM} {z H : Nat} {SN LG NS NL b : List Int} {asked : Bool} {m gm : Int} {bv : Value} (st : SS U w a g s) (h : ModeQ s z H SN LG NS NL asked m gm) (hm : 0 ≤ m ∧ m ≤ 900) (hgm : gm ≤ 900000) (hr : RowQ U w bv b) (hl : b.length ≤ 400) :
    Calls Try.prog 20 #[ptrD a, bv] w fun e w' => ∃ U' s' x, e = .returned (.int .i64 x) ∧ SS U' w' a g s' ∧ To U w U' w' ∧ StepQ s' z H SN LG NS NL b [] asked x (m + 20) (gm + 1) := by
  have g' := h.good
  have hz : s.d.size.toNat = z := by rw [g'.geo.size, Int.toNat_natCast]
  have hn := need_small (z := z) (L := 0) (M := b.length) g'.geo.z32 hl
  rw [Nat.zero_add, Nat.zero_div] at hn
  refine (compact_c U w a g s m bv b st g'.ok (g'.sok (by omega)) hr.row hr.ok hl (by have := g'.gen; omega) (by rw [hz]; omega)).mono ?_
  rintro e w' ⟨U', he, hs, ht⟩
  exact ⟨U', _, _, he, hs, ht, comp_step h hm.1 hgm hr.ok hl⟩
theorem arm_q {U : Nat → Prop} {w : World} {a g : Nat} {s : SM} {z H : Nat} {SN LG NS NL : List Int} {asked : Bool} {m gm n : Int} (st : SS U w a g s) (h : ModeQ s z H SN LG NS NL asked m gm) (hm : m ≤ 1000) (hn : rngI n) :
    Calls Try.prog 23 #[ptrD g, .int .i64 n] w fun e w' => ∃ U' s', e = .returned (.tuple #[]) ∧ SS U' w' a g s' ∧ To U w U' w' ∧ ModeQ s' z H SN LG NS NL asked m gm := by
  obtain ⟨T, sv, hd, sat, hU⟩ := st
  refine (kArm_c T w g s.d n hd (h.good.ok.mono hm) hn).mono ?_
  rintro e w' ⟨T', he, ha, ht⟩
  refine ⟨fun k => T' k ∨ k = a ∨ sv.ownBlock = some k, { s with d := armD s.d n }, he, ⟨T', sv, ha, sat.to ht, fun k => Iff.rfl⟩, ⟨ht.keep.mono fun k hk hT => hk ((hU k).2 (.inl hT)), fun k hk => ?_⟩, arm_mode h hn⟩
  rcases hk with hk | hk | hk
  · exact (ht.new k hk).imp (fun h => (hU k).2 (.inl h)) id
  · exact .inl ((hU k).2 (.inr (.inl hk)))
  · exact .inl ((hU k).2 (.inr (.inr hk)))
theorem is_q {U : Nat → Prop} {w : World} {a g : Nat} {s : SM} {z H : Nat} {m gm : Int} {v1 v2 : Value} {S1 S2 : List Int} (st : SS U w a g s) (g' : Good s z H m gm) (hm : m ≤ 1000) (hgm : gm ≤ 1000000) (hH : H * z ≤ 31000) (r1 : RowQ U w v1 S1) (r2 : RowQ U w v2 S2) :
    Calls Try.prog 21 #[ptrD a, v1, v2] w fun e w' => e = .returned (.bool (decide (s.D.take s.h.snap.toNat = S1 ∧ s.D.drop s.h.snap.toNat = S2))) ∧ Below w.heap.size w w' :=
  is_c st (g'.ok.mono hm) (g'.sok hgm) (by have := g'.fit; omega) r1.row r2.row r1.ok r2.ok
/-- The store is right: its snapshot and log are told. -/
theorem is_t {U : Nat → Prop} {w : World} {a g : Nat} {s : SM} {z H : Nat} {m gm : Int} {v1 v2 : Value} {SN LG NS NL : List Int} {asked : Bool} (st : SS U w a g s) (h : ModeQ s z H SN LG NS NL asked m gm) (hm : m ≤ 1000) (hgm : gm ≤ 1000000) (hH : H * z ≤ 31000) (r1 : RowQ U w v1 SN) (r2 : RowQ U w v2 LG) :
    Calls Try.prog 21 #[ptrD a, v1, v2] w fun e w' => e = .returned (.bool true) ∧ Below w.heap.size w w' := by
  have key := is_q st h.good hm hgm hH r1 r2
  rw [decide_eq_true h.parts] at key
  exact key
/-- Behind a crash: the store that is opened, and what it has. -/
theorem open_q {T : Nat → Prop} {w : World} {g : Nat} {d : DM} {z H : Nat} {m gm : Int} {h' : Hd} {D' : List Int} (hd : At12 T w g d) (i : Idle d z H m) (hm0 : 0 ≤ m) (hm : m + H + 5 ≤ 1000) (im : Img z H d.safe h' D') (hgm : h'.gen ≤ gm) (hH : H * z ≤ 30000) (hH20 : H ≤ 18) {S1 S2 : List Int} (hD : D' = S1 ++ S2) (hs : h'.snap = (S1.length : Int)) (NS NL : List Int) :
    Calls Try.prog 15 #[ptrD g] w fun e w' => ∃ U' a s, e = .returned (.tuple #[ptrD a, .int .i64 0]) ∧ SS U' w' a g s ∧ To T w U' w' ∧ ModeQ s z H S1 S2 NS NL false (m + 20) gm := by
  refine (open_img T w g hd i hm0 hm im hgm hH).mono ?_
  rintro e w' ⟨U', a, s, he, hss, hto, h1, h2, h3, _⟩
  exact ⟨U', a, s, he, hss, hto, by rw [h2, hD], by rw [h1, hs], .inl ⟨rfl, h3.mono (by omega) (Int.le_refl _)⟩⟩
end Go.Proofs.Ytdcjchakgfpgaaa
