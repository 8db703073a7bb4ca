/- Layer 14: Append, Compact, is and Header of a store whose disk is not armed. -/
import Derived.Test.YtdcjchakgfpgaaaNc
namespace Go.Proofs.Ytdcjchakgfpgaaa
open Go.RowKit
open Go.Shelf
/-- A store that is up, on a disk that is not armed; its snapshot, its log, its generation. -/
structure Pl (s : SM) (z H : Nat) (m gm : Int) (SN LG : List Int) (gen : Int) : Prop where
  up : Up s z H m gm
  free : s.d.armed = false
  data : s.D = SN ++ LG
  snap : s.h.snap = (SN.length : Int)
  gen : s.h.gen = gen
theorem Pl.mono {s : SM} {z H : Nat} {m gm m' gm' gen : Int} {SN LG : List Int} (h : Pl s z H m gm SN LG gen) (h1 : m ≤ m') (h2 : gm ≤ gm') : Pl s z H m' gm' SN LG gen := ⟨h.up.mono h1 h2, h.free, h.data, h.snap, h.gen⟩
theorem Pl.mode {s : SM} {z H : Nat} {m gm gen : Int} {SN LG : List Int} (h : Pl s z H m gm SN LG gen) : ModeQ s z H SN LG [] [] false m gm := ⟨h.data, h.snap, .inl ⟨rfl, h.up⟩⟩
theorem Pl.fit {s : SM} {z H : Nat} {m gm gen : Int} {SN LG : List Int} (h : Pl s z H m gm SN LG gen) : SN.length + LG.length ≤ H * z := by
  have h1 := h.up.good.fit
  rw [h.data, List.length_append] at h1
  exact h1
theorem append_p {U : Nat → Prop} {w : World} {a g : Nat} {s : SM} {z H : Nat} {SN LG b : List Int} {m gm gen : Int} {bv : Value} (st : SS U w a g s) (h : Pl s z H m gm SN LG gen) (hm : 0 ≤ m ∧ m ≤ 900) (hgm : gm ≤ 900000) (hr : RowQ U w bv b) (hl : b.length ≤ 400) (hH : H * z ≤ 20000) :
    Calls Try.prog 19 #[ptrD a, bv] w fun e w' => ∃ U' s' x, e = .returned (.int .i64 x) ∧ SS U' w' a g s' ∧ To U w U' w' ∧
      (((b.length : Int) > ((H * z : Nat) : Int) - (SN.length : Int) - (LG.length : Int) ∧ x = 42 ∧ Pl s' z H (m + 20) (gm + 1) SN LG gen) ∨ (¬ (b.length : Int) > ((H * z : Nat) : Int) - (SN.length : Int) - (LG.length : Int) ∧ x = 0 ∧ Pl s' z H (m + 20) (gm + 1) SN (LG ++ b) (gen + 1))) := by
  have g' := h.up.good
  have hz : s.d.size.toNat = z := by rw [g'.geo.size, Int.toNat_natCast]
  have hn := need_small (z := z) (L := s.D.length) (M := b.length) g'.geo.z32 hl
  have hcap := g'.geo.cap
  have hlen : (s.D.length : Int) = (SN.length : Int) + (LG.length : Int) := by rw [h.data, List.length_append]; simp
  refine (append_c U w a g s m bv b st g'.ok (g'.sok (by omega)) hr.row hr.ok hl (by rw [hcap]; omega) hr.off (by have := g'.gen; omega) (by rw [hz]; omega)).mono ?_
  rintro e w' ⟨U', he, hs, ht⟩
  refine ⟨U', _, _, he, hs, ht, ?_⟩
  by_cases hf : (b.length : Int) > capI s.d - (s.D.length : Int)
  · have e : appI s b = (s, 42) := by unfold appI; rw [if_pos hf]
    rw [e]
    exact .inl ⟨by rw [hcap] at hf; omega, rfl, h.mono (by omega) (by omega)⟩
  · have key := app_up h.up hm.1 (by omega) hr.ok hl (by omega) hf
    obtain ⟨k1, k2⟩ := key.2 h.free
    refine .inr ⟨by rw [hcap] at hf; omega, k1, ?_⟩
    rcases key.1 with ⟨x, q1, q2, q3⟩ | ⟨x, _⟩
    · exact ⟨q3, k2, by rw [q2, h.data, List.append_assoc], by rw [q1]; exact h.snap, by rw [q1]; show s.h.gen + 1 = gen + 1; rw [h.gen]⟩
    · rw [k1] at x
      exact absurd x (by decide)
theorem comp_p {U : Nat → Prop} {w : World} {a g : Nat} {s : SM} {z H : Nat} {SN LG b : List Int} {m gm gen : Int} {bv : Value} (st : SS U w a g s) (h : Pl s z H m gm SN LG gen) (hm : 0 ≤ m ∧ m ≤ 900) (hgm : gm ≤ 900000) (hr : RowQ U w bv b) (hl : b.length ≤ 400) :
    Calls Try.prog 20 #[ptrD a, bv] w fun e w' => ∃ U' s' x, e = .returned (.int .i64 x) ∧ SS U' w' a g s' ∧ To U w U' w' ∧
      (((b.length : Int) > ((H * z : Nat) : Int) ∧ x = 42 ∧ Pl s' z H (m + 20) (gm + 1) SN LG gen) ∨ (¬ (b.length : Int) > ((H * z : Nat) : Int) ∧ x = 0 ∧ Pl s' z H (m + 20) (gm + 1) b [] (gen + 1))) := by
  have g' := h.up.good
  have hz : s.d.size.toNat = z := by rw [g'.geo.size, Int.toNat_natCast]
  have hn := need_small (z := z) (L := 0) (M := b.length) g'.geo.z32 hl
  rw [Nat.zero_add, Nat.zero_div] at hn
  have hcap := g'.geo.cap
  refine (compact_c U w a g s m bv b st g'.ok (g'.sok (by omega)) hr.row hr.ok hl (by have := g'.gen; omega) (by rw [hz]; omega)).mono ?_
  rintro e w' ⟨U', he, hs, ht⟩
  refine ⟨U', _, _, he, hs, ht, ?_⟩
  by_cases hf : (b.length : Int) > capI s.d
  · have e : compI s b = (s, 42) := by unfold compI; rw [if_pos hf]
    rw [e]
    exact .inl ⟨by rw [hcap] at hf; exact hf, rfl, h.mono (by omega) (by omega)⟩
  · have key := comp_up h.up hm.1 (by omega) hr.ok hl hf
    obtain ⟨k1, k2⟩ := key.2 h.free
    refine .inr ⟨by rw [hcap] at hf; exact hf, k1, ?_⟩
    rcases key.1 with ⟨x, q1, q2, q3⟩ | ⟨x, _⟩
    · exact ⟨q3, k2, by rw [q2, List.append_nil], by rw [q1], by rw [q1]; show s.h.gen + 1 = gen + 1; rw [h.gen]⟩
    · rw [k1] at x
      exact absurd x (by decide)
theorem is_p {U : Nat → Prop} {w : World} {a g : Nat} {s : SM} {z H : Nat} {m gm gen : Int} {v1 v2 : Value} {SN LG : List Int} (st : SS U w a g s) (h : Pl s z H m gm SN LG gen) (hm : m ≤ 1000) (hgm : gm ≤ 1000000) (hH : H * z ≤ 31000) (r1 : RowQ U w v1 SN) (r2 : RowQ U w v2 LG) :
    Calls Try.prog 21 #[ptrD a, v1, v2] w fun e w' => e = .returned (.bool true) ∧ Below w.heap.size w w' := is_t st h.mode hm hgm hH r1 r2
theorem hdr_p {U : Nat → Prop} {w : World} {a g : Nat} {s : SM} {z H : Nat} {m gm gen : Int} {SN LG : List Int} (st : SS U w a g s) (h : Pl s z H m gm SN LG gen) :
    Calls Try.prog 22 #[ptrD a] w fun e w' => ∃ x y t : Int, e = .returned (.agg #[.int .i64 gen, .int .i64 x, .int .i64 y, .int .i64 t]) ∧ Below w.heap.size w w' := by
  obtain ⟨T, sv, hd, sat, hU⟩ := st
  refine (sHeader_c sat).mono ?_
  rintro e w' ⟨rfl, hb⟩
  exact ⟨s.h.half, s.h.snap, s.h.log, by rw [← h.gen], hb⟩
theorem cap_p {U : Nat → Prop} {w : World} {a g : Nat} {s : SM} {z H : Nat} {m gm gen : Int} {SN LG : List Int} (st : SS U w a g s) (h : Pl s z H m gm SN LG gen) (hm : m ≤ 1000) :
    Calls Try.prog 18 #[ptrD a] w fun e w' => e = .returned (.int .i64 ((H * z : Nat) : Int)) ∧ Below w.heap.size w w' := by
  obtain ⟨T, sv, hd, sat, hU⟩ := st
  have key := sCap_c hd (h.up.good.ok.mono hm) sat
  rw [h.up.good.geo.cap] at key
  exact key
/-- A disk that is new has no header. -/
theorem zero_at (n : Nat) (i : Nat) : bAt (List.replicate n 0) i = 0 := by
  unfold bAt
  by_cases h : i < n
  · simp [h]
  · simp [h]
/-- What the loop of the law keeps. -/
def LoopP (w : World) (g a z H : Nat) (m gm gen : Int) (v5 v6 : Value) (wr : World) : Prop :=
  ∃ U s SN LG, SS U wr a g s ∧ Pl s z H m gm SN LG gen ∧ RowQ U wr v5 SN ∧ RowQ U wr v6 LG ∧ Below w.heap.size w wr ∧ ∀ k, U k → w.heap.size ≤ k
end Go.Proofs.Ytdcjchakgfpgaaa
