/- Layer 14: the laws' rows appended to; what they keep beside a store. -/
import Derived.Test.YtdcjchakgfpgaaaNa
import Derived.Deep.Upon
namespace Go.Proofs.Ytdcjchakgfpgaaa
open Go.RowKit
open Go.Shelf
theorem row_src {w : World} {ad : Addr} {k c : Nat} {Y : List Int} (h : RowB w (.slice (some ad) k c) Y) : ∀ j u, (bytV Y)[j]? = some u → w.cell? (ad.add j) = some u := by
  rcases h.news with ⟨e, _⟩ | ⟨ad', c', e, hx⟩
  · cases e
  · cases e
    exact hx
/-- An append to a slice that has no room: nothing is appended, or all is new. -/
theorem run_append_clip (w : World) (ty : TypeId) (ao : Option Addr) (n : Nat) (L : List Int) (row : RowB w (.slice ao n n) L) (hL : L.length = n) (s : Value) (Y : List Int) (rowY : RowB w s Y) (hl : n + Y.length ≤ 100000) :
    ∃ v' w', (Builtin.append_ #[24, 24] ty #[.slice ao n n, s]).run Try.prog w = .ok v' w' ∧ RowB w' v' (L ++ Y) ∧ CapS v' ∧ Below w.heap.size w w' ∧ ∀ k, v'.ownBlock = some k → (L ++ Y).length ≠ 0 → (L.length ≠ 0 ∧ (Value.slice ao n n).ownBlock = some k) ∨ w.heap.size ≤ k := by
  obtain ⟨i, hi, hz0, hz1, hz2⟩ := info_parts infoB
  have ht := Try.underlying24
  rcases rowY.news with ⟨rfl, rfl⟩ | ⟨ad, c, rfl, hx⟩
  · exact ⟨.slice ao n n, w, run_append_nothing w _ _ ty _ i ht hi ao n n (Nat.le_refl _) _ (Src.ofNil w ht 0), by rw [List.append_nil]; exact row, fun a m c e => (by cases e; exact Nat.le_refl _), Below.refl _ _, fun k e h => .inl ⟨by simpa using h, e⟩⟩
  · by_cases h0 : Y.length = 0
    · have hY : Y = [] := List.eq_nil_of_length_eq_zero h0
      subst hY
      exact ⟨.slice ao n n, w, run_append_nothing w _ _ ty _ i ht hi ao n n (Nat.le_refl _) _ (Src.ofSlice w ht ad 0 c [] (by simp) (fun j u h => by cases h) (fun u h => by cases h)), by rw [List.append_nil]; exact row, fun a m c e => (by cases e; exact Nat.le_refl _), Below.refl _ _, fun k e h => .inl ⟨by simpa using h, e⟩⟩
    · have hn : (bytV Y).length = Y.length * i.size := by rw [List.length_map, hz1]; omega
      cases ao with
      | none =>
        rcases row with ⟨e, hLn⟩ | ⟨_, _, e, _⟩ | ⟨_, _, _, e, _⟩
        · cases e
          subst hLn
          obtain ⟨v', w', hr, ho, hg, _⟩ := run_append_byts w 24 ty ht w.heap.size (.slice none 0 0) [] (World.ownsRow_nil _ _ _ _) ad Y.length c Y rfl hx (by simp; omega) (Nat.le_refl _)
          refine ⟨v', w', hr, ho.row, ho.cap, ⟨hg.os, hg.tape, hg.output, hg.size, fun k hk => hg.block k hk (fun e => by cases e)⟩, fun k e _ => .inr (ho.lt k e).1⟩
        · cases e
        · cases e
      | some b =>
        have hr := run_append_grow (P := Try.prog) w 24 ty 5 i _ ht hi hz0 b n n (bytV L) (by rw [List.length_map, hL, hz1]; omega) (row_src row) ad Y.length c (bytV Y) hn hx (by omega) (by omega) (by rw [hz2]; exact growslice_fits (by omega) (by omega))
        refine ⟨_, _, hr, ?_, fun a m c e => (by cases e; exact grownCap_ge _ _ _ _), (below_drewN (Below.refl _ _) 1).alloc (Nat.le_refl _) _, fun k e _ => (by cases e; exact .inr (Nat.le_refl _))⟩
        refine .inr (.inr ⟨w.heap.size, 0, _, by rw [List.length_append, hL], ?_, fun j x hx2 => ?_⟩)
        · show w.heap.size < (w.drew.alloc _).heap.size
          have : w.drew.heap.size = w.heap.size := rfl
          simp [World.alloc, this]
        · have hjl : j < L.length + Y.length := by have := (List.getElem?_eq_some_iff.1 hx2).1; rw [List.length_append] at this; exact this
          have hb := (Blk.new w.drew 5 ((bytV L).toArray ++ (bytV Y).toArray ++ Builtin.zeroCells (Value.int .u8 0).cells (grownCap w (n + Y.length) n 5 - (n + Y.length)))).cell (0 + j)
          refine hb.trans ?_
          rw [Nat.zero_add, Array.getElem?_append_left (by simp [bytV]; omega)]
          have e1 : ((bytV L).toArray ++ (bytV Y).toArray)[j]? = (bytV (L ++ Y))[j]? := by
            unfold bytV
            rw [List.map_append]
            simp
          rw [e1]
          unfold bytV
          rw [List.getElem?_map, hx2]
          rfl
/-- Bytes that a law keeps beside a store. -/
structure RowQ (U : Nat → Prop) (w : World) (v : Value) (L : List Int) : Prop where
  row : RowB w v L
  ok : OkB L
  cap : CapS v
  off : L.length ≠ 0 → ∀ k, v.ownBlock = some k → ¬ U k
theorem RowB.lt {w : World} {v : Value} {L : List Int} (h : RowB w v L) (h0 : L.length ≠ 0) : ∀ k, v.ownBlock = some k → k < w.heap.size := fun k e => by
  rcases h with ⟨_, rfl⟩ | ⟨_, _, _, rfl⟩ | ⟨b, o, c, rfl, h2, _⟩
  · exact absurd rfl h0
  · exact absurd rfl h0
  · cases e
    exact h2
theorem RowQ.to {U U' : Nat → Prop} {w w' : World} {v : Value} {L : List Int} (h : RowQ U w v L) (ht : To U w U' w') : RowQ U' w' v L :=
  ⟨h.row.keepK ht.keep h.off, h.ok, h.cap, fun h0 k e hk => (ht.new k hk).elim (h.off h0 k e) (fun h2 => by have := h.row.lt h0 k e; omega)⟩
theorem RowQ.nil (U : Nat → Prop) (w : World) : RowQ U w (.slice none 0 0) [] := ⟨.inl ⟨rfl, rfl⟩, fun x hx => (by cases hx), fun a n c e => (by cases e; exact Nat.le_refl _), fun h => absurd rfl h⟩
theorem SS.to {U : Nat → Prop} {w w' : World} {a g : Nat} {s : SM} (h : SS U w a g s) (hb : Below w.heap.size w w') : SS U w' a g s := by
  obtain ⟨T, sv, hd, sat, hU⟩ := h
  exact ⟨T, sv, at_grow hd hb, sat.grow hb, hU⟩
theorem SS.lt {U : Nat → Prop} {w : World} {a g : Nat} {s : SM} (h : SS U w a g s) : ∀ k, U k → k < w.heap.size := fun k hk => by
  obtain ⟨T, sv, hd, sat, hU⟩ := h
  rcases (hU k).1 hk with h | h | h
  · exact at_lt hd h
  · rw [h]; exact sat.blk.lt
  · exact (World.ownsRow.lt sat.all k h).2
/-- What a store has, as a law sees it: up, or down with what would have come. -/
def ModeQ (s : SM) (z H : Nat) (SN LG NS NL : List Int) (asked : Bool) (m gm : Int) : Prop :=
  s.D = SN ++ LG ∧ s.h.snap = (SN.length : Int) ∧ ((asked = false ∧ Up s z H m gm) ∨ (asked = true ∧ ∃ h', Dn s z H m gm h' (NS ++ NL) ∧ h'.snap = (NS.length : Int)))
/-- What came of an Append or a Compact. -/
def StepQ (s' : SM) (z H : Nat) (SN LG NS NL nS nL : List Int) (asked : Bool) (x : Int) (m gm : Int) : Prop :=
  (x = 42 ∧ ModeQ s' z H SN LG NS NL asked m gm) ∨ (x = 0 ∧ asked = false ∧ ModeQ s' z H nS nL NS NL false m gm) ∨ (x = 40 ∧ asked = true ∧ ModeQ s' z H SN LG NS NL true m gm) ∨ (x = 40 ∧ asked = false ∧ ModeQ s' z H SN LG nS nL true m gm)
theorem Good.mono {s : SM} {z H : Nat} {m gm m' gm' : Int} (g : Good s z H m gm) (h1 : m ≤ m') (h2 : gm ≤ gm') : Good s z H m' gm' := ⟨g.geo, g.ok.mono h1, g.byts, by have := g.gen; omega, g.right, g.len⟩
theorem Up.mono {s : SM} {z H : Nat} {m gm m' gm' : Int} (u : Up s z H m gm) (h1 : m ≤ m') (h2 : gm ≤ gm') : Up s z H m' gm' := ⟨u.good.mono h1 h2, u.f, u.down, u.wait, u.img⟩
theorem Dn.mono {s : SM} {z H : Nat} {m gm m' gm' : Int} {h' : Hd} {D' : List Int} (u : Dn s z H m gm h' D') (h1 : m ≤ m') (h2 : gm ≤ gm') : Dn s z H m' gm' h' D' := ⟨u.good.mono h1 h2, u.f, u.down, ⟨u.next.byts, by have := u.next.gen; omega, u.next.right, u.next.len⟩, u.img⟩
theorem ModeQ.mono {s : SM} {z H : Nat} {SN LG NS NL : List Int} {asked : Bool} {m gm m' gm' : Int} (h : ModeQ s z H SN LG NS NL asked m gm) (h1 : m ≤ m') (h2 : gm ≤ gm') : ModeQ s z H SN LG NS NL asked m' gm' := by
  refine ⟨h.1, h.2.1, ?_⟩
  rcases h.2.2 with ⟨a, u⟩ | ⟨a, h', u, e⟩
  · exact .inl ⟨a, u.mono h1 h2⟩
  · exact .inr ⟨a, h', u.mono h1 h2, e⟩
theorem ModeQ.good {s : SM} {z H : Nat} {SN LG NS NL : List Int} {asked : Bool} {m gm : Int} (h : ModeQ s z H SN LG NS NL asked m gm) : Good s z H m gm := by
  rcases h.2.2 with ⟨a, u⟩ | ⟨a, h', u, e⟩
  · exact u.good
  · exact u.good
theorem ModeQ.parts {s : SM} {z H : Nat} {SN LG NS NL : List Int} {asked : Bool} {m gm : Int} (h : ModeQ s z H SN LG NS NL asked m gm) : s.D.take s.h.snap.toNat = SN ∧ s.D.drop s.h.snap.toNat = LG := by
  rw [h.1, h.2.1, Int.toNat_natCast, List.take_left, List.drop_left]
  exact ⟨rfl, rfl⟩
theorem app_step {s : SM} {z H : Nat} {SN LG NS NL b : List Int} {asked : Bool} {m gm : Int} (h : ModeQ s z H SN LG NS NL asked m gm) (hm : 0 ≤ m) (hgm : gm ≤ 900000) (hb : OkB b) (hl : b.length ≤ 400) (hH : ((H * z : Nat) : Int) ≤ 1000000) :
    StepQ (appI s b).1 z H SN LG NS NL SN (LG ++ b) asked (appI s b).2 (m + 20) (gm + 1) := by
  by_cases hf : (b.length : Int) > capI s.d - (s.D.length : Int)
  · have e : appI s b = (s, 42) := by unfold appI; rw [if_pos hf]
    rw [e]
    exact .inl ⟨rfl, h.mono (by omega) (by omega)⟩
  · obtain ⟨h1, h2, h3⟩ := h
    rcases h3 with ⟨a, u⟩ | ⟨a, h', u, e⟩
    · rcases (app_up u hm (by omega) hb hl hH hf).1 with ⟨x, q1, q2, q3⟩ | ⟨x, q1, q2, q3⟩
      · refine .inr (.inl ⟨x, a, ?_, ?_, .inl ⟨rfl, q3⟩⟩)
        · rw [q2, h1, List.append_assoc]
        · rw [q1]; exact h2
      · refine .inr (.inr (.inr ⟨x, a, by rw [q2]; exact h1, by rw [q1]; exact h2, .inr ⟨rfl, ⟨s.h.gen + 1, s.h.half, s.h.snap, s.h.log + (b.length : Int)⟩, ?_, h2⟩⟩))
        rw [h1, List.append_assoc] at q3
        exact q3
    · have e2 : appI s b = (s, 40) := by
        unfold appI
        rw [if_neg hf]
        unfold saveI
        rw [if_pos u.f]
      rw [e2]
      exact .inr (.inr (.inl ⟨rfl, a, h1, h2, .inr ⟨rfl, h', u.mono (by omega) (by omega), e⟩⟩))
theorem comp_step {s : SM} {z H : Nat} {SN LG NS NL b : List Int} {asked : Bool} {m gm : Int} (h : ModeQ s z H SN LG NS NL asked m gm) (hm : 0 ≤ m) (hgm : gm ≤ 900000) (hb : OkB b) (hl : b.length ≤ 400) :
    StepQ (compI s b).1 z H SN LG NS NL b [] asked (compI s b).2 (m + 20) (gm + 1) := by
  by_cases hf : (b.length : Int) > capI s.d
  · have e : compI s b = (s, 42) := by unfold compI; rw [if_pos hf]
    rw [e]
    exact .inl ⟨rfl, h.mono (by omega) (by omega)⟩
  · obtain ⟨h1, h2, h3⟩ := h
    rcases h3 with ⟨a, u⟩ | ⟨a, h', u, e⟩
    · rcases (comp_up u hm (by omega) hb hl hf).1 with ⟨x, q1, q2, q3⟩ | ⟨x, q1, q2, q3⟩
      · refine .inr (.inl ⟨x, a, ?_, ?_, .inl ⟨rfl, q3⟩⟩)
        · rw [q2, List.append_nil]
        · rw [q1]
      · refine .inr (.inr (.inr ⟨x, a, by rw [q2]; exact h1, by rw [q1]; exact h2, .inr ⟨rfl, ⟨s.h.gen + 1, 1 - s.h.half, (b.length : Int), 0⟩, ?_, rfl⟩⟩))
        rw [List.append_nil]
        exact q3
    · have e2 : compI s b = (s, 40) := by
        unfold compI
        rw [if_neg hf]
        unfold saveI
        rw [if_pos u.f]
      rw [e2]
      exact .inr (.inr (.inl ⟨rfl, a, h1, h2, .inr ⟨rfl, h', u.mono (by omega) (by omega), e⟩⟩))
/-- The disk is armed. -/
theorem arm_mode {s : SM} {z H : Nat} {SN LG NS NL : List Int} {asked : Bool} {m gm : Int} (h : ModeQ s z H SN LG NS NL asked m gm) {n : Int} (hn : rngI n) : ModeQ { s with d := armD s.d n } z H SN LG NS NL asked m gm := by
  obtain ⟨h1, h2, h3⟩ := h
  refine ⟨h1, h2, ?_⟩
  have hg : ∀ {s : SM}, Good s z H m gm → Good { s with d := armD s.d n } z H m gm := fun g => ⟨g.geo.same rfl rfl, g.ok.arm hn, g.byts, g.gen, g.right, g.len⟩
  rcases h3 with ⟨a, u⟩ | ⟨a, h', u, e⟩
  · exact .inl ⟨a, hg u.good, u.f, u.down, u.wait, u.img⟩
  · exact .inr ⟨a, h', ⟨hg u.good, u.f, u.down, u.next, u.img⟩, e⟩
/-- The power goes and is back: the disk bears what was there, or what would have come. -/
theorem crash_mode {s : SM} {z H : Nat} {SN LG NS NL : List Int} {asked : Bool} {m gm : Int} (h : ModeQ s z H SN LG NS NL asked m gm) (hm : 0 ≤ m) (keep : List Bool) (torn cut : Int) :
    Idle (crashD s.d keep torn cut) z H m ∧ ∃ h' D', Img z H (crashD s.d keep torn cut).safe h' D' ∧ h'.gen ≤ gm ∧ ((D' = SN ++ LG ∧ h'.snap = (SN.length : Int)) ∨ (asked = true ∧ D' = NS ++ NL ∧ h'.snap = (NS.length : Int))) := by
  have g := h.good
  refine ⟨⟨g.geo.same rfl rfl, g.ok.crash hm keep torn cut, rfl, rfl⟩, ?_⟩
  obtain ⟨h1, h2, h3⟩ := h
  rcases h3 with ⟨a, u⟩ | ⟨a, h', u, e⟩
  · refine ⟨s.h, s.D, (crash_up u hm keep torn cut).2, u.good.gen, .inl ⟨h1, h2⟩⟩
  · rcases u.img keep torn cut with im | im
    · exact ⟨s.h, s.D, im, u.good.gen, .inl ⟨h1, h2⟩⟩
    · exact ⟨h', _, im, u.next.gen, .inr ⟨a, rfl, e⟩⟩
end Go.Proofs.Ytdcjchakgfpgaaa
