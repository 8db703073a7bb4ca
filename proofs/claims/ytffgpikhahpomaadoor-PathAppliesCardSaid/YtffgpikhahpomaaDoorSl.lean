/- Layer 6: Flat. -/
import Derived.Test.YtffgpikhahpomaaDoorSk
namespace Go.Proofs.YtffgpikhahpomaaDoor
open Go.RowKit Go.Shelf
attribute [local go_sem] Oper.semAt_some
theorem infoSub : (Tryd.prog.info? 39).map (fun i => (i.zero, i.size, i.bytes)) = some (some (.agg #[.slice none 0 0, .bool false]), 2, 32) := by kernel_rfl
/-- What holds between two rounds. -/
structure FlI (w : World) (N r7 d : Nat) (l : List Sg) (k : Nat) (u : Value) (S : List Sb) (A : World) : Prop where
  below : Below w.heap.size w A
  dep : Blk A w.heap.size 3 #[.int .i64 (d : Int)]
  r1 : Blk A (w.heap.size + 1) 32 #[.slice none 0 0]
  r2 : Blk A (w.heap.size + 2) 24 #[.int .i64 0]
  var : Blk A r7 32 #[u]
  subs : SubsAt A (N + 3) 39 44 u S
  fold : subsI d l = foldI d (aheadL l k) (l.drop k) (S.map Sb.plain)
  one : 0 < k → S ≠ []
  few : ∀ (i : Nat) (x : Sb), S[i]? = some x → x.L.length ≤ 64 * k
  len : S.length ≤ k
theorem FlI.keep {w A B : World} {N r7 d k : Nat} {l : List Sg} {u : Value} {S : List Sb} (h : FlI w N r7 d l k u S A) (hr : w.heap.size + 3 ≤ r7) (hN : r7 + 2 = N) (hk : Keep (fun j => ¬ (N ≤ j ∧ j < N + 3)) A B) : FlI w N r7 d l k u S B :=
  ⟨h.below.trans (hk.below (fun j hj => by omega) h.below.size), hk.blk h.dep (by omega), hk.blk h.r1 (by omega), hk.blk h.r2 (by omega), hk.blk h.var (by omega), h.subs.keep (fun k h1 h2 => hk.block k (by omega) h2), h.fold, h.one, h.few, h.len⟩
theorem SubsAt.base {w : World} {base base' : Nat} {tS tP : TypeId} {u : Value} {S : List Sb} (h : SubsAt w base tS tP u S) (hb : base' ≤ base) : SubsAt w base' tS tP u S := ⟨owns_base h.row hb, fun i x hx => owns_base (h.own i x hx) hb, h.apart⟩
theorem subs_shape {w : World} {base : Nat} {tS tP : TypeId} {u : Value} {S : List Sb} (h : SubsAt w base tS tP u S) : ∃ a c, u = .slice a S.length c := by
  obtain ⟨_, ⟨rfl, h0⟩ | ⟨g, cap, cur, rfl, _⟩⟩ := h.row
  · exact ⟨none, 0, by rw [h0]⟩
  · exact ⟨_, _, rfl⟩
theorem subs_addr {w : World} {base : Nat} {tS tP : TypeId} {a : Option Addr} {n c : Nat} {S : List Sb} (h : SubsAt w base tS tP (.slice a n c) S) (h0 : S ≠ []) : ∃ g, a = some ⟨g, 0, none⟩ ∧ base ≤ g ∧ g < w.heap.size ∧ n = S.length := by
  obtain ⟨_, ⟨e, h1⟩ | ⟨g, cap, cur, e, hb, hg, _⟩⟩ := h.row
  · exact absurd (List.eq_nil_of_length_eq_zero h1) h0
  · cases e; exact ⟨g, rfl, hb, (Array.getElem?_eq_some_iff.1 hg).1, rfl⟩
/-- The next round's beginning. -/
theorem fl_next {w A B C w' : World} {N r7 d k g cap m : Nat} {l : List Sg} {u : Value} {S S2 : List Sb} {x s : Sg} {y y' : Sb} (hF : FlI w N r7 d l k u S A) (h7 : w.heap.size + 3 ≤ r7) (hr7 : r7 + 2 = N) (hd : d ≤ 6) (hs : l[k]? = some s) (hx : aheadL l k = x)
    (kAB : Keep (fun j => j ≠ N + 1) A B) (hN : N + 3 ≤ A.heap.size) (kBC : Keep (fun j => (j < N + 3 ∧ j ≠ r7) ∨ (A.heap.size ≤ j ∧ j < A.heap.size + 3)) B C)
    (hvar : Blk C r7 32 #[.slice (some ⟨g, 0, none⟩) S2.length cap]) (hmap : S2.map Sb.plain = if s.k = 1 then S.map Sb.plain ++ [([], false)] else S.map Sb.plain)
    (hg : N + 3 ≤ g ∧ (g < A.heap.size ∨ A.heap.size + 3 ≤ g)) (hyb : ∀ j, y.v.ownBlock = some j → N + 3 ≤ j ∧ (j < A.heap.size ∨ A.heap.size + 3 ≤ j)) (hm : S2.length = m + 1) (hy : S2[m]? = some y)
    (hS : SubsAt w' (N + 3) 39 44 (.slice (some ⟨g, 0, none⟩) S2.length cap) (S2.set m y')) (hp : y'.plain = addI d x s y.plain) (kCw : Keep (fun j => j ≠ g ∧ y.v.ownBlock ≠ some j) C w') :
    FlI w N r7 d l (k + 1) (.slice (some ⟨g, 0, none⟩) S2.length cap) (S2.set m y') w' ∧ Keep (RoundS w.heap.size (r7 + 1) N A.heap.size) B w' := by
  have hno : ∀ j, j < N + 3 ∨ (A.heap.size ≤ j ∧ j < A.heap.size + 3) → j ≠ g ∧ y.v.ownBlock ≠ some j := fun j hj => ⟨by omega, fun e => by have := hyb j e; omega⟩
  have kBw : Keep (fun j => (j < N + 3 ∧ j ≠ r7) ∨ (A.heap.size ≤ j ∧ j < A.heap.size + 3)) B w' := kBC.trans (kCw.mono fun j hj => hno j (by omega))
  have kAw : Keep (fun j => j < N ∧ j ≠ r7) A w' := (kAB.mono fun j hj => by omega).trans (kBw.mono fun j hj => by omega)
  have hsz := hF.below.size
  have hmk : ∀ (i : Nat) (z : Sb), S2[i]? = some z → z.L.length ≤ 64 * k := fun i z hz => by
    have hz' : (S2.map Sb.plain)[i]? = some z.plain := by rw [List.getElem?_map, hz]; rfl
    rw [hmap] at hz'
    have old : ∀ i, (S.map Sb.plain)[i]? = some z.plain → z.L.length ≤ 64 * k := fun i h => by
      rw [List.getElem?_map] at h
      cases hq : S[i]? with
      | none => rw [hq] at h; cases h
      | some q =>
        rw [hq] at h
        have e : q.L = z.L := congrArg Prod.fst (Option.some.inj h)
        rw [← e]; exact hF.few i q hq
    split at hz'
    · rcases Nat.lt_or_ge i (S.map Sb.plain).length with hi | hi
      · rw [List.getElem?_append_left hi] at hz'; exact old i hz'
      · rw [List.getElem?_append_right hi] at hz'
        cases hq : i - (S.map Sb.plain).length with
        | zero =>
          rw [hq] at hz'
          have e : ([] : List Pt) = z.L := congrArg Prod.fst (Option.some.inj hz')
          rw [← e]; simp
        | succ q => rw [hq] at hz'; simp at hz'
    · exact old i hz'
  have hS2l : S2.length ≤ k + 1 := by
    have e : S2.length = (if s.k = 1 then S.map Sb.plain ++ [([], false)] else S.map Sb.plain).length := by rw [← hmap]; simp
    rw [e]
    have := hF.len
    split
    · simp; omega
    · simp; omega
  refine ⟨⟨hF.below.trans (kAw.below (fun j hj => by omega) hsz), kAw.blk hF.dep (by omega), kAw.blk hF.r1 (by omega), kAw.blk hF.r2 (by omega), kCw.blk hvar (hno _ (by omega)), by have e : (S2.set m y').length = S2.length := List.length_set; exact hS, ?_, fun _ e => ?_, fun i z hz => ?_, by rw [List.length_set]; exact hS2l⟩, kBw.mono fun j hj => by unfold RoundS at hj; omega⟩
  · rw [hF.fold, drop_at hs, hx, aheadL_succ hs]
    simp only [foldI, stepI]
    rw [← hmap, lastI_set (addI d x s) (S2.map Sb.plain) m y.plain (by simpa using hm) (by rw [List.getElem?_map, hy]; rfl), ← hp, List.map_set]
  · have := congrArg List.length e
    rw [List.length_set, hm] at this
    cases this
  · by_cases e : i = m
    · subst e
      have hlt : i < S2.length := by omega
      rw [List.getElem?_set_self hlt] at hz
      cases hz
      have h1 := addI_len hd x s y.plain
      rw [← hp] at h1
      have h2 := hmk i y hy
      have h3 : y'.plain.1 = y'.L := rfl
      have h4 : y.plain.1 = y.L := rfl
      rw [h3, h4] at h1
      omega
    · rw [List.getElem?_set_ne (Ne.symm e)] at hz
      have := hmk i z hz
      omega
theorem round_box {l : List Sg} {k : Nat} {s : Sg} {A B : World} {o : Obj} {N : Nat} (hN : N + 3 ≤ A.heap.size) (hB : B = (((A.alloc (.cells s.cells 48)).alloc (.cells (aheadL l k).cells 48)).alloc (.cells s.cells 48)).putObj (N + 1) o) : Blk B A.heap.size 48 s.cells := by
  rw [hB]
  exact (((Blk.new _ _ _).alloc _).alloc _).putOther _ (by omega)
/-- A subpath is begun. -/
theorem fl_more {B w5 : World} {N r7 g cap q As cu : Nat} {a : Option Addr} {S : List Sb} {c0 c1 c2 : Array Value} (hS : SubsAt B (N + 3) 39 44 (.slice a q cu) S) (hq : S.length = q) (hr7 : r7 + 2 = N) (hN : N + 3 ≤ As)
    (hA : ∀ k, (Value.slice a q cu).ownBlock = some k → k < As) (b0 : Blk B As 48 c0) (b1 : Blk B (As + 1) 48 c1) (b2 : Blk B (As + 1 + 1) 48 c2) (hv : Blk B r7 32 #[.slice a q cu]) {o : Obj}
    (hown : w5.ownsRow (N + 3) 39 2 (.slice (some ⟨g, 0, none⟩) (q + 1) cap) (q + 1) (cellsB S ++ [.slice none 0 0, .bool false])) (hg : (B.alloc o).grownBy w5 (Value.slice a q cu).ownBlock) :
    Blk w5 r7 32 #[.slice a q cu] ∧ Keep (fun j => (j < N + 3 ∧ j ≠ r7) ∨ (As ≤ j ∧ j < As + 3)) B (w5.setCell ⟨r7, 0, none⟩ (.slice (some ⟨g, 0, none⟩) (q + 1) cap)) ∧ Blk (w5.setCell ⟨r7, 0, none⟩ (.slice (some ⟨g, 0, none⟩) (q + 1) cap)) r7 32 #[.slice (some ⟨g, 0, none⟩) (q + 1) cap] ∧
      SubsAt (w5.setCell ⟨r7, 0, none⟩ (.slice (some ⟨g, 0, none⟩) (q + 1) cap)) (N + 3) 39 44 (.slice (some ⟨g, 0, none⟩) (S ++ [(⟨.slice none 0 0, [], false⟩ : Sb)]).length cap) (S ++ [(⟨.slice none 0 0, [], false⟩ : Sb)]) ∧ N + 3 ≤ g ∧ (g < As ∨ As + 3 ≤ g) := by
  have hub : ∀ k, (Value.slice a q cu).ownBlock = some k → N + 3 ≤ k := fun k hk => (hS.row.lt k hk).1
  have kB : Keep (fun j => (j < N + 3) ∨ (As ≤ j ∧ j < As + 3)) B w5 := Keep.trans (Keep.alloc _ B o) (⟨hg.os, hg.tape, hg.output, hg.size, fun k hk hl => hg.block k hl (fun e => by have h1 := hub k e.symm; have h2 := hA k e.symm; omega)⟩ : Keep _ (B.alloc o) w5)
  have v5 := kB.blk hv (by omega)
  have S5 := SubsAt.more (hS.grow ((Below.refl _ _).alloc (Nat.le_refl _) o)) (by decide) hg (by rw [hq]; exact hown)
  have hgb : N + 3 ≤ g := (hown.lt g rfl).1
  refine ⟨v5, (kB.mono fun j hj => by omega).trans (Keep.setCell _ _ _ (by simp; omega)), v5.put 0 _ _ rfl, ?_, hgb, ?_⟩
  · have hl : (S ++ [(⟨.slice none 0 0, [], false⟩ : Sb)]).length = q + 1 := by simp [hq]
    rw [hl]
    exact S5.keep fun k h1 h2 => Below.heap_setCell _ _ _ _ (by simp; omega)
  · rcases Nat.lt_or_ge g As with h | h
    · exact .inl h
    · rcases Nat.lt_or_ge g (As + 3) with h' | h'
      · exfalso
        obtain ⟨_, ⟨e, _⟩ | ⟨g', cap', cur, e, _, hgg, _⟩⟩ := hown
        · cases e
        · cases e
          have key : ∀ {cs}, Blk w5 g 48 cs → False := fun hk => by
            have := hk.symm.trans hgg
            simp at this
          rcases (by omega : g = As ∨ g = As + 1 ∨ g = As + 1 + 1) with rfl | rfl | rfl
          · exact key (kB.blk b0 (.inr ⟨by omega, by omega⟩))
          · exact key (kB.blk b1 (.inr ⟨by omega, by omega⟩))
          · exact key (kB.blk b2 (.inr ⟨by omega, by omega⟩))
      · exact .inr h'
set_option maxHeartbeats 8000000 in
set_option maxRecDepth 100000 in
theorem pflat_walk (ao : Option Addr) (n c d : Nat) (l : List Sg) (w : World) (hn : n ≤ 60) (hd : d ≤ 6) (hr : Rd w) (row : RowS w (.slice ao n c) l) (hg : checkI l = 0) :
    Calls Tryd.prog 16 #[.slice ao n c, .int .i64 (d : Int)] w fun e w' => ∃ u S, e = .returned (.tuple #[u, .int .i64 0]) ∧ SubsAt w' w.heap.size 39 44 u S ∧ S.map Sb.plain = subsI d l ∧ Below w.heap.size w w' := by
  have hd0 : decide ((d : Int) < 0) = false := decide_eq_false (by omega)
  have hd6 : decide ((d : Int) > 6) = false := decide_eq_false (by omega)
  have HN := Lib.hid hn
  have HD := Lib.hid hd
  have HR := Lib.hid hr
  have HROW := Lib.hid row
  have HGOOD := Lib.hid (check_good hg).1
  have HLEN := Lib.hid row.len
  have HCK : Hid (∀ w', Below w.heap.size w w' → Calls Tryd.prog 10 #[.slice ao n c] w' fun e w'' => e = .returned (.int .i64 0) ∧ Below w'.heap.size w' w'') := fun w' hb => hg ▸ check_c _ l w' (hr.on hb) (row.on hb)
  obtain ⟨i0, hi, hz0, hz1, hz2⟩ := info_parts infoSub
  have Hi := Lib.hid hi; have Hz0 := Lib.hid hz0; have Hz1 := Lib.hid hz1; have Hz2 := Lib.hid hz2
  clear hi hz0 hz1 hz2 hn hr row hg hd
  obtain ⟨w0, hw0⟩ : ∃ w0, ((w.alloc (.cells #[.int .i64 (d : Int)] 3)).alloc (.cells #[.slice none 0 0] 32)).alloc (.cells #[.int .i64 0] 24) = w0 := ⟨_, rfl⟩
  have W0 : Hid (Below w.heap.size w w0 ∧ Blk w0 w.heap.size 3 #[.int .i64 (d : Int)] ∧ Blk w0 (w.heap.size + 1) 32 #[.slice none 0 0] ∧ Blk w0 (w.heap.size + 2) 24 #[.int .i64 0] ∧ w0.heap.size = w.heap.size + 3) := by
    rw [← hw0]
    exact ⟨(((Below.refl _ _).alloc (Nat.le_refl _) _).alloc (by simp) _).alloc (by simp; omega) _, ((Blk.new _ _ _).alloc _).alloc _, (Blk.newAt _ _ _ (by simp)).alloc _, Blk.newAt _ _ _ (by simp), by simp⟩
  have HW0 := Lib.hid hw0
  clear hw0
  refine callsIn_wide.1 (callsIn_of_wp_marks (n := 9) Tryd.func16 rfl trivial (wpIn_wide.2 ?_))
  simp only [Tryd.ntmps16, List.size_toArray, List.length_cons, List.length_nil, Nat.reduceAdd, Nat.reduceSub, Array.replicate_succ, Array.replicate_zero, List.push_toArray, List.append_toArray, List.nil_append, List.cons_append]
  go_wp2_with fail
  rw [show ((w.alloc (.cells #[.int .i64 (d : Int)] 3)).alloc (.cells #[.slice none 0 0] 32)).alloc (.cells #[.int .i64 0] 24) = w0 from HW0.out]
  refine (HCK.out _ W0.out.1).mono ?_
  rintro e w1 ⟨rfl, hb⟩
  have W1 : Hid (Below w.heap.size w w1 ∧ Blk w1 w.heap.size 3 #[.int .i64 (d : Int)] ∧ Blk w1 (w.heap.size + 1) 32 #[.slice none 0 0] ∧ Blk w1 (w.heap.size + 2) 24 #[.int .i64 0] ∧ w.heap.size + 3 ≤ w1.heap.size) :=
    ⟨W0.out.1.trans (hb.mono W0.out.1.size), W0.out.2.1.grow hb, W0.out.2.2.1.grow hb, W0.out.2.2.2.1.grow hb, by have := hb.size; have := W0.out.2.2.2.2; omega⟩
  have cd := W1.out.2.1.cell 0
  have ld := W1.out.2.1.lt
  simp only [List.getElem?_toArray, List.getElem?_cons_zero] at cd
  clear hb W0
  go_wp2_with fail
  refine (segments_c ao n c _).mono ?_
  rintro e w2 ⟨rfl, rfl⟩
  go_wp2_with fail
  obtain ⟨r7, hr7⟩ : ∃ r, w1.heap.size = r := ⟨_, rfl⟩
  obtain ⟨W, hW⟩ : ∃ W, (w1.alloc (.cells #[.slice none 0 0] 32)).alloc (.cells #[.slice ao n c] 22) = W := ⟨_, rfl⟩
  have hz : W.heap.size = r7 + 2 := by rw [← hW, ← hr7]; simp
  have hb0 : Below w.heap.size w W := by rw [← hW]; exact (W1.out.1.alloc W1.out.1.size _).alloc (by have := W1.out.1.size; simp; omega) _
  have hx0 : Blk W (r7 + 1) 22 #[.slice ao n c] := by rw [← hW]; exact Blk.newAt _ _ _ (by simp [hr7])
  have h7 : w.heap.size + 3 ≤ r7 := hr7 ▸ W1.out.2.2.2.2
  have hF : FlI w W.heap.size r7 d l 0 (.slice none 0 0) [] W := by
    refine ⟨hb0, ?_, ?_, ?_, ?_, SubsAt.nil _ _ _ _, rfl, fun h => absurd h (by omega), fun i x h => (by cases h), Nat.le_refl _⟩
    · rw [← hW]; exact (W1.out.2.1.alloc _).alloc _
    · rw [← hW]; exact (W1.out.2.2.1.alloc _).alloc _
    · rw [← hW]; exact (W1.out.2.2.2.1.alloc _).alloc _
    · rw [← hW]; exact (Blk.newAt _ _ _ hr7).alloc _
  simp only [hr7]
  rw [hW]
  clear hW cd ld W1
  refine wp_segs (w0 := w) (bx := r7 + 1) (l := l) (n := n) rfl rfl hb0 (by omega) (hx0.cell 0) HROW.out (by have := HN.out; omega)
    (fun k A => k ≤ n ∧ ∃ u S, FlI w W.heap.size r7 d l k u S A)
    (fun k A B h hk => by obtain ⟨hkn, u, S, h⟩ := h; exact ⟨hkn, u, S, h.keep h7 hz.symm hk⟩)
    (fun _ => False)
    (fun A B h hk => h)
    ⟨Nat.zero_le _, _, _, hF⟩
    (fun x s g => #[.slice ao n c, .int .i64 (d : Int), undef, .pointer (some ⟨w.heap.size, 0, none⟩), .pointer (some ⟨w.heap.size + 1, 0, none⟩), .pointer (some ⟨w.heap.size + 2, 0, none⟩), .int .i64 0, .pointer (some ⟨r7, 0, none⟩), .pointer (some ⟨g, 0, none⟩), .pointer (some ⟨g + 1, 0, none⟩), undef, .slice ao n c, .int .i64 0, .int .i64 0, .bool false, undef, .int .i64 (d : Int), .bool false, .bool false, .int .i64 (d : Int), .bool false, .bool false, .slice ao n c, .func (.func 54) #[] #[.pointer (some ⟨r7 + 1, 0, none⟩)], .agg x.cells, .agg s.cells, undef, undef, undef, undef, undef, undef, undef, undef, undef, undef, undef, undef, undef, undef, undef, undef, undef, undef, undef, undef])
    (fun x s A => (A.alloc (.cells x.cells 48)).alloc (.cells s.cells 48))
    (fun x s A => (Keep.alloc _ _ _).trans (Keep.alloc _ _ _))
    ?assign ?body ?done ?stop
  case assign =>
    intro L x s A K hK
    simp only [Sg.cells] at hK ⊢
    gi_wp2
    exact hK
  case body =>
    rintro L k s A o B hk ⟨hkn, u, S, hFA⟩ hN hB
    obtain ⟨x, hx⟩ : ∃ x, aheadL l k = x := ⟨_, rfl⟩
    obtain ⟨kAB, bx, bs, zB⟩ := round_two hN hB hx
    have BX := Lib.hid (round_box hN hB)
    rw [hx]
    clear hB
    have HF := Lib.hid hFA
    have HK := Lib.hid hk
    have HX := Lib.hid hx
    have HKN := Lib.hid hkn
    have KAB := Lib.hid kAB
    have HZ := Lib.hid (show r7 + 2 = W.heap.size ∧ W.heap.size + 3 ≤ A.heap.size ∧ B.heap.size = A.heap.size + 3 ∧ w.heap.size + 3 ≤ r7 from ⟨hz.symm, hN, zB, h7⟩)
    have FN : Hid (Fine x s) := hx ▸ fine_of (HGOOD.out k s hk)
    have FX : Hid (s.k ≠ 1 → s.k ≠ 2 → s.k ≠ 5 → 1 ≤ needI x.k ∧ roomP (endI x) = true) := fun h1 _ _ => by
      have h5 := FN.out.ahead h1
      cases k with
      | zero => exact absurd (by rw [← HX.out]; rfl) h5
      | succ j =>
        obtain ⟨z, hzz⟩ : ∃ z, l[j]? = some z := ⟨_, List.getElem?_eq_getElem (by have := (List.getElem?_eq_some_iff.1 HK.out).1; omega)⟩
        have e : z = x := by rw [← HX.out]; exact (aheadL_succ hzz).symm
        have fz := fine_of (HGOOD.out j z hzz)
        rw [e] at fz
        have hp := need_pos fz.kind h5
        exact ⟨hp, fz.room _ (endI_mem hp)⟩
    have DB : Hid (Blk B w.heap.size 3 #[.int .i64 (d : Int)] ∧ Blk B (A.heap.size + 1) 48 x.cells ∧ Blk B (A.heap.size + 1 + 1) 48 s.cells ∧ Blk B r7 32 #[u]) := ⟨kAB.blk hFA.dep (by omega), bx, bs, kAB.blk hFA.var (by omega)⟩
    have SB : Hid (SubsAt B (W.heap.size + 3) 39 44 u S) := hFA.subs.keep fun j h1 h2 => kAB.block j (by omega) h2
    have RB : Hid (Below w.heap.size w B) := hFA.below.trans (kAB.below (fun j hj => by omega) hFA.below.size)
    have c0 := bs.s0
    clear hFA hk hx hkn kAB hN zB bx bs h7 hz hb0 hx0 hF
    by_cases h1 : s.k = 1
    · have e1 : (s.k == 1) = true := by simpa using h1
      have H1 := Lib.hid h1
      clear h1
      obtain ⟨a, cu, hu⟩ := subs_shape SB.out
      subst hu
      have c7 := DB.out.2.2.2.cell 0
      have f7 := DB.out.2.2.2.free 0
      have l7 := DB.out.2.2.2.lt
      simp only [List.getElem?_toArray, List.getElem?_cons_zero] at c7
      obtain ⟨q, hq⟩ : ∃ q, S.length = q := ⟨_, rfl⟩
      have HQ := Lib.hid hq
      rw [hq] at c7
      have OT : Hid ((B.alloc (.cells #[.slice none 0 0, .bool false] 39)).ownsRow (W.heap.size + 3) 39 2 (.slice a q cu) q (cellsB S)) := by
        have h := owns_grow SB.out.row ((Below.refl B.heap.size B).alloc (Nat.le_refl _) (.cells #[.slice none 0 0, .bool false] 39))
        rw [hq] at h
        exact h
      have NT : Hid (Blk (B.alloc (.cells #[.slice none 0 0, .bool false] 39)) B.heap.size 39 #[.slice none 0 0, .bool false]) := Blk.new _ _ _
      clear hq
      gi_wp2_with (gi_at_builtin; refine wpListIn_append_own _ rfl _ _ 32 rfl (W.heap.size + 3) 39 i0 (.agg #[.slice none 0 0, .bool false]) 2 32 Tryd.underlying32 Hi.out Hz0.out Hz1.out Hz2.out rfl (by decide) _ _ _ rfl OT.out ⟨B.heap.size, 0, none⟩ 1 1 [.slice none 0 0, .bool false] rfl rfl ?c1 ?c2 ?c3 ?c4 ?c5 ?_)
      case c1 =>
        intro j v hj
        simp only [Addr.add_lit, Nat.zero_add]
        exact (NT.out.cell j).trans (by simpa using hj)
      case c2 => intro v hv; simp at hv; rcases hv with rfl | rfl <;> rfl
      case c3 => have := HF.out.len; have := HQ.out; have := HKN.out; have := HN.out; unfold maxLen; omega
      case c4 => have := HF.out.len; have := HQ.out; have := HKN.out; have := HN.out; omega
      case c5 => have := HZ.out; simp; omega
      intro v' w5 hown hgrow _
      obtain ⟨g, cap, rfl⟩ := ownsRow_succ hown
      have SBq : Hid (SubsAt B (W.heap.size + 3) 39 44 (.slice a q cu) S) := by have h := SB.out; rw [HQ.out] at h; exact h
      have DBq : Hid (Blk B r7 32 #[.slice a q cu]) := by have h := DB.out.2.2.2; rw [HQ.out] at h; exact h
      have hmore := fl_more (As := A.heap.size) SBq.out HQ.out HZ.out.1 HZ.out.2.1 (fun k hk => by have h := HF.out.subs.row.lt k; rw [HQ.out] at h; exact (h hk).2) BX.out DB.out.2.1 DB.out.2.2.1 DBq.out hown hgrow
      have f75 := hmore.1.free 0
      have c75 := hmore.1.cell 0
      have l75 := hmore.1.lt
      simp only [List.getElem?_toArray, List.getElem?_cons_zero] at c75
      have HM := Lib.hid hmore
      clear hown hgrow hmore c7 f7 l7
      gi_wp2_with fail
      obtain ⟨S2, hS2⟩ : ∃ S2, S ++ [(⟨.slice none 0 0, [], false⟩ : Sb)] = S2 := ⟨_, rfl⟩
      obtain ⟨C, hC⟩ : ∃ C, w5.setCell ⟨r7, 0, none⟩ (.slice (some ⟨g, 0, none⟩) (q + 1) cap) = C := ⟨_, rfl⟩
      obtain ⟨y, hy⟩ : ∃ y, (⟨.slice none 0 0, [], false⟩ : Sb) = y := ⟨_, rfl⟩
      have hM2 := HM.out.2
      rw [hS2, hC] at hM2
      have hSl : S2.length = q + 1 := by rw [← hS2]; simp [HQ.out]
      have T1 : Hid (Keep (fun j => (j < W.heap.size + 3 ∧ j ≠ r7) ∨ (A.heap.size ≤ j ∧ j < A.heap.size + 3)) B C ∧ Blk C r7 32 #[.slice (some ⟨g, 0, none⟩) S2.length cap] ∧ SubsAt C (W.heap.size + 3) 39 44 (.slice (some ⟨g, 0, none⟩) S2.length cap) S2) := ⟨hM2.1, by rw [hSl]; exact hM2.2.1, hM2.2.2.1⟩
      have T2 : Hid (S2.map Sb.plain = if s.k = 1 then S.map Sb.plain ++ [([], false)] else S.map Sb.plain) := by unfold Hid; rw [if_pos H1.out, ← hS2]; simp [Sb.plain]
      have T3 : Hid ((W.heap.size + 3 ≤ g ∧ (g < A.heap.size ∨ A.heap.size + 3 ≤ g)) ∧ ∀ j, y.v.ownBlock = some j → W.heap.size + 3 ≤ j ∧ (j < A.heap.size ∨ A.heap.size + 3 ≤ j)) := ⟨hM2.2.2.2, fun j hj => by rw [← hy] at hj; simp [Value.ownBlock] at hj⟩
      have T4 : Hid (S2.length = q + 1 ∧ S2[q]? = some y) := ⟨hSl, by rw [← hS2, ← hy, ← HQ.out]; simp⟩
      have T5 : Hid (y.L.length ≤ 90000) := by unfold Hid; rw [← hy]; simp
      rw [hC]
      obtain ⟨m, hm⟩ : ∃ m, q = m := ⟨_, rfl⟩
      obtain ⟨M, hM⟩ : ∃ M, q + 1 = M := ⟨_, rfl⟩
      rw [hM]
      rw [hm] at hM T4
      have HMM := Lib.hid hM
      have T4 : Hid (S2.length = m + 1 ∧ S2[m]? = some y) := T4
      clear hS2 hC hy hM2 hSl hM hm c75 f75 l75 HM NT OT SBq DBq
      have HMl : Hid (S2.length = M) := by have h1 := T4.out.1; have h2 := HMM.out; unfold Hid; omega
      have V7 : Hid (Blk C r7 32 #[.slice (some ⟨g, 0, none⟩) M cap]) := by have h := T1.out.2.1; rw [HMl.out] at h; exact h
      have hAz := HZ.out
      have X8 : Hid (Blk C (A.heap.size + 1) 48 x.cells) := T1.out.1.blk DB.out.2.1 (by omega)
      have X9 : Hid (Blk C (A.heap.size + 1 + 1) 48 s.cells) := T1.out.1.blk DB.out.2.2.1 (by omega)
      have V3 : Hid (Blk C w.heap.size 3 #[.int .i64 (d : Int)]) := T1.out.1.blk DB.out.1 (by omega)
      have BC : Hid (Below w.heap.size w C) := RB.out.trans (T1.out.1.below (fun j hj => by omega) RB.out.size)
      have hM60 : M ≤ 1000 := by have h := congrArg List.length T2.out; rw [List.length_map, HMl.out] at h; have h1 := HF.out.len; have h2 := HKN.out; have h3 := HN.out; split at h <;> simp at h <;> omega
      have HW1 : Hid (wrap64 ((M : Int) - 1) = (m : Int)) := by unfold Hid; have h := HMM.out; rw [wrapR _ (by omega) (by omega)]; omega
      have HLT : Hid (m < M) := by have h := HMM.out; unfold Hid; omega
      have HADD := Lib.hid (add_all x s d HD.out C.drew (W.heap.size + 3) g cap m S2 y (T1.out.2.2.keep fun _ _ _ => rfl) T4.out.2 FN.out FX.out (HR.out.on (below_drewN BC.out 1)) (by have h := T1.out.1.size; show W.heap.size + 3 ≤ C.heap.size; omega) T5.out)
      simp only [Sg.cells] at HADD
      clear hAz hM60 c0
      refine wpIn_region_put2 (by kernel_rfl) (by kernel_rfl) (by kernel_rfl) (fun b' vs w' => (b' 0 = true → vs 0 = .slice (some ⟨g, 0, none⟩) M cap) ∧ (b' 1 = true → vs 1 = .slice (some ⟨g, 0, none⟩) M cap) ∧ (b' 2 = true → vs 2 = .int .i64 (M : Int)) ∧ (b' 3 = true → vs 3 = .int .i64 (m : Int)) ∧ (b' 4 = true → vs 4 = .pointer (some ⟨g, m * 2, none⟩)) ∧ (b' 5 = true → vs 5 = .agg (seven x.k x.p x.q x.r)) ∧ (b' 6 = true → vs 6 = .agg (seven s.k s.p s.q s.r)) ∧ (b' 7 = true → vs 7 = .int .i64 (d : Int)) ∧ (b' 8 = true → vs 8 = .int .i64 0) ∧ (b' 9 = true → vs 9 = .int .i64 0) ∧ Hid (b' 8 = true → b' 4 = true ∧ b' 5 = true ∧ b' 6 = true ∧ b' 7 = true) ∧ Hid (b' 4 = true → b' 0 = true ∧ b' 3 = true) ∧ Hid (b' 3 = true → b' 2 = true) ∧ Hid (b' 2 = true → b' 1 = true) ∧ Hid ((b' 8 = false → w' = C.drew) ∧ (b' 8 = true → ∃ y', SubsAt w' (W.heap.size + 3) 39 44 (.slice (some ⟨g, 0, none⟩) S2.length cap) (S2.set m y') ∧ y'.plain = addI d x s y.plain ∧ Keep (fun j => j ≠ g ∧ y.v.ownBlock ≠ some j) C w'))) ?_ ?_ ?_
      · intro vs hvs
        exact ⟨fun h => Bool.noConfusion h, fun h => Bool.noConfusion h, fun h => Bool.noConfusion h, fun h => Bool.noConfusion h, fun h => Bool.noConfusion h, fun h => Bool.noConfusion h, fun h => Bool.noConfusion h, fun h => Bool.noConfusion h, fun h => Bool.noConfusion h, fun h => Bool.noConfusion h, Lib.hid fun h => Bool.noConfusion h, Lib.hid fun h => Bool.noConfusion h, Lib.hid fun h => Bool.noConfusion h, Lib.hid fun h => Bool.noConfusion h, fun _ => rfl, fun h => Bool.noConfusion h⟩
      · rintro b' vs w' i op hi hun hall ⟨h0, h1, h2, h3, h4, h5, h6, h7, h8, h9, hA, hB, hC, hD, hM⟩
        have hil : i < 10 := (List.getElem?_eq_some_iff.1 hi).1
        rcases i with _ | _ | _ | _ | _ | _ | _ | _ | _ | _ | i
        · obtain rfl := Option.some.inj hi
          have n8 : b' 8 = false := by
            cases hz : b' 8 with
            | false => rfl
            | true => exact absurd ((hB.out (hA.out hz).1).1) (by rw [hun]; simp)
          obtain rfl := hM.out.1 n8
          have c7 : C.drew.cell? ⟨r7, 0, none⟩ = some (.slice (some ⟨g, 0, none⟩) M cap) := V7.out.cell 0
          refine wpOpIn_step rfl (fun K hK => ?_)
          have HKK := Lib.hid hK; clear hK
          simp only [putAll, Act.put, List.setIfInBounds_toArray, List.set_cons_zero, List.set_cons_succ]
          go_simp
          exact HKK.out _ _ ⟨_, by simp only [putAll, Act.put, List.setIfInBounds_toArray, List.set_cons_zero, List.set_cons_succ] <;> rfl, fun _ => rfl, h1, h2, h3, h4, h5, h6, h7, h8, h9, hA, Lib.hid (fun h => ⟨rfl, (hB.out h).2⟩), hC, hD, hM⟩
        · obtain rfl := Option.some.inj hi
          have n8 : b' 8 = false := by
            cases hz : b' 8 with
            | false => rfl
            | true => exact absurd (hD.out (hC.out (hB.out (hA.out hz).1).2)) (by rw [hun]; simp)
          obtain rfl := hM.out.1 n8
          have c7 : C.drew.cell? ⟨r7, 0, none⟩ = some (.slice (some ⟨g, 0, none⟩) M cap) := V7.out.cell 0
          refine wpOpIn_step rfl (fun K hK => ?_)
          have HKK := Lib.hid hK; clear hK
          simp only [putAll, Act.put, List.setIfInBounds_toArray, List.set_cons_zero, List.set_cons_succ]
          go_simp
          exact HKK.out _ _ ⟨_, by simp only [putAll, Act.put, List.setIfInBounds_toArray, List.set_cons_zero, List.set_cons_succ] <;> rfl, h0, fun _ => rfl, h2, h3, h4, h5, h6, h7, h8, h9, hA, hB, hC, Lib.hid (fun _ => rfl), hM⟩
        · obtain rfl := Option.some.inj hi
          have d1 := h1 (hall ⟨1, .data⟩ (by simp) rfl)
          refine wpOpIn_step rfl (fun K hK => ?_)
          have HKK := Lib.hid hK; clear hK
          simp only [putAll, Act.put, List.setIfInBounds_toArray, List.set_cons_zero, List.set_cons_succ, d1]
          go_simp
          exact HKK.out _ _ ⟨_, by simp only [putAll, Act.put, List.setIfInBounds_toArray, List.set_cons_zero, List.set_cons_succ, d1] <;> rfl, h0, h1, fun _ => rfl, h3, h4, h5, h6, h7, h8, h9, hA, hB, Lib.hid (fun _ => rfl), Lib.hid (fun _ => hall ⟨1, .data⟩ (by simp) rfl), hM⟩
        · obtain rfl := Option.some.inj hi
          have d2 := h2 (hall ⟨2, .data⟩ (by simp) rfl)
          have hw1 : IntKind.i64.wrap ((M : Int) - 1) = (m : Int) := by rw [wrap_is]; exact HW1.out
          have hw2 := HW1.out
          refine wpOpIn_step rfl (fun K hK => ?_)
          have HKK := Lib.hid hK; clear hK
          simp only [putAll, Act.put, List.setIfInBounds_toArray, List.set_cons_zero, List.set_cons_succ, d2]
          go_simp
          exact HKK.out _ _ ⟨_, by simp only [putAll, Act.put, List.setIfInBounds_toArray, List.set_cons_zero, List.set_cons_succ, d2] <;> rfl, h0, h1, h2, fun _ => rfl, h4, h5, h6, h7, h8, h9, hA, Lib.hid (fun h => ⟨(hB.out h).1, rfl⟩), Lib.hid (fun _ => hall ⟨2, .data⟩ (by simp) rfl), hD, hM⟩
        · obtain rfl := Option.some.inj hi
          have d0 := h0 (hall ⟨0, .data⟩ (by simp) rfl)
          have d3 := h3 (hall ⟨3, .data⟩ (by simp) rfl)
          have hmM := HLT.out
          refine wpOpIn_step rfl (fun K hK => ?_)
          have HKK := Lib.hid hK; clear hK
          simp only [putAll, Act.put, List.setIfInBounds_toArray, List.set_cons_zero, List.set_cons_succ, d0, d3]
          go_simp
          exact HKK.out _ _ ⟨_, by simp only [putAll, Act.put, List.setIfInBounds_toArray, List.set_cons_zero, List.set_cons_succ, d0, d3] <;> rfl, h0, h1, h2, h3, fun _ => rfl, h5, h6, h7, h8, h9, Lib.hid (fun h => ⟨rfl, (hA.out h).2⟩), Lib.hid (fun _ => ⟨hall ⟨0, .data⟩ (by simp) rfl, hall ⟨3, .data⟩ (by simp) rfl⟩), hC, hD, hM⟩
        · obtain rfl := Option.some.inj hi
          have n8 : b' 8 = false := by
            cases hz : b' 8 with
            | false => rfl
            | true => exact absurd ((hA.out hz).2.1) (by rw [hun]; simp)
          obtain rfl := hM.out.1 n8
          have kb := X8.out
          have c0 : C.drew.cell? ⟨_, 0, none⟩ = some _ := kb.s0
          have c1 : C.drew.cell? ⟨_, 1, none⟩ = some _ := kb.s1
          have c2 : C.drew.cell? ⟨_, 2, none⟩ = some _ := kb.s2
          have c3 : C.drew.cell? ⟨_, 3, none⟩ = some _ := kb.s3
          have c4 : C.drew.cell? ⟨_, 4, none⟩ = some _ := kb.s4
          have c5 : C.drew.cell? ⟨_, 5, none⟩ = some _ := kb.s5
          have c6 : C.drew.cell? ⟨_, 6, none⟩ = some _ := kb.s6
          refine wpOpIn_step rfl (fun K hK => ?_)
          have HKK := Lib.hid hK; clear hK
          simp only [putAll, Act.put, List.setIfInBounds_toArray, List.set_cons_zero, List.set_cons_succ]
          go_simp
          exact HKK.out _ _ ⟨_, by simp only [putAll, Act.put, List.setIfInBounds_toArray, List.set_cons_zero, List.set_cons_succ] <;> rfl, h0, h1, h2, h3, h4, fun _ => rfl, h6, h7, h8, h9, Lib.hid (fun h => ⟨(hA.out h).1, rfl, (hA.out h).2.2⟩), hB, hC, hD, hM⟩
        · obtain rfl := Option.some.inj hi
          have n8 : b' 8 = false := by
            cases hz : b' 8 with
            | false => rfl
            | true => exact absurd ((hA.out hz).2.2.1) (by rw [hun]; simp)
          obtain rfl := hM.out.1 n8
          have kb := X9.out
          have c0 : C.drew.cell? ⟨_, 0, none⟩ = some _ := kb.s0
          have c1 : C.drew.cell? ⟨_, 1, none⟩ = some _ := kb.s1
          have c2 : C.drew.cell? ⟨_, 2, none⟩ = some _ := kb.s2
          have c3 : C.drew.cell? ⟨_, 3, none⟩ = some _ := kb.s3
          have c4 : C.drew.cell? ⟨_, 4, none⟩ = some _ := kb.s4
          have c5 : C.drew.cell? ⟨_, 5, none⟩ = some _ := kb.s5
          have c6 : C.drew.cell? ⟨_, 6, none⟩ = some _ := kb.s6
          refine wpOpIn_step rfl (fun K hK => ?_)
          have HKK := Lib.hid hK; clear hK
          simp only [putAll, Act.put, List.setIfInBounds_toArray, List.set_cons_zero, List.set_cons_succ]
          go_simp
          exact HKK.out _ _ ⟨_, by simp only [putAll, Act.put, List.setIfInBounds_toArray, List.set_cons_zero, List.set_cons_succ] <;> rfl, h0, h1, h2, h3, h4, h5, fun _ => rfl, h7, h8, h9, Lib.hid (fun h => ⟨(hA.out h).1, (hA.out h).2.1, rfl, (hA.out h).2.2.2⟩), hB, hC, hD, hM⟩
        · obtain rfl := Option.some.inj hi
          have n8 : b' 8 = false := by
            cases hz : b' 8 with
            | false => rfl
            | true => exact absurd ((hA.out hz).2.2.2) (by rw [hun]; simp)
          obtain rfl := hM.out.1 n8
          have c3 : C.drew.cell? ⟨w.heap.size, 0, none⟩ = some (.int .i64 (d : Int)) := V3.out.cell 0
          refine wpOpIn_step rfl (fun K hK => ?_)
          have HKK := Lib.hid hK; clear hK
          simp only [putAll, Act.put, List.setIfInBounds_toArray, List.set_cons_zero, List.set_cons_succ]
          go_simp
          exact HKK.out _ _ ⟨_, by simp only [putAll, Act.put, List.setIfInBounds_toArray, List.set_cons_zero, List.set_cons_succ] <;> rfl, h0, h1, h2, h3, h4, h5, h6, fun _ => rfl, h8, h9, Lib.hid (fun h => ⟨(hA.out h).1, (hA.out h).2.1, (hA.out h).2.2.1, rfl⟩), hB, hC, hD, hM⟩
        · obtain rfl := Option.some.inj hi
          have d4 := h4 (hall ⟨4, .data⟩ (by simp) rfl)
          have d5 := h5 (hall ⟨5, .data⟩ (by simp) rfl)
          have d6 := h6 (hall ⟨6, .data⟩ (by simp) rfl)
          have d7 := h7 (hall ⟨7, .data⟩ (by simp) rfl)
          have n8 : b' 8 = false := hun
          obtain rfl := hM.out.1 n8
          refine wpOpIn_step rfl (fun K hK => ?_)
          have HKK := Lib.hid hK; clear hK
          simp only [putAll, Act.put, List.setIfInBounds_toArray, List.set_cons_zero, List.set_cons_succ, d4, d5, d6, d7]
          go_simp
          refine ⟨trivial, (CallsIn.inRound L (callsIn_wide.2 HADD.out)).mono ?_⟩
          rintro e w3 ⟨rfl, y1, hp1, hp2, hp3⟩
          exact HKK.out _ _ ⟨_, by simp only [putAll, Act.put, List.setIfInBounds_toArray, List.set_cons_zero, List.set_cons_succ, d4, d5, d6, d7] <;> rfl, h0, h1, h2, h3, h4, h5, h6, h7, fun _ => rfl, h9, Lib.hid (fun _ => ⟨hall ⟨4, .data⟩ (by simp) rfl, hall ⟨5, .data⟩ (by simp) rfl, hall ⟨6, .data⟩ (by simp) rfl, hall ⟨7, .data⟩ (by simp) rfl⟩), hB, hC, hD, ⟨fun h => Bool.noConfusion h, fun _ => ⟨y1, hp1, hp2, ⟨hp3.os, hp3.tape, hp3.output, hp3.size, hp3.block⟩⟩⟩⟩
        · obtain rfl := Option.some.inj hi
          have d8 := h8 (hall ⟨8, .data⟩ (by simp) rfl)
          refine wpOpIn_step rfl (fun K hK => ?_)
          have HKK := Lib.hid hK; clear hK
          simp only [putAll, Act.put, List.setIfInBounds_toArray, List.set_cons_zero, List.set_cons_succ, d8]
          go_simp
          exact HKK.out _ _ ⟨_, by simp only [putAll, Act.put, List.setIfInBounds_toArray, List.set_cons_zero, List.set_cons_succ, d8] <;> rfl, h0, h1, h2, h3, h4, h5, h6, h7, h8, fun _ => rfl, hA, hB, hC, hD, hM⟩
        · exact absurd hil (by omega)
      · rintro b' vs w' hb ⟨h0, h1, h2, h3, h4, h5, h6, h7, h8, h9, hA, hB, hC, hD, hM⟩
        have e9 := h9 (hb 9 (by decide))
        obtain ⟨y', p1, p2, p3⟩ := hM.out.2 (hb 8 (by decide))
        have HP := Lib.hid (show _ ∧ _ ∧ _ from ⟨p1, p2, p3⟩)
        clear h0 h1 h2 h3 h4 h5 h6 h7 h8 h9 hA hB hC hD hM p1 p2 p3
        simp only [putAll, Act.put, List.setIfInBounds_toArray, List.set_cons_zero, List.set_cons_succ, e9]
        gi_wp2_with fail
        have fl := fl_next HF.out HZ.out.2.2.2 HZ.out.1 HD.out HK.out HX.out KAB.out HZ.out.2.1 T1.out.1 T1.out.2.1 T2.out T3.out.1 T3.out.2 T4.out.1 T4.out.2 HP.out.1 HP.out.2.1 HP.out.2.2
        exact ⟨fl.2, by have h1 := (List.getElem?_eq_some_iff.1 HK.out).1; have h2 := HLEN.out; omega, _, _, fl.1⟩
    · have e1 : (s.k == 1) = false := by simpa using h1
      have H1 := Lib.hid h1
      clear h1
      have hk0 : 0 < k := by
        have h5 := FN.out.ahead H1.out
        cases k with
        | zero => exact absurd (by rw [← HX.out]; rfl) h5
        | succ j => omega
      have hne := HF.out.one hk0
      obtain ⟨a, cap, hu⟩ := subs_shape SB.out
      subst hu
      obtain ⟨g, rfl, hg1, _, _⟩ := subs_addr SB.out hne
      have hgA : g < A.heap.size := by
        obtain ⟨g', e, _, h, _⟩ := subs_addr HF.out.subs hne
        cases e; exact h
      obtain ⟨S2, hS2⟩ : ∃ S2, S = S2 := ⟨_, rfl⟩
      obtain ⟨C, hC⟩ : ∃ C, B = C := ⟨_, rfl⟩
      obtain ⟨m, hm⟩ : ∃ m, S2.length = m + 1 := ⟨S2.length - 1, by have h := List.length_pos_iff.2 hne; rw [hS2] at h; omega⟩
      obtain ⟨y, hy⟩ : ∃ y, S2[m]? = some y := ⟨_, List.getElem?_eq_getElem (by omega)⟩
      have SB2 := SB.out
      have DB2 := DB.out.2.2.2
      have HFs := HF.out.subs
      have HFf := HF.out.few
      rw [hS2] at SB2 DB2 HFs HFf
      rw [hC] at SB2 DB2
      have T1 : Hid (Keep (fun j => (j < W.heap.size + 3 ∧ j ≠ r7) ∨ (A.heap.size ≤ j ∧ j < A.heap.size + 3)) B C ∧ Blk C r7 32 #[.slice (some ⟨g, 0, none⟩) S2.length cap] ∧ SubsAt C (W.heap.size + 3) 39 44 (.slice (some ⟨g, 0, none⟩) S2.length cap) S2) := ⟨by rw [← hC]; exact Keep.refl _ _, DB2, SB2⟩
      have T2 : Hid (S2.map Sb.plain = if s.k = 1 then S.map Sb.plain ++ [([], false)] else S.map Sb.plain) := by unfold Hid; rw [if_neg H1.out, hS2]
      have T3 : Hid ((W.heap.size + 3 ≤ g ∧ (g < A.heap.size ∨ A.heap.size + 3 ≤ g)) ∧ ∀ j, y.v.ownBlock = some j → W.heap.size + 3 ≤ j ∧ (j < A.heap.size ∨ A.heap.size + 3 ≤ j)) := ⟨⟨hg1, .inl hgA⟩, fun j hj => by have h := Own.lt (HFs.own m y hy) j hj; exact ⟨h.1, .inl h.2⟩⟩
      have T4 : Hid (S2.length = m + 1 ∧ S2[m]? = some y) := ⟨hm, hy⟩
      have T5 : Hid (y.L.length ≤ 90000) := by have h1 := HFf m y hy; have h2 := HKN.out; have h3 := HN.out; unfold Hid; omega
      obtain ⟨M, hM⟩ : ∃ M, m + 1 = M := ⟨_, rfl⟩
      have HMM := Lib.hid hM
      have RBC := Lib.hid hC
      clear hS2 hy hm hM hne hk0 hgA SB2 DB2 HFs HFf hg1 hC
      gi_wp2_with fail
      rw [RBC.out]
      have HMl : Hid (S2.length = M) := by have h1 := T4.out.1; have h2 := HMM.out; unfold Hid; omega
      have V7 : Hid (Blk C r7 32 #[.slice (some ⟨g, 0, none⟩) M cap]) := by have h := T1.out.2.1; rw [HMl.out] at h; exact h
      have hAz := HZ.out
      have X8 : Hid (Blk C (A.heap.size + 1) 48 x.cells) := T1.out.1.blk DB.out.2.1 (by omega)
      have X9 : Hid (Blk C (A.heap.size + 1 + 1) 48 s.cells) := T1.out.1.blk DB.out.2.2.1 (by omega)
      have V3 : Hid (Blk C w.heap.size 3 #[.int .i64 (d : Int)]) := T1.out.1.blk DB.out.1 (by omega)
      have BC : Hid (Below w.heap.size w C) := RB.out.trans (T1.out.1.below (fun j hj => by omega) RB.out.size)
      have hM60 : M ≤ 1000 := by have h := congrArg List.length T2.out; rw [List.length_map, HMl.out] at h; have h1 := HF.out.len; have h2 := HKN.out; have h3 := HN.out; split at h <;> simp at h <;> omega
      have HW1 : Hid (wrap64 ((M : Int) - 1) = (m : Int)) := by unfold Hid; have h := HMM.out; rw [wrapR _ (by omega) (by omega)]; omega
      have HLT : Hid (m < M) := by have h := HMM.out; unfold Hid; omega
      have HADD := Lib.hid (add_all x s d HD.out C.drew (W.heap.size + 3) g cap m S2 y (T1.out.2.2.keep fun _ _ _ => rfl) T4.out.2 FN.out FX.out (HR.out.on (below_drewN BC.out 1)) (by have h := T1.out.1.size; show W.heap.size + 3 ≤ C.heap.size; omega) T5.out)
      simp only [Sg.cells] at HADD
      clear hAz hM60 c0
      refine wpIn_region_put2 (by kernel_rfl) (by kernel_rfl) (by kernel_rfl) (fun b' vs w' => (b' 0 = true → vs 0 = .slice (some ⟨g, 0, none⟩) M cap) ∧ (b' 1 = true → vs 1 = .slice (some ⟨g, 0, none⟩) M cap) ∧ (b' 2 = true → vs 2 = .int .i64 (M : Int)) ∧ (b' 3 = true → vs 3 = .int .i64 (m : Int)) ∧ (b' 4 = true → vs 4 = .pointer (some ⟨g, m * 2, none⟩)) ∧ (b' 5 = true → vs 5 = .agg (seven x.k x.p x.q x.r)) ∧ (b' 6 = true → vs 6 = .agg (seven s.k s.p s.q s.r)) ∧ (b' 7 = true → vs 7 = .int .i64 (d : Int)) ∧ (b' 8 = true → vs 8 = .int .i64 0) ∧ (b' 9 = true → vs 9 = .int .i64 0) ∧ Hid (b' 8 = true → b' 4 = true ∧ b' 5 = true ∧ b' 6 = true ∧ b' 7 = true) ∧ Hid (b' 4 = true → b' 0 = true ∧ b' 3 = true) ∧ Hid (b' 3 = true → b' 2 = true) ∧ Hid (b' 2 = true → b' 1 = true) ∧ Hid ((b' 8 = false → w' = C.drew) ∧ (b' 8 = true → ∃ y', SubsAt w' (W.heap.size + 3) 39 44 (.slice (some ⟨g, 0, none⟩) S2.length cap) (S2.set m y') ∧ y'.plain = addI d x s y.plain ∧ Keep (fun j => j ≠ g ∧ y.v.ownBlock ≠ some j) C w'))) ?_ ?_ ?_
      · intro vs hvs
        exact ⟨fun h => Bool.noConfusion h, fun h => Bool.noConfusion h, fun h => Bool.noConfusion h, fun h => Bool.noConfusion h, fun h => Bool.noConfusion h, fun h => Bool.noConfusion h, fun h => Bool.noConfusion h, fun h => Bool.noConfusion h, fun h => Bool.noConfusion h, fun h => Bool.noConfusion h, Lib.hid fun h => Bool.noConfusion h, Lib.hid fun h => Bool.noConfusion h, Lib.hid fun h => Bool.noConfusion h, Lib.hid fun h => Bool.noConfusion h, fun _ => rfl, fun h => Bool.noConfusion h⟩
      · rintro b' vs w' i op hi hun hall ⟨h0, h1, h2, h3, h4, h5, h6, h7, h8, h9, hA, hB, hC, hD, hM⟩
        have hil : i < 10 := (List.getElem?_eq_some_iff.1 hi).1
        rcases i with _ | _ | _ | _ | _ | _ | _ | _ | _ | _ | i
        · obtain rfl := Option.some.inj hi
          have n8 : b' 8 = false := by
            cases hz : b' 8 with
            | false => rfl
            | true => exact absurd ((hB.out (hA.out hz).1).1) (by rw [hun]; simp)
          obtain rfl := hM.out.1 n8
          have c7 : C.drew.cell? ⟨r7, 0, none⟩ = some (.slice (some ⟨g, 0, none⟩) M cap) := V7.out.cell 0
          refine wpOpIn_step rfl (fun K hK => ?_)
          have HKK := Lib.hid hK; clear hK
          simp only [putAll, Act.put, List.setIfInBounds_toArray, List.set_cons_zero, List.set_cons_succ]
          go_simp
          exact HKK.out _ _ ⟨_, by simp only [putAll, Act.put, List.setIfInBounds_toArray, List.set_cons_zero, List.set_cons_succ] <;> rfl, fun _ => rfl, h1, h2, h3, h4, h5, h6, h7, h8, h9, hA, Lib.hid (fun h => ⟨rfl, (hB.out h).2⟩), hC, hD, hM⟩
        · obtain rfl := Option.some.inj hi
          have n8 : b' 8 = false := by
            cases hz : b' 8 with
            | false => rfl
            | true => exact absurd (hD.out (hC.out (hB.out (hA.out hz).1).2)) (by rw [hun]; simp)
          obtain rfl := hM.out.1 n8
          have c7 : C.drew.cell? ⟨r7, 0, none⟩ = some (.slice (some ⟨g, 0, none⟩) M cap) := V7.out.cell 0
          refine wpOpIn_step rfl (fun K hK => ?_)
          have HKK := Lib.hid hK; clear hK
          simp only [putAll, Act.put, List.setIfInBounds_toArray, List.set_cons_zero, List.set_cons_succ]
          go_simp
          exact HKK.out _ _ ⟨_, by simp only [putAll, Act.put, List.setIfInBounds_toArray, List.set_cons_zero, List.set_cons_succ] <;> rfl, h0, fun _ => rfl, h2, h3, h4, h5, h6, h7, h8, h9, hA, hB, hC, Lib.hid (fun _ => rfl), hM⟩
        · obtain rfl := Option.some.inj hi
          have d1 := h1 (hall ⟨1, .data⟩ (by simp) rfl)
          refine wpOpIn_step rfl (fun K hK => ?_)
          have HKK := Lib.hid hK; clear hK
          simp only [putAll, Act.put, List.setIfInBounds_toArray, List.set_cons_zero, List.set_cons_succ, d1]
          go_simp
          exact HKK.out _ _ ⟨_, by simp only [putAll, Act.put, List.setIfInBounds_toArray, List.set_cons_zero, List.set_cons_succ, d1] <;> rfl, h0, h1, fun _ => rfl, h3, h4, h5, h6, h7, h8, h9, hA, hB, Lib.hid (fun _ => rfl), Lib.hid (fun _ => hall ⟨1, .data⟩ (by simp) rfl), hM⟩
        · obtain rfl := Option.some.inj hi
          have d2 := h2 (hall ⟨2, .data⟩ (by simp) rfl)
          have hw1 : IntKind.i64.wrap ((M : Int) - 1) = (m : Int) := by rw [wrap_is]; exact HW1.out
          have hw2 := HW1.out
          refine wpOpIn_step rfl (fun K hK => ?_)
          have HKK := Lib.hid hK; clear hK
          simp only [putAll, Act.put, List.setIfInBounds_toArray, List.set_cons_zero, List.set_cons_succ, d2]
          go_simp
          exact HKK.out _ _ ⟨_, by simp only [putAll, Act.put, List.setIfInBounds_toArray, List.set_cons_zero, List.set_cons_succ, d2] <;> rfl, h0, h1, h2, fun _ => rfl, h4, h5, h6, h7, h8, h9, hA, Lib.hid (fun h => ⟨(hB.out h).1, rfl⟩), Lib.hid (fun _ => hall ⟨2, .data⟩ (by simp) rfl), hD, hM⟩
        · obtain rfl := Option.some.inj hi
          have d0 := h0 (hall ⟨0, .data⟩ (by simp) rfl)
          have d3 := h3 (hall ⟨3, .data⟩ (by simp) rfl)
          have hmM := HLT.out
          refine wpOpIn_step rfl (fun K hK => ?_)
          have HKK := Lib.hid hK; clear hK
          simp only [putAll, Act.put, List.setIfInBounds_toArray, List.set_cons_zero, List.set_cons_succ, d0, d3]
          go_simp
          exact HKK.out _ _ ⟨_, by simp only [putAll, Act.put, List.setIfInBounds_toArray, List.set_cons_zero, List.set_cons_succ, d0, d3] <;> rfl, h0, h1, h2, h3, fun _ => rfl, h5, h6, h7, h8, h9, Lib.hid (fun h => ⟨rfl, (hA.out h).2⟩), Lib.hid (fun _ => ⟨hall ⟨0, .data⟩ (by simp) rfl, hall ⟨3, .data⟩ (by simp) rfl⟩), hC, hD, hM⟩
        · obtain rfl := Option.some.inj hi
          have n8 : b' 8 = false := by
            cases hz : b' 8 with
            | false => rfl
            | true => exact absurd ((hA.out hz).2.1) (by rw [hun]; simp)
          obtain rfl := hM.out.1 n8
          have kb := X8.out
          have c0 : C.drew.cell? ⟨_, 0, none⟩ = some _ := kb.s0
          have c1 : C.drew.cell? ⟨_, 1, none⟩ = some _ := kb.s1
          have c2 : C.drew.cell? ⟨_, 2, none⟩ = some _ := kb.s2
          have c3 : C.drew.cell? ⟨_, 3, none⟩ = some _ := kb.s3
          have c4 : C.drew.cell? ⟨_, 4, none⟩ = some _ := kb.s4
          have c5 : C.drew.cell? ⟨_, 5, none⟩ = some _ := kb.s5
          have c6 : C.drew.cell? ⟨_, 6, none⟩ = some _ := kb.s6
          refine wpOpIn_step rfl (fun K hK => ?_)
          have HKK := Lib.hid hK; clear hK
          simp only [putAll, Act.put, List.setIfInBounds_toArray, List.set_cons_zero, List.set_cons_succ]
          go_simp
          exact HKK.out _ _ ⟨_, by simp only [putAll, Act.put, List.setIfInBounds_toArray, List.set_cons_zero, List.set_cons_succ] <;> rfl, h0, h1, h2, h3, h4, fun _ => rfl, h6, h7, h8, h9, Lib.hid (fun h => ⟨(hA.out h).1, rfl, (hA.out h).2.2⟩), hB, hC, hD, hM⟩
        · obtain rfl := Option.some.inj hi
          have n8 : b' 8 = false := by
            cases hz : b' 8 with
            | false => rfl
            | true => exact absurd ((hA.out hz).2.2.1) (by rw [hun]; simp)
          obtain rfl := hM.out.1 n8
          have kb := X9.out
          have c0 : C.drew.cell? ⟨_, 0, none⟩ = some _ := kb.s0
          have c1 : C.drew.cell? ⟨_, 1, none⟩ = some _ := kb.s1
          have c2 : C.drew.cell? ⟨_, 2, none⟩ = some _ := kb.s2
          have c3 : C.drew.cell? ⟨_, 3, none⟩ = some _ := kb.s3
          have c4 : C.drew.cell? ⟨_, 4, none⟩ = some _ := kb.s4
          have c5 : C.drew.cell? ⟨_, 5, none⟩ = some _ := kb.s5
          have c6 : C.drew.cell? ⟨_, 6, none⟩ = some _ := kb.s6
          refine wpOpIn_step rfl (fun K hK => ?_)
          have HKK := Lib.hid hK; clear hK
          simp only [putAll, Act.put, List.setIfInBounds_toArray, List.set_cons_zero, List.set_cons_succ]
          go_simp
          exact HKK.out _ _ ⟨_, by simp only [putAll, Act.put, List.setIfInBounds_toArray, List.set_cons_zero, List.set_cons_succ] <;> rfl, h0, h1, h2, h3, h4, h5, fun _ => rfl, h7, h8, h9, Lib.hid (fun h => ⟨(hA.out h).1, (hA.out h).2.1, rfl, (hA.out h).2.2.2⟩), hB, hC, hD, hM⟩
        · obtain rfl := Option.some.inj hi
          have n8 : b' 8 = false := by
            cases hz : b' 8 with
            | false => rfl
            | true => exact absurd ((hA.out hz).2.2.2) (by rw [hun]; simp)
          obtain rfl := hM.out.1 n8
          have c3 : C.drew.cell? ⟨w.heap.size, 0, none⟩ = some (.int .i64 (d : Int)) := V3.out.cell 0
          refine wpOpIn_step rfl (fun K hK => ?_)
          have HKK := Lib.hid hK; clear hK
          simp only [putAll, Act.put, List.setIfInBounds_toArray, List.set_cons_zero, List.set_cons_succ]
          go_simp
          exact HKK.out _ _ ⟨_, by simp only [putAll, Act.put, List.setIfInBounds_toArray, List.set_cons_zero, List.set_cons_succ] <;> rfl, h0, h1, h2, h3, h4, h5, h6, fun _ => rfl, h8, h9, Lib.hid (fun h => ⟨(hA.out h).1, (hA.out h).2.1, (hA.out h).2.2.1, rfl⟩), hB, hC, hD, hM⟩
        · obtain rfl := Option.some.inj hi
          have d4 := h4 (hall ⟨4, .data⟩ (by simp) rfl)
          have d5 := h5 (hall ⟨5, .data⟩ (by simp) rfl)
          have d6 := h6 (hall ⟨6, .data⟩ (by simp) rfl)
          have d7 := h7 (hall ⟨7, .data⟩ (by simp) rfl)
          have n8 : b' 8 = false := hun
          obtain rfl := hM.out.1 n8
          refine wpOpIn_step rfl (fun K hK => ?_)
          have HKK := Lib.hid hK; clear hK
          simp only [putAll, Act.put, List.setIfInBounds_toArray, List.set_cons_zero, List.set_cons_succ, d4, d5, d6, d7]
          go_simp
          refine ⟨trivial, (CallsIn.inRound L (callsIn_wide.2 HADD.out)).mono ?_⟩
          rintro e w3 ⟨rfl, y1, hp1, hp2, hp3⟩
          exact HKK.out _ _ ⟨_, by simp only [putAll, Act.put, List.setIfInBounds_toArray, List.set_cons_zero, List.set_cons_succ, d4, d5, d6, d7] <;> rfl, h0, h1, h2, h3, h4, h5, h6, h7, fun _ => rfl, h9, Lib.hid (fun _ => ⟨hall ⟨4, .data⟩ (by simp) rfl, hall ⟨5, .data⟩ (by simp) rfl, hall ⟨6, .data⟩ (by simp) rfl, hall ⟨7, .data⟩ (by simp) rfl⟩), hB, hC, hD, ⟨fun h => Bool.noConfusion h, fun _ => ⟨y1, hp1, hp2, ⟨hp3.os, hp3.tape, hp3.output, hp3.size, hp3.block⟩⟩⟩⟩
        · obtain rfl := Option.some.inj hi
          have d8 := h8 (hall ⟨8, .data⟩ (by simp) rfl)
          refine wpOpIn_step rfl (fun K hK => ?_)
          have HKK := Lib.hid hK; clear hK
          simp only [putAll, Act.put, List.setIfInBounds_toArray, List.set_cons_zero, List.set_cons_succ, d8]
          go_simp
          exact HKK.out _ _ ⟨_, by simp only [putAll, Act.put, List.setIfInBounds_toArray, List.set_cons_zero, List.set_cons_succ, d8] <;> rfl, h0, h1, h2, h3, h4, h5, h6, h7, h8, fun _ => rfl, hA, hB, hC, hD, hM⟩
        · exact absurd hil (by omega)
      · rintro b' vs w' hb ⟨h0, h1, h2, h3, h4, h5, h6, h7, h8, h9, hA, hB, hC, hD, hM⟩
        have e9 := h9 (hb 9 (by decide))
        obtain ⟨y', p1, p2, p3⟩ := hM.out.2 (hb 8 (by decide))
        have HP := Lib.hid (show _ ∧ _ ∧ _ from ⟨p1, p2, p3⟩)
        clear h0 h1 h2 h3 h4 h5 h6 h7 h8 h9 hA hB hC hD hM p1 p2 p3
        simp only [putAll, Act.put, List.setIfInBounds_toArray, List.set_cons_zero, List.set_cons_succ, e9]
        gi_wp2_with fail
        have fl := fl_next HF.out HZ.out.2.2.2 HZ.out.1 HD.out HK.out HX.out KAB.out HZ.out.2.1 T1.out.1 T1.out.2.1 T2.out T3.out.1 T3.out.2 T4.out.1 T4.out.2 HP.out.1 HP.out.2.1 HP.out.2.2
        exact ⟨fl.2, by have h1 := (List.getElem?_eq_some_iff.1 HK.out).1; have h2 := HLEN.out; omega, _, _, fl.1⟩
  case done =>
    rintro D ⟨hkn, u, S, hF2⟩ hD
    have cr := hF2.var.cell 0
    have d4 := hF2.r1.cell 0
    have d5 := hF2.r2.cell 0
    have f4 := hF2.r1.free 0
    have f5 := hF2.r2.free 0
    have l4 := hF2.r1.lt
    have l5 := hF2.r2.lt
    have HF2 := Lib.hid hF2
    have HDD := Lib.hid hD
    have HZ := Lib.hid (show W.heap.size = r7 + 2 ∧ w.heap.size + 3 ≤ r7 from ⟨hz, h7⟩)
    obtain ⟨a, cu, hu⟩ := subs_shape hF2.subs
    obtain ⟨q, hq⟩ : ∃ q, S.length = q := ⟨_, rfl⟩
    rw [hq] at hu
    subst hu
    simp only [List.getElem?_toArray, List.getElem?_cons_zero] at cr d4 d5
    clear hF2 hD hkn hz h7 hb0 hx0 hF hq
    dsimp only
    go_wp2_with fail
    obtain ⟨D2, hD2⟩ : ∃ D2, (D.setCell ⟨w.heap.size + 1, 0, none⟩ (.slice a q cu)).setCell ⟨w.heap.size + 1 + 1, 0, none⟩ (.int .i64 0) = D2 := ⟨_, rfl⟩
    have hz := HZ.out
    have kD : Keep (fun j => j ≠ w.heap.size + 1 ∧ j ≠ w.heap.size + 2) D D2 := by
      rw [← hD2]; exact (Keep.setCell _ _ _ (by simp)).trans (Keep.setCell _ _ _ (by simp))
    have v1 : Blk D2 (w.heap.size + 1) 32 #[.slice a q cu] := by rw [← hD2]; exact (HF2.out.r1.put 0 _ _ rfl).other _ _ (by simp)
    have v2 : Blk D2 (w.heap.size + 1 + 1) 24 #[.int .i64 0] := by rw [← hD2]; exact (HF2.out.r2.other ⟨w.heap.size + 1, 0, none⟩ _ (by simp)).put 0 _ _ rfl
    have bD : Below w.heap.size w D2 := HF2.out.below.trans (kD.below (fun j hj => by omega) HF2.out.below.size)
    have hdD : D2.heap[W.heap.size]? = some (.deferred (some [])) := (kD.block _ (by omega) (Array.getElem?_eq_some_iff.1 HDD.out).1).trans HDD.out
    have sD3 : SubsAt D2 (W.heap.size + 3) 39 44 (.slice a q cu) S := HF2.out.subs.keep fun k h1 h2 => kD.block k (by omega) h2
    have sD : SubsAt (D2.putObj W.heap.size (.deferred none)) w.heap.size 39 44 (.slice a q cu) S := (sD3.keep fun k h1 h2 => World.putObj_heap_other (by omega)).base (by omega)
    have hfold : S.map Sb.plain = subsI d l := by rw [HF2.out.fold, List.drop_of_length_le (Nat.le_of_eq HLEN.out)]; rfl
    rw [hD2]
    refine postM_ret (.tuple #[.slice a q cu, .int .i64 0]) hdD ?_ ?_
    · have c1 := (v1.putOther (l := W.heap.size) (.deferred none) (by omega)).cell 0
      have c2 := (v2.putOther (l := W.heap.size) (.deferred none) (by omega)).cell 0
      simp only [List.getElem?_toArray, List.getElem?_cons_zero] at c1 c2
      simp [results, Tryd.f16, go_sem, c1, c2]
    · exact ⟨_, S, rfl, sD, hfold, below_put bD _ (by omega) bD.size⟩
  case stop =>
    rintro D h hD
    exact h.elim
end Go.Proofs.YtffgpikhahpomaaDoor
