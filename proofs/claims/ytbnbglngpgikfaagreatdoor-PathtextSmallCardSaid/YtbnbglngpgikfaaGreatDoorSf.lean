/- Layer 6: rows of segments that the call itself makes; the statements' ref. -/
import Derived.Test.YtbnbglngpgikfaaGreatDoorSd
namespace Go.Proofs.YtbnbglngpgikfaaGreatDoor
open Go.RowKit
/-- The cells of a row of segments. -/
def flatS : List Sg → List Value
  | [] => []
  | s :: l => .int .i64 s.k :: .int .i64 s.p.1 :: .int .i64 s.p.2 :: .int .i64 s.q.1 :: .int .i64 s.q.2 :: .int .i64 s.r.1 :: .int .i64 s.r.2 :: flatS l
theorem flatS_at : ∀ (l : List Sg) (i : Nat) (s : Sg), l[i]? = some s → ∀ j v, s.cells[j]? = some v → (flatS l)[i * 7 + j]? = some v
  | [], _, _, h, _, _, _ => by cases h
  | x :: l, 0, s, h, j, v, hv => by
    obtain rfl : x = s := by simpa using h
    have hj : j < 7 := by have := (Array.getElem?_eq_some_iff.1 hv).1; simpa [Sg.cells] using this
    rcases (by omega : j = 0 ∨ j = 1 ∨ j = 2 ∨ j = 3 ∨ j = 4 ∨ j = 5 ∨ j = 6) with rfl | rfl | rfl | rfl | rfl | rfl | rfl <;> exact hv
  | x :: l, i + 1, s, h, j, v, hv => by
    have h := flatS_at l i s (by simpa using h) j v hv
    rw [show (i + 1) * 7 + j = i * 7 + j + 7 by omega]
    exact h
theorem flatS_append : ∀ (l m : List Sg), flatS (l ++ m) = flatS l ++ flatS m
  | [], _ => rfl
  | p :: l, m => by simp [flatS, flatS_append l m]
theorem flatS_length : ∀ l : List Sg, (flatS l).length = l.length * 7
  | [] => rfl
  | p :: l => by simp [flatS, flatS_length l]; omega
theorem flatS_one : ∀ (l : List Sg) (u : Value), u ∈ flatS l → u.oneCell' = true
  | [], _, h => by cases h
  | p :: l, u, h => by
    simp only [flatS, List.mem_cons] at h
    rcases h with rfl | rfl | rfl | rfl | rfl | rfl | rfl | h
    iterate 7 rfl
    exact flatS_one l u h
theorem SegsAt.of_flat {w : World} {b o : Nat} {l : List Sg} (h : ∀ j v, (flatS l)[j]? = some v → w.cell? ⟨b, o + j, none⟩ = some v) : SegsAt w b o l := fun i s hs j v hv => by
  rw [Nat.add_assoc]; exact h _ _ (flatS_at l i s hs j v hv)
/-- A row of segments that the call owns. -/
def OwnS (w : World) (base : Nat) (t : TypeId) (v : Value) (l : List Sg) : Prop := w.ownsRow base t 7 v l.length (flatS l)
theorem OwnS.nil (w : World) (base : Nat) (t : TypeId) : OwnS w base t (.slice none 0 0) [] := World.ownsRow_nil _ _ _ _
theorem OwnS.row {w : World} {base : Nat} {t : TypeId} {v : Value} {l : List Sg} (h : OwnS w base t v l) : RowS w v l := by
  obtain ⟨_, ⟨rfl, hn⟩ | ⟨g, cap, cur, rfl, _, hg, hc, _, hs, ht⟩⟩ := h
  · exact .inl ⟨rfl, List.eq_nil_of_length_eq_zero hn⟩
  · refine .inr (.inr ⟨g, 0, cap, rfl, (Array.getElem?_eq_some_iff.1 hg).1, SegsAt.of_flat fun j v hv => ?_⟩)
    have hj : j < l.length * 7 := by have := (List.getElem?_eq_some_iff.1 hv).1; rwa [flatS_length] at this
    rw [Nat.zero_add, Joins.cell_of_block hg j, ← hv, ← ht, List.getElem?_take, if_pos hj]; simp
theorem OwnS.grow {w w' : World} {base : Nat} {t : TypeId} {v : Value} {l : List Sg} (h : OwnS w base t v l) (hb : Below w.heap.size w w') : OwnS w' base t v l := by
  unfold OwnS World.ownsRow at *
  obtain ⟨h1, h2 | ⟨g, cap, cur, e1, e2, hg, e3⟩⟩ := h
  · exact ⟨h1, .inl h2⟩
  · exact ⟨h1, .inr ⟨g, cap, cur, e1, e2, by rw [hb.block g (Array.getElem?_eq_some_iff.1 hg).1]; exact hg, e3⟩⟩
abbrev zSeven : Array Value := #[.int .i64 0, .int .i64 0, .int .i64 0, .int .i64 0, .int .i64 0, .int .i64 0, .int .i64 0]
theorem infoS : (Tryz.prog.info? 53).map (fun i => (i.zero, i.size, i.bytes)) = some (some (.agg zSeven), 7, 56) := by kernel_rfl
theorem infoT : (Tryz.prog.info? 48).map (fun i => (i.zero, i.size, i.bytes)) = some (some (.agg zSeven), 7, 56) := by kernel_rfl
/-- The first m points of a segment. -/
def mix (s : Sg) : Nat → Sg
  | 0 => ⟨s.k, (0, 0), (0, 0), (0, 0)⟩
  | 1 => ⟨s.k, s.p, (0, 0), (0, 0)⟩
  | 2 => ⟨s.k, s.p, s.q, (0, 0)⟩
  | _ => s
/-- Within a round of ref. -/
structure RefM (m : Nat) (w w2 : World) (x : Value) (l : List Sg) (W : World) : Prop where
  own : OwnS W m 48 x l
  below : Below m w W
  size : m ≤ W.heap.size
  room : w2.heap.size + 1 < W.heap.size
  apart : x.ownBlock ≠ some (w2.heap.size + 1)
theorem RefM.store {m : Nat} {w w2 : World} {x : Value} {l : List Sg} {W : World} (h : RefM m w w2 x l W) (hm : m ≤ w2.heap.size) (o : Obj) (i j : Nat) (u v : Value) : RefM m w w2 x l (((W.setCell ⟨w2.heap.size + 1, i, none⟩ u).setCell ⟨w2.heap.size + 1, j, none⟩ v).alloc o) :=
  ⟨OwnS.grow (World.ownsRow.kept (World.ownsRow.kept h.own (grownBy_set _ _ _) (.inr h.apart)) (grownBy_set _ _ _) (.inr h.apart)) ((Below.refl _ _).alloc (Nat.le_refl _) o),
    (((h.below.setCell (by dsimp only; omega) _).setCell (by dsimp only; omega) _).alloc (by have := h.size; simp [World.setCell]; omega) o), by have := h.size; simp [World.setCell]; omega, by have := h.room; simp [World.setCell]; omega, h.apart⟩
set_option maxHeartbeats 4000000 in
set_option maxRecDepth 100000 in
/-- The same segments, as the document's own: in memory of the call's own. -/
theorem ref_c (w : World) (v : Value) (l : List Sg) (hl : l.length ≤ 5000) (row : RowS w v l) : Calls Tryz.prog 11 #[v] w fun e w' => ∃ u, e = .returned u ∧ OwnS w' w.heap.size 48 u l ∧ Below w.heap.size w w' := by
  obtain ⟨ao, c, rfl⟩ := row.shape
  obtain ⟨n, hn⟩ : ∃ n, l.length = n := ⟨_, rfl⟩
  rw [hn] at row hl ⊢
  have HN := Lib.hid hn
  have HROW := Lib.hid row
  have HL := Lib.hid hl
  obtain ⟨m, hm⟩ : ∃ m, w.heap.size = m := ⟨_, rfl⟩
  rw [hm]
  have Hm := Lib.hid hm
  clear hn row hm hl
  obtain ⟨i0, hi, hz0, hz1, hz2⟩ := info_parts infoT
  have Hi := Lib.hid hi; have Hz0 := Lib.hid hz0; have Hz1 := Lib.hid hz1; have Hz2 := Lib.hid hz2
  clear hi hz0 hz1 hz2
  have X0 : ∀ (a b c d e f : Int) (w : World), (Instr.index 51 (.agg #[.int .i64 a, .int .i64 b, .int .i64 c, .int .i64 d, .int .i64 e, .int .i64 f]) (.int .i64 0)).run Tryz.prog w = .ok (.agg #[.int .i64 a, .int .i64 b]) w := fun a b c d e f w => by
    simp [Instr.index, run_underlying, Tryz.underlying51, asIntOf, go_sem]
  have X1 : ∀ (a b c d e f : Int) (w : World), (Instr.index 51 (.agg #[.int .i64 a, .int .i64 b, .int .i64 c, .int .i64 d, .int .i64 e, .int .i64 f]) (.int .i64 1)).run Tryz.prog w = .ok (.agg #[.int .i64 c, .int .i64 d]) w := fun a b c d e f w => by
    simp [Instr.index, run_underlying, Tryz.underlying51, asIntOf, go_sem]
  have X2 : ∀ (a b c d e f : Int) (w : World), (Instr.index 51 (.agg #[.int .i64 a, .int .i64 b, .int .i64 c, .int .i64 d, .int .i64 e, .int .i64 f]) (.int .i64 2)).run Tryz.prog w = .ok (.agg #[.int .i64 e, .int .i64 f]) w := fun a b c d e f w => by
    simp [Instr.index, run_underlying, Tryz.underlying51, asIntOf, go_sem]
  go_enter Tryz.func11, Tryz.ntmps11
  go_wp2_with fail
  go_loopw [3, 11] (fun x i wr => ∃ k : Nat, k ≤ n ∧ i = .int .i64 k ∧ Hid (OwnS wr m 48 x (l.take k) ∧ Below m w wr ∧ m ≤ wr.heap.size)) (fun _ i _ => n - (intOf i).toNat)
  case atStart => exact ⟨0, by omega, rfl, OwnS.nil _ _ _, by rw [← Hm.out]; exact Below.refl _ _, by rw [Hm.out]; omega⟩
  case round =>
    obtain ⟨k, hk, rfl, hw⟩ := hrel
    obtain ⟨w2, rfl⟩ : ∃ x, x = wr := ⟨_, rfl⟩
    by_cases hlt : k < n
    · have hd : decide ((k : Int) < (n : Int)) = true := by simp; omega
      obtain ⟨b, o, rfl, hbs, hpa⟩ := RowS.addr HROW.out (k := k) (by rw [HN.out]; exact hlt)
      obtain ⟨s, hq⟩ : ∃ p, l[k]? = some p := ⟨_, List.getElem?_eq_getElem (by rw [HN.out]; exact hlt)⟩
      have hs := hpa.on hw.out.2.1 (by rw [← Hm.out]; exact hbs)
      have c0 := hs.c0 hq
      have c1 := hs.c1 hq
      have c2 := hs.c2 hq
      have c3 := hs.c3 hq
      have c4 := hs.c4 hq
      have c5 := hs.c5 hq
      have c6 := hs.c6 hq
      have HQ := Lib.hid hq
      have hl := HL.out
      clear hpa hq hbs hs
      have S2 : Hid (RefM m w w2 u3 (l.take k) ((w2.alloc (.cells s.cells 53)).alloc (.cells (mix s 0).cells 48))) := ⟨(hw.out.1.grow ((Below.refl _ _).alloc (Nat.le_refl _) _)).grow ((Below.refl _ _).alloc (Nat.le_refl _) _), (hw.out.2.1.alloc hw.out.2.2 _).alloc (by have := hw.out.2.2; simp; omega) _, by have := hw.out.2.2; simp; omega, by simp, fun e => by have := (World.ownsRow.lt hw.out.1 _ e).2; omega⟩
      have N2 : Hid (Blk ((w2.alloc (.cells s.cells 53)).alloc (.cells (mix s 0).cells 48)) (w2.heap.size + 1) 48 (mix s 0).cells) := Blk.newAt _ _ _ (by simp)
      have HM2 := hw.out.2.2
      go_wp2_with fail
      go_loopw [20] (fun i wr => ∃ j : Nat, j ≤ 3 ∧ i = .int .i64 j ∧ Hid (Blk wr (w2.heap.size + 1) 48 (mix s j).cells ∧ RefM m w w2 u3 (l.take k) wr)) (fun i _ => 3 - (intOf i).toNat)
      case atStart => exact ⟨0, by omega, rfl, N2.out, S2.out⟩
      case round =>
        obtain ⟨j, hj, rfl, hx⟩ := hrel
        rcases (by omega : j = 0 ∨ j = 1 ∨ j = 2 ∨ j = 3) with rfl | rfl | rfl | rfl
        · have d0 := hx.out.1.s1
          have d1 := hx.out.1.s2
          have e0 := hx.out.1.free 1
          have e1 := hx.out.1.free 2
          have e2 := hx.out.1.lt
          simp only [mix] at d0 d1
          have NB : Hid (Blk (((wr.setCell ⟨w2.heap.size + 1, 1, none⟩ (.int .i64 s.p.1)).setCell ⟨w2.heap.size + 1, 2, none⟩ (.int .i64 s.p.2)).alloc (.cells #[.int .i64 s.p.1, .int .i64 s.p.2] 50)) (w2.heap.size + 1) 48 (mix s (0 + 1)).cells) := ((hx.out.1.put 1 (.int .i64 s.p.1) _ rfl).put 2 (.int .i64 s.p.2) (mix s (0 + 1)).cells rfl).alloc _
          have NO : Hid (RefM m w w2 u3 (l.take k) (((wr.setCell ⟨w2.heap.size + 1, 1, none⟩ (.int .i64 s.p.1)).setCell ⟨w2.heap.size + 1, 2, none⟩ (.int .i64 s.p.2)).alloc (.cells #[.int .i64 s.p.1, .int .i64 s.p.2] 50))) := hx.out.2.store HM2 _ _ _ _ _
          go_wp2_with fail
          exact ⟨⟨0 + 1, by omega, by simp, NB.out, NO.out⟩, by simp [intOf]⟩
        · have d0 := hx.out.1.s3
          have d1 := hx.out.1.s4
          have e0 := hx.out.1.free 3
          have e1 := hx.out.1.free 4
          have e2 := hx.out.1.lt
          simp only [mix] at d0 d1
          have NB : Hid (Blk (((wr.setCell ⟨w2.heap.size + 1, 3, none⟩ (.int .i64 s.q.1)).setCell ⟨w2.heap.size + 1, 4, none⟩ (.int .i64 s.q.2)).alloc (.cells #[.int .i64 s.q.1, .int .i64 s.q.2] 50)) (w2.heap.size + 1) 48 (mix s (1 + 1)).cells) := ((hx.out.1.put 3 (.int .i64 s.q.1) _ rfl).put 4 (.int .i64 s.q.2) (mix s (1 + 1)).cells rfl).alloc _
          have NO : Hid (RefM m w w2 u3 (l.take k) (((wr.setCell ⟨w2.heap.size + 1, 3, none⟩ (.int .i64 s.q.1)).setCell ⟨w2.heap.size + 1, 4, none⟩ (.int .i64 s.q.2)).alloc (.cells #[.int .i64 s.q.1, .int .i64 s.q.2] 50))) := hx.out.2.store HM2 _ _ _ _ _
          go_wp2_with fail
          exact ⟨⟨1 + 1, by omega, by simp, NB.out, NO.out⟩, by simp [intOf]⟩
        · have d0 := hx.out.1.s5
          have d1 := hx.out.1.s6
          have e0 := hx.out.1.free 5
          have e1 := hx.out.1.free 6
          have e2 := hx.out.1.lt
          simp only [mix] at d0 d1
          have NB : Hid (Blk (((wr.setCell ⟨w2.heap.size + 1, 5, none⟩ (.int .i64 s.r.1)).setCell ⟨w2.heap.size + 1, 6, none⟩ (.int .i64 s.r.2)).alloc (.cells #[.int .i64 s.r.1, .int .i64 s.r.2] 50)) (w2.heap.size + 1) 48 (mix s (2 + 1)).cells) := ((hx.out.1.put 5 (.int .i64 s.r.1) _ rfl).put 6 (.int .i64 s.r.2) (mix s (2 + 1)).cells rfl).alloc _
          have NO : Hid (RefM m w w2 u3 (l.take k) (((wr.setCell ⟨w2.heap.size + 1, 5, none⟩ (.int .i64 s.r.1)).setCell ⟨w2.heap.size + 1, 6, none⟩ (.int .i64 s.r.2)).alloc (.cells #[.int .i64 s.r.1, .int .i64 s.r.2] 50))) := hx.out.2.store HM2 _ _ _ _ _
          go_wp2_with fail
          exact ⟨⟨2 + 1, by omega, by simp, NB.out, NO.out⟩, by simp [intOf]⟩
        · have d0 := hx.out.1.s0
          have d1 := hx.out.1.s1
          have d2 := hx.out.1.s2
          have d3 := hx.out.1.s3
          have d4 := hx.out.1.s4
          have d5 := hx.out.1.s5
          have d6 := hx.out.1.s6
          simp only [mix] at d0 d1 d2 d3 d4 d5 d6
          have M4 := Lib.hid hx.out.2
          have K4 : Hid (Blk (wr.alloc (.cells s.cells 48)) wr.heap.size 48 s.cells) := Blk.new _ _ _
          have hlen : (l.take k).length = k := by rw [List.length_take, HN.out]; omega
          have HLEN := Lib.hid hlen
          have O4 : Hid (OwnS (wr.alloc (.cells s.cells 48)) m 48 u3 (l.take k)) := M4.out.own.grow ((Below.refl _ _).alloc (Nat.le_refl _) _)
          clear hlen
          go_wp2_with (at_builtin; refine wpList_append_own _ rfl _ _ 28 rfl m 48 i0 (.agg zSeven) 7 56 Tryz.underlying28 Hi.out Hz0.out Hz1.out Hz2.out rfl (by decide) _ _ _ rfl O4.out ⟨wr.heap.size, 0, none⟩ 1 1 s.cells.toList rfl rfl ?c1 ?c2 ?c3 ?c4 ?c5 ?_)
          case c1 =>
            intro j u hj
            have h := K4.out.cell j
            have e : s.cells[j]? = some u := by simpa using hj
            simp only [Addr.add_lit, Nat.zero_add]
            exact h.trans e
          case c2 => intro u hu; simp [Sg.cells] at hu; rcases hu with rfl | rfl | rfl | rfl | rfl | rfl | rfl <;> rfl
          case c3 => rw [HLEN.out]; unfold maxLen; omega
          case c4 => rw [HLEN.out]; omega
          case c5 => have := M4.out.size; simp; omega
          · intro v' w5 hown hgrow _
            have O5 : Hid (OwnS w5 m 48 v' (l.take (k + 1))) := by
              have e1 : l.take (k + 1) = l.take k ++ [s] := by rw [List.take_add_one, HQ.out]; rfl
              have e2 : (l.take (k + 1)).length = min k l.length + 1 := by rw [e1]; simp
              unfold Hid OwnS
              rw [e2, e1, flatS_append]
              exact hown
            have B5 : Hid (Below m w w5) := own_below O4.out hgrow (M4.out.below.alloc M4.out.size _) (Nat.le_refl _) (by have := M4.out.size; simp; omega)
            have S5 : m ≤ w5.heap.size := by have := hgrow.size; have := M4.out.size; simp at *; omega
            clear hown hgrow
            go_wp2_with fail
            exact ⟨⟨k + 1, by omega, by go_num, O5.out, B5.out, S5⟩, by simp [intOf]; omega⟩
    · have hd : decide ((k : Int) < (n : Int)) = false := by simp; omega
      have HK : Hid (l.take k = l) := by unfold Hid; rw [show k = n by omega, ← HN.out, List.take_length]
      go_wp2_with fail
      go_ret
      exact ⟨_, rfl, HK.out ▸ hw.out.1, hw.out.2.1⟩
end Go.Proofs.YtbnbglngpgikfaaGreatDoor

