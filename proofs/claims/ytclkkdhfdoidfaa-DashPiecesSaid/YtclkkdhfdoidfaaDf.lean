/- Layer 9: a hand in memory: pass, lift, next, turn. -/
import Derived.Test.YtclkkdhfdoidfaaDd
import Derived.Deep.RegionLaw
namespace Go.Proofs.Ytclkkdhfdoidfaa
open Go.RowKit
structure Sb where
  v : Value
  L : List Pt
  c : Bool
def cellsB : List Sb → List Value
  | [] => []
  | x :: l => x.v :: .bool x.c :: cellsB l
theorem cellsB_length : ∀ l : List Sb, (cellsB l).length = l.length * 2
  | [] => rfl
  | x :: l => by simp [cellsB, cellsB_length l]; omega
theorem cellsB_append : ∀ l m : List Sb, cellsB (l ++ m) = cellsB l ++ cellsB m
  | [], _ => rfl
  | x :: l, m => by simp [cellsB, cellsB_append l m]
theorem cellsB_at : ∀ (l : List Sb) (i : Nat) (x : Sb), l[i]? = some x → (cellsB l)[i * 2]? = some x.v ∧ (cellsB l)[i * 2 + 1]? = some (.bool x.c)
  | [], _, _, h => by cases h
  | y :: l, 0, x, h => by
    obtain rfl : y = x := by simpa using h
    exact ⟨rfl, rfl⟩
  | y :: l, i + 1, x, h => by
    have h := cellsB_at l i x (by simpa using h)
    rw [show (i + 1) * 2 = i * 2 + 1 + 1 by omega]
    exact h
theorem cellsB_set : ∀ (l : List Sb) (i : Nat) (x y : Sb), l[i]? = some x → y.c = x.c → (cellsB l).set (i * 2) y.v = cellsB (l.set i y)
  | [], _, _, _, h, _ => by cases h
  | z :: l, 0, x, y, h, e => by
    obtain rfl : z = x := by simpa using h
    simp [cellsB, e]
  | z :: l, i + 1, x, y, h, e => by
    have h := cellsB_set l i x y (by simpa using h) e
    rw [show (i + 1) * 2 = i * 2 + 1 + 1 by omega]
    simp [cellsB, h]
theorem cellsB_shut : ∀ (l : List Sb) (i : Nat) (x y : Sb), l[i]? = some x → y.v = x.v → (cellsB l).set (i * 2 + 1) (.bool y.c) = cellsB (l.set i y)
  | [], _, _, _, h, _ => by cases h
  | z :: l, 0, x, y, h, e => by
    obtain rfl : z = x := by simpa using h
    simp [cellsB, e]
  | z :: l, i + 1, x, y, h, e => by
    have h := cellsB_shut l i x y (by simpa using h) e
    rw [show (i + 1) * 2 + 1 = i * 2 + 1 + 1 + 1 by omega]
    simp [cellsB, h]
/-- Subpaths in memory. -/
structure SubsAt (w : World) (base : Nat) (tS tP : TypeId) (u : Value) (S : List Sb) : Prop where
  row : w.ownsRow base tS 2 u S.length (cellsB S)
  own : ∀ (i : Nat) (x : Sb), S[i]? = some x → Own w base tP x.v x.L
  apart : ∀ (i j : Nat) (x y : Sb), S[i]? = some x → S[j]? = some y → i ≠ j → Apart x.v y.v
def Sb.plain (x : Sb) : List Pt × Bool := (x.L, x.c)
theorem SubsAt.nil (w : World) (base : Nat) (tS tP : TypeId) : SubsAt w base tS tP (.slice none 0 0) [] := ⟨World.ownsRow_nil _ _ _ _, fun i x h => (by cases h), fun i j x y h => (by cases h)⟩
theorem infoSub : (Try.prog.info? 46).map (fun i => (i.zero, i.size, i.bytes)) = some (some (.agg #[.slice none 0 0, .bool false]), 2, 32) := by kernel_rfl
theorem run_append_sub (w : World) (t ty T : TypeId) (ht : Try.prog.underlying t = some (.slice T)) (hT : (Try.prog.info? T).map (fun i => (i.zero, i.size, i.bytes)) = some (some (.agg #[.slice none 0 0, .bool false]), 2, 32))
    (base : Nat) (v : Value) (m : Nat) (xs : List Value) (hown : w.ownsRow base T 2 v m xs) (ad : Addr) (k : Nat) (c : Nat) (news : List Value) (hk : news.length = k * 2) (hx : ∀ j u, news[j]? = some u → w.cell? (ad.add j) = some u) (h1 : ∀ u ∈ news, u.oneCell' = true) (hl : m + k ≤ 100000) (hbase : base ≤ w.heap.size) :
    ∃ v' w', (Builtin.append_ #[t, t] ty #[v, .slice (some ad) k c]).run Try.prog w = .ok v' w' ∧ w'.ownsRow base T 2 v' (m + k) (xs ++ news) ∧ w.grownBy w' v.ownBlock ∧ Moved w v v' := by
  obtain ⟨i, hi, hz0, hz1, hz2⟩ := info_parts hT
  have hn : news.length = k * 2 := hk
  have key : ∀ b, w.ownsRow b T 2 v m xs → b ≤ w.heap.size → _ := fun b ho hb => run_append_own (P := Try.prog) w b t ty T i (.agg #[.slice none 0 0, .bool false]) 2 32 ht hi hz0 hz1 hz2 rfl (by decide) v m xs ho ad k c news hn hx h1 (by unfold maxLen; omega) (by omega) hb
  obtain ⟨v', w', hr, ho, hg, _⟩ := key base hown hbase
  refine ⟨v', w', hr, ho, hg, ?_⟩
  have hlen := hown.1
  rcases hown.2 with ⟨rfl, h0⟩ | ⟨g, cap, cur, rfl, hb, hgg, hc, hm, hs, htk⟩
  · subst h0
    have hxs : xs = [] := List.eq_nil_of_length_eq_zero (by omega)
    subst hxs
    obtain ⟨v2, w2, hr2, ho2, _, _⟩ := key w.heap.size (World.ownsRow_nil _ _ _ _) (Nat.le_refl _)
    obtain ⟨rfl, rfl⟩ := ok_inj hr hr2
    cases hv : v'.ownBlock with
    | none => exact .inl hv
    | some q => exact .inr ⟨q, hv, (ho2.lt q hv).1⟩
  · by_cases hroom : m + k ≤ cap
    · obtain ⟨w2, hr2, _⟩ := run_append_fits (P := Try.prog) w base t ty T i 2 ht hi hz1 g m cap xs hown ad k c news hn hx h1 hroom
      obtain ⟨rfl, _⟩ := ok_inj hr hr2
      exact .inl rfl
    · have hr2 := run_append_grow (P := Try.prog) w t ty T i _ ht hi hz0 ⟨g, 0, none⟩ m cap xs (by rw [hlen, hz1]) (fun j u hj => by have := hown.cells (g := g) rfl j u hj; exact this) ad k c news (by rw [hn, hz1]) hx (by omega) (by omega) (by rw [hz2]; exact growslice_fits (by omega) (by omega))
      obtain ⟨rfl, _⟩ := ok_inj hr hr2
      exact .inr ⟨_, rfl, Nat.le_refl _⟩
/-- append as one step of a region that draws. -/
theorem step_app_pts {ops : Array Oper} {o : Oper} {a : Act} {w : World} {K : Act → World → Prop} {Q : Exit → Act → World → Prop} {E : Prop} (hg : o.guard = none) (s x : Operand) (t T : TypeId)
    (ho : o.op = .call { callee := .builtin .append, args := #[s, x], argTypes := #[t, t] }) (ht : Try.prog.underlying t = some (.slice T)) (hT : (Try.prog.info? T).map (fun i => (i.zero, i.size, i.bytes)) = some (some (.agg (two (0, 0))), 2, 16))
    (base : Nat) (v : Value) (X : List Pt) (hs : a.eval s = v) (hown : Own w base T v X) (u : Value) (Y : List Pt) (hx : a.eval x = u) (row : Row w u Y) (hl : X.length + Y.length ≤ 100000) (hbase : base ≤ w.heap.size)
    (h : ∀ v' w', Own w' base T v' (X ++ Y) → w.grownBy w' v.ownBlock → Moved w v v' → K (a.put o.dst v') w') : if Region.wanted o (yielded ops a.tmps) = true then Oper.wp Try.prog o a w K Q else E := by
  rw [if_pos (by simp [Region.wanted, hg])]
  exact wp_append_pts s x t T ho ht hT base v X hs hown u Y hx row hl hbase h
theorem step_app_sub {ops : Array Oper} {o : Oper} {a : Act} {w : World} {K : Act → World → Prop} {Q : Exit → Act → World → Prop} {E : Prop} (hg : o.guard = none) (s x : Operand) (t T : TypeId)
    (ho : o.op = .call { callee := .builtin .append, args := #[s, x], argTypes := #[t, t] }) (ht : Try.prog.underlying t = some (.slice T)) (hT : (Try.prog.info? T).map (fun i => (i.zero, i.size, i.bytes)) = some (some (.agg #[.slice none 0 0, .bool false]), 2, 32))
    (base : Nat) (v : Value) (m : Nat) (xs : List Value) (hs : a.eval s = v) (hown : w.ownsRow base T 2 v m xs) (ad : Addr) (k c : Nat) (news : List Value) (hxe : a.eval x = .slice (some ad) k c) (hk : news.length = k * 2) (hx : ∀ j u, news[j]? = some u → w.cell? (ad.add j) = some u) (h1 : ∀ u ∈ news, u.oneCell' = true) (hl : m + k ≤ 100000) (hbase : base ≤ w.heap.size)
    (h : ∀ v' w', w'.ownsRow base T 2 v' (m + k) (xs ++ news) → w.grownBy w' v.ownBlock → Moved w v v' → K (a.put o.dst v') w') : if Region.wanted o (yielded ops a.tmps) = true then Oper.wp Try.prog o a w K Q else E := by
  rw [if_pos (by simp [Region.wanted, hg])]
  obtain ⟨v', w', hr, h2, h3, h4⟩ := run_append_sub w t o.type T ht hT base v m xs hown ad k c news hk hx h1 hl hbase
  unfold Oper.wp
  simp [execOp, ho, resolve, invoke, builtin, hs, hxe, hr, Result.andThen]
  exact h v' w' h2 h3 h4
/-- A hand at hand: the values of its piece and of its pieces; T: the blocks that are its own. -/
structure HandV (w : World) (T : Nat → Prop) (g : Nat) (Lv : Value) (wh : Nat) (lf : Int) (pv qv : Value) (S : List Sb) (piece : List Pt) : Prop where
  blk : Blk w g 92 #[Lv, .int .i64 wh, .int .i64 lf, pv, qv]
  own : Own w 0 32 pv piece
  row : w.ownsRow 0 46 2 qv S.length (cellsB S)
  subs : ∀ x ∈ S, Own w 0 32 x.v x.L
  apart : ∀ x ∈ S, Apart x.v pv
  tg : T g
  tp : ∀ k, pv.ownBlock = some k → T k
  tq : ∀ k, qv.ownBlock = some k → T k
  tx : ∀ x ∈ S, ∀ k, x.v.ownBlock = some k → T k
section
variable {w w' : World} {T : Nat → Prop} {g wh : Nat} {Lv pv qv : Value} {lf : Int} {S : List Sb} {piece : List Pt}
theorem HandV.keep {R : Nat → Prop} (h : HandV w T g Lv wh lf pv qv S piece) (hk : Keep R w w') (hR : ∀ k, T k → k < w.heap.size → R k) : HandV w' T g Lv wh lf pv qv S piece :=
  ⟨hk.blk h.blk (hR _ h.tg h.blk.lt), owns_keep h.own hk (fun k e => hR _ (h.tp k e) (h.own.lt k e).2), owns_keep h.row hk (fun k e => hR _ (h.tq k e) (h.row.lt k e).2), fun x hx => owns_keep (h.subs x hx) hk (fun k e => hR _ (h.tx x hx k e) (World.ownsRow.lt (h.subs x hx) k e).2), h.apart, h.tg, h.tp, h.tq, h.tx⟩
theorem HandV.mono {R : Nat → Prop} (h : HandV w T g Lv wh lf pv qv S piece) (hR : ∀ k, T k → k < w.heap.size → R k) : HandV w R g Lv wh lf pv qv S piece :=
  ⟨h.blk, h.own, h.row, h.subs, h.apart, hR _ h.tg h.blk.lt, fun k e => hR _ (h.tp k e) (h.own.lt k e).2, fun k e => hR _ (h.tq k e) (h.row.lt k e).2, fun x hx k e => hR _ (h.tx x hx k e) (World.ownsRow.lt (h.subs x hx) k e).2⟩
theorem HandV.grow (h : HandV w T g Lv wh lf pv qv S piece) (hb : Below w.heap.size w w') : HandV w' T g Lv wh lf pv qv S piece := h.keep (R := fun _ => True) (Keep.of_below hb) (fun _ _ _ => trivial)
end
/-- A hand with what it has drawn. -/
def HandAt (w : World) (T : Nat → Prop) (g : Nat) (Lv : Value) (wh : Nat) (lf : Int) (piece : List Pt) (pieces : List (List Pt)) : Prop := ∃ pv qv S, HandV w T g Lv wh lf pv qv S piece ∧ S.map Sb.plain = pieces.map fun l => (l, false)
section
variable {w w' : World} {T : Nat → Prop} {g wh : Nat} {Lv : Value} {lf : Int} {piece : List Pt} {pieces : List (List Pt)}
theorem HandAt.keep {R : Nat → Prop} (h : HandAt w T g Lv wh lf piece pieces) (hk : Keep R w w') (hR : ∀ k, T k → k < w.heap.size → R k) : HandAt w' T g Lv wh lf piece pieces := by
  obtain ⟨pv, qv, S, h1, h2⟩ := h
  exact ⟨pv, qv, S, h1.keep hk hR, h2⟩
theorem HandAt.mono {R : Nat → Prop} (h : HandAt w T g Lv wh lf piece pieces) (hR : ∀ k, T k → k < w.heap.size → R k) : HandAt w R g Lv wh lf piece pieces := by
  obtain ⟨pv, qv, S, h1, h2⟩ := h
  exact ⟨pv, qv, S, h1.mono hR, h2⟩
theorem HandAt.grow (h : HandAt w T g Lv wh lf piece pieces) (hb : Below w.heap.size w w') : HandAt w' T g Lv wh lf piece pieces := h.keep (R := fun _ => True) (Keep.of_below hb) (fun _ _ _ => trivial)
end
theorem infoPt : (Try.prog.info? 32).map (fun i => (i.zero, i.size, i.bytes)) = some (some (.agg (two (0, 0))), 2, 16) := infoP
set_option maxHeartbeats 2000000 in
set_option maxRecDepth 100000 in
theorem pass_off (p : Pt) (w : World) (T : Nat → Prop) (g : Nat) (Lv : Value) (wh : Nat) (lf : Int) (piece : List Pt) (pieces : List (List Pt)) (h : HandAt w T g Lv wh lf piece pieces) (hw : wh % 2 = 1) :
    Calls Try.prog 57 #[.pointer (some ⟨g, 0, none⟩), .agg #[.int .i64 p.1, .int .i64 p.2]] w fun e w' => e = .returned (.tuple #[]) ∧ HandAt w' T g Lv wh lf piece pieces ∧ Keep (fun j => ¬ T j) w w' := by
  obtain ⟨w1, hw1⟩ : ∃ W, w.alloc (.cells #[.int .i64 p.1, .int .i64 p.2] 32) = W := ⟨_, rfl⟩
  have HB : Hid (Below w.heap.size w w1) := by rw [← hw1]; exact (Below.refl _ _).alloc (Nat.le_refl _) _
  have HW1 := Lib.hid hw1
  obtain ⟨pv, qv, S, h1, h2⟩ := h
  have c1 := h1.blk.cell 1
  have lt := h1.blk.lt
  simp only [List.getElem?_toArray, List.getElem?_cons_zero, List.getElem?_cons_succ] at c1
  have HH := Lib.hid h1
  have HS := Lib.hid h2
  have ht : ((wh : Int).tmod 2) = 1 := by rw [Int.tmod_eq_emod_of_nonneg (by omega)]; omega
  clear h1 h2 hw1
  go_enter Try.func57, Try.ntmps57
  go_wp2_with fail
  go_end0
  rw [HW1.out]
  exact ⟨rfl, ⟨pv, qv, S, HH.out.grow HB.out, HS.out⟩, Keep.of_below HB.out⟩
set_option maxHeartbeats 2000000 in
set_option maxRecDepth 100000 in
theorem pass_on (p : Pt) (w : World) (T : Nat → Prop) (hT : ∀ j, w.heap.size ≤ j → T j) (g : Nat) (Lv : Value) (wh : Nat) (lf : Int) (piece : List Pt) (pieces : List (List Pt)) (h : HandAt w T g Lv wh lf piece pieces) (hw : wh % 2 = 0) (hl : piece.length ≤ 90000) :
    Calls Try.prog 57 #[.pointer (some ⟨g, 0, none⟩), .agg #[.int .i64 p.1, .int .i64 p.2]] w fun e w' => e = .returned (.tuple #[]) ∧ HandAt w' T g Lv wh lf (piece ++ [p]) pieces ∧ Keep (fun j => ¬ T j) w w' := by
  obtain ⟨px, py⟩ := p
  obtain ⟨pv, qv, S, h1, h2⟩ := h
  have c1 := h1.blk.cell 1
  have c3 := h1.blk.cell 3
  have lt := h1.blk.lt
  simp only [List.getElem?_toArray, List.getElem?_cons_zero, List.getElem?_cons_succ] at c1 c3
  obtain ⟨pa, pn, pc, rfl⟩ := own_shape' h1.own
  have HH := Lib.hid h1
  have HS := Lib.hid h2
  have HT := Lib.hid hT
  have ht : ((wh : Int).tmod 2) = 0 := by rw [Int.tmod_eq_emod_of_nonneg (by omega)]; omega
  obtain ⟨W, hW⟩ : ∃ W, ((w.alloc (.cells #[.int .i64 px, .int .i64 py] 32)).alloc (.cells #[.int .i64 px, .int .i64 py] 32)).drew = W := ⟨_, rfl⟩
  have HB : Hid (Below w.heap.size w W) := by rw [← hW]; exact (((Below.refl _ _).alloc (Nat.le_refl _) _).alloc (by simp) _).trans (below_drewN (Below.refl _ _) 1)
  have HHW := Lib.hid (HH.out.grow HB.out)
  have HRW : Hid (Row W (.slice (some ⟨w.heap.size + 1, 0, none⟩) 1 1) [(px, py)]) := by
    rw [← hW]
    have h := (Row.new (w.alloc (.cells #[.int .i64 px, .int .i64 py] 32)) [(px, py)] 32 _ 1 rfl rfl).on (below_drewN (Below.refl _ _) 1)
    rw [World.size_alloc] at h
    exact h
  have HL : Hid (piece.length + [(px, py)].length ≤ 100000) := by unfold Hid; simp; omega
  have HOF : Hid ((Value.slice pa pn pc).ownBlock ≠ some g) := owns_off h1.own h1.blk (by decide)
  have HNX : Hid (∀ v5 w5, Own w5 0 32 v5 (piece ++ [(px, py)]) → W.grownBy w5 (Value.slice pa pn pc).ownBlock → Moved W (.slice pa pn pc) v5 → HandV (w5.setCell ⟨g, 3, none⟩ v5) T g Lv wh lf v5 qv S (piece ++ [(px, py)]) ∧ Keep (fun j => ¬ T j) w (w5.setCell ⟨g, 3, none⟩ v5)) := fun v5 w5 ho hg hm => by
    have h := HHW.out
    have k5 : Keep (fun j => (Value.slice pa pn pc).ownBlock ≠ some j) W w5 := Keep.of_grown hg
    have k6 : Keep (fun j => j ≠ g) w5 (w5.setCell ⟨g, 3, none⟩ v5) := Keep.setCell _ _ _ (by simp)
    have b5 := k5.blk h.blk HOF.out
    have tv : ∀ k, v5.ownBlock = some k → T k := fun k e => by
      rcases hm with e2 | ⟨q, e2, hq⟩
      · exact h.tp k (by rw [← e2]; exact e)
      · rw [e2] at e; cases e; exact HT.out _ (Nat.le_trans HB.out.size hq)
    have hap : ∀ x ∈ S, ∀ k, x.v.ownBlock = some k → (Value.slice pa pn pc).ownBlock ≠ some k := fun x hx k e e2 => by
      rcases h.apart x hx with e3 | e3
      · rw [e3] at e; cases e
      · exact e3 (e.trans e2.symm)
    refine ⟨⟨b5.set 3 v5, owns_keep ho k6 (fun k e e2 => owns_off ho b5 (by decide) (e2 ▸ e)), ?_, fun x hx => ?_, fun x hx => ?_, h.tg, tv, h.tq, h.tx⟩, ?_⟩
    · refine owns_keep (owns_keep h.row k5 (fun k e e2 => ?_)) k6 (fun k e e2 => owns_off h.row h.blk (by decide) (e2 ▸ e))
      rcases apart_types h.own h.row (by decide) with e3 | e3
      · rw [e3] at e2; cases e2
      · exact e3 (e2.trans e.symm)
    · exact owns_keep (owns_keep (h.subs x hx) k5 (fun k e => hap x hx k e)) k6 (fun k e e2 => owns_off (h.subs x hx) h.blk (by decide) (e2 ▸ e))
    · exact Apart.moved (h.apart x hx) (fun k e => (World.ownsRow.lt (h.subs x hx) k e).2) hm
    · exact ((Keep.of_below HB.out).trans (k5.mono fun j hj e => hj (h.tp j e))).trans (k6.mono fun j hj e => hj (e ▸ h.tg))
  have HW := Lib.hid hW
  clear h1 h2 hT hl hW
  go_enter Try.func57, Try.ntmps57
  go_wp2_with fail
  go_region_law (rw [HW.out]; refine step_app_pts rfl _ _ 44 32 rfl Try.underlying44 infoP 0 _ _ rfl HHW.out.own _ [(px, py)] rfl HRW.out HL.out (Nat.zero_le _) ?_; intro v5 w5 ho5 hg5 hm5; have hn5 := Lib.hid (HNX.out v5 w5 ho5 hg5 hm5); have b5 := (Keep.of_grown hg5).blk HHW.out.blk HOF.out; have d3 := b5.cell 3; have f3 := b5.free 3; have l5 := b5.lt; simp only [List.getElem?_toArray, List.getElem?_cons_zero, List.getElem?_cons_succ] at d3; obtain ⟨va, vn, vc, rfl⟩ := own_shape' ho5; clear ho5 hg5 hm5 b5)
  all_goals (go_wp2_with fail; go_end0; exact ⟨rfl, ⟨_, qv, S, hn5.out.1, HS.out⟩, hn5.out.2⟩)
def passI (wh : Nat) (piece : List Pt) (p : Pt) : List Pt := if wh % 2 = 0 then piece ++ [p] else piece
theorem pass_c (p : Pt) (w : World) (T : Nat → Prop) (hT : ∀ j, w.heap.size ≤ j → T j) (g : Nat) (Lv : Value) (wh : Nat) (lf : Int) (piece : List Pt) (pieces : List (List Pt)) (h : HandAt w T g Lv wh lf piece pieces) (hl : piece.length ≤ 90000) :
    Calls Try.prog 57 #[.pointer (some ⟨g, 0, none⟩), .agg #[.int .i64 p.1, .int .i64 p.2]] w fun e w' => e = .returned (.tuple #[]) ∧ HandAt w' T g Lv wh lf (passI wh piece p) pieces ∧ Keep (fun j => ¬ T j) w w' := by
  unfold passI
  split
  · rename_i hw; exact pass_on p w T hT g Lv wh lf piece pieces h hw hl
  · rename_i hw; exact pass_off p w T g Lv wh lf piece pieces h (by omega)
theorem own_nil_len {w : World} {base : Nat} {t : TypeId} {v : Value} {l : List Pt} (h : Own w base t v l) : ∃ a c, v = .slice a l.length c := by
  rcases own_some h with ⟨rfl, rfl⟩ | ⟨g, cap, rfl⟩
  · exact ⟨none, 0, rfl⟩
  · exact ⟨_, _, rfl⟩
theorem subs_shape {w : World} {qv : Value} {S : List Sb} (h : w.ownsRow 0 46 2 qv S.length (cellsB S)) : ∃ a c, qv = .slice a S.length c := by
  obtain ⟨_, ⟨rfl, h0⟩ | ⟨g, cap, cur, rfl, _⟩⟩ := h
  · exact ⟨none, 0, by rw [h0]⟩
  · exact ⟨_, _, rfl⟩
/-- What lift answers and leaves: the piece that is left, the pieces. -/
def liftI (piece : List Pt) (pieces : List (List Pt)) : Int × List Pt × List (List Pt) := if piece = [] then (0, [], pieces) else if pieces.length = 4096 then (36, piece, pieces) else (0, [], pieces ++ [piece])
set_option maxHeartbeats 2000000 in
set_option maxRecDepth 100000 in
theorem lift_none (w : World) (T : Nat → Prop) (g : Nat) (Lv : Value) (wh : Nat) (lf : Int) (pieces : List (List Pt)) (h : HandAt w T g Lv wh lf [] pieces) :
    Calls Try.prog 59 #[.pointer (some ⟨g, 0, none⟩)] w fun e w' => e = .returned (.int .i64 0) ∧ HandAt w' T g Lv wh lf [] pieces ∧ Keep (fun j => ¬ T j) w w' := by
  have HH := Lib.hid h
  obtain ⟨pv, qv, S, h1, h2⟩ := h
  obtain ⟨a, c, rfl⟩ := own_nil_len h1.own
  have c3 : w.cell? ⟨g, 3, none⟩ = some (.slice a 0 c) := h1.blk.cell 3
  have lt := h1.blk.lt
  clear h1 h2
  go_enter Try.func59, Try.ntmps59
  go_wp2_with fail
  go_ret
  exact ⟨rfl, HH.out, Keep.refl _ _⟩
set_option maxHeartbeats 2000000 in
set_option maxRecDepth 100000 in
theorem lift_full (w : World) (T : Nat → Prop) (g : Nat) (Lv : Value) (wh : Nat) (lf : Int) (piece : List Pt) (pieces : List (List Pt)) (h : HandAt w T g Lv wh lf piece pieces) (hne : piece ≠ []) (hf : pieces.length = 4096) :
    Calls Try.prog 59 #[.pointer (some ⟨g, 0, none⟩)] w fun e w' => e = .returned (.int .i64 36) ∧ HandAt w' T g Lv wh lf piece pieces ∧ Keep (fun j => ¬ T j) w w' := by
  have HH := Lib.hid h
  obtain ⟨pv, qv, S, h1, h2⟩ := h
  obtain ⟨a, c, rfl⟩ := own_nil_len h1.own
  obtain ⟨b, q, rfl⟩ := subs_shape h1.row
  have hs : S.length = 4096 := by have := congrArg List.length h2; simpa [hf] using this
  have c3 := h1.blk.cell 3
  have c4 := h1.blk.cell 4
  have lt := h1.blk.lt
  simp only [List.getElem?_toArray, List.getElem?_cons_zero, List.getElem?_cons_succ, hs] at c3 c4
  have hn : 0 < piece.length := List.length_pos_iff.2 hne
  generalize piece.length = n at *
  have d1 : ((n : Int) == 0) = false := by simp; omega
  have d2 : decide ((n : Int) = 0) = false := by simp; omega
  have d3 : decide (n = 0) = false := by simp; omega
  clear h1 h2 hne hf hs
  go_enter Try.func59, Try.ntmps59
  go_wp2_with fail
  go_ret
  exact ⟨rfl, HH.out, Keep.refl _ _⟩
set_option maxHeartbeats 4000000 in
set_option maxRecDepth 100000 in
theorem lift_on (w : World) (T : Nat → Prop) (hT : ∀ j, w.heap.size ≤ j → T j) (g : Nat) (Lv : Value) (wh : Nat) (lf : Int) (piece : List Pt) (pieces : List (List Pt)) (h : HandAt w T g Lv wh lf piece pieces) (hne : piece ≠ []) (hf : pieces.length < 4096) :
    Calls Try.prog 59 #[.pointer (some ⟨g, 0, none⟩)] w fun e w' => e = .returned (.int .i64 0) ∧ HandAt w' T g Lv wh lf [] (pieces ++ [piece]) ∧ Keep (fun j => ¬ T j) w w' := by
  obtain ⟨pv, qv, S, h1, h2⟩ := h
  obtain ⟨pa, pc, rfl⟩ := own_nil_len h1.own
  obtain ⟨b, q, rfl⟩ := subs_shape h1.row
  obtain ⟨m, hm⟩ : ∃ m, S.length = m := ⟨_, rfl⟩
  obtain ⟨n, hnn⟩ : ∃ n, piece.length = n := ⟨_, rfl⟩
  have hs : m < 4096 := by have := congrArg List.length h2; simp at this; omega
  have hn : 0 < n := by rw [← hnn]; exact List.length_pos_iff.2 hne
  have HM := Lib.hid hm
  have HS := Lib.hid h2
  have HT := Lib.hid hT
  have HH := Lib.hid h1
  rw [hm, hnn] at h1 HH
  have c3 := h1.blk.cell 3
  have c4 := h1.blk.cell 4
  have lt := h1.blk.lt
  simp only [List.getElem?_toArray, List.getElem?_cons_zero, List.getElem?_cons_succ] at c3 c4
  have d1 : ((n : Int) == 0) = false := by simp; omega
  have d2 : decide ((n : Int) = 0) = false := by simp; omega
  have d3 : decide (n = 0) = false := by simp; omega
  have e1 : ((m : Int) == 4096) = false := by simp; omega
  have e2 : decide ((m : Int) = 4096) = false := by simp; omega
  have e3 : decide (m = 4096) = false := by simp; omega
  obtain ⟨W, hW⟩ : ∃ W, (w.alloc (.cells #[.slice pa n pc, .bool false] 46)).drew = W := ⟨_, rfl⟩
  have HB : Hid (Below w.heap.size w W) := by rw [← hW]; exact ((Below.refl _ _).alloc (Nat.le_refl _) _).trans (below_drewN (Below.refl _ _) 1)
  have HHW := Lib.hid (HH.out.grow HB.out)
  have HNB : Hid (Blk W w.heap.size 46 #[.slice pa n pc, .bool false]) := by rw [← hW]; exact (Blk.new _ _ _).grow (below_drewN (Below.refl _ _) 1)
  have HX1 : Hid (∀ j x, ([.slice pa n pc, .bool false] : List Value)[j]? = some x → W.cell? ((⟨w.heap.size, 0, none⟩ : Addr).add j) = some x) := fun j x hj => by
    have h := HNB.out.cell j
    have e : (#[.slice pa n pc, .bool false] : Array Value)[j]? = some x := by simpa using hj
    simp only [Addr.add_lit, Nat.zero_add]
    exact h.trans e
  have HX2 : Hid (∀ x ∈ ([.slice pa n pc, .bool false] : List Value), x.oneCell' = true) := fun x hx => by
    simp only [List.mem_cons, List.mem_nil_iff, or_false] at hx
    rcases hx with rfl | rfl <;> rfl
  have HX3 : Hid (m + 1 ≤ 100000) := by unfold Hid; omega
  have HRO : Hid (W.ownsRow 0 46 2 (.slice b m q) m (cellsB S)) := by have h := HHW.out.row; rw [hm] at h; exact h
  have HOF : Hid ((Value.slice b m q).ownBlock ≠ some g) := owns_off HRO.out HHW.out.blk (by decide)
  have HNX : Hid (∀ v5 w5, w5.ownsRow 0 46 2 v5 (m + 1) (cellsB S ++ [.slice pa n pc, .bool false]) → W.grownBy w5 (Value.slice b m q).ownBlock → Moved W (.slice b m q) v5 → HandV ((w5.setCell ⟨g, 4, none⟩ v5).setCell ⟨g, 3, none⟩ (.slice none 0 0)) T g Lv wh lf (.slice none 0 0) v5 (S ++ [⟨.slice pa n pc, piece, false⟩]) [] ∧ Keep (fun j => ¬ T j) w ((w5.setCell ⟨g, 4, none⟩ v5).setCell ⟨g, 3, none⟩ (.slice none 0 0))) := fun v5 w5 ho hg hmv => by
    have h := HHW.out
    have k5 : Keep (fun j => (Value.slice b m q).ownBlock ≠ some j) W w5 := Keep.of_grown hg
    have k6 : Keep (fun j => j ≠ g) w5 ((w5.setCell ⟨g, 4, none⟩ v5).setCell ⟨g, 3, none⟩ (.slice none 0 0)) := (Keep.setCell _ _ _ (by simp)).trans (Keep.setCell _ _ _ (by simp))
    have b5 := k5.blk h.blk HOF.out
    have tv : ∀ k, v5.ownBlock = some k → T k := fun k e => by
      rcases hmv with e2 | ⟨x, e2, hq⟩
      · exact h.tq k (by rw [← e2]; exact e)
      · rw [e2] at e; cases e; exact HT.out _ (Nat.le_trans HB.out.size hq)
    have off : ∀ (v : Value) (l : List Pt), Own W 0 32 v l → Own ((w5.setCell ⟨g, 4, none⟩ v5).setCell ⟨g, 3, none⟩ (.slice none 0 0)) 0 32 v l := fun v l hv => by
      have hap := apart_types hv HRO.out (by decide)
      refine owns_keep (owns_keep hv k5 (fun k e e2 => ?_)) k6 (fun k e e2 => owns_off hv h.blk (by decide) (e2 ▸ e))
      rcases hap with e3 | e3
      · rw [e3] at e; cases e
      · exact e3 (e.trans e2.symm)
    refine ⟨⟨(b5.set 4 v5).set 3 _, Own.nil _ _ _, ?_, fun x hx => ?_, fun x _ => (Apart.nil _).symm, h.tg, fun k e => by simp [Value.ownBlock] at e, tv, fun x hx => ?_⟩, ?_⟩
    · have e : (S ++ [(⟨.slice pa n pc, piece, false⟩ : Sb)]).length = m + 1 := by rw [List.length_append, HM.out]; rfl
      rw [e, cellsB_append]
      exact owns_keep ho k6 (fun k e e2 => owns_off ho b5 (by decide) (e2 ▸ e))
    · rcases List.mem_append.1 hx with hx | hx
      · exact off _ _ (h.subs x hx)
      · obtain rfl := List.mem_singleton.1 hx
        exact off _ _ h.own
    · rcases List.mem_append.1 hx with hx | hx
      · exact h.tx x hx
      · obtain rfl := List.mem_singleton.1 hx
        exact h.tp
    · exact ((Keep.of_below HB.out).trans (k5.mono fun j hj e => hj (h.tq j e))).trans (k6.mono fun j hj e => hj (e ▸ h.tg))
  have HMAP : Hid ((S ++ [(⟨.slice pa n pc, piece, false⟩ : Sb)]).map Sb.plain = (pieces ++ [piece]).map fun l => (l, false)) := by
    unfold Hid; rw [List.map_append, List.map_append, HS.out]; rfl
  have HW := Lib.hid hW
  clear h1 h2 hT hm hnn hne hf hW hs hn
  go_enter Try.func59, Try.ntmps59
  go_wp2_with fail
  go_region_law (rw [HW.out]; refine step_app_sub rfl _ _ 56 46 rfl Try.underlying56 infoSub 0 _ _ _ rfl HRO.out ⟨w.heap.size, 0, none⟩ 1 1 [.slice pa n pc, .bool false] rfl rfl HX1.out HX2.out HX3.out (Nat.zero_le _) ?_; intro v5 w5 ho5 hg5 hm5; have hn5 := Lib.hid (HNX.out v5 w5 ho5 hg5 hm5); have b5 := (Keep.of_grown hg5).blk HHW.out.blk HOF.out; have y3 := b5.cell 3; have y4 := b5.cell 4; have f3 := b5.free 3; have f4 := b5.free 4; have l5 := b5.lt; simp only [List.getElem?_toArray, List.getElem?_cons_zero, List.getElem?_cons_succ] at y3 y4; have hsh : ∃ a n c, v5 = .slice a n c := (by obtain ⟨_, ⟨rfl, _⟩ | ⟨gg, cap, cur, rfl, _⟩⟩ := ho5 <;> exact ⟨_, _, _, rfl⟩); obtain ⟨va, vn, vc, rfl⟩ := hsh; clear ho5 hg5 hm5 b5)
  all_goals (go_wp2_with fail; go_ret; exact ⟨rfl, ⟨_, _, _, hn5.out.1, HMAP.out⟩, hn5.out.2⟩)
theorem lift_c (w : World) (T : Nat → Prop) (hT : ∀ j, w.heap.size ≤ j → T j) (g : Nat) (Lv : Value) (wh : Nat) (lf : Int) (piece : List Pt) (pieces : List (List Pt)) (h : HandAt w T g Lv wh lf piece pieces) (hf : pieces.length ≤ 4096) :
    Calls Try.prog 59 #[.pointer (some ⟨g, 0, none⟩)] w fun e w' => e = .returned (.int .i64 (liftI piece pieces).1) ∧ HandAt w' T g Lv wh lf (liftI piece pieces).2.1 (liftI piece pieces).2.2 ∧ Keep (fun j => ¬ T j) w w' := by
  unfold liftI
  by_cases h0 : piece = []
  · subst h0
    rw [if_pos rfl]
    exact lift_none w T g Lv wh lf pieces h
  · rw [if_neg h0]
    by_cases h1 : pieces.length = 4096
    · rw [if_pos h1]
      exact lift_full w T g Lv wh lf piece pieces h h0 h1
    · rw [if_neg h1]
      exact lift_on w T hT g Lv wh lf piece pieces h h0 (by omega)
/-- The lengths of a pattern, where they lie. -/
def IntsL (w : World) (b o : Nat) (L : List Int) : Prop := ∀ k x, L[k]? = some x → w.cell? ⟨b, o + k, none⟩ = some (.int .i64 x)
theorem IntsL.keep {S : Nat → Prop} {w w' : World} {b o : Nat} {L : List Int} (h : IntsL w b o L) (hk : Keep S w w') (hs : S b) (hl : b < w.heap.size) : IntsL w' b o L := fun i p hp => by
  rw [hk.cell hs hl]; exact h i p hp
set_option maxHeartbeats 4000000 in
set_option maxRecDepth 100000 in
theorem next_c (w : World) (T : Nat → Prop) (g b o n c : Nat) (L : List Int) (wh : Nat) (lf : Int) (piece : List Pt) (pieces : List (List Pt)) (h : HandAt w T g (.slice (some ⟨b, o, none⟩) n c) wh lf piece pieces) (hn : L.length = n) (h0 : 0 < n) (h8 : n ≤ 8) (hw : wh < n) (hL : IntsL w b o L) (hb : ¬ T b) :
    Calls Try.prog 62 #[.pointer (some ⟨g, 0, none⟩)] w fun e w' => e = .returned (.tuple #[]) ∧ HandAt w' T g (.slice (some ⟨b, o, none⟩) n c) ((wh + 1) % n) (L.getD ((wh + 1) % n) 0) piece pieces ∧ Keep (fun j => ¬ T j) w w' := by
  obtain ⟨pv, qv, S, h1, h2⟩ := h
  have c0 := h1.blk.cell 0
  have c1 := h1.blk.cell 1
  have c2 := h1.blk.cell 2
  have f1 := h1.blk.free 1
  have f2 := h1.blk.free 2
  have lt := h1.blk.lt
  simp only [List.getElem?_toArray, List.getElem?_cons_zero, List.getElem?_cons_succ] at c0 c1 c2
  have hne : b ≠ g := fun e => hb (e ▸ h1.tg)
  have hne2 : g ≠ b := Ne.symm hne
  obtain ⟨u, hu⟩ : ∃ u, (wh + 1) % n = u := ⟨_, rfl⟩
  have hun : u < n := by rw [← hu]; exact Nat.mod_lt _ h0
  obtain ⟨x, hx⟩ : ∃ x, L[u]? = some x := ⟨_, List.getElem?_eq_getElem (by omega)⟩
  have hgx : L.getD u 0 = x := by rw [List.getD_eq_getElem?_getD, hx]; rfl
  have cx := hL u x hx
  have hw1 : wrap64 ((wh : Int) + 1) = ((wh + 1 : Nat) : Int) := by rw [wrapR _ (by omega) (by omega)]; omega
  have hrem : (((wh + 1 : Nat) : Int).tmod (n : Int)) = (u : Int) := by rw [Int.tmod_eq_emod_of_nonneg (by omega), ← hu]; omega
  have hz : ((n : Int) == 0) = false := by simp; omega
  have hz2 : decide ((n : Int) = 0) = false := by simp; omega
  have hz3 : decide (n = 0) = false := by simp; omega
  have hn0 : ¬ n = 0 := by omega
  rw [hu, hgx]
  have HH := Lib.hid h1
  have HS := Lib.hid h2
  clear h1 h2 hL hb hu hx hgx hw
  generalize wh + 1 = w1 at hw1 hrem
  go_enter Try.func62, Try.ntmps62
  go_wp2_with fail
  go_region
  go_wp2_with fail
  go_region
  go_wp2_with fail
  go_end0
  have kk : Keep (fun j => j ≠ g) w ((w.setCell ⟨g, 1, none⟩ (.int .i64 (u : Int))).setCell ⟨g, 2, none⟩ (.int .i64 x)) := (Keep.setCell _ _ _ (by simp)).trans (Keep.setCell _ _ _ (by simp))
  have hd : Below ((w.setCell ⟨g, 1, none⟩ (.int .i64 (u : Int))).setCell ⟨g, 2, none⟩ (.int .i64 x)).heap.size ((w.setCell ⟨g, 1, none⟩ (.int .i64 (u : Int))).setCell ⟨g, 2, none⟩ (.int .i64 x)) ((w.setCell ⟨g, 1, none⟩ (.int .i64 (u : Int))).setCell ⟨g, 2, none⟩ (.int .i64 x)).drew.drew := below_drewN (Below.refl _ _) 2
  have h := HH.out
  refine ⟨rfl, ⟨pv, qv, S, HandV.grow ⟨(h.blk.set 1 _).set 2 _, owns_keep h.own kk (fun k e e2 => owns_off h.own h.blk (by decide) (e2 ▸ e)), owns_keep h.row kk (fun k e e2 => owns_off h.row h.blk (by decide) (e2 ▸ e)), fun x hx => owns_keep (h.subs x hx) kk (fun k e e2 => owns_off (h.subs x hx) h.blk (by decide) (e2 ▸ e)), h.apart, h.tg, h.tp, h.tq, h.tx⟩ hd, HS.out⟩, (kk.mono fun j hj e => hj (e ▸ h.tg)).trans (Keep.of_below hd)⟩
/-- What turn answers and leaves. -/
def turnI (wh : Nat) (piece : List Pt) (pieces : List (List Pt)) (p : Pt) : Int × List (List Pt) := if wh % 2 = 0 then (if pieces.length = 4096 then (36, pieces) else (0, pieces ++ [piece ++ [p]])) else (0, pieces)
theorem lift_pass {wh : Nat} {piece : List Pt} {pieces : List (List Pt)} {p : Pt} (ho : wh % 2 = 1 → piece = []) : (liftI (passI wh piece p) pieces).1 = (turnI wh piece pieces p).1 ∧ ((turnI wh piece pieces p).1 = 0 → (liftI (passI wh piece p) pieces).2 = ([], (turnI wh piece pieces p).2)) := by
  unfold liftI passI turnI
  by_cases h : wh % 2 = 0
  · rw [if_pos h, if_pos h, if_neg (by simp)]
    by_cases h2 : pieces.length = 4096
    · rw [if_pos h2, if_pos h2]; simp
    · rw [if_neg h2, if_neg h2]; simp
  · rw [if_neg h, if_neg h, ho (by omega), if_pos rfl]; simp
set_option maxHeartbeats 4000000 in
set_option maxRecDepth 100000 in
theorem turn_c (p : Pt) (w : World) (T : Nat → Prop) (hT : ∀ j, w.heap.size ≤ j → T j) (g b o n c : Nat) (L : List Int) (wh : Nat) (lf : Int) (piece : List Pt) (pieces : List (List Pt)) (h : HandAt w T g (.slice (some ⟨b, o, none⟩) n c) wh lf piece pieces) (hn : L.length = n) (h0 : 0 < n) (h8 : n ≤ 8) (hw : wh < n) (hL : IntsL w b o L) (hb : ¬ T b) (hbl : b < w.heap.size)
    (ho : wh % 2 = 1 → piece = []) (hl : piece.length ≤ 80000) (hf : pieces.length ≤ 4096) :
    Calls Try.prog 63 #[.pointer (some ⟨g, 0, none⟩), .agg #[.int .i64 p.1, .int .i64 p.2]] w fun e w' => e = .returned (.int .i64 (turnI wh piece pieces p).1) ∧ Keep (fun j => ¬ T j) w w' ∧ ((turnI wh piece pieces p).1 = 0 → HandAt w' T g (.slice (some ⟨b, o, none⟩) n c) ((wh + 1) % n) (L.getD ((wh + 1) % n) 0) (passI ((wh + 1) % n) [] p) (turnI wh piece pieces p).2) := by
  obtain ⟨px, py⟩ := p
  obtain ⟨w1, hw1⟩ : ∃ W, w.alloc (.cells #[.int .i64 px, .int .i64 py] 32) = W := ⟨_, rfl⟩
  obtain ⟨R, hR⟩ : ∃ R : Nat → Prop, R = fun j => (T j ∧ j < w.heap.size) ∨ w.heap.size + 1 ≤ j := ⟨_, rfl⟩
  have hRT : ∀ j, R j → T j := fun j hj => by
    rw [hR] at hj
    rcases hj with h | h
    · exact h.1
    · exact hT j (by omega)
  have hTR : ∀ j, T j → j < w.heap.size → R j := fun j h1 h2 => by rw [hR]; exact .inl ⟨h1, h2⟩
  have hRN : ¬ R w.heap.size := by rw [hR]; simp
  have hR1 : ∀ j, w.heap.size + 1 ≤ j → R j := fun j hj => by rw [hR]; exact .inr hj
  have hRb : ¬ R b := fun e => hb (hRT _ e)
  have z1 : w1.heap.size = w.heap.size + 1 := by rw [← hw1]; simp
  have HB : Below w.heap.size w w1 := by rw [← hw1]; exact (Below.refl _ _).alloc (Nat.le_refl _) _
  have BX : Blk w1 w.heap.size 32 (two (px, py)) := by rw [← hw1]; exact Blk.new _ _ _
  have H1 : Hid (HandAt w1 R g (.slice (some ⟨b, o, none⟩) n c) wh lf piece pieces) := (h.mono hTR).grow HB
  have L1 : Hid (IntsL w1 b o L ∧ b < w1.heap.size) := ⟨hL.keep (Keep.of_below (S := fun _ => True) HB) trivial hbl, by omega⟩
  have KT : Hid (∀ A : World, Keep (fun j => ¬ R j) w1 A → Keep (fun j => ¬ T j) w A) := fun A hA => (Keep.of_below HB).trans (hA.mono fun j hj e => hj (hRT _ e))
  have HP := lift_pass (p := (px, py)) (pieces := pieces) ho
  have CP : Hid (Calls Try.prog 57 #[.pointer (some ⟨g, 0, none⟩), .agg #[.int .i64 px, .int .i64 py]] w1 fun e w' => e = .returned (.tuple #[]) ∧ HandAt w' R g (.slice (some ⟨b, o, none⟩) n c) wh lf (passI wh piece (px, py)) pieces ∧ Keep (fun j => ¬ R j) w1 w') :=
    pass_c (px, py) w1 R (fun j hj => hR1 j (by omega)) g _ wh lf piece pieces H1.out (by omega)
  have CL : Hid (∀ A, w1.heap.size ≤ A.heap.size → HandAt A R g (.slice (some ⟨b, o, none⟩) n c) wh lf (passI wh piece (px, py)) pieces → Calls Try.prog 59 #[.pointer (some ⟨g, 0, none⟩)] A fun e w' => e = .returned (.int .i64 (turnI wh piece pieces (px, py)).1) ∧ ((turnI wh piece pieces (px, py)).1 = 0 → HandAt w' R g (.slice (some ⟨b, o, none⟩) n c) wh lf [] (turnI wh piece pieces (px, py)).2) ∧ Keep (fun j => ¬ R j) A w') := fun A hA hh => by
    refine (lift_c A R (fun j hj => hR1 j (by omega)) g _ wh lf _ pieces hh hf).mono ?_
    rintro e w' ⟨rfl, h1, h2⟩
    refine ⟨by rw [HP.1], fun h3 => ?_, h2⟩
    have h4 := HP.2 h3
    rw [h4] at h1
    exact h1
  have CN : Hid (∀ A ps, IntsL A b o L → HandAt A R g (.slice (some ⟨b, o, none⟩) n c) wh lf [] ps → Calls Try.prog 62 #[.pointer (some ⟨g, 0, none⟩)] A fun e w' => e = .returned (.tuple #[]) ∧ HandAt w' R g (.slice (some ⟨b, o, none⟩) n c) ((wh + 1) % n) (L.getD ((wh + 1) % n) 0) [] ps ∧ Keep (fun j => ¬ R j) A w') := fun A ps hi hh => next_c A R g b o n c L wh lf [] ps hh hn h0 h8 hw hi hRb
  generalize (wh + 1) % n = wn at *
  generalize L.getD wn 0 = ln at *
  generalize turnI wh piece pieces (px, py) = tt at *
  have CP2 : Hid (∀ A ps, w1.heap.size ≤ A.heap.size → HandAt A R g (.slice (some ⟨b, o, none⟩) n c) wn ln [] ps → Calls Try.prog 57 #[.pointer (some ⟨g, 0, none⟩), .agg #[.int .i64 px, .int .i64 py]] A fun e w' => e = .returned (.tuple #[]) ∧ HandAt w' R g (.slice (some ⟨b, o, none⟩) n c) wn ln (passI wn [] (px, py)) ps ∧ Keep (fun j => ¬ R j) A w') := fun A ps hA hh => pass_c (px, py) A R (fun j hj => hR1 j (by omega)) g _ wn ln [] ps hh (by simp)
  have HRN := Lib.hid hRN
  have HRB := Lib.hid hRb
  have HRT := Lib.hid hRT
  have Z1 := Lib.hid z1
  have HBX := Lib.hid BX
  have HW1 := Lib.hid hw1
  have HF : Hid (∀ A, Keep (fun j => ¬ R j) w1 A → A.cell? ⟨w.heap.size, 0, none⟩ = some (.int .i64 px) ∧ A.cell? ⟨w.heap.size, 1, none⟩ = some (.int .i64 py) ∧ IntsL A b o L ∧ w1.heap.size ≤ A.heap.size) := fun A hA => by
    have k := hA.blk HBX.out HRN.out
    exact ⟨k.cell 0, k.cell 1, L1.out.1.keep hA hRb L1.out.2, hA.size⟩
  clear hT h hL hb hbl ho hf hR hRT hTR hRN hR1 hRb z1 HB BX HP hw1 hw h0 hn
  go_enter Try.func63, Try.ntmps63
  go_wp2_with fail
  rw [HW1.out]
  refine CP.out.mono ?_
  rintro e w2 ⟨rfl, h2, k2⟩
  have H2 := Lib.hid h2
  have K2 := Lib.hid k2
  have F2 := Lib.hid (HF.out w2 k2)
  clear h2 k2
  go_wp2_with fail
  refine (CL.out w2 F2.out.2.2.2 H2.out).mono ?_
  rintro e w3 ⟨rfl, h3, k3⟩
  have K3 := Lib.hid (K2.out.trans k3)
  have F3 := Lib.hid (HF.out w3 K3.out)
  have H3 := Lib.hid h3
  clear h3 k3
  obtain ⟨z, ps⟩ := tt
  by_cases hz : z = 0
  · subst hz
    have H3b := Lib.hid (H3.out rfl)
    go_wp2_with fail
    refine (CN.out w3 ps F3.out.2.2.1 H3b.out).mono ?_
    rintro e w4 ⟨rfl, h4, k4⟩
    have K4 := Lib.hid (K3.out.trans k4)
    have F4 := Lib.hid (HF.out w4 K4.out)
    have H4 := Lib.hid h4
    clear h4 k4
    have d0 := F4.out.1
    have d1 := F4.out.2.1
    go_wp2_with fail
    refine (CP2.out w4 ps F4.out.2.2.2 H4.out).mono ?_
    rintro e w5 ⟨rfl, h5, k5⟩
    have K5 := Lib.hid (K4.out.trans k5)
    have H5 := Lib.hid h5
    clear h5 k5 d0 d1
    go_wp2_with fail
    go_ret
    exact ⟨rfl, KT.out _ K5.out, H5.out.mono (fun k hk _ => HRT.out k hk)⟩
  · have hne : (z != 0) = true := by simpa using hz
    go_wp2_with fail
    go_ret
    exact ⟨rfl, KT.out _ K3.out⟩
end Go.Proofs.Ytclkkdhfdoidfaa
