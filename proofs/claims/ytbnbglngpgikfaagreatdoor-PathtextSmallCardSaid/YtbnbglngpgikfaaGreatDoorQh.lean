/- Layer 15: package pathtext: the reader in memory; append of a segment. -/
import Derived.Test.YtbnbglngpgikfaaGreatDoorQe
import Derived.Test.YtbnbglngpgikfaaGreatDoorSf
import Derived.Test.YtbnbglngpgikfaaGreatDoorNr
namespace Go.Proofs.YtbnbglngpgikfaaGreatDoor
open Go.RowKit Go.Shelf
attribute [local go_sem] Oper.semAt_some
theorem run_append_sg (w : World) (t ty T : TypeId) (ht : Tryz.prog.underlying t = some (.slice T)) (hT : (Tryz.prog.info? T).map (fun i => (i.zero, i.size, i.bytes)) = some (some (.agg zSeven), 7, 56)) (base : Nat) (v : Value) (X : List Sg) (hown : OwnS w base T v X) (q : Nat) (s : Sg) (hq : ∀ (j : Nat) u, s.cells[j]? = some u → w.cell? ⟨q, j, none⟩ = some u) (hl : X.length + 1 ≤ 100000) (hbase : base ≤ w.heap.size) :
    ∃ v' w', (Builtin.append_ #[t, t] ty #[v, .slice (some ⟨q, 0, none⟩) 1 1]).run Tryz.prog w = .ok v' w' ∧ OwnS w' base T v' (X ++ [s]) ∧ w.grownBy w' v.ownBlock ∧ Moved w v v' := by
  obtain ⟨i, hi, hz0, hz1, hz2⟩ := info_parts hT
  obtain ⟨m, hm⟩ : ∃ m, X.length = m := ⟨_, rfl⟩
  unfold OwnS at hown ⊢
  rw [hm] at hown hl
  have hx : ∀ j u, (flatS [s])[j]? = some u → w.cell? ((⟨q, 0, none⟩ : Addr).add j) = some u := fun j u hj => by
    rw [Addr.add_lit, Nat.zero_add]
    refine hq j u ?_
    simpa [flatS, Sg.cells, seven] using hj
  have hn : (flatS [s]).length = 1 * 7 := rfl
  have key : ∀ b, w.ownsRow b T 7 v m (flatS X) → b ≤ w.heap.size → _ := fun b ho hb => run_append_own (P := Tryz.prog) w b t ty T i (.agg zSeven) 7 56 ht hi hz0 hz1 hz2 rfl (by decide) v m (flatS X) ho ⟨q, 0, none⟩ 1 1 (flatS [s]) hn hx (flatS_one [s]) (by unfold maxLen; omega) (by omega) hb
  obtain ⟨v', w', hr, ho, hg, _⟩ := key base hown hbase
  have hfin : w'.ownsRow base T 7 v' (X ++ [s]).length (flatS (X ++ [s])) := by
    rw [List.length_append, hm, flatS_append]
    exact ho
  refine ⟨v', w', hr, hfin, hg, ?_⟩
  have hlen := hown.1
  rcases hown.2 with ⟨rfl, h0⟩ | ⟨g, cap, cur, rfl, hb, hgg, hc, hmm, hs, htk⟩
  · subst h0
    have hxs : flatS X = [] := List.eq_nil_of_length_eq_zero (by omega)
    obtain ⟨v2, w2, hr2, ho2, _, _⟩ := key w.heap.size (by rw [hxs]; exact World.ownsRow_nil _ _ _ _) (Nat.le_refl _)
    obtain ⟨rfl, rfl⟩ := ok_inj hr hr2
    cases hv : v'.ownBlock with
    | none => exact .inl hv
    | some q => exact .inr ⟨q, hv, (ho2.lt q hv).1⟩
  · by_cases hroom : m + 1 ≤ cap
    · obtain ⟨w2, hr2, _⟩ := run_append_fits (P := Tryz.prog) w base t ty T i 7 ht hi hz1 g m cap (flatS X) hown ⟨q, 0, none⟩ 1 1 (flatS [s]) hn hx (flatS_one [s]) hroom
      obtain ⟨rfl, _⟩ := ok_inj hr hr2
      exact .inl rfl
    · have hr2 := run_append_grow (P := Tryz.prog) w t ty T i _ ht hi hz0 ⟨g, 0, none⟩ m cap (flatS X) (by rw [hlen, hz1]) (fun j u hj => by have := hown.cells (g := g) rfl j u hj; exact this) ⟨q, 0, none⟩ 1 1 (flatS [s]) (by rw [hn, hz1]) hx (by omega) (by omega) (by rw [hz2]; exact growslice_fits (by omega) (by omega))
      obtain ⟨rfl, _⟩ := ok_inj hr hr2
      exact .inr ⟨_, rfl, Nat.le_refl _⟩
theorem wp_append_sg {o : Oper} {a : Act} {w : World} {K : Act → World → Prop} {Q : Exit → Act → World → Prop} (s x : Operand) (t T : TypeId)
    (ho : o.op = .call { callee := .builtin .append, args := #[s, x], argTypes := #[t, t] }) (ht : Tryz.prog.underlying t = some (.slice T)) (hT : (Tryz.prog.info? T).map (fun i => (i.zero, i.size, i.bytes)) = some (some (.agg zSeven), 7, 56))
    (base : Nat) (v : Value) (X : List Sg) (c : Sg) (hs : a.eval s = v) (hown : OwnS w base T v X) (q : Nat) (hxe : a.eval x = .slice (some ⟨q, 0, none⟩) 1 1) (hq : ∀ (j : Nat) u, c.cells[j]? = some u → w.cell? ⟨q, j, none⟩ = some u) (hl : X.length + 1 ≤ 100000) (hbase : base ≤ w.heap.size)
    (h : ∀ v' w', OwnS w' base T v' (X ++ [c]) → w.grownBy w' v.ownBlock → Moved w v v' → K (a.put o.dst v') w') : o.wp Tryz.prog a w K Q := by
  obtain ⟨v', w', hr, h2, h3, h4⟩ := run_append_sg w t o.type T ht hT base v X hown q c hq hl hbase
  unfold Oper.wp
  simp [execOp, ho, resolve, invoke, builtin, hs, hxe, hr, Result.andThen]
  exact h v' w' h2 h3 h4
theorem wpList_append_sg {w : World} {ops : Array Oper} {rest : List Oper} {o : Oper} {a : Act} {Q : Exit → Act → World → Prop} (hgd : o.guard = none) (s x : Operand) (t T : TypeId)
    (ho : o.op = .call { callee := .builtin .append, args := #[s, x], argTypes := #[t, t] }) (ht : Tryz.prog.underlying t = some (.slice T)) (hT : (Tryz.prog.info? T).map (fun i => (i.zero, i.size, i.bytes)) = some (some (.agg zSeven), 7, 56))
    (base : Nat) (v : Value) (X : List Sg) (c : Sg) (hs : a.eval s = v) (hown : OwnS w base T v X) (q : Nat) (hxe : a.eval x = .slice (some ⟨q, 0, none⟩) 1 1) (hq : ∀ (j : Nat) u, c.cells[j]? = some u → w.cell? ⟨q, j, none⟩ = some u) (hl : X.length + 1 ≤ 100000) (hbase : base ≤ w.heap.size)
    (h : ∀ v' w', OwnS w' base T v' (X ++ [c]) → w.grownBy w' v.ownBlock → Moved w v v' → wpList Tryz.prog ops Q rest (a.put o.dst v') w') : wpList Tryz.prog ops Q (o :: rest) a w :=
  wpList_plain hgd fun _ hK => wp_append_sg s x t T ho ht hT base v X c hs hown q hxe hq hl hbase fun v' w' h2 h3 h4 => hK _ _ (h v' w' h2 h3 h4)
/-! The reader. -/
abbrev ptrR (g : Nat) : Value := .pointer (some ⟨g, 0, none⟩)
def cellsR (st : Rs) (v : Value) : Array Value := #[v, .int .i64 st.s.k, .int .i64 st.s.p.1, .int .i64 st.s.p.2, .int .i64 st.s.q.1, .int .i64 st.s.q.2, .int .i64 st.s.r.1, .int .i64 st.s.r.2, .int .i64 (st.due : Int), .bool st.small, .bool st.opn, .int .i64 st.b.1, .int .i64 st.b.2, .int .i64 st.e.1, .int .i64 st.e.2]
/-- The reader at hand in memory. -/
structure RdAt (base g : Nat) (st : Rs) (v : Value) (A : World) : Prop where
  blk : Blk A g 59 (cellsR st v)
  row : OwnS A base 53 v st.l
  hb : base ≤ A.heap.size
  ge : base ≤ g
theorem RdAt.ne {base g : Nat} {st : Rs} {v : Value} {A : World} (h : RdAt base g st v A) : v.ownBlock ≠ some g := owns_off h.row h.blk (by decide)
theorem RdAt.grow {base g : Nat} {st : Rs} {v : Value} {A B : World} (h : RdAt base g st v A) (hb : Below A.heap.size A B) : RdAt base g st v B := ⟨h.blk.grow hb, h.row.grow hb, Nat.le_trans h.hb hb.size, h.ge⟩
theorem RdAt.keep {base g : Nat} {st : Rs} {v : Value} {A B : World} {S : Nat → Prop} (h : RdAt base g st v A) (hk : Keep S A B) (hg : S g) (hv : ∀ k, v.ownBlock = some k → S k) : RdAt base g st v B := ⟨hk.blk h.blk hg, owns_keep h.row hk hv, Nat.le_trans h.hb hk.size, h.ge⟩
/-- Another state, the same row, in the same block. -/
theorem RdAt.turn {base g : Nat} {st st' : Rs} {v : Value} {A B : World} (h : RdAt base g st v A) (hk : Keep (fun j => j ≠ g) A B) (hb : Blk B g 59 (cellsR st' v)) (hl : st'.l = st.l) : RdAt base g st' v B :=
  ⟨hb, by rw [hl]; exact owns_keep h.row hk (fun k e e2 => h.ne (e2 ▸ e)), Nat.le_trans h.hb hk.size, h.ge⟩
section
variable {base g : Nat} {st : Rs} {v : Value} {A : World}
theorem RdAt.c0 (h : RdAt base g st v A) : A.cell? ⟨g, 0, none⟩ = some v := h.blk.cell 0
theorem RdAt.ck (h : RdAt base g st v A) : A.cell? ⟨g, 1, none⟩ = some (.int .i64 st.s.k) := h.blk.cell 1
theorem RdAt.c2 (h : RdAt base g st v A) : A.cell? ⟨g, 2, none⟩ = some (.int .i64 st.s.p.1) := h.blk.cell 2
theorem RdAt.c3 (h : RdAt base g st v A) : A.cell? ⟨g, 3, none⟩ = some (.int .i64 st.s.p.2) := h.blk.cell 3
theorem RdAt.c4 (h : RdAt base g st v A) : A.cell? ⟨g, 4, none⟩ = some (.int .i64 st.s.q.1) := h.blk.cell 4
theorem RdAt.c5 (h : RdAt base g st v A) : A.cell? ⟨g, 5, none⟩ = some (.int .i64 st.s.q.2) := h.blk.cell 5
theorem RdAt.c6 (h : RdAt base g st v A) : A.cell? ⟨g, 6, none⟩ = some (.int .i64 st.s.r.1) := h.blk.cell 6
theorem RdAt.c7 (h : RdAt base g st v A) : A.cell? ⟨g, 7, none⟩ = some (.int .i64 st.s.r.2) := h.blk.cell 7
theorem RdAt.cd (h : RdAt base g st v A) : A.cell? ⟨g, 8, none⟩ = some (.int .i64 (st.due : Int)) := h.blk.cell 8
theorem RdAt.cs (h : RdAt base g st v A) : A.cell? ⟨g, 9, none⟩ = some (.bool st.small) := h.blk.cell 9
theorem RdAt.co (h : RdAt base g st v A) : A.cell? ⟨g, 10, none⟩ = some (.bool st.opn) := h.blk.cell 10
theorem RdAt.cb1 (h : RdAt base g st v A) : A.cell? ⟨g, 11, none⟩ = some (.int .i64 st.b.1) := h.blk.cell 11
theorem RdAt.cb2 (h : RdAt base g st v A) : A.cell? ⟨g, 12, none⟩ = some (.int .i64 st.b.2) := h.blk.cell 12
theorem RdAt.ce1 (h : RdAt base g st v A) : A.cell? ⟨g, 13, none⟩ = some (.int .i64 st.e.1) := h.blk.cell 13
theorem RdAt.ce2 (h : RdAt base g st v A) : A.cell? ⟨g, 14, none⟩ = some (.int .i64 st.e.2) := h.blk.cell 14
end
theorem full_c (base g : Nat) (st : Rs) (v : Value) (w : World) (h : RdAt base g st v w) : Calls Tryz.prog 60 #[ptrR g] w fun e w' => e = .returned (.bool (decide (st.l.length = 4096))) ∧ w = w' := by
  obtain ⟨a, c, rfl⟩ := h.row.row.shape
  have c0 := h.c0
  obtain ⟨n, hn⟩ : ∃ n, st.l.length = n := ⟨_, rfl⟩
  rw [hn] at c0 ⊢
  clear h
  by_cases e : n = 4096
  · subst e
    go_enter Tryz.func60, Tryz.ntmps60
    go_wp2
    go_ret
    exact ⟨rfl, rfl⟩
  · have e1 : ((n : Int) == 4096) = false := by simp; omega
    have HE : Hid (decide (n = 4096) = false) := by unfold Hid; simpa using e
    rw [HE.out]
    clear e
    go_enter Tryz.func60, Tryz.ntmps60
    go_wp2
    go_ret
    exact ⟨rfl, rfl⟩
theorem keep_seven' {S : Nat → Prop} (w : World) (g : Nat) (hg : ¬ S g) (a b c d e f i : Value) :
    Keep S w (((((((w.setCell ⟨g, 1, none⟩ a).setCell ⟨g, 2, none⟩ b).setCell ⟨g, 3, none⟩ c).setCell ⟨g, 4, none⟩ d).setCell ⟨g, 5, none⟩ e).setCell ⟨g, 6, none⟩ f).setCell ⟨g, 7, none⟩ i) :=
  ((((((Keep.setCell _ _ _ hg).trans (Keep.setCell _ _ _ hg)).trans (Keep.setCell _ _ _ hg)).trans (Keep.setCell _ _ _ hg)).trans (Keep.setCell _ _ _ hg)).trans (Keep.setCell _ _ _ hg)).trans (Keep.setCell _ _ _ hg)
/-- What the library's and package path's walks read of memory. -/
def Rdd (w : World) : Prop := Rd w ∧ Rd2 w
def Ev (N : Nat) (w : World) : Prop := ∀ W, Below N w W → Rdd W
theorem Ev.at {N : Nat} {w : World} (h : Ev N w) : Rdd w := h w (Below.refl _ _)
theorem Ev.on {N : Nat} {w w' : World} (h : Ev N w) (hb : Below N w w') : Ev N w' := fun W hW => h W (hb.trans hW)
theorem Ev.keep {N : Nat} {w w' : World} {S : Nat → Prop} (h : Ev N w) (hk : Keep S w w') (hS : ∀ j, j < N → S j) (hN : N ≤ w.heap.size) : Ev N w' := h.on (hk.below hS hN)
theorem ev_of {w : World} (h : Rdd w) : Ev w.heap.size w := fun _ hW => ⟨h.1.on hW, h.2.on hW⟩
theorem zero_blk {w : World} {g : Nat} {st : Rs} {v : Value} (h : Blk w g 59 (cellsR st v)) (k : Int) :
    Blk (((((((w.setCell ⟨g, 1, none⟩ (.int .i64 k)).setCell ⟨g, 2, none⟩ (.int .i64 0)).setCell ⟨g, 3, none⟩ (.int .i64 0)).setCell ⟨g, 4, none⟩ (.int .i64 0)).setCell ⟨g, 5, none⟩ (.int .i64 0)).setCell ⟨g, 6, none⟩ (.int .i64 0)).setCell ⟨g, 7, none⟩ (.int .i64 0)) g 59 (cellsR { st with s := zeroS k } v) := by
  have h7 := ((((((h.set 1 (.int .i64 k)).set 2 (.int .i64 0)).set 3 (.int .i64 0)).set 4 (.int .i64 0)).set 5 (.int .i64 0)).set 6 (.int .i64 0)).set 7 (.int .i64 0)
  simpa [cellsR, zeroS] using h7
set_option maxHeartbeats 4000000 in
set_option maxRecDepth 100000 in
theorem start_c (N g : Nat) (st : Rs) (v : Value) (k : Int) (w : World) (hr : Ev N w) (h : RdAt N g st v w) : Calls Tryz.prog 61 #[ptrR g, .int .i64 k] w fun e w' => (∃ u, e = .returned u) ∧ RdAt N g (startR st k) v w' ∧ Keep (fun j => j ≠ g) w w' := by
  have HR := Lib.hid hr
  have H := Lib.hid h
  have l0 := h.blk.lt
  have f1 := h.blk.free 1; have f2 := h.blk.free 2; have f3 := h.blk.free 3; have f4 := h.blk.free 4; have f5 := h.blk.free 5; have f6 := h.blk.free 6; have f7 := h.blk.free 7
  have d1 := h.ck; have d2 := h.c2; have d3 := h.c3; have d4 := h.c4; have d5 := h.c5; have d6 := h.c6; have d7 := h.c7
  have hn3 := needI_le k
  clear hr h
  go_enter Tryz.func61, Tryz.ntmps61
  go_wp2_with fail
  have hz := zero_blk H.out.blk k
  have hk : Keep (fun j => j ≠ g) w (((((((w.setCell ⟨g, 1, none⟩ (.int .i64 k)).setCell ⟨g, 2, none⟩ (.int .i64 0)).setCell ⟨g, 3, none⟩ (.int .i64 0)).setCell ⟨g, 4, none⟩ (.int .i64 0)).setCell ⟨g, 5, none⟩ (.int .i64 0)).setCell ⟨g, 6, none⟩ (.int .i64 0)).setCell ⟨g, 7, none⟩ (.int .i64 0)) := keep_seven' w g (by simp) _ _ _ _ _ _ _
  clear l0 f1 f2 f3 f4 f5 f6 f7 d1 d2 d3 d4 d5 d6 d7
  generalize (((((((w.setCell ⟨g, 1, none⟩ (.int .i64 k)).setCell ⟨g, 2, none⟩ (.int .i64 0)).setCell ⟨g, 3, none⟩ (.int .i64 0)).setCell ⟨g, 4, none⟩ (.int .i64 0)).setCell ⟨g, 5, none⟩ (.int .i64 0)).setCell ⟨g, 6, none⟩ (.int .i64 0)).setCell ⟨g, 7, none⟩ (.int .i64 0)) = w1 at hz hk ⊢
  have H1 := Lib.hid (H.out.turn (st' := { st with s := zeroS k }) hk hz rfl)
  have HK := Lib.hid hk
  have d8 := H1.out.cd
  have f8 := H1.out.blk.free 8
  have l8 := H1.out.blk.lt
  have hrd := (HR.out w1 (hk.below (fun j hj => by have := H.out.ge; omega) H.out.hb)).1
  have HC := Lib.hid (need_c k w1 hrd)
  clear hz hk hrd
  refine HC.out.mono ?_
  rintro e w2 ⟨rfl, rfl⟩
  obtain ⟨n, hn⟩ : ∃ n, needI k = n := ⟨_, rfl⟩
  have HN := Lib.hid hn
  rw [hn] at hn3 ⊢
  clear hn
  have e1 : wrap64 (2 * (n : Int)) = 2 * (n : Int) := wrapR _ (by omega) (by omega)
  have hn4 : (n : Int) ≤ 3 := by omega
  go_wp2_with fail
  go_end0
  have hk8 : Keep (fun j => j ≠ g) w1 (w1.setCell ⟨g, 8, none⟩ (.int .i64 (2 * (n : Int)))) := Keep.setCell _ _ _ (by simp)
  refine ⟨⟨_, rfl⟩, H1.out.turn hk8 ?_ rfl, HK.out.trans hk8⟩
  have h8 := H1.out.blk.set 8 (.int .i64 (2 * (n : Int)))
  unfold startR
  rw [HN.out]
  have e2 : (2 * (n : Int)) = ((2 * n : Nat) : Int) := by omega
  rw [e2] at h8 ⊢
  exact h8
end Go.Proofs.YtbnbglngpgikfaaGreatDoor
