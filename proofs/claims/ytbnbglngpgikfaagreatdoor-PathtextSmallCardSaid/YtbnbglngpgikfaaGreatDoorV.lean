/- Rows of points: copy, append, what lies apart; a drawn region that ends in an append, or in which calls yield rows. -/
import Derived.Test.YtbnbglngpgikfaaGreatDoorA
import Derived.Deep.QuietTactic
import Derived.Laws.AppendOwnNone
namespace Go.Proofs.YtbnbglngpgikfaaGreatDoor
open Go.RowKit

def midI (p q : Pt) : Pt := ((p.1 + q.1) / 2, (p.2 + q.2) / 2)
theorem roomP_iff {p : Pt} : roomP p = true ↔ (-2147483648 ≤ p.1 ∧ p.1 ≤ 2147483648) ∧ -2147483648 ≤ p.2 ∧ p.2 ≤ 2147483648 := by simp [roomP, room_iff]
theorem midI_room {p q : Pt} (hp : roomP p = true) (hq : roomP q = true) : roomP (midI p q) = true := by
  rw [roomP_iff] at *
  unfold midI
  simp only
  omega
theorem results_two {T : TypeId} {fn : Func} {tmps : Array Value} {w : World} {g : Nat} {p : Pt} (t : Nat) (hT : T = 50 ∨ T = 45) (hres : fn.results = #[.cell t T]) (ht : tmps[t]? = some (.pointer (some ⟨g, 0, none⟩))) (h : Blk w g T (two p)) :
    (results fn tmps).run Tryz.prog w = .ok (.agg #[.int .i64 p.1, .int .i64 p.2]) w := by
  have h0 : w.cell? ⟨g, 0, none⟩ = some (.int .i64 p.1) := h.cell 0
  have h1 : w.cell? ⟨g, 1, none⟩ = some (.int .i64 p.2) := h.cell 1
  rcases hT with rfl | rfl <;> simp [results, hres, ht, go_sem, h0, h1]
/-- The cells of a row: four points and a number. -/
abbrev nine (p q r s : Pt) (n : Int) : Array Value := #[.int .i64 p.1, .int .i64 p.2, .int .i64 q.1, .int .i64 q.2, .int .i64 r.1, .int .i64 r.2, .int .i64 s.1, .int .i64 s.2, .int .i64 n]
structure Ro where
  p : Pt
  q : Pt
  r : Pt
  s : Pt
  n : Int
abbrev zP : Pt := (0, 0)
def Ro.cells (x : Ro) : Array Value := nine x.p x.q x.r x.s x.n
theorem Blk.put {w : World} {g : Nat} {t : TypeId} {cs : Array Value} (h : Blk w g t cs) (i : Nat) (v : Value) (cs' : Array Value) (e : cs.setIfInBounds i v = cs') : Blk (w.setCell ⟨g, i, none⟩ v) g t cs' := e ▸ h.set i v
/-- Nine cells stored. -/
def World.set9 (w : World) (g : Nat) (a b c d e f i j k : Value) : World := ((((((((w.setCell ⟨g, 0, none⟩ a).setCell ⟨g, 1, none⟩ b).setCell ⟨g, 2, none⟩ c).setCell ⟨g, 3, none⟩ d).setCell ⟨g, 4, none⟩ e).setCell ⟨g, 5, none⟩ f).setCell ⟨g, 6, none⟩ i).setCell ⟨g, 7, none⟩ j).setCell ⟨g, 8, none⟩ k
theorem Blk.set9 {w : World} {g : Nat} {t : TypeId} {x : Ro} (h : Blk w g t x.cells) (y : Ro) :
    Blk (((((((((w.setCell ⟨g, 0, none⟩ (.int .i64 y.p.1)).setCell ⟨g, 1, none⟩ (.int .i64 y.p.2)).setCell ⟨g, 2, none⟩ (.int .i64 y.q.1)).setCell ⟨g, 3, none⟩ (.int .i64 y.q.2)).setCell ⟨g, 4, none⟩ (.int .i64 y.r.1)).setCell ⟨g, 5, none⟩ (.int .i64 y.r.2)).setCell ⟨g, 6, none⟩ (.int .i64 y.s.1)).setCell ⟨g, 7, none⟩ (.int .i64 y.s.2)).setCell ⟨g, 8, none⟩ (.int .i64 y.n)) g t y.cells := by
  obtain ⟨p, q, r, s, n⟩ := x
  obtain ⟨p', q', r', s', n'⟩ := y
  exact (((((((((h.put 0 _ (nine (p'.1, p.2) q r s n) rfl).put 1 _ (nine p' q r s n) rfl).put 2 _ (nine p' (q'.1, q.2) r s n) rfl).put 3 _ (nine p' q' r s n) rfl).put 4 _ (nine p' q' (r'.1, r.2) s n) rfl).put 5 _ (nine p' q' r' s n) rfl).put 6 _ (nine p' q' r' (s'.1, s.2) n) rfl).put 7 _ (nine p' q' r' s' n) rfl).put 8 _ (nine p' q' r' s' n') rfl)
theorem Blk.other9 {w : World} {g g' : Nat} {t : TypeId} {cs : Array Value} (h : Blk w g t cs) (hne : g ≠ g') (a b c d e f i j k : Value) :
    Blk (((((((((w.setCell ⟨g', 0, none⟩ a).setCell ⟨g', 1, none⟩ b).setCell ⟨g', 2, none⟩ c).setCell ⟨g', 3, none⟩ d).setCell ⟨g', 4, none⟩ e).setCell ⟨g', 5, none⟩ f).setCell ⟨g', 6, none⟩ i).setCell ⟨g', 7, none⟩ j).setCell ⟨g', 8, none⟩ k) g t cs :=
  ((((((((h.other _ _ hne).other _ _ hne).other _ _ hne).other _ _ hne).other _ _ hne).other _ _ hne).other _ _ hne).other _ _ hne).other _ _ hne
theorem below_nine {w w' : World} {B g : Nat} (h : Below B w w') (hg : B ≤ g) (a b c d e f i j k : Value) :
    Below B w (((((((((w'.setCell ⟨g, 0, none⟩ a).setCell ⟨g, 1, none⟩ b).setCell ⟨g, 2, none⟩ c).setCell ⟨g, 3, none⟩ d).setCell ⟨g, 4, none⟩ e).setCell ⟨g, 5, none⟩ f).setCell ⟨g, 6, none⟩ i).setCell ⟨g, 7, none⟩ j).setCell ⟨g, 8, none⟩ k) :=
  ((((((((h.setCell hg _).setCell hg _).setCell hg _).setCell hg _).setCell hg _).setCell hg _).setCell hg _).setCell hg _).setCell hg _
section
variable {w : World} {g : Nat} {t : TypeId} {x : Ro}
theorem Blk.r0 (h : Blk w g t x.cells) : w.cell? ⟨g, 0, none⟩ = some (.int .i64 x.p.1) := h.cell 0
theorem Blk.r1 (h : Blk w g t x.cells) : w.cell? ⟨g, 1, none⟩ = some (.int .i64 x.p.2) := h.cell 1
theorem Blk.r2 (h : Blk w g t x.cells) : w.cell? ⟨g, 2, none⟩ = some (.int .i64 x.q.1) := h.cell 2
theorem Blk.r3 (h : Blk w g t x.cells) : w.cell? ⟨g, 3, none⟩ = some (.int .i64 x.q.2) := h.cell 3
theorem Blk.r4 (h : Blk w g t x.cells) : w.cell? ⟨g, 4, none⟩ = some (.int .i64 x.r.1) := h.cell 4
theorem Blk.r5 (h : Blk w g t x.cells) : w.cell? ⟨g, 5, none⟩ = some (.int .i64 x.r.2) := h.cell 5
theorem Blk.r6 (h : Blk w g t x.cells) : w.cell? ⟨g, 6, none⟩ = some (.int .i64 x.s.1) := h.cell 6
theorem Blk.r7 (h : Blk w g t x.cells) : w.cell? ⟨g, 7, none⟩ = some (.int .i64 x.s.2) := h.cell 7
theorem Blk.r8 (h : Blk w g t x.cells) : w.cell? ⟨g, 8, none⟩ = some (.int .i64 x.n) := h.cell 8
end
/-- 'copy' of elements of any size, into a row that is known whole. -/
theorem run_copy_wide {P : Program} (w : World) (dT sT ty elem : TypeId) (g o dLen dCap : Nat) (a : Addr) (sLen sCap k : Nat) (cur : Array Value) (t : TypeId) (cs : List Value)
    (hu : P.underlying dT = some (.slice elem)) (hs : (P.info? elem).map (·.size) = some k)
    (hg : w.heap[g]? = some (.cells cur t (0, 0))) (hn : cs.length = Nat.min sLen dLen * k)
    (hsrc : ∀ j v, cs[j]? = some v → w.cell? (a.add j) = some v) (hfit : o + cs.length ≤ cur.size) (h1 : ∀ v ∈ cs, v.oneCell' = true) :
    (Builtin.copy_ #[dT, sT] ty #[.slice (some ⟨g, o, none⟩) dLen dCap, .slice (some a) sLen sCap]).run P w =
      .ok (goInt (Nat.min sLen dLen)) (w.setRow g (cur.toList.take o ++ cs ++ cur.toList.drop (o + cs.length)).toArray) := by
  have hl := run_loadCells_list (P := P) w a cs hsrc
  have hst := run_storeCells_at P g o t cs 0 cur w hg (by simpa using hfit) h1
  cases hq : P.info? elem with
  | none => simp [hq] at hs
  | some i =>
    have hi : i.size = k := by simpa [hq] using hs
    rw [hn] at hl hst
    simp [Builtin.copy_, run_underlying hu, Builtin.lenOf, Builtin.firstCells, sizeOf, typeInfo, hq, hi, hl, hst, hn]
theorem wpList_copy_wide {P : Program} {w : World} {ops : Array Oper} {rest : List Oper} {o : Oper} {a : Act} {Q : Exit → Act → World → Prop} (hgd : o.guard = none) (d s : Operand) (dT sT : TypeId)
    (ho : o.op = .call { callee := .builtin .copy, args := #[d, s], argTypes := #[dT, sT] }) (elem : TypeId) (k : Nat) (hu : P.underlying dT = some (.slice elem)) (hsz : (P.info? elem).map (·.size) = some k)
    (g off dLen dCap : Nat) (ad : Addr) (sLen sCap : Nat) (hd : a.eval d = .slice (some ⟨g, off, none⟩) dLen dCap) (hs : a.eval s = .slice (some ad) sLen sCap)
    (cur : Array Value) (t : TypeId) (hg : w.heap[g]? = some (.cells cur t (0, 0))) (cs : List Value) (m : Nat) (hm : Nat.min sLen dLen = m) (hn : cs.length = m * k)
    (hsrc : ∀ j v, cs[j]? = some v → w.cell? (ad.add j) = some v) (hfit : off + cs.length ≤ cur.size) (h1 : ∀ v ∈ cs, v.oneCell' = true) (new : Array Value) (hnew : (cur.toList.take off ++ cs ++ cur.toList.drop (off + cs.length)).toArray = new)
    (h : wpList P ops Q rest (a.put o.dst (goInt m)) (w.setRow g new)) : wpList P ops Q (o :: rest) a w := by
  subst hm
  refine wpList_plain hgd fun K hK => ?_
  have hrun := run_copy_wide (P := P) w dT sT o.type elem g off dLen dCap ad sLen sCap k cur t cs hu hsz hg hn hsrc hfit h1
  rw [hnew] at hrun
  unfold Oper.wp
  simp [execOp, ho, resolve, invoke, builtin, hd, hs, hrun, Result.andThen]
  exact hK _ _ h
theorem Blk.row {w : World} {g : Nat} {t : TypeId} {cs : Array Value} (h : Blk w g t cs) (new : Array Value) : Blk (w.setRow g new) g t new := setRow_heap w g cs new t _ h
theorem Blk.rowOther {w : World} {g g' : Nat} {t : TypeId} {cs : Array Value} (h : Blk w g t cs) (hne : g ≠ g') (new : Array Value) : Blk (w.setRow g' new) g t cs := by
  unfold Blk; rw [setRow_other w g' g new hne]; exact h
theorem setRow_size (w : World) (g : Nat) (cs : Array Value) : (w.setRow g cs).heap.size = w.heap.size := by simp [World.setRow]
theorem sizeP : (Tryz.prog.info? 50).map (·.size) = some 2 := by kernel_rfl
theorem cells_src {w : World} {b o : Nat} {l : List Pt} (h : PtsAt w b o l) : ∀ j v, (flatL l)[j]? = some v → w.cell? ((⟨b, o, none⟩ : Addr).add j) = some v := fun j v hj => by
  have hlt : j < l.length * 2 := by
    have := (List.getElem?_eq_some_iff.1 hj).1
    rwa [flatL_length] at this
  obtain ⟨p, hp⟩ : ∃ p, l[j / 2]? = some p := ⟨_, List.getElem?_eq_getElem (by omega)⟩
  obtain ⟨e0, e1⟩ := flatL_at l (j / 2) p hp
  obtain ⟨c0, c1⟩ := h (j / 2) p hp
  rw [Addr.add_lit]
  rcases Nat.mod_two_eq_zero_or_one j with h2 | h2
  · have hj2 : j = j / 2 * 2 := by omega
    rw [hj2, e0] at hj
    rw [hj2, c0]; exact hj
  · have hj2 : j = j / 2 * 2 + 1 := by omega
    rw [hj2, e1] at hj
    rw [hj2, ← Nat.add_assoc, c1]; exact hj
theorem made3 : madeCells #[.int .i64 0, .int .i64 0] (3 * 2) = #[.int .i64 0, .int .i64 0, .int .i64 0, .int .i64 0, .int .i64 0, .int .i64 0] := by first | rfl | (with_unfolding_all rfl) | kernel_rfl | (simp [madeCells])
theorem made4 : madeCells #[.int .i64 0, .int .i64 0] (4 * 2) = #[.int .i64 0, .int .i64 0, .int .i64 0, .int .i64 0, .int .i64 0, .int .i64 0, .int .i64 0, .int .i64 0] := by first | rfl | (with_unfolding_all rfl) | kernel_rfl | (simp [madeCells])
theorem make_pts (w : World) (n : Nat) (hn : n ≤ 64) : (Instr.makeSlice 54 (.int .i64 (n : Int)) (.int .i64 (n : Int))).run Tryz.prog w = .ok (.slice (some ⟨w.heap.size, 0, none⟩) n n) (w.alloc (.cells (madeCells #[.int .i64 0, .int .i64 0] (n * 2)) 50)) := by
  obtain ⟨i, hi, hz0, hz1, hz2⟩ := info_parts infoP
  have h := run_make (P := Tryz.prog) w 54 50 i _ Tryz.underlying54 hi hz0 .i64 .i64 n n (by omega) (by omega) (by rw [hz2]; omega) (by omega)
  rw [hz1] at h
  exact h
theorem pts_row {w : World} {g : Nat} {t : TypeId} {x : Ro} (h : Blk w g t x.cells) (l : List Pt) (hl : l = [x.p, x.q, x.r, x.s].take l.length) : PtsAt w g 0 l := fun i a ha => by
  rw [hl, List.getElem?_take] at ha
  split at ha
  · rw [Nat.zero_add, h.cell, h.cell]
    match i, ha with
    | 0, ha => simp at ha; subst ha; exact ⟨rfl, rfl⟩
    | 1, ha => simp at ha; subst ha; exact ⟨rfl, rfl⟩
    | 2, ha => simp at ha; subst ha; exact ⟨rfl, rfl⟩
    | 3, ha => simp at ha; subst ha; exact ⟨rfl, rfl⟩
    | k + 4, ha => simp at ha
  · cases ha
theorem own_full {w : World} {g n k : Nat} {t : TypeId} {l : List Pt} (h : Blk w g t (flatL l).toArray) (hg : n ≤ g) (hk : k = l.length) (hm : k ≤ maxLen) : Own w n t (.slice (some ⟨g, 0, none⟩) k k) l := by
  subst hk
  refine ⟨flatL_length l, .inr ⟨g, l.length, (flatL l).toArray, rfl, hg, h, Nat.le_refl _, hm, by simp [flatL_length], ?_⟩⟩
  rw [List.take_of_length_le]
  simp [flatL_length]
theorem below_cell2 {w w' : World} {B g : Nat} (h : Below B w w') (hg : B ≤ g) (i j : Nat) (v u : Value) : Below B w ((w'.setCell ⟨g, i, none⟩ v).setCell ⟨g, j, none⟩ u) := (h.setCell hg _).setCell hg _
theorem Blk.other2 {w : World} {g g' : Nat} {t : TypeId} {cs : Array Value} (h : Blk w g t cs) (hne : g ≠ g') (i j : Nat) (v u : Value) : Blk ((w.setCell ⟨g', i, none⟩ v).setCell ⟨g', j, none⟩ u) g t cs := (h.other _ _ hne).other _ _ hne
theorem make_cap (W : World) (c : Nat) (hc : c ≤ 64) : (Instr.makeSlice 54 (.int .i64 0) (.int .i64 (c : Int))).run Tryz.prog W = .ok (.slice (some ⟨W.heap.size, 0, none⟩) 0 c) (W.alloc (.cells (madeCells #[.int .i64 0, .int .i64 0] (c * 2)) 50)) := by
  obtain ⟨i, hi, hz0, hz1, hz2⟩ := info_parts infoP
  have h := run_make (P := Tryz.prog) W 54 50 i _ Tryz.underlying54 hi hz0 .i64 .i64 0 c (by omega) (by omega) (by rw [hz2]; omega) (by omega)
  rw [hz1] at h
  exact h
/-- The new row lies where the old one lay, or in new memory. -/
def Moved (w : World) (v v' : Value) : Prop := v'.ownBlock = v.ownBlock ∨ ∃ k, v'.ownBlock = some k ∧ w.heap.size ≤ k
theorem news_at {w : World} {b o : Nat} {l : List Pt} (h : PtsAt w b o l) : ∀ j u, (flatL l)[j]? = some u → w.cell? ((⟨b, o, none⟩ : Addr).add j) = some u := cells_src h
theorem ok_inj {α : Type} {a b : α} {w w' : World} {r : Result α} (h : r = .ok a w) (k : r = .ok b w') : a = b ∧ w = w' := by
  rw [h] at k; simpa using k
theorem run_append_pts (w : World) (t ty T : TypeId) (ht : Tryz.prog.underlying t = some (.slice T)) (hT : (Tryz.prog.info? T).map (fun i => (i.zero, i.size, i.bytes)) = some (some (.agg (two (0, 0))), 2, 16))
    (base : Nat) (v : Value) (X : List Pt) (hown : Own w base T v X) (u : Value) (Y : List Pt) (row : Row w u Y) (hl : X.length + Y.length ≤ 100000) (hbase : base ≤ w.heap.size) :
    ∃ v' w', (Builtin.append_ #[t, t] ty #[v, u]).run Tryz.prog w = .ok v' w' ∧ Own w' base T v' (X ++ Y) ∧ w.grownBy w' v.ownBlock ∧ Moved w v v' := by
  obtain ⟨i, hi, hz0, hz1, hz2⟩ := info_parts hT
  have some_case : ∀ (ad : Addr) (c : Nat), (∀ j u, (flatL Y)[j]? = some u → w.cell? (ad.add j) = some u) → u = .slice (some ad) Y.length c →
      ∃ v' w', (Builtin.append_ #[t, t] ty #[v, u]).run Tryz.prog w = .ok v' w' ∧ Own w' base T v' (X ++ Y) ∧ w.grownBy w' v.ownBlock ∧ Moved w v v' := by
    intro ad c hn hu
    subst hu
    have key : ∀ b, w.ownsRow b T 2 v X.length (flatL X) → b ≤ w.heap.size → _ := fun b ho hb => run_append_own (P := Tryz.prog) w b t ty T i (.agg (two (0, 0))) 2 16 ht hi hz0 hz1 hz2 rfl (by decide) v X.length (flatL X) ho ad Y.length c (flatL Y) (flatL_length Y) hn (flatL_one Y) (by unfold maxLen; omega) (by omega) hb
    obtain ⟨v', w', hr, ho, hg, _⟩ := key base hown hbase
    refine ⟨v', w', hr, by unfold Own; rw [List.length_append, flatL_append]; exact ho, hg, ?_⟩
    rcases hown.2 with ⟨rfl, h0⟩ | ⟨g, cap, cur, rfl, hb, hgg, hc, hm, hs, htk⟩
    · have hX : X = [] := List.eq_nil_of_length_eq_zero h0
      subst hX
      obtain ⟨v2, w2, hr2, ho2, _, _⟩ := key w.heap.size (World.ownsRow_nil _ _ _ _) (Nat.le_refl _)
      obtain ⟨rfl, rfl⟩ := ok_inj hr hr2
      cases hv : v'.ownBlock with
      | none => exact .inl hv
      | some k => exact .inr ⟨k, hv, (ho2.lt k hv).1⟩
    · by_cases hroom : X.length + Y.length ≤ cap
      · obtain ⟨w2, hr2, _⟩ := run_append_fits (P := Tryz.prog) w base t ty T i 2 ht hi hz1 g X.length cap (flatL X) hown ad Y.length c (flatL Y) (flatL_length Y) hn (flatL_one Y) hroom
        obtain ⟨rfl, _⟩ := ok_inj hr hr2
        exact .inl rfl
      · have hr2 := run_append_grow (P := Tryz.prog) w t ty T i _ ht hi hz0 ⟨g, 0, none⟩ X.length cap (flatL X) (by rw [flatL_length, hz1]) (fun j u hj => by have := hown.cells (g := g) rfl j u hj; exact this) ad Y.length c (flatL Y) (by rw [flatL_length, hz1]) hn (by omega) (by omega) (by rw [hz2]; exact growslice_fits (by omega) (by omega))
        obtain ⟨rfl, _⟩ := ok_inj hr hr2
        exact .inr ⟨_, rfl, Nat.le_refl _⟩
  rcases row with ⟨rfl, rfl⟩ | ⟨a, c, rfl, rfl⟩ | ⟨b, o, c, rfl, hb, hp⟩
  · refine ⟨v, w, run_append_owned_none (P := Tryz.prog) (w := w) base t ty T i 2 ht hi v X.length (flatL X) hown, by rw [List.append_nil]; exact hown, ⟨rfl, rfl, rfl, Nat.le_refl _, fun _ _ _ => rfl⟩, .inl rfl⟩
  · exact some_case a c (fun j u hj => by simp [flatL] at hj) rfl
  · exact some_case ⟨b, o, none⟩ c (news_at hp) rfl
theorem wpList_append_pts {w : World} {ops : Array Oper} {rest : List Oper} {o : Oper} {a : Act} {Q : Exit → Act → World → Prop} (hgd : o.guard = none) (s x : Operand) (t T : TypeId)
    (ho : o.op = .call { callee := .builtin .append, args := #[s, x], argTypes := #[t, t] }) (ht : Tryz.prog.underlying t = some (.slice T)) (hT : (Tryz.prog.info? T).map (fun i => (i.zero, i.size, i.bytes)) = some (some (.agg (two (0, 0))), 2, 16))
    (base : Nat) (v : Value) (X : List Pt) (hs : a.eval s = v) (hown : Own w base T v X) (u : Value) (Y : List Pt) (hx : a.eval x = u) (row : Row w u Y) (hl : X.length + Y.length ≤ 100000) (hbase : base ≤ w.heap.size)
    (h : ∀ v' w', Own w' base T v' (X ++ Y) → w.grownBy w' v.ownBlock → Moved w v v' → wpList Tryz.prog ops Q rest (a.put o.dst v') w') : wpList Tryz.prog ops Q (o :: rest) a w := by
  refine wpList_plain hgd fun K hK => ?_
  obtain ⟨v', w', hr, h1, h2, h3⟩ := run_append_pts w t o.type T ht hT base v X hown u Y row hl hbase
  unfold Oper.wp
  simp [execOp, ho, resolve, invoke, builtin, hs, hx, hr, Result.andThen]
  exact hK _ _ (h v' w' h1 h2 h3)
/-- Two slices that have no block in common. -/
def Apart (u v : Value) : Prop := u.ownBlock = none ∨ u.ownBlock ≠ v.ownBlock
theorem Apart.nil (v : Value) : Apart (.slice none 0 0) v := .inl rfl
theorem Apart.symm {u v : Value} (h : Apart u v) : Apart v u := by
  unfold Apart at *
  cases hv : v.ownBlock with
  | none => exact .inl rfl
  | some k =>
    rw [hv] at h
    rcases h with h | h
    · right; rw [h]; simp
    · right; exact fun e => h e.symm
/-- What was there ahead is apart from what moved into new memory. -/
theorem Apart.moved {w : World} {u v v' : Value} (h : Apart u v) (hu : ∀ k, u.ownBlock = some k → k < w.heap.size) (hm : Moved w v v') : Apart u v' := by
  rcases hm with e | ⟨k, e, hk⟩
  · unfold Apart at *; rw [e]; exact h
  · cases hq : u.ownBlock with
    | none => exact .inl hq
    | some j => right; rw [hq, e]; intro e2; simp at e2; have := hu j hq; omega
theorem Row.lt {w : World} {s : Value} {l : List Pt} (h : Row w s l) (hl : l ≠ []) : ∀ k, s.ownBlock = some k → k < w.heap.size := by
  intro k hk
  rcases h with ⟨rfl, _⟩ | ⟨a, c, rfl, e⟩ | ⟨b, o, c, rfl, hb, _⟩
  · simp [Value.ownBlock] at hk
  · exact absurd e hl
  · simp [Value.ownBlock] at hk; subst hk; exact hb
theorem Row.kept {w w' : World} {row : Option Nat} {s : Value} {l : List Pt} (h : Row w s l) (hg : w.grownBy w' row) (hne : s.ownBlock = none ∨ s.ownBlock ≠ row) : Row w' s l := by
  rcases h with h | h | ⟨b, o, c, rfl, hb, hp⟩
  · exact .inl h
  · exact .inr (.inl h)
  · refine .inr (.inr ⟨b, o, c, rfl, Nat.lt_of_lt_of_le hb hg.size, fun i p hi => ?_⟩)
    have e : w'.heap[b]? = w.heap[b]? := hg.block b hb (by rcases hne with h | h <;> simp [Value.ownBlock] at h; exact h)
    have := hp i p hi
    unfold World.cell? at this ⊢
    simp only at this ⊢
    rw [e]; exact this
theorem Own.kept {w w' : World} {v u : Value} (g : w.grownBy w' v.ownBlock) {base' : Nat} {t : TypeId} {l : List Pt} (hk : Own w base' t u l) (hne : Apart u v) : Own w' base' t u l := World.ownsRow.kept hk g hne
theorem Own.lt {w : World} {base : Nat} {t : TypeId} {v : Value} {l : List Pt} (h : Own w base t v l) : ∀ k, v.ownBlock = some k → base ≤ k ∧ k < w.heap.size := World.ownsRow.lt h
/-- A row just made, of a literal. -/
theorem Own.made (w : World) {base : Nat} (hb : base ≤ w.heap.size) (t : TypeId) (l : List Pt) (cs : Array Value) (n : Nat) (hcs : cs = flat l) (hn : n = l.length) (hl : n ≤ maxLen) : Own (w.alloc (.cells cs t)) base t (.slice (some ⟨w.heap.size, 0, none⟩) n n) l := by
  subst hcs hn
  exact own_full (Blk.new w t _) hb rfl hl
theorem wp_append_pts {w : World} {o : Oper} {a : Act} {K : Act → World → Prop} {Q : Exit → Act → World → Prop} (s x : Operand) (t T : TypeId)
    (ho : o.op = .call { callee := .builtin .append, args := #[s, x], argTypes := #[t, t] }) (ht : Tryz.prog.underlying t = some (.slice T)) (hT : (Tryz.prog.info? T).map (fun i => (i.zero, i.size, i.bytes)) = some (some (.agg (two (0, 0))), 2, 16))
    (base : Nat) (v : Value) (X : List Pt) (hs : a.eval s = v) (hown : Own w base T v X) (u : Value) (Y : List Pt) (hx : a.eval x = u) (row : Row w u Y) (hl : X.length + Y.length ≤ 100000) (hbase : base ≤ w.heap.size)
    (h : ∀ v' w', Own w' base T v' (X ++ Y) → w.grownBy w' v.ownBlock → Moved w v v' → K (a.put o.dst v') w') : o.wp Tryz.prog a w K Q := by
  obtain ⟨v', w', hr, h1, h2, h3⟩ := run_append_pts w t o.type T ht hT base v X hown u Y row hl hbase
  unfold Oper.wp execOp
  simp only [ho, resolve, invoke, builtin, Sem.run_bind, Sem.run_pure, Result.andThen_ok, List.map_toArray, List.map_cons, List.map_nil, hs, hx, hr]
  exact h v' w' h1 h2 h3
/-- The rule, where what a slot held ahead is wanted. -/
theorem wp_region_put2 {P : Program} {l : List Oper} {Q : Exit → Act → World → Prop} {id : Nat} {a : Act} {w : World} (hm : P.follows .mixedOrders = true) (hs : slotsOk a.tmps.size l = true) (hd : depsOk 0 l = true) (Inv : (Nat → Bool) → (Nat → Value) → World → Prop)
    (h0 : ∀ vs, (∀ i o d, l[i]? = some o → o.dst = some d → vs i = a.tmps.getD d undef) → Inv (fun _ => false) vs w.drew)
    (hstep : ∀ b vs w i o, l[i]? = some o → b i = false → (∀ e ∈ o.after, Region.binds .any e = true → b e.on = true) → Inv b vs w →
      wpOp P l.toArray Q i (fun a' w' => ∃ v, a' = (putAll l 0 vs a).put o.dst v ∧ Inv (upd b i true) (upd vs i v) w') (putAll l 0 vs a) w)
    (hend : ∀ b vs w, (∀ i, i < l.length → b i = true) → Inv b vs w → Q .normal (putAll l 0 vs a) w) : (Code.region id l.toArray true).wp P Q a w := by
  refine wp_region_inv hm (fun listed a' w' => listed.size = l.length ∧ ∃ vs b, a' = putAll l 0 vs a ∧ (∀ i, i < l.length → b i = listed.getD i false) ∧ (∀ i, l.length ≤ i → b i = false) ∧ Inv b vs w') ?_ ?_ ?_
  · refine ⟨by simp, _, fun _ => false, (putAll_base _ l 0 a rfl hs).symm, fun i hi => by simp [hi], fun _ _ => rfl, h0 _ fun i o d ho hd => by simp [ho, hd]⟩
  · rintro listed a' w' i ⟨hsz, vs, b, rfl, hb, hb', hi⟩ hr
    obtain ⟨hun, o, ho, hall⟩ := mem_ready.1 hr
    have ho' : l[i]? = some o := by simpa using ho
    have hlt : i < l.length := (List.getElem?_eq_some_iff.1 ho').1
    have hun' : listed.getD i false = false := by
      have : i < listed.size := by omega
      simp [this] at hun ⊢; exact hun
    refine wpOp_mono ?_ (hstep b vs w' i o ho' (by rw [hb i hlt]; exact hun') (fun e he hbd => ?_) hi)
    · rintro a'' w'' ⟨v, rfl, hi'⟩
      refine ⟨by simp [hsz], upd vs i v, upd b i true, ?_, ?_, ?_, hi'⟩
      · have := putAll_upd _ l 0 i o vs a v hs ho'
        rw [Nat.zero_add] at this
        exact this.symm
      · intro j hj
        by_cases e : j = i
        · subst e; rw [upd_same]; simp [hsz, hj]
        · rw [upd_other _ _ _ _ e, hb j hj]; simp only [Array.getD_eq_getD_getElem?, Array.getElem?_setIfInBounds_ne (Ne.symm e)]
      · intro j hj
        rw [upd_other _ _ _ _ (by omega)]; exact hb' j hj
    · have h := hall e he hbd
      have hel : e.on < l.length := by
        rcases Nat.lt_or_ge e.on listed.size with h' | h'
        · omega
        · simp [Array.getElem?_eq_none h'] at h
      rw [hb _ hel]; exact h
  · rintro listed a' w' ⟨hsz, vs, b, rfl, hb, hb', hi⟩ hr
    refine hend b vs w' ?_ hi
    intro i
    induction i using Nat.strongRecOn with
    | ind i ih =>
      intro hlt
      cases hbi : b i with
      | true => rfl
      | false =>
        obtain ⟨o, ho⟩ : ∃ o, l[i]? = some o := ⟨_, List.getElem?_eq_getElem hlt⟩
        have hin : i ∈ Region.ready .any l.toArray listed := by
          refine mem_ready.2 ⟨?_, o, by simpa using ho, fun e he hbd => ?_⟩
          · have : i < listed.size := by omega
            have h2 : listed.getD i false = false := by rw [← hb i hlt]; exact hbi
            simp [this] at h2 ⊢; exact h2
          · have h1 := depsOk_at l 0 i o hd ho e he hbd
            rw [← hb e.on (by omega)]
            exact ih e.on (by omega) (by omega)
        rw [hr] at hin
        cases hin
/-- What holds in a region in which calls yield rows and one append comes last. -/
def RegA (n : Nat) (w0 : World) (A : List Made) (F : World → Prop) (ap : Nat) (G : Value → World → Prop) (b : Nat → Bool) (vs : Nat → Value) (w : World) : Prop :=
  (Below n w0 w ∧ n ≤ w.heap.size) ∧ (b ap = false → (∀ x ∈ A, b x.op = true → Own w n x.t (vs x.op) x.pts) ∧ F w) ∧ (b ap = true → G (vs ap) w ∧ ∀ x ∈ A, b x.op = true)
section
variable {n : Nat} {w0 w w' : World} {A : List Made} {F : World → Prop} {ap : Nat} {G : Value → World → Prop} {b : Nat → Bool} {vs : Nat → Value}
theorem RegA.start (hF : ∀ w w', F w → Below w.heap.size w w' → F w') (h : (Below n w0 w ∧ n ≤ w.heap.size) ∧ F w) (vs : Nat → Value) : RegA n w0 A F ap G (fun _ => false) vs w.drew :=
  ⟨⟨below_drewN h.1.1 1, h.1.2⟩, fun _ => ⟨fun _ _ h => Bool.noConfusion h, hF _ _ h.2 ⟨rfl, rfl, rfl, Nat.le_refl _, fun _ _ => rfl⟩⟩, fun h => Bool.noConfusion h⟩
theorem RegA.other (h : RegA n w0 A F ap G b vs w) (i : Nat) (v : Value) (hi : ((A.all fun x => decide (x.op ≠ i)) && decide (ap ≠ i)) = true) : RegA n w0 A F ap G (upd b i true) (upd vs i v) w := by
  rw [Bool.and_eq_true] at hi
  have hA : ∀ x ∈ A, x.op ≠ i := fun x hx => by simpa using List.all_eq_true.1 hi.1 x hx
  have hp : ap ≠ i := by simpa using hi.2
  refine ⟨h.1, ?_, ?_⟩
  · rw [upd_other _ _ _ _ hp]
    intro hb
    refine ⟨fun x hx hbx => ?_, (h.2.1 hb).2⟩
    rw [upd_other _ _ _ _ (hA x hx)] at hbx ⊢
    exact (h.2.1 hb).1 x hx hbx
  · rw [upd_other _ _ _ _ hp, upd_other _ _ _ _ hp]
    intro hb
    refine ⟨(h.2.2 hb).1, fun x hx => ?_⟩
    rw [upd_other _ _ _ _ (hA x hx)]
    exact (h.2.2 hb).2 x hx
theorem RegA.grow (hF : ∀ w w', F w → Below w.heap.size w w' → F w') (hG : ∀ v w w', G v w → Below w.heap.size w w' → G v w') (h : RegA n w0 A F ap G b vs w) (hb : Below w.heap.size w w') : RegA n w0 A F ap G b vs w' :=
  ⟨⟨h.1.1.trans (hb.mono h.1.2), Nat.le_trans h.1.2 hb.size⟩, fun hp => ⟨fun x hx hbx => ((h.2.1 hp).1 x hx hbx).grow hb, hF _ _ (h.2.1 hp).2 hb⟩, fun hp => ⟨hG _ _ _ (h.2.2 hp).1 hb, (h.2.2 hp).2⟩⟩
theorem RegA.made (h : RegA n w0 A F ap G b vs w) (x : Made) (v : Value) (ho : True → Own w n x.t v x.pts) (hA : ∀ y ∈ A, y.op = x.op → y.t = x.t ∧ y.pts = x.pts) (hp : decide (ap ≠ x.op) = true) (hx : x ∈ A) (hun : b x.op = false) : RegA n w0 A F ap G (upd b x.op true) (upd vs x.op v) w := by
  have hp : ap ≠ x.op := by simpa using hp
  refine ⟨h.1, ?_, ?_⟩
  · rw [upd_other _ _ _ _ hp]
    intro hb
    refine ⟨fun y hy hby => ?_, (h.2.1 hb).2⟩
    by_cases e : y.op = x.op
    · have := hA y hy e
      rw [e, upd_same, this.1, this.2]
      exact ho trivial
    · rw [upd_other _ _ _ _ e] at hby ⊢
      exact (h.2.1 hb).1 y hy hby
  · rw [upd_other _ _ _ _ hp]
    intro hb
    rw [(h.2.2 hb).2 x hx] at hun
    cases hun
theorem RegA.row (h : RegA n w0 A F ap G b vs w) (x : Made) (hx : x ∈ A) (hap : b ap = false) (hd : b x.op = true) : Own w n x.t (vs x.op) x.pts := (h.2.1 hap).1 x hx hd
theorem RegA.facts (h : RegA n w0 A F ap G b vs w) (hap : b ap = false) : F w := (h.2.1 hap).2
theorem RegA.appended (h : RegA n w0 A F ap G b vs w) (hun : b ap = false) (v : Value) (hb : Below n w0 w' ∧ n ≤ w'.heap.size) (hg : G v w') (hall : ∀ x ∈ A, b x.op = true) : RegA n w0 A F ap G (upd b ap true) (upd vs ap v) w' := by
  have _ := h
  refine ⟨hb, ?_, ?_⟩
  · rw [upd_same]; intro h; cases h
  · rw [upd_same]
    intro _
    refine ⟨by rw [upd_same]; exact hg, fun x hx => ?_⟩
    have hne : x.op ≠ ap := fun e => by have := hall x hx; rw [e, hun] at this; cases this
    rw [upd_other _ _ _ _ hne]
    exact hall x hx
theorem RegA.done (h : RegA n w0 A F ap G b vs w) (hd : b ap = true) : G (vs ap) w := (h.2.2 hd).1
end
/-- A pair that an operation yields: a row, and no error. -/
def TupF (n : Nat) (T : List Made) (b : Nat → Bool) (vs : Nat → Value) (w : World) : Prop := ∀ x ∈ T, b x.op = true → ∃ r, vs x.op = .tuple #[r, .int .i64 0] ∧ Own w n x.t r x.pts
def RegT (n : Nat) (w0 : World) (A T : List Made) (S : List Stor) (l : BlkL) (b : Nat → Bool) (vs : Nat → Value) (w : World) : Prop := RegM n w0 A S l b vs w ∧ TupF n T b vs w
section
variable {n : Nat} {w0 w w' : World} {A T : List Made} {S : List Stor} {l : BlkL} {b : Nat → Bool} {vs : Nat → Value}
theorem TupF.start (vs : Nat → Value) (w : World) : TupF n T (fun _ => false) vs w := fun _ _ h => Bool.noConfusion h
theorem TupF.grow (h : TupF n T b vs w) (hb : Below w.heap.size w w') : TupF n T b vs w' := fun x hx hbx => by
  obtain ⟨r, e, ho⟩ := h x hx hbx
  exact ⟨r, e, ho.grow hb⟩
theorem TupF.other (h : TupF n T b vs w) (i : Nat) (v : Value) (hi : (T.all fun x => decide (x.op ≠ i)) = true) : TupF n T (upd b i true) (upd vs i v) w := fun x hx hbx => by
  have hT : x.op ≠ i := by simpa using List.all_eq_true.1 hi x hx
  rw [upd_other _ _ _ _ hT] at hbx ⊢
  exact h x hx hbx
theorem TupF.made (h : TupF n T b vs w) (x : Made) (r : Value) (ho : Own w n x.t r x.pts) (hT : ∀ y ∈ T, y.op = x.op → y.t = x.t ∧ y.pts = x.pts) : TupF n T (upd b x.op true) (upd vs x.op (.tuple #[r, .int .i64 0])) w := fun y hy hby => by
  by_cases e : y.op = x.op
  · have := hT y hy e
    refine ⟨r, by rw [e, upd_same], ?_⟩
    rw [this.1, this.2]; exact ho
  · rw [upd_other _ _ _ _ e] at hby ⊢
    exact h y hy hby
theorem TupF.at (h : TupF n T b vs w) (x : Made) (hx : x ∈ T) (hb : b x.op = true) : ∃ r, vs x.op = .tuple #[r, .int .i64 0] ∧ Own w n x.t r x.pts := h x hx hb
theorem RegT.grow (h : RegT n w0 A T S l b vs w) (hb : Below w.heap.size w w') : RegT n w0 A T S l b vs w' := ⟨h.1.grow hb, h.2.grow hb⟩
theorem RegT.other (h : RegT n w0 A T S l b vs w) (i : Nat) (v : Value) (hi : ((A.all fun x => decide (x.op ≠ i)) && S.all fun s => decide (s.st ≠ i)) = true) (hi2 : (T.all fun x => decide (x.op ≠ i)) = true) : RegT n w0 A T S l (upd b i true) (upd vs i v) w := ⟨h.1.other i v hi, h.2.other i v hi2⟩
end
end Go.Proofs.YtbnbglngpgikfaaGreatDoor

