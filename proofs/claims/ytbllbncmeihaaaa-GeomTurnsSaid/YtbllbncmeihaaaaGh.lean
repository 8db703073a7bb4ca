/- geom.Winds. -/
import Derived.Test.YtbllbncmeihaaaaGf
namespace Go.Proofs.Ytbllbncmeihaaaa
open Go.RowKit
abbrev Pt := Int × Int
/-- What an edge counts, of points. -/
def cntP (p q s : Pt) : Int := cnt p.1 p.2 q.1 q.2 s.1 s.2
def wstep (s : Pt) (st : Pt × Int) (q : Pt) : Pt × Int := (q, st.2 + cntP st.1 q s)
theorem cntP_bound (p q s : Pt) : -1 ≤ cntP p q s ∧ cntP p q s ≤ 1 := by
  unfold cntP cnt; (repeat' split) <;> omega
theorem wfold_bound (s : Pt) (l : List Pt) : ∀ st : Pt × Int, st.2 - l.length ≤ (l.foldl (wstep s) st).2 ∧ (l.foldl (wstep s) st).2 ≤ st.2 + l.length := by
  induction l with
  | nil => intro st; simp
  | cons q l ih =>
    intro st
    have h := ih (wstep s st q)
    have hb := cntP_bound st.1 q s
    simp only [List.foldl_cons, List.length_cons]
    unfold wstep at h ⊢
    simp only at h
    omega
theorem wfold_room (s : Pt) (l : List Pt) (hl : l.all roomP = true) : ∀ st : Pt × Int, roomP st.1 = true → roomP (l.foldl (wstep s) st).1 = true := by
  induction l with
  | nil => intro st h; exact h
  | cons q l ih =>
    intro st h
    simp only [List.all_cons, Bool.and_eq_true] at hl
    exact ih hl.2 _ hl.1
/-- How often a polygon goes round a point. -/
def windsI (l : List Pt) (s : Pt) : Int := match l.getLast? with
  | none => 0
  | some p => (l.foldl (wstep s) (p, 0)).2
theorem take_fold {α β : Type} (f : β → α → β) (l : List α) (k : Nat) (q : α) (h : l[k]? = some q) (st : β) : (l.take (k + 1)).foldl f st = f ((l.take k).foldl f st) q := by
  rw [List.take_add_one, h]; simp
theorem PtAt.stored {w : World} {g : Nat} {x y : Int} (h : PtAt w g x y) (a b : Int) : PtAt ((w.setCell ⟨g, 0, none⟩ (.int .i64 a)).setCell ⟨g, 1, none⟩ (.int .i64 b)) g a b := by
  unfold PtAt at *
  exact Joins.block_setCell (Joins.block_setCell h (.int .i64 a)) (.int .i64 b)
theorem PtAt.other {w : World} {g : Nat} {x y : Int} (h : PtAt w g x y) (a : Addr) (v : Value) (hne : g ≠ a.block) : PtAt (w.setCell a v) g x y := by
  unfold PtAt; rw [Below.heap_setCell _ _ _ _ hne]; exact h
theorem PtAt.lt {w : World} {g : Nat} {x y : Int} (h : PtAt w g x y) : g < w.heap.size := by
  unfold PtAt at h
  exact (Array.getElem?_eq_some_iff.1 h).1
theorem PtAt.alloc {w : World} {g : Nat} {x y : Int} (h : PtAt w g x y) (o : Obj) : PtAt (w.alloc o) g x y := by
  have := h.lt
  unfold PtAt; rw [heap_alloc_old _ _ this]; exact h
theorem PtAt.new (w : World) (x y : Int) : PtAt (w.alloc (.cells #[.int .i64 x, .int .i64 y] 23)) w.heap.size x y := heap_alloc_new _ _
set_option maxHeartbeats 400000 in
theorem winds_nil (sx sy : Int) (w : World) : Calls Try.prog 15 #[.slice none 0 0, .agg #[.int .i64 sx, .int .i64 sy]] w fun e w' => e = .returned (.int .i64 0) ∧ Below w.heap.size w w' := by
  go_enter Try.func15, Try.ntmps15
  go_wp2_with fail
  go_ret
  exact ⟨rfl, by go_grown⟩
set_option maxHeartbeats 400000 in
theorem winds_none (a : Addr) (c : Nat) (sx sy : Int) (w : World) : Calls Try.prog 15 #[.slice (some a) 0 c, .agg #[.int .i64 sx, .int .i64 sy]] w fun e w' => e = .returned (.int .i64 0) ∧ Below w.heap.size w w' := by
  go_enter Try.func15, Try.ntmps15
  go_wp2_with fail
  go_ret
  exact ⟨rfl, by go_grown⟩
/-- What the loop keeps. -/
structure WRel (w wr : World) (g : Nat) (s p : Pt) : Prop where
  ps : PtAt wr w.heap.size s.1 s.2
  pg : PtAt wr g p.1 p.2
  hg : w.heap.size < g
  hb : Below w.heap.size w wr
set_option maxHeartbeats 1000000 in
set_option maxRecDepth 100000 in
theorem winds_some (w : World) (b o c : Nat) (l : List Pt) (z : Pt) (sx sy : Int) (hl : l.length ≤ 1000) (hz : l.getLast? = some z) (hb : b < w.heap.size) (hp : PtsAt w b o l) (hr : l.all roomP = true) (hs : roomP (sx, sy) = true) :
    Calls Try.prog 15 #[.slice (some ⟨b, o, none⟩) l.length c, .agg #[.int .i64 sx, .int .i64 sy]] w fun e w' => e = .returned (.int .i64 (l.foldl (wstep (sx, sy)) (z, 0)).2) ∧ Below w.heap.size w w' := by
  have hpos : 0 < l.length := by cases l with | nil => cases hz | cons => simp
  have hlast : l[l.length - 1]? = some z := by rw [← List.getLast?_eq_getElem?]; exact hz
  have hzr : roomP z = true := List.all_eq_true.1 hr z (List.mem_of_getLast? hz)
  obtain ⟨n, hn⟩ : ∃ n, l.length = n := ⟨_, rfl⟩
  rw [hn] at hl hpos hlast ⊢
  have HP := Lib.hid hp
  have HB := Lib.hid hb
  have HN := Lib.hid hn
  have HR := Lib.hid hr
  have HS := Lib.hid hs
  have HZ := Lib.hid hzr
  obtain ⟨zx, zy⟩ := z
  obtain ⟨k0, k1⟩ := (hp.on (w' := w.alloc (.cells #[.int .i64 sx, .int .i64 sy] 23)) (B := w.heap.size) ((Below.refl _ _).alloc (Nat.le_refl _) _) hb) (n - 1) (zx, zy) hlast
  have HC := Lib.hid (fun (px py qx qy : Int) (w : World) (h : room px = true ∧ room py = true ∧ room qx = true ∧ room qy = true ∧ room sx = true ∧ room sy = true) => counts_c px py qx qy sx sy w h)
  clear hp hb hn hr hs hzr hz hlast
  simp only at k0 k1
  have z0 : ((n : Int) == 0) = false := by simp; omega
  go_enter Try.func15, Try.ntmps15
  go_wp2_with fail
  go_loopw [5, 20] (fun t i wr => ∃ (k : Nat) (x y v : Int), k ≤ n ∧ i = .int .i64 k ∧ t = .int .i64 v ∧ -(k : Int) ≤ v ∧ v ≤ k ∧ Hid ((l.take k).foldl (wstep (sx, sy)) ((zx, zy), 0) = ((x, y), v)) ∧ Hid (WRel w wr (w.heap.size + 1) (sx, sy) (x, y))) (fun _ i _ => n - (intOf i).toNat)
  case atStart =>
    refine ⟨0, zx, zy, 0, by omega, rfl, rfl, by omega, by omega, by simp [Hid], ?_⟩
    exact ⟨(PtAt.new _ _ _).alloc _, heap_alloc2_new _ _ _, by omega, ((Below.refl _ _).alloc (Nat.le_refl _) _).alloc (by simp) _⟩
  case round =>
    obtain ⟨k, x, y, v, hk, rfl, rfl, hv1, hv2, hf, hw⟩ := hrel
    by_cases hlt : k < n
    · have hd : decide ((k : Int) < (n : Int)) = true := by simp; omega
      obtain ⟨⟨qx, qy⟩, hq⟩ : ∃ p, l[k]? = some p := ⟨_, List.getElem?_eq_getElem (by rw [HN.out]; exact hlt)⟩
      obtain ⟨c0, c1⟩ := (HP.out.on hw.out.hb HB.out) k (qx, qy) hq
      have hqr : roomP (qx, qy) = true := List.all_eq_true.1 HR.out _ (List.mem_of_getElem? hq)
      have hpr : roomP (x, y) = true := by
        have := wfold_room (sx, sy) (l.take k) (by rw [List.all_eq_true]; exact fun a ha => List.all_eq_true.1 HR.out a (List.mem_of_mem_take ha)) ((zx, zy), 0) HZ.out
        rw [hf.out] at this; exact this
      have hnext : (l.take (k + 1)).foldl (wstep (sx, sy)) ((zx, zy), 0) = ((qx, qy), v + cnt x y qx qy sx sy) := by
        rw [take_fold _ _ _ _ hq, hf.out]; rfl
      have hcb := cntP_bound (x, y) (qx, qy) (sx, sy)
      have HF := Lib.hid hnext
      have hrr : room x = true ∧ room y = true ∧ room qx = true ∧ room qy = true ∧ room sx = true ∧ room sy = true := by
        have := HS.out
        simp only [roomP, Bool.and_eq_true] at hqr hpr this
        exact ⟨hpr.1, hpr.2, hqr.1, hqr.2, this.1, this.2⟩
      have HCC := Lib.hid (fun w => HC.out x y qx qy w hrr)
      have d0 := hw.out.ps.c0
      have d1 := hw.out.ps.c1
      have d2 := hw.out.pg.c0
      have d3 := hw.out.pg.c1
      have ls := hw.out.ps.lt
      have lg := hw.out.pg.lt
      simp only [cntP] at hcb
      generalize cnt x y qx qy sx sy = e0 at *
      simp only at c0 c1 d0 d1 d2 d3
      clear hq hqr hpr hnext hrr
      go_wp2_with fail
      refine (HCC.out _).mono ?_
      rintro e w1 ⟨rfl, hb1⟩
      have gq : PtAt w1 wr.heap.size qx qy := (PtAt.new wr qx qy).on hb1 (by simp)
      have gs : PtAt w1 w.heap.size sx sy := (hw.out.ps.alloc _).on hb1 (by simpa using by omega)
      have gg : PtAt w1 (w.heap.size + 1) x y := (hw.out.pg.alloc _).on hb1 (by simpa using by omega)
      have B1 : Hid (Below w.heap.size w w1) := (hw.out.hb.alloc hw.out.hb.size _).trans (hb1.mono (by have := hw.out.hb.size; simp; omega))
      have r0 := gq.c0
      have r1 := gq.c1
      have r2 := gg.c0
      have r3 := gg.c1
      have r4 := gg.free 0
      have r5 := gg.free 1
      have G1 := Lib.hid gs; have G2 := Lib.hid gg
      clear gq gs gg hb1
      go_wp2_with fail
      refine ⟨⟨k + 1, qx, qy, v + e0, by omega, by go_num, by go_num, by omega, by omega, HF, ?_⟩, by simp [intOf]; omega⟩
      exact ⟨(G1.out.other _ _ (by simp)).other _ _ (by simp), G2.out.stored qx qy, by omega, (B1.out.setCell (by simp) _).setCell (by simp) _⟩
    · have hd : decide ((k : Int) < (n : Int)) = false := by simp; omega
      have hkn : Hid (k = n) := by unfold Hid; omega
      have hv : Hid ((l.foldl (wstep (sx, sy)) ((zx, zy), 0)).2 = v) := by
        have := hf.out
        rw [hkn.out, ← HN.out, List.take_length] at this
        unfold Hid; rw [this]
      go_wp2_with fail
      go_ret
      exact ⟨retI hv.out.symm, hw.out.hb⟩
theorem winds_c (s : Value) (l : List Pt) (x y : Int) (w : World) (hl : l.length ≤ 1000) (h : Row w s l) (hr : l.all roomP = true) (hs : roomP (x, y) = true) :
    Calls Try.prog 15 #[s, .agg #[.int .i64 x, .int .i64 y]] w fun e w' => e = .returned (.int .i64 (windsI l (x, y))) ∧ Below w.heap.size w w' := by
  rcases h with ⟨rfl, rfl⟩ | ⟨a, c, rfl, rfl⟩ | ⟨b, o, c, rfl, hb, hp⟩
  · exact winds_nil x y w
  · exact winds_none a c x y w
  · cases hz : l.getLast? with
    | none =>
      obtain rfl : l = [] := by simpa using hz
      exact winds_none ⟨b, o, none⟩ c x y w
    | some z =>
      have e : windsI l (x, y) = (l.foldl (wstep (x, y)) (z, 0)).2 := by unfold windsI; rw [hz]
      rw [e]
      exact winds_some w b o c l z x y hl hz hb hp hr hs
end Go.Proofs.Ytbllbncmeihaaaa
