/- Layer 11: package image's Parse: bytes that are too few; memory. -/
import Derived.Test.YtoppmlfibllhlaaRu
import Derived.Test.YtoppmlfibllhlaaRt
import Derived.Test.YtoppmlfibllhlaaRv
import Derived.Test.YtoppmlfibllhlaaRo
namespace Go.Proofs.Ytoppmlfibllhlaa
open Go.RowKit Go.Shelf
attribute [local go_sem] Oper.semAt_some
theorem results_imC {fn : Func} {tmps : Array Value} {w : World} {g h : Nat} {x y z v : Value} (hres : fn.results = #[.cell 2 24, .cell 3 35]) (ha : tmps[2]? = some (.pointer (some ⟨g, 0, none⟩))) (hb : tmps[3]? = some (.pointer (some ⟨h, 0, none⟩))) (hg : Blk w g 24 #[x, y, z]) (hh : Blk w h 35 #[v]) {vi xi yi : Int} (hi : v = .int .i64 vi) (hx : x = .int .i64 xi) (hy : y = .int .i64 yi) (hz : ∃ a n c, z = .slice a n c) :
    (results fn tmps).run Try.prog w = .ok (.tuple #[.agg #[x, y, z], v]) w := by
  subst hi hx hy
  obtain ⟨a, n, c, rfl⟩ := hz
  have h0 : w.cell? ⟨g, 0, none⟩ = some (.int .i64 xi) := hg.cell 0
  have h1 : w.cell? ⟨g, 1, none⟩ = some (.int .i64 yi) := hg.cell 1
  have h2 : w.cell? ⟨g, 2, none⟩ = some (.slice a n c) := hg.cell 2
  have h3 : w.cell? ⟨h, 0, none⟩ = some (.int .i64 vi) := hh.cell 0
  simp [results, hres, ha, hb, go_sem, h0, h1, h2, h3]
set_option maxHeartbeats 4000000 in
set_option maxRecDepth 100000 in
theorem parse_s (s : Value) (E : List Int) (w : World) (row : RowB w s E) (h : E.length < 2) : Calls Try.prog 27 #[s] w fun e w' => ToldIm w 0 0 [] 20 e w' := by
  obtain ⟨ao, c, rfl⟩ := row.shape
  obtain ⟨n, hn⟩ : ∃ n, E.length = n := ⟨_, rfl⟩
  rw [hn] at h ⊢
  have hd : decide ((n : Int) < 2) = true := by simp; omega
  clear row hn h
  go_enter Try.func27, Try.ntmps27
  go_upto_region 1 with fail
  obtain ⟨w1, hw1⟩ : ∃ WW, (w.alloc (.cells #[.int .i64 0, .int .i64 0, .slice none 0 0] 24)).alloc (.cells #[.int .i64 0] 35) = WW := ⟨_, rfl⟩
  have P1 : Hid (Below w.heap.size w w1 ∧ Blk w1 w.heap.size 24 #[.int .i64 0, .int .i64 0, .slice none 0 0] ∧ Blk w1 (w.heap.size + 1) 35 #[.int .i64 0]) := by
    rw [← hw1]
    exact ⟨((Below.refl _ _).alloc (Nat.le_refl _) _).alloc (by simp) _, (Blk.new _ _ _).alloc _, Blk.newAt _ _ _ (by simp)⟩
  rw [hw1]
  clear hw1
  have z0 : w1.cell? ⟨w.heap.size, 0, none⟩ = some (.int .i64 0) := P1.out.2.1.cell 0
  have z1 : w1.cell? ⟨w.heap.size, 1, none⟩ = some (.int .i64 0) := P1.out.2.1.cell 1
  have z2 : w1.cell? ⟨w.heap.size, 2, none⟩ = some (.slice none 0 0) := P1.out.2.1.cell 2
  have zf0 := P1.out.2.1.free 0
  have zf1 := P1.out.2.1.free 1
  have zf2 := P1.out.2.1.free 2
  have zlg := P1.out.2.1.lt
  have y0 : w1.cell? ⟨w.heap.size + 1, 0, none⟩ = some (.int .i64 0) := P1.out.2.2.cell 0
  have yf0 := P1.out.2.2.free 0
  have ylg := P1.out.2.2.lt
  go_wp2_with fail
  refine bodyPost_ret (results_imC rfl rfl rfl ((P1.out.2.1.set3 _ _ _).other _ _ (by simp)) ((P1.out.2.2.other3 (by omega) _ _ _).put 0 _ _ rfl) rfl rfl rfl ⟨_, _, _, rfl⟩) rfl ⟨_, rfl, .inl ⟨rfl, rfl⟩, (below_three P1.out.1 (Nat.le_refl _) _ _ _).setCell (by simp) _⟩
/-- The image as it is read: its block, the row of its own, what stays. -/
structure PaS (N gm : Nat) (S : Nat → Prop) (w3 : World) (W H : Int) (u : Value) (P : List Col) (A : World) : Prop where
  blk : Blk A gm 24 #[.int .i64 W, .int .i64 H, u]
  row : OwnK .u8 A (N + 2) 28 u P
  keep : Keep S w3 A
theorem PaS.ne {N gm : Nat} {S : Nat → Prop} {w3 A : World} {W H : Int} {u : Value} {P : List Col} (h : PaS N gm S w3 W H u P A) : ∀ k, u.ownBlock = some k → N + 2 ≤ k := fun k hk => (World.ownsRow.lt h.row k hk).1
theorem PaS.mv {N gm : Nat} {S T : Nat → Prop} {w3 A B : World} {W H : Int} {u : Value} {P : List Col} (h : PaS N gm S w3 W H u P A) (hk : Keep T A B) (h1 : T gm) (h2 : ∀ k, N + 2 ≤ k → T k) (h3 : ∀ k, S k → T k) : PaS N gm S w3 W H u P B :=
  ⟨hk.blk h.blk h1, h.row.keep hk (fun k e => h2 k (h.ne k e)), h.keep.trans (hk.mono h3)⟩
theorem PaS.step {N gm : Nat} {S : Nat → Prop} {w3 A B : World} {W H : Int} {u : Value} {P : List Col} (h : PaS N gm S w3 W H u P A) (hb : Below A.heap.size A B) : PaS N gm S w3 W H u P B :=
  h.mv (T := fun _ => True) (Keep.of_below hb) trivial (fun _ _ => trivial) (fun _ _ => trivial)
theorem PaS.var {N gm : Nat} {S : Nat → Prop} {w3 A B : World} {W H : Int} {u : Value} {P : List Col} (h : PaS N gm S w3 W H u P A) (hg : A.grownBy B u.ownBlock) (hN : gm < N) : Blk B gm 24 #[.int .i64 W, .int .i64 H, u] :=
  (Keep.of_grown hg).blk h.blk (fun e => by have := h.ne gm e; omega)
theorem PaS.app {N gm : Nat} {S : Nat → Prop} {w3 A B : World} {W H : Int} {u u' : Value} {P P' : List Col} (h : PaS N gm S w3 W H u P A) (ho : OwnK .u8 B (N + 2) 28 u' P') (hg : A.grownBy B u.ownBlock) (hN : gm < N) (hS : ∀ k, S k → k < N + 2 ∧ k ≠ gm) : PaS N gm S w3 W H u' P' (B.setCell ⟨gm, 2, none⟩ u') :=
  ⟨(h.var hg hN).put 2 _ _ rfl, ho.keep (S := fun k => k ≠ gm) (Keep.setCell _ _ _ (fun e => e rfl)) (fun k hk e => by have := (World.ownsRow.lt ho k hk).1; omega),
   (h.keep.trans ((Keep.of_grown hg).mono fun k hk e => by have := h.ne k e; have := hS k hk; omega)).trans (Keep.setCell _ _ _ (fun e => (hS _ e).2 rfl))⟩
theorem col_new (w : World) (co : Col) : ColAt .u8 (w.alloc (.cells #[.int .u8 (co 0), .int .u8 (co 1), .int .u8 (co 2), .int .u8 (co 3)] 28)) w.heap.size 0 co := by
  have h : Blk (w.alloc (.cells #[.int .u8 (co 0), .int .u8 (co 1), .int .u8 (co 2), .int .u8 (co 3)] 28)) w.heap.size 28 #[.int .u8 (co 0), .int .u8 (co 1), .int .u8 (co 2), .int .u8 (co 3)] := Blk.new _ _ _
  exact ⟨h.cell 0, h.cell 1, h.cell 2, h.cell 3⟩
/-- An append of colours inside a round. -/
theorem wpIn_app_cols {F : Fence} {nF : Nat} {o : Oper} {a : Act} {w : World} {K : Act → World → Prop} {Q : Exit → Act → World → Prop} (s x : Operand) (t T : TypeId)
    (ho : o.op = .call { callee := .builtin .append, args := #[s, x], argTypes := #[t, t] }) (ht : Try.prog.underlying t = some (.slice T)) (hT : (Try.prog.info? T).map (fun i => (i.zero, i.size, i.bytes)) = some (some (.agg #[.int .u8 0, .int .u8 0, .int .u8 0, .int .u8 0]), 4, 4))
    (base : Nat) (v : Value) (X Y : List Col) (hs : a.eval s = v) (hown : OwnK .u8 w base T v X) (b q n c : Nat) (hn : Y.length = n) (hxe : a.eval x = .slice (some ⟨b, q, none⟩) n c) (hY : ColsAt .u8 w b q Y) (hl : X.length + Y.length ≤ 100000) (hbase : base ≤ w.heap.size)
    (h : ∀ v' w', OwnK .u8 w' base T v' (X ++ Y) → w.grownBy w' v.ownBlock → Moved w v v' → K (a.put o.dst v') w') : o.wpIn F nF Try.prog a w K Q := by
  obtain ⟨v', w', hr, h2, h3, h4⟩ := run_append_cols w t o.type T ht hT base v X Y hown b q n c hn hY hl hbase
  unfold Oper.wpIn
  refine ⟨by simp [Oper.about, ho, resolve, Target.leads, Sem.run_pure], ?_⟩
  rw [Oper.semAt_plain F _ _ (by rw [ho]; intro c hc'; cases hc')]
  simp [execOp, ho, resolve, invoke, builtin, hs, hxe, hr, Result.andThen]
  exact h v' w' h2 h3 h4
end Go.Proofs.Ytoppmlfibllhlaa
