/- Layer 4: corners. -/
import Derived.Test.YticoklfgmflidaaDoorAk
import Derived.Test.YticoklfgmflidaaDoorM
namespace Go.Proofs.YticoklfgmflidaaDoor
open Go.RowKit

abbrev eight (a b c d e f g h : Int) : Array Value := #[.int .i64 a, .int .i64 b, .int .i64 c, .int .i64 d, .int .i64 e, .int .i64 f, .int .i64 g, .int .i64 h]
theorem Blk.put {w : World} {g : Nat} {t : TypeId} {cs : Array Value} (h : Blk w g t cs) (i : Nat) (v : Value) (cs' : Array Value) (e : cs.setIfInBounds i v = cs') : Blk (w.setCell ⟨g, i, none⟩ v) g t cs' := e ▸ h.set i v
theorem Blk.set8 {w : World} {g : Nat} {t : TypeId} {z0 z1 z2 z3 z4 z5 z6 z7 : Int} (h : Blk w g t (eight z0 z1 z2 z3 z4 z5 z6 z7)) (a b c d e f i j : Int) :
    Blk ((((((((w.setCell ⟨g, 0, none⟩ (.int .i64 a)).setCell ⟨g, 1, none⟩ (.int .i64 b)).setCell ⟨g, 2, none⟩ (.int .i64 c)).setCell ⟨g, 3, none⟩ (.int .i64 d)).setCell ⟨g, 4, none⟩ (.int .i64 e)).setCell ⟨g, 5, none⟩ (.int .i64 f)).setCell ⟨g, 6, none⟩ (.int .i64 i)).setCell ⟨g, 7, none⟩ (.int .i64 j)) g t (eight a b c d e f i j) :=
  ((((((((h.put 0 _ (eight a z1 z2 z3 z4 z5 z6 z7) rfl).put 1 _ (eight a b z2 z3 z4 z5 z6 z7) rfl).put 2 _ (eight a b c z3 z4 z5 z6 z7) rfl).put 3 _ (eight a b c d z4 z5 z6 z7) rfl).put 4 _ (eight a b c d e z5 z6 z7) rfl).put 5 _ (eight a b c d e f z6 z7) rfl).put 6 _ (eight a b c d e f i z7) rfl).put 7 _ (eight a b c d e f i j) rfl)
theorem below_eight {w w' : World} {B g : Nat} (h : Below B w w') (hg : B ≤ g) (a b c d e f i j : Value) : Below B w ((((((((w'.setCell ⟨g, 0, none⟩ a).setCell ⟨g, 1, none⟩ b).setCell ⟨g, 2, none⟩ c).setCell ⟨g, 3, none⟩ d).setCell ⟨g, 4, none⟩ e).setCell ⟨g, 5, none⟩ f).setCell ⟨g, 6, none⟩ i).setCell ⟨g, 7, none⟩ j) :=
  (((((((h.setCell hg _).setCell hg _).setCell hg _).setCell hg _).setCell hg _).setCell hg _).setCell hg _).setCell hg _
theorem results_eight {fn : Func} {tmps : Array Value} {w : World} {g : Nat} {a b c d e f i j : Int} (t : Nat) (hres : fn.results = #[.cell t 75]) (ht : tmps[t]? = some (.pointer (some ⟨g, 0, none⟩))) (h : Blk w g 75 (eight a b c d e f i j)) :
    (results fn tmps).run Tryd.prog w = .ok (.agg (eight a b c d e f i j)) w := by
  have h0 : w.cell? ⟨g, 0, none⟩ = some (.int .i64 a) := h.cell 0
  have h1 : w.cell? ⟨g, 1, none⟩ = some (.int .i64 b) := h.cell 1
  have h2 : w.cell? ⟨g, 2, none⟩ = some (.int .i64 c) := h.cell 2
  have h3 : w.cell? ⟨g, 3, none⟩ = some (.int .i64 d) := h.cell 3
  have h4 : w.cell? ⟨g, 4, none⟩ = some (.int .i64 e) := h.cell 4
  have h5 : w.cell? ⟨g, 5, none⟩ = some (.int .i64 f) := h.cell 5
  have h6 : w.cell? ⟨g, 6, none⟩ = some (.int .i64 i) := h.cell 6
  have h7 : w.cell? ⟨g, 7, none⟩ = some (.int .i64 j) := h.cell 7
  simp [results, hres, ht, go_sem, h0, h1, h2, h3, h4, h5, h6, h7]
set_option maxHeartbeats 1000000 in
set_option maxRecDepth 100000 in
theorem corners_c (b : Bx) (w : World) (h0 : b.x0 < b.x1) (h1 : b.y0 < b.y1) (i0 : I64 b.x0) (i1 : I64 b.y0) (i2 : I64 b.x1) (i3 : I64 b.y1) :
    Calls Tryd.prog 37 #[.agg (four b)] w fun e w' => e = .returned (.agg (eight b.x0 b.y0 (b.x1 - 1) b.y0 b.x0 (b.y1 - 1) (b.x1 - 1) (b.y1 - 1))) ∧ Below w.heap.size w w' := by
  unfold I64 at i0 i1 i2 i3
  have e1 : wrap64 (b.x1 - 1) = b.x1 - 1 := by unfold wrap64; omega
  have e2 : wrap64 (b.y1 - 1) = b.y1 - 1 := by unfold wrap64; omega
  have HS := fun k => Lib.hid ((((Mem.refl w).add 54 (four b)).addAt 75 (eight 0 0 0 0 0 0 0 0) (w.heap.size + 1) (by simp)).drewN k)
  clear h0 h1 i0 i1 i2 i3
  obtain ⟨n, hn⟩ : ∃ n, w.heap.size = n := ⟨_, rfl⟩
  rw [hn] at HS
  go_enter Tryd.func37, Tryd.ntmps37
  go_wp2_with fail
  go_quiet (fail)
  have S := HS nq
  clear HS
  generalize World.drewN _ nq = W at S ⊢
  have z0 : W.cell? ⟨n + 1, 0, none⟩ = some (.int .i64 0) := S.out.lays.1.cell 0
  have z1 : W.cell? ⟨n + 1, 1, none⟩ = some (.int .i64 0) := S.out.lays.1.cell 1
  have z2 : W.cell? ⟨n + 1, 2, none⟩ = some (.int .i64 0) := S.out.lays.1.cell 2
  have z3 : W.cell? ⟨n + 1, 3, none⟩ = some (.int .i64 0) := S.out.lays.1.cell 3
  have z4 : W.cell? ⟨n + 1, 4, none⟩ = some (.int .i64 0) := S.out.lays.1.cell 4
  have z5 : W.cell? ⟨n + 1, 5, none⟩ = some (.int .i64 0) := S.out.lays.1.cell 5
  have z6 : W.cell? ⟨n + 1, 6, none⟩ = some (.int .i64 0) := S.out.lays.1.cell 6
  have z7 : W.cell? ⟨n + 1, 7, none⟩ = some (.int .i64 0) := S.out.lays.1.cell 7
  have f0 := S.out.lays.1.free 0
  have f1 := S.out.lays.1.free 1
  have f2 := S.out.lays.1.free 2
  have f3 := S.out.lays.1.free 3
  have f4 := S.out.lays.1.free 4
  have f5 := S.out.lays.1.free 5
  have f6 := S.out.lays.1.free 6
  have f7 := S.out.lays.1.free 7
  have b0 := S.out.lays.2.1.b0
  have b1 := S.out.lays.2.1.b1
  go_wp2_with fail
  exact bodyPost_ret (results_eight 2 rfl rfl (S.out.lays.1.set8 _ _ _ _ _ _ _ _)) rfl ⟨rfl, below_eight (B := n) (g := n + 1) (hn ▸ S.out.below) (by omega) _ _ _ _ _ _ _ _⟩
end Go.Proofs.YticoklfgmflidaaDoor
