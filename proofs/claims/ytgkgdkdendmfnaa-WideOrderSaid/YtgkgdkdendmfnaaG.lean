/- A region that draws its order and holds calls that make memory: one walk serves every order (Derived/Deep/Quiet.lean's theorem at the class 'Below'). -/
import Derived.Test.YtgkgdkdendmfnaaE
import Derived.BigQuiet
import Derived.Deep.RegionHeld3
namespace Go.Proofs.Ytgkgdkdendmfnaa
open Go.RowKit

section
variable {C : World → Prop} {ops : Array Oper} {Q : Act → Prop} {a : Act} {o : Oper} {rest : List Oper} {K : Act → Prop}
theorem quiet_val (v : Value) (hv : ∀ w, C w → (execOp a.eval o).run Try.prog w = .ok (.value v) w) (hk : K (a.put o.dst v)) : o.quiet Try.prog a C K :=
  ⟨v, fun w hw => by unfold Oper.quietAt; rw [hv w hw]; exact ⟨rfl, rfl⟩, hk⟩
theorem quiet_call (f : FuncId) (args : Array Value) (v : Value) (hv : ∀ w, C w → (execOp a.eval o).run Try.prog w = .ok (.enter f args) w)
    (hc : ∀ w, C w → Calls Try.prog f args w fun e w' => e = .returned v ∧ C w') (hk : K (a.put o.dst v)) : o.quiet Try.prog a C K :=
  ⟨v, fun w hw => by unfold Oper.quietAt; rw [hv w hw]; exact ⟨rfl, hc w hw⟩, hk⟩
/-- A whole row. -/
theorem quiet_row (x : Operand) (g : Nat) (cs : Array Value) (ho : o.op = .load 25 x) (hx : a.eval x = .pointer (some ⟨g, 0, none⟩)) (hs : cs.size = 128) (hc : ∀ w, C w → At w g cs) (hk : K (a.put o.dst (.agg cs))) : o.quiet Try.prog a C K :=
  quiet_val (.agg cs) (fun w hw => by
    unfold execOp
    simp only [ho, hx, Instr.loadAt, Instr.sureAddr, Sem.run_bind, Sem.run_pure, Result.andThen_ok, run_loadVar_row w g 25 25 cs (0, 0) _ (hc w hw) Try.underlying25 rfl (by rw [hs]; exact sizeRow)]) hk
end
theorem run_row (o : Oper) (a : Act) (x : Operand) (g : Nat) (cs : Array Value) (w : World) (ho : o.op = .load 25 x) (hx : a.eval x = .pointer (some ⟨g, 0, none⟩)) (hs : cs.size = 128) (hc : At w g cs) : (execOp a.eval o).run Try.prog w = .ok (.value (.agg cs)) w := by
  unfold execOp
  simp only [ho, hx, Instr.loadAt, Instr.sureAddr, Sem.run_bind, Sem.run_pure, Result.andThen_ok, run_loadVar_row w g 25 25 cs (0, 0) _ hc Try.underlying25 rfl (by rw [hs]; exact sizeRow)]
/-- The class: what has grown out of w0. -/
def Out (w0 : World) (w : World) : Prop := Below w0.heap.size w0 w
theorem Out.next {w0 w w' : World} (h : Out w0 w) (k : Below w.heap.size w w') : Out w0 w' := below_next h k
theorem Out.at {w0 w : World} {g : Nat} {cs : Array Value} (h : Out w0 w) (k : At w0 g cs) : At w g cs := by
  refine At.on k h ?_
  rcases Nat.lt_or_ge g w0.heap.size with hl | hl
  · exact hl
  · unfold At at k; rw [Array.getElem?_eq_none hl] at k; cases k
theorem Calls.out {w0 w : World} {f : FuncId} {args : Array Value} {v : Value} (h : Out w0 w) (hc : Calls Try.prog f args w fun e w' => e = .returned v ∧ Below w.heap.size w w') : Calls Try.prog f args w fun e w' => e = .returned v ∧ Out w0 w' :=
  hc.mono fun _ _ ⟨he, hb⟩ => ⟨he, h.next hb⟩

set_option maxHeartbeats 400000 in
set_option maxRecDepth 100000 in
theorem sub_any (u v : BitVec 128) (w : World) :
    Calls Try.prog 14 #[.agg (row u), .agg (row v)] w fun e w' => e = .returned (.agg (row (sum3 u (~~~v) true))) ∧ Below w.heap.size w w' := by
  have hz := zeroRow
  have HS : Hid ((row (sum3 u (~~~v) true)).size = 128 ∧ (row (sum3 u (~~~v) true)).all (·.oneCell') = true) := ⟨row_size _, row_one _⟩
  have HR : Hid ((row u).size = 128 ∧ (row v).size = 128) := ⟨row_size _, row_size _⟩
  have HC : Hid (∀ w, Calls Try.prog 33 #[.agg (row v)] w fun e w' => e = .returned (.agg (row (~~~v))) ∧ Below w.heap.size w w') := fun w => not_any v w
  have HD : Hid (∀ w, Calls Try.prog 12 #[.agg (row u), .agg (row (~~~v)), .bool true] w fun e w' => e = .returned (.agg (row (sum3 u (~~~v) true))) ∧ Below w.heap.size w w') := fun w => add_any u (~~~v) true w
  generalize row (sum3 u (~~~v) true) = res at *
  generalize row (~~~v) = mid at *
  generalize row u = ru at *
  generalize row v = rv at *
  go_enter Try.func14, Try.ntmps14
  go_wp2_with fail
  obtain ⟨h1, h2, h3, h4⟩ := three w ru rv zeros
  have hsz : w.heap.size + 3 ≤ (((w.alloc (.cells ru 25)).alloc (.cells rv 25)).alloc (.cells zeros 25)).heap.size := by simp
  generalize (((w.alloc (.cells ru 25)).alloc (.cells rv 25)).alloc (.cells zeros 25)) = w0 at *
  clear hz
  refine wp_region_noPanic ?_
  refine wp_region_held_drew (S := fun w' => At w' w.heap.size ru ∧ At w' (w.heap.size + 1) rv) (by kernel_rfl) ⟨h1, h2⟩ (fun hS => ?_)
  refine wpAnyH_take (i := 0) (v := .agg ru) rfl (by kernel_rfl) (by kernel_rfl) (by kernel_rfl) (fun _ _ _ h => h.elim) (.inl ⟨rfl, fun w' hw' => run_row _ _ _ w.heap.size ru w' rfl rfl HR.out.1 hw'.1⟩) hS ?_
  refine wpAnyH_take (i := 1) (v := .agg rv) rfl (by kernel_rfl) (by kernel_rfl) (by kernel_rfl) (fun _ _ _ h => h.elim) (.inl ⟨rfl, fun w' hw' => run_row _ _ _ (w.heap.size + 1) rv w' rfl rfl HR.out.2 hw'.2⟩) hS ?_
  simp only [Act.put, List.getElem_toArray, List.getElem_cons_succ, List.getElem_cons_zero, List.setIfInBounds_toArray, List.set_cons_zero, List.set_cons_succ]
  refine wpAnyH_ready (rs := [2]) (by kernel_rfl) (by simp) (AllReadyH.cons rfl (fun K hK => ?_) AllReadyH.nil)
  simp only [List.getElem_toArray, List.getElem_cons_succ, List.getElem_cons_zero]
  go_simp
  refine (HC.out _).mono ?_
  rintro e w1 ⟨rfl, hb1⟩
  have g1 : At w0.drew w.heap.size ru := h1
  have s0 : w.heap.size + 3 ≤ w0.drew.heap.size := by show w.heap.size + 3 ≤ w0.heap.size; exact hsz
  have a1 : At w1 w.heap.size ru := At.on g1 hb1 (by omega)
  have a2 : At w1 (w.heap.size + 1) rv := At.on (show At w0.drew (w.heap.size + 1) rv from h2) hb1 (by omega)
  have a3 : At w1 (w.heap.size + 2) zeros := At.on (show At w0.drew (w.heap.size + 2) zeros from h3) hb1 (by omega)
  have b1 : Below w.heap.size w w1 := h4.drew.trans (hb1.mono (by omega))
  have s1 : w.heap.size + 3 ≤ w1.heap.size := Nat.le_trans s0 hb1.size
  refine hK.out _ _ ⟨a1, a2⟩ (fun hS => ?_)
  refine wpAnyH_ready (rs := [3]) (by kernel_rfl) (by simp) (AllReadyH.cons rfl (fun K hK => ?_) AllReadyH.nil)
  simp only [List.getElem_toArray, List.getElem_cons_succ, List.getElem_cons_zero]
  clear hb1 g1 s0 h1 h2 h3 h4
  go_simp
  refine (HD.out _).mono ?_
  rintro e w2 ⟨rfl, hb2⟩
  have c1 : At w2 w.heap.size ru := At.on a1 hb2 (by omega)
  have c2 : At w2 (w.heap.size + 1) rv := At.on a2 hb2 (by omega)
  have c3 : At w2 (w.heap.size + 2) zeros := At.on a3 hb2 (by omega)
  have b2 : Below w.heap.size w w2 := below_next b1 hb2
  refine hK.out _ _ ⟨c1, c2⟩ (fun hS => ?_)
  refine wpAnyH_ready (rs := [4]) (by kernel_rfl) (by simp) (AllReadyH.cons rfl (fun K hK => ?_) AllReadyH.nil)
  simp only [List.getElem_toArray, List.getElem_cons_succ, List.getElem_cons_zero]
  refine (if_pos rfl).mpr (wp_store_row 25 _ _ rfl (w.heap.size + 2) res rfl rfl 25 zeros c3 (by rw [HS.out.1]; exact sizeRow) (by rw [HS.out.1, zeros_size]) HS.out.2 ?_)
  have d3 : At (w2.setRow (w.heap.size + 2) res) (w.heap.size + 2) res := setRow_heap _ _ _ _ _ _ c3
  refine hK.out _ _ ⟨?_, ?_⟩ (fun hS => ?_)
  · unfold At; rw [setRow_other _ _ _ _ (by omega)]; exact c1
  · unfold At; rw [setRow_other _ _ _ _ (by omega)]; exact c2
  refine wpAnyH_done (by kernel_rfl) ?_ _
  refine NoPanic.normal ?_
  have D3 := Lib.hid d3; have B2 := Lib.hid b2
  clear c1 c2 c3 d3 b2 b1 a1 a2 a3
  go_wp2_with fail
  refine bodyPost_ret (v := .agg res) (results_cell_row rfl _ _ (w.heap.size + 2) 25 res (0, 0) _ rfl D3.out Try.underlying25 rfl (by rw [HS.out.1]; exact sizeRow)) rfl ⟨rfl, below_setRow B2.out (by omega) _⟩
end Go.Proofs.Ytgkgdkdendmfnaa
