/- Layer 8: what an edge adds to the numbers of a field. -/
import Derived.Test.YtopngjpgikpmaaaCe
import Derived.Test.YtopngjpgikpmaaaCd
import Derived.BigQuiet
namespace Go.Proofs.Ytopngjpgikpmaaa
open Go.RowKit
theorem samples_b (n first : Int) (many : Nat) (w : World) (h1 : -1099511627776 ≤ n ∧ n ≤ 1099511627776) (h3 : -1099511627776 ≤ first ∧ first ≤ 1099511627776) :
    Calls Try.prog 57 #[.int .i64 n, .int .i64 first, .int .i64 (many : Int)] w fun e w' => e = .returned (.int .i64 (belowI n first many : Nat)) ∧ Below w.heap.size w w' :=
  (samples_c n first many w h1.1 h1.2 h3.1 h3.2).mono fun _ _ ⟨he, hw⟩ => ⟨he, hw ▸ Below.refl _ _⟩
/-- What an edge's call has at hand. -/
structure EdgeM (W : World) (n0 g h : Nat) (fx fy : Int) (cols rows N : Nat) (ax ay qx qy : Int) (L : List Int) : Prop where
  k : FieldAt W g h fx fy cols rows N L
  a : Blk W n0 39 (two (ax, ay))
  q : Blk W (n0 + 1) 39 (two (qx, qy))
section
variable {W W' : World} {n0 g h : Nat} {fx fy : Int} {cols rows N : Nat} {ax ay qx qy : Int} {L : List Int}
theorem EdgeM.grow (k : EdgeM W n0 g h fx fy cols rows N ax ay qx qy L) (hb : Below W.heap.size W W') : EdgeM W' n0 g h fx fy cols rows N ax ay qx qy L := ⟨k.k.grow hb, k.a.grow hb, k.q.grow hb⟩
theorem EdgeM.fax (k : EdgeM W n0 g h fx fy cols rows N ax ay qx qy L) : W.cell? ⟨n0, 0, none⟩ = some (.int .i64 ax) := k.a.cell 0
theorem EdgeM.fay (k : EdgeM W n0 g h fx fy cols rows N ax ay qx qy L) : W.cell? ⟨n0, 1, none⟩ = some (.int .i64 ay) := k.a.cell 1
theorem EdgeM.fqx (k : EdgeM W n0 g h fx fy cols rows N ax ay qx qy L) : W.cell? ⟨n0 + 1, 0, none⟩ = some (.int .i64 qx) := k.q.cell 0
theorem EdgeM.fqy (k : EdgeM W n0 g h fx fy cols rows N ax ay qx qy L) : W.cell? ⟨n0 + 1, 1, none⟩ = some (.int .i64 qy) := k.q.cell 1
end
/-- The sample of a field. -/
def sampF (fx fy : Int) (r k : Nat) : Pt := (fx + 64 * (k : Int), fy + 64 * (r : Int))
set_option maxHeartbeats 8000000 in
set_option maxRecDepth 100000 in
theorem edge_walk (g h : Nat) (fx fy : Int) (cols rows N lo hi E : Nat) (L : List Int) (ax ay qx qy n : Int) (w : World) (hF : FieldAt w g h fx fy cols rows N L) (hg : g < w.heap.size) (hh : h < w.heap.size)
    (hfx : -2147483648 ≤ fx ∧ fx ≤ 2147483648) (hfy : -2147483648 ≤ fy ∧ fy ≤ 2147483648) (hay : -2147483648 ≤ ay ∧ ay ≤ 2147483648) (hqy : -2147483648 ≤ qy ∧ qy ≤ 2147483648) (hax : -2147483648 ≤ ax ∧ ax ≤ 2147483648) (hqx : -2147483648 ≤ qx ∧ qx ≤ 2147483648)
    (hN : cols * rows = N) (hc : cols ≤ 1024) (hr : rows ≤ 1024) (hn : n = 1 ∨ n = -1) (hE : E ≤ 1000000) (hL : ∀ v ∈ L, -(E : Int) ≤ v ∧ v ≤ E)
    (hlo : belowI ay fy rows = lo) (hhi : belowI qy fy rows = hi) (hhr : hi ≤ rows) :
    Calls Try.prog 50 #[.pointer (some ⟨g, 0, none⟩), .agg #[.int .i64 ax, .int .i64 ay], .agg #[.int .i64 qx, .int .i64 qy], .int .i64 n] w fun e w' => e = .returned (.tuple #[]) ∧ ∃ L' : List Int, FieldAt w' g h fx fy cols rows N L' ∧ Keep (fun j => j ≠ h) w w' ∧
      (∀ v ∈ L', -((E + 1 : Nat) : Int) ≤ v ∧ v ≤ ((E + 1 : Nat) : Int)) ∧ (∀ r k, r < rows → k < cols → suf L' cols r k = suf L cols r k + (if lo ≤ r ∧ r < hi ∧ k < belowI (crossI (ax, ay) (qx, qy) (fy + r * 64)) fx cols then n else 0)) := by
  have HB1 : Hid (∀ W, Calls Try.prog 57 #[.int .i64 qy, .int .i64 fy, .int .i64 (rows : Int)] W fun e w' => e = .returned (.int .i64 (hi : Nat)) ∧ Below W.heap.size W w') := fun W => by
    have := samples_b qy fy rows W (by omega) (by omega)
    rwa [hhi] at this
  have HB2 : Hid (∀ W, Calls Try.prog 57 #[.int .i64 ay, .int .i64 fy, .int .i64 (rows : Int)] W fun e w' => e = .returned (.int .i64 (lo : Nat)) ∧ Below W.heap.size W w') := fun W => by
    have := samples_b ay fy rows W (by omega) (by omega)
    rwa [hlo] at this
  have HF := Lib.hid hF
  have HFX := Lib.hid hfx; have HFY := Lib.hid hfy; have HAX := Lib.hid hax; have HQX := Lib.hid hqx; have HAY := Lib.hid hay; have HQY := Lib.hid hqy
  have HNN := Lib.hid hN; have HC := Lib.hid hc; have HR := Lib.hid hr; have HE := Lib.hid hE; have HL := Lib.hid hL; have Hn := Lib.hid hn; have HLO := Lib.hid hlo; have HHI := Lib.hid hhi; have HHR := Lib.hid hhr
  have HG := Lib.hid hg; have HH := Lib.hid hh
  clear hF hfx hfy hax hqx hay hqy hN hc hr hE hL hn hlo hhi hhr hg hh
  go_enter Try.func50, Try.ntmps50
  go_wp2_with fail
  obtain ⟨W1, hW1⟩ : ∃ W, (w.alloc (.cells #[.int .i64 ax, .int .i64 ay] 39)).alloc (.cells #[.int .i64 qx, .int .i64 qy] 39) = W := ⟨_, rfl⟩
  have S1 : Hid (EdgeM W1 w.heap.size g h fx fy cols rows N ax ay qx qy L ∧ Below w.heap.size w W1) := by
    rw [← hW1]
    exact ⟨⟨(HF.out.alloc _).alloc _, (Blk.new _ _ _).alloc _, Blk.newAt _ _ _ (by simp)⟩, ((Below.refl _ _).alloc (Nat.le_refl _) _).alloc (by simp) _⟩
  rw [hW1]
  clear hW1
  refine wp_region_quiet (C := Out W1) (by kernel_rfl) (by kernel_rfl) ⟨rfl, rfl, rfl, Nat.le_refl _, fun _ _ => rfl⟩ ?_
  refine BigFrame.wpQuiet_want rfl (fun K hK => ?_)
  refine quiet_val (.pointer (some ⟨w.heap.size + 1, 1, none⟩)) (fun w' hw' => by go_simp) (hK _ ?_)
  clear hK K
  simp only [Act.put, List.setIfInBounds_toArray, List.set_cons_zero, List.set_cons_succ]
  refine BigFrame.wpQuiet_want rfl (fun K hK => ?_)
  refine quiet_val (.int .i64 qy) (fun w' hw' => by have c0 := (S1.out.1.grow hw').fqy; go_simp) (hK _ ?_)
  clear hK K
  simp only [Act.put, List.setIfInBounds_toArray, List.set_cons_zero, List.set_cons_succ]
  refine BigFrame.wpQuiet_want rfl (fun K hK => ?_)
  refine quiet_val (.pointer (some ⟨g, 0, none⟩)) (fun w' hw' => by go_simp) (hK _ ?_)
  clear hK K
  simp only [Act.put, List.setIfInBounds_toArray, List.set_cons_zero, List.set_cons_succ]
  refine BigFrame.wpQuiet_want rfl (fun K hK => ?_)
  refine quiet_val (.pointer (some ⟨g, 0, none⟩)) (fun w' hw' => by go_simp) (hK _ ?_)
  clear hK K
  simp only [Act.put, List.setIfInBounds_toArray, List.set_cons_zero, List.set_cons_succ]
  refine BigFrame.wpQuiet_want rfl (fun K hK => ?_)
  refine quiet_val (.pointer (some ⟨g, 0, none⟩)) (fun w' hw' => by go_simp) (hK _ ?_)
  clear hK K
  simp only [Act.put, List.setIfInBounds_toArray, List.set_cons_zero, List.set_cons_succ]
  refine BigFrame.wpQuiet_want rfl (fun K hK => ?_)
  refine quiet_val (.pointer (some ⟨g, 1, none⟩)) (fun w' hw' => by go_simp) (hK _ ?_)
  clear hK K
  simp only [Act.put, List.setIfInBounds_toArray, List.set_cons_zero, List.set_cons_succ]
  refine BigFrame.wpQuiet_want rfl (fun K hK => ?_)
  refine quiet_val (.int .i64 fy) (fun w' hw' => by have c0 := (S1.out.1.grow hw').k.c1; go_simp) (hK _ ?_)
  clear hK K
  simp only [Act.put, List.setIfInBounds_toArray, List.set_cons_zero, List.set_cons_succ]
  refine BigFrame.wpQuiet_want rfl (fun K hK => ?_)
  refine quiet_val (.pointer (some ⟨g, 0, none⟩)) (fun w' hw' => by go_simp) (hK _ ?_)
  clear hK K
  simp only [Act.put, List.setIfInBounds_toArray, List.set_cons_zero, List.set_cons_succ]
  refine BigFrame.wpQuiet_want rfl (fun K hK => ?_)
  refine quiet_val (.pointer (some ⟨g, 0, none⟩)) (fun w' hw' => by go_simp) (hK _ ?_)
  clear hK K
  simp only [Act.put, List.setIfInBounds_toArray, List.set_cons_zero, List.set_cons_succ]
  refine BigFrame.wpQuiet_want rfl (fun K hK => ?_)
  refine quiet_val (.pointer (some ⟨g, 3, none⟩)) (fun w' hw' => by go_simp) (hK _ ?_)
  clear hK K
  simp only [Act.put, List.setIfInBounds_toArray, List.set_cons_zero, List.set_cons_succ]
  refine BigFrame.wpQuiet_want rfl (fun K hK => ?_)
  refine quiet_val (.int .i64 (rows : Int)) (fun w' hw' => by have c0 := (S1.out.1.grow hw').k.c3; go_simp) (hK _ ?_)
  clear hK K
  simp only [Act.put, List.setIfInBounds_toArray, List.set_cons_zero, List.set_cons_succ]
  refine BigFrame.wpQuiet_want rfl (fun K hK => ?_)
  refine quiet_call 57 #[.int .i64 qy, .int .i64 fy, .int .i64 (rows : Int)] (.int .i64 (hi : Int)) (fun w' _ => by go_simp) (fun w' hw' => Calls.out hw' (HB1.out w')) (hK _ ?_)
  clear hK K
  simp only [Act.put, List.setIfInBounds_toArray, List.set_cons_zero, List.set_cons_succ]
  refine BigFrame.wpQuiet_want rfl (fun K hK => ?_)
  refine quiet_val (.int .i64 (hi : Int)) (fun w' hw' => by go_simp) (hK _ ?_)
  clear hK K
  simp only [Act.put, List.setIfInBounds_toArray, List.set_cons_zero, List.set_cons_succ]
  refine wpQuiet_nil ?_
  intro W2 hW2
  have S2 : Hid (EdgeM W2 w.heap.size g h fx fy cols rows N ax ay qx qy L ∧ Below w.heap.size w W2) := ⟨S1.out.1.grow hW2, S1.out.2.trans (hW2.mono S1.out.2.size)⟩
  clear hW2 S1
  go_wp2_with fail
  refine wp_region_quiet (C := Out W2) (by kernel_rfl) (by kernel_rfl) ⟨rfl, rfl, rfl, Nat.le_refl _, fun _ _ => rfl⟩ ?_
  refine BigFrame.wpQuiet_want rfl (fun K hK => ?_)
  refine quiet_val (.pointer (some ⟨w.heap.size, 1, none⟩)) (fun w' hw' => by go_simp) (hK _ ?_)
  clear hK K
  simp only [Act.put, List.setIfInBounds_toArray, List.set_cons_zero, List.set_cons_succ]
  refine BigFrame.wpQuiet_want rfl (fun K hK => ?_)
  refine quiet_val (.int .i64 ay) (fun w' hw' => by have c0 := (S2.out.1.grow hw').fay; go_simp) (hK _ ?_)
  clear hK K
  simp only [Act.put, List.setIfInBounds_toArray, List.set_cons_zero, List.set_cons_succ]
  refine BigFrame.wpQuiet_want rfl (fun K hK => ?_)
  refine quiet_val (.pointer (some ⟨g, 0, none⟩)) (fun w' hw' => by go_simp) (hK _ ?_)
  clear hK K
  simp only [Act.put, List.setIfInBounds_toArray, List.set_cons_zero, List.set_cons_succ]
  refine BigFrame.wpQuiet_want rfl (fun K hK => ?_)
  refine quiet_val (.pointer (some ⟨g, 0, none⟩)) (fun w' hw' => by go_simp) (hK _ ?_)
  clear hK K
  simp only [Act.put, List.setIfInBounds_toArray, List.set_cons_zero, List.set_cons_succ]
  refine BigFrame.wpQuiet_want rfl (fun K hK => ?_)
  refine quiet_val (.pointer (some ⟨g, 0, none⟩)) (fun w' hw' => by go_simp) (hK _ ?_)
  clear hK K
  simp only [Act.put, List.setIfInBounds_toArray, List.set_cons_zero, List.set_cons_succ]
  refine BigFrame.wpQuiet_want rfl (fun K hK => ?_)
  refine quiet_val (.pointer (some ⟨g, 1, none⟩)) (fun w' hw' => by go_simp) (hK _ ?_)
  clear hK K
  simp only [Act.put, List.setIfInBounds_toArray, List.set_cons_zero, List.set_cons_succ]
  refine BigFrame.wpQuiet_want rfl (fun K hK => ?_)
  refine quiet_val (.int .i64 fy) (fun w' hw' => by have c0 := (S2.out.1.grow hw').k.c1; go_simp) (hK _ ?_)
  clear hK K
  simp only [Act.put, List.setIfInBounds_toArray, List.set_cons_zero, List.set_cons_succ]
  refine BigFrame.wpQuiet_want rfl (fun K hK => ?_)
  refine quiet_val (.pointer (some ⟨g, 0, none⟩)) (fun w' hw' => by go_simp) (hK _ ?_)
  clear hK K
  simp only [Act.put, List.setIfInBounds_toArray, List.set_cons_zero, List.set_cons_succ]
  refine BigFrame.wpQuiet_want rfl (fun K hK => ?_)
  refine quiet_val (.pointer (some ⟨g, 0, none⟩)) (fun w' hw' => by go_simp) (hK _ ?_)
  clear hK K
  simp only [Act.put, List.setIfInBounds_toArray, List.set_cons_zero, List.set_cons_succ]
  refine BigFrame.wpQuiet_want rfl (fun K hK => ?_)
  refine quiet_val (.pointer (some ⟨g, 3, none⟩)) (fun w' hw' => by go_simp) (hK _ ?_)
  clear hK K
  simp only [Act.put, List.setIfInBounds_toArray, List.set_cons_zero, List.set_cons_succ]
  refine BigFrame.wpQuiet_want rfl (fun K hK => ?_)
  refine quiet_val (.int .i64 (rows : Int)) (fun w' hw' => by have c0 := (S2.out.1.grow hw').k.c3; go_simp) (hK _ ?_)
  clear hK K
  simp only [Act.put, List.setIfInBounds_toArray, List.set_cons_zero, List.set_cons_succ]
  refine BigFrame.wpQuiet_want rfl (fun K hK => ?_)
  refine quiet_call 57 #[.int .i64 ay, .int .i64 fy, .int .i64 (rows : Int)] (.int .i64 (lo : Int)) (fun w' _ => by go_simp) (fun w' hw' => Calls.out hw' (HB2.out w')) (hK _ ?_)
  clear hK K
  simp only [Act.put, List.setIfInBounds_toArray, List.set_cons_zero, List.set_cons_succ]
  refine BigFrame.wpQuiet_want rfl (fun K hK => ?_)
  refine quiet_val (.int .i64 (lo : Int)) (fun w' hw' => by go_simp) (hK _ ?_)
  clear hK K
  simp only [Act.put, List.setIfInBounds_toArray, List.set_cons_zero, List.set_cons_succ]
  refine wpQuiet_nil ?_
  intro W3 hW3
  have S3 : Hid (EdgeM W3 w.heap.size g h fx fy cols rows N ax ay qx qy L ∧ Below w.heap.size w W3) := ⟨S2.out.1.grow hW3, S2.out.2.trans (hW3.mono S2.out.2.size)⟩
  clear hW3 S2
  go_wp2_with fail
  go_loopw [9] (fun i wr => ∃ (r : Nat) (L' : List Int), lo ≤ r ∧ (r ≤ hi ∨ r = lo) ∧ i = .int .i64 r ∧ Hid (EdgeM wr w.heap.size g h fx fy cols rows N ax ay qx qy L' ∧ Keep (fun j => j ≠ h) w wr ∧ w.heap.size + 2 ≤ wr.heap.size ∧
      (∀ v ∈ L', -((E + 1 : Nat) : Int) ≤ v ∧ v ≤ ((E + 1 : Nat) : Int)) ∧ (∀ i, r * cols ≤ i → L'[i]? = L[i]?) ∧ (∀ r' k, r' < rows → k < cols → suf L' cols r' k = suf L cols r' k + (if lo ≤ r' ∧ r' < r ∧ k < belowI (crossI (ax, ay) (qx, qy) (fy + r' * 64)) fx cols then n else 0)))) (fun i _ => hi - (intOf i).toNat)
  case atStart =>
    refine ⟨lo, L, by omega, .inr rfl, rfl, S3.out.1, Keep.of_below S3.out.2, ?_, fun v hv => ?_, fun _ _ => rfl, fun r' k _ _ => ?_⟩
    · exact S3.out.1.q.lt
    · have := HL.out v hv; omega
    · rw [if_neg (by omega)]; omega
  case round =>
    obtain ⟨r, L', hr1, hr2, rfl, hw⟩ := hrel
    by_cases hlt : r < hi
    · have hd : decide ((r : Int) < (hi : Int)) = true := by simp; omega
      have hrr : r < rows := Nat.lt_of_lt_of_le hlt HHR.out
      have hr4 : r ≤ 1024 := by have := HR.out; omega
      have hy1 : ay ≤ fy + (r : Int) * 64 := by
        have := not_congr (below_iff ay fy rows r hrr)
        rw [HLO.out] at this
        have := this.1 (by omega)
        omega
      have hy2 : fy + (r : Int) * 64 < qy := by
        have := below_iff qy fy rows r hrr
        rw [HHI.out] at this
        have := this.1 hlt
        omega
      obtain ⟨z, hz⟩ : ∃ z, crossI (ax, ay) (qx, qy) (fy + (r : Int) * 64) = z := ⟨_, rfl⟩
      have hzr := cross_room (ax, ay) (qx, qy) (fy + (r : Int) * 64) hy1 hy2
      rw [hz] at hzr
      obtain ⟨c, hc⟩ : ∃ c, belowI z fx cols = c := ⟨_, rfl⟩
      have hcc : c ≤ cols := by rw [← hc]; exact below_le _ _ _
      have HX : Hid (∀ W, Calls Try.prog 58 #[.agg #[.int .i64 ax, .int .i64 ay], .agg #[.int .i64 qx, .int .i64 qy], .int .i64 (fy + (r : Int) * 64)] W fun e w' => e = .returned (.int .i64 z) ∧ Below W.heap.size W w') := fun W => by
        have := crossing_c (ax, ay) (qx, qy) (fy + (r : Int) * 64) W (by simp only [roomP, Bool.and_eq_true, room_iff]; exact ⟨HAX.out, HAY.out⟩) (by simp only [roomP, Bool.and_eq_true, room_iff]; exact ⟨HQX.out, HQY.out⟩) hy1 hy2
        rwa [hz] at this
      have HY : Hid (∀ W, Calls Try.prog 57 #[.int .i64 z, .int .i64 fx, .int .i64 (cols : Int)] W fun e w' => e = .returned (.int .i64 (c : Nat)) ∧ Below W.heap.size W w') := fun W => by
        have := samples_b z fx cols W (by have := HAX.out; have := HQX.out; simp only at hzr; omega) (by have := HFX.out; omega)
        rwa [hc] at this
      have hfy := HFY.out
      obtain ⟨hfya, hfyb⟩ := hfy
      have HZ := Lib.hid hz; have HCc := Lib.hid hc; have HCC := Lib.hid hcc; have HZR := Lib.hid hzr; have HRR := Lib.hid hrr; have HY1 := Lib.hid hy1; have HY2 := Lib.hid hy2; have HR1 := Lib.hid hr1
      have SW := Lib.hid (And.intro hw.out.1 hw.out.2.1)
      have E48 : IntKind.i64.wrap ((r : Int) * 64) = (r : Int) * 64 := by rw [wrap_is]; exact wrapR _ (by omega) (by omega)
      have E49 : IntKind.i64.wrap (fy + (r : Int) * 64) = fy + (r : Int) * 64 := by rw [wrap_is]; exact wrapR _ (by omega) (by omega)
      clear hz hc hcc hzr hrr hy1 hy2 hr1 hr2
      go_wp2_with fail
      refine wp_region_quiet (C := Out wr) (by kernel_rfl) (by kernel_rfl) ⟨rfl, rfl, rfl, Nat.le_refl _, fun _ _ => rfl⟩ ?_
      refine BigFrame.wpQuiet_want rfl (fun K hK => ?_)
      refine quiet_val (.agg #[.int .i64 ax, .int .i64 ay]) (fun w' hw' => by have c0 := (SW.out.1.grow hw').fax; have c1 := (SW.out.1.grow hw').fay; go_simp) (hK _ ?_)
      clear hK K
      simp only [Act.put, List.setIfInBounds_toArray, List.set_cons_zero, List.set_cons_succ]
      refine BigFrame.wpQuiet_want rfl (fun K hK => ?_)
      refine quiet_val (.agg #[.int .i64 qx, .int .i64 qy]) (fun w' hw' => by have c0 := (SW.out.1.grow hw').fqx; have c1 := (SW.out.1.grow hw').fqy; go_simp) (hK _ ?_)
      clear hK K
      simp only [Act.put, List.setIfInBounds_toArray, List.set_cons_zero, List.set_cons_succ]
      refine BigFrame.wpQuiet_want rfl (fun K hK => ?_)
      refine quiet_val (.pointer (some ⟨g, 0, none⟩)) (fun w' hw' => by go_simp) (hK _ ?_)
      clear hK K
      simp only [Act.put, List.setIfInBounds_toArray, List.set_cons_zero, List.set_cons_succ]
      refine BigFrame.wpQuiet_want rfl (fun K hK => ?_)
      refine quiet_val (.pointer (some ⟨g, 0, none⟩)) (fun w' hw' => by go_simp) (hK _ ?_)
      clear hK K
      simp only [Act.put, List.setIfInBounds_toArray, List.set_cons_zero, List.set_cons_succ]
      refine BigFrame.wpQuiet_want rfl (fun K hK => ?_)
      refine quiet_val (.pointer (some ⟨g, 0, none⟩)) (fun w' hw' => by go_simp) (hK _ ?_)
      clear hK K
      simp only [Act.put, List.setIfInBounds_toArray, List.set_cons_zero, List.set_cons_succ]
      refine BigFrame.wpQuiet_want rfl (fun K hK => ?_)
      refine quiet_val (.pointer (some ⟨g, 1, none⟩)) (fun w' hw' => by go_simp) (hK _ ?_)
      clear hK K
      simp only [Act.put, List.setIfInBounds_toArray, List.set_cons_zero, List.set_cons_succ]
      refine BigFrame.wpQuiet_want rfl (fun K hK => ?_)
      refine quiet_val (.int .i64 fy) (fun w' hw' => by have c0 := (SW.out.1.grow hw').k.c1; go_simp) (hK _ ?_)
      clear hK K
      simp only [Act.put, List.setIfInBounds_toArray, List.set_cons_zero, List.set_cons_succ]
      refine BigFrame.wpQuiet_want rfl (fun K hK => ?_)
      refine quiet_val (.int .i64 (r : Int)) (fun w' hw' => by go_simp) (hK _ ?_)
      clear hK K
      simp only [Act.put, List.setIfInBounds_toArray, List.set_cons_zero, List.set_cons_succ]
      refine BigFrame.wpQuiet_want rfl (fun K hK => ?_)
      refine quiet_val (.int .i64 ((r : Int) * 64)) (fun w' hw' => by go_simp) (hK _ ?_)
      clear hK K
      simp only [Act.put, List.setIfInBounds_toArray, List.set_cons_zero, List.set_cons_succ]
      refine BigFrame.wpQuiet_want rfl (fun K hK => ?_)
      refine quiet_val (.int .i64 (fy + (r : Int) * 64)) (fun w' hw' => by go_simp) (hK _ ?_)
      clear hK K
      simp only [Act.put, List.setIfInBounds_toArray, List.set_cons_zero, List.set_cons_succ]
      refine BigFrame.wpQuiet_want rfl (fun K hK => ?_)
      refine quiet_call 58 #[.agg #[.int .i64 ax, .int .i64 ay], .agg #[.int .i64 qx, .int .i64 qy], .int .i64 (fy + (r : Int) * 64)] (.int .i64 z) (fun w' _ => by go_simp) (fun w' hw' => Calls.out hw' (HX.out w')) (hK _ ?_)
      clear hK K
      simp only [Act.put, List.setIfInBounds_toArray, List.set_cons_zero, List.set_cons_succ]
      refine BigFrame.wpQuiet_want rfl (fun K hK => ?_)
      refine quiet_val (.pointer (some ⟨g, 0, none⟩)) (fun w' hw' => by go_simp) (hK _ ?_)
      clear hK K
      simp only [Act.put, List.setIfInBounds_toArray, List.set_cons_zero, List.set_cons_succ]
      refine BigFrame.wpQuiet_want rfl (fun K hK => ?_)
      refine quiet_val (.pointer (some ⟨g, 0, none⟩)) (fun w' hw' => by go_simp) (hK _ ?_)
      clear hK K
      simp only [Act.put, List.setIfInBounds_toArray, List.set_cons_zero, List.set_cons_succ]
      refine BigFrame.wpQuiet_want rfl (fun K hK => ?_)
      refine quiet_val (.pointer (some ⟨g, 0, none⟩)) (fun w' hw' => by go_simp) (hK _ ?_)
      clear hK K
      simp only [Act.put, List.setIfInBounds_toArray, List.set_cons_zero, List.set_cons_succ]
      refine BigFrame.wpQuiet_want rfl (fun K hK => ?_)
      refine quiet_val (.pointer (some ⟨g, 0, none⟩)) (fun w' hw' => by go_simp) (hK _ ?_)
      clear hK K
      simp only [Act.put, List.setIfInBounds_toArray, List.set_cons_zero, List.set_cons_succ]
      refine BigFrame.wpQuiet_want rfl (fun K hK => ?_)
      refine quiet_val (.int .i64 fx) (fun w' hw' => by have c0 := (SW.out.1.grow hw').k.c0; go_simp) (hK _ ?_)
      clear hK K
      simp only [Act.put, List.setIfInBounds_toArray, List.set_cons_zero, List.set_cons_succ]
      refine BigFrame.wpQuiet_want rfl (fun K hK => ?_)
      refine quiet_val (.pointer (some ⟨g, 0, none⟩)) (fun w' hw' => by go_simp) (hK _ ?_)
      clear hK K
      simp only [Act.put, List.setIfInBounds_toArray, List.set_cons_zero, List.set_cons_succ]
      refine BigFrame.wpQuiet_want rfl (fun K hK => ?_)
      refine quiet_val (.pointer (some ⟨g, 0, none⟩)) (fun w' hw' => by go_simp) (hK _ ?_)
      clear hK K
      simp only [Act.put, List.setIfInBounds_toArray, List.set_cons_zero, List.set_cons_succ]
      refine BigFrame.wpQuiet_want rfl (fun K hK => ?_)
      refine quiet_val (.pointer (some ⟨g, 2, none⟩)) (fun w' hw' => by go_simp) (hK _ ?_)
      clear hK K
      simp only [Act.put, List.setIfInBounds_toArray, List.set_cons_zero, List.set_cons_succ]
      refine BigFrame.wpQuiet_want rfl (fun K hK => ?_)
      refine quiet_val (.int .i64 (cols : Int)) (fun w' hw' => by have c0 := (SW.out.1.grow hw').k.c2; go_simp) (hK _ ?_)
      clear hK K
      simp only [Act.put, List.setIfInBounds_toArray, List.set_cons_zero, List.set_cons_succ]
      refine BigFrame.wpQuiet_want rfl (fun K hK => ?_)
      refine quiet_call 57 #[.int .i64 z, .int .i64 fx, .int .i64 (cols : Int)] (.int .i64 (c : Int)) (fun w' _ => by go_simp) (fun w' hw' => Calls.out hw' (HY.out w')) (hK _ ?_)
      clear hK K
      simp only [Act.put, List.setIfInBounds_toArray, List.set_cons_zero, List.set_cons_succ]
      refine BigFrame.wpQuiet_want rfl (fun K hK => ?_)
      refine quiet_val (.int .i64 (c : Int)) (fun w' hw' => by go_simp) (hK _ ?_)
      clear hK K
      simp only [Act.put, List.setIfInBounds_toArray, List.set_cons_zero, List.set_cons_succ]
      refine wpQuiet_nil ?_
      intro W5 hW5
      have S5 : Hid (EdgeM W5 w.heap.size g h fx fy cols rows N ax ay qx qy L' ∧ Keep (fun j => j ≠ h) w W5 ∧ w.heap.size + 2 ≤ W5.heap.size) := ⟨SW.out.1.grow hW5, SW.out.2.trans (Keep.of_below hW5), Nat.le_trans hw.out.2.2.1 hW5.size⟩
      clear hW5 SW
      by_cases hc0 : 0 < c
      · have hd2 : decide ((c : Int) > 0) = true := by simp; omega
        have hjl : r * cols + (c - 1) < N := by
          have := Nat.mul_le_mul_right cols (show r + 1 ≤ rows from HRR.out)
          have h1 := HNN.out
          have h2 := HCC.out
          rw [Nat.succ_mul] at this
          rw [Nat.mul_comm] at h1
          omega
        obtain ⟨v, hv⟩ : ∃ v, L'[r * cols + (c - 1)]? = some v := ⟨_, List.getElem?_eq_getElem (by rw [S5.out.1.k.len]; exact hjl)⟩
        obtain ⟨j, hj⟩ : ∃ j, r * cols + (c - 1) = j := ⟨_, rfl⟩
        rw [hj] at hv hjl
        have hvL : L[j]? = some v := by rw [← hv]; exact (hw.out.2.2.2.2.1 j (by omega)).symm
        have hvb := HL.out v (List.mem_of_getElem? hvL)
        have hnn := Hn.out
        have x4 := S5.out.1.k.c4
        have x2 := S5.out.1.k.c2
        have xv := S5.out.1.k.r.int hv
        have xf := S5.out.1.k.r.free j
        have xl := S5.out.1.k.r.lt
        have HJ := Lib.hid hj
        have HV := Lib.hid hv
        have hjw : wrap64 (wrap64 (wrap64 ((r : Int) * (cols : Int)) + (c : Int)) - 1) = (j : Int) := by
          have hN2 : N ≤ 1048576 := by
            rw [← HNN.out]
            have h3 := Nat.mul_le_mul HC.out HR.out
            omega
          have e1 : (r : Int) * (cols : Int) = ((r * cols : Nat) : Int) := by rw [Int.natCast_mul]
          have h5 : r * cols ≤ j := by omega
          have h6 : r * cols + c = j + 1 := by omega
          rw [e1, wrapR ((r * cols : Nat) : Int) (by omega) (by omega), ← Int.natCast_add, h6, wrapR ((j + 1 : Nat) : Int) (by omega) (by omega), wrapR _ (by omega) (by omega)]
          omega
        have hvw : wrap64 (v + n) = v + n := wrapR _ (by have := HE.out; omega) (by have := HE.out; omega)
        have HVB := Lib.hid hvb
        clear hj hv hvL hvb hnn
        go_wp2_with fail
        go_region
        obtain ⟨W6, hW6⟩ : ∃ W, (W5.setCell ⟨h, j, none⟩ (.int .i64 (v + n))).drew = W := ⟨_, rfl⟩
        have S6 : Hid (EdgeM W6 w.heap.size g h fx fy cols rows N ax ay qx qy (L'.set j (v + n)) ∧ Keep (fun j => j ≠ h) w W6 ∧ w.heap.size + 2 ≤ W6.heap.size) := by
          rw [← hW6]
          have hne1 : w.heap.size ≠ h := by have := HH.out; omega
          have hne2 : w.heap.size + 1 ≠ h := by have := HH.out; omega
          have gr : ∀ W : World, Below W.heap.size W W.drew := fun W => ⟨rfl, rfl, rfl, Nat.le_refl _, fun _ _ => rfl⟩
          refine ⟨EdgeM.grow ⟨S5.out.1.k.set j (v + n), S5.out.1.a.other _ _ hne1, S5.out.1.q.other _ _ hne2⟩ (gr _), (S5.out.2.1.trans (Keep.setCell _ _ _ (by simp))).trans (Keep.drew _ _), ?_⟩
          have := S5.out.2.2
          show _ ≤ (W5.setCell _ _).heap.size
          simpa [World.setCell] using this
        rw [hW6]
        clear hW6 x4 x2 xv xf xl
        go_wp2_with fail
        refine ⟨⟨r + 1, L'.set j (v + n), by have := HR1.out; omega, .inl (by omega), by go_num, S6.out.1, S6.out.2.1, S6.out.2.2, fun u hu => ?_, fun i hi => ?_, fun r' k h1 h2 => ?_⟩, by simp [intOf]; omega⟩
        · rcases List.mem_or_eq_of_mem_set hu with h | h
          · exact hw.out.2.2.2.1 u h
          · have := HVB.out; have := Hn.out; omega
        · have h1 := HJ.out
          have h3 := HCC.out
          rw [Nat.succ_mul] at hi
          rw [List.getElem?_set_ne (by omega)]
          exact hw.out.2.2.2.2.1 i (by omega)
        · have hs := suf_set L' cols r' k r (c - 1) n v (by omega) (by have := HCC.out; omega) (by rw [HJ.out]; exact HV.out)
          rw [HJ.out] at hs
          rw [hs, hw.out.2.2.2.2.2 r' k h1 h2, Int.add_assoc]
          congr 1
          by_cases hre : r' = r
          · subst hre
            rw [if_neg (by omega), HZ.out, HCc.out]
            by_cases hk : k < c
            · rw [if_pos ⟨rfl, by omega⟩, if_pos ⟨HR1.out, by omega, hk⟩]; omega
            · rw [if_neg (by omega), if_neg (by omega)]; omega
          · rw [show (if r' = r ∧ k ≤ c - 1 then n else 0) = 0 from if_neg (fun hh => hre hh.1)]
            by_cases h3 : lo ≤ r' ∧ r' < r ∧ k < belowI (crossI (ax, ay) (qx, qy) (fy + r' * 64)) fx cols
            · rw [if_pos h3, if_pos ⟨h3.1, by omega, h3.2.2⟩]; omega
            · rw [if_neg h3, if_neg (fun hh => h3 ⟨hh.1, by omega, hh.2.2⟩)]; omega
      · have hd2 : decide ((c : Int) > 0) = false := by simp; omega
        go_wp2_with fail
        refine ⟨⟨r + 1, L', by have := HR1.out; omega, .inl (by omega), by go_num, S5.out.1, S5.out.2.1, S5.out.2.2, hw.out.2.2.2.1, fun i hi => ?_, fun r' k h1 h2 => ?_⟩, by simp [intOf]; omega⟩
        · rw [Nat.succ_mul] at hi
          exact hw.out.2.2.2.2.1 i (by omega)
        · rw [hw.out.2.2.2.2.2 r' k h1 h2]
          congr 1
          by_cases hre : r' = r
          · subst hre
            rw [if_neg (by omega), HZ.out, HCc.out, if_neg (by omega)]
          · by_cases h3 : lo ≤ r' ∧ r' < r ∧ k < belowI (crossI (ax, ay) (qx, qy) (fy + r' * 64)) fx cols
            · rw [if_pos h3, if_pos ⟨h3.1, by omega, h3.2.2⟩]
            · rw [if_neg h3, if_neg (fun hh => h3 ⟨hh.1, by omega, hh.2.2⟩)]
    · have hd : decide ((r : Int) < (hi : Int)) = false := by simp; omega
      go_wp2_with fail
      go_end0
      refine ⟨rfl, L', hw.out.1.k, hw.out.2.1, hw.out.2.2.2.1, fun r' k h1 h2 => ?_⟩
      rw [hw.out.2.2.2.2.2 r' k h1 h2]
      congr 1
      rcases hr2 with h3 | h3
      · rw [show r = hi by omega]
      · rw [if_neg (by omega), if_neg (by omega)]
theorem edge_c (g h : Nat) (fx fy : Int) (cols rows N E : Nat) (L : List Int) (a q : Pt) (n : Int) (w : World) (hF : FieldAt w g h fx fy cols rows N L) (ha : roomP a = true) (hq : roomP q = true)
    (hfx : -2147483648 ≤ fx ∧ fx ≤ 2147483648) (hfy : -2147483648 ≤ fy ∧ fy ≤ 2147483648) (hN : cols * rows = N) (hc : cols ≤ 1024) (hr : rows ≤ 1024) (hn : n = 1 ∨ n = -1) (hE : E ≤ 1000000) (hL : ∀ v ∈ L, -(E : Int) ≤ v ∧ v ≤ E) :
    Calls Try.prog 50 #[.pointer (some ⟨g, 0, none⟩), .agg #[.int .i64 a.1, .int .i64 a.2], .agg #[.int .i64 q.1, .int .i64 q.2], .int .i64 n] w fun e w' => e = .returned (.tuple #[]) ∧ ∃ L' : List Int, FieldAt w' g h fx fy cols rows N L' ∧ Keep (fun j => j ≠ h) w w' ∧
      (∀ v ∈ L', -((E + 1 : Nat) : Int) ≤ v ∧ v ≤ ((E + 1 : Nat) : Int)) ∧ (∀ r k, r < rows → k < cols → suf L' cols r k = suf L cols r k + addE a q n (sampF fx fy r k)) := by
  simp only [roomP, Bool.and_eq_true, room_iff] at ha hq
  refine (edge_walk g h fx fy cols rows N _ _ E L a.1 a.2 q.1 q.2 n w hF hF.f.lt hF.r.lt hfx hfy ha.2 hq.2 ha.1 hq.1 hN hc hr hn hE hL rfl rfl (below_le _ _ _)).mono ?_
  rintro e w' ⟨rfl, L', h1, h2, h3, h4⟩
  refine ⟨rfl, L', h1, h2, h3, fun r k hr hk => ?_⟩
  rw [h4 r k hr hk]
  congr 1
  unfold addE sampF
  simp only
  have i1 := below_iff a.2 fy rows r hr
  have i2 := below_iff q.2 fy rows r hr
  have e : fy + (r : Int) * 64 = fy + 64 * (r : Int) := by omega
  rw [e]
  have i3 := below_iff (crossI a q (fy + 64 * (r : Int))) fx cols k hk
  by_cases hh : a.2 ≤ fy + 64 * (r : Int) ∧ fy + 64 * (r : Int) < q.2 ∧ fx + 64 * (k : Int) < crossI a q (fy + 64 * (r : Int))
  · rw [if_pos hh, if_pos ⟨by omega, i2.2 hh.2.1, i3.2 hh.2.2⟩]
  · rw [if_neg hh, if_neg (fun h5 => hh ⟨by omega, i2.1 h5.2.1, i3.1 h5.2.2⟩)]
end Go.Proofs.Ytopngjpgikpmaaa
