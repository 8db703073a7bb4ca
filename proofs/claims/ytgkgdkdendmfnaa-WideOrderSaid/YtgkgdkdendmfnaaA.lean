/- Numbers as rows of 128 bits (limnerref02): what the document's own functions return. -/
import Derived.Test.YtgkgdkdendmfnaaRows
import Derived.WalkKit
import Derived.WalkSpells
import Derived.WalkLawsBesides
import Derived.Lib.Hide
import Derived.Laws.Rows
import Derived.Laws.CopyOwn
import Derived.Laws.Tables
import Derived.Deep.WholeRow
import Derived.Handy
import Derived.Lib.SmallJoins
namespace Go.Proofs.Ytgkgdkdendmfnaa
open Go.RowKit

/-- The row of the bits of a number. -/
def row (u : BitVec 128) : Array Value := Array.ofFn (n := 128) fun i => Value.bool (u.getLsbD i.val)
def zeros : Array Value := Array.replicate 128 (.bool false)
theorem row_size (u : BitVec 128) : (row u).size = 128 := by simp [row]
theorem zeros_size : zeros.size = 128 := by simp [zeros]
theorem infoRow : (Try.prog.info? 25).map (fun i => (i.zero, i.size)) = some (some (.agg zeros), 128) := by kernel_rfl
theorem zeroRow (w : World) : (zeroValue 25).run Try.prog w = .ok (.agg zeros) w := (zero_of_info infoRow).1 w
theorem sizeRow : (Try.prog.info? 25).map (·.size) = some 128 := (zero_of_info infoRow).2

theorem row_one (u : BitVec 128) : (row u).all (·.oneCell') = true := by
  rw [Array.all_eq_true_iff_forall_mem]
  intro x hx
  obtain ⟨i, hi, rfl⟩ := Array.mem_iff_getElem.1 hx
  simp [row, Value.oneCell']

/-- A row at hand in memory. -/
def At (w : World) (g : Nat) (cs : Array Value) : Prop := w.heap[g]? = some (.cells cs 25 (0, 0))
theorem At.cell {w : World} {g : Nat} {cs : Array Value} (h : At w g cs) (i : Nat) : w.cell? ⟨g, i, none⟩ = cs[i]? := Joins.cell_of_block h i
theorem At.free {w : World} {g : Nat} {cs : Array Value} (h : At w g cs) (i : Nat) : w.frozen? ⟨g, i, none⟩ = false := Joins.unfrozen_of_block h i
theorem At.set {w : World} {g : Nat} {cs : Array Value} (h : At w g cs) (i : Nat) (v : Value) : At (w.setCell ⟨g, i, none⟩ v) g (cs.setIfInBounds i v) := Joins.block_setCell h v
theorem At.other {w : World} {g : Nat} {cs : Array Value} (h : At w g cs) (a : Addr) (v : Value) (hne : g ≠ a.block) : At (w.setCell a v) g cs := by
  unfold At; rw [Below.heap_setCell _ _ _ _ hne]; exact h
theorem At.on {w w' : World} {g : Nat} {cs : Array Value} {B : Nat} (h : At w g cs) (hb : Below B w w') (hg : g < B) : At w' g cs := by
  unfold At; rw [hb.block g hg]; exact h


theorem row_eq {cs ds : Array Value} (hc : cs.size = 128) (hd : ds.size = 128) (h : ∀ i, i < 128 → cs[i]? = ds[i]?) : cs = ds := by
  apply Array.ext_getElem?
  intro i
  by_cases hi : i < 128
  · exact h i hi
  · rw [Array.getElem?_eq_none (by omega), Array.getElem?_eq_none (by omega)]
theorem row_at (u : BitVec 128) (i : Nat) (h : i < 128) : (row u)[i]? = some (.bool (u.getLsbD i)) := by simp [row, h]
theorem zeros_at (i : Nat) (h : i < 128) : zeros[i]? = some (.bool false) := by simp [zeros, h]
/-- What Bits has done behind k rounds. -/
def partBits (H L k : Nat) : Array Value := Array.ofFn (n := 128) fun i => Value.bool (if i.val < 64 then decide (i.val < k) && L.testBit i.val else decide (i.val - 64 < k) && H.testBit (i.val - 64))
theorem partBits_at (H L k i : Nat) (h : i < 128) : (partBits H L k)[i]? = some (.bool (if i < 64 then decide (i < k) && L.testBit i else decide (i - 64 < k) && H.testBit (i - 64))) := by simp [partBits, h]
theorem partBits_size (H L k : Nat) : (partBits H L k).size = 128 := by simp [partBits]
theorem partBits_zero (H L : Nat) : partBits H L 0 = zeros := row_eq (partBits_size _ _ _) zeros_size fun i hi => by rw [partBits_at _ _ _ _ hi, zeros_at i hi]; simp
theorem partBits_next (H L k : Nat) (hk : k < 64) : ((partBits H L k).setIfInBounds k (.bool (L.testBit k))).setIfInBounds (k + 64) (.bool (H.testBit k)) = partBits H L (k + 1) := by
  refine row_eq (by simp [partBits_size]) (partBits_size _ _ _) fun i hi => ?_
  rw [Array.getElem?_setIfInBounds, Array.getElem?_setIfInBounds, partBits_at _ _ _ _ hi, partBits_at _ _ _ _ hi]
  simp only [Array.size_setIfInBounds, partBits_size]
  by_cases h1 : k + 64 = i
  · subst h1
    simp; omega
  · rw [if_neg h1]
    by_cases h2 : k = i
    · subst h2
      simp [hk]; omega
    · rw [if_neg h2]
      congr 2
      by_cases h3 : i < 64
      · simp only [h3, if_true]
        congr 1
        simp; omega
      · simp only [h3, if_false]
        congr 1
        simp; omega
theorem partBits_all (H L : Nat) (hL : L < 2 ^ 64) : partBits H L 64 = row (BitVec.ofNat 128 (H * 2 ^ 64 + L)) := by
  refine row_eq (partBits_size _ _ _) (row_size _) fun i hi => ?_
  rw [partBits_at _ _ _ _ hi, row_at _ _ hi, BitVec.getLsbD_ofNat]
  have e : (H * 2 ^ 64 + L).testBit i = if i < 64 then L.testBit i else H.testBit (i - 64) := by
    rw [Nat.mul_comm, Nat.testBit_two_pow_mul_add _ hL]
  rw [e]
  by_cases h : i < 64
  · simp [h, hi]
  · simp [h, hi]; omega
theorem bit_div (L k q : Nat) (h : q = L / 2 ^ k) : ((q : Int) % 2 == 1) = L.testBit k := by
  rw [Nat.testBit_eq_decide_div_mod_eq, ← h]
  rcases Nat.mod_two_eq_zero_or_one q with e | e
  · rw [e, show (q : Int) % 2 = 0 by omega]; rfl
  · rw [e, show (q : Int) % 2 = 1 by omega]; rfl
theorem half_pow (L k q : Nat) (h : q = L / 2 ^ k) : q / 2 = L / 2 ^ (k + 1) := by rw [h, Nat.pow_succ, Nat.div_div_eq_div_mul]
theorem half_wrap (q : Nat) (h : q < 2 ^ 64) : Value.int IntKind.u64 (IntKind.u64.wrap ((q : Int) / 2)) = .int .u64 ((q / 2 : Nat) : Int) := by
  rw [IntKind.wrap_u64, show ((q : Int) / 2) % 18446744073709551616 = ((q / 2 : Nat) : Int) by omega]
#print axioms partBits_all
set_option maxHeartbeats 400000 in
set_option maxRecDepth 100000 in
theorem bits_any (H L : Nat) (u : BitVec 128) (hu : partBits H L 64 = row u) (hi : Int) (hH : (IntKind.u64.wrap hi) = (H : Int)) (hb : L < 2 ^ 64 ∧ H < 2 ^ 64) (w : World) :
    Calls Try.prog 30 #[.int .i64 hi, .int .u64 L] w fun e w' => e = .returned (.agg (row u)) ∧ Below w.heap.size w w' := by
  have hz := zeroRow
  have HU := Lib.hid hu; have HB := Lib.hid hb
  clear hu hb
  go_enter Try.func30, Try.ntmps30
  go_wp2_with fail
  go_loopw [1, 6, 7] (fun lo h i wr => ∃ k q r : Nat, k ≤ 64 ∧ i = .int .i64 k ∧ lo = .int .u64 (q : Int) ∧ h = .int .u64 (r : Int) ∧ Hid (q = L / 2 ^ k ∧ r = H / 2 ^ k ∧ q < 2 ^ 64 ∧ r < 2 ^ 64) ∧ Hid (At wr w.heap.size zeros ∧ At wr (w.heap.size + 1) (partBits H L k) ∧ Below w.heap.size w wr)) (fun _ _ i _ => 64 - (intOf i).toNat)
  case atStart =>
    refine ⟨0, L, H, by omega, rfl, rfl, rfl, ⟨by simp, by simp, HB.out.1, HB.out.2⟩, ?_, ?_, ?_⟩
    · exact heap_alloc2_old _ _ _
    · rw [partBits_zero]; exact heap_alloc2_new _ _ _
    · exact ((Below.refl _ _).alloc (Nat.le_refl _) _).alloc (by simp) _
  case round =>
    obtain ⟨k, q, r, hk, rfl, rfl, rfl, hqr, hw⟩ := hrel
    by_cases hlt : k < 64
    · have b1 := bit_div L k q hqr.out.1
      have b2 := bit_div H k r hqr.out.2.1
      have g1 : wr.cell? ⟨w.heap.size + 1, k, none⟩ = some (.bool false) := by
        rw [(hw.out.2.1).cell k, partBits_at _ _ _ _ (by omega), if_pos hlt]; simp
      have g2 : wr.cell? ⟨w.heap.size + 1, k + 64, none⟩ = some (.bool false) := by
        rw [(hw.out.2.1).cell (k + 64), partBits_at _ _ _ _ (by omega), if_neg (by omega)]; simp
      have f1 := (hw.out.2.1).free k
      have f2 := (hw.out.2.1).free (k + 64)
      have hd : decide ((k : Int) < 64) = true := by simp; omega
      obtain ⟨x, hx⟩ : ∃ x, L.testBit k = x := ⟨_, rfl⟩
      obtain ⟨y, hy⟩ : ∃ y, H.testBit k = y := ⟨_, rfl⟩
      rw [hx] at b1; rw [hy] at b2
      have Hx := Lib.hid hx; have Hy := Lib.hid hy; clear hx hy
      go_wp2
      obtain ⟨e1, e2, e3, e4⟩ := hqr.out
      obtain ⟨m1, m2, m3⟩ := hw.out
      refine ⟨⟨k + 1, q / 2, r / 2, by omega, by go_num, half_wrap q e3, half_wrap r e4, ⟨half_pow L k q e1, half_pow H k r e2, by omega, by omega⟩, ?_, ?_, ?_⟩, by simp [intOf]; omega⟩
      · exact (m1.other _ _ (by simp)).other _ _ (by simp)
      · rw [← Hx.out, ← Hy.out, ← partBits_next H L k hlt]
        exact (m2.set _ _).set _ _
      · exact (m3.setCell (by simp) _).setCell (by simp) _
    · obtain rfl : k = 64 := by omega
      have hd : decide (((64 : Nat) : Int) < 64) = false := by simp
      have HW : Hid (At wr (w.heap.size + 1) (row u)) := by rw [← HU.out]; exact hw.out.2.1
      clear hqr
      go_wp2_with (first | (refine wpList_load_row rfl 25 _ rfl (w.heap.size + 1) rfl 25 (row u) (0, 0) _ HW.out Try.underlying25 rfl (by rw [row_size]; exact sizeRow) ?_) | (refine wpList_store_row rfl 25 _ _ rfl w.heap.size (row u) rfl rfl 25 zeros hw.out.1 (by rw [row_size]; exact sizeRow) (by rw [row_size, zeros_size]) (row_one u) ?_))
      refine bodyPost_ret (v := .agg (row u)) (results_cell_row rfl _ _ w.heap.size 25 (row u) (0, 0) _ rfl (setRow_heap _ _ _ _ _ _ hw.out.1) Try.underlying25 rfl (by rw [row_size]; exact sizeRow)) rfl ⟨rfl, below_setRow hw.out.2.2 (Nat.le_refl _) _⟩
end Go.Proofs.Ytgkgdkdendmfnaa
