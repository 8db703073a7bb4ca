/- Rows of 128 bits: Less of the document's own (limnerref02). -/
import Derived.Test.YtgkgdkdendmfnaaG
namespace Go.Proofs.Ytgkgdkdendmfnaa
open Go.RowKit

theorem nat_less {u v : BitVec 128} (m : Nat) (hu : u.getLsbD m = false) (hv : v.getLsbD m = true) (h : ∀ j, m < j → j < 128 → u.getLsbD j = v.getLsbD j) : u.toNat < v.toNat := by
  have e : u.toNat / 2 ^ m / 2 = v.toNat / 2 ^ m / 2 := by
    rw [Nat.div_div_eq_div_mul, Nat.div_div_eq_div_mul, ← Nat.pow_succ]
    apply Nat.eq_of_testBit_eq
    intro i
    rw [Nat.testBit_div_two_pow, Nat.testBit_div_two_pow]
    by_cases h128 : i + (m + 1) < 128
    · exact h _ (by omega) h128
    · rw [show u.toNat.testBit (i + (m + 1)) = u.getLsbD (i + (m + 1)) from rfl, show v.toNat.testBit (i + (m + 1)) = v.getLsbD (i + (m + 1)) from rfl, BitVec.getLsbD_of_ge _ _ (by omega), BitVec.getLsbD_of_ge _ _ (by omega)]
  have eu : u.toNat / 2 ^ m % 2 = 0 := by
    have h1 : u.toNat.testBit m = false := hu
    rw [Nat.testBit_eq_decide_div_mod_eq] at h1
    have := of_decide_eq_false h1
    omega
  have ev : v.toNat / 2 ^ m % 2 = 1 := by
    have h1 : v.toNat.testBit m = true := hv
    rw [Nat.testBit_eq_decide_div_mod_eq] at h1
    exact of_decide_eq_true h1
  exact Nat.lt_of_div_lt_div (c := 2 ^ m) (by omega)
theorem less_top (u v : BitVec 128) (h : u.getLsbD 127 ≠ v.getLsbD 127) : u.slt v = u.getLsbD 127 := by
  rw [BitVec.slt_eq_ult, BitVec.msb_eq_getLsbD_last, BitVec.msb_eq_getLsbD_last]
  cases hu : u.getLsbD 127 <;> cases hv : v.getLsbD 127
  · rw [hu, hv] at h; exact absurd rfl h
  · have := nat_less (u := u) (v := v) 127 hu hv (fun j h1 h2 => by omega)
    have e : u.ult v = true := by simp [BitVec.ult, this]
    rw [e]; rfl
  · have := nat_less (u := v) (v := u) 127 hv hu (fun j h1 h2 => by omega)
    have e : u.ult v = false := by simp [BitVec.ult]; omega
    rw [e]; rfl
  · rw [hu, hv] at h; exact absurd rfl h
theorem less_at (u v : BitVec 128) (m : Nat) (h127 : u.getLsbD 127 = v.getLsbD 127) (h : ∀ j, m < j → j < 128 → u.getLsbD j = v.getLsbD j) (hne : u.getLsbD m ≠ v.getLsbD m) : u.slt v = v.getLsbD m := by
  rw [BitVec.slt_eq_ult, BitVec.msb_eq_getLsbD_last, BitVec.msb_eq_getLsbD_last]
  have e0 : (u.getLsbD (128 - 1) != v.getLsbD (128 - 1)) = false := by rw [show 128 - 1 = 127 from rfl, h127]; exact bne_self_eq_false _
  rw [e0]
  cases hu : u.getLsbD m <;> cases hv : v.getLsbD m
  · rw [hu, hv] at hne; exact absurd rfl hne
  · have := nat_less (u := u) (v := v) m hu hv h
    have e : u.ult v = true := by simp [BitVec.ult, this]
    rw [e]; rfl
  · have := nat_less (u := v) (v := u) m hv hu (fun j h1 h2 => (h j h1 h2).symm)
    have e : u.ult v = false := by simp [BitVec.ult]; omega
    rw [e]; rfl
  · rw [hu, hv] at hne; exact absurd rfl hne
theorem less_none (u v : BitVec 128) (h : ∀ j, j < 128 → u.getLsbD j = v.getLsbD j) : u.slt v = false := by
  have e : u = v := BitVec.eq_of_getLsbD_eq fun i hi => h i hi
  subst e
  simp [BitVec.slt]
#print axioms less_at
theorem below_drewN {B : Nat} {a w : World} (h : Below B a w) (n : Nat) : Below B a (w.drewN n) := h.trans ⟨rfl, rfl, rfl, Nat.le_refl _, fun _ _ => rfl⟩
theorem At.drewN {w : World} {g : Nat} {cs : Array Value} (h : At w g cs) (n : Nat) : At (w.drewN n) g cs := h
set_option maxHeartbeats 1000000 in
set_option maxRecDepth 100000 in
theorem less_any (u v : BitVec 128) (w : World) :
    Calls Try.prog 22 #[.agg (row u), .agg (row v)] w fun e w' => e = .returned (.bool (u.slt v)) ∧ Below w.heap.size w w' := by
  have HA : Hid (∀ i, i < 128 → (row u)[i]? = some (.bool (u.getLsbD i))) := fun i hi => row_at u i hi
  have HB : Hid (∀ i, i < 128 → (row v)[i]? = some (.bool (v.getLsbD i))) := fun i hi => row_at v i hi
  generalize row u = ru at *
  generalize row v = rv at *
  obtain ⟨h1, h2, h3⟩ := two w ru rv
  have g1 := h1.cell 127
  have g2 := h2.cell 127
  rw [HA.out 127 (by omega)] at g1
  rw [HB.out 127 (by omega)] at g2
  obtain ⟨R, hR⟩ : ∃ R, R = u.slt v := ⟨_, rfl⟩
  rw [← hR]
  have HR := Lib.hid hR; clear hR
  have H1 := Lib.hid h1; have H2 := Lib.hid h2; have H3 := Lib.hid h3; clear h1 h2 h3
  by_cases htop : u.getLsbD 127 = v.getLsbD 127
  · generalize hx : u.getLsbD 127 = x at *
    rw [← htop] at g2
    have HX : Hid (u.getLsbD 127 = x ∧ v.getLsbD 127 = x) := ⟨hx, htop.symm⟩
    clear hx htop
    go_enter Try.func22, Try.ntmps22
    go_wp2_with fail
    have Hbase : Hid (w.heap.size = w.heap.size) := rfl
    generalize ((w.alloc (.cells ru 25)).alloc (.cells rv 25)) = w0 at *
    go_loopw [5] (fun i wr => ∃ z : Int, i = .int .i64 z ∧ -1 ≤ z ∧ z ≤ 126 ∧ Hid (∀ j : Nat, z < (j : Int) → j < 128 → u.getLsbD j = v.getLsbD j) ∧ Hid (At wr w.heap.size ru ∧ At wr (w.heap.size + 1) rv ∧ Below w.heap.size w wr)) (fun i _ => (intOf i + 1).toNat)
    case atStart =>
      refine ⟨126, rfl, by omega, by omega, ?_, H1.out, H2.out, H3.out⟩
      intro j h1 h2
      obtain rfl : j = 127 := by omega
      rw [HX.out.1, HX.out.2]
    case round =>
      obtain ⟨z, rfl, z0, z1, hall, hw⟩ := hrel
      clear g1 g2
      by_cases hz : 0 ≤ z
      · obtain ⟨m, rfl⟩ := Int.eq_ofNat_of_zero_le hz
        have hm : m < 128 := by omega
        have g1 : wr.cell? ⟨w.heap.size, m, none⟩ = some (.bool (u.getLsbD m)) := by rw [(hw.out.1).cell m]; exact HA.out m hm
        have g2 : wr.cell? ⟨w.heap.size + 1, m, none⟩ = some (.bool (v.getLsbD m)) := by rw [(hw.out.2.1).cell m]; exact HB.out m hm
        have hd : decide ((m : Int) ≥ 0) = true := by simp
        have i1 : (m : Int) < 128 := by omega
        have HE : Hid (u.getLsbD m = v.getLsbD m → ∀ j : Nat, ((m : Int) - 1) < (j : Int) → j < 128 → u.getLsbD j = v.getLsbD j) := by
          intro e j h1 h2
          by_cases hj : j = m
          · subst hj; exact e
          · exact hall.out j (by omega) h2
        have HNE : Hid (u.getLsbD m ≠ v.getLsbD m → R = v.getLsbD m) := by
          intro e
          rw [HR.out]
          exact less_at u v m (HX.out.1.trans HX.out.2.symm) (fun j h1 h2 => hall.out j (by omega) h2) e
        clear HA HB HR hm
        generalize u.getLsbD m = x at *
        generalize v.getLsbD m = y at *
        by_cases hxy : x = y
        · subst hxy
          have b1 : (x == x) = true := by simp
          go_wp2_with fail
          go_quiet (fail)
          go_wp2_with fail
          obtain ⟨m1, m2, m3⟩ := hw.out
          refine ⟨⟨(m : Int) - 1, rfl, by omega, by omega, (by first | exact HE.out rfl | exact HE.out trivial), m1.drewN _, m2.drewN _, below_drewN m3 _⟩, by simp [intOf]⟩
        · have b1 : (x == y) = false := by simp [hxy]
          go_wp2_with fail
          go_quiet (fail)
          go_wp2_with fail
          go_ret
          exact ⟨congrArg (fun b => Ending.returned (.bool b)) (HNE.out hxy).symm, below_drewN hw.out.2.2 _⟩
      · obtain rfl : z = -1 := by omega
        have HQ : Hid (R = false) := by
          unfold Hid; rw [HR.out]
          exact less_none u v fun j hj => hall.out j (by omega) hj
        clear HA HB HR
        go_wp2
        go_ret
        exact ⟨congrArg (fun b => Ending.returned (.bool b)) HQ.out.symm, hw.out.2.2⟩
  · have HQ : Hid (R = u.getLsbD 127) := by unfold Hid; rw [HR.out]; exact less_top u v htop
    generalize u.getLsbD 127 = x at *
    generalize v.getLsbD 127 = y at *
    have b1 : (x == y) = false := by simp [htop]
    clear htop
    go_enter Try.func22, Try.ntmps22
    go_wp2
    go_ret
    exact ⟨congrArg (fun b => Ending.returned (.bool b)) HQ.out.symm, H3.out⟩
end Go.Proofs.Ytgkgdkdendmfnaa
