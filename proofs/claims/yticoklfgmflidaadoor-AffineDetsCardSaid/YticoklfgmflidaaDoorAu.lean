/- Numbers for the law AffineDets. -/
import Derived.Test.YticoklfgmflidaaDoorAt
namespace Go.Proofs.YticoklfgmflidaaDoor
open Go.RowKit

theorem ofI_mul (p q : Int) (hp : I64 p) (hq : I64 q) : (ofI p * ofI q).toInt = p * q := by
  have h := mul_mod p q hp hq
  have b := toInt_bounds (ofI p * ofI q)
  unfold I64 at hp hq
  have c := prod_in p q 9223372036854775808 9223372036854775808 (by omega) (by omega)
  generalize (ofI p * ofI q).toInt = z at *
  generalize p * q = y at *
  omega
theorem detI_toInt (m : Mx) (ha : -1099511627776 ≤ m.a ∧ m.a ≤ 1099511627776) (hb : -1099511627776 ≤ m.b ∧ m.b ≤ 1099511627776) (hc : -1099511627776 ≤ m.c ∧ m.c ≤ 1099511627776) (hd : -1099511627776 ≤ m.d ∧ m.d ≤ 1099511627776) :
    (detI m).toInt = m.a * m.d - m.b * m.c := by
  have h1 := ofI_mul m.a m.d (by unfold I64; omega) (by unfold I64; omega)
  have h2 := ofI_mul m.b m.c (by unfold I64; omega) (by unfold I64; omega)
  have h3 := toInt_sub_mod (ofI m.a * ofI m.d) (ofI m.b * ofI m.c)
  have c1 := prod_in m.a m.d 1099511627776 1099511627776 ha hd
  have c2 := prod_in m.b m.c 1099511627776 1099511627776 hb hc
  have b := toInt_bounds (ofI m.a * ofI m.d - ofI m.b * ofI m.c)
  unfold detI
  rw [h1, h2] at h3
  generalize (ofI m.a * ofI m.d - ofI m.b * ofI m.c).toInt = z at *
  generalize m.a * m.d = y at *
  generalize m.b * m.c = x at *
  omega
theorem det_ring (a0 a1 a2 a3 b0 b1 b2 b3 : Int) : (65536 * (b0 * a0 + b2 * a1)) * (65536 * (b1 * a2 + b3 * a3)) - (65536 * (b1 * a0 + b3 * a1)) * (65536 * (b0 * a2 + b2 * a3)) = 4294967296 * ((a0 * a3 - a1 * a2) * (b0 * b3 - b1 * b2)) := by
  grind
theorem sq_ring (a0 a1 a2 a3 : Int) : (a0 * 65536) * (a3 * 65536) - (a1 * 65536) * (a2 * 65536) = 4294967296 * (a0 * a3 - a1 * a2) := by
  grind
theorem near_ring2 (a b c d : Int) : near16 ((b * 65536) * (a * 65536) + (d * 65536) * (c * 65536)) = 65536 * (b * a + d * c) := by
  have h : (b * 65536) * (a * 65536) + (d * 65536) * (c * 65536) = 4294967296 * (b * a + d * c) := by grind
  rw [h]
  unfold near16
  omega
def shM (a0 a1 a2 a3 : Int) : Mx := ⟨a0 * 65536, a1 * 65536, a2 * 65536, a3 * 65536, 0, 0⟩
/-- 200 at most. -/
def le200 (e : Int) : Prop := -200 ≤ e ∧ e ≤ 200
theorem det2_in (a0 a1 a2 a3 : Int) (h0 : le200 a0) (h1 : le200 a1) (h2 : le200 a2) (h3 : le200 a3) : -80000 ≤ a0 * a3 - a1 * a2 ∧ a0 * a3 - a1 * a2 ≤ 80000 := by
  have c1 := prod_in a0 a3 200 200 h0 h3
  have c2 := prod_in a1 a2 200 200 h1 h2
  omega
theorem sum2_in (a b c d : Int) (h0 : le200 a) (h1 : le200 b) (h2 : le200 c) (h3 : le200 d) : -80000 ≤ b * a + d * c ∧ b * a + d * c ≤ 80000 := by
  have c1 := prod_in b a 200 200 h1 h0
  have c2 := prod_in d c 200 200 h3 h2
  omega
theorem detM (a0 a1 a2 a3 : Int) (h0 : le200 a0) (h1 : le200 a1) (h2 : le200 a2) (h3 : le200 a3) : (detI (shM a0 a1 a2 a3)).toInt = 4294967296 * (a0 * a3 - a1 * a2) := by
  unfold le200 at h0 h1 h2 h3
  rw [detI_toInt _ (by unfold shM; dsimp only; omega) (by unfold shM; dsimp only; omega) (by unfold shM; dsimp only; omega) (by unfold shM; dsimp only; omega)]
  exact sq_ring a0 a1 a2 a3
theorem detT (a0 a1 a2 a3 b0 b1 b2 b3 : Int) (h0 : le200 a0) (h1 : le200 a1) (h2 : le200 a2) (h3 : le200 a3) (k0 : le200 b0) (k1 : le200 b1) (k2 : le200 b2) (k3 : le200 b3) :
    (I64 (thenI (shM a0 a1 a2 a3) (shM b0 b1 b2 b3)).a ∧ I64 (thenI (shM a0 a1 a2 a3) (shM b0 b1 b2 b3)).b ∧ I64 (thenI (shM a0 a1 a2 a3) (shM b0 b1 b2 b3)).c ∧ I64 (thenI (shM a0 a1 a2 a3) (shM b0 b1 b2 b3)).d) ∧
    (detI (thenI (shM a0 a1 a2 a3) (shM b0 b1 b2 b3))).toInt = 4294967296 * ((a0 * a3 - a1 * a2) * (b0 * b3 - b1 * b2)) := by
  have ea : (thenI (shM a0 a1 a2 a3) (shM b0 b1 b2 b3)).a = 65536 * (b0 * a0 + b2 * a1) := near_ring2 a0 b0 a1 b2
  have eb : (thenI (shM a0 a1 a2 a3) (shM b0 b1 b2 b3)).b = 65536 * (b1 * a0 + b3 * a1) := near_ring2 a0 b1 a1 b3
  have ec : (thenI (shM a0 a1 a2 a3) (shM b0 b1 b2 b3)).c = 65536 * (b0 * a2 + b2 * a3) := near_ring2 a2 b0 a3 b2
  have ed : (thenI (shM a0 a1 a2 a3) (shM b0 b1 b2 b3)).d = 65536 * (b1 * a2 + b3 * a3) := near_ring2 a2 b1 a3 b3
  have ia := sum2_in a0 b0 a1 b2 h0 k0 h1 k2
  have ib := sum2_in a0 b1 a1 b3 h0 k1 h1 k3
  have ic := sum2_in a2 b0 a3 b2 h2 k0 h3 k2
  have id := sum2_in a2 b1 a3 b3 h2 k1 h3 k3
  refine ⟨⟨by unfold I64; omega, by unfold I64; omega, by unfold I64; omega, by unfold I64; omega⟩, ?_⟩
  rw [detI_toInt _ (by omega) (by omega) (by omega) (by omega), ea, eb, ec, ed]
  exact det_ring a0 a1 a2 a3 b0 b1 b2 b3
theorem shr32 (u : BitVec 128) (z : Int) (h : u.toInt = 4294967296 * z) : (u.sshiftRight 32).toInt = z := by
  rw [shr_toInt, h]
  show 4294967296 * z / 4294967296 = z
  omega
end Go.Proofs.YticoklfgmflidaaDoor
