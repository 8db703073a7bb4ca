/- Layer 10: colours as functions of their places, quotients by 255, by 16 and by 65536, blocks of four cells, colours compared. -/
import Derived.Test.YtoppmlfibllhlaaM
namespace Go.Proofs.Ytoppmlfibllhlaa
open Go.RowKit
abbrev Col := Nat → Int
/-- Each of the four from 0 to 255. -/
def OkC (c : Col) : Prop := ∀ i, i < 4 → 0 ≤ c i ∧ c i ≤ 255
theorem OkC.all {c : Col} (h : OkC c) : (0 ≤ c 0 ∧ c 0 ≤ 255) ∧ (0 ≤ c 1 ∧ c 1 ≤ 255) ∧ (0 ≤ c 2 ∧ c 2 ≤ 255) ∧ 0 ≤ c 3 ∧ c 3 ≤ 255 := ⟨h 0 (by decide), h 1 (by decide), h 2 (by decide), h 3 (by decide)⟩
/-- a of b. -/
def ofI (a b : Int) : Int := (2 * (a * b) + 255) / 510
theorem rnd_255 (n : Int) : rnd n 255 = (2 * n + 255) / 510 := by unfold rnd; split <;> omega
theorem rnd_16 (n : Int) : rnd n 16 = (n + 8) / 16 := by unfold rnd; split <;> omega
theorem rnd_65536 (n : Int) : rnd n 65536 = (n + 32768) / 65536 := by unfold rnd; split <;> omega
theorem prod_in {a b A B : Int} (h0 : 0 ≤ a) (h1 : a ≤ A) (k0 : 0 ≤ b) (k1 : b ≤ B) : 0 ≤ a * b ∧ a * b ≤ a * B ∧ a * b ≤ A * b ∧ a * b ≤ A * B := by
  have h2 := Int.mul_nonneg h0 k0
  have h3 := Int.mul_le_mul_of_nonneg_left k1 h0
  have h4 := Int.mul_le_mul_of_nonneg_right h1 k0
  have h5 := Int.mul_le_mul_of_nonneg_left k1 (show 0 ≤ A by omega)
  exact ⟨h2, h3, h4, by omega⟩
theorem ofI_comm (a b : Int) : ofI a b = ofI b a := by unfold ofI; rw [Int.mul_comm a b]
theorem ofI_in {a b : Int} (h0 : 0 ≤ a) (h1 : a ≤ 255) (k0 : 0 ≤ b) (k1 : b ≤ 255) : 0 ≤ ofI a b ∧ ofI a b ≤ a ∧ ofI a b ≤ b ∧ ofI a b ≤ 255 := by
  obtain ⟨p0, p1, p2, _⟩ := prod_in h0 h1 k0 k1
  unfold ofI
  generalize a * b = p at *
  omega
theorem ofI_255 (a : Int) : ofI a 255 = a := by unfold ofI; omega
theorem ofI_0 (a : Int) : ofI a 0 = 0 := by unfold ofI; omega
theorem ofI_mono {a b t : Int} (h : a ≤ b) (ht : 0 ≤ t) : ofI t a ≤ ofI t b := by
  unfold ofI
  have := Int.mul_le_mul_of_nonneg_left h ht
  generalize t * a = p at *
  generalize t * b = q at *
  omega
/-- Four cells by a function. -/
def four (f : Nat → Value) : Array Value := #[f 0, f 1, f 2, f 3]
theorem four_at (f : Nat → Value) {k : Nat} (h : k < 4) : (four f)[k]? = some (f k) := by
  match k, h with
  | 0, _ => rfl
  | 1, _ => rfl
  | 2, _ => rfl
  | 3, _ => rfl
theorem four_set (f : Nat → Value) {k : Nat} (h : k < 4) (v : Value) : (four f).setIfInBounds k v = four (fun i => if i = k then v else f i) := by
  match k, h with
  | 0, _ => rfl
  | 1, _ => rfl
  | 2, _ => rfl
  | 3, _ => rfl
theorem four_congr {f g : Nat → Value} (h : ∀ i, i < 4 → f i = g i) : four f = four g := by unfold four; rw [h 0 (by decide), h 1 (by decide), h 2 (by decide), h 3 (by decide)]
/-- What lies in the cells behind k rounds: the first k new. -/
def upto (k : Nat) (new old : Col) : Col := fun i => if i < k then new i else old i
theorem upto_at (k : Nat) (new old : Col) : upto k new old k = old k := by unfold upto; rw [if_neg (Nat.lt_irrefl k)]
theorem upto_ge {k i : Nat} (new old : Col) (h : k ≤ i) : upto k new old i = old i := by unfold upto; rw [if_neg (by omega)]
theorem upto_lt {k i : Nat} (new old : Col) (h : i < k) : upto k new old i = new i := by unfold upto; rw [if_pos h]
abbrev c64 (c : Col) : Array Value := four fun i => .int .i64 (c i)
abbrev c8 (c : Col) : Array Value := four fun i => .int .u8 (c i)
theorem upto_set64 {k : Nat} (new old : Col) (h : k < 4) : (c64 (upto k new old)).setIfInBounds k (.int .i64 (new k)) = c64 (upto (k + 1) new old) := by
  rw [four_set _ h]
  refine four_congr fun i _ => ?_
  unfold upto
  by_cases e : i = k
  · subst e; rw [if_pos rfl, if_pos (Nat.lt_succ_self i)]
  · rw [if_neg e]
    by_cases e2 : i < k
    · rw [if_pos e2, if_pos (by omega)]
    · rw [if_neg e2, if_neg (by omega)]
theorem upto_set8 {k : Nat} (new old : Col) (h : k < 4) : (c8 (upto k new old)).setIfInBounds k (.int .u8 (new k)) = c8 (upto (k + 1) new old) := by
  rw [four_set _ h]
  refine four_congr fun i _ => ?_
  unfold upto
  by_cases e : i = k
  · subst e; rw [if_pos rfl, if_pos (Nat.lt_succ_self i)]
  · rw [if_neg e]
    by_cases e2 : i < k
    · rw [if_pos e2, if_pos (by omega)]
    · rw [if_neg e2, if_neg (by omega)]
theorem upto_none64 (new old : Col) : c64 (upto 0 new old) = c64 old := four_congr fun i _ => by unfold upto; rw [if_neg (by omega)]
theorem upto_full64 (new old : Col) : c64 (upto 4 new old) = c64 new := four_congr fun i h => by unfold upto; rw [if_pos h]
theorem upto_none8 (new old : Col) : c8 (upto 0 new old) = c8 old := four_congr fun i _ => by unfold upto; rw [if_neg (by omega)]
theorem upto_full8 (new old : Col) : c8 (upto 4 new old) = c8 new := four_congr fun i h => by unfold upto; rw [if_pos h]
theorem u8_i64 {x : Int} (h0 : 0 ≤ x) (h1 : x ≤ 255) : IntKind.i64.wrap x = x := by rw [wrap_is]; exact wrapR _ (by omega) (by omega)
theorem i64_u8 {x : Int} (h0 : 0 ≤ x) (h1 : x ≤ 255) : IntKind.u8.wrap x = x := by rw [IntKind.wrap_u8]; omega
/-- A block of four as its cells. -/
theorem Blk.c0 {w : World} {g : Nat} {t : TypeId} {f : Nat → Value} (h : Blk w g t (four f)) : w.cell? ⟨g, 0, none⟩ = some (f 0) ∧ w.cell? ⟨g, 1, none⟩ = some (f 1) ∧ w.cell? ⟨g, 2, none⟩ = some (f 2) ∧ w.cell? ⟨g, 3, none⟩ = some (f 3) := ⟨h.cell 0, h.cell 1, h.cell 2, h.cell 3⟩
theorem Blk.ck {w : World} {g : Nat} {t : TypeId} {f : Nat → Value} (h : Blk w g t (four f)) {k : Nat} (hk : k < 4) : w.cell? ⟨g, k, none⟩ = some (f k) := (h.cell k).trans (four_at f hk)
theorem ofI_le_255 (a b : Int) (ha : OkC fun _ => a) (hb : OkC fun _ => b) : ofI a b ≤ 255 := (ofI_in (ha 0 (by decide)).1 (ha 0 (by decide)).2 (hb 0 (by decide)).1 (hb 0 (by decide)).2).2.2.2
end Go.Proofs.Ytoppmlfibllhlaa

