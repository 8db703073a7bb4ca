/- Layer 12: a disk's model; what package disk is to answer. -/
import Derived.Test.YtohmkmekdnfkoaaBa
namespace Go.Proofs.Ytohmkmekdnfkoaa
open Go.RowKit
/-- A disk: what is safe, the writes that wait, what was read of each sector. -/
structure DM where
  safe : List Int
  size : Int
  sectors : Int
  wait : List (Int × List Int)
  left : Int
  done : Int
  armed : Bool
  down : Bool
  reads : List Int
def nowM (size : Int) (s : List Int) (L : List (Int × List Int)) : List Int := L.foldl (fun a x => layB a x.2 (x.1 * size)) s
def nowD (d : DM) : List Int := nowM d.size d.safe d.wait
def hasD (d : DM) (i : Int) : Bool := decide (0 ≤ i) && decide (i < d.sectors)
def cmdD (d : DM) : DM × Int := ({ d with left := (cmdOut d.left d.done d.armed d.down).1.1, done := (cmdOut d.left d.done d.armed d.down).1.2.1, armed := (cmdOut d.left d.done d.armed d.down).1.2.2.1, down := (cmdOut d.left d.done d.armed d.down).1.2.2.2 }, (cmdOut d.left d.done d.armed d.down).2)
def writeD (d : DM) (i : Int) (b : List Int) : DM × Int :=
  if d.down = true then (d, 40) else if hasD d i = false then (d, 30) else if (b.length : Int) ≠ d.size then (d, 41) else cmdD { d with wait := d.wait ++ [(i, b)] }
def secD (d : DM) (i : Int) : List Int := ((nowD d).drop (i * d.size).toNat).take d.size.toNat
def readD (d : DM) (i : Int) : DM × Int × List Int :=
  if d.down = true then (d, 40, []) else if hasD d i = false then (d, 30, []) else ({ d with reads := d.reads.set i.toNat (d.reads.getD i.toNat 0 + 1) }, 0, secD d i)
def syncD (d : DM) : DM × Int :=
  if d.down = true then (d, 40) else if (cmdD d).2 = 0 then ({ (cmdD d).1 with safe := nowD d, wait := [] }, 0) else cmdD d
def armD (d : DM) (n : Int) : DM := { d with armed := decide (n ≥ 0), left := n }
/-- What a crash lays of a write. -/
def tornB (keep : List Bool) (torn cut : Int) (k : Nat) (b : List Int) : List Int := if (k : Int) = torn then b.take cut.toNat else if keep.getD k false = true then b else []
def crashM (keep : List Bool) (torn cut size : Int) : Nat → List (Int × List Int) → List Int → List Int
  | _, [], s => s
  | k, x :: l, s => crashM keep torn cut size (k + 1) l (layB s (tornB keep torn cut k x.2) (x.1 * size))
def crashD (d : DM) (keep : List Bool) (torn cut : Int) : DM :=
  { d with safe := crashM keep torn cut d.size 0 d.wait d.safe, wait := [], armed := false, down := false, reads := List.replicate d.reads.length 0 }
def readsD (d : DM) (i : Int) : Int := if hasD d i = true then d.reads.getD i.toNat 0 else 0
def newD (s z : Int) : DM := ⟨List.replicate (s * z).toNat 0, z, s, [], 0, 0, false, false, List.replicate s.toNat 0⟩
def diskOkI (s z : Int) : Prop := 1 ≤ s ∧ s ≤ 4096 ∧ 16 ≤ z ∧ z ≤ 512
/-- A disk that was made rightly, and not used more than m times. -/
structure OkD (d : DM) (m : Int) : Prop where
  made : diskOkI d.sectors d.size
  len : (d.safe.length : Int) = d.sectors * d.size
  few : d.safe.length ≤ 1000
  byts : OkB d.safe
  wait : ∀ x ∈ d.wait, 0 ≤ x.1 ∧ x.1 < d.sectors ∧ (x.2.length : Int) = d.size ∧ OkB x.2
  waits : (d.wait.length : Int) ≤ m
  left : d.armed = true → 0 ≤ d.left
  rng : -9223372036854775808 ≤ d.left ∧ d.left ≤ 9223372036854775807
  done : 0 ≤ d.done ∧ d.done ≤ m
  rlen : (d.reads.length : Int) = d.sectors
  reads : ∀ x ∈ d.reads, 0 ≤ x ∧ x ≤ m
/-- A slice of booleans. -/
def RowT (w : World) (s : Value) (E : List Bool) : Prop :=
  (s = .slice none 0 0 ∧ E = []) ∨ (∃ a c, s = .slice (some a) 0 c ∧ E = []) ∨ ∃ b o c, s = .slice (some ⟨b, o, none⟩) E.length c ∧ b < w.heap.size ∧ ∀ i x, E[i]? = some x → w.cell? ⟨b, o + i, none⟩ = some (.bool x)
theorem RowT.on {w w' : World} {s : Value} {E : List Bool} (h : RowT w s E) (hb : Below w.heap.size w w') : RowT w' s E := by
  rcases h with h | h | ⟨b, o, c, h1, h2, h3⟩
  · exact .inl h
  · exact .inr (.inl h)
  · exact .inr (.inr ⟨b, o, c, h1, Nat.lt_of_lt_of_le h2 hb.size, fun i x hx => by rw [cell_below hb h2]; exact h3 i x hx⟩)
def CapS (s : Value) : Prop := ∀ a n c, s = .slice a n c → n ≤ c
def rngI (z : Int) : Prop := -9223372036854775808 ≤ z ∧ z ≤ 9223372036854775807
theorem OwnB.cap {w : World} {base : Nat} {v : Value} {E : List Int} (h : OwnB w base v E) : CapS v := fun a n c e => by
  subst e
  obtain ⟨_, ⟨e, h0⟩ | ⟨g, cap, cur, e, _, _, hc, _⟩⟩ := h
  · cases e; exact Nat.le_refl _
  · cases e; exact hc
theorem OwnB.lt {w : World} {base : Nat} {v : Value} {E : List Int} (h : OwnB w base v E) : ∀ k, v.ownBlock = some k → base ≤ k ∧ k < w.heap.size := World.ownsRow.lt h
/-- A row of whole numbers that the call owns. -/
def OwnI (w : World) (base : Nat) (v : Value) (E : List Int) : Prop := w.ownsRow base 3 1 v E.length (E.map (Value.int .i64))
/-- A call changed a disk: nothing outside of its territory, and the territory grew by new memory alone. -/
structure To (T : Nat → Prop) (w : World) (T' : Nat → Prop) (w' : World) : Prop where
  keep : Keep (fun k => ¬ T k) w w'
  new : ∀ k, T' k → T k ∨ w.heap.size ≤ k
abbrev ptrD (g : Nat) : Value := .pointer (some ⟨g, 0, none⟩)
/-- What package disk is to answer, over whatever it keeps in memory. -/
structure DiskOk (At : (Nat → Prop) → World → Nat → DM → Prop) : Prop where
  keep : ∀ {T w w' g d}, At T w g d → Keep T w w' → At T w' g d
  lt : ∀ {T w g d k}, At T w g d → T k → k < w.heap.size
  new : ∀ (s z : Int) (w : World), diskOkI s z → Calls Try.prog 7 #[.int .i64 s, .int .i64 z] w fun e w' => ∃ T g, e = .returned (ptrD g) ∧ At T w' g (newD s z) ∧ Below w.heap.size w w' ∧ ∀ k, T k → w.heap.size ≤ k
  newBad : ∀ (s z : Int) (w : World), ¬ diskOkI s z → Calls Try.prog 7 #[.int .i64 s, .int .i64 z] w fun e w' => e = .returned (.pointer none) ∧ Below w.heap.size w w'
  write : ∀ T (w : World) g d (i : Int) (v : Value) (b : List Int), At T w g d → OkD d 1000 → rngI i → RowB w v b → CapS v → b.length ≤ 1000 → OkB b → (∀ k, v.ownBlock = some k → ¬ T k) → Calls Try.prog 18 #[ptrD g, .int .i64 i, v] w fun e w' => ∃ T', e = .returned (.int .i64 (writeD d i b).2) ∧ At T' w' g (writeD d i b).1 ∧ To T w T' w'
  read : ∀ T (w : World) g d (i : Int), At T w g d → OkD d 1000 → rngI i → Calls Try.prog 23 #[ptrD g, .int .i64 i] w fun e w' => ∃ T' v, e = .returned (.tuple #[v, .int .i64 (readD d i).2.1]) ∧ At T' w' g (readD d i).1 ∧ To T w T' w' ∧ OwnB w' w.heap.size v (readD d i).2.2 ∧ ∀ k, v.ownBlock = some k → ¬ T' k
  sync : ∀ T (w : World) g d, At T w g d → OkD d 1000 → Calls Try.prog 20 #[ptrD g] w fun e w' => ∃ T', e = .returned (.int .i64 (syncD d).2) ∧ At T' w' g (syncD d).1 ∧ To T w T' w'
  arm : ∀ T (w : World) g d (n : Int), At T w g d → OkD d 1000 → rngI n → Calls Try.prog 21 #[ptrD g, .int .i64 n] w fun e w' => ∃ T', e = .returned (.tuple #[]) ∧ At T' w' g (armD d n) ∧ To T w T' w'
  crash : ∀ T (w : World) g d (v : Value) (keep : List Bool) (torn cut : Int), At T w g d → OkD d 1000 → RowT w v keep → CapS v → keep.length ≤ 1000 → (keep.length ≠ 0 → ∀ k, v.ownBlock = some k → ¬ T k) → rngI torn → rngI cut → Calls Try.prog 22 #[ptrD g, v, .int .i64 torn, .int .i64 cut] w fun e w' => ∃ T', e = .returned (.tuple #[]) ∧ At T' w' g (crashD d keep torn cut) ∧ To T w T' w'
  waiting : ∀ T (w : World) g d, At T w g d → OkD d 1000 → Calls Try.prog 17 #[ptrD g] w fun e w' => ∃ v, e = .returned v ∧ OwnI w' w.heap.size v (d.wait.map Prod.fst) ∧ Below w.heap.size w w'
  reads : ∀ T (w : World) g d (i : Int), At T w g d → OkD d 1000 → rngI i → Calls Try.prog 24 #[ptrD g, .int .i64 i] w fun e w' => e = .returned (.int .i64 (readsD d i)) ∧ Below w.heap.size w w'
  done : ∀ T (w : World) g d, At T w g d → OkD d 1000 → Calls Try.prog 11 #[ptrD g] w fun e w' => e = .returned (.int .i64 d.done) ∧ Below w.heap.size w w'
  down : ∀ T (w : World) g d, At T w g d → OkD d 1000 → Calls Try.prog 12 #[ptrD g] w fun e w' => e = .returned (.bool d.down) ∧ Below w.heap.size w w'
  sectors : ∀ T (w : World) g d, At T w g d → OkD d 1000 → Calls Try.prog 13 #[ptrD g] w fun e w' => e = .returned (.int .i64 d.sectors) ∧ Below w.heap.size w w'
  size : ∀ T (w : World) g d, At T w g d → OkD d 1000 → Calls Try.prog 14 #[ptrD g] w fun e w' => e = .returned (.int .i64 d.size) ∧ Below w.heap.size w w'
  image : ∀ T (w : World) g d, At T w g d → OkD d 1000 → Calls Try.prog 15 #[ptrD g] w fun e w' => ∃ v, e = .returned v ∧ OwnB w' w.heap.size v (nowD d) ∧ Below w.heap.size w w'
variable {At : (Nat → Prop) → World → Nat → DM → Prop}
/-- A disk on the way, seen from where the call began. -/
structure St (At : (Nat → Prop) → World → Nat → DM → Prop) (w0 w : World) (T : Nat → Prop) (g : Nat) (d : DM) : Prop where
  at' : At T w g d
  far : ∀ k, T k → w0.heap.size ≤ k
  below : Below w0.heap.size w0 w
theorem St.grow (H : DiskOk At) {w0 w w' : World} {T : Nat → Prop} {g : Nat} {d : DM} (h : St At w0 w T g d) (hb : Below w.heap.size w w') : St At w0 w' T g d :=
  ⟨H.keep h.at' (Keep.of_below hb), h.far, h.below.trans (hb.mono h.below.size)⟩
theorem St.step {w0 w w' : World} {T T' : Nat → Prop} {g : Nat} {d d' : DM} (h : St At w0 w T g d) (ht : To T w T' w') (ha : At T' w' g d') : St At w0 w' T' g d' :=
  ⟨ha, fun k hk => (ht.new k hk).elim (h.far k) (Nat.le_trans h.below.size), h.below.trans (ht.keep.below (fun k hk hT => absurd (h.far k hT) (by omega)) h.below.size)⟩
/-- What was made since is no part of the disk. -/
theorem St.off (H : DiskOk At) {w0 w w' : World} {T : Nat → Prop} {g : Nat} {d : DM} (h : St At w0 w T g d) {v : Value} {E : List Int} (ho : OwnB w' w.heap.size v E) : ∀ k, v.ownBlock = some k → ¬ T k := fun k e hT => by
  have h1 := (ho.lt k e).1
  have h2 := H.lt h.at' hT
  omega
end Go.Proofs.Ytohmkmekdnfkoaa
