/- Layer 12: package disk's disk in memory; what tells and changes one cell of it. -/
import Derived.Test.YtdcjchakgfpgaaaBb
import Derived.Test.YtdcjchakgfpgaaaBd
namespace Go.Proofs.Ytdcjchakgfpgaaa
open Go.RowKit
/-- What lies in memory for a disk: its sectors' size, all bytes as they were synced, the writes that wait, the reads, the counts; and where. -/
structure Kd where
  size : Int
  A : List Int
  L : List Wr
  R : List Int
  done : Int
  left : Int
  down : Bool
  sv : Value
  wv : Value
  rv : Value
def Kd.cells (x : Kd) : Array Value := #[.int .i64 x.size, x.sv, x.wv, x.rv, .int .i64 x.done, .int .i64 x.left, .bool x.down]
theorem Blk.k7 {w : World} {g : Nat} {x : Kd} (h : Blk w g 69 x.cells) : w.cell? ⟨g, 0, none⟩ = some (.int .i64 x.size) ∧ w.cell? ⟨g, 1, none⟩ = some x.sv ∧ w.cell? ⟨g, 2, none⟩ = some x.wv ∧ w.cell? ⟨g, 3, none⟩ = some x.rv ∧ w.cell? ⟨g, 4, none⟩ = some (.int .i64 x.done) ∧ w.cell? ⟨g, 5, none⟩ = some (.int .i64 x.left) ∧ w.cell? ⟨g, 6, none⟩ = some (.bool x.down) :=
  ⟨h.cell 0, h.cell 1, h.cell 2, h.cell 3, h.cell 4, h.cell 5, h.cell 6⟩
/-- The writes that wait, in a row of the disk's own. -/
def OwnK (w : World) (v : Value) (L : List Wr) : Prop := w.ownsRow 0 81 2 v L.length (flatW L)
theorem OwnK.row {w : World} {v : Value} {L : List Wr} (h : OwnK w v L) : RowW w v L := by
  have hr := h
  obtain ⟨_, ⟨rfl, hn⟩ | ⟨g, cap, cur, rfl, _, hg, hc, _, hs, ht⟩⟩ := h
  · exact .inl ⟨rfl, List.eq_nil_of_length_eq_zero hn⟩
  · refine .inr (.inr ⟨g, 0, cap, rfl, (Array.getElem?_eq_some_iff.1 hg).1, fun i p hp => ?_⟩)
    obtain ⟨e0, e1⟩ := flatW_at L i p hp
    have key := fun j u hj => World.ownsRow.cells hr (g := g) rfl j u hj
    have k0 := key _ _ e0
    have k1 := key _ _ e1
    rw [show (⟨g, 0, none⟩ : Addr).add (i * 2) = ⟨g, 0 + i * 2, none⟩ from Addr.add_lit ..] at k0
    rw [show (⟨g, 0, none⟩ : Addr).add (i * 2 + 1) = ⟨g, 0 + (i * 2 + 1), none⟩ from Addr.add_lit ..] at k1
    rw [← Nat.add_assoc] at k1
    exact ⟨k0, k1⟩
theorem OwnI.shape {w : World} {base : Nat} {v : Value} {E : List Int} (h : OwnI w base v E) : ∃ a c, v = .slice a E.length c := by
  obtain ⟨_, ⟨rfl, h0⟩ | ⟨g, cap, cur, rfl, _⟩⟩ := h
  · exact ⟨none, 0, by rw [h0]⟩
  · exact ⟨_, _, rfl⟩
/-- A disk in memory: its territory T holds the struct, the bytes, the writes, each write's bytes, the reads. -/
structure KAt (T : Nat → Prop) (w : World) (g : Nat) (x : Kd) : Prop where
  tg : T g
  lt : ∀ k, T k → k < w.heap.size
  blk : Blk w g 69 x.cells
  all : OwnB w 0 x.sv x.A
  ts : ∀ k, x.sv.ownBlock = some k → T k
  wait : OwnK w x.wv x.L
  tw : ∀ k, x.wv.ownBlock = some k → T k
  byts : ∀ y ∈ x.L, OwnB w 0 y.2.1 y.2.2 ∧ ∀ k, y.2.1.ownBlock = some k → T k ∧ x.sv.ownBlock ≠ some k
  reads : OwnI w 0 x.rv x.R
  tr : ∀ k, x.rv.ownBlock = some k → T k
theorem KAt.keep {T : Nat → Prop} {w w' : World} {g : Nat} {x : Kd} (h : KAt T w g x) (hk : Keep T w w') : KAt T w' g x :=
  ⟨h.tg, fun k hT => Nat.lt_of_lt_of_le (h.lt k hT) hk.size, hk.blk h.blk h.tg, owns_keep h.all hk h.ts, h.ts, owns_keep h.wait hk h.tw, h.tw, fun y hy => ⟨owns_keep (h.byts y hy).1 hk fun k e => ((h.byts y hy).2 k e).1, (h.byts y hy).2⟩, owns_keep h.reads hk h.tr, h.tr⟩
theorem KAt.grow {T : Nat → Prop} {w w' : World} {g : Nat} {x : Kd} (h : KAt T w g x) (hb : Below w.heap.size w w') : KAt T w' g x := h.keep (Keep.of_below hb)
theorem KAt.wide {T T' : Nat → Prop} {w : World} {g : Nat} {x : Kd} (h : KAt T w g x) (ht : ∀ k, T k → T' k) (hl : ∀ k, T' k → k < w.heap.size) : KAt T' w g x :=
  ⟨ht _ h.tg, hl, h.blk, h.all, fun k e => ht k (h.ts k e), h.wait, fun k e => ht k (h.tw k e), fun y hy => ⟨(h.byts y hy).1, fun k e => ⟨ht k ((h.byts y hy).2 k e).1, ((h.byts y hy).2 k e).2⟩⟩, h.reads, fun k e => ht k (h.tr k e)⟩
/-- Counts change, in the struct alone. -/
theorem KAt.cells {T : Nat → Prop} {w w' : World} {g : Nat} {x : Kd} (h : KAt T w g x) {done left : Int} {down : Bool} (hb : Blk w' g 69 (Kd.cells { x with done := done, left := left, down := down })) (hk : Keep (fun k => k ≠ g) w w') : KAt T w' g { x with done := done, left := left, down := down } :=
  ⟨h.tg, fun k hT => Nat.lt_of_lt_of_le (h.lt k hT) hk.size, hb, owns_keep h.all hk fun k e => fun hg => owns_off h.all h.blk (by decide) (hg ▸ e), h.ts, owns_keep h.wait hk fun k e => fun hg => owns_off h.wait h.blk (by decide) (hg ▸ e), h.tw, fun y hy => ⟨owns_keep (h.byts y hy).1 hk fun k e => fun hg => owns_off (h.byts y hy).1 h.blk (by decide) (hg ▸ e), (h.byts y hy).2⟩, owns_keep h.reads hk fun k e => fun hg => owns_off h.reads h.blk (by decide) (hg ▸ e), h.tr⟩
theorem KAt.waitR {T : Nat → Prop} {w : World} {g : Nat} {x : Kd} (h : KAt T w g x) : WaitR w x.wv x.L := ⟨h.wait.row, fun y hy => (h.byts y hy).1.row⟩
def mapW (L : List Wr) : List (Int × List Int) := L.map fun y => (y.1, y.2.2)
/-- What lies in memory is the model's disk. -/
structure Rel (x : Kd) (d : DM) : Prop where
  size : x.size = d.size
  all : x.A = d.safe
  wait : mapW x.L = d.wait
  reads : x.R = d.reads
  done : x.done = d.done
  down : x.down = d.down
  armed : d.armed = true → x.left = d.left
  free : d.armed = false → x.left < 0
  rng : rngI x.left
def At12 (T : Nat → Prop) (w : World) (g : Nat) (d : DM) : Prop := ∃ x, KAt T w g x ∧ Rel x d
theorem at_keep {T : Nat → Prop} {w w' : World} {g : Nat} {d : DM} (h : At12 T w g d) (hk : Keep T w w') : At12 T w' g d := by
  obtain ⟨x, hx, hr⟩ := h
  exact ⟨x, hx.keep hk, hr⟩
theorem at_lt {T : Nat → Prop} {w : World} {g : Nat} {d : DM} {k : Nat} (h : At12 T w g d) (hT : T k) : k < w.heap.size := by
  obtain ⟨x, hx, hr⟩ := h
  exact hx.lt k hT
theorem To.refl (T : Nat → Prop) (w : World) : To T w T w := ⟨Keep.refl _ _, fun _ h => .inl h⟩
theorem To.cell {T : Nat → Prop} {w w' : World} {g : Nat} (hg : T g) (hk : Keep (fun k => k ≠ g) w w') : To T w T w' := ⟨hk.mono fun _ h e => h (e ▸ hg), fun _ h => .inl h⟩
theorem To.below {T : Nat → Prop} {w w' : World} (hb : Below w.heap.size w w') : To T w T w' := ⟨Keep.of_below hb, fun _ h => .inl h⟩
set_option maxHeartbeats 4000000 in
set_option maxRecDepth 100000 in
theorem kSize_c (T : Nat → Prop) (w : World) (g : Nat) (d : DM) (h : At12 T w g d) (_ok : OkD d 1000) : Calls Try.prog 34 #[ptrD g] w fun e w' => e = .returned (.int .i64 d.size) ∧ Below w.heap.size w w' := by
  obtain ⟨x, hx, hr⟩ := h
  rw [← hr.size]
  obtain ⟨d0, d1, d2, d3, d4, d5, d6⟩ := hx.blk.k7
  clear hx hr
  go_enter Try.func34, Try.ntmps34
  go_wp2_with fail
  go_ret
  exact ⟨rfl, Below.refl _ _⟩
set_option maxHeartbeats 4000000 in
set_option maxRecDepth 100000 in
theorem kSectors_c (T : Nat → Prop) (w : World) (g : Nat) (d : DM) (h : At12 T w g d) (ok : OkD d 1000) : Calls Try.prog 33 #[ptrD g] w fun e w' => e = .returned (.int .i64 d.sectors) ∧ Below w.heap.size w w' := by
  obtain ⟨x, hx, hr⟩ := h
  obtain ⟨ra, rc, hrv⟩ := hx.reads.shape
  have e : (x.R.length : Int) = d.sectors := by rw [hr.reads]; exact ok.rlen
  rw [← e]
  obtain ⟨d0, d1, d2, d3, d4, d5, d6⟩ := hx.blk.k7
  rw [hrv] at d3
  clear hx hr e ok
  go_enter Try.func33, Try.ntmps33
  go_wp2_with fail
  go_ret
  exact ⟨rfl, Below.refl _ _⟩
set_option maxHeartbeats 4000000 in
set_option maxRecDepth 100000 in
theorem kArm_c (T : Nat → Prop) (w : World) (g : Nat) (d : DM) (n : Int) (h : At12 T w g d) (_ok : OkD d 1000) (hn : rngI n) : Calls Try.prog 23 #[ptrD g, .int .i64 n] w fun e w' => ∃ T', e = .returned (.tuple #[]) ∧ At12 T' w' g (armD d n) ∧ To T w T' w' := by
  obtain ⟨x, hx, hr⟩ := h
  have HX := Lib.hid (And.intro hx (And.intro hr hn))
  obtain ⟨d0, d1, d2, d3, d4, d5, d6⟩ := hx.blk.k7
  have f5 := hx.blk.free 5
  have lg := hx.blk.lt
  clear hx hr hn
  go_enter Try.func23, Try.ntmps23
  go_wp2_with fail
  go_end0
  have hk : Keep (fun k => k ≠ g) w (w.setCell ⟨g, 5, none⟩ (.int .i64 n)) := Keep.setCell _ _ _ (by simp)
  refine ⟨T, rfl, ⟨{ x with left := n }, HX.out.1.cells (done := x.done) (down := x.down) (HX.out.1.blk.set 5 (.int .i64 n)) hk, ?_⟩, To.cell HX.out.1.tg hk⟩
  have hr := HX.out.2.1
  exact ⟨hr.size, hr.all, hr.wait, hr.reads, hr.done, hr.down, fun _ => rfl, fun e => by simp [armD] at e; exact e, HX.out.2.2⟩
/-- Has the disk such a sector? -/
def hasK (n : Nat) (i : Int) : Bool := decide (0 ≤ i) && decide (i < (n : Int))
set_option maxHeartbeats 4000000 in
set_option maxRecDepth 100000 in
theorem kHas_c (w : World) (g : Nat) (x : Kd) (i : Int) (h : Blk w g 69 x.cells) (hv : ∃ a c, x.rv = .slice a x.R.length c) : Calls Try.prog 46 #[ptrD g, .int .i64 i] w fun e w' => e = .returned (.bool (hasK x.R.length i)) ∧ Below w.heap.size w w' := by
  obtain ⟨ra, rc, hrv⟩ := hv
  obtain ⟨d0, d1, d2, d3, d4, d5, d6⟩ := h.k7
  rw [hrv] at d3
  clear h
  generalize x.R.length = n at *
  have HB : Hid (hasK n i = (decide (0 ≤ i) && decide (i < (n : Int)))) := rfl
  rw [HB.out]
  by_cases h0 : 0 ≤ i
  · have e0 : decide (0 ≤ i) = true := by simpa using h0
    rw [e0]
    cases h1 : decide (i < (n : Int))
    · go_enter Try.func46, Try.ntmps46
      go_wp2_with fail
      go_ret
      exact ⟨rfl, Below.refl _ _⟩
    · go_enter Try.func46, Try.ntmps46
      go_wp2_with fail
      go_ret
      exact ⟨rfl, Below.refl _ _⟩
  · have e0 : decide (0 ≤ i) = false := by simpa using h0
    rw [e0]
    go_enter Try.func46, Try.ntmps46
    go_wp2_with fail
    go_ret
    exact ⟨rfl, Below.refl _ _⟩
/-- What a command makes of the counts, and its error. -/
def cmdK (x : Kd) : Kd := if x.left = 0 then { x with down := true } else if 0 < x.left then { x with done := x.done + 1, left := x.left - 1 } else { x with done := x.done + 1 }
def cmdE (l : Int) : Int := if l = 0 then 40 else 0
set_option maxHeartbeats 4000000 in
set_option maxRecDepth 100000 in
theorem kCommand_c (w : World) (g : Nat) (x : Kd) (K : Blk w g 69 x.cells) (hd : 0 ≤ x.done ∧ x.done ≤ 1000000) (hl : rngI x.left) : Calls Try.prog 47 #[ptrD g] w fun e w' => e = .returned (.int .i64 (cmdE x.left)) ∧ Blk w' g 69 (cmdK x).cells ∧ Keep (fun k => k ≠ g) w w' := by
  obtain ⟨d0, d1, d2, d3, d4, d5, d6⟩ := K.k7
  have f4 := K.free 4
  have f5 := K.free 5
  have f6 := K.free 6
  have lg := K.lt
  have HK := Lib.hid K
  have h1 : wrap64 (x.done + 1) = x.done + 1 := wrapR _ (by omega) (by omega)
  clear K hd
  by_cases hz : x.left = 0
  · have HE : Hid (cmdE x.left = 40 ∧ cmdK x = { x with down := true }) := ⟨by unfold cmdE; rw [if_pos hz], by unfold cmdK; rw [if_pos hz]⟩
    rw [HE.out.1, HE.out.2]
    rw [hz] at d5
    clear hz hl
    go_enter Try.func47, Try.ntmps47
    go_wp2_with fail
    go_ret
    exact ⟨rfl, HK.out.set 6 (.bool true), Keep.setCell _ _ _ (by simp)⟩
  · have hz' : (x.left == 0) = false := by simpa using hz
    by_cases hp : x.left > 0
    · have HE : Hid (cmdE x.left = 0 ∧ cmdK x = { x with done := x.done + 1, left := x.left - 1 }) := ⟨by unfold cmdE; rw [if_neg hz], by unfold cmdK; rw [if_neg hz, if_pos hp]⟩
      rw [HE.out.1, HE.out.2]
      have h2 : wrap64 (x.left - 1) = x.left - 1 := by obtain ⟨_, q⟩ := hl; exact wrapR _ (by omega) (by omega)
      have hp' : decide (x.left > 0) = true := by simpa using hp
      clear hz hl
      go_enter Try.func47, Try.ntmps47
      go_upto_region 6 with fail
      obtain ⟨w2, hw⟩ : ∃ WW, w.setCell ⟨g, 5, none⟩ (.int .i64 (x.left - 1)) = WW := ⟨_, rfl⟩
      have H2 : Hid (Blk w2 g 69 (Kd.cells { x with left := x.left - 1 }) ∧ Keep (fun k => k ≠ g) w w2) := by
        rw [← hw]
        exact ⟨HK.out.set 5 (.int .i64 (x.left - 1)), Keep.setCell _ _ _ (by simp)⟩
      rw [hw]
      clear hw d0 d1 d2 d3 d4 d5 d6 f4 f5 f6 lg HK
      obtain ⟨d0, d1, d2, d3, d4, d5, d6⟩ := H2.out.1.k7
      have f4 := H2.out.1.free 4
      have lg := H2.out.1.lt
      go_wp2_with fail
      go_ret
      exact ⟨rfl, H2.out.1.set 4 (.int .i64 (x.done + 1)), H2.out.2.trans (Keep.setCell _ _ _ (by simp))⟩
    · have HE : Hid (cmdE x.left = 0 ∧ cmdK x = { x with done := x.done + 1 }) := ⟨by unfold cmdE; rw [if_neg hz], by unfold cmdK; rw [if_neg hz, if_neg hp]⟩
      rw [HE.out.1, HE.out.2]
      have hp' : decide (x.left > 0) = false := by simpa using hp
      clear hz hl
      go_enter Try.func47, Try.ntmps47
      go_wp2_with fail
      go_ret
      exact ⟨rfl, HK.out.set 4 (.int .i64 (x.done + 1)), Keep.setCell _ _ _ (by simp)⟩
theorem KAt.cmd {T : Nat → Prop} {w w' : World} {g : Nat} {x : Kd} (h : KAt T w g x) (hb : Blk w' g 69 (cmdK x).cells) (hk : Keep (fun k => k ≠ g) w w') : KAt T w' g (cmdK x) := by
  unfold cmdK at *
  split at hb <;> rename_i hz
  · rw [if_pos hz]; exact h.cells hb hk
  · rw [if_neg hz]
    split at hb <;> rename_i hp
    · rw [if_pos hp]; exact h.cells hb hk
    · rw [if_neg hp]; exact h.cells (left := x.left) (down := x.down) hb hk
theorem Rel.cmd {x : Kd} {d : DM} (h : Rel x d) (hl : d.armed = true → 0 ≤ d.left) : Rel (cmdK x) (cmdD d).1 ∧ cmdE x.left = (cmdD d).2 := by
  unfold cmdD cmdK cmdE cmdOut
  obtain ⟨r1, r2⟩ := h.rng
  cases ha : d.armed
  · have hf := h.free ha
    simp only [show ¬ x.left = 0 by omega, show ¬ 0 < x.left by omega, if_false]
    exact ⟨⟨h.size, h.all, h.wait, h.reads, by simp [h.done], h.down, fun e => by simp at e, fun _ => hf, h.rng⟩, by simp⟩
  · have he := h.armed ha
    have h0 := hl ha
    by_cases hz : d.left = 0
    · simp only [show x.left = 0 by omega, hz, if_true]
      refine ⟨⟨h.size, h.all, h.wait, h.reads, by simpa using h.done, by simp, fun _ => by simp, fun e => by simp at e, ?_⟩, by simp⟩
      constructor <;> simp
    · simp only [show ¬ x.left = 0 by omega, show 0 < x.left by omega, hz, if_false, if_true]
      exact ⟨⟨h.size, h.all, h.wait, h.reads, by simp [h.done], by simpa using h.down, fun _ => by simp [he], fun e => by simp at e, by constructor <;> simp <;> omega⟩, by simp⟩
end Go.Proofs.Ytdcjchakgfpgaaa
