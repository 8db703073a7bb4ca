/- The statements' own 'in' over a row of points. -/
import Derived.Test.YtbllbncmeihaaaaGa
namespace Go.Proofs.Ytbllbncmeihaaaa
open Go.RowKit
/-- A point at hand in memory. -/
def PtAt (w : World) (g : Nat) (x y : Int) : Prop := w.heap[g]? = some (.cells #[.int .i64 x, .int .i64 y] 23 (0, 0))
theorem PtAt.c0 {w : World} {g : Nat} {x y : Int} (h : PtAt w g x y) : w.cell? ⟨g, 0, none⟩ = some (.int .i64 x) := Joins.cell_of_block h 0
theorem PtAt.c1 {w : World} {g : Nat} {x y : Int} (h : PtAt w g x y) : w.cell? ⟨g, 1, none⟩ = some (.int .i64 y) := Joins.cell_of_block h 1
theorem PtAt.free {w : World} {g : Nat} {x y : Int} (h : PtAt w g x y) (i : Nat) : w.frozen? ⟨g, i, none⟩ = false := Joins.unfrozen_of_block h i
theorem PtAt.on {w w' : World} {g : Nat} {x y : Int} {B : Nat} (h : PtAt w g x y) (hb : Below B w w') (hg : g < B) : PtAt w' g x y := by
  unfold PtAt; rw [hb.block g hg]; exact h

set_option maxHeartbeats 400000 in
set_option maxRecDepth 100000 in
theorem in_nil (w : World) : Calls Try.prog 10 #[.slice none 0 0] w fun e w' => e = .returned (.bool true) ∧ Below w.heap.size w w' := by
  go_enter Try.func10, Try.ntmps10
  go_wp2_with fail
  go_loopw [7] (fun i wr => i = .int .i64 0 ∧ Hid (wr = w)) (fun _ _ => 0)
  case atStart => exact ⟨rfl, rfl⟩
  case round =>
    obtain ⟨rfl, hw⟩ := hrel
    go_wp2_with fail
    go_ret
    exact ⟨rfl, by rw [hw.out]; go_grown⟩
set_option maxHeartbeats 400000 in
set_option maxRecDepth 100000 in
theorem in_none (a : Addr) (c : Nat) (w : World) : Calls Try.prog 10 #[.slice (some a) 0 c] w fun e w' => e = .returned (.bool true) ∧ Below w.heap.size w w' := by
  go_enter Try.func10, Try.ntmps10
  go_wp2_with fail
  go_loopw [7] (fun i wr => i = .int .i64 0 ∧ Hid (wr = w)) (fun _ _ => 0)
  case atStart => exact ⟨rfl, rfl⟩
  case round =>
    obtain ⟨rfl, hw⟩ := hrel
    go_wp2_with fail
    go_ret
    exact ⟨rfl, by rw [hw.out]; go_grown⟩
set_option maxHeartbeats 1000000 in
set_option maxRecDepth 100000 in
theorem in_some (w : World) (b o c : Nat) (l : List (Int × Int)) (hl : l.length ≤ 1000) (hb : b < w.heap.size) (hp : PtsAt w b o l) :
    Calls Try.prog 10 #[.slice (some ⟨b, o, none⟩) l.length c] w fun e w' => e = .returned (.bool (l.all roomP)) ∧ Below w.heap.size w w' := by
  have HX := Lib.hid (fun x : Int => refIn_c x)
  have HP := Lib.hid hp
  have HB := Lib.hid hb
  clear hp hb
  obtain ⟨n, hn⟩ : ∃ n, l.length = n := ⟨_, rfl⟩
  rw [hn] at hl ⊢
  have HN := Lib.hid hn
  clear hn
  go_enter Try.func10, Try.ntmps10
  go_wp2_with fail
  go_loopw [7] (fun i wr => ∃ k : Nat, k ≤ n ∧ i = .int .i64 k ∧ Hid ((l.take k).all roomP = true ∧ Below w.heap.size w wr)) (fun i _ => n - (intOf i).toNat)
  case atStart => exact ⟨0, by omega, rfl, by simp, Below.refl _ _⟩
  case round =>
    obtain ⟨k, hk, rfl, hw⟩ := hrel
    by_cases hlt : k < n
    · have hd : decide ((k : Int) < (n : Int)) = true := by simp; omega
      obtain ⟨⟨x, y⟩, hp⟩ : ∃ p, l[k]? = some p := ⟨_, List.getElem?_eq_getElem (by rw [HN.out]; exact hlt)⟩
      obtain ⟨c0, c1⟩ := (HP.out.on hw.out.2 HB.out) k (x, y) hp
      have Hp := Lib.hid hp
      clear hp
      simp only at c0 c1
      go_wp2_with fail
      have hnot : room x = false ∨ room y = false → l.all roomP = false := fun h => by
        rw [List.all_eq_false]
        exact ⟨(x, y), List.mem_of_getElem? Hp.out, by unfold roomP; rcases h with h | h <;> simp [h]⟩
      have hyes : room x = true → room y = true → (l.take (k + 1)).all roomP = true := fun h1 h2 => by
        rw [List.take_add_one, List.all_append, hw.out.1, Hp.out]
        simp [roomP, h1, h2]
      have HN' := Lib.hid hnot; have HY := Lib.hid hyes
      clear hnot hyes
      refine (HX.out _ _).mono ?_
      rintro e w' ⟨rfl, rfl⟩
      go_wp2_with fail
      · have hx : room x = true := by assumption
        refine (HX.out _ _).mono ?_
        rintro e w' ⟨rfl, rfl⟩
        go_wp2_with fail
        · rename_i hy
          go_ret
          rw [HN'.out (.inr (by simpa using hy))]
          exact ⟨rfl, hw.out.2.alloc hw.out.2.size _⟩
        · rename_i hy
          have B1 : Below w.heap.size w (wr.alloc (.cells #[.int .i64 x, .int .i64 y] 23)) := hw.out.2.alloc hw.out.2.size _
          exact ⟨⟨k + 1, by omega, by go_num, HY.out hx (by simpa using hy), B1⟩, by simp [intOf]; omega⟩
      · rename_i hx
        go_ret
        rw [HN'.out (.inl (by simpa using hx))]
        exact ⟨rfl, hw.out.2.alloc hw.out.2.size _⟩
    · have hd : decide ((k : Int) < (n : Int)) = false := by simp; omega
      have hkn : Hid (k = n) := by unfold Hid; omega
      go_wp2_with fail
      go_ret
      have := hw.out.1
      rw [hkn.out, ← HN.out, List.take_length] at this
      rw [this]
      exact ⟨rfl, hw.out.2⟩
theorem in_c (s : Value) (l : List (Int × Int)) (w : World) (hl : l.length ≤ 1000) (h : Row w s l) : Calls Try.prog 10 #[s] w fun e w' => e = .returned (.bool (l.all roomP)) ∧ Below w.heap.size w w' := by
  rcases h with ⟨rfl, rfl⟩ | ⟨a, c, rfl, rfl⟩ | ⟨b, o, c, rfl, hb, hp⟩
  · exact in_nil w
  · exact in_none a c w
  · exact in_some w b o c l hl hb hp
end Go.Proofs.Ytbllbncmeihaaaa
