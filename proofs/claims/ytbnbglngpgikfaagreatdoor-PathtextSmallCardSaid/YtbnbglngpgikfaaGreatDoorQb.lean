/- Layer 15: package pathtext: a word's end. -/
import Derived.Test.YtbnbglngpgikfaaGreatDoorQa
namespace Go.Proofs.YtbnbglngpgikfaaGreatDoor
open Go.RowKit Go.Shelf
attribute [local go_sem] Oper.semAt_some
def wdArgs (l : Wd) : Array Value := #[.string ⟨l.toArray⟩]
def cutW (l : Wd) (a b : Nat) : Wd := (l.drop a).take (b - a)
def endArgs (b nx bx g gy : Nat) : Array Value := #[.int .i64 (b : Int), .int .i64 (nx : Int), .pointer (some ⟨bx, 0, none⟩), .pointer (some ⟨g, 0, none⟩), .pointer (some ⟨gy, 0, none⟩)]
set_option maxHeartbeats 1000000 in
/-- Nothing has begun. -/
theorem end_no (l : Wd) (a nx bx g gy : Nat) (w : World) (hal : a ≤ l.length) (hs : w.cell? ⟨bx, 0, none⟩ = some (.string ⟨l.toArray⟩)) (hb : w.cell? ⟨g, 0, none⟩ = some (.int .i64 (a : Int))) (hf : w.frozen? ⟨g, 0, none⟩ = false) :
    Calls Tryz.prog 45 (endArgs a nx bx g gy) w fun e w' => e = .returned (.bool true) ∧ w' = w.setCell ⟨g, 0, none⟩ (.int .i64 (nx : Int)) := by
  have hcut := fun W => slice_str l a a (Nat.le_refl _) hal W
  rw [Nat.sub_self, List.take_zero] at hcut
  unfold endArgs
  go_enter Tryz.func45, Tryz.ntmps45
  go_wp2
  go_ret
  exact ⟨rfl, rfl⟩
set_option maxHeartbeats 1000000 in
/-- A word ends, and is yielded. -/
theorem end_yes (L : Nat) (l : Wd) (a b nx bx g gy : Nat) (v : Wd) (hv : cutW l a b = v) (hne : v ≠ []) (w : World) (hab : a ≤ b) (hbl : b ≤ l.length) (hs : w.cell? ⟨bx, 0, none⟩ = some (.string ⟨l.toArray⟩)) (hb : w.cell? ⟨g, 0, none⟩ = some (.int .i64 (a : Int))) (hf : w.frozen? ⟨g, 0, none⟩ = false)
    (hy : (w.setCell ⟨g, 0, none⟩ (.int .i64 (nx : Int))).cell? ⟨gy, 0, none⟩ = some (.func (.yield L) #[] #[])) (R : Bool → World → Prop)
    (hY : YieldAt Fence.wide 7 Tryz.prog L (wdArgs v) (w.setCell ⟨g, 0, none⟩ (.int .i64 (nx : Int))) fun e B => ∃ t, e = .returned (.bool t) ∧ R t B) :
    CallsIn Fence.wide 8 Tryz.prog 45 (endArgs b nx bx g gy) w fun e B => ∃ t, e = .returned (.bool t) ∧ R t B := by
  have hcut := fun W => slice_str l a b hab hbl W
  rw [show (l.drop a).take (b - a) = v from hv] at hcut
  have hvv : (v == ([] : Wd)) = false := by simpa using hne
  obtain ⟨fn, tmps, assign, body, hyd, hR⟩ := hY
  have HR := Lib.hid hR
  clear hR hv hne hbl hab
  unfold endArgs
  simp only [wdArgs] at hyd
  refine callsIn_of_wp Tryz.func45 rfl trivial ?_ rfl
  simp only [Tryz.ntmps45, List.size_toArray, List.length_cons, List.length_nil, Nat.reduceAdd, Nat.reduceSub, Array.replicate_succ, Array.replicate_zero, List.push_toArray, List.append_toArray, List.nil_append, List.cons_append]
  gi_wp2
  refine HR.out.mono ?_
  rintro e B ⟨t, rfl, hB⟩
  gi_wp2
  go_ret
  exact ⟨t, rfl, hB⟩
end Go.Proofs.YtbnbglngpgikfaaGreatDoor
