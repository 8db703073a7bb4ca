/- The frame of a statement that makes a slice as long as the given one: how long a path can be. -/
import Derived.Test.YtbnbglngpgikfaaGreatDoorFx
import Derived.SizedLaws
namespace Go.Proofs.YtbnbglngpgikfaaGreatDoor
open Go.ChangeShapes Go.WideShapes Go.ChangeAt Go.RowKit Go.Deep
theorem bytesFS : Tryz.prog.bytesOf 53 = 56 := by kernel_rfl
theorem trod_len {H : Type} {enc : TypeId × Value → H} {W : World} {ao : Option Addr} {len cap fuel : Nat} {x : DataW H × List MemPlace} (h : DataW.trod enc Tryz.prog W 0 (fun _ => true) true fuel 22 [.slice ao len cap] = some x) :
    len = 0 ∨ ∃ elems spare, x.1 = .slice elems spare ∧ elems.length = len := by
  rcases open_slice Tryz.underlying22 h with ⟨hcs, _⟩ | ⟨a, len', cap', m, n, D, Pl, hcs, hb, hl, hm, hmm, hx, _⟩
  · simp at hcs
    exact .inl hcs.2.1
  · simp at hcs
    obtain ⟨rfl, rfl, rfl⟩ := hcs
    rw [hx]
    exact .inr ⟨_, _, rfl, by simp⟩
set_option maxRecDepth 100000 in
theorem open_segs_sized {H : Type} {enc : TypeId × Value → H} {W : World} {base : Nat} {v : Value} {d : DataW H} {p : List MemPlace} (hv : Value.okWide Tryz.prog W .any base 22 v) (h : DataW.Trod enc Tryz.prog W 0 (fun _ => true) true 22 v d p)
    {ts : List TypeId} {ds : List (DataW H)} (hsz : (DataW.weightsEach Tryz.prog ts ds).all (· ≤ reachBytes) = true) (ht : ts[0]? = some 22) (hd : ds[0]? = some d) :
    ∃ l : List Sg, RowS W v l ∧ l.length ≤ 2513169434843 := by
  obtain ⟨l, hl⟩ := open_segs hv h
  refine ⟨l, hl, ?_⟩
  obtain ⟨ao, c, rfl⟩ := hl.shape
  obtain ⟨fuel, hf⟩ := h
  rcases trod_len (by simpa [Value.cells] using hf) with h0 | ⟨elems, spare, he, hlen⟩
  · omega
  · have h2 := sized_slice hsz ht (by rw [hd]; exact congrArg some he) Tryz.underlying22
    rw [bytesFS] at h2
    unfold reachBytes at h2
    omega
end Go.Proofs.YtbnbglngpgikfaaGreatDoor
