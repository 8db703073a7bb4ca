/- Layer 7: the document's polygons, in memory: rows of rows. -/
import Derived.Test.YtdidbejinfkhbaaDoorRa
import Derived.Test.YtdidbejinfkhbaaDoorTi
namespace Go.Proofs.YtdidbejinfkhbaaDoor
open Go.RowKit
theorem infoVR : (Tryd.prog.info? 30).map (fun i => (i.zero, i.size, i.bytes)) = some (some (.slice none 0 0), 1, 24) := by kernel_rfl
/-- What lies in memory while the document's polygons are laid. -/
structure RefM (w W : World) (b m cp : Nat) (c : List Pt) (u : Value) (L : List (List Pt)) : Prop where
  below : Below w.heap.size w W
  row : Own W w.heap.size 32 (.slice (some ⟨b, 0, none⟩) m cp) c
  polys : ∃ S, Polys W w.heap.size 30 32 u S ∧ S.map Prod.snd = L
theorem RefM.grow {w W W' : World} {b m cp : Nat} {c : List Pt} {u : Value} {L : List (List Pt)} (h : RefM w W b m cp c u L) (hb : Below W.heap.size W W') : RefM w W' b m cp c u L := by
  obtain ⟨S, hS, e⟩ := h.polys
  exact ⟨below_next h.below hb, h.row.grow hb, S, hS.grow hb, e⟩
theorem RefM.shape {w W : World} {b m cp : Nat} {c : List Pt} {u : Value} {L : List (List Pt)} (h : RefM w W b m cp c u L) : ∃ a cu, u = .slice a L.length cu := by
  obtain ⟨S, hS, e⟩ := h.polys
  rw [← e, List.length_map]
  exact polys_shape hS
theorem refs_append (w0 w : World) (ty : TypeId) (b m cp : Nat) (c : List Pt) (u : Value) (L : List (List Pt)) (hM : RefM w0 w b m cp c u L) (N : List (Value × List Pt)) (hN : ∀ x ∈ N, Own w w0.heap.size 32 x.1 x.2) (g k : Nat) (hk : k = N.length) (hB : Blk w g 30 (N.map Prod.fst).toArray) (hl : L.length + N.length ≤ 100000) :
    ∃ v' w', (Builtin.append_ #[44, 44] ty #[u, .slice (some ⟨g, 0, none⟩) k k]).run Tryd.prog w = .ok v' w' ∧ RefM w0 w' b m cp c v' (L ++ N.map Prod.snd) := by
  subst hk
  obtain ⟨S, hS, e⟩ := hM.polys
  have hlen : S.length = L.length := by rw [← e, List.length_map]
  obtain ⟨v', w', hr, ho, hg, _⟩ := run_append_poly w 44 ty 30 Tryd.underlying44 infoVR w0.heap.size u S.length (S.map Prod.fst) hS.row ⟨g, 0, none⟩ N.length N.length (N.map Prod.fst) (by rw [List.length_map])
    (fun j x hj => by
      rw [Addr.add_lit, Nat.zero_add, hB.cell j]
      simpa using hj)
    (fun x hx => by
      obtain ⟨y, hy, rfl⟩ := List.mem_map.1 hx
      obtain ⟨a, n, q, e⟩ := own_shape' (hN y hy)
      rw [e]; rfl) (by omega) hM.below.size
  refine ⟨v', w', hr, ?_, ?_, S ++ N, ?_, by rw [List.map_append, e]⟩
  · exact own_below hS.row hg hM.below (Nat.le_refl _) hM.below.size
  · exact World.ownsRow.kept hM.row hg (apart_types hM.row hS.row (by decide))
  · refine ⟨by rw [List.length_append, List.map_append]; exact ho, fun x hx => ?_⟩
    have key : Own w w0.heap.size 32 x.1 x.2 := by
      rcases List.mem_append.1 hx with h | h
      · exact hS.own x h
      · exact hN x h
    exact World.ownsRow.kept key hg (apart_types key hS.row (by decide))
theorem wp_append_refs {w0 w : World} {o : Oper} {a : Act} {K : Act → World → Prop} {Q : Exit → Act → World → Prop} (s x : Operand)
    (ho : o.op = .call { callee := .builtin .append, args := #[s, x], argTypes := #[44, 44] }) (b m cp : Nat) (c : List Pt) (u : Value) (L : List (List Pt)) (hs : a.eval s = u) (hM : RefM w0 w b m cp c u L)
    (N : List (Value × List Pt)) (hN : ∀ x ∈ N, Own w w0.heap.size 32 x.1 x.2) (g k : Nat) (hk : k = N.length) (hx : a.eval x = .slice (some ⟨g, 0, none⟩) k k) (hB : Blk w g 30 (N.map Prod.fst).toArray) (hl : L.length + N.length ≤ 100000)
    (h : ∀ v' w', RefM w0 w' b m cp c v' (L ++ N.map Prod.snd) → K (a.put o.dst v') w') : o.wp Tryd.prog a w K Q := by
  obtain ⟨v', w', hr, h1⟩ := refs_append w0 w o.type b m cp c u L hM N hN g k hk hB hl
  unfold Oper.wp execOp
  simp only [ho, resolve, invoke, builtin, Sem.run_bind, Sem.run_pure, Result.andThen_ok, List.map_toArray, List.map_cons, List.map_nil, hs, hx, hr]
  exact h v' w' h1
theorem wpList_append_refs {w0 w : World} {ops : Array Oper} {rest : List Oper} {o : Oper} {a : Act} {Q : Exit → Act → World → Prop} (hgd : o.guard = none) (s x : Operand)
    (ho : o.op = .call { callee := .builtin .append, args := #[s, x], argTypes := #[44, 44] }) (b m cp : Nat) (c : List Pt) (u : Value) (L : List (List Pt)) (hs : a.eval s = u) (hM : RefM w0 w b m cp c u L)
    (N : List (Value × List Pt)) (hN : ∀ x ∈ N, Own w w0.heap.size 32 x.1 x.2) (g k : Nat) (hk : k = N.length) (hx : a.eval x = .slice (some ⟨g, 0, none⟩) k k) (hB : Blk w g 30 (N.map Prod.fst).toArray) (hl : L.length + N.length ≤ 100000)
    (h : ∀ v' w', RefM w0 w' b m cp c v' (L ++ N.map Prod.snd) → wpList Tryd.prog ops Q rest (a.put o.dst v') w') : wpList Tryd.prog ops Q (o :: rest) a w := by
  refine wpList_plain hgd fun K hK => ?_
  exact wp_append_refs s x ho b m cp c u L hs hM N hN g k hk hx hB hl fun v' w' h1 => hK _ _ (h v' w' h1)
/-- What the document's Stroke answers. -/
def RPost (w : World) (ok : Bool) (L : List (List Pt)) (e : Ending) (w' : World) : Prop := ∃ v, e = .returned (.tuple #[v, .bool ok]) ∧ (ok = true → ∃ S, Polys w' w.heap.size 30 32 v S ∧ S.map Prod.snd = L) ∧ Below w.heap.size w w'
def roomL (L : List (List Pt)) : Bool := L.all fun l => l.all roomP
noncomputable def barsR (c : List Pt) (h : Int) : Nat → List (List Pt)
  | 0 => []
  | k + 1 => barsR c h k ++ [barI (c.getD k (0, 0)) (c.getD ((k + 1) % c.length) (0, 0)) h]
def discsR (c : List Pt) (h : Int) : Nat → List (List Pt)
  | 0 => []
  | k + 1 => discsR c h k ++ [discI (c.getD k (0, 0)) h]
def discsO (c : List Pt) (h : Int) : Nat → List (List Pt)
  | 0 => []
  | k + 1 => discsO c h k ++ (if 0 < k ∧ k < c.length - 1 then [discI (c.getD k (0, 0)) h] else [])
theorem barsR_len (c : List Pt) (h : Int) : ∀ k, (barsR c h k).length = k
  | 0 => rfl
  | k + 1 => by rw [barsR, List.length_append, barsR_len c h k]; rfl
theorem discsR_len (c : List Pt) (h : Int) : ∀ k, (discsR c h k).length = k
  | 0 => rfl
  | k + 1 => by rw [discsR, List.length_append, discsR_len c h k]; rfl
theorem discsO_len (c : List Pt) (h : Int) : ∀ k, (discsO c h k).length ≤ k
  | 0 => Nat.le_refl _
  | k + 1 => by
    have := discsO_len c h k
    rw [discsO, List.length_append]
    split
    · simp; omega
    · simp; omega
end Go.Proofs.YtdidbejinfkhbaaDoor
