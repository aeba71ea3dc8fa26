import Derived.Test.YtfemleimkbjehaaOwn3
namespace Go.Proofs.Ytfemleimkbjehaa
open Go.RowKit

/-- In w the slice value v is one of the nodes ns, in memory that W has not. -/
def OwnN (W w : World) (v : Value) (ns : List Nd) : Prop := w.ownsRow W.heap.size 32 5 v ns.length (nodeCells ns)

theorem nodeCells_snoc (ns : List Nd) (x : Nd) : nodeCells (ns ++ [x]) = nodeCells ns ++ x.cells := by simp [nodeCells]
theorem OwnN.nil (W w : World) : OwnN W w (.slice none 0 0) [] := World.ownsRow_nil _ _ _ _
theorem OwnN.bw {W a b : World} {v : Value} {ns : List Nd} (h : OwnN W a v ns) (hb : Bw a b) : OwnN W b v ns := ownsRow_bw h fun g hg => Below.block hb g hg
theorem OwnN.weaken {W V a : World} {v : Value} {ns : List Nd} (h : OwnN W a v ns) (hb : V.heap.size ≤ W.heap.size) : OwnN V a v ns := by
  obtain ⟨hl, h⟩ := h
  refine ⟨hl, ?_⟩
  rcases h with h | ⟨g, cap, cur, e, hg, r⟩
  · exact .inl h
  · exact .inr ⟨g, cap, cur, e, Nat.le_trans hb hg, r⟩
/-- A store into another block. -/
theorem OwnN.setOther {W a : World} {v u : Value} {ns : List Nd} {g k : Nat} (h : OwnN W a v ns) (hg : g < W.heap.size) : OwnN W (a.setCell ⟨g, k, none⟩ u) v ns := by
  obtain ⟨hl, h⟩ := h
  refine ⟨hl, ?_⟩
  rcases h with h | ⟨b, cap, cur, e, hb, hc, r⟩
  · exact .inl h
  · exact .inr ⟨b, cap, cur, e, hb, (Below.heap_setCell a ⟨g, k, none⟩ u b (by simp only; omega)).trans hc, r⟩
theorem OwnN.form {W w : World} {v : Value} {ns : List Nd} (h : OwnN W w v ns) : ∃ ad cap, v = .slice ad ns.length cap ∧ NodesAt w ad ns ∧ ns.length ≤ maxLen := by
  obtain ⟨hl, h'⟩ := id h
  rcases h' with ⟨e, h0⟩ | ⟨g, cap, cur, e, hg, hc, h1, h2, h3, h4⟩
  · refine ⟨none, 0, by rw [e, h0], fun i hi => absurd hi (by omega), by rw [h0]; exact Nat.zero_le _⟩
  · have hlt := (Array.getElem?_eq_some_iff.1 hc).1
    have hcells := World.ownsRow.cells h (g := g) (by rw [e]; rfl)
    refine ⟨some ⟨g, 0, none⟩, cap, e, fun i hi => ⟨g, 0, rfl, hlt, fun j hj => ?_⟩, by omega⟩
    have key : ∀ f, f < 5 → w.cell? ⟨g, 0 + j * 5 + f, none⟩ = (Nd.cells (ndn ns j))[f]? := by
      intro f hf
      have hs : ∃ u, (Nd.cells (ndn ns j))[f]? = some u := ⟨_, List.getElem?_eq_getElem (by simp [Nd.cells]; omega)⟩
      obtain ⟨u, hu⟩ := hs
      have := hcells (j * 5 + f) u (by rw [nodeCells_get ns j hj f hf]; exact hu)
      rw [Go.WideShapes.add_plain] at this
      rw [hu, ← this, Nat.add_assoc]
    have k0 := key 0 (by omega)
    rw [Nat.add_zero] at k0
    exact ⟨k0, key 1 (by omega), key 2 (by omega), key 3 (by omega), key 4 (by omega)⟩

theorem OwnN.nodes {W w : World} {ad : Option Addr} {n cap : Nat} {ns : List Nd} (h : OwnN W w (.slice ad n cap) ns) : NodesAt w ad ns := by
  obtain ⟨ad', c', e, hx, _⟩ := h.form
  simp at e
  obtain ⟨rfl, _, _⟩ := e
  exact hx

/-- 'append(v, x)' of one node, with what it leaves. -/
theorem appNd {ops : Array Oper} {rest : List Oper} {o : Oper} {a : Act} {Q : Exit → Act → World → Prop} (w : World) (hgd : o.guard = none) (s y : Operand)
    (ho : o.op = .call { callee := .builtin .append, args := #[s, y], argTypes := #[22, 22] }) (W : World) (v : Value) (ns : List Nd) (hs : a.eval s = v) (hown : OwnN W w v ns)
    (g c : Nat) (x : Nd) (hx : a.eval y = .slice (some ⟨g, 0, none⟩) 1 c) (hc : ∀ f, f < 5 → w.cell? ⟨g, f, none⟩ = x.cells[f]?) (hlen : ns.length + 1 ≤ 1000000) (hB : W.heap.size ≤ w.heap.size)
    (h : ∀ v' w', OwnN W w' v' (ns ++ [x]) → (∀ b k, b < W.heap.size → w'.cell? ⟨b, k, none⟩ = w.cell? ⟨b, k, none⟩) → (∀ b k, b < W.heap.size → w'.frozen? ⟨b, k, none⟩ = w.frozen? ⟨b, k, none⟩) → w.heap.size ≤ w'.heap.size →
      (∀ V, Bw V w → V.heap.size ≤ W.heap.size → Bw V w') → wpList Try.prog ops Q rest (a.put o.dst v') w') : wpList Try.prog ops Q (o :: rest) a w := by
  obtain ⟨i0, hi, hz0, hz1, hz2⟩ := info_parts Try.infoNode
  obtain ⟨v', w', hr, h2, h3, _⟩ := run_append_keep (P := Try.prog) w W.heap.size 22 o.type 32 i0 _ 5 40 Try.underlying22 hi hz0 hz1 hz2 rfl (by decide) v ns.length (nodeCells ns) hown ⟨g, 0, none⟩ 1 c x.cells (by omega) rfl
    (by intro j u hj
        have hj5 : j < 5 := (List.getElem?_eq_some_iff.1 hj).1
        have := hc j hj5
        rw [hj] at this
        refine add_cell ?_
        rw [Nat.zero_add]
        exact this)
    (by intro u hu; exact nodeCells_one [x] u (by simpa [nodeCells] using hu)) (by unfold maxLen; omega) (by omega) hB
  have hrow : ∀ b, b < W.heap.size → some b ≠ v.ownBlock := by
    intro b hb e
    have := (World.ownsRow.lt hown b e.symm).1
    omega
  refine wpList_plain hgd fun _ hK => ?_
  unfold Oper.wp execOp
  simp only [ho, resolve, invoke, builtin, Sem.run_bind, Sem.run_pure, Result.andThen_ok, List.map_toArray, List.map_cons, List.map_nil, hs, hx, hr]
  refine hK _ _ (h v' w' ?_ ?_ ?_ h3.size ?_)
  · unfold OwnN; rw [nodeCells_snoc]; simpa using h2
  · intro b k hb; exact World.cell?_of_block (a := ⟨b, k, none⟩) (h3.block b (Nat.lt_of_lt_of_le hb hB) (hrow b hb))
  · intro b k hb; exact World.frozen?_of_block (a := ⟨b, k, none⟩) (h3.block b (Nat.lt_of_lt_of_le hb hB) (hrow b hb))
  · intro V hV hle
    exact Below.grown hV h3 hV.size fun k hk => Nat.le_trans hle ((World.ownsRow.lt hown k hk).1)
theorem nodeCells_app (ns xs : List Nd) : nodeCells (ns ++ xs) = nodeCells ns ++ nodeCells xs := by simp [nodeCells]
/-- 'append(v, xs...)' of some nodes, with what it leaves. -/
theorem appNds {ops : Array Oper} {rest : List Oper} {o : Oper} {a : Act} {Q : Exit → Act → World → Prop} (w : World) (hgd : o.guard = none) (s y : Operand)
    (ho : o.op = .call { callee := .builtin .append, args := #[s, y], argTypes := #[22, 22] }) (W : World) (v : Value) (ns : List Nd) (hs : a.eval s = v) (hown : OwnN W w v ns)
    (g c : Nat) (xs : List Nd) (hx : a.eval y = .slice (some ⟨g, 0, none⟩) xs.length c) (h0 : 0 < xs.length) (hc : ∀ f u, (nodeCells xs)[f]? = some u → w.cell? ⟨g, f, none⟩ = some u) (hlen : ns.length + xs.length ≤ 1000000) (hB : W.heap.size ≤ w.heap.size)
    (h : ∀ v' w', OwnN W w' v' (ns ++ xs) → (∀ b k, b < W.heap.size → w'.cell? ⟨b, k, none⟩ = w.cell? ⟨b, k, none⟩) → (∀ b k, b < W.heap.size → w'.frozen? ⟨b, k, none⟩ = w.frozen? ⟨b, k, none⟩) → w.heap.size ≤ w'.heap.size →
      (∀ V, Bw V w → V.heap.size ≤ W.heap.size → Bw V w') → wpList Try.prog ops Q rest (a.put o.dst v') w') : wpList Try.prog ops Q (o :: rest) a w := by
  obtain ⟨i0, hi, hz0, hz1, hz2⟩ := info_parts Try.infoNode
  obtain ⟨v', w', hr, h2, h3, _⟩ := run_append_keep (P := Try.prog) w W.heap.size 22 o.type 32 i0 _ 5 40 Try.underlying22 hi hz0 hz1 hz2 rfl (by decide) v ns.length (nodeCells ns) hown ⟨g, 0, none⟩ xs.length c (nodeCells xs) h0 (nodeCells_len xs)
    (by intro j u hj
        refine add_cell ?_
        rw [Nat.zero_add]
        exact hc j u hj)
    (nodeCells_one xs) (by unfold maxLen; omega) (by omega) hB
  have hrow : ∀ b, b < W.heap.size → some b ≠ v.ownBlock := by
    intro b hb e
    have := (World.ownsRow.lt hown b e.symm).1
    omega
  refine wpList_plain hgd fun _ hK => ?_
  unfold Oper.wp execOp
  simp only [ho, resolve, invoke, builtin, Sem.run_bind, Sem.run_pure, Result.andThen_ok, List.map_toArray, List.map_cons, List.map_nil, hs, hx, hr]
  refine hK _ _ (h v' w' ?_ ?_ ?_ h3.size ?_)
  · unfold OwnN; rw [nodeCells_app]; simpa using h2
  · intro b k hb; exact World.cell?_of_block (a := ⟨b, k, none⟩) (h3.block b (Nat.lt_of_lt_of_le hb hB) (hrow b hb))
  · intro b k hb; exact World.frozen?_of_block (a := ⟨b, k, none⟩) (h3.block b (Nat.lt_of_lt_of_le hb hB) (hrow b hb))
  · intro V hV hle
    exact Below.grown hV h3 hV.size fun k hk => Nat.le_trans hle ((World.ownsRow.lt hown k hk).1)
end Go.Proofs.Ytfemleimkbjehaa
