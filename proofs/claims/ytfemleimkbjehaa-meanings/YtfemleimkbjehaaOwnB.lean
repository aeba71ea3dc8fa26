import Derived.Test.YtfemleimkbjehaaLaw4
import Derived.Deep.Upon
namespace Go.Proofs.Ytfemleimkbjehaa
open Go.RowKit

theorem Own.pos {W w : World} {v : Value} {xs : List Int} (h : Own W w v xs) (h0 : 0 < xs.length) : ∃ g cap, v = .slice (some ⟨g, 0, none⟩) xs.length cap ∧ W.heap.size ≤ g ∧ g < w.heap.size ∧ (∀ o, w.frozen? ⟨g, o, none⟩ = false) ∧ ∀ j, j < xs.length → w.cell? ⟨g, j, none⟩ = some (.int .i64 (nth xs j)) := by
  obtain ⟨hl, h'⟩ := id h
  rcases h' with ⟨e, h0'⟩ | ⟨g, cap, cur, e, hg, hc, h1, h2, h3, h4⟩
  · omega
  · refine ⟨g, cap, e, hg, (Array.getElem?_eq_some_iff.1 hc).1, fun o => frozen_of_block hc, ?_⟩
    obtain ⟨ad, cap', e', hx, _⟩ := h.form
    intro j hj
    obtain ⟨b, off, ea, _, hcc⟩ := hx j hj
    rw [e] at e'
    simp at e'
    obtain ⟨rfl, rfl⟩ := e'
    simp at ea
    obtain ⟨rfl, rfl⟩ := ea
    simpa using hcc j hj

theorem Own.new {W a a' b : World} {g : Nat} {v : Value} {xs : List Int} (h : Own W a v xs) (ha : Bw a a') (hg : a.heap.size ≤ g) (hb : Kp g a' b) : Own W b v xs := by
  obtain ⟨hl, h⟩ := h
  refine ⟨hl, ?_⟩
  rcases h with h | ⟨k, cap, cur, e, hk, hc, r⟩
  · exact .inl h
  · have hlt := (Array.getElem?_eq_some_iff.1 hc).1
    exact .inr ⟨k, cap, cur, e, hk, (World.grownBy.block hb k (Nat.lt_of_lt_of_le hlt ha.size) (by simp; omega)).trans ((Below.block ha k hlt).trans hc), r⟩

theorem Own.set {W w : World} {g cap k : Nat} {xs : List Int} (h : Own W w (.slice (some ⟨g, 0, none⟩) xs.length cap) xs) (n : Int) (_hk : k < xs.length) :
    Own W (w.setCell ⟨g, k, none⟩ (.int .i64 n)) (.slice (some ⟨g, 0, none⟩) xs.length cap) (xs.set k n) := by
  obtain ⟨hl, h⟩ := h
  rcases h with ⟨e, _⟩ | ⟨g', cap', cur, e, hg, hc, h1, h2, h3, h4⟩
  · cases e
  · simp at e
    obtain ⟨rfl, rfl⟩ := e
    refine ⟨by simp, .inr ⟨g, cap, cur.setIfInBounds k (.int .i64 n), by simp, hg, ?_, by simpa using h1, h2, by simpa using h3, ?_⟩⟩
    · rw [setCell_eq_setRow w g k cur 3 (0, 0) _ hc]
      exact setRow_heap w g cur _ _ _ hc
    · simp only [Nat.mul_one] at h4
      rw [Array.toList_setIfInBounds, List.length_set, Nat.mul_one, List.take_set, h4, List.map_set]

theorem Own.kp {W a b : World} {g : Nat} {v : Value} {xs : List Int} (h : Own W a v xs) (hg : g < W.heap.size) (hb : Kp g a b) : Own W b v xs := by
  obtain ⟨hl, h⟩ := h
  refine ⟨hl, ?_⟩
  rcases h with h | ⟨k, cap, cur, e, hk, hc, r⟩
  · exact .inl h
  · exact .inr ⟨k, cap, cur, e, hk, (World.grownBy.block hb k (Array.getElem?_eq_some_iff.1 hc).1 (by simp; omega)).trans hc, r⟩
theorem Bw.kp {W a b : World} {g : Nat} (h : Bw W a) (hg : W.heap.size ≤ g) (hb : Kp g a b) : Bw W b :=
  Below.grown h hb h.size (by intro k hk; simp at hk; omega)
theorem Own.setOther {V w : World} {g k : Nat} {u n : Value} {ys : List Int} (h : Own V w u ys) (hg : g < V.heap.size) : Own V (w.setCell ⟨g, k, none⟩ n) u ys :=
  h.kp hg ((Kp.refl g w).setCell n)
def roomed (L : List Int) (k : Nat) : List Int := List.replicate k (-77) ++ L.drop k
theorem roomed_len {L : List Int} {k : Nat} (h : k ≤ L.length) : (roomed L k).length = L.length := by simp [roomed]; omega
theorem roomed_set {L : List Int} {k : Nat} (h : k < L.length) : (roomed L k).set k (-77) = roomed L (k + 1) := by
  unfold roomed
  rw [List.set_append_right _ _ (by simp)]
  simp only [List.length_replicate, Nat.sub_self]
  rw [List.drop_eq_getElem_cons h, List.set_cons_zero, List.replicate_succ', List.append_assoc]
  rfl
theorem roomed_all (L : List Int) : roomed L L.length = List.replicate L.length (-77) := by simp [roomed]
theorem nth_replicate {n j : Nat} (h : j < n) : nth (List.replicate n (-77)) j = -77 := by rw [nth_lt (by simpa using h)]; simp
theorem ints_src {w : World} {xs : List Int} {b off : Nat} (hc : ∀ j, j < xs.length → w.cell? ⟨b, off + j, none⟩ = some (.int .i64 (nth xs j))) : ∀ j u, (xs.map (Value.int .i64))[j]? = some u → w.cell? ((⟨b, off, none⟩ : Addr).add j) = some u := by
  intro j u hj
  have hjl : j < xs.length := by
    by_cases hjl : j < xs.length
    · exact hjl
    · rw [List.getElem?_eq_none (by simp; omega)] at hj; cases hj
  rw [List.getElem?_map, List.getElem?_eq_getElem hjl, Option.map_some, Option.some_inj] at hj
  subst hj
  rw [← nth_lt hjl]
  exact add_cell (hc j hjl)
theorem own_copied {W w : World} {L : List Int} (h : w.heap[W.heap.size]? = some (.cells (L.map (Value.int .i64) ++ (madeCells #[.int .i64 0] L.length).toList.drop (L.map (Value.int .i64)).length).toArray 3 (0, 0))) (hl : L.length ≤ maxLen) :
    Own W w (.slice (some ⟨W.heap.size, 0, none⟩) L.length L.length) L := by
  refine ⟨by simp, .inr ⟨W.heap.size, L.length, _, rfl, Nat.le_refl _, h, Nat.le_refl _, hl, by simp [size_madeCells], ?_⟩⟩
  simp
theorem Own.ints {W w : World} {ad : Option Addr} {n cap : Nat} {xs : List Int} (h : Own W w (.slice ad n cap) xs) : IntsAt w ad xs ∧ n = xs.length := by
  obtain ⟨ad', c', e, hx, _⟩ := h.form
  simp at e
  obtain ⟨rfl, rfl, _⟩ := e
  exact ⟨hx, rfl⟩
/-- All places of a slice hold what a caller has behind its own. -/
def RoomAt (w : World) (ad : Option Addr) (n : Nat) : Prop :=
  ∀ i, i < n → ∃ b off, ad = some ⟨b, off, none⟩ ∧ b < w.heap.size ∧ w.cell? ⟨b, off + i, none⟩ = some (.int .i64 (-77))
theorem nth_snoc {R : List Int} (h : ∀ j, j < R.length → nth R j = -77) : ∀ j, j < (R ++ [-77]).length → nth (R ++ [-77]) j = -77 := by
  intro j hj
  rw [nth_lt hj]
  by_cases e : j < R.length
  · rw [List.getElem_append_left e, ← nth_lt e]; exact h j e
  · simp at hj
    have : j = R.length := by omega
    subst this
    simp
theorem Own.room {W w : World} {ad : Option Addr} {n cap : Nat} {xs : List Int} (h : Own W w (.slice ad n cap) xs) (ha : ∀ j, j < xs.length → nth xs j = -77) : RoomAt w ad n := by
  obtain ⟨hx, rfl⟩ := h.ints
  intro i hi
  obtain ⟨b, off, e, hb, hc⟩ := hx i hi
  exact ⟨b, off, e, hb, by rw [hc i hi, ha i hi]⟩
theorem RoomAt.bw {w w' : World} {ad : Option Addr} {n : Nat} (h : RoomAt w ad n) (hb : Bw w w') : RoomAt w' ad n := by
  intro i hi
  obtain ⟨b, off, e, hlt, hc⟩ := h i hi
  exact ⟨b, off, e, Nat.lt_of_lt_of_le hlt hb.size, ((bcell hb).1 _ _ hlt).trans hc⟩
theorem len_snoc (R : List Int) (n : Int) : (R ++ [n]).length = R.length + 1 := by simp
end Go.Proofs.Ytfemleimkbjehaa
namespace Go.Proofs.Ytfemleimkbjehaa
open Go.RowKit

theorem Own.slice {W w : World} {v : Value} {xs : List Int} (h : Own W w v xs) : ∃ ad cap, v = .slice ad xs.length cap ∧ xs.length ≤ cap := by
  obtain ⟨hl, h'⟩ := id h
  rcases h' with ⟨e, h0⟩ | ⟨g, cap, cur, e, hg, hc, h1, h2, h3, h4⟩
  · exact ⟨none, 0, by rw [e, h0], by omega⟩
  · exact ⟨_, cap, e, h1⟩

theorem src_none (ad : Option Addr) (c : Nat) (w : World) : Src Try.prog 1 26 (.slice ad 0 c) 0 [] w where
  kind := .inl ⟨_, Try.underlying26⟩
  len := fun w' => by simp [Builtin.lenOf]
  cells := by cases ad <;> simp [Builtin.firstCells, loadCells, loadCellsFrom]
  cellsD := by cases ad <;> simp [Builtin.firstCells, loadCells, loadCellsFrom]
  newsLen := rfl
  one := by simp

/-- 'append(v, ys...)', ys of any length. -/
theorem appA {ops : Array Oper} {rest : List Oper} {o : Oper} {a : Act} {Q : Exit → Act → World → Prop} (w : World) (hgd : o.guard = none) (s x : Operand)
    (ho : o.op = .call { callee := .builtin .append, args := #[s, x], argTypes := #[26, 26] }) (W : World) (v : Value) (xs : List Int) (hs : a.eval s = v) (hown : Own W w v xs)
    (ad : Option Addr) (c : Nat) (ys : List Int) (hx : a.eval x = .slice ad ys.length c) (hy : IntsAt w ad ys) (hlen : xs.length + ys.length ≤ 1000000) (hB : Bw W w)
    (h : ∀ v' w', Own W w' v' (xs ++ ys) → Bw W w' → wpList Try.prog ops Q rest (a.put o.dst v') w') : wpList Try.prog ops Q (o :: rest) a w := by
  by_cases hpos : 0 < ys.length
  · exact appN w hgd s x ho W v xs hs hown ad c ys hx hy hpos hlen hB fun v' w' h1 h2 _ => h v' w' h1 h2
  · have h0 : ys = [] := List.eq_nil_of_length_eq_zero (by omega)
    subst h0
    obtain ⟨i0, hi, hz0, hz1, hz2⟩ := info_parts Try.infoInt
    obtain ⟨va, vc, rfl, hvc⟩ := hown.slice
    have hr := run_append_nothing (P := Try.prog) w 26 26 o.type 3 i0 Try.underlying26 hi va xs.length vc hvc (.slice ad 0 c) (by rw [hz1]; exact src_none ad c w)
    refine wpList_plain hgd fun _ hK => ?_
    unfold Oper.wp execOp
    simp only [List.length_nil] at hx
    simp only [ho, resolve, invoke, builtin, Sem.run_bind, Sem.run_pure, Result.andThen_ok, List.map_toArray, List.map_cons, List.map_nil, hs, hx, hr]
    exact hK _ _ (h _ w (by rw [List.append_nil]; exact hown) hB)
end Go.Proofs.Ytfemleimkbjehaa
namespace Go.Proofs.Ytfemleimkbjehaa
open Go.RowKit

/-- In w the slice value v is one of the nodes ns, in memory that W has not. -/
def OwnN (W w : World) (v : Value) (ns : List Nd) : Prop := w.ownsRow W.heap.size 32 5 v ns.length (nodeCells ns)

theorem nodeCells_snoc (ns : List Nd) (x : Nd) : nodeCells (ns ++ [x]) = nodeCells ns ++ x.cells := by simp [nodeCells]
theorem OwnN.nil (W w : World) : OwnN W w (.slice none 0 0) [] := World.ownsRow_nil _ _ _ _
theorem OwnN.bw {W a b : World} {v : Value} {ns : List Nd} (h : OwnN W a v ns) (hb : Bw a b) : OwnN W b v ns := ownsRow_bw h fun g hg => Below.block hb g hg
theorem OwnN.weaken {W V a : World} {v : Value} {ns : List Nd} (h : OwnN W a v ns) (hb : V.heap.size ≤ W.heap.size) : OwnN V a v ns := by
  obtain ⟨hl, h⟩ := h
  refine ⟨hl, ?_⟩
  rcases h with h | ⟨g, cap, cur, e, hg, r⟩
  · exact .inl h
  · exact .inr ⟨g, cap, cur, e, Nat.le_trans hb hg, r⟩
/-- A store into another block. -/
theorem OwnN.setOther {W a : World} {v u : Value} {ns : List Nd} {g k : Nat} (h : OwnN W a v ns) (hg : g < W.heap.size) : OwnN W (a.setCell ⟨g, k, none⟩ u) v ns := by
  obtain ⟨hl, h⟩ := h
  refine ⟨hl, ?_⟩
  rcases h with h | ⟨b, cap, cur, e, hb, hc, r⟩
  · exact .inl h
  · exact .inr ⟨b, cap, cur, e, hb, (Below.heap_setCell a ⟨g, k, none⟩ u b (by simp only; omega)).trans hc, r⟩
theorem OwnN.form {W w : World} {v : Value} {ns : List Nd} (h : OwnN W w v ns) : ∃ ad cap, v = .slice ad ns.length cap ∧ NodesAt w ad ns ∧ ns.length ≤ maxLen := by
  obtain ⟨hl, h'⟩ := id h
  rcases h' with ⟨e, h0⟩ | ⟨g, cap, cur, e, hg, hc, h1, h2, h3, h4⟩
  · refine ⟨none, 0, by rw [e, h0], fun i hi => absurd hi (by omega), by rw [h0]; exact Nat.zero_le _⟩
  · have hlt := (Array.getElem?_eq_some_iff.1 hc).1
    have hcells := World.ownsRow.cells h (g := g) (by rw [e]; rfl)
    refine ⟨some ⟨g, 0, none⟩, cap, e, fun i hi => ⟨g, 0, rfl, hlt, fun j hj => ?_⟩, by omega⟩
    have key : ∀ f, f < 5 → w.cell? ⟨g, 0 + j * 5 + f, none⟩ = (Nd.cells (ndn ns j))[f]? := by
      intro f hf
      have hs : ∃ u, (Nd.cells (ndn ns j))[f]? = some u := ⟨_, List.getElem?_eq_getElem (by simp [Nd.cells]; omega)⟩
      obtain ⟨u, hu⟩ := hs
      have := hcells (j * 5 + f) u (by rw [nodeCells_get ns j hj f hf]; exact hu)
      rw [Go.WideShapes.add_plain] at this
      rw [hu, ← this, Nat.add_assoc]
    have k0 := key 0 (by omega)
    rw [Nat.add_zero] at k0
    exact ⟨k0, key 1 (by omega), key 2 (by omega), key 3 (by omega), key 4 (by omega)⟩

theorem OwnN.nodes {W w : World} {ad : Option Addr} {n cap : Nat} {ns : List Nd} (h : OwnN W w (.slice ad n cap) ns) : NodesAt w ad ns := by
  obtain ⟨ad', c', e, hx, _⟩ := h.form
  simp at e
  obtain ⟨rfl, _, _⟩ := e
  exact hx

/-- 'append(v, x)' of one node, with what it leaves. -/
theorem appNd {ops : Array Oper} {rest : List Oper} {o : Oper} {a : Act} {Q : Exit → Act → World → Prop} (w : World) (hgd : o.guard = none) (s y : Operand)
    (ho : o.op = .call { callee := .builtin .append, args := #[s, y], argTypes := #[22, 22] }) (W : World) (v : Value) (ns : List Nd) (hs : a.eval s = v) (hown : OwnN W w v ns)
    (g c : Nat) (x : Nd) (hx : a.eval y = .slice (some ⟨g, 0, none⟩) 1 c) (hc : ∀ f, f < 5 → w.cell? ⟨g, f, none⟩ = x.cells[f]?) (hlen : ns.length + 1 ≤ 1000000) (hB : W.heap.size ≤ w.heap.size)
    (h : ∀ v' w', OwnN W w' v' (ns ++ [x]) → (∀ b k, b < W.heap.size → w'.cell? ⟨b, k, none⟩ = w.cell? ⟨b, k, none⟩) → (∀ b k, b < W.heap.size → w'.frozen? ⟨b, k, none⟩ = w.frozen? ⟨b, k, none⟩) → w.heap.size ≤ w'.heap.size →
      (∀ V, Bw V w → V.heap.size ≤ W.heap.size → Bw V w') → wpList Try.prog ops Q rest (a.put o.dst v') w') : wpList Try.prog ops Q (o :: rest) a w := by
  obtain ⟨i0, hi, hz0, hz1, hz2⟩ := info_parts Try.infoNode
  obtain ⟨v', w', hr, h2, h3, _⟩ := run_append_keep (P := Try.prog) w W.heap.size 22 o.type 32 i0 _ 5 40 Try.underlying22 hi hz0 hz1 hz2 rfl (by decide) v ns.length (nodeCells ns) hown ⟨g, 0, none⟩ 1 c x.cells (by omega) rfl
    (by intro j u hj
        have hj5 : j < 5 := (List.getElem?_eq_some_iff.1 hj).1
        have := hc j hj5
        rw [hj] at this
        refine add_cell ?_
        rw [Nat.zero_add]
        exact this)
    (by intro u hu; exact nodeCells_one [x] u (by simpa [nodeCells] using hu)) (by unfold maxLen; omega) (by omega) hB
  have hrow : ∀ b, b < W.heap.size → some b ≠ v.ownBlock := by
    intro b hb e
    have := (World.ownsRow.lt hown b e.symm).1
    omega
  refine wpList_plain hgd fun _ hK => ?_
  unfold Oper.wp execOp
  simp only [ho, resolve, invoke, builtin, Sem.run_bind, Sem.run_pure, Result.andThen_ok, List.map_toArray, List.map_cons, List.map_nil, hs, hx, hr]
  refine hK _ _ (h v' w' ?_ ?_ ?_ h3.size ?_)
  · unfold OwnN; rw [nodeCells_snoc]; simpa using h2
  · intro b k hb; exact World.cell?_of_block (a := ⟨b, k, none⟩) (h3.block b (Nat.lt_of_lt_of_le hb hB) (hrow b hb))
  · intro b k hb; exact World.frozen?_of_block (a := ⟨b, k, none⟩) (h3.block b (Nat.lt_of_lt_of_le hb hB) (hrow b hb))
  · intro V hV hle
    exact Below.grown hV h3 hV.size fun k hk => Nat.le_trans hle ((World.ownsRow.lt hown k hk).1)
theorem nodeCells_app (ns xs : List Nd) : nodeCells (ns ++ xs) = nodeCells ns ++ nodeCells xs := by simp [nodeCells]
/-- 'append(v, xs...)' of some nodes, with what it leaves. -/
theorem appNds {ops : Array Oper} {rest : List Oper} {o : Oper} {a : Act} {Q : Exit → Act → World → Prop} (w : World) (hgd : o.guard = none) (s y : Operand)
    (ho : o.op = .call { callee := .builtin .append, args := #[s, y], argTypes := #[22, 22] }) (W : World) (v : Value) (ns : List Nd) (hs : a.eval s = v) (hown : OwnN W w v ns)
    (g c : Nat) (xs : List Nd) (hx : a.eval y = .slice (some ⟨g, 0, none⟩) xs.length c) (h0 : 0 < xs.length) (hc : ∀ f u, (nodeCells xs)[f]? = some u → w.cell? ⟨g, f, none⟩ = some u) (hlen : ns.length + xs.length ≤ 1000000) (hB : W.heap.size ≤ w.heap.size)
    (h : ∀ v' w', OwnN W w' v' (ns ++ xs) → (∀ b k, b < W.heap.size → w'.cell? ⟨b, k, none⟩ = w.cell? ⟨b, k, none⟩) → (∀ b k, b < W.heap.size → w'.frozen? ⟨b, k, none⟩ = w.frozen? ⟨b, k, none⟩) → w.heap.size ≤ w'.heap.size →
      (∀ V, Bw V w → V.heap.size ≤ W.heap.size → Bw V w') → wpList Try.prog ops Q rest (a.put o.dst v') w') : wpList Try.prog ops Q (o :: rest) a w := by
  obtain ⟨i0, hi, hz0, hz1, hz2⟩ := info_parts Try.infoNode
  obtain ⟨v', w', hr, h2, h3, _⟩ := run_append_keep (P := Try.prog) w W.heap.size 22 o.type 32 i0 _ 5 40 Try.underlying22 hi hz0 hz1 hz2 rfl (by decide) v ns.length (nodeCells ns) hown ⟨g, 0, none⟩ xs.length c (nodeCells xs) h0 (nodeCells_len xs)
    (by intro j u hj
        refine add_cell ?_
        rw [Nat.zero_add]
        exact hc j u hj)
    (nodeCells_one xs) (by unfold maxLen; omega) (by omega) hB
  have hrow : ∀ b, b < W.heap.size → some b ≠ v.ownBlock := by
    intro b hb e
    have := (World.ownsRow.lt hown b e.symm).1
    omega
  refine wpList_plain hgd fun _ hK => ?_
  unfold Oper.wp execOp
  simp only [ho, resolve, invoke, builtin, Sem.run_bind, Sem.run_pure, Result.andThen_ok, List.map_toArray, List.map_cons, List.map_nil, hs, hx, hr]
  refine hK _ _ (h v' w' ?_ ?_ ?_ h3.size ?_)
  · unfold OwnN; rw [nodeCells_app]; simpa using h2
  · intro b k hb; exact World.cell?_of_block (a := ⟨b, k, none⟩) (h3.block b (Nat.lt_of_lt_of_le hb hB) (hrow b hb))
  · intro b k hb; exact World.frozen?_of_block (a := ⟨b, k, none⟩) (h3.block b (Nat.lt_of_lt_of_le hb hB) (hrow b hb))
  · intro V hV hle
    exact Below.grown hV h3 hV.size fun k hk => Nat.le_trans hle ((World.ownsRow.lt hown k hk).1)
end Go.Proofs.Ytfemleimkbjehaa
