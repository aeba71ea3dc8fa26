import Derived.Test.YtfemleimkbjehaaGreatJ9
import Derived.Test.YtfemleimkbjehaaGreatJ12
import Derived.Deep.RegionLaw
namespace Go.Proofs.YtfemleimkbjehaaGreat
set_option linter.unusedVariables false
set_option linter.unusedSimpArgs false
open Go.RowKit

/-- In w the slice value v is one of the nodes ns, in memory that W has not. -/
def OwnN (W w : World) (v : Value) (ns : List Nd) : Prop := w.ownsRow W.heap.size 46 5 v ns.length (nodeCells ns)

theorem nodeCells_snoc (ns : List Nd) (x : Nd) : nodeCells (ns ++ [x]) = nodeCells ns ++ x.cells := by simp [nodeCells]
theorem OwnN.nil (W w : World) : OwnN W w (.slice none 0 0) [] := World.ownsRow_nil _ _ _ _
theorem OwnN.bw {W a b : World} {v : Value} {ns : List Nd} (h : OwnN W a v ns) (hb : Bw a b) : OwnN W b v ns := ownsRow_bw h fun g hg => Below.block hb g hg
theorem OwnN.weaken {W V a : World} {v : Value} {ns : List Nd} (h : OwnN W a v ns) (hb : V.heap.size ≤ W.heap.size) : OwnN V a v ns := by
  obtain ⟨hl, h⟩ := h
  refine ⟨hl, ?_⟩
  rcases h with h | ⟨g, cap, cur, e, hg, r⟩
  · exact .inl h
  · exact .inr ⟨g, cap, cur, e, Nat.le_trans hb hg, r⟩
/-- A store into another block. -/
theorem OwnN.setOther {W a : World} {v u : Value} {ns : List Nd} {g k : Nat} (h : OwnN W a v ns) (hg : g < W.heap.size) : OwnN W (a.setCell ⟨g, k, none⟩ u) v ns := by
  obtain ⟨hl, h⟩ := h
  refine ⟨hl, ?_⟩
  rcases h with h | ⟨b, cap, cur, e, hb, hc, r⟩
  · exact .inl h
  · exact .inr ⟨b, cap, cur, e, hb, (Below.heap_setCell a ⟨g, k, none⟩ u b (by simp only; omega)).trans hc, r⟩
theorem OwnN.form {W w : World} {v : Value} {ns : List Nd} (h : OwnN W w v ns) : ∃ ad cap, v = .slice ad ns.length cap ∧ NodesAt w ad ns ∧ ns.length ≤ maxLen := by
  obtain ⟨hl, h'⟩ := id h
  rcases h' with ⟨e, h0⟩ | ⟨g, cap, cur, e, hg, hc, h1, h2, h3, h4⟩
  · refine ⟨none, 0, by rw [e, h0], fun i hi => absurd hi (by omega), by rw [h0]; exact Nat.zero_le _⟩
  · have hlt := (Array.getElem?_eq_some_iff.1 hc).1
    have hcells := World.ownsRow.cells h (g := g) (by rw [e]; rfl)
    refine ⟨some ⟨g, 0, none⟩, cap, e, fun i hi => ⟨g, 0, rfl, hlt, fun j hj => ?_⟩, by omega⟩
    have key : ∀ f, f < 5 → w.cell? ⟨g, 0 + j * 5 + f, none⟩ = (Nd.cells (ndn ns j))[f]? := by
      intro f hf
      have hs : ∃ u, (Nd.cells (ndn ns j))[f]? = some u := ⟨_, List.getElem?_eq_getElem (by simp [Nd.cells]; omega)⟩
      obtain ⟨u, hu⟩ := hs
      have := hcells (j * 5 + f) u (by rw [nodeCells_get ns j hj f hf]; exact hu)
      rw [Go.WideShapes.add_plain] at this
      rw [hu, ← this, Nat.add_assoc]
    have k0 := key 0 (by omega)
    rw [Nat.add_zero] at k0
    exact ⟨k0, key 1 (by omega), key 2 (by omega), key 3 (by omega), key 4 (by omega)⟩

theorem OwnN.nodes {W w : World} {ad : Option Addr} {n cap : Nat} {ns : List Nd} (h : OwnN W w (.slice ad n cap) ns) : NodesAt w ad ns := by
  obtain ⟨ad', c', e, hx, _⟩ := h.form
  simp at e
  obtain ⟨rfl, _, _⟩ := e
  exact hx

/-- 'append(v, x)' of one node, with what it leaves. -/
theorem appNd {ops : Array Oper} {rest : List Oper} {o : Oper} {a : Act} {Q : Exit → Act → World → Prop} (w : World) (hgd : o.guard = none) (s y : Operand)
    (ho : o.op = .call { callee := .builtin .append, args := #[s, y], argTypes := #[22, 22] }) (W : World) (v : Value) (ns : List Nd) (hs : a.eval s = v) (hown : OwnN W w v ns)
    (g c : Nat) (x : Nd) (hx : a.eval y = .slice (some ⟨g, 0, none⟩) 1 c) (hc : ∀ f, f < 5 → w.cell? ⟨g, f, none⟩ = x.cells[f]?) (hlen : ns.length + 1 ≤ 1000000) (hB : W.heap.size ≤ w.heap.size)
    (h : ∀ v' w', OwnN W w' v' (ns ++ [x]) → (∀ b k, b < W.heap.size → w'.cell? ⟨b, k, none⟩ = w.cell? ⟨b, k, none⟩) → (∀ b k, b < W.heap.size → w'.frozen? ⟨b, k, none⟩ = w.frozen? ⟨b, k, none⟩) → w.heap.size ≤ w'.heap.size →
      (∀ V, Bw V w → V.heap.size ≤ W.heap.size → Bw V w') → wpList Tryz.prog ops Q rest (a.put o.dst v') w') : wpList Tryz.prog ops Q (o :: rest) a w := by
  obtain ⟨i0, hi, hz0, hz1, hz2⟩ := info_parts Tryz.infoNode
  obtain ⟨v', w', hr, h2, h3, _⟩ := run_append_keep (P := Tryz.prog) w W.heap.size 22 o.type 46 i0 _ 5 40 Tryz.underlying22 hi hz0 hz1 hz2 rfl (by decide) v ns.length (nodeCells ns) hown ⟨g, 0, none⟩ 1 c x.cells (by omega) rfl
    (by intro j u hj
        have hj5 : j < 5 := (List.getElem?_eq_some_iff.1 hj).1
        have := hc j hj5
        rw [hj] at this
        refine add_cell ?_
        rw [Nat.zero_add]
        exact this)
    (by intro u hu; exact nodeCells_one [x] u (by simpa [nodeCells] using hu)) (by unfold maxLen; omega) (by omega) hB
  have hrow : ∀ b, b < W.heap.size → some b ≠ v.ownBlock := by
    intro b hb e
    have := (World.ownsRow.lt hown b e.symm).1
    omega
  refine wpList_plain hgd fun _ hK => ?_
  unfold Oper.wp execOp
  simp only [ho, resolve, invoke, builtin, Sem.run_bind, Sem.run_pure, Result.andThen_ok, List.map_toArray, List.map_cons, List.map_nil, hs, hx, hr]
  refine hK _ _ (h v' w' ?_ ?_ ?_ h3.size ?_)
  · unfold OwnN; rw [nodeCells_snoc]; simpa using h2
  · intro b k hb; exact World.cell?_of_block (a := ⟨b, k, none⟩) (h3.block b (Nat.lt_of_lt_of_le hb hB) (hrow b hb))
  · intro b k hb; exact World.frozen?_of_block (a := ⟨b, k, none⟩) (h3.block b (Nat.lt_of_lt_of_le hb hB) (hrow b hb))
  · intro V hV hle
    exact Below.grown hV h3 hV.size fun k hk => Nat.le_trans hle ((World.ownsRow.lt hown k hk).1)
theorem nodeCells_app (ns xs : List Nd) : nodeCells (ns ++ xs) = nodeCells ns ++ nodeCells xs := by simp [nodeCells]
/-- 'append(v, xs...)' of some nodes, with what it leaves. -/
theorem appNds {ops : Array Oper} {rest : List Oper} {o : Oper} {a : Act} {Q : Exit → Act → World → Prop} (w : World) (hgd : o.guard = none) (s y : Operand)
    (ho : o.op = .call { callee := .builtin .append, args := #[s, y], argTypes := #[22, 22] }) (W : World) (v : Value) (ns : List Nd) (hs : a.eval s = v) (hown : OwnN W w v ns)
    (g c : Nat) (xs : List Nd) (hx : a.eval y = .slice (some ⟨g, 0, none⟩) xs.length c) (h0 : 0 < xs.length) (hc : ∀ f u, (nodeCells xs)[f]? = some u → w.cell? ⟨g, f, none⟩ = some u) (hlen : ns.length + xs.length ≤ 1000000) (hB : W.heap.size ≤ w.heap.size)
    (h : ∀ v' w', OwnN W w' v' (ns ++ xs) → (∀ b k, b < W.heap.size → w'.cell? ⟨b, k, none⟩ = w.cell? ⟨b, k, none⟩) → (∀ b k, b < W.heap.size → w'.frozen? ⟨b, k, none⟩ = w.frozen? ⟨b, k, none⟩) → w.heap.size ≤ w'.heap.size →
      (∀ V, Bw V w → V.heap.size ≤ W.heap.size → Bw V w') → wpList Tryz.prog ops Q rest (a.put o.dst v') w') : wpList Tryz.prog ops Q (o :: rest) a w := by
  obtain ⟨i0, hi, hz0, hz1, hz2⟩ := info_parts Tryz.infoNode
  obtain ⟨v', w', hr, h2, h3, _⟩ := run_append_keep (P := Tryz.prog) w W.heap.size 22 o.type 46 i0 _ 5 40 Tryz.underlying22 hi hz0 hz1 hz2 rfl (by decide) v ns.length (nodeCells ns) hown ⟨g, 0, none⟩ xs.length c (nodeCells xs) h0 (nodeCells_len xs)
    (by intro j u hj
        refine add_cell ?_
        rw [Nat.zero_add]
        exact hc j u hj)
    (nodeCells_one xs) (by unfold maxLen; omega) (by omega) hB
  have hrow : ∀ b, b < W.heap.size → some b ≠ v.ownBlock := by
    intro b hb e
    have := (World.ownsRow.lt hown b e.symm).1
    omega
  refine wpList_plain hgd fun _ hK => ?_
  unfold Oper.wp execOp
  simp only [ho, resolve, invoke, builtin, Sem.run_bind, Sem.run_pure, Result.andThen_ok, List.map_toArray, List.map_cons, List.map_nil, hs, hx, hr]
  refine hK _ _ (h v' w' ?_ ?_ ?_ h3.size ?_)
  · unfold OwnN; rw [nodeCells_app]; simpa using h2
  · intro b k hb; exact World.cell?_of_block (a := ⟨b, k, none⟩) (h3.block b (Nat.lt_of_lt_of_le hb hB) (hrow b hb))
  · intro b k hb; exact World.frozen?_of_block (a := ⟨b, k, none⟩) (h3.block b (Nat.lt_of_lt_of_le hb hB) (hrow b hb))
  · intro V hV hle
    exact Below.grown hV h3 hV.size fun k hk => Nat.le_trans hle ((World.ownsRow.lt hown k hk).1)
end Go.Proofs.YtfemleimkbjehaaGreat
namespace Go.Proofs.YtfemleimkbjehaaGreat
set_option linter.unusedVariables false
set_option linter.unusedSimpArgs false
open Go.RowKit

theorem Tryz.infoRecord : (Tryz.prog.info? 77).map (fun i => (i.zero, i.size, i.bytes)) = some (some (.agg #[.int .i64 0, .int .i64 0, .int .i64 0, .int .i64 0, .int .i64 0]), 5, 40) := by kernel_rfl
theorem Tryz.infoInts2 : (Tryz.prog.info? 81).map (fun i => (i.zero, i.size, i.bytes)) = some (some (.slice none 0 0), 1, 24) := by kernel_rfl
/-- 'append(v, x)' of one element of any type. -/
theorem run_appT (w : World) (t ty res : TypeId) (z : Value) (size bytes : Nat) (hinf : (Tryz.prog.info? ty).map (fun i => (i.zero, i.size, i.bytes)) = some (some z, size, bytes)) (hund : Tryz.prog.underlying t = some (.slice ty)) (hzs : z.cells.size = size) (hsz : 0 < size)
    (base : Nat) (v : Value) (n : Nat) (xs : List Value) (hown : w.ownsRow base ty size v n xs)
    (g c : Nat) (news : List Value) (hnl : news.length = size) (hc : ∀ j u, news[j]? = some u → w.cell? ⟨g, j, none⟩ = some u) (h1 : ∀ u ∈ news, u.oneCell' = true) (hl1 : n + 1 ≤ 1000000000) (hb : bytes ≤ 1000) (hB : base ≤ w.heap.size) :
    ∃ v' w', (Builtin.append_ #[t, t] res #[v, .slice (some ⟨g, 0, none⟩) 1 c]).run Tryz.prog w = .ok v' w' ∧ w'.ownsRow base ty size v' (n + 1) (xs ++ news) ∧ w.grownBy w' v.ownBlock := by
  obtain ⟨i0, hi, hz0, hz1, hz2⟩ := info_parts hinf
  have hbb : (n + 1) * bytes ≤ 1000000000 * 1000 := Nat.mul_le_mul hl1 hb
  obtain ⟨v', w', hr, h2, h3, _⟩ := run_append_keep (P := Tryz.prog) w base t res ty i0 z size bytes hund hi hz0 hz1 hz2 hzs hsz v n xs hown ⟨g, 0, none⟩ 1 c news (by omega) (by omega)
    (by intro j u hj
        refine add_cell ?_
        rw [Nat.zero_add]
        exact hc j u hj) h1 (by unfold maxLen; omega) (by omega) hB
  exact ⟨v', w', hr, h2, h3⟩

theorem appT {ops : Array Oper} {rest : List Oper} {o : Oper} {a : Act} {Q : Exit → Act → World → Prop} (w : World) (hgd : o.guard = none) (s y : Operand) (t ty : TypeId)
    (ho : o.op = .call { callee := .builtin .append, args := #[s, y], argTypes := #[t, t] }) (z : Value) (size bytes : Nat) (hinf : (Tryz.prog.info? ty).map (fun i => (i.zero, i.size, i.bytes)) = some (some z, size, bytes)) (hund : Tryz.prog.underlying t = some (.slice ty)) (hzs : z.cells.size = size) (hsz : 0 < size)
    (base : Nat) (v : Value) (n : Nat) (xs : List Value) (hs : a.eval s = v) (hown : w.ownsRow base ty size v n xs)
    (g c : Nat) (news : List Value) (hx : a.eval y = .slice (some ⟨g, 0, none⟩) 1 c) (hnl : news.length = size) (hc : ∀ j u, news[j]? = some u → w.cell? ⟨g, j, none⟩ = some u) (h1 : ∀ u ∈ news, u.oneCell' = true) (hl1 : n + 1 ≤ 1000000000) (hb : bytes ≤ 1000) (hB : base ≤ w.heap.size)
    (h : ∀ v' w', w'.ownsRow base ty size v' (n + 1) (xs ++ news) → w.grownBy w' v.ownBlock → wpList Tryz.prog ops Q rest (a.put o.dst v') w') : wpList Tryz.prog ops Q (o :: rest) a w := by
  obtain ⟨v', w', hr, h2, h3⟩ := run_appT w t ty o.type z size bytes hinf hund hzs hsz base v n xs hown g c news hnl hc h1 hl1 hb hB
  refine wpList_plain hgd fun _ hK => ?_
  unfold Oper.wp execOp
  simp only [ho, resolve, invoke, builtin, Sem.run_bind, Sem.run_pure, Result.andThen_ok, List.map_toArray, List.map_cons, List.map_nil, hs, hx, hr]
  exact hK _ _ (h v' w' h2 h3)

/-- An append leaves the blocks of other types, and those ahead of its base. -/
theorem grown_block {w w' : World} {v : Value} {base n size : Nat} {ty : TypeId} {xs : List Value} (hown : w.ownsRow base ty size v n xs) (hg : w.grownBy w' v.ownBlock) {b : Nat} {cur : Array Value} {ty' : TypeId} {fr : Nat × Nat} (hb : w.heap[b]? = some (.cells cur ty' fr)) (hne : ty' ≠ ty ∨ b < base) : w'.heap[b]? = some (.cells cur ty' fr) := by
  refine (hg.block b (Array.getElem?_eq_some_iff.1 hb).1 ?_).trans hb
  intro e
  rcases hown.2 with ⟨rfl, _⟩ | ⟨g, cap, cur', rfl, hbb, hgg, _⟩
  · simp [Value.ownBlock] at e
  · simp [Value.ownBlock] at e
    subst e
    rw [hgg] at hb
    simp only [Option.some.injEq, Obj.cells.injEq] at hb
    rcases hne with h | h
    · exact h hb.2.1.symm
    · omega
theorem ownsRow_grown {w w' : World} {v u : Value} {base n size base' n' size' : Nat} {ty ty' : TypeId} {xs ys : List Value} (hown : w.ownsRow base ty size v n xs) (hg : w.grownBy w' v.ownBlock) (h : w.ownsRow base' ty' size' u n' ys) (hne : ty' ≠ ty) : w'.ownsRow base' ty' size' u n' ys := by
  obtain ⟨hl, h⟩ := h
  refine ⟨hl, ?_⟩
  rcases h with h | ⟨g, cap, cur, e1, hgb, hc, r⟩
  · exact .inl h
  · exact .inr ⟨g, cap, cur, e1, hgb, grown_block hown hg hc (.inl hne), r⟩
theorem RowAt.grown {W w w' : World} {v : Value} {base n size g L : Nat} {ty : TypeId} {xs : List Value} {ls : Nat → List Int} (h : RowAt W w g L ls) (hown : w.ownsRow base ty size v n xs) (hg : w.grownBy w' v.ownBlock) (h1 : 94 ≠ ty) (h2 : 3 ≠ ty) : RowAt W w' g L ls := by
  obtain ⟨arr, e1, e2, e3⟩ := h
  refine ⟨arr, grown_block hown hg e1 (.inl h1), e2, fun j hj => ?_⟩
  obtain ⟨u, eu, ho⟩ := e3 j hj
  exact ⟨u, eu, ownsRow_grown hown hg ho h2⟩
theorem Bw.grown {V w w' : World} {v : Value} {base n size : Nat} {ty : TypeId} {xs : List Value} (h : Bw V w) (hown : w.ownsRow base ty size v n xs) (hg : w.grownBy w' v.ownBlock) (hb : V.heap.size ≤ base) : Bw V w' :=
  Below.grown h hg h.size fun k hk => Nat.le_trans hb ((World.ownsRow.lt hown k hk).1)
theorem ownsRow_weaken {w : World} {v : Value} {base base' n size : Nat} {ty : TypeId} {xs : List Value} (h : w.ownsRow base ty size v n xs) (hb : base' ≤ base) : w.ownsRow base' ty size v n xs := by
  obtain ⟨hl, h⟩ := h
  refine ⟨hl, ?_⟩
  rcases h with h | ⟨g, cap, cur, e1, hgb, r⟩
  · exact .inl h
  · exact .inr ⟨g, cap, cur, e1, Nat.le_trans hb hgb, r⟩

/-- What is put out at one time: a block of lists, by node. -/
structure Mo where
  e : Nat
  s : Nat
  g : Nat
  F : Nat → List Int
def moCells (L : Nat) (m : Mo) : List Value := [.int .i64 (m.e : Int), .int .i64 (m.s : Int), .slice (some ⟨m.g, 0, none⟩) L L]
def mosCells (L : Nat) (ms : List Mo) : List Value := ms.flatMap (moCells L)
theorem mosCells_snoc (L : Nat) (ms : List Mo) (m : Mo) : mosCells L (ms ++ [m]) = mosCells L ms ++ moCells L m := by simp [mosCells]
theorem mosCells_get (L : Nat) : ∀ (ms : List Mo) (j : Nat) (m : Mo), ms[j]? = some m → ∀ f, f < 3 → (mosCells L ms)[j * 3 + f]? = (moCells L m)[f]? := by
  intro ms
  induction ms with
  | nil => intro j m h; simp at h
  | cons a t ih =>
    intro j m h f hf
    cases j with
    | zero =>
      simp at h; subst h
      simp only [mosCells, List.flatMap_cons]
      rw [List.getElem?_append_left (by simp [moCells]; omega)]
      simp
    | succ j =>
      simp at h
      simp only [mosCells, List.flatMap_cons]
      rw [List.getElem?_append_right (by simp [moCells]; omega)]
      have := ih j m h f hf
      simp only [mosCells] at this
      rw [← this]
      congr 1
      simp [moCells]; omega
end Go.Proofs.YtfemleimkbjehaaGreat
namespace Go.Proofs.YtfemleimkbjehaaGreat
set_option linter.unusedVariables false
set_option linter.unusedSimpArgs false
open Go.RowKit

theorem run_appA (w : World) (res : TypeId) (W : World) (v : Value) (xs : List Int) (hown : Own W w v xs) (ad : Option Addr) (c : Nat) (ys : List Int) (hy : IntsAt w ad ys) (hlen : xs.length + ys.length ≤ 1000000) (hB : Bw W w) :
    ∃ v' w', (Builtin.append_ #[94, 94] res #[v, .slice ad ys.length c]).run Tryz.prog w = .ok v' w' ∧ Own W w' v' (xs ++ ys) ∧ Bw W w' := by
  obtain ⟨i0, hi, hz0, hz1, hz2⟩ := info_parts Tryz.infoInt
  by_cases hpos : 0 < ys.length
  · obtain ⟨b, off, rfl, hb, hc⟩ := hy 0 hpos
    obtain ⟨v', w', hr, h2, h3, _⟩ := run_append_keep (P := Tryz.prog) w W.heap.size 94 res 3 i0 (.int .i64 0) 1 8 Tryz.underlying94 hi hz0 hz1 hz2 rfl (by decide) v xs.length (xs.map (Value.int .i64)) hown ⟨b, off, none⟩ ys.length c (ys.map (Value.int .i64)) hpos (by simp)
      (ints_src hc) (by intro u hu; simp at hu; obtain ⟨n, _, rfl⟩ := hu; rfl) (by unfold maxLen; omega) (by omega) hB.size
    exact ⟨v', w', hr, by unfold Own; simpa using h2, Below.grown hB h3 hB.size fun k hk => (World.ownsRow.lt hown k hk).1⟩
  · have h0 : ys = [] := List.eq_nil_of_length_eq_zero (by omega)
    subst h0
    obtain ⟨va, vc, rfl, hvc⟩ := hown.slice
    exact ⟨_, w, run_append_nothing (P := Tryz.prog) w 94 94 res 3 i0 Tryz.underlying94 hi va xs.length vc hvc (.slice ad 0 c) (by rw [hz1]; exact src_none ad c w), by rw [List.append_nil]; exact hown, hB⟩

/-- 'append(v, ys...)' as a step of a region that draws its order. -/
theorem stepA {ops : Array Oper} {o : Oper} {a : Act} {w : World} {K : Act → World → Prop} {Q : Exit → Act → World → Prop} {E : Prop} (hgd : o.guard = none) (s x : Operand)
    (ho : o.op = .call { callee := .builtin .append, args := #[s, x], argTypes := #[94, 94] }) (W : World) (v : Value) (xs : List Int) (hs : a.eval s = v) (hown : Own W w v xs)
    (ad : Option Addr) (c : Nat) (ys : List Int) (hx : a.eval x = .slice ad ys.length c) (hy : IntsAt w ad ys) (hlen : xs.length + ys.length ≤ 1000000) (hB : Bw W w)
    (h : ∀ v' w', Own W w' v' (xs ++ ys) → Bw W w' → K (a.put o.dst v') w') :
    if Region.wanted o (yielded ops a.tmps) = true then Oper.wp Tryz.prog o a w K Q else E := by
  obtain ⟨v', w', hr, h2, h3⟩ := run_appA w o.type W v xs hown ad c ys hy hlen hB
  have hw : Region.wanted o (yielded ops a.tmps) = true := by simp [Region.wanted, hgd]
  rw [if_pos hw]
  unfold Oper.wp
  simp only [execOp, ho, resolve, invoke, builtin, Sem.run_bind, Sem.run_pure, Result.andThen_ok, List.map_toArray, List.map_cons, List.map_nil, hs, hx, hr]
  exact h v' w' h2 h3

def updF (F : Nat → Nat → Nat → List Int) (e s n : Nat) (l : List Int) : Nat → Nat → Nat → List Int := fun e' s' n' => if e' = e ∧ s' = s ∧ n' = n then l else F e' s' n'
theorem updF_eq (F : Nat → Nat → Nat → List Int) (e s n : Nat) (l : List Int) : updF F e s n l e s n = l := by simp [updF]
theorem updF_ne (F : Nat → Nat → Nat → List Int) {e s n e' s' n' : Nat} (l : List Int) (h : ¬ (e' = e ∧ s' = s ∧ n' = n)) : updF F e s n l e' s' n' = F e' s' n' := by simp [updF, h]
/-- What comes to a node out of the first i of its inputs. -/
def comeTo (x : Nd) (cur : Nat → List Int) (i : Nat) : List Int := ((inputsL x).take i).flatMap fun z => cur z.toNat
theorem comeTo_succ {x : Nd} {cur : Nat → List Int} {i a : Nat} (h : i < (inputsL x).length) (e : nth (inputsL x) i = a) : comeTo x cur (i + 1) = comeTo x cur i ++ cur a := by
  unfold comeTo
  rw [take_nth h, List.flatMap_append, e]
  simp
theorem comeTo_all (x : Nd) (cur : Nat → List Int) : comeTo x cur (inputsL x).length = comeL x cur := by unfold comeTo comeL; rw [List.take_length]
theorem inputsL_two (x : Nd) : (inputsL x).length ≤ 2 := by unfold inputsL; split; simp; split <;> simp
theorem comeTo_len {x : Nd} {cur : Nat → List Int} (h : ∀ z ∈ inputsL x, (cur z.toNat).length ≤ 100000) : ∀ i, i ≤ (inputsL x).length → (comeTo x cur i).length ≤ i * 100000 := by
  intro i
  induction i with
  | zero => intro _; simp [comeTo]
  | succ i ih =>
    intro hi
    have h1 := ih (by omega)
    have h2 := h (nth (inputsL x) i) (nth_mem (by omega))
    unfold comeTo at h1 ⊢
    rw [take_nth (by omega), List.flatMap_append, List.length_append]
    simp only [List.flatMap_cons, List.flatMap_nil, List.append_nil]
    omega

end Go.Proofs.YtfemleimkbjehaaGreat
namespace Go.Proofs.YtfemleimkbjehaaGreat
set_option linter.unusedVariables false
set_option linter.unusedSimpArgs false
open Go.RowKit

/-- A message as it was put out (the reference's Mail). -/
structure Ml where
  worker : Int
  node : Int
  epoch : Int
  round : Int
  value : Int
  gone : Bool
def Ml.cells (x : Ml) : List Value := [.int .i64 x.worker, .int .i64 x.node, .int .i64 x.epoch, .int .i64 x.round, .int .i64 x.value, .bool x.gone]
def mln (l : List Ml) (k : Nat) : Ml := l.getD k ⟨0, 0, 0, 0, 0, false⟩
/-- A point. -/
structure Pt where
  node : Int
  out : Bool
  epoch : Int
  round : Int
  count : Int
def Pt.cells (x : Pt) : List Value := [.int .i64 x.node, .bool x.out, .int .i64 x.epoch, .int .i64 x.round, .int .i64 x.count]
def Pt.val (x : Pt) : Value := .agg #[.int .i64 x.node, .bool x.out, .int .i64 x.epoch, .int .i64 x.round, .int .i64 x.count]
def ptn (l : List Pt) (k : Nat) : Pt := l.getD k ⟨0, false, 0, 0, 0⟩
/-- A change: who made it, and the points. -/
structure Cg where
  worker : Int
  pts : List Pt
def cgn (l : List Cg) (k : Nat) : Cg := l.getD k ⟨0, []⟩

def MailsAt (w : World) (ad : Option Addr) (ms : List Ml) : Prop :=
  ∀ i, i < ms.length → ∃ b off, ad = some ⟨b, off, none⟩ ∧ b < w.heap.size ∧ ∀ j, j < ms.length →
    w.cell? ⟨b, off + j * 6, none⟩ = some (.int .i64 (mln ms j).worker) ∧ w.cell? ⟨b, off + j * 6 + 1, none⟩ = some (.int .i64 (mln ms j).node) ∧ w.cell? ⟨b, off + j * 6 + 2, none⟩ = some (.int .i64 (mln ms j).epoch) ∧
    w.cell? ⟨b, off + j * 6 + 3, none⟩ = some (.int .i64 (mln ms j).round) ∧ w.cell? ⟨b, off + j * 6 + 4, none⟩ = some (.int .i64 (mln ms j).value) ∧ w.cell? ⟨b, off + j * 6 + 5, none⟩ = some (.bool (mln ms j).gone)
theorem MailsAt.below {w w' : World} {ad : Option Addr} {ms : List Ml} (h : MailsAt w ad ms) (hb : Bw w w') : MailsAt w' ad ms := by
  intro i hi
  obtain ⟨b, off, e, hlt, hc⟩ := h i hi
  refine ⟨b, off, e, Nat.lt_of_lt_of_le hlt hb.size, fun j hj => ?_⟩
  obtain ⟨q, _⟩ := bcell hb
  obtain ⟨c0, c1, c2, c3, c4, c5⟩ := hc j hj
  exact ⟨(q _ _ hlt).trans c0, (q _ _ hlt).trans c1, (q _ _ hlt).trans c2, (q _ _ hlt).trans c3, (q _ _ hlt).trans c4, (q _ _ hlt).trans c5⟩
def PtsAt (w : World) (ad : Option Addr) (ps : List Pt) : Prop :=
  ∀ i, i < ps.length → ∃ b off, ad = some ⟨b, off, none⟩ ∧ b < w.heap.size ∧ ∀ j, j < ps.length →
    w.cell? ⟨b, off + j * 5, none⟩ = some (.int .i64 (ptn ps j).node) ∧ w.cell? ⟨b, off + j * 5 + 1, none⟩ = some (.bool (ptn ps j).out) ∧ w.cell? ⟨b, off + j * 5 + 2, none⟩ = some (.int .i64 (ptn ps j).epoch) ∧
    w.cell? ⟨b, off + j * 5 + 3, none⟩ = some (.int .i64 (ptn ps j).round) ∧ w.cell? ⟨b, off + j * 5 + 4, none⟩ = some (.int .i64 (ptn ps j).count)
theorem PtsAt.below {w w' : World} {ad : Option Addr} {ps : List Pt} (h : PtsAt w ad ps) (hb : Bw w w') : PtsAt w' ad ps := by
  intro i hi
  obtain ⟨b, off, e, hlt, hc⟩ := h i hi
  refine ⟨b, off, e, Nat.lt_of_lt_of_le hlt hb.size, fun j hj => ?_⟩
  obtain ⟨q, _⟩ := bcell hb
  obtain ⟨c0, c1, c2, c3, c4⟩ := hc j hj
  exact ⟨(q _ _ hlt).trans c0, (q _ _ hlt).trans c1, (q _ _ hlt).trans c2, (q _ _ hlt).trans c3, (q _ _ hlt).trans c4⟩
def LogAt (w : World) (ad : Option Addr) (cs : List Cg) : Prop :=
  ∀ i, i < cs.length → ∃ b off, ad = some ⟨b, off, none⟩ ∧ b < w.heap.size ∧ ∀ j, j < cs.length →
    w.cell? ⟨b, off + j * 2, none⟩ = some (.int .i64 (cgn cs j).worker) ∧ ∃ pa pc, w.cell? ⟨b, off + j * 2 + 1, none⟩ = some (.slice pa (cgn cs j).pts.length pc) ∧ PtsAt w pa (cgn cs j).pts
theorem LogAt.below {w w' : World} {ad : Option Addr} {cs : List Cg} (h : LogAt w ad cs) (hb : Bw w w') : LogAt w' ad cs := by
  intro i hi
  obtain ⟨b, off, e, hlt, hc⟩ := h i hi
  refine ⟨b, off, e, Nat.lt_of_lt_of_le hlt hb.size, fun j hj => ?_⟩
  obtain ⟨q, _⟩ := bcell hb
  obtain ⟨c0, pa, pc, c1, hp⟩ := hc j hj
  exact ⟨(q _ _ hlt).trans c0, pa, pc, (q _ _ hlt).trans c1, hp.below hb⟩
/-- A table of numbers, by rows. -/
def TabAt (w : World) (ad : Option Addr) (n m : Nat) (f : Nat → Nat → Int) : Prop :=
  ∀ i, i < n → ∃ b off, ad = some ⟨b, off, none⟩ ∧ b < w.heap.size ∧ ∃ pb poff pc, w.cell? ⟨b, off + i, none⟩ = some (.slice (some ⟨pb, poff, none⟩) m pc) ∧ pb < w.heap.size ∧ ∀ j, j < m → w.cell? ⟨pb, poff + j, none⟩ = some (.int .i64 (f i j))
theorem TabAt.below {w w' : World} {ad : Option Addr} {n m : Nat} {f : Nat → Nat → Int} (h : TabAt w ad n m f) (hb : Bw w w') : TabAt w' ad n m f := by
  intro i hi
  obtain ⟨b, off, e, hlt, pb, poff, pc, c1, hpl, hc⟩ := h i hi
  obtain ⟨q, _⟩ := bcell hb
  exact ⟨b, off, e, Nat.lt_of_lt_of_le hlt hb.size, pb, poff, pc, (q _ _ hlt).trans c1, Nat.lt_of_lt_of_le hpl hb.size, fun j hj => (q _ _ hpl).trans (hc j hj)⟩

/-- What the reference's run holds. -/
structure RSt where
  mails : List Ml
  log : List Cg
  evs : Nat
  opened : List Gv
  told : Nat → Nat → Int
/-- Where it holds it. -/
structure RV where
  na : Option Addr
  ma : Option Addr
  la : Option Addr
  ea : Option Addr
  oa : Option Addr
  ta : Option Addr
  da : Option Addr
  nc : Nat
  mc : Nat
  lc : Nat
  ec : Nat
  oc : Nat
  tc : Nat
  dc : Nat
/-- A run of the reference, as it can be read. -/
structure RRead (w : World) (rb : Nat) (x : RV) (ns : List Nd) (R W : Nat) (D : Nat → Nat → Int) (st : RSt) : Prop where
  lt : rb < w.heap.size
  c0 : w.cell? ⟨rb, 0, none⟩ = some (.slice x.na ns.length x.nc)
  c1 : w.cell? ⟨rb, 1, none⟩ = some (.int .i64 (R : Int))
  c2 : w.cell? ⟨rb, 2, none⟩ = some (.int .i64 (W : Int))
  c3 : w.cell? ⟨rb, 3, none⟩ = some (.slice x.ma st.mails.length x.mc)
  c4 : w.cell? ⟨rb, 4, none⟩ = some (.slice x.la st.log.length x.lc)
  c5 : w.cell? ⟨rb, 5, none⟩ = some (.slice x.ea st.evs x.ec)
  c6 : w.cell? ⟨rb, 6, none⟩ = some (.slice x.oa st.opened.length x.oc)
  c7 : w.cell? ⟨rb, 7, none⟩ = some (.slice x.ta W x.tc)
  c8 : w.cell? ⟨rb, 8, none⟩ = some (.slice x.da ns.length x.dc)
  nodes : NodesAt w x.na ns
  mails : MailsAt w x.ma st.mails
  log : LogAt w x.la st.log
  opened : GvAt w x.oa st.opened
  told : TabAt w x.ta W W st.told
  dist : TabAt w x.da ns.length ns.length D
  small : ns.length ≤ 8 ∧ R ≤ 4 ∧ W ≤ 4 ∧ 1 ≤ W ∧ 1 ≤ R
  few : st.opened.length ≤ 1000000 ∧ st.mails.length ≤ 1000000 ∧ st.log.length ≤ 1000000
theorem RRead.below {w w' : World} {rb : Nat} {x : RV} {ns : List Nd} {R W : Nat} {D : Nat → Nat → Int} {st : RSt} (h : RRead w rb x ns R W D st) (hb : Bw w w') : RRead w' rb x ns R W D st := by
  obtain ⟨q, _⟩ := bcell hb
  have hl := h.lt
  exact ⟨Nat.lt_of_lt_of_le hl hb.size, (q _ _ hl).trans h.c0, (q _ _ hl).trans h.c1, (q _ _ hl).trans h.c2, (q _ _ hl).trans h.c3, (q _ _ hl).trans h.c4, (q _ _ hl).trans h.c5, (q _ _ hl).trans h.c6, (q _ _ hl).trans h.c7, (q _ _ hl).trans h.c8,
    h.nodes.below hb, h.mails.below hb, h.log.below hb, h.opened.below hb, h.told.below hb, h.dist.below hb, h.small, h.few⟩

/-- How often a Source was used so on a worker. -/
def doneB (op : List Gv) (w n kd : Int) (i : Nat) : Bool := ((gvn op i).epoch == w) && ((gvn op i).node == n) && ((gvn op i).value == kd)
def doneTo (op : List Gv) (w n kd : Int) : Nat → Nat
  | 0 => 0
  | i + 1 => if doneB op w n kd i then doneTo op w n kd i + 1 else doneTo op w n kd i
theorem doneTo_le (op : List Gv) (w n kd : Int) (k : Nat) : doneTo op w n kd k ≤ k := by
  induction k with
  | zero => simp [doneTo]
  | succ k ih => unfold doneTo; split <;> omega
theorem doneTo_yes {op : List Gv} {w n kd : Int} {i : Nat} (h : doneB op w n kd i = true) : doneTo op w n kd (i + 1) = doneTo op w n kd i + 1 := by rw [doneTo, if_pos h]
theorem doneTo_no {op : List Gv} {w n kd : Int} {i : Nat} (h : doneB op w n kd i = false) : doneTo op w n kd (i + 1) = doneTo op w n kd i := by rw [doneTo, h]; rfl

set_option maxRecDepth 100000 in
set_option maxHeartbeats 2000000 in
theorem rdone_any {rb : Nat} {x : RV} {ns : List Nd} {R W : Nat} {D : Nat → Nat → Int} {st : RSt} (wk n kd : Int) (w : World) (hR : RRead w rb x ns R W D st) :
    Calls Tryz.prog 58 #[.pointer (some ⟨rb, 0, none⟩), .int .i64 wk, .int .i64 n, .int .i64 kd] w fun e w' => e = .returned (.int .i64 (doneTo st.opened wk n kd st.opened.length : Nat)) ∧ w' = w := by
  have c6 := hR.c6
  have hl := hR.few.1
  have hlt0 := hR.lt
  have hop := hR.opened
  clear hR
  obtain ⟨ms, lg, ev, op, tl⟩ := st
  simp only at *
  go_enter Tryz.func58, Tryz.ntmps58
  go_wp2_with fail
  go_loop [9, 10] (fun c i => ∃ k : Nat, k ≤ op.length ∧ i = .int .i64 k ∧ c = .int .i64 (doneTo op wk n kd k : Nat)) (fun _ i => op.length - (intOf i).toNat)
  case atStart => exact ⟨0, Nat.zero_le _, rfl, rfl⟩
  case round =>
    obtain ⟨k, hk, rfl, rfl⟩ := hrel
    have hle := doneTo_le op wk n kd k
    by_cases hlt : k < op.length
    · obtain ⟨b, off, e, hb, hc⟩ := hop k hlt
      obtain ⟨d0, d1, d2⟩ := hc k hlt
      rw [e] at c6
      clear hc
      have Hy := hide (@doneTo_yes op wk n kd k)
      have Hn := hide (@doneTo_no op wk n kd k)
      have Hd : Hid (doneB op wk n kd k = (((gvn op k).epoch == wk) && ((gvn op k).node == n) && ((gvn op k).value == kd))) := hide rfl
      generalize gvn op k = y at *
      generalize hdb : doneB op wk n kd k = db at Hd Hy Hn
      clear hdb
      cases h1 : (y.epoch == wk) with
      | false =>
        have Hs := hide ((unhide Hn) (by rw [unhide Hd, h1]; rfl))
        clear Hy Hn Hd
        go_wp2_with fail
        go_round
        case rel => exact ⟨k + 1, by omega, by go_num, by rw [unhide Hs]⟩
        case measure => simp [intOf]; omega
      | true =>
        cases h2 : (y.node == n) with
        | false =>
          have Hs := hide ((unhide Hn) (by rw [unhide Hd, h1, h2]; rfl))
          clear Hy Hn Hd
          go_wp2_with fail
          go_round
          case rel => exact ⟨k + 1, by omega, by go_num, by rw [unhide Hs]⟩
          case measure => simp [intOf]; omega
        | true =>
          cases h3 : (y.value == kd) with
          | false =>
            have Hs := hide ((unhide Hn) (by rw [unhide Hd, h1, h2, h3]; rfl))
            clear Hy Hn Hd
            go_wp2_with fail
            go_round
            case rel => exact ⟨k + 1, by omega, by go_num, by rw [unhide Hs]⟩
            case measure => simp [intOf]; omega
          | true =>
            have Hs := hide ((unhide Hy) (by rw [unhide Hd, h1, h2, h3]; rfl))
            clear Hy Hn Hd
            go_wp2_with fail
            go_round
            case rel => exact ⟨k + 1, by omega, by go_num, by rw [unhide Hs]; go_num⟩
            case measure => simp [intOf]; omega
    · have hkk : k = op.length := by omega
      subst hkk
      go_wp2_with fail
      go_ret
      exact ⟨rfl, rfl⟩
end Go.Proofs.YtfemleimkbjehaaGreat
