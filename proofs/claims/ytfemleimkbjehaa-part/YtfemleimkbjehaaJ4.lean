import Derived.Test.YtfemleimkbjehaaJ1
import Derived.Test.YtfemleimkbjehaaJ3
import Derived.Deep.RegionLaw
import Derived.Laws.OwnMore
set_option maxRecDepth 1000000
set_option maxHeartbeats 40000000
set_option linter.unusedVariables false
set_option linter.unusedSimpArgs false
namespace Go.Proofs.Ytfemleimkbjehaa
open Go.RowKit
def OwnN (W w : World) (v : Value) (ns : List Nd) : Prop := w.ownsRow W.heap.size 32 5 v ns.length (qM ns)
theorem nodeCells_snoc (ns : List Nd) (x : Nd) : qM (ns ++ [x]) = qM ns ++ x.cells := by simp [qM]
theorem OwnN.nil (W w : World) : OwnN W w (.slice none 0 0) [] := World.ownsRow_nil _ _ _ _
theorem OwnN.bw {W a b : World} {v : Value} {ns : List Nd} (h : OwnN W a v ns) (hb : Bw a b) : OwnN W b v ns := qP h fun g hg => Below.block hb g hg
theorem OwnN.setOther {W a : World} {v u : Value} {ns : List Nd} {g k : Nat} (h : OwnN W a v ns) (hg : g < W.heap.size) : OwnN W (a.setCell ⟨g, k, none⟩ u) v ns := by
  obtain ⟨hl, h⟩ := h
  refine ⟨hl, ?_⟩
  rcases h with h | ⟨b, cap, cur, e, hb, hc, r⟩
  · exact .inl h
  · exact .inr ⟨b, cap, cur, e, hb, (Below.heap_setCell a ⟨g, k, none⟩ u b (by simp only; omega)).trans hc, r⟩
theorem OwnN.form {W w : World} {v : Value} {ns : List Nd} (h : OwnN W w v ns) : ∃ ad cap, v = .slice ad ns.length cap ∧ NodesAt w ad ns ∧ ns.length ≤ maxLen := by
  obtain ⟨hl, h'⟩ := id h
  rcases h' with ⟨e, h0⟩ | ⟨g, cap, cur, e, hg, hc, h1, h2, h3, h4⟩
  · refine ⟨none, 0, by rw [e, h0], fun i hi => absurd hi (by omega), by rw [h0]; exact Nat.zero_le _⟩
  · have hlt := (Array.getElem?_eq_some_iff.1 hc).1
    have hcells := World.ownsRow.cells h (g := g) (by rw [e]; rfl)
    refine ⟨some ⟨g, 0, none⟩, cap, e, fun i hi => ⟨g, 0, rfl, hlt, fun j hj => ?_⟩, by omega⟩
    have key : ∀ f, f < 5 → w.cell? ⟨g, 0 + j * 5 + f, none⟩ = (Nd.cells (qV ns j))[f]? := by
      intro f hf
      have hs : ∃ u, (Nd.cells (qV ns j))[f]? = some u := ⟨_, List.getElem?_eq_getElem (by simp [Nd.cells]; omega)⟩
      obtain ⟨u, hu⟩ := hs
      have := hcells (j * 5 + f) u (by rw [pQ ns j hj f hf]; exact hu)
      rw [Go.WideShapes.add_plain] at this
      rw [hu, ← this, Nat.add_assoc]
    have k0 := key 0 (by omega)
    rw [Nat.add_zero] at k0
    exact ⟨k0, key 1 (by omega), key 2 (by omega), key 3 (by omega), key 4 (by omega)⟩
theorem OwnN.nodes {W w : World} {ad : Option Addr} {n cap : Nat} {ns : List Nd} (h : OwnN W w (.slice ad n cap) ns) : NodesAt w ad ns := by
  obtain ⟨ad', c', e, hx, _⟩ := h.form
  simp at e
  obtain ⟨rfl, _, _⟩ := e
  exact hx
theorem cD {ops : Array Oper} {rest : List Oper} {o : Oper} {a : Act} {Q : Exit → Act → World → Prop} (w : World) (hgd : o.guard = none) (s y : Operand)
    (ho : o.op = .call { callee := .builtin .append, args := #[s, y], argTypes := #[22, 22] }) (W : World) (v : Value) (ns : List Nd) (hs : a.eval s = v) (hown : OwnN W w v ns)
    (g c : Nat) (x : Nd) (hx : a.eval y = .slice (some ⟨g, 0, none⟩) 1 c) (hc : ∀ f, f < 5 → w.cell? ⟨g, f, none⟩ = x.cells[f]?) (hlen : ns.length + 1 ≤ 1000000) (hB : W.heap.size ≤ w.heap.size)
    (h : ∀ v' w', OwnN W w' v' (ns ++ [x]) → (∀ b k, b < W.heap.size → w'.cell? ⟨b, k, none⟩ = w.cell? ⟨b, k, none⟩) → (∀ b k, b < W.heap.size → w'.frozen? ⟨b, k, none⟩ = w.frozen? ⟨b, k, none⟩) → w.heap.size ≤ w'.heap.size →
      (∀ V, Bw V w → V.heap.size ≤ W.heap.size → Bw V w') → wpList Try.prog ops Q rest (a.put o.dst v') w') : wpList Try.prog ops Q (o :: rest) a w := by
  obtain ⟨i0, hi, hz0, hz1, hz2⟩ := info_parts Try.infoNode
  obtain ⟨v', w', hr, h2, h3, _⟩ := wD (P := Try.prog) w W.heap.size 22 o.type 32 i0 _ 5 40 Try.underlying22 hi hz0 hz1 hz2 rfl (by decide) v ns.length (qM ns) hown ⟨g, 0, none⟩ 1 c x.cells (by omega) rfl
    (by intro j u hj
        have hj5 : j < 5 := (List.getElem?_eq_some_iff.1 hj).1
        have := hc j hj5
        rw [hj] at this
        refine uD ?_
        rw [Nat.zero_add]
        exact this)
    (by intro u hu; exact uN [x] u (by simpa [qM] using hu)) (by unfold maxLen; omega) (by omega) hB
  have hrow : ∀ b, b < W.heap.size → some b ≠ v.ownBlock := by
    intro b hb e
    have := (World.ownsRow.lt hown b e.symm).1
    omega
  refine wpList_plain hgd fun _ hK => ?_
  unfold Oper.wp execOp
  simp only [ho, resolve, invoke, builtin, Sem.run_bind, Sem.run_pure, Result.andThen_ok, List.map_toArray, List.map_cons, List.map_nil, hs, hx, hr]
  refine hK _ _ (h v' w' ?_ ?_ ?_ h3.size ?_)
  · unfold OwnN; rw [nodeCells_snoc]; simpa using h2
  · intro b k hb; exact World.cell?_of_block (a := ⟨b, k, none⟩) (h3.block b (Nat.lt_of_lt_of_le hb hB) (hrow b hb))
  · intro b k hb; exact World.frozen?_of_block (a := ⟨b, k, none⟩) (h3.block b (Nat.lt_of_lt_of_le hb hB) (hrow b hb))
  · intro V hV hle
    exact Below.grown hV h3 hV.size fun k hk => Nat.le_trans hle ((World.ownsRow.lt hown k hk).1)
theorem nodeCells_app (ns xs : List Nd) : qM (ns ++ xs) = qM ns ++ qM xs := by simp [qM]
theorem appNds {ops : Array Oper} {rest : List Oper} {o : Oper} {a : Act} {Q : Exit → Act → World → Prop} (w : World) (hgd : o.guard = none) (s y : Operand)
    (ho : o.op = .call { callee := .builtin .append, args := #[s, y], argTypes := #[22, 22] }) (W : World) (v : Value) (ns : List Nd) (hs : a.eval s = v) (hown : OwnN W w v ns)
    (g c : Nat) (xs : List Nd) (hx : a.eval y = .slice (some ⟨g, 0, none⟩) xs.length c) (h0 : 0 < xs.length) (hc : ∀ f u, (qM xs)[f]? = some u → w.cell? ⟨g, f, none⟩ = some u) (hlen : ns.length + xs.length ≤ 1000000) (hB : W.heap.size ≤ w.heap.size)
    (h : ∀ v' w', OwnN W w' v' (ns ++ xs) → (∀ b k, b < W.heap.size → w'.cell? ⟨b, k, none⟩ = w.cell? ⟨b, k, none⟩) → (∀ b k, b < W.heap.size → w'.frozen? ⟨b, k, none⟩ = w.frozen? ⟨b, k, none⟩) → w.heap.size ≤ w'.heap.size →
      (∀ V, Bw V w → V.heap.size ≤ W.heap.size → Bw V w') → wpList Try.prog ops Q rest (a.put o.dst v') w') : wpList Try.prog ops Q (o :: rest) a w := by
  obtain ⟨i0, hi, hz0, hz1, hz2⟩ := info_parts Try.infoNode
  obtain ⟨v', w', hr, h2, h3, _⟩ := wD (P := Try.prog) w W.heap.size 22 o.type 32 i0 _ 5 40 Try.underlying22 hi hz0 hz1 hz2 rfl (by decide) v ns.length (qM ns) hown ⟨g, 0, none⟩ xs.length c (qM xs) h0 (uP xs)
    (by intro j u hj
        refine uD ?_
        rw [Nat.zero_add]
        exact hc j u hj)
    (uN xs) (by unfold maxLen; omega) (by omega) hB
  have hrow : ∀ b, b < W.heap.size → some b ≠ v.ownBlock := by
    intro b hb e
    have := (World.ownsRow.lt hown b e.symm).1
    omega
  refine wpList_plain hgd fun _ hK => ?_
  unfold Oper.wp execOp
  simp only [ho, resolve, invoke, builtin, Sem.run_bind, Sem.run_pure, Result.andThen_ok, List.map_toArray, List.map_cons, List.map_nil, hs, hx, hr]
  refine hK _ _ (h v' w' ?_ ?_ ?_ h3.size ?_)
  · unfold OwnN; rw [nodeCells_app]; simpa using h2
  · intro b k hb; exact World.cell?_of_block (a := ⟨b, k, none⟩) (h3.block b (Nat.lt_of_lt_of_le hb hB) (hrow b hb))
  · intro b k hb; exact World.frozen?_of_block (a := ⟨b, k, none⟩) (h3.block b (Nat.lt_of_lt_of_le hb hB) (hrow b hb))
  · intro V hV hle
    exact Below.grown hV h3 hV.size fun k hk => Nat.le_trans hle ((World.ownsRow.lt hown k hk).1)
theorem Try.infoInts2 : (Try.prog.info? 54).map (fun i => (i.zero, i.size, i.bytes)) = some (some (.slice none 0 0), 1, 24) := by kernel_rfl
theorem Try.infoInts3 : (Try.prog.info? 108).map (fun i => (i.zero, i.size, i.bytes)) = some (some (.slice none 0 0), 1, 24) := by kernel_rfl
theorem run_appT (w : World) (t ty res : TypeId) (z : Value) (size bytes : Nat) (hinf : (Try.prog.info? ty).map (fun i => (i.zero, i.size, i.bytes)) = some (some z, size, bytes)) (hund : Try.prog.underlying t = some (.slice ty)) (hzs : z.cells.size = size) (hsz : 0 < size)
    (base : Nat) (v : Value) (n : Nat) (xs : List Value) (hown : w.ownsRow base ty size v n xs)
    (g c : Nat) (news : List Value) (hnl : news.length = size) (hc : ∀ j u, news[j]? = some u → w.cell? ⟨g, j, none⟩ = some u) (h1 : ∀ u ∈ news, u.oneCell' = true) (hl1 : n + 1 ≤ 1000000000) (hb : bytes ≤ 1000) (hB : base ≤ w.heap.size) :
    ∃ v' w', (Builtin.append_ #[t, t] res #[v, .slice (some ⟨g, 0, none⟩) 1 c]).run Try.prog w = .ok v' w' ∧ w'.ownsRow base ty size v' (n + 1) (xs ++ news) ∧ w.grownBy w' v.ownBlock := by
  obtain ⟨i0, hi, hz0, hz1, hz2⟩ := info_parts hinf
  have hbb : (n + 1) * bytes ≤ 1000000000 * 1000 := Nat.mul_le_mul hl1 hb
  obtain ⟨v', w', hr, h2, h3, _⟩ := wD (P := Try.prog) w base t res ty i0 z size bytes hund hi hz0 hz1 hz2 hzs hsz v n xs hown ⟨g, 0, none⟩ 1 c news (by omega) (by omega)
    (by intro j u hj
        refine uD ?_
        rw [Nat.zero_add]
        exact hc j u hj) h1 (by unfold maxLen; omega) (by omega) hB
  exact ⟨v', w', hr, h2, h3⟩
theorem appT {ops : Array Oper} {rest : List Oper} {o : Oper} {a : Act} {Q : Exit → Act → World → Prop} (w : World) (hgd : o.guard = none) (s y : Operand) (t ty : TypeId)
    (ho : o.op = .call { callee := .builtin .append, args := #[s, y], argTypes := #[t, t] }) (z : Value) (size bytes : Nat) (hinf : (Try.prog.info? ty).map (fun i => (i.zero, i.size, i.bytes)) = some (some z, size, bytes)) (hund : Try.prog.underlying t = some (.slice ty)) (hzs : z.cells.size = size) (hsz : 0 < size)
    (base : Nat) (v : Value) (n : Nat) (xs : List Value) (hs : a.eval s = v) (hown : w.ownsRow base ty size v n xs)
    (g c : Nat) (news : List Value) (hx : a.eval y = .slice (some ⟨g, 0, none⟩) 1 c) (hnl : news.length = size) (hc : ∀ j u, news[j]? = some u → w.cell? ⟨g, j, none⟩ = some u) (h1 : ∀ u ∈ news, u.oneCell' = true) (hl1 : n + 1 ≤ 1000000000) (hb : bytes ≤ 1000) (hB : base ≤ w.heap.size)
    (h : ∀ v' w', w'.ownsRow base ty size v' (n + 1) (xs ++ news) → w.grownBy w' v.ownBlock → wpList Try.prog ops Q rest (a.put o.dst v') w') : wpList Try.prog ops Q (o :: rest) a w := by
  obtain ⟨v', w', hr, h2, h3⟩ := run_appT w t ty o.type z size bytes hinf hund hzs hsz base v n xs hown g c news hnl hc h1 hl1 hb hB
  refine wpList_plain hgd fun _ hK => ?_
  unfold Oper.wp execOp
  simp only [ho, resolve, invoke, builtin, Sem.run_bind, Sem.run_pure, Result.andThen_ok, List.map_toArray, List.map_cons, List.map_nil, hs, hx, hr]
  exact hK _ _ (h v' w' h2 h3)
theorem kZ {w w' : World} {v : Value} {base n size : Nat} {ty : TypeId} {xs : List Value} (hown : w.ownsRow base ty size v n xs) (hg : w.grownBy w' v.ownBlock) {b : Nat} {cur : Array Value} {ty' : TypeId} {fr : Nat × Nat} (hb : w.heap[b]? = some (.cells cur ty' fr)) (hne : ty' ≠ ty ∨ b < base) : w'.heap[b]? = some (.cells cur ty' fr) := by
  refine (hg.block b (Array.getElem?_eq_some_iff.1 hb).1 ?_).trans hb
  intro e
  rcases hown.2 with ⟨rfl, _⟩ | ⟨g, cap, cur', rfl, hbb, hgg, _⟩
  · simp [Value.ownBlock] at e
  · simp [Value.ownBlock] at e
    subst e
    rw [hgg] at hb
    simp only [Option.some.injEq, Obj.cells.injEq] at hb
    rcases hne with h | h
    · exact h hb.2.1.symm
    · omega
theorem jU {w w' : World} {v u : Value} {base n size base' n' size' : Nat} {ty ty' : TypeId} {xs ys : List Value} (hown : w.ownsRow base ty size v n xs) (hg : w.grownBy w' v.ownBlock) (h : w.ownsRow base' ty' size' u n' ys) (hne : ty' ≠ ty) : w'.ownsRow base' ty' size' u n' ys := by
  obtain ⟨hl, h⟩ := h
  refine ⟨hl, ?_⟩
  rcases h with h | ⟨g, cap, cur, e1, hgb, hc, r⟩
  · exact .inl h
  · exact .inr ⟨g, cap, cur, e1, hgb, kZ hown hg hc (.inl hne), r⟩
theorem Bw.grown {V w w' : World} {v : Value} {base n size : Nat} {ty : TypeId} {xs : List Value} (h : Bw V w) (hown : w.ownsRow base ty size v n xs) (hg : w.grownBy w' v.ownBlock) (hb : V.heap.size ≤ base) : Bw V w' :=
  Below.grown h hg h.size fun k hk => Nat.le_trans hb ((World.ownsRow.lt hown k hk).1)
theorem kU {w : World} {v : Value} {base base' n size : Nat} {ty : TypeId} {xs : List Value} (h : w.ownsRow base ty size v n xs) (hb : base' ≤ base) : w.ownsRow base' ty size v n xs := by
  obtain ⟨hl, h⟩ := h
  refine ⟨hl, ?_⟩
  rcases h with h | ⟨g, cap, cur, e1, hgb, r⟩
  · exact .inl h
  · exact .inr ⟨g, cap, cur, e1, Nat.le_trans hb hgb, r⟩
structure FlowAt (W w : World) (fb ob L R oc : Nat) (tb tc : Nat → Nat) (rb : Nat → Nat → Nat) (F : Nat → Nat → Nat → List Int) : Prop where
  root : w.heap[fb]? = some (.cells #[.slice (some ⟨ob, 0, none⟩) L oc] 179 (0, 0))
  out : ∃ arr : Array Value, w.heap[ob]? = some (.cells arr 108 (0, 0)) ∧ ∀ n, n < L → arr[n]? = some (.slice (some ⟨tb n, 0, none⟩) 6 (tc n))
  times : ∀ n, n < L → ∃ arr : Array Value, w.heap[tb n]? = some (.cells arr 54 (0, 0)) ∧ ∀ e, e < 6 → arr[e]? = some (.slice (some ⟨rb n e, 0, none⟩) R R)
  rows : ∀ n, n < L → ∀ e, e < 6 → RowAt W w (rb n e) R (fun s => F e s n)
  inj : ∀ n e n' e', n < L → e < 6 → n' < L → e' < 6 → rb n e = rb n' e' → n = n' ∧ e = e'
  low : ∀ n, n < L → ∀ e, e < 6 → W.heap.size ≤ rb n e
def wR (F : Nat → Nat → Nat → List Int) (e s n : Nat) (l : List Int) : Nat → Nat → Nat → List Int := fun e' s' n' => if e' = e ∧ s' = s ∧ n' = n then l else F e' s' n'
theorem yY (F : Nat → Nat → Nat → List Int) (e s n : Nat) (l : List Int) : wR F e s n l e s n = l := by simp [wR]
theorem jY (F : Nat → Nat → Nat → List Int) {e s n e' s' n' : Nat} (l : List Int) (h : ¬ (e' = e ∧ s' = s ∧ n' = n)) : wR F e s n l e' s' n' = F e' s' n' := by simp [wR, h]
theorem FlowAt.frozen {W w : World} {fb ob L R oc : Nat} {tb tc : Nat → Nat} {rb : Nat → Nat → Nat} {F : Nat → Nat → Nat → List Int} (h : FlowAt W w fb ob L R oc tb tc rb F) {n e : Nat} (hn : n < L) (he : e < 6) (s : Nat) : w.frozen? ⟨rb n e, s, none⟩ = false := (h.rows n hn e he).fr s
def nD (_ns : List Nd) (gv : List Gv) : Prop := gv.length ≤ 20 ∧ ∀ k, k < gv.length → mQ (vR gv k).value
theorem bM {x : Nd} {f : Nat → List Int} (h : ∀ z ∈ qF x, nJ (f z.toNat)) : nJ (kK x f) := by
  intro v hv
  unfold kK at hv
  obtain ⟨z, hz, hv⟩ := List.mem_flatMap.1 hv
  exact h z hz v hv
theorem Good.val_64 {ns : List Nd} {r : Int} {q : List Int} (h : Good ns r q) {gv : List Gv} (hg : nD ns gv) (e : Nat) : ∀ s n, n < ns.length → nJ (zL ns gv e s n) := by
  intro s
  induction s with
  | zero =>
    intro n hn
    rw [h.val_fix gv e 0 hn]
    unfold fG
    split
    · exact srcTo_64 hg.2 _ _ _ _ (Nat.le_refl _)
    · split
      · refine bM fun z hz => ?_
        intro v hv; simp [hY] at hv
      · exact nodeL_64 _ _
  | succ s ih =>
    intro n hn
    rw [h.val_fix gv e (s + 1) hn]
    unfold fG
    split
    · exact srcTo_64 hg.2 _ _ _ _ (Nat.le_refl _)
    · split
      · refine bM fun z hz => ?_
        obtain ⟨a, rfl, ha, _, _⟩ := h.inp hn hz
        exact ih a ha
      · exact nodeL_64 _ _
theorem Good.valD_bd {ns : List Nd} {r : Int} {q : List Int} (h : Good ns r q) {gv : List Gv} (hg : nD ns gv) (e s : Nat) {prev : Nat → List Int} (h2 : s = 0 → ∀ a, prev a = []) (h3 : ∀ s', s = s' + 1 → ∀ a, a < ns.length → (prev a).length ≤ dH ns q s' a) :
    ∀ d n, n < ns.length → (valD ns gv e s prev d n).length ≤ dH ns q s n := by
  intro d
  induction d with
  | zero => intro n _; simp [valD]
  | succ d ih => intro n hn; unfold valD; exact h.put_bd hg.1 hn ih h2 h3
theorem Good.val_bd {ns : List Nd} {r : Int} {q : List Int} (h : Good ns r q) {gv : List Gv} (hg : nD ns gv) (e : Nat) : ∀ s n, n < ns.length → (zL ns gv e s n).length ≤ dH ns q s n := by
  intro s
  induction s with
  | zero => intro n hn; exact h.valD_bd hg e 0 (fun _ _ => rfl) (fun s' e => by omega) _ n hn
  | succ s ih => intro n hn; exact h.valD_bd hg e (s + 1) (fun e => by omega) (fun s' e a ha => by have : s' = s := by omega
                                                                                                   subst this; exact ih a ha) _ n hn
theorem Good.val_len {ns : List Nd} {r : Int} {q : List Int} (h : Good ns r q) {gv : List Gv} (hg : nD ns gv) (e : Nat) {s n : Nat} (hs : s ≤ 3) (hn : n < ns.length) : (zL ns gv e s n).length ≤ 81920 :=
  Nat.le_trans (h.val_bd hg e s n hn) (h.bd_le hs)
theorem flat_perm {l : List Int} {f g : Nat → List Int} (h : ∀ z ∈ l, (f z.toNat).Perm (g z.toNat)) : (l.flatMap fun z => f z.toNat).Perm (l.flatMap fun z => g z.toNat) := by
  induction l with
  | nil => simp
  | cons a t ih =>
    rw [List.flatMap_cons, List.flatMap_cons]
    exact (h a (by simp)).append (ih fun z hz => h z (by simp [hz]))
theorem dC {x : Nd} {f g : Nat → List Int} (h : ∀ z ∈ qF x, (f z.toNat).Perm (g z.toNat)) : (kK x f).Perm (kK x g) := flat_perm h
theorem Good.step {ns : List Nd} {r : Int} {q : List Int} (h : Good ns r q) {gv : List Gv} (hg : nD ns gv) {e s n : Nat} (hs : s ≤ 3) (hn : n < ns.length) (h0 : (qV ns n).kind ≠ 0) {F P : Nat → List Int}
    (hF : ∀ a, a < ns.length → vF q a < vF q n → (F a).Perm (zL ns gv e s a)) (hP : ∀ a, a < ns.length → (P a).Perm (hY (zL ns gv e) s a)) :
    nJ (gN (qV ns n) F P) ∧ (gN (qV ns n) F P).length ≤ 200000 ∧ ∀ l : List Int, l.Perm (outL (qV ns n) (gN (qV ns n) F P)) → l.Perm (zL ns gv e s n) := by
  have hin := fun z hz => h.inp hn (z := z) hz
  by_cases k4 : (qV ns n).kind = 4
  · have k4b : ((qV ns n).kind == 4) = true := by simp [k4]
    have k0b : ((qV ns n).kind == 0) = false := by simp [k4]
    have hp : (kK (qV ns n) P).Perm (kK (qV ns n) (hY (zL ns gv e) s)) := dC fun z hz => by
      obtain ⟨a, rfl, ha, _, _⟩ := hin z hz
      exact hP a ha
    have hv : zL ns gv e s n = kK (qV ns n) (hY (zL ns gv e) s) := by
      rw [h.val_fix gv e s hn]; unfold fG; rw [k0b, k4b]; rfl
    have hc : gN (qV ns n) F P = kK (qV ns n) P := by unfold gN; rw [k4b]; rfl
    rw [← hv] at hp
    rw [hc]
    refine ⟨fun v hv => h.val_64 hg e s n hn v (hp.mem_iff.1 hv), ?_, ?_⟩
    · rw [hp.length_eq]; have := h.val_len hg e hs hn; omega
    · intro l hl
      unfold outL at hl
      rw [k4b] at hl
      exact hl.trans hp
  · have k4b : ((qV ns n).kind == 4) = false := by simp [k4]
    have k0b : ((qV ns n).kind == 0) = false := by simp [h0]
    have hp : (kK (qV ns n) F).Perm (kK (qV ns n) (zL ns gv e s)) := dC fun z hz => by
      obtain ⟨a, rfl, ha, _, hr⟩ := hin z hz
      exact hF a ha (hr k4)
    have h64 : nJ (kK (qV ns n) (zL ns gv e s)) := bM fun z hz => by
      obtain ⟨a, rfl, ha, _, _⟩ := hin z hz
      exact h.val_64 hg e s a ha
    have hlen : (kK (qV ns n) (zL ns gv e s)).length ≤ 200000 := by
      by_cases k3 : (qV ns n).kind = 3
      · have hil := xL k3
        obtain ⟨a, ea, ha, _, _⟩ := hin (qV ns n).a (by rw [hil]; simp)
        obtain ⟨b, eb, hb, _, _⟩ := hin (qV ns n).b (by rw [hil]; simp)
        unfold kK
        rw [hil, ea, eb]
        have := h.val_len hg e hs ha
        have := h.val_len hg e hs hb
        simp
        omega
      · have hil := wQ h0 k3
        obtain ⟨a, ea, ha, _, _⟩ := hin (qV ns n).a (by rw [hil]; simp)
        unfold kK
        rw [hil, ea]
        have := h.val_len hg e hs ha
        simp
        omega
    have hv : zL ns gv e s n = wJ (qV ns n) (kK (qV ns n) (zL ns gv e s)) := by
      rw [h.val_fix gv e s hn]; unfold fG; rw [k0b, k4b]; rfl
    have hc : gN (qV ns n) F P = kK (qV ns n) F := by unfold gN; rw [k4b]; rfl
    have h64' : nJ (kK (qV ns n) F) := fun v hv => h64 v (hp.mem_iff.1 hv)
    rw [hc]
    refine ⟨h64', by rw [hp.length_eq]; exact hlen, ?_⟩
    intro l hl
    unfold outL at hl
    rw [k4b] at hl
    rw [hv]
    exact hl.trans (nodeL_perm hp h64')
theorem Good.src {ns : List Nd} {r : Int} {q : List Int} (h : Good ns r q) (gv : List Gv) (e s : Nat) {n : Nat} (hn : n < ns.length) (h0 : (qV ns n).kind = 0) : zL ns gv e s n = bU gv n e s := by
  rw [h.val_fix gv e s hn]; unfold fG; rw [if_pos (by simp [h0])]
theorem Try.infoInts : (Try.prog.info? 26).map (fun i => (i.zero, i.size, i.bytes)) = some (some (.slice none 0 0), 1, 24) := by kernel_rfl
theorem make_row (n : Nat) (hn : n ≤ 1000) : ∀ w : World, (Instr.makeSlice 54 (.int .i64 (n : Int)) (.int .i64 (n : Int))).run Try.prog w = .ok (.slice (some ⟨w.heap.size, 0, none⟩) n n) (w.alloc (.cells (madeCells #[.slice none 0 0] n) 26)) := by
  intro w
  obtain ⟨i0, hi, hz0, hz1, hz2⟩ := info_parts Try.infoInts
  have hmk := run_make (P := Try.prog) w 54 26 i0 _ Try.underlying54 hi hz0 .i64 .i64 (n : Int) (n : Int) (by omega) (by omega) (by rw [hz2]; omega) (by omega)
  rw [Int.toNat_natCast, hz1, Nat.mul_one] at hmk
  exact hmk
theorem qU {w : World} {fb k b : Nat} {arr arr' : Array Value} {t t' : TypeId} {fr fr' : Nat × Nat} {u : Value} (h : w.heap[fb]? = some (.cells arr t fr)) (hb : w.heap[b]? = some (.cells arr' t' fr')) (hne : t' ≠ t) : (w.setCell ⟨fb, k, none⟩ u).heap[b]? = some (.cells arr' t' fr') := by
  refine (Below.heap_setCell w ⟨fb, k, none⟩ u b ?_).trans hb
  intro eq
  simp only at eq
  subst eq
  rw [h] at hb
  simp only [Option.some.injEq, Obj.cells.injEq] at hb
  exact hne hb.2.1.symm
theorem ownsRow_set {w : World} {fb k base n size : Nat} {arr : Array Value} {t ty : TypeId} {fr : Nat × Nat} {u v : Value} {xs : List Value} (h : w.heap[fb]? = some (.cells arr t fr)) (hv : w.ownsRow base ty size v n xs) (hne : ty ≠ t) : (w.setCell ⟨fb, k, none⟩ u).ownsRow base ty size v n xs := by
  obtain ⟨hl, hv⟩ := hv
  refine ⟨hl, ?_⟩
  rcases hv with hv | ⟨g, cap, cur, e1, hgb, hc, r⟩
  · exact .inl hv
  · exact .inr ⟨g, cap, cur, e1, hgb, qU h hc hne, r⟩
theorem RowAt.setTag {W w : World} {fb k g L : Nat} {arr : Array Value} {t : TypeId} {fr : Nat × Nat} {u : Value} {ls : Nat → List Int} (hr : RowAt W w g L ls) (h : w.heap[fb]? = some (.cells arr t fr)) (h1 : 26 ≠ t) (h2 : 3 ≠ t) : RowAt W (w.setCell ⟨fb, k, none⟩ u) g L ls := by
  obtain ⟨a, e1, e2, e3⟩ := hr
  refine ⟨a, qU h e1 h1, e2, fun j hj => ?_⟩
  obtain ⟨v, ev, ho⟩ := e3 j hj
  exact ⟨v, ev, ownsRow_set h ho h2⟩
theorem ownsRow_slice {w : World} {base n size : Nat} {ty : TypeId} {v : Value} {xs : List Value} (h : w.ownsRow base ty size v n xs) : ∃ ad cap, v = .slice ad n cap := by
  rcases h.2 with ⟨e, h0⟩ | ⟨g, cap, cur, e, _⟩
  · exact ⟨none, 0, by rw [e, h0]⟩
  · exact ⟨_, cap, e⟩
def tbOf (v : Value) : Nat := v.ownBlock.getD 0
def tcOf (v : Value) : Nat := match v with
  | .slice _ _ c => c
  | _ => 0
theorem mR {w : World} {base n : Nat} {ty : TypeId} {v : Value} {xs : List Value} (h : w.ownsRow base ty 1 v n xs) (hn : 0 < n) : v = .slice (some ⟨tbOf v, 0, none⟩) n (tcOf v) ∧ ∃ arr : Array Value, w.heap[tbOf v]? = some (.cells arr ty (0, 0)) ∧ ∀ j, j < n → arr[j]? = xs[j]? := by
  rcases h.2 with ⟨e, h0⟩ | ⟨g, cap, cur, rfl, hb, hc, h1, h2, h3, h4⟩
  · omega
  · refine ⟨rfl, cur, hc, fun j hj => ?_⟩
    rw [← h4, Nat.mul_one, List.getElem?_take_of_lt hj, Array.getElem?_toList]
theorem nZ {w : World} {g : Nat} {a : Value} (h0 : w.cell? ⟨g, 0, none⟩ = some a) : ∀ j u, [a][j]? = some u → w.cell? ⟨g, j, none⟩ = some u := by
  intro j u hj
  match j, hj with
  | 0, hj => simp at hj; subst hj; exact h0
end Go.Proofs.Ytfemleimkbjehaa
