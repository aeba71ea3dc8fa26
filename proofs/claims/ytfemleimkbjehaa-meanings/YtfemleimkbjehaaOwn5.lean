import Derived.Test.YtfemleimkbjehaaMean1
import Derived.Test.YtfemleimkbjehaaOwnB
namespace Go.Proofs.Ytfemleimkbjehaa
open Go.RowKit

theorem Try.infoMoment : (Try.prog.info? 206).map (fun i => (i.zero, i.size, i.bytes)) = some (some (.agg #[.int .i64 0, .int .i64 0, .slice none 0 0]), 3, 40) := by kernel_rfl
theorem Try.infoRecord : (Try.prog.info? 110).map (fun i => (i.zero, i.size, i.bytes)) = some (some (.agg #[.int .i64 0, .int .i64 0, .int .i64 0, .int .i64 0, .int .i64 0]), 5, 40) := by kernel_rfl
theorem Try.infoInts2 : (Try.prog.info? 54).map (fun i => (i.zero, i.size, i.bytes)) = some (some (.slice none 0 0), 1, 24) := by kernel_rfl
theorem Try.infoInts3 : (Try.prog.info? 108).map (fun i => (i.zero, i.size, i.bytes)) = some (some (.slice none 0 0), 1, 24) := by kernel_rfl

/-- 'append(v, x)' of one element of any type. -/
theorem run_appT (w : World) (t ty res : TypeId) (z : Value) (size bytes : Nat) (hinf : (Try.prog.info? ty).map (fun i => (i.zero, i.size, i.bytes)) = some (some z, size, bytes)) (hund : Try.prog.underlying t = some (.slice ty)) (hzs : z.cells.size = size) (hsz : 0 < size)
    (base : Nat) (v : Value) (n : Nat) (xs : List Value) (hown : w.ownsRow base ty size v n xs)
    (g c : Nat) (news : List Value) (hnl : news.length = size) (hc : ∀ j u, news[j]? = some u → w.cell? ⟨g, j, none⟩ = some u) (h1 : ∀ u ∈ news, u.oneCell' = true) (hl1 : n + 1 ≤ 1000000000) (hb : bytes ≤ 1000) (hB : base ≤ w.heap.size) :
    ∃ v' w', (Builtin.append_ #[t, t] res #[v, .slice (some ⟨g, 0, none⟩) 1 c]).run Try.prog w = .ok v' w' ∧ w'.ownsRow base ty size v' (n + 1) (xs ++ news) ∧ w.grownBy w' v.ownBlock := by
  obtain ⟨i0, hi, hz0, hz1, hz2⟩ := info_parts hinf
  have hbb : (n + 1) * bytes ≤ 1000000000 * 1000 := Nat.mul_le_mul hl1 hb
  obtain ⟨v', w', hr, h2, h3, _⟩ := run_append_keep (P := Try.prog) w base t res ty i0 z size bytes hund hi hz0 hz1 hz2 hzs hsz v n xs hown ⟨g, 0, none⟩ 1 c news (by omega) (by omega)
    (by intro j u hj
        refine add_cell ?_
        rw [Nat.zero_add]
        exact hc j u hj) h1 (by unfold maxLen; omega) (by omega) hB
  exact ⟨v', w', hr, h2, h3⟩

theorem appT {ops : Array Oper} {rest : List Oper} {o : Oper} {a : Act} {Q : Exit → Act → World → Prop} (w : World) (hgd : o.guard = none) (s y : Operand) (t ty : TypeId)
    (ho : o.op = .call { callee := .builtin .append, args := #[s, y], argTypes := #[t, t] }) (z : Value) (size bytes : Nat) (hinf : (Try.prog.info? ty).map (fun i => (i.zero, i.size, i.bytes)) = some (some z, size, bytes)) (hund : Try.prog.underlying t = some (.slice ty)) (hzs : z.cells.size = size) (hsz : 0 < size)
    (base : Nat) (v : Value) (n : Nat) (xs : List Value) (hs : a.eval s = v) (hown : w.ownsRow base ty size v n xs)
    (g c : Nat) (news : List Value) (hx : a.eval y = .slice (some ⟨g, 0, none⟩) 1 c) (hnl : news.length = size) (hc : ∀ j u, news[j]? = some u → w.cell? ⟨g, j, none⟩ = some u) (h1 : ∀ u ∈ news, u.oneCell' = true) (hl1 : n + 1 ≤ 1000000000) (hb : bytes ≤ 1000) (hB : base ≤ w.heap.size)
    (h : ∀ v' w', w'.ownsRow base ty size v' (n + 1) (xs ++ news) → w.grownBy w' v.ownBlock → wpList Try.prog ops Q rest (a.put o.dst v') w') : wpList Try.prog ops Q (o :: rest) a w := by
  obtain ⟨v', w', hr, h2, h3⟩ := run_appT w t ty o.type z size bytes hinf hund hzs hsz base v n xs hown g c news hnl hc h1 hl1 hb hB
  refine wpList_plain hgd fun _ hK => ?_
  unfold Oper.wp execOp
  simp only [ho, resolve, invoke, builtin, Sem.run_bind, Sem.run_pure, Result.andThen_ok, List.map_toArray, List.map_cons, List.map_nil, hs, hx, hr]
  exact hK _ _ (h v' w' h2 h3)

/-- An append leaves the blocks of other types, and those ahead of its base. -/
theorem grown_block {w w' : World} {v : Value} {base n size : Nat} {ty : TypeId} {xs : List Value} (hown : w.ownsRow base ty size v n xs) (hg : w.grownBy w' v.ownBlock) {b : Nat} {cur : Array Value} {ty' : TypeId} {fr : Nat × Nat} (hb : w.heap[b]? = some (.cells cur ty' fr)) (hne : ty' ≠ ty ∨ b < base) : w'.heap[b]? = some (.cells cur ty' fr) := by
  refine (hg.block b (Array.getElem?_eq_some_iff.1 hb).1 ?_).trans hb
  intro e
  rcases hown.2 with ⟨rfl, _⟩ | ⟨g, cap, cur', rfl, hbb, hgg, _⟩
  · simp [Value.ownBlock] at e
  · simp [Value.ownBlock] at e
    subst e
    rw [hgg] at hb
    simp only [Option.some.injEq, Obj.cells.injEq] at hb
    rcases hne with h | h
    · exact h hb.2.1.symm
    · omega
theorem ownsRow_grown {w w' : World} {v u : Value} {base n size base' n' size' : Nat} {ty ty' : TypeId} {xs ys : List Value} (hown : w.ownsRow base ty size v n xs) (hg : w.grownBy w' v.ownBlock) (h : w.ownsRow base' ty' size' u n' ys) (hne : ty' ≠ ty) : w'.ownsRow base' ty' size' u n' ys := by
  obtain ⟨hl, h⟩ := h
  refine ⟨hl, ?_⟩
  rcases h with h | ⟨g, cap, cur, e1, hgb, hc, r⟩
  · exact .inl h
  · exact .inr ⟨g, cap, cur, e1, hgb, grown_block hown hg hc (.inl hne), r⟩
theorem RowAt.grown {W w w' : World} {v : Value} {base n size g L : Nat} {ty : TypeId} {xs : List Value} {ls : Nat → List Int} (h : RowAt W w g L ls) (hown : w.ownsRow base ty size v n xs) (hg : w.grownBy w' v.ownBlock) (h1 : 26 ≠ ty) (h2 : 3 ≠ ty) : RowAt W w' g L ls := by
  obtain ⟨arr, e1, e2, e3⟩ := h
  refine ⟨arr, grown_block hown hg e1 (.inl h1), e2, fun j hj => ?_⟩
  obtain ⟨u, eu, ho⟩ := e3 j hj
  exact ⟨u, eu, ownsRow_grown hown hg ho h2⟩
theorem Bw.grown {V w w' : World} {v : Value} {base n size : Nat} {ty : TypeId} {xs : List Value} (h : Bw V w) (hown : w.ownsRow base ty size v n xs) (hg : w.grownBy w' v.ownBlock) (hb : V.heap.size ≤ base) : Bw V w' :=
  Below.grown h hg h.size fun k hk => Nat.le_trans hb ((World.ownsRow.lt hown k hk).1)
theorem ownsRow_weaken {w : World} {v : Value} {base base' n size : Nat} {ty : TypeId} {xs : List Value} (h : w.ownsRow base ty size v n xs) (hb : base' ≤ base) : w.ownsRow base' ty size v n xs := by
  obtain ⟨hl, h⟩ := h
  refine ⟨hl, ?_⟩
  rcases h with h | ⟨g, cap, cur, e1, hgb, r⟩
  · exact .inl h
  · exact .inr ⟨g, cap, cur, e1, Nat.le_trans hb hgb, r⟩

/-- What is put out at one time: a block of lists, by node. -/
structure Mo where
  e : Nat
  s : Nat
  g : Nat
  F : Nat → List Int
def moCells (L : Nat) (m : Mo) : List Value := [.int .i64 (m.e : Int), .int .i64 (m.s : Int), .slice (some ⟨m.g, 0, none⟩) L L]
def mosCells (L : Nat) (ms : List Mo) : List Value := ms.flatMap (moCells L)
theorem mosCells_snoc (L : Nat) (ms : List Mo) (m : Mo) : mosCells L (ms ++ [m]) = mosCells L ms ++ moCells L m := by simp [mosCells]
structure MosAt (W w : World) (v : Value) (L : Nat) (ms : List Mo) : Prop where
  own : w.ownsRow W.heap.size 206 3 v ms.length (mosCells L ms)
  rows : ∀ m ∈ ms, RowAt W w m.g L m.F
theorem MosAt.nil (W w : World) (L : Nat) : MosAt W w (.slice none 0 0) L [] := ⟨World.ownsRow_nil _ _ _ _, by simp⟩
theorem MosAt.bw {W a b : World} {v : Value} {L : Nat} {ms : List Mo} (h : MosAt W a v L ms) (hb : Bw a b) : MosAt W b v L ms :=
  ⟨ownsRow_bw h.own fun g hg => Below.block hb g hg, fun m hm => (h.rows m hm).bw hb⟩
theorem MosAt.weaken {V W a : World} {v : Value} {L : Nat} {ms : List Mo} (h : MosAt W a v L ms) (hb : Bw V W) : MosAt V a v L ms :=
  ⟨ownsRow_weaken h.own hb.size, fun m hm => (h.rows m hm).weaken hb⟩
theorem MosAt.grow {W w w' : World} {v v' : Value} {L : Nat} {ms : List Mo} {m : Mo} (h : MosAt W w v L ms) (hm : RowAt W w m.g L m.F) (h2 : w'.ownsRow W.heap.size 206 3 v' (ms.length + 1) (mosCells L ms ++ moCells L m)) (hg : w.grownBy w' v.ownBlock) : MosAt W w' v' L (ms ++ [m]) := by
  refine ⟨by rw [mosCells_snoc, List.length_append]; exact h2, fun x hx => ?_⟩
  rcases List.mem_append.1 hx with hx | hx
  · exact (h.rows x hx).grown h.own hg (by decide) (by decide)
  · simp at hx; subst hx; exact hm.grown h.own hg (by decide) (by decide)
theorem mosCells_get (L : Nat) : ∀ (ms : List Mo) (j : Nat) (m : Mo), ms[j]? = some m → ∀ f, f < 3 → (mosCells L ms)[j * 3 + f]? = (moCells L m)[f]? := by
  intro ms
  induction ms with
  | nil => intro j m h; simp at h
  | cons a t ih =>
    intro j m h f hf
    cases j with
    | zero =>
      simp at h; subst h
      simp only [mosCells, List.flatMap_cons]
      rw [List.getElem?_append_left (by simp [moCells]; omega)]
      simp
    | succ j =>
      simp at h
      simp only [mosCells, List.flatMap_cons]
      rw [List.getElem?_append_right (by simp [moCells]; omega)]
      have := ih j m h f hf
      simp only [mosCells] at this
      rw [← this]
      congr 1
      simp [moCells]; omega
theorem MosAt.get {W w : World} {ad : Option Addr} {n cap L : Nat} {ms : List Mo} (h : MosAt W w (.slice ad n cap) L ms) {j : Nat} (hj : j < ms.length) : n = ms.length ∧ ∃ g m, ad = some ⟨g, 0, none⟩ ∧ g < w.heap.size ∧ ms[j]? = some m ∧ w.cell? ⟨g, j * 3, none⟩ = some (.int .i64 (m.e : Int)) ∧ w.cell? ⟨g, j * 3 + 1, none⟩ = some (.int .i64 (m.s : Int)) ∧ w.cell? ⟨g, j * 3 + 2, none⟩ = some (.slice (some ⟨m.g, 0, none⟩) L L) ∧ RowAt W w m.g L m.F := by
  have hown := h.own
  rcases hown.2 with ⟨_, h0⟩ | ⟨g, cap', cur, e, hg, hc, _⟩
  · omega
  · simp at e
    obtain ⟨rfl, rfl, rfl⟩ := e
    have hm : ms[j]? = some ms[j] := List.getElem?_eq_getElem hj
    have hcells := World.ownsRow.cells hown (g := g) rfl
    have key : ∀ f u, f < 3 → (moCells L ms[j])[f]? = some u → w.cell? ⟨g, j * 3 + f, none⟩ = some u := by
      intro f u hf hu
      have := hcells (j * 3 + f) u (by rw [mosCells_get L ms j _ hm f hf]; exact hu)
      rw [Go.WideShapes.add_plain] at this
      rw [← this, Nat.zero_add]
    exact ⟨rfl, g, ms[j], rfl, (Array.getElem?_eq_some_iff.1 hc).1, hm, key 0 _ (by omega) rfl, key 1 _ (by omega) rfl, key 2 _ (by omega) rfl, h.rows _ (List.getElem_mem hj)⟩
theorem MosAt.slice {W w : World} {v : Value} {L : Nat} {ms : List Mo} (h : MosAt W w v L ms) : ∃ ad cap, v = .slice ad ms.length cap := by
  rcases h.own.2 with ⟨e, h0⟩ | ⟨g, cap, cur, e, _⟩
  · exact ⟨none, 0, by rw [e, h0]⟩
  · exact ⟨_, cap, e⟩
end Go.Proofs.Ytfemleimkbjehaa
