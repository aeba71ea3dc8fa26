import Derived.Test.YtfemleimkbjehaaGreatJ6
set_option maxRecDepth 1000000
set_option maxHeartbeats 40000000
set_option linter.unusedVariables false
set_option linter.unusedSimpArgs false
namespace Go.Proofs.YtfemleimkbjehaaGreat
open Go.RowKit
theorem run_appL (w : World) (t ty res : TypeId) (z : Value) (size bytes : Nat) (hinf : (Tryz.prog.info? ty).map (fun i => (i.zero, i.size, i.bytes)) = some (some z, size, bytes)) (hund : Tryz.prog.underlying t = some (.slice ty)) (hzs : z.cells.size = size) (hsz : 0 < size)
    (base : Nat) (v : Value) (n : Nat) (xs : List Value) (hown : w.ownsRow base ty size v n xs)
    (g c : Nat) (news : List Value) (hnl : news.length = size) (hc : ∀ j u, news[j]? = some u → w.cell? ⟨g, j, none⟩ = some u) (h1 : ∀ u ∈ news, u.oneCell' = true) (hl1 : n + 1 ≤ 1000000000) (hb : bytes ≤ 1000) (hB : base ≤ w.heap.size) :
    ∃ g' cap w', (Builtin.append_ #[t, t] res #[v, .slice (some ⟨g, 0, none⟩) 1 c]).run Tryz.prog w = .ok (.slice (some ⟨g', 0, none⟩) (n + 1) cap) w' ∧ w'.ownsRow base ty size (.slice (some ⟨g', 0, none⟩) (n + 1) cap) (n + 1) (xs ++ news) ∧ w.grownBy w' v.ownBlock ∧ (v.ownBlock = some g' ∨ g' = w.heap.size) := by
  obtain ⟨i0, hi, hz0, hz1, hz2⟩ := info_parts hinf
  have hbb : (n + 1) * bytes ≤ 1000000000 * 1000 := Nat.mul_le_mul hl1 hb
  obtain ⟨g', cap, w', hr, h2, h3, h4, _⟩ := run_append_lies (P := Tryz.prog) w t res base ty i0 z size bytes hund hi hz0 hz1 hz2 hzs hsz v n xs hown ⟨g, 0, none⟩ 1 c news (by omega)
    (by intro j u hj
        refine add_cell ?_
        rw [Nat.zero_add]
        exact hc j u hj) h1 (by omega) (by unfold maxLen; omega) (by omega) hB _ rfl
  exact ⟨g', cap, w', hr, h2, h3, h4⟩
theorem appL {ops : Array Oper} {rest : List Oper} {o : Oper} {a : Act} {Q : Exit → Act → World → Prop} (w : World) (hgd : o.guard = none) (s y : Operand) (t ty : TypeId)
    (ho : o.op = .call { callee := .builtin .append, args := #[s, y], argTypes := #[t, t] }) (z : Value) (size bytes : Nat) (hinf : (Tryz.prog.info? ty).map (fun i => (i.zero, i.size, i.bytes)) = some (some z, size, bytes)) (hund : Tryz.prog.underlying t = some (.slice ty)) (hzs : z.cells.size = size) (hsz : 0 < size)
    (base : Nat) (v : Value) (n : Nat) (xs : List Value) (hs : a.eval s = v) (hown : w.ownsRow base ty size v n xs)
    (g c : Nat) (news : List Value) (hx : a.eval y = .slice (some ⟨g, 0, none⟩) 1 c) (hnl : news.length = size) (hc : ∀ j u, news[j]? = some u → w.cell? ⟨g, j, none⟩ = some u) (h1 : ∀ u ∈ news, u.oneCell' = true) (hl1 : n + 1 ≤ 1000000000) (hb : bytes ≤ 1000) (hB : base ≤ w.heap.size)
    (h : ∀ g' cap w', w'.ownsRow base ty size (.slice (some ⟨g', 0, none⟩) (n + 1) cap) (n + 1) (xs ++ news) → w.grownBy w' v.ownBlock → (v.ownBlock = some g' ∨ g' = w.heap.size) → wpList Tryz.prog ops Q rest (a.put o.dst (.slice (some ⟨g', 0, none⟩) (n + 1) cap)) w') : wpList Tryz.prog ops Q (o :: rest) a w := by
  obtain ⟨g', cap, w', hr, h2, h3, h4⟩ := run_appL w t ty o.type z size bytes hinf hund hzs hsz base v n xs hown g c news hnl hc h1 hl1 hb hB
  refine wpList_plain hgd fun _ hK => ?_
  unfold Oper.wp execOp
  simp only [ho, resolve, invoke, builtin, Sem.run_bind, Sem.run_pure, Result.andThen_ok, List.map_toArray, List.map_cons, List.map_nil, hs, hx, hr]
  exact hK _ _ (h g' cap w' h2 h3 h4)
theorem yT {ops : Array Oper} {o : Oper} {a : Act} {w : World} {K : Act → World → Prop} {Q : Exit → Act → World → Prop} {E : Prop} (hgd : o.guard = none) (s y : Operand) (t ty : TypeId)
    (ho : o.op = .call { callee := .builtin .append, args := #[s, y], argTypes := #[t, t] }) (z : Value) (size bytes : Nat) (hinf : (Tryz.prog.info? ty).map (fun i => (i.zero, i.size, i.bytes)) = some (some z, size, bytes)) (hund : Tryz.prog.underlying t = some (.slice ty)) (hzs : z.cells.size = size) (hsz : 0 < size)
    (base : Nat) (v : Value) (n : Nat) (xs : List Value) (hs : a.eval s = v) (hown : w.ownsRow base ty size v n xs)
    (g c : Nat) (news : List Value) (hx : a.eval y = .slice (some ⟨g, 0, none⟩) 1 c) (hnl : news.length = size) (hc : ∀ j u, news[j]? = some u → w.cell? ⟨g, j, none⟩ = some u) (h1 : ∀ u ∈ news, u.oneCell' = true) (hl1 : n + 1 ≤ 1000000000) (hb : bytes ≤ 1000) (hB : base ≤ w.heap.size)
    (h : ∀ g' cap w', w'.ownsRow base ty size (.slice (some ⟨g', 0, none⟩) (n + 1) cap) (n + 1) (xs ++ news) → w.grownBy w' v.ownBlock → (v.ownBlock = some g' ∨ g' = w.heap.size) → K (a.put o.dst (.slice (some ⟨g', 0, none⟩) (n + 1) cap)) w') :
    if Region.wanted o (yielded ops a.tmps) = true then Oper.wp Tryz.prog o a w K Q else E := by
  obtain ⟨g', cap, w', hr, h2, h3, h4⟩ := run_appL w t ty o.type z size bytes hinf hund hzs hsz base v n xs hown g c news hnl hc h1 hl1 hb hB
  have hw : Region.wanted o (yielded ops a.tmps) = true := by simp [Region.wanted, hgd]
  rw [if_pos hw]
  unfold Oper.wp
  simp only [execOp, ho, resolve, invoke, builtin, Sem.run_bind, Sem.run_pure, Result.andThen_ok, List.map_toArray, List.map_cons, List.map_nil, hs, hx, hr]
  exact h g' cap w' h2 h3 h4
structure Chg (S : Nat → Prop) (a b : World) : Prop where
  os : b.os = a.os
  tape : b.tape = a.tape
  output : b.output = a.output
  size : a.heap.size ≤ b.heap.size
  block : ∀ k, k < a.heap.size → ¬ S k → b.heap[k]? = a.heap[k]?
theorem Chg.refl (S : Nat → Prop) (a : World) : Chg S a a := ⟨rfl, rfl, rfl, Nat.le_refl _, fun _ _ _ => rfl⟩
theorem Chg.bw {S : Nat → Prop} {a b : World} (h : Bw a b) : Chg S a b := ⟨Below.os h, Below.tape h, Below.output h, Below.size h, fun i hi _ => Below.block h i hi⟩
theorem Chg.trans {S T : Nat → Prop} {a b c : World} (h : Chg S a b) (k : Chg T b c) (hT : ∀ x, T x → S x ∨ a.heap.size ≤ x) : Chg S a c :=
  ⟨k.os.trans h.os, k.tape.trans h.tape, k.output.trans h.output, Nat.le_trans h.size k.size, fun i hi hn => (k.block i (Nat.lt_of_lt_of_le hi h.size) (fun ht => by rcases hT i ht with h1 | h1; exact hn h1; omega)).trans (h.block i hi hn)⟩
theorem Chg.mono {S T : Nat → Prop} {a b : World} (h : Chg S a b) (hT : ∀ x, S x → T x) : Chg T a b := ⟨h.os, h.tape, h.output, h.size, fun i hi hn => h.block i hi fun hs => hn (hT i hs)⟩
theorem Chg.toBw {S : Nat → Prop} {W a b : World} (h : Bw W a) (k : Chg S a b) (hS : ∀ x, S x → W.heap.size ≤ x) : Bw W b :=
  ⟨k.os.trans (Below.os h), k.tape.trans (Below.tape h), k.output.trans (Below.output h), Nat.le_trans (Below.size h) k.size, fun i hi => (k.block i (Nat.lt_of_lt_of_le hi (Below.size h)) (fun hs => by have := hS i hs; omega)).trans (Below.block h i hi)⟩
def OwnsIn (S : Nat → Prop) (w : World) (ty : TypeId) (size : Nat) (v : Value) (n : Nat) (xs : List Value) : Prop := w.ownsRow 0 ty size v n xs ∧ ∀ b, v.ownBlock = some b → S b
theorem OwnsIn.frame {S : Nat → Prop} {w w' : World} {ty : TypeId} {size n : Nat} {v : Value} {xs : List Value} (h : OwnsIn S w ty size v n xs) (hf : ∀ b, S b → b < w.heap.size → w'.heap[b]? = w.heap[b]?) : OwnsIn S w' ty size v n xs := by
  obtain ⟨⟨hl, h⟩, hs⟩ := h
  refine ⟨⟨hl, ?_⟩, hs⟩
  rcases h with h | ⟨g, cap, cur, rfl, hg, hc, r⟩
  · exact .inl h
  · exact .inr ⟨g, cap, cur, rfl, hg, (hf g (hs g rfl) (Array.getElem?_eq_some_iff.1 hc).1).trans hc, r⟩
theorem OwnsIn.mono {S T : Nat → Prop} {w : World} {ty : TypeId} {size n : Nat} {v : Value} {xs : List Value} (h : OwnsIn S w ty size v n xs) (hT : ∀ b, S b → T b) : OwnsIn T w ty size v n xs := ⟨h.1, fun b hb => hT b (h.2 b hb)⟩
theorem OwnsIn.grown {S : Nat → Prop} {w w' : World} {ty ty' : TypeId} {size n base' size' n' : Nat} {v u : Value} {xs ys : List Value} (h : OwnsIn S w ty size v n xs) (hown : w.ownsRow base' ty' size' u n' ys) (hg : w.grownBy w' u.ownBlock) (hne : ty ≠ ty') : OwnsIn S w' ty size v n xs := ⟨kQ hown hg h.1 hne, h.2⟩
theorem qN {w : World} {fb k base n size : Nat} {arr : Array Value} {t ty : TypeId} {fr : Nat × Nat} {u v : Value} {xs : List Value} (h : w.heap[fb]? = some (.cells arr t fr)) (hv : w.ownsRow base ty size v n xs) (hne : ty ≠ t) : (w.setCell ⟨fb, k, none⟩ u).ownsRow base ty size v n xs := by
  obtain ⟨hl, hv⟩ := hv
  refine ⟨hl, ?_⟩
  rcases hv with hv | ⟨g, cap, cur, e1, hgb, hc, r⟩
  · exact .inl hv
  · refine .inr ⟨g, cap, cur, e1, hgb, (Below.heap_setCell w ⟨fb, k, none⟩ u g ?_).trans hc, r⟩
    intro eq
    simp only at eq
    subst eq
    rw [h] at hc
    simp only [Option.some.injEq, Obj.cells.injEq] at hc
    exact hne hc.2.1.symm
theorem OwnsIn.set {S : Nat → Prop} {w : World} {ty t : TypeId} {size n fb k : Nat} {v u : Value} {xs : List Value} {arr : Array Value} {fr : Nat × Nat} (h : OwnsIn S w ty size v n xs) (hr : w.heap[fb]? = some (.cells arr t fr)) (hne : ty ≠ t) : OwnsIn S (w.setCell ⟨fb, k, none⟩ u) ty size v n xs := ⟨qN hr h.1 hne, h.2⟩
def jS (l : List Ml) : List Value := l.flatMap Ml.cells
def qR (l : List Pt) : List Value := l.flatMap Pt.cells
def jM : List Cg → List Value → List Value
  | c :: cs, v :: vs => .int .i64 c.worker :: v :: jM cs vs
  | _, _ => []
def TabIn (S : Nat → Prop) (w : World) (v : Value) (n m : Nat) (f : Nat → Nat → Int) : Prop :=
  ∃ vs : List Value, OwnsIn S w 94 1 v n vs ∧ ∀ i, i < n → ∃ u, vs[i]? = some u ∧ OwnsIn S w 3 1 u m ((List.range m).map fun j => .int .i64 (f i j))
def LogIn (S : Nat → Prop) (w : World) (v : Value) (cs : List Cg) : Prop :=
  ∃ vs : List Value, vs.length = cs.length ∧ OwnsIn S w 113 2 v cs.length (jM cs vs) ∧ ∀ i, i < cs.length → ∃ u, vs[i]? = some u ∧ OwnsIn S w 67 5 u (jF cs i).pts.length (qR (jF cs i).pts)
structure RX where
  n : Value
  m : Value
  l : Value
  e : Value
  o : Value
  t : Value
  d : Value
  ts : List Value
  ds : List Value
def InjL (vs : List Value) : Prop := ∀ (i j : Nat) (a b : Value) (g : Nat), vs[i]? = some a → vs[j]? = some b → Value.ownBlock a = some g → Value.ownBlock b = some g → i = j
def RowSep (ts ds : List Value) : Prop := InjL ts ∧ ∀ (i j : Nat) (a b : Value) (g : Nat), ts[i]? = some a → ds[j]? = some b → Value.ownBlock a = some g → Value.ownBlock b ≠ some g
structure ROwn (w : World) (S : Nat → Prop) (rb : Nat) (x : RX) (ns : List Nd) (R W : Nat) (D : Nat → Nat → Int) (st : RSt) : Prop where
  root : w.heap[rb]? = some (.cells #[x.n, .int .i64 (R : Int), .int .i64 (W : Int), x.m, x.l, x.e, x.o, x.t, x.d] 83 (0, 0))
  sroot : S rb
  slt : ∀ b, S b → b < w.heap.size
  nodes : OwnsIn S w 46 5 x.n ns.length (qL ns)
  mails : OwnsIn S w 108 6 x.m st.mails.length (jS st.mails)
  log : LogIn S w x.l st.log
  evs : OwnsIn S w 110 7 x.e st.evs.length (kH st.evs)
  opened : OwnsIn S w 152 3 x.o st.opened.length (qH st.opened)
  told : TabIn S w x.t W W st.told
  dist : TabIn S w x.d ns.length ns.length D
  small : ns.length ≤ 8 ∧ R ≤ 4 ∧ W ≤ 4 ∧ 1 ≤ W ∧ 1 ≤ R
  few : st.opened.length ≤ 100000000 ∧ st.mails.length ≤ 100000000 ∧ st.log.length ≤ 100000000 ∧ st.evs.length ≤ 100000000
  trow : OwnsIn S w 94 1 x.t W x.ts
  drow : OwnsIn S w 94 1 x.d ns.length x.ds
  tsep : RowSep x.ts x.ds
theorem TabIn.frame {S : Nat → Prop} {w w' : World} {v : Value} {n m : Nat} {f : Nat → Nat → Int} (h : TabIn S w v n m f) (hf : ∀ b, S b → b < w.heap.size → w'.heap[b]? = w.heap[b]?) : TabIn S w' v n m f := by
  obtain ⟨vs, h1, h2⟩ := h
  refine ⟨vs, h1.frame hf, fun i hi => ?_⟩
  obtain ⟨u, e, h3⟩ := h2 i hi
  exact ⟨u, e, h3.frame hf⟩
theorem LogIn.frame {S : Nat → Prop} {w w' : World} {v : Value} {cs : List Cg} (h : LogIn S w v cs) (hf : ∀ b, S b → b < w.heap.size → w'.heap[b]? = w.heap[b]?) : LogIn S w' v cs := by
  obtain ⟨vs, hl, h1, h2⟩ := h
  refine ⟨vs, hl, h1.frame hf, fun i hi => ?_⟩
  obtain ⟨u, e, h3⟩ := h2 i hi
  exact ⟨u, e, h3.frame hf⟩
theorem ROwn.frame {w w' : World} {S : Nat → Prop} {rb : Nat} {x : RX} {ns : List Nd} {R W : Nat} {D : Nat → Nat → Int} {st : RSt} (h : ROwn w S rb x ns R W D st) (hz : w.heap.size ≤ w'.heap.size) (hf : ∀ b, S b → b < w.heap.size → w'.heap[b]? = w.heap[b]?) : ROwn w' S rb x ns R W D st :=
  ⟨(hf rb h.sroot (h.slt rb h.sroot)).trans h.root, h.sroot, fun b hb => Nat.lt_of_lt_of_le (h.slt b hb) hz, h.nodes.frame hf, h.mails.frame hf, h.log.frame hf, h.evs.frame hf, h.opened.frame hf, h.told.frame hf, h.dist.frame hf, h.small, h.few, h.trow.frame hf, h.drow.frame hf, h.tsep⟩
theorem ROwn.bw {w w' : World} {S : Nat → Prop} {rb : Nat} {x : RX} {ns : List Nd} {R W : Nat} {D : Nat → Nat → Int} {st : RSt} (h : ROwn w S rb x ns R W D st) (hb : Bw w w') : ROwn w' S rb x ns R W D st := h.frame hb.size fun b _ hl => Below.block hb b hl
theorem ROwn.other {w w' : World} {S T : Nat → Prop} {rb : Nat} {x : RX} {ns : List Nd} {R W : Nat} {D : Nat → Nat → Int} {st : RSt} (h : ROwn w S rb x ns R W D st) (hc : Chg T w w') (hd : ∀ b, S b → ¬ T b) : ROwn w' S rb x ns R W D st := h.frame hc.size fun b hb hl => hc.block b hl (hd b hb)
def kY : Value → Option Addr
  | .slice a _ _ => a
  | _ => none
def capV : Value → Nat
  | .slice _ _ c => c
  | _ => 0
def rvOf (x : RX) : RV := ⟨kY x.n, kY x.m, kY x.l, kY x.e, kY x.o, kY x.t, kY x.d, capV x.n, capV x.m, capV x.l, capV x.e, capV x.o, capV x.t, capV x.d⟩
theorem qV {w : World} {base n size : Nat} {ty : TypeId} {v : Value} {xs : List Value} (h : w.ownsRow base ty size v n xs) : v = .slice (kY v) n (capV v) := by
  rcases h.2 with ⟨rfl, h0⟩ | ⟨g, cap, cur, rfl, _⟩
  · rw [h0]; rfl
  · rfl
theorem qB {w : World} {base n size : Nat} {ty : TypeId} {v : Value} {xs : List Value} (h : w.ownsRow base ty size v n xs) (hn : 0 < n) : ∃ g, kY v = some ⟨g, 0, none⟩ ∧ g < w.heap.size ∧ ∀ p u, xs[p]? = some u → w.cell? ⟨g, p, none⟩ = some u := by
  obtain ⟨_, h'⟩ := id h
  rcases h' with ⟨_, h0⟩ | ⟨g, cap, cur, rfl, hb, hc, _⟩
  · omega
  · refine ⟨g, rfl, (Array.getElem?_eq_some_iff.1 hc).1, fun p u hp => ?_⟩
    have := World.ownsRow.cells h (g := g) rfl p u hp
    rw [Go.WideShapes.add_plain, Nat.zero_add] at this
    exact this
theorem vL {α : Type} {f : α → List Value} {d : α} {k : Nat} (hk : ∀ a, (f a).length = k) : ∀ (l : List α) (j : Nat), j < l.length → ∀ i, i < k → (l.flatMap f)[j * k + i]? = (f (l.getD j d))[i]? := by
  intro l
  induction l with
  | nil => intro j h; simp at h
  | cons a t ih =>
    intro j hj i hi
    rw [List.flatMap_cons]
    cases j with
    | zero =>
      rw [List.getElem?_append_left (by rw [hk]; omega)]
      simp
    | succ j =>
      rw [List.getElem?_append_right (by rw [hk, Nat.add_mul]; omega), hk]
      have := ih j (by simpa using hj) i hi
      rw [show (j + 1) * k + i - k = j * k + i by rw [Nat.add_mul]; omega, this]
      simp
theorem logCells_get : ∀ (cs : List Cg) (vs : List Value), vs.length = cs.length → ∀ j, j < cs.length → (jM cs vs)[j * 2]? = some (.int .i64 (jF cs j).worker) ∧ (jM cs vs)[j * 2 + 1]? = vs[j]? := by
  intro cs
  induction cs with
  | nil => intro vs h j hj; simp at hj
  | cons c t ih =>
    intro vs h j hj
    cases vs with
    | nil => simp at h
    | cons v vs =>
      cases j with
      | zero => exact ⟨rfl, rfl⟩
      | succ j =>
        obtain ⟨h1, h2⟩ := ih vs (by simpa using h) j (by simpa using hj)
        refine ⟨?_, ?_⟩
        · rw [show (j + 1) * 2 = j * 2 + 1 + 1 by omega]; simpa [jM, jF] using h1
        · rw [show (j + 1) * 2 + 1 = j * 2 + 1 + 1 + 1 by omega]; simpa [jM] using h2
theorem logCells_snoc : ∀ (cs : List Cg) (vs : List Value) (c : Cg) (v : Value), vs.length = cs.length → jM (cs ++ [c]) (vs ++ [v]) = jM cs vs ++ [.int .i64 c.worker, v] := by
  intro cs
  induction cs with
  | nil => intro vs c v h; cases vs <;> simp_all [jM]
  | cons a t ih =>
    intro vs c v h
    cases vs with
    | nil => simp at h
    | cons b vs => simp only [List.cons_append, jM]; rw [ih vs c v (by simpa using h)]
theorem ptsAt_of {w : World} {v : Value} {base : Nat} {ty : TypeId} {ps : List Pt} (h : w.ownsRow base ty 5 v ps.length (qR ps)) : PtsAt w (kY v) ps := by
  intro i hi
  obtain ⟨g, e, hg, hc⟩ := qB h (by omega)
  refine ⟨g, 0, e, hg, fun j hj => ?_⟩
  have key : ∀ f u, f < 5 → (Pt.cells (jN ps j))[f]? = some u → w.cell? ⟨g, 0 + j * 5 + f, none⟩ = some u := fun f u hf hu => by
    rw [Nat.zero_add]; exact hc _ _ (by unfold qR; rw [vL (f := Pt.cells) (k := 5) (d := ⟨0, false, 0, 0, 0⟩) (fun a => rfl) ps j hj f hf]; exact hu)
  exact ⟨key 0 _ (by omega) rfl, key 1 _ (by omega) rfl, key 2 _ (by omega) rfl, key 3 _ (by omega) rfl, key 4 _ (by omega) rfl⟩
theorem evsAt_of {w : World} {v : Value} {base : Nat} {ty : TypeId} {l : List Ev} (h : w.ownsRow base ty 7 v l.length (kH l)) : EvsAt w (kY v) l := by
  intro i hi
  obtain ⟨g, e, hg, hc⟩ := qB h (by omega)
  refine ⟨g, 0, e, hg, fun j hj => ?_⟩
  have key : ∀ f u, f < 7 → (Ev.cells (zH l j))[f]? = some u → w.cell? ⟨g, 0 + j * 7 + f, none⟩ = some u := fun f u hf hu => by
    rw [Nat.zero_add]; exact hc _ _ (by unfold kH; rw [vL (f := Ev.cells) (k := 7) (d := ev0) (fun a => rfl) l j hj f hf]; exact hu)
  exact ⟨key 0 _ (by omega) rfl, key 1 _ (by omega) rfl, key 2 _ (by omega) rfl, key 3 _ (by omega) rfl, key 4 _ (by omega) rfl, key 5 _ (by omega) rfl, key 6 _ (by omega) rfl⟩
theorem ROwn.read {w : World} {S : Nat → Prop} {rb : Nat} {x : RX} {ns : List Nd} {R W : Nat} {D : Nat → Nat → Int} {st : RSt} (h : ROwn w S rb x ns R W D st) : RRead w rb (rvOf x) ns R W D st := by
  have hr := h.root
  refine ⟨(Array.getElem?_eq_some_iff.1 hr).1, ?_, qQ hr rfl, qQ hr rfl, ?_, ?_, ?_, ?_, ?_, ?_, ?_, ?_, ?_, evsAt_of h.evs.1, ?_, ?_, ?_, h.small, h.few⟩
  · exact (qQ hr (u := x.n) rfl).trans (by rw [qV h.nodes.1]; rfl)
  · exact (qQ hr (u := x.m) rfl).trans (by rw [qV h.mails.1]; rfl)
  · obtain ⟨vs, _, h1, _⟩ := h.log
    exact (qQ hr (u := x.l) rfl).trans (by rw [qV h1.1]; rfl)
  · exact (qQ hr (u := x.e) rfl).trans (by rw [qV h.evs.1]; rfl)
  · exact (qQ hr (u := x.o) rfl).trans (by rw [qV h.opened.1]; rfl)
  · obtain ⟨vs, h1, _⟩ := h.told
    exact (qQ hr (u := x.t) rfl).trans (by rw [qV h1.1]; rfl)
  · obtain ⟨vs, h1, _⟩ := h.dist
    exact (qQ hr (u := x.d) rfl).trans (by rw [qV h1.1]; rfl)
  · intro i hi
    obtain ⟨g, e, hg, hc⟩ := qB h.nodes.1 (by omega)
    refine ⟨g, 0, e, hg, fun j hj => ?_⟩
    have key : ∀ f u, f < 5 → (Nd.cells (qT ns j))[f]? = some u → w.cell? ⟨g, 0 + j * 5 + f, none⟩ = some u := fun f u hf hu => by
      rw [Nat.zero_add]; exact hc _ _ (by rw [kD ns j hj f hf]; exact hu)
    exact ⟨key 0 _ (by omega) rfl, key 1 _ (by omega) rfl, key 2 _ (by omega) rfl, key 3 _ (by omega) rfl, key 4 _ (by omega) rfl⟩
  · intro i hi
    obtain ⟨g, e, hg, hc⟩ := qB h.mails.1 (by omega)
    refine ⟨g, 0, e, hg, fun j hj => ?_⟩
    have key : ∀ f u, f < 6 → (Ml.cells (xX st.mails j))[f]? = some u → w.cell? ⟨g, 0 + j * 6 + f, none⟩ = some u := fun f u hf hu => by
      rw [Nat.zero_add]; exact hc _ _ (by unfold jS; rw [vL (f := Ml.cells) (k := 6) (d := ⟨0, 0, 0, 0, 0, false⟩) (fun a => rfl) st.mails j hj f hf]; exact hu)
    exact ⟨key 0 _ (by omega) rfl, key 1 _ (by omega) rfl, key 2 _ (by omega) rfl, key 3 _ (by omega) rfl, key 4 _ (by omega) rfl, key 5 _ (by omega) rfl⟩
  · obtain ⟨vs, hl, h1, h2⟩ := h.log
    intro i hi
    obtain ⟨g, e, hg, hc⟩ := qB h1.1 (by omega)
    refine ⟨g, 0, e, hg, fun j hj => ?_⟩
    obtain ⟨e0, e1⟩ := logCells_get st.log vs hl j hj
    obtain ⟨u, eu, hu⟩ := h2 j hj
    rw [eu] at e1
    refine ⟨by rw [Nat.zero_add]; exact hc _ _ e0, kY u, capV u, ?_, ptsAt_of hu.1⟩
    rw [Nat.zero_add]
    refine (hc _ _ e1).trans ?_
    rw [← qV hu.1]
  · intro i hi
    obtain ⟨g, e, hg, hc⟩ := qB h.opened.1 (by omega)
    refine ⟨g, 0, e, hg, fun j hj => ?_⟩
    have key : ∀ f u, f < 3 → (Gv.cells (vR st.opened j))[f]? = some u → w.cell? ⟨g, 0 + j * 3 + f, none⟩ = some u := fun f u hf hu => by
      rw [Nat.zero_add]; exact hc _ _ (by rw [gvCells_get st.opened j hj f hf]; exact hu)
    exact ⟨key 0 _ (by omega) rfl, key 1 _ (by omega) rfl, key 2 _ (by omega) rfl⟩
  · obtain ⟨vs, h1, h2⟩ := h.told
    intro i hi
    obtain ⟨g, e, hg, hc⟩ := qB h1.1 (by omega)
    obtain ⟨u, eu, hu⟩ := h2 i hi
    obtain ⟨g', e', hg', hc'⟩ := qB hu.1 (by omega)
    refine ⟨g, 0, e, hg, g', 0, capV u, ?_, hg', fun j hj => by rw [Nat.zero_add]; exact hc' _ _ (by simp [hj])⟩
    rw [Nat.zero_add]
    refine (hc _ _ eu).trans ?_
    rw [← e', ← qV hu.1]
  · obtain ⟨vs, h1, h2⟩ := h.dist
    intro i hi
    obtain ⟨g, e, hg, hc⟩ := qB h1.1 (by omega)
    obtain ⟨u, eu, hu⟩ := h2 i hi
    obtain ⟨g', e', hg', hc'⟩ := qB hu.1 (by omega)
    refine ⟨g, 0, e, hg, g', 0, capV u, ?_, hg', fun j hj => by rw [Nat.zero_add]; exact hc' _ _ (by simp [hj])⟩
    rw [Nat.zero_add]
    refine (hc _ _ eu).trans ?_
    rw [← e', ← qV hu.1]
end Go.Proofs.YtfemleimkbjehaaGreat
