import Derived.Test.YtfemleimkbjehaaJ6
set_option maxRecDepth 1000000
set_option maxHeartbeats 40000000
set_option linter.unusedVariables false
set_option linter.unusedSimpArgs false
namespace Go.Proofs.Ytfemleimkbjehaa
open Go.RowKit
theorem Try.infoMessage : (Try.prog.info? 117).map (fun i => (i.zero, i.size, i.bytes)) = some (some (.agg #[.int .i64 0, .int .i64 0, .int .i64 0]), 3, 24) := by kernel_rfl
def lB (m : Ml) : Gv := ⟨m.epoch, m.round, m.value⟩
def vD (ms : List Ml) (w n : Int) : List Gv := (kS ms w n ms.length).map fun z => lB (rS ms z.toNat)
def jZ (R node epoch round : Nat) (out : Bool) : Nat := ((2 * node + (if out then 1 else 0)) * 6 + epoch) * R + round
theorem spotN_lt {R L node epoch round : Nat} {out : Bool} (hn : node < L) (he : epoch < 6) (hr : round < R) : jZ R node epoch round out < 2 * L * 6 * R := by
  unfold jZ
  have h1 : (2 * node + (if out then 1 else 0)) * 6 + epoch + 1 ≤ 2 * L * 6 := by split <;> omega
  calc ((2 * node + (if out then 1 else 0)) * 6 + epoch) * R + round < ((2 * node + (if out then 1 else 0)) * 6 + epoch) * R + R := by omega
    _ = ((2 * node + (if out then 1 else 0)) * 6 + epoch + 1) * R := by rw [Nat.add_mul _ 1 R, Nat.one_mul]
    _ ≤ 2 * L * 6 * R := Nat.mul_le_mul_right _ h1
theorem run_appL (w : World) (t ty res : TypeId) (z : Value) (size bytes : Nat) (hinf : (Try.prog.info? ty).map (fun i => (i.zero, i.size, i.bytes)) = some (some z, size, bytes)) (hund : Try.prog.underlying t = some (.slice ty)) (hzs : z.cells.size = size) (hsz : 0 < size)
    (base : Nat) (v : Value) (n : Nat) (xs : List Value) (hown : w.ownsRow base ty size v n xs)
    (g c : Nat) (news : List Value) (hnl : news.length = size) (hc : ∀ j u, news[j]? = some u → w.cell? ⟨g, j, none⟩ = some u) (h1 : ∀ u ∈ news, u.oneCell' = true) (hl1 : n + 1 ≤ 1000000000) (hb : bytes ≤ 1000) (hB : base ≤ w.heap.size) :
    ∃ g' cap w', (Builtin.append_ #[t, t] res #[v, .slice (some ⟨g, 0, none⟩) 1 c]).run Try.prog w = .ok (.slice (some ⟨g', 0, none⟩) (n + 1) cap) w' ∧ w'.ownsRow base ty size (.slice (some ⟨g', 0, none⟩) (n + 1) cap) (n + 1) (xs ++ news) ∧ w.grownBy w' v.ownBlock ∧ (v.ownBlock = some g' ∨ g' = w.heap.size) := by
  obtain ⟨i0, hi, hz0, hz1, hz2⟩ := info_parts hinf
  have hbb : (n + 1) * bytes ≤ 1000000000 * 1000 := Nat.mul_le_mul hl1 hb
  obtain ⟨g', cap, w', hr, h2, h3, h4, _⟩ := run_append_lies (P := Try.prog) w t res base ty i0 z size bytes hund hi hz0 hz1 hz2 hzs hsz v n xs hown ⟨g, 0, none⟩ 1 c news (by omega)
    (by intro j u hj
        refine uD ?_
        rw [Nat.zero_add]
        exact hc j u hj) h1 (by omega) (by unfold maxLen; omega) (by omega) hB _ rfl
  exact ⟨g', cap, w', hr, h2, h3, h4⟩
theorem appL {ops : Array Oper} {rest : List Oper} {o : Oper} {a : Act} {Q : Exit → Act → World → Prop} (w : World) (hgd : o.guard = none) (s y : Operand) (t ty : TypeId)
    (ho : o.op = .call { callee := .builtin .append, args := #[s, y], argTypes := #[t, t] }) (z : Value) (size bytes : Nat) (hinf : (Try.prog.info? ty).map (fun i => (i.zero, i.size, i.bytes)) = some (some z, size, bytes)) (hund : Try.prog.underlying t = some (.slice ty)) (hzs : z.cells.size = size) (hsz : 0 < size)
    (base : Nat) (v : Value) (n : Nat) (xs : List Value) (hs : a.eval s = v) (hown : w.ownsRow base ty size v n xs)
    (g c : Nat) (news : List Value) (hx : a.eval y = .slice (some ⟨g, 0, none⟩) 1 c) (hnl : news.length = size) (hc : ∀ j u, news[j]? = some u → w.cell? ⟨g, j, none⟩ = some u) (h1 : ∀ u ∈ news, u.oneCell' = true) (hl1 : n + 1 ≤ 1000000000) (hb : bytes ≤ 1000) (hB : base ≤ w.heap.size)
    (h : ∀ g' cap w', w'.ownsRow base ty size (.slice (some ⟨g', 0, none⟩) (n + 1) cap) (n + 1) (xs ++ news) → w.grownBy w' v.ownBlock → (v.ownBlock = some g' ∨ g' = w.heap.size) → wpList Try.prog ops Q rest (a.put o.dst (.slice (some ⟨g', 0, none⟩) (n + 1) cap)) w') : wpList Try.prog ops Q (o :: rest) a w := by
  obtain ⟨g', cap, w', hr, h2, h3, h4⟩ := run_appL w t ty o.type z size bytes hinf hund hzs hsz base v n xs hown g c news hnl hc h1 hl1 hb hB
  refine wpList_plain hgd fun _ hK => ?_
  unfold Oper.wp execOp
  simp only [ho, resolve, invoke, builtin, Sem.run_bind, Sem.run_pure, Result.andThen_ok, List.map_toArray, List.map_cons, List.map_nil, hs, hx, hr]
  exact hK _ _ (h g' cap w' h2 h3 h4)
theorem pF {ops : Array Oper} {o : Oper} {a : Act} {w : World} {K : Act → World → Prop} {Q : Exit → Act → World → Prop} {E : Prop} (hgd : o.guard = none) (s y : Operand) (t ty : TypeId)
    (ho : o.op = .call { callee := .builtin .append, args := #[s, y], argTypes := #[t, t] }) (z : Value) (size bytes : Nat) (hinf : (Try.prog.info? ty).map (fun i => (i.zero, i.size, i.bytes)) = some (some z, size, bytes)) (hund : Try.prog.underlying t = some (.slice ty)) (hzs : z.cells.size = size) (hsz : 0 < size)
    (base : Nat) (v : Value) (n : Nat) (xs : List Value) (hs : a.eval s = v) (hown : w.ownsRow base ty size v n xs)
    (g c : Nat) (news : List Value) (hx : a.eval y = .slice (some ⟨g, 0, none⟩) 1 c) (hnl : news.length = size) (hc : ∀ j u, news[j]? = some u → w.cell? ⟨g, j, none⟩ = some u) (h1 : ∀ u ∈ news, u.oneCell' = true) (hl1 : n + 1 ≤ 1000000000) (hb : bytes ≤ 1000) (hB : base ≤ w.heap.size)
    (h : ∀ g' cap w', w'.ownsRow base ty size (.slice (some ⟨g', 0, none⟩) (n + 1) cap) (n + 1) (xs ++ news) → w.grownBy w' v.ownBlock → (v.ownBlock = some g' ∨ g' = w.heap.size) → K (a.put o.dst (.slice (some ⟨g', 0, none⟩) (n + 1) cap)) w') :
    if Region.wanted o (yielded ops a.tmps) = true then Oper.wp Try.prog o a w K Q else E := by
  obtain ⟨g', cap, w', hr, h2, h3, h4⟩ := run_appL w t ty o.type z size bytes hinf hund hzs hsz base v n xs hown g c news hnl hc h1 hl1 hb hB
  have hw : Region.wanted o (yielded ops a.tmps) = true := by simp [Region.wanted, hgd]
  rw [if_pos hw]
  unfold Oper.wp
  simp only [execOp, ho, resolve, invoke, builtin, Sem.run_bind, Sem.run_pure, Result.andThen_ok, List.map_toArray, List.map_cons, List.map_nil, hs, hx, hr]
  exact h g' cap w' h2 h3 h4
structure Chg (S : Nat → Prop) (a b : World) : Prop where
  os : b.os = a.os
  tape : b.tape = a.tape
  output : b.output = a.output
  size : a.heap.size ≤ b.heap.size
  block : ∀ k, k < a.heap.size → ¬ S k → b.heap[k]? = a.heap[k]?
theorem Chg.refl (S : Nat → Prop) (a : World) : Chg S a a := ⟨rfl, rfl, rfl, Nat.le_refl _, fun _ _ _ => rfl⟩
theorem Chg.bw {S : Nat → Prop} {a b : World} (h : Bw a b) : Chg S a b := ⟨Below.os h, Below.tape h, Below.output h, Below.size h, fun i hi _ => Below.block h i hi⟩
theorem Chg.trans {S T : Nat → Prop} {a b c : World} (h : Chg S a b) (k : Chg T b c) (hT : ∀ x, T x → S x ∨ a.heap.size ≤ x) : Chg S a c :=
  ⟨k.os.trans h.os, k.tape.trans h.tape, k.output.trans h.output, Nat.le_trans h.size k.size, fun i hi hn => (k.block i (Nat.lt_of_lt_of_le hi h.size) (fun ht => by rcases hT i ht with h1 | h1; exact hn h1; omega)).trans (h.block i hi hn)⟩
theorem Chg.mono {S T : Nat → Prop} {a b : World} (h : Chg S a b) (hT : ∀ x, S x → T x) : Chg T a b := ⟨h.os, h.tape, h.output, h.size, fun i hi hn => h.block i hi fun hs => hn (hT i hs)⟩
theorem Chg.toBw {S : Nat → Prop} {W a b : World} (h : Bw W a) (k : Chg S a b) (hS : ∀ x, S x → W.heap.size ≤ x) : Bw W b :=
  ⟨k.os.trans (Below.os h), k.tape.trans (Below.tape h), k.output.trans (Below.output h), Nat.le_trans (Below.size h) k.size, fun i hi => (k.block i (Nat.lt_of_lt_of_le hi (Below.size h)) (fun hs => by have := hS i hs; omega)).trans (Below.block h i hi)⟩
def OwnsIn (S : Nat → Prop) (w : World) (ty : TypeId) (size : Nat) (v : Value) (n : Nat) (xs : List Value) : Prop := w.ownsRow 0 ty size v n xs ∧ ∀ b, v.ownBlock = some b → S b
theorem OwnsIn.frame {S : Nat → Prop} {w w' : World} {ty : TypeId} {size n : Nat} {v : Value} {xs : List Value} (h : OwnsIn S w ty size v n xs) (hf : ∀ b, S b → b < w.heap.size → w'.heap[b]? = w.heap[b]?) : OwnsIn S w' ty size v n xs := by
  obtain ⟨⟨hl, h⟩, hs⟩ := h
  refine ⟨⟨hl, ?_⟩, hs⟩
  rcases h with h | ⟨g, cap, cur, rfl, hg, hc, r⟩
  · exact .inl h
  · exact .inr ⟨g, cap, cur, rfl, hg, (hf g (hs g rfl) (Array.getElem?_eq_some_iff.1 hc).1).trans hc, r⟩
theorem OwnsIn.mono {S T : Nat → Prop} {w : World} {ty : TypeId} {size n : Nat} {v : Value} {xs : List Value} (h : OwnsIn S w ty size v n xs) (hT : ∀ b, S b → T b) : OwnsIn T w ty size v n xs := ⟨h.1, fun b hb => hT b (h.2 b hb)⟩
theorem OwnsIn.grown {S : Nat → Prop} {w w' : World} {ty ty' : TypeId} {size n base' size' n' : Nat} {v u : Value} {xs ys : List Value} (h : OwnsIn S w ty size v n xs) (hown : w.ownsRow base' ty' size' u n' ys) (hg : w.grownBy w' u.ownBlock) (hne : ty ≠ ty') : OwnsIn S w' ty size v n xs := ⟨jU hown hg h.1 hne, h.2⟩
theorem kJ {w : World} {fb k base n size : Nat} {arr : Array Value} {t ty : TypeId} {fr : Nat × Nat} {u v : Value} {xs : List Value} (h : w.heap[fb]? = some (.cells arr t fr)) (hv : w.ownsRow base ty size v n xs) (hne : ty ≠ t) : (w.setCell ⟨fb, k, none⟩ u).ownsRow base ty size v n xs := by
  obtain ⟨hl, hv⟩ := hv
  refine ⟨hl, ?_⟩
  rcases hv with hv | ⟨g, cap, cur, e1, hgb, hc, r⟩
  · exact .inl hv
  · refine .inr ⟨g, cap, cur, e1, hgb, (Below.heap_setCell w ⟨fb, k, none⟩ u g ?_).trans hc, r⟩
    intro eq
    simp only at eq
    subst eq
    rw [h] at hc
    simp only [Option.some.injEq, Obj.cells.injEq] at hc
    exact hne hc.2.1.symm
theorem OwnsIn.set {S : Nat → Prop} {w : World} {ty t : TypeId} {size n fb k : Nat} {v u : Value} {xs : List Value} {arr : Array Value} {fr : Nat × Nat} (h : OwnsIn S w ty size v n xs) (hr : w.heap[fb]? = some (.cells arr t fr)) (hne : ty ≠ t) : OwnsIn S (w.setCell ⟨fb, k, none⟩ u) ty size v n xs := ⟨kJ hr h.1 hne, h.2⟩
def qG (l : List Pt) : List Value := l.flatMap Pt.cells
def TabIn (S : Nat → Prop) (w : World) (v : Value) (n m : Nat) (f : Nat → Nat → Int) : Prop :=
  ∃ vs : List Value, OwnsIn S w 26 1 v n vs ∧ ∀ i, i < n → ∃ u, vs[i]? = some u ∧ OwnsIn S w 3 1 u m ((List.range m).map fun j => .int .i64 (f i j))
theorem TabIn.frame {S : Nat → Prop} {w w' : World} {v : Value} {n m : Nat} {f : Nat → Nat → Int} (h : TabIn S w v n m f) (hf : ∀ b, S b → b < w.heap.size → w'.heap[b]? = w.heap[b]?) : TabIn S w' v n m f := by
  obtain ⟨vs, h1, h2⟩ := h
  refine ⟨vs, h1.frame hf, fun i hi => ?_⟩
  obtain ⟨u, e, h3⟩ := h2 i hi
  exact ⟨u, e, h3.frame hf⟩
def yQ : Value → Option Addr
  | .slice a _ _ => a
  | _ => none
def capV : Value → Nat
  | .slice _ _ c => c
  | _ => 0
theorem qW {w : World} {base n size : Nat} {ty : TypeId} {v : Value} {xs : List Value} (h : w.ownsRow base ty size v n xs) : v = .slice (yQ v) n (capV v) := by
  rcases h.2 with ⟨rfl, h0⟩ | ⟨g, cap, cur, rfl, _⟩
  · rw [h0]; rfl
  · rfl
theorem vT {w : World} {base n size : Nat} {ty : TypeId} {v : Value} {xs : List Value} (h : w.ownsRow base ty size v n xs) (hn : 0 < n) : ∃ g, yQ v = some ⟨g, 0, none⟩ ∧ g < w.heap.size ∧ ∀ p u, xs[p]? = some u → w.cell? ⟨g, p, none⟩ = some u := by
  obtain ⟨_, h'⟩ := id h
  rcases h' with ⟨_, h0⟩ | ⟨g, cap, cur, rfl, hb, hc, _⟩
  · omega
  · refine ⟨g, rfl, (Array.getElem?_eq_some_iff.1 hc).1, fun p u hp => ?_⟩
    have := World.ownsRow.cells h (g := g) rfl p u hp
    rw [Go.WideShapes.add_plain, Nat.zero_add] at this
    exact this
theorem mW {α : Type} {f : α → List Value} {d : α} {k : Nat} (hk : ∀ a, (f a).length = k) : ∀ (l : List α) (j : Nat), j < l.length → ∀ i, i < k → (l.flatMap f)[j * k + i]? = (f (l.getD j d))[i]? := by
  intro l
  induction l with
  | nil => intro j h; simp at h
  | cons a t ih =>
    intro j hj i hi
    rw [List.flatMap_cons]
    cases j with
    | zero =>
      rw [List.getElem?_append_left (by rw [hk]; omega)]
      simp
    | succ j =>
      rw [List.getElem?_append_right (by rw [hk, Nat.add_mul]; omega), hk]
      have := ih j (by simpa using hj) i hi
      rw [show (j + 1) * k + i - k = j * k + i by rw [Nat.add_mul]; omega, this]
      simp
theorem evsAt_of {w : World} {v : Value} {base : Nat} {ty : TypeId} {l : List Ev} (h : w.ownsRow base ty 7 v l.length (jG l)) : EvsAt w (yQ v) l := by
  intro i hi
  obtain ⟨g, e, hg, hc⟩ := vT h (by omega)
  refine ⟨g, 0, e, hg, fun j hj => ?_⟩
  have key : ∀ f u, f < 7 → (Ev.cells (uJ l j))[f]? = some u → w.cell? ⟨g, 0 + j * 7 + f, none⟩ = some u := fun f u hf hu => by
    rw [Nat.zero_add]; exact hc _ _ (by unfold jG; rw [mW (f := Ev.cells) (k := 7) (d := ev0) (fun a => rfl) l j hj f hf]; exact hu)
  exact ⟨key 0 _ (by omega) rfl, key 1 _ (by omega) rfl, key 2 _ (by omega) rfl, key 3 _ (by omega) rfl, key 4 _ (by omega) rfl, key 5 _ (by omega) rfl, key 6 _ (by omega) rfl⟩
def bW (t : Nat → Int) (k : Nat) (v : Int) : Nat → Int := fun j => if j = k then v else t j
theorem rC (t : Nat → Int) (k : Nat) (v : Int) : bW t k v k = v := by simp [bW]
theorem tT (t : Nat → Int) {j k : Nat} (v : Int) (h : j ≠ k) : bW t k v j = t j := by simp [bW, h]
theorem make_ints (X : Int) (n : Nat) (hX : X = n) (hn : n ≤ 100000) : ∀ w : World, (Instr.makeSlice 26 (.int .i64 X) (.int .i64 X)).run Try.prog w = .ok (.slice (some ⟨w.heap.size, 0, none⟩) n n) (w.alloc (.cells (madeCells #[.int .i64 0] n) 3)) := by
  subst hX
  intro w
  obtain ⟨i0, hi, hz0, hz1, hz2⟩ := info_parts Try.infoInt
  have hmk := run_make (P := Try.prog) w 26 3 i0 _ Try.underlying26 hi hz0 .i64 .i64 (n : Int) (n : Int) (by omega) (by omega) (by rw [hz2]; omega) (by omega)
  rw [Int.toNat_natCast, hz1, Nat.mul_one] at hmk
  exact hmk
def xJ (ns : List Nd) (R W : Nat) : Nat → (Nat → Int)
  | 0 => fun _ => 0
  | n + 1 => if (qV ns n).kind == 0 then bW (xJ ns R W n) (jZ R n 0 0 true) W else xJ ns R W n
def rY (R : Nat) (p : Pt) : Nat := jZ R p.node.toNat p.epoch.toNat p.round.toNat p.out
def kT (R : Nat) (t : Nat → Int) (ps : List Pt) : Nat → (Nat → Int)
  | 0 => t
  | j + 1 => bW (kT R t ps j) (rY R (vU ps j)) (wrap64 (kT R t ps j (rY R (vU ps j)) + (vU ps j).count))
def nF (cs : List Cg) : Nat → (Nat → Int)
  | 0 => fun _ => 0
  | i + 1 => bW (nF cs i) (mC cs i).worker.toNat (nF cs i (mC cs i).worker.toNat + 1)
def pR (cs : List Cg) (told : Nat → Nat → Int) (w i : Nat) : Bool := ((mC cs i).worker != (w : Int)) && decide (told w (mC cs i).worker.toNat < nF cs (i + 1) (mC cs i).worker.toNat)
def zY (ns : List Nd) (R W : Nat) (cs : List Cg) (told : Nat → Nat → Int) (w : Nat) : Nat → (Nat → Int)
  | 0 => xJ ns R W ns.length
  | i + 1 => if pR cs told w i then zY ns R W cs told w i else kT R (zY ns R W cs told w i) (mC cs i).pts (mC cs i).pts.length
def wP (L R : Nat) (p : Pt) : Prop := ∃ n e s : Nat, p.node = n ∧ n < L ∧ p.epoch = e ∧ e < 6 ∧ p.round = s ∧ s < R
def CgOk (L R W : Nat) (c : Cg) : Prop := (∃ k : Nat, c.worker = k ∧ k < W) ∧ ∀ j, j < c.pts.length → wP L R (vU c.pts j)
theorem Try.infoPoint : (Try.prog.info? 194).map (fun i => (i.zero, i.size, i.bytes)) = some (some (.agg #[.int .i64 0, .bool false, .int .i64 0, .int .i64 0, .int .i64 0]), 5, 40) := by kernel_rfl
def OwnP (W w : World) (v : Value) (ps : List Pt) : Prop := w.ownsRow W.heap.size 194 5 v ps.length (qG ps)
theorem OwnP.nil (W w : World) : OwnP W w (.slice none 0 0) [] := World.ownsRow_nil _ _ _ _
theorem OwnP.bw {W a b : World} {v : Value} {ps : List Pt} (h : OwnP W a v ps) (hb : Bw a b) : OwnP W b v ps := qP h fun g hg => Below.block hb g hg
theorem OwnP.weaken {W V a : World} {v : Value} {ps : List Pt} (h : OwnP W a v ps) (hb : Bw V W) : OwnP V a v ps := kU h hb.size
theorem ptsCells_snoc (ps : List Pt) (p : Pt) : qG (ps ++ [p]) = qG ps ++ p.cells := by simp [qG]
theorem OwnP.snoc {W w : World} {v : Value} {ps : List Pt} {p : Pt} (h : w.ownsRow W.heap.size 194 5 v (ps.length + 1) (qG ps ++ p.cells)) : OwnP W w v (ps ++ [p]) := by
  unfold OwnP; rw [ptsCells_snoc, List.length_append]; exact h
theorem pt_one (p : Pt) : ∀ u ∈ p.cells, u.oneCell' = true := by
  intro u hu
  simp [Pt.cells] at hu
  rcases hu with rfl | rfl | rfl | rfl | rfl <;> rfl
theorem pt_cells {w : World} {g : Nat} {p : Pt} (h0 : w.cell? ⟨g, 0, none⟩ = some (.int .i64 p.node)) (h1 : w.cell? ⟨g, 1, none⟩ = some (.bool p.out)) (h2 : w.cell? ⟨g, 2, none⟩ = some (.int .i64 p.epoch)) (h3 : w.cell? ⟨g, 3, none⟩ = some (.int .i64 p.round)) (h4 : w.cell? ⟨g, 4, none⟩ = some (.int .i64 p.count)) : ∀ j u, p.cells[j]? = some u → w.cell? ⟨g, j, none⟩ = some u := by
  intro j u hj
  unfold Pt.cells at hj
  match j, hj with
  | 0, hj => simp at hj; subst hj; exact h0
  | 1, hj => simp at hj; subst hj; exact h1
  | 2, hj => simp at hj; subst hj; exact h2
  | 3, hj => simp at hj; subst hj; exact h3
  | 4, hj => simp at hj; subst hj; exact h4
def kB (k : Nat) : Bool := (k : Int) == 1
def vS (T : Nat → Int) (R n k e : Nat) : Nat → List Pt
  | 0 => []
  | s + 1 => if T (jZ R n e s (kB k)) == 0 then vS T R n k e s else vS T R n k e s ++ [⟨n, kB k, e, s, T (jZ R n e s (kB k))⟩]
def vE (T : Nat → Int) (R n k : Nat) : Nat → List Pt
  | 0 => []
  | e + 1 => vE T R n k e ++ vS T R n k e R
def vK (T : Nat → Int) (R n : Nat) : Nat → List Pt
  | 0 => []
  | k + 1 => vK T R n k ++ vE T R n k 6
def vN (T : Nat → Int) (R : Nat) : Nat → List Pt
  | 0 => []
  | n + 1 => vN T R n ++ vK T R n 2
theorem vS_len (T : Nat → Int) (R n k e s : Nat) : (vS T R n k e s).length ≤ s := by
  induction s with
  | zero => simp [vS]
  | succ s ih => unfold vS; split <;> (try simp) <;> omega
theorem vE_len (T : Nat → Int) (R n k e : Nat) : (vE T R n k e).length ≤ e * R := by
  induction e with
  | zero => simp [vE]
  | succ e ih => unfold vE; have := vS_len T R n k e R; rw [List.length_append, Nat.add_mul]; omega
theorem vK_len (T : Nat → Int) (R n k : Nat) : (vK T R n k).length ≤ k * (6 * R) := by
  induction k with
  | zero => simp [vK]
  | succ k ih => unfold vK; have := vE_len T R n k 6; rw [List.length_append, Nat.add_mul]; omega
theorem vN_len (T : Nat → Int) (R n : Nat) : (vN T R n).length ≤ n * (2 * (6 * R)) := by
  induction n with
  | zero => simp [vN]
  | succ n ih => unfold vN; have := vK_len T R n 2; rw [List.length_append, Nat.add_mul]; omega
theorem src_noneT {t ty : TypeId} {size : Nat} (hund : Try.prog.underlying t = some (.slice ty)) (ad : Option Addr) (c : Nat) (w : World) : Src Try.prog size t (.slice ad 0 c) 0 [] w where
  kind := .inl ⟨_, hund⟩
  len := fun w' => by simp [Builtin.lenOf]
  cells := by cases ad <;> simp [Builtin.firstCells, loadCells, loadCellsFrom]
  cellsD := by cases ad <;> simp [Builtin.firstCells, loadCells, loadCellsFrom]
  newsLen := by simp
  one := by simp
def CellsAt (w : World) (ad : Option Addr) (m : Nat) (news : List Value) : Prop := 0 < m → ∃ g off, ad = some ⟨g, off, none⟩ ∧ ∀ j u, news[j]? = some u → w.cell? ⟨g, off + j, none⟩ = some u
theorem run_appG (w : World) (t ty res : TypeId) (z : Value) (size bytes : Nat) (hinf : (Try.prog.info? ty).map (fun i => (i.zero, i.size, i.bytes)) = some (some z, size, bytes)) (hund : Try.prog.underlying t = some (.slice ty)) (hzs : z.cells.size = size) (hsz : 0 < size)
    (base : Nat) (v : Value) (n : Nat) (xs : List Value) (hown : w.ownsRow base ty size v n xs)
    (ad : Option Addr) (m c : Nat) (news : List Value) (hnl : news.length = m * size) (hc : CellsAt w ad m news) (h1 : ∀ u ∈ news, u.oneCell' = true) (hl1 : n + m ≤ 1000000000) (hb : (n + m) * bytes ≤ 140737488355328) (hB : base ≤ w.heap.size) :
    ∃ v' w', (Builtin.append_ #[t, t] res #[v, .slice ad m c]).run Try.prog w = .ok v' w' ∧ w'.ownsRow base ty size v' (n + m) (xs ++ news) ∧ w.grownBy w' v.ownBlock ∧ ∀ b, v'.ownBlock = some b → v.ownBlock = some b ∨ b = w.heap.size := by
  obtain ⟨i0, hi, hz0, hz1, hz2⟩ := info_parts hinf
  by_cases hm : 0 < m
  · obtain ⟨g, off, rfl, hcc⟩ := hc hm
    obtain ⟨g', cap, w', hr, h2, h3, h4, _⟩ := run_append_lies (P := Try.prog) w t res base ty i0 z size bytes hund hi hz0 hz1 hz2 hzs hsz v n xs hown ⟨g, off, none⟩ m c news hnl
      (by intro j u hj
          refine uD ?_
          exact hcc j u hj) h1 hm (by unfold maxLen; omega) hb hB _ rfl
    refine ⟨_, w', hr, h2, h3, fun b hb => ?_⟩
    simp only [Value.ownBlock, Option.some.injEq] at hb
    subst hb
    exact h4
  · have h0 : m = 0 := by omega
    subst h0
    have hn0 : news = [] := List.eq_nil_of_length_eq_zero (by simpa using hnl)
    subst hn0
    have hvv := qW hown
    have hcap : n ≤ capV v := by
      rcases hown.2 with ⟨rfl, h⟩ | ⟨g, cap, cur, rfl, _, _, h, _⟩
      · omega
      · exact h
    have hr := run_append_nothing (P := Try.prog) w t t res ty i0 hund hi (yQ v) n (capV v) hcap (.slice ad 0 c) (by rw [hz1]; exact src_noneT hund ad c w)
    rw [← hvv] at hr
    refine ⟨v, w, hr, by rw [List.append_nil]; exact hown, ⟨rfl, rfl, rfl, Nat.le_refl _, fun _ _ _ => rfl⟩, fun b hb => .inl hb⟩
theorem appG {ops : Array Oper} {rest : List Oper} {o : Oper} {a : Act} {Q : Exit → Act → World → Prop} (w : World) (hgd : o.guard = none) (s y : Operand) (t ty : TypeId)
    (ho : o.op = .call { callee := .builtin .append, args := #[s, y], argTypes := #[t, t] }) (z : Value) (size bytes : Nat) (hinf : (Try.prog.info? ty).map (fun i => (i.zero, i.size, i.bytes)) = some (some z, size, bytes)) (hund : Try.prog.underlying t = some (.slice ty)) (hzs : z.cells.size = size) (hsz : 0 < size)
    (base : Nat) (v : Value) (n : Nat) (xs : List Value) (hs : a.eval s = v) (hown : w.ownsRow base ty size v n xs)
    (ad : Option Addr) (m c : Nat) (news : List Value) (hx : a.eval y = .slice ad m c) (hnl : news.length = m * size) (hc : CellsAt w ad m news) (h1 : ∀ u ∈ news, u.oneCell' = true) (hl1 : n + m ≤ 1000000000) (hb : (n + m) * bytes ≤ 140737488355328) (hB : base ≤ w.heap.size)
    (h : ∀ v' w', w'.ownsRow base ty size v' (n + m) (xs ++ news) → w.grownBy w' v.ownBlock → (∀ b, v'.ownBlock = some b → v.ownBlock = some b ∨ b = w.heap.size) → wpList Try.prog ops Q rest (a.put o.dst v') w') : wpList Try.prog ops Q (o :: rest) a w := by
  obtain ⟨v', w', hr, h2, h3, h4⟩ := run_appG w t ty o.type z size bytes hinf hund hzs hsz base v n xs hown ad m c news hnl hc h1 hl1 hb hB
  refine wpList_plain hgd fun _ hK => ?_
  unfold Oper.wp execOp
  simp only [ho, resolve, invoke, builtin, Sem.run_bind, Sem.run_pure, Result.andThen_ok, List.map_toArray, List.map_cons, List.map_nil, hs, hx, hr]
  exact hK _ _ (h v' w' h2 h3 h4)
theorem stepG {ops : Array Oper} {o : Oper} {a : Act} {w : World} {K : Act → World → Prop} {Q : Exit → Act → World → Prop} {E : Prop} (hgd : o.guard = none) (s y : Operand) (t ty : TypeId)
    (ho : o.op = .call { callee := .builtin .append, args := #[s, y], argTypes := #[t, t] }) (z : Value) (size bytes : Nat) (hinf : (Try.prog.info? ty).map (fun i => (i.zero, i.size, i.bytes)) = some (some z, size, bytes)) (hund : Try.prog.underlying t = some (.slice ty)) (hzs : z.cells.size = size) (hsz : 0 < size)
    (base : Nat) (v : Value) (n : Nat) (xs : List Value) (hs : a.eval s = v) (hown : w.ownsRow base ty size v n xs)
    (ad : Option Addr) (m c : Nat) (news : List Value) (hx : a.eval y = .slice ad m c) (hnl : news.length = m * size) (hc : CellsAt w ad m news) (h1 : ∀ u ∈ news, u.oneCell' = true) (hl1 : n + m ≤ 1000000000) (hb : (n + m) * bytes ≤ 140737488355328) (hB : base ≤ w.heap.size)
    (h : ∀ v' w', w'.ownsRow base ty size v' (n + m) (xs ++ news) → w.grownBy w' v.ownBlock → (∀ b, v'.ownBlock = some b → v.ownBlock = some b ∨ b = w.heap.size) → K (a.put o.dst v') w') :
    if Region.wanted o (yielded ops a.tmps) = true then Oper.wp Try.prog o a w K Q else E := by
  obtain ⟨v', w', hr, h2, h3, h4⟩ := run_appG w t ty o.type z size bytes hinf hund hzs hsz base v n xs hown ad m c news hnl hc h1 hl1 hb hB
  have hw : Region.wanted o (yielded ops a.tmps) = true := by simp [Region.wanted, hgd]
  rw [if_pos hw]
  unfold Oper.wp
  simp only [execOp, ho, resolve, invoke, builtin, Sem.run_bind, Sem.run_pure, Result.andThen_ok, List.map_toArray, List.map_cons, List.map_nil, hs, hx, hr]
  exact h v' w' h2 h3 h4
end Go.Proofs.Ytfemleimkbjehaa
