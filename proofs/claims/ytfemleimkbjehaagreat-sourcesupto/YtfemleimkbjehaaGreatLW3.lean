import Derived.Test.YtfemleimkbjehaaGreatJ35
namespace Go.Proofs.YtfemleimkbjehaaGreat
set_option linter.unusedVariables false
set_option linter.unusedSimpArgs false
open Go.RowKit

/-- 'append(v, x)' with where the answer lies, and that owned slices that are no longer stay. -/
theorem run_appK (w : World) (t ty res : TypeId) (z : Value) (size bytes : Nat) (hinf : (Tryz.prog.info? ty).map (fun i => (i.zero, i.size, i.bytes)) = some (some z, size, bytes)) (hund : Tryz.prog.underlying t = some (.slice ty)) (hzs : z.cells.size = size) (hsz : 0 < size)
    (base : Nat) (v : Value) (n : Nat) (xs : List Value) (hown : w.ownsRow base ty size v n xs)
    (g c : Nat) (news : List Value) (hnl : news.length = size) (hc : ∀ j u, news[j]? = some u → w.cell? ⟨g, j, none⟩ = some u) (h1 : ∀ u ∈ news, u.oneCell' = true) (hl1 : n + 1 ≤ 1000000000) (hb : bytes ≤ 1000) (hB : base ≤ w.heap.size) :
    ∃ g' cap w', (Builtin.append_ #[t, t] res #[v, .slice (some ⟨g, 0, none⟩) 1 c]).run Tryz.prog w = .ok (.slice (some ⟨g', 0, none⟩) (n + 1) cap) w' ∧ w'.ownsRow base ty size (.slice (some ⟨g', 0, none⟩) (n + 1) cap) (n + 1) (xs ++ news) ∧ w.grownBy w' v.ownBlock ∧ (v.ownBlock = some g' ∨ g' = w.heap.size) ∧ ∀ base' u k ys, w.ownsRow base' ty size u k ys → k ≤ n → w'.ownsRow base' ty size u k ys := by
  obtain ⟨g', cap, w', hr, h2, h3, h4⟩ := run_appL w t ty res z size bytes hinf hund hzs hsz base v n xs hown g c news hnl hc h1 hl1 hb hB
  obtain ⟨i0, hi, hz0, hz1, hz2⟩ := info_parts hinf
  have hbb : (n + 1) * bytes ≤ 1000000000 * 1000 := Nat.mul_le_mul hl1 hb
  obtain ⟨v2, w2, hr2, _, _, h5⟩ := run_append_keep (P := Tryz.prog) w base t res ty i0 z size bytes hund hi hz0 hz1 hz2 hzs hsz v n xs hown ⟨g, 0, none⟩ 1 c news (by omega) (by omega)
    (by intro j u hj
        refine add_cell ?_
        rw [Nat.zero_add]
        exact hc j u hj) h1 (by unfold maxLen; omega) (by omega) hB
  rw [hr] at hr2
  simp only [Result.ok.injEq] at hr2
  obtain ⟨_, rfl⟩ := hr2
  exact ⟨g', cap, w', hr, h2, h3, h4, h5⟩
theorem appK {ops : Array Oper} {rest : List Oper} {o : Oper} {a : Act} {Q : Exit → Act → World → Prop} (w : World) (hgd : o.guard = none) (s y : Operand) (t ty : TypeId)
    (ho : o.op = .call { callee := .builtin .append, args := #[s, y], argTypes := #[t, t] }) (z : Value) (size bytes : Nat) (hinf : (Tryz.prog.info? ty).map (fun i => (i.zero, i.size, i.bytes)) = some (some z, size, bytes)) (hund : Tryz.prog.underlying t = some (.slice ty)) (hzs : z.cells.size = size) (hsz : 0 < size)
    (base : Nat) (v : Value) (n : Nat) (xs : List Value) (hs : a.eval s = v) (hown : w.ownsRow base ty size v n xs)
    (g c : Nat) (news : List Value) (hx : a.eval y = .slice (some ⟨g, 0, none⟩) 1 c) (hnl : news.length = size) (hc : ∀ j u, news[j]? = some u → w.cell? ⟨g, j, none⟩ = some u) (h1 : ∀ u ∈ news, u.oneCell' = true) (hl1 : n + 1 ≤ 1000000000) (hb : bytes ≤ 1000) (hB : base ≤ w.heap.size)
    (h : ∀ g' cap w', w'.ownsRow base ty size (.slice (some ⟨g', 0, none⟩) (n + 1) cap) (n + 1) (xs ++ news) → w.grownBy w' v.ownBlock → (v.ownBlock = some g' ∨ g' = w.heap.size) → (∀ base' u k ys, w.ownsRow base' ty size u k ys → k ≤ n → w'.ownsRow base' ty size u k ys) → wpList Tryz.prog ops Q rest (a.put o.dst (.slice (some ⟨g', 0, none⟩) (n + 1) cap)) w') : wpList Tryz.prog ops Q (o :: rest) a w := by
  obtain ⟨g', cap, w', hr, h2, h3, h4, h5⟩ := run_appK w t ty o.type z size bytes hinf hund hzs hsz base v n xs hown g c news hnl hc h1 hl1 hb hB
  refine wpList_plain hgd fun _ hK => ?_
  unfold Oper.wp execOp
  simp only [ho, resolve, invoke, builtin, Sem.run_bind, Sem.run_pure, Result.andThen_ok, List.map_toArray, List.map_cons, List.map_nil, hs, hx, hr]
  exact hK _ _ (h g' cap w' h2 h3 h4 h5)

/-- The statement's own world, without a bound on where it lies. -/
structure LW0 (w : World) (K : Nat → Prop) (lb pb rb : Nat) (x : LX) (cnt : Int) (l : LL) : Prop where
  root : w.heap[lb]? = some (.cells #[.pointer (some ⟨pb, 0, none⟩), .pointer (some ⟨rb, 0, none⟩), .int .i64 cnt, x.m, x.p, x.t, x.r] 42 (0, 0))
  kroot : K lb
  m : OwnsIn K w 60 2 x.m l.m.length (entCells l.m)
  p : OwnsIn K w 65 2 x.p l.p.length (entCells l.p)
  t : OwnsIn K w 70 2 x.t l.t.length (entCells l.t)
  r : OwnsIn K w 75 2 x.r l.r.length (entCells l.r)
  km : EntsOk w K 62 xM 3 l.m
  kp : EntsOk w K 67 xP 5 l.p
  kt : EntsOk w K 72 xT 2 l.t
  kr : EntsOk w K 77 xR 5 l.r
theorem LW.to0 {w : World} {K : Nat → Prop} {lb pb rb : Nat} {x : LX} {cnt : Int} {l : LL} (h : LW w K lb pb rb x cnt l) (B : Nat) : LW0 w (fun b => K b ∨ B ≤ b) lb pb rb x cnt l :=
  ⟨h.root, .inl h.kroot, h.m.mono fun _ h => .inl h, h.p.mono fun _ h => .inl h, h.t.mono fun _ h => .inl h, h.r.mono fun _ h => .inl h, h.km.map fun _ _ _ h => h.mono fun _ h => .inl h, h.kp.map fun _ _ _ h => h.mono fun _ h => .inl h, h.kt.map fun _ _ _ h => h.mono fun _ h => .inl h, h.kr.map fun _ _ _ h => h.mono fun _ h => .inl h⟩
theorem LW0.done {w w' : World} {K : Nat → Prop} {lb pb rb : Nat} {x : LX} {cnt : Int} {l : LL} (h : LW0 w' (fun b => K b ∨ w.heap.size ≤ b) lb pb rb x cnt l) (hk : ∀ b, K b → b < w.heap.size) (hz : w.heap.size ≤ w'.heap.size) (hf : l.m.length ≤ 900000000 ∧ l.p.length ≤ 900000000 ∧ l.t.length ≤ 900000000 ∧ l.r.length ≤ 900000000) : LW w' (fun b => K b ∨ (w.heap.size ≤ b ∧ b < w'.heap.size)) lb pb rb x cnt l := by
  have key : ∀ {ty : TypeId} {sz : Nat} {u : Value} {m : Nat} {ys : List Value}, OwnsIn (fun b => K b ∨ w.heap.size ≤ b) w' ty sz u m ys → OwnsIn (fun b => K b ∨ (w.heap.size ≤ b ∧ b < w'.heap.size)) w' ty sz u m ys := fun ho => ⟨ho.1, fun b hb => by
    rcases ho.2 b hb with h | h
    · exact .inl h
    · exact .inr ⟨h, (World.ownsRow.lt ho.1 b hb).2⟩⟩
  refine ⟨h.root, ?_, fun b hb => ?_, key h.m, key h.p, key h.t, key h.r, h.km.map fun _ _ _ h => key h, h.kp.map fun _ _ _ h => key h, h.kt.map fun _ _ _ h => key h, h.kr.map fun _ _ _ h => key h, hf⟩
  · rcases h.kroot with h1 | h1
    · exact .inl h1
    · exact .inr ⟨h1, (Array.getElem?_eq_some_iff.1 h.root).1⟩
  · rcases hb with hb | hb
    · exact Nat.lt_of_lt_of_le (hk b hb) hz
    · exact hb.2
theorem LW0.map {w w' : World} {K : Nat → Prop} {lb pb rb : Nat} {x : LX} {cnt : Int} {l : LL} (h : LW0 w K lb pb rb x cnt l) (hr : w'.heap[lb]? = w.heap[lb]?) (hf : ∀ (ty : TypeId) (sz : Nat) (u : Value) (m : Nat) (ys : List Value), OwnsIn K w ty sz u m ys → OwnsIn K w' ty sz u m ys) : LW0 w' K lb pb rb x cnt l :=
  ⟨hr.trans h.root, h.kroot, hf _ _ _ _ _ h.m, hf _ _ _ _ _ h.p, hf _ _ _ _ _ h.t, hf _ _ _ _ _ h.r, h.km.map fun _ _ _ h => hf _ _ _ _ _ h, h.kp.map fun _ _ _ h => hf _ _ _ _ _ h, h.kt.map fun _ _ _ h => hf _ _ _ _ _ h, h.kr.map fun _ _ _ h => hf _ _ _ _ _ h⟩
theorem LW0.bw {w w' : World} {K : Nat → Prop} {lb pb rb : Nat} {x : LX} {cnt : Int} {l : LL} (h : LW0 w K lb pb rb x cnt l) (hb : Bw w w') : LW0 w' K lb pb rb x cnt l :=
  h.map (Below.block hb _ (Array.getElem?_eq_some_iff.1 h.root).1) fun _ _ _ _ _ ho => ho.frame fun b _ hl => Below.block hb b hl
/-- A cell of the root is set; nothing else lies there. -/
theorem LW0.frT {w w' : World} {K : Nat → Prop} {lb : Nat} {arr arr' : Array Value} (hr : w.heap[lb]? = some (.cells arr 42 (0, 0))) (hc : Chg (fun b => b = lb) w w') {ty : TypeId} {sz m : Nat} {u : Value} {ys : List Value} (ho : OwnsIn K w ty sz u m ys) (ht : ty ≠ 42) : OwnsIn K w' ty sz u m ys := ⟨ownsRow_chg ho.1 hr hc ht, ho.2⟩
theorem LW0.setCnt {w : World} {K : Nat → Prop} {lb pb rb : Nat} {x : LX} {cnt c : Int} {l : LL} (h : LW0 w K lb pb rb x cnt l) : LW0 (w.setCell ⟨lb, 2, none⟩ (.int .i64 c)) K lb pb rb x c l := by
  have fr : ∀ {ty : TypeId} {sz m : Nat} {u : Value} {ys : List Value}, OwnsIn K w ty sz u m ys → ty ≠ 42 → OwnsIn K (w.setCell ⟨lb, 2, none⟩ (.int .i64 c)) ty sz u m ys := fun ho ht => ⟨ownsRow_chg ho.1 h.root (chg_set _ _ _ _) ht, ho.2⟩
  exact ⟨(heap_setCell_at h.root).trans rfl, h.kroot, fr h.m (by decide), fr h.p (by decide), fr h.t (by decide), fr h.r (by decide), h.km.map fun _ _ _ h => fr h (by decide), h.kp.map fun _ _ _ h => fr h (by decide), h.kt.map fun _ _ _ h => fr h (by decide), h.kr.map fun _ _ _ h => fr h (by decide)⟩
theorem entCells_snoc (l : List Ent) (e : Ent) : entCells (l ++ [e]) = entCells l ++ e.cells := by simp [entCells]
theorem EntsOk.snoc {w : World} {K : Nat → Prop} {ty : TypeId} {X : Int → List Value} {sz : Nat} {l : List Ent} {e : Ent} (h : EntsOk w K ty X sz l) (he : EntOk w K ty X sz e) (hl : e.len ≤ 1000000000) : EntsOk w K ty X sz (l ++ [e]) := by
  intro i hi
  by_cases h1 : i < l.length
  · have : entn (l ++ [e]) i = entn l i := by simp [entn, List.getD, List.getElem?_append_left h1]
    rw [this]; exact h i h1
  · have h2 : i = l.length := by simp at hi; omega
    have : entn (l ++ [e]) i = e := by subst h2; simp [entn, List.getD]
    rw [this]; exact ⟨he, hl⟩
/-- A list is kept. -/
theorem LW0.addM {w0 w w4 : World} {K : Nat → Prop} {lb pb rb g' cap : Nat} {x : LX} {cnt : Int} {l : LL} {e : Ent} (h : LW0 w0 K lb pb rb x cnt l) (he : EntOk w0 K 62 xM 3 e) (hel : e.len ≤ 1000000000)
    (ho : w4.ownsRow 0 60 2 (.slice (some ⟨g', 0, none⟩) (l.m.length + 1) cap) (l.m.length + 1) (entCells l.m ++ e.cells)) (hg : w.grownBy w4 x.m.ownBlock) (hK : K g') (hb : Bw w0 w) :
    w4.heap[lb]? = some (.cells #[.pointer (some ⟨pb, 0, none⟩), .pointer (some ⟨rb, 0, none⟩), .int .i64 cnt, x.m, x.p, x.t, x.r] 42 (0, 0)) ∧
    LW0 (w4.setCell ⟨lb, 3, none⟩ (.slice (some ⟨g', 0, none⟩) (l.m.length + 1) cap)) K lb pb rb { x with m := .slice (some ⟨g', 0, none⟩) (l.m.length + 1) cap } cnt { l with m := l.m ++ [e] } := by
  have h := h.bw hb
  have he : EntOk w K 62 xM 3 e := OwnsIn.frame he fun b _ hl => Below.block hb b hl
  have hr4 := grown_block h.m.1 hg h.root (.inl (by decide))
  have fr : ∀ {ty : TypeId} {sz m : Nat} {u : Value} {ys : List Value}, OwnsIn K w ty sz u m ys → ty ≠ 60 → ty ≠ 42 → OwnsIn K (w4.setCell ⟨lb, 3, none⟩ (.slice (some ⟨g', 0, none⟩) (l.m.length + 1) cap)) ty sz u m ys := fun ho' h1 h2 => (ho'.grown h.m.1 hg h1).set hr4 h2
  refine ⟨hr4, (heap_setCell_at hr4).trans rfl, h.kroot, ?_, fr h.p (by decide) (by decide), fr h.t (by decide) (by decide), fr h.r (by decide) (by decide), (h.km.snoc he hel).map fun _ _ _ h => fr h (by decide) (by decide), h.kp.map fun _ _ _ h => fr h (by decide) (by decide), h.kt.map fun _ _ _ h => fr h (by decide) (by decide), h.kr.map fun _ _ _ h => fr h (by decide) (by decide)⟩
  refine ⟨?_, fun b hb => ?_⟩
  · rw [entCells_snoc, List.length_append]
    exact ownsRow_setT hr4 ho (by decide)
  · simp only [Value.ownBlock, Option.some.injEq] at hb
    subst hb
    exact hK

/-- A cell of an owned row is written over. -/
theorem ownsRow_setAt {w : World} {base n sz cap g p : Nat} {ty : TypeId} {xs : List Value} {u : Value} (h : w.ownsRow base ty sz (.slice (some ⟨g, 0, none⟩) n cap) n xs) (hp : p < xs.length) : (w.setCell ⟨g, p, none⟩ u).ownsRow base ty sz (.slice (some ⟨g, 0, none⟩) n cap) n (xs.set p u) := by
  obtain ⟨hl, h⟩ := h
  refine ⟨by rw [List.length_set]; exact hl, ?_⟩
  rcases h with ⟨h, _⟩ | ⟨g', cap', cur, e1, hb, hc, h1, h2, h3, h4⟩
  · simp at h
  · simp only [Value.slice.injEq, Option.some.injEq, Addr.mk.injEq, and_true, true_and] at e1
    obtain ⟨rfl, rfl⟩ := e1
    refine .inr ⟨g, cap, _, rfl, hb, heap_setCell_at hc, h1, h2, by simpa using h3, ?_⟩
    have hpn : p < n * sz := by omega
    rw [Array.toList_setIfInBounds, ← h4]
    apply List.ext_getElem?
    intro j
    by_cases hj : j < n * sz
    · rw [List.getElem?_take_of_lt hj]
      by_cases e : p = j
      · subst e
        rw [List.getElem?_set_self (by simp; rw [h3]; exact Nat.lt_of_lt_of_le hpn (Nat.mul_le_mul_right _ h1)), List.getElem?_set_self (by simp; rw [h3]; exact Nat.lt_min.2 ⟨hpn, Nat.lt_of_lt_of_le hpn (Nat.mul_le_mul_right _ h1)⟩)]
      · rw [List.getElem?_set_ne e, List.getElem?_set_ne e, List.getElem?_take_of_lt hj]
    · rw [List.getElem?_eq_none (by simp; omega), List.getElem?_eq_none (by simp; omega)]
/-- A list, of which the first k elements were written over. -/
def ovL (X : Int → List Value) (n : Int) (sz : Nat) (ys : List Value) (k : Nat) : List Value := fullL X n k ++ ys.drop (k * sz)
theorem ovL_zero (X : Int → List Value) (n : Int) (sz : Nat) (ys : List Value) : ovL X n sz ys 0 = ys := by simp [ovL, fullL]
theorem ovL_get {X : Int → List Value} {n : Int} {sz k p : Nat} {ys : List Value} (hX : (X n).length = sz) : (ovL X n sz ys k)[p]? = if p < k * sz then (fullL X n k)[p]? else ys[p]? := by
  have hl : (fullL X n k).length = k * sz := by simp [fullL, hX]
  unfold ovL
  by_cases h : p < k * sz
  · rw [if_pos h, List.getElem?_append_left (by omega)]
  · rw [if_neg h, List.getElem?_append_right (by omega), hl, List.getElem?_drop, show k * sz + (p - k * sz) = p by omega]
theorem ovL_all {X : Int → List Value} {n : Int} {sz k : Nat} {ys : List Value} (hl : ys.length = k * sz) : ovL X n sz ys k = fullL X n k := by
  unfold ovL
  rw [List.drop_eq_nil_of_le (by omega), List.append_nil]
theorem LW.setCnt {w : World} {K : Nat → Prop} {lb pb rb : Nat} {x : LX} {cnt c : Int} {l : LL} (h : LW w K lb pb rb x cnt l) : LW (w.setCell ⟨lb, 2, none⟩ (.int .i64 c)) K lb pb rb x c l := by
  have fr : ∀ {ty : TypeId} {sz m : Nat} {u : Value} {ys : List Value}, OwnsIn K w ty sz u m ys → ty ≠ 42 → OwnsIn K (w.setCell ⟨lb, 2, none⟩ (.int .i64 c)) ty sz u m ys := fun ho ht => ⟨ownsRow_chg ho.1 h.root (chg_set _ _ _ _) ht, ho.2⟩
  exact ⟨(heap_setCell_at h.root).trans rfl, h.kroot, fun b hb => by simpa using h.klt b hb, fr h.m (by decide), fr h.p (by decide), fr h.t (by decide), fr h.r (by decide), h.km.map fun _ _ _ h => fr h (by decide), h.kp.map fun _ _ _ h => fr h (by decide), h.kt.map fun _ _ _ h => fr h (by decide), h.kr.map fun _ _ _ h => fr h (by decide), h.few⟩
/-- Something is put behind a list of messages; the kept lists stay. -/
theorem LW0.appM {w w' : World} {K K0 : Nat → Prop} {lb pb rb base n : Nat} {x : LX} {cnt : Int} {l : LL} {gv : Value} {xs : List Value} (h : LW0 w K lb pb rb x cnt l) (hown : w.ownsRow base 62 3 gv n xs) (hg : w.grownBy w' gv.ownBlock) (hkeep : ∀ base' u k ys, w.ownsRow base' 62 3 u k ys → k ≤ n → w'.ownsRow base' 62 3 u k ys)
    (hfam : ∀ i, i < l.m.length → (entn l.m i).len ≤ n ∨ ∀ b, (Value.slice (entn l.m i).a (entn l.m i).len (entn l.m i).cap).ownBlock = some b → K0 b) (hn : ∀ b, gv.ownBlock = some b → ¬ K0 b) : LW0 w' K lb pb rb x cnt l := by
  have fr : ∀ {ty : TypeId} {sz m : Nat} {u : Value} {ys : List Value}, OwnsIn K w ty sz u m ys → ty ≠ 62 → OwnsIn K w' ty sz u m ys := fun ho h1 => ho.grown hown hg h1
  refine ⟨grown_block hown hg h.root (.inl (by decide)), h.kroot, fr h.m (by decide), fr h.p (by decide), fr h.t (by decide), fr h.r (by decide), fun i hi => ?_, h.kp.map fun _ _ _ h => fr h (by decide), h.kt.map fun _ _ _ h => fr h (by decide), h.kr.map fun _ _ _ h => fr h (by decide)⟩
  obtain ⟨he, hl⟩ := h.km i hi
  refine ⟨⟨?_, he.2⟩, hl⟩
  rcases hfam i hi with h1 | h1
  · exact hkeep _ _ _ _ he.1 h1
  · exact ownsRow_frame he.1 fun b hb => hg.block b (World.ownsRow.lt he.1 b hb).2 (fun e => hn b e.symm (h1 b hb))
theorem one2 (e : Ent) : ∀ u ∈ Ent.cells e, u.oneCell' = true := by
  intro u hu
  simp [Ent.cells] at hu
  rcases hu with rfl | rfl <;> rfl
theorem fam_snoc {l : List Ent} {e : Ent} {n : Nat} {K0 : Nat → Prop} (h : ∀ i, i < l.length → (entn l i).len ≤ n ∨ ∀ b, (Value.slice (entn l i).a (entn l i).len (entn l i).cap).ownBlock = some b → K0 b) (he : e.len ≤ n) : ∀ i, i < (l ++ [e]).length → (entn (l ++ [e]) i).len ≤ n ∨ ∀ b, (Value.slice (entn (l ++ [e]) i).a (entn (l ++ [e]) i).len (entn (l ++ [e]) i).cap).ownBlock = some b → K0 b := by
  intro i hi
  by_cases h1 : i < l.length
  · have : entn (l ++ [e]) i = entn l i := by simp [entn, List.getD, List.getElem?_append_left h1]
    rw [this]; exact h i h1
  · have h2 : i = l.length := by simp at hi; omega
    have : entn (l ++ [e]) i = e := by subst h2; simp [entn, List.getD]
    rw [this]; exact .inl he
end Go.Proofs.YtfemleimkbjehaaGreat
