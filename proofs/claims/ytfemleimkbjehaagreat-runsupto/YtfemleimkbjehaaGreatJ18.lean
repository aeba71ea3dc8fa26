import Derived.Test.YtfemleimkbjehaaGreatJ17
set_option maxRecDepth 1000000
set_option maxHeartbeats 40000000
set_option linter.unusedVariables false
set_option linter.unusedSimpArgs false
namespace Go.Proofs.YtfemleimkbjehaaGreat
open Go.RowKit
theorem gvCells_snoc' (l : List Gv) (y : Gv) : qH (l ++ [y]) = qH l ++ y.cells := by simp [qH]
theorem jZ {w : World} {base n size : Nat} {ty : TypeId} {v : Value} {xs : List Value} (h : w.ownsRow base ty size v n xs) {b : Nat} (hb : v.ownBlock = some b) : ∃ cur, w.heap[b]? = some (.cells cur ty (0, 0)) := by
  obtain ⟨_, h0 | ⟨g, cap, cur, e1, _, hc, _⟩⟩ := h
  · rw [h0.1] at hb; simp [Value.ownBlock] at hb
  · rw [e1] at hb
    simp only [Value.ownBlock, Option.some.injEq] at hb
    subst hb
    exact ⟨cur, hc⟩
theorem rest_owns {w wa w4 : World} {S : Nat → Prop} {warr : Array Value} {wb q g' sz' m : Nat} {v4 u : Value} {ty : TypeId} {ys : List Value} (hwk : w.heap[wb]? = some (.cells warr 147 (0, 0))) (hb : Bw w wa) (hw4 : w4.heap[wb]? = some (.cells warr 147 (0, 0)))
    (hgb : ∀ (b : Nat) (cur : Array Value), wa.heap[b]? = some (.cells cur ty (0, 0)) → w4.heap[b]? = wa.heap[b]?) (ho : OwnsIn S w ty sz' u m ys) (ht : ty ≠ 147) : OwnsIn (fun b => S b ∨ b = g') (w4.setCell ⟨wb, q, none⟩ v4) ty sz' u m ys := by
  refine ⟨kK ho.1 fun b hbb => ?_, fun b hbb => .inl (ho.2 b hbb)⟩
  obtain ⟨cur, hc⟩ := jZ ho.1 hbb
  have hlt := (Array.getElem?_eq_some_iff.1 hc).1
  have hca := (Below.block hb b hlt).trans hc
  have hne : b ≠ wb := by
    intro e
    subst e
    rw [hwk] at hc
    simp only [Option.some.injEq, Obj.cells.injEq] at hc
    exact ht hc.2.1.symm
  exact (Below.heap_setCell w4 ⟨wb, q, none⟩ v4 b hne).trans ((hgb b cur hca).trans (Below.block hb b hlt))
/-- A message was appended to the slice at q: the row with that slice set. k says which list it is. -/
theorem PRow.addMsg {w wa w4 : World} {S : Nat → Prop} {warr : Array Value} {L W wb i m g' c : Nat} {st st' : PSt} {v : Value} {y : Gv} {ms : List Gv} (o : Nat) (h : PRow w S warr L W st) (hL : L ≤ 8) (hi : i < W) (hm : m < L) (ho8 : o = 16 ∨ o = 24) (hwk : w.heap[wb]? = some (.cells warr 147 (0, 0))) (hslt : ∀ b, S b → b < w.heap.size) (hb : Bw w wa) (hq : warr[i * 3684 + o + m]? = some v)
    (hgp : ∀ (b : Nat) (cur : Array Value), wa.heap[b]? = some (.cells cur 67 (0, 0)) → w4.heap[b]? = wa.heap[b]?)
    (ho : w4.ownsRow 0 62 3 (.slice (some ⟨g', 0, none⟩) (ms.length + 1) c) (ms.length + 1) (qH ms ++ y.cells)) (hg : wa.grownBy w4 v.ownBlock) (hl : v.ownBlock = some g' ∨ g' = wa.heap.size) (hw4 : w4.heap[wb]? = some (.cells warr 147 (0, 0)))
    (hst : st'.ep = st.ep ∧ st'.cl = st.cl ∧ st'.tl = st.tl ∧ st'.tb = st.tb ∧ st'.wy = st.wy)
    (hwt : ∀ a b, a < W → b < L → st'.wt a b = if o = 16 ∧ a = i ∧ b = m then ms ++ [y] else st.wt a b) (hlb : ∀ a b, a < W → b < L → st'.lb a b = if o = 24 ∧ a = i ∧ b = m then ms ++ [y] else st.lb a b) :
    PRow (w4.setCell ⟨wb, i * 3684 + o + m, none⟩ (.slice (some ⟨g', 0, none⟩) (ms.length + 1) c)) (fun b => S b ∨ b = g') (warr.setIfInBounds (i * 3684 + o + m) (.slice (some ⟨g', 0, none⟩) (ms.length + 1) c)) L W st' := by
  have hqs : i * 3684 + o + m < warr.size := (Array.getElem?_eq_some_iff.1 hq).1
  have hqW : i * 3684 + o + m < W * 3684 := by rcases ho8 with rfl | rfl <;> omega
  obtain ⟨n1, n2⟩ := h.newInj (off := 0) (n := ms.length + 1) (c := c) hslt hb hq hqW hl
  have hnew : OwnsIn (fun b => S b ∨ b = g') (w4.setCell ⟨wb, i * 3684 + o + m, none⟩ (.slice (some ⟨g', 0, none⟩) (ms.length + 1) c)) 62 3 (.slice (some ⟨g', 0, none⟩) (ms.length + 1) c) (ms ++ [y]).length (qH (ms ++ [y])) := by
    refine ⟨?_, fun b hb => .inr (by simpa [Value.ownBlock] using hb.symm)⟩
    rw [gvCells_snoc', List.length_append, List.length_singleton]
    exact qN hw4 ho (by decide)
  have hpt : ∀ (u : Value) (m' : Nat) (ys : List Value), OwnsIn S w 67 5 u m' ys → OwnsIn (fun b => S b ∨ b = g') (w4.setCell ⟨wb, i * 3684 + o + m, none⟩ (.slice (some ⟨g', 0, none⟩) (ms.length + 1) c)) 67 5 u m' ys := fun u m' ys ho' => rest_owns hwk hb hw4 hgp ho' (by decide)
  obtain ⟨e1, e2, e3, e4, e5⟩ := hst
  refine ⟨by simpa using h.size, fun a b ha hb' => ⟨?_, ?_⟩, fun a b ha hb' => ?_, fun a b ha hb' => ?_, fun a b ha hb' k hk => ?_, fun a ha k hk => ?_, fun a j ha hj => ?_, n1, n2⟩
  · rw [e1, Array.getElem?_setIfInBounds_ne (by rcases ho8 with rfl | rfl <;> omega)]; exact (h.src a b ha hb').1
  · rw [e2, Array.getElem?_setIfInBounds_ne (by rcases ho8 with rfl | rfl <;> omega)]; exact (h.src a b ha hb').2
  · rw [hwt a b ha hb']
    by_cases e : o = 16 ∧ a = i ∧ b = m
    · obtain ⟨rfl, rfl, rfl⟩ := e
      rw [if_pos ⟨rfl, rfl, rfl⟩]
      exact ⟨_, Array.getElem?_setIfInBounds_self_of_lt hqs, hnew⟩
    · rw [if_neg e]
      obtain ⟨u, eu, hu⟩ := h.wait a b ha hb'
      have hne : a * 3684 + 16 + b ≠ i * 3684 + o + m := by rcases ho8 with rfl | rfl <;> omega
      exact ⟨u, by rw [Array.getElem?_setIfInBounds_ne hne.symm]; exact eu, h.other hwk hslt hb hg hq eu hne (by omega) hqW hu (by decide)⟩
  · rw [hlb a b ha hb']
    by_cases e : o = 24 ∧ a = i ∧ b = m
    · obtain ⟨rfl, rfl, rfl⟩ := e
      rw [if_pos ⟨rfl, rfl, rfl⟩]
      exact ⟨_, Array.getElem?_setIfInBounds_self_of_lt hqs, hnew⟩
    · rw [if_neg e]
      obtain ⟨u, eu, hu⟩ := h.letb a b ha hb'
      have hne : a * 3684 + 24 + b ≠ i * 3684 + o + m := by rcases ho8 with rfl | rfl <;> omega
      exact ⟨u, by rw [Array.getElem?_setIfInBounds_ne hne.symm]; exact eu, h.other hwk hslt hb hg hq eu hne (by omega) hqW hu (by decide)⟩
  · rw [e3, Array.getElem?_setIfInBounds_ne (by have := pos_ne (i := i) (a := a) (r := o + m) (s := 32 + b * 408 + k) (by rcases ho8 with rfl | rfl <;> omega) (by omega) (by rcases ho8 with rfl | rfl <;> omega); omega)]; exact h.tal a b ha hb' k hk
  · rw [e4, Array.getElem?_setIfInBounds_ne (by rcases ho8 with rfl | rfl <;> omega)]; exact h.bel a ha k hk
  · rw [e5]
    obtain ⟨u, eu, hu⟩ := h.way a j ha hj
    have hne : a * 3684 + 3680 + j ≠ i * 3684 + o + m := by rcases ho8 with rfl | rfl <;> omega
    exact ⟨u, by rw [Array.getElem?_setIfInBounds_ne hne.symm]; exact eu, h.otherW hwk hslt hb hg hq eu hne (by omega) hqW hu hpt⟩
theorem PRow.addWay {w wa w4 : World} {S : Nat → Prop} {warr : Array Value} {L W wb i j g' off c : Nat} {st : PSt} {v u0 : Value} {ps : List Pt} {vs : List Value} (h : PRow w S warr L W st) (hL : L ≤ 8) (hi : i < W) (hj : j < 4) (hwk : w.heap[wb]? = some (.cells warr 147 (0, 0))) (hslt : ∀ b, S b → b < w.heap.size) (hb : Bw w wa) (hq : warr[i * 3684 + 3680 + j]? = some v)
    (hgp : ∀ (ty : TypeId), ty ≠ 121 → ∀ (b : Nat) (cur : Array Value), wa.heap[b]? = some (.cells cur ty (0, 0)) → w4.heap[b]? = wa.heap[b]?)
    (hvs : ∀ k, k < (st.wy i j).length → ∃ u, vs[k]? = some u ∧ OwnsIn S w 67 5 u ((st.wy i j).getD k []).length (qR ((st.wy i j).getD k [])))
    (hu0 : OwnsIn S w 67 5 u0 ps.length (qR ps)) (hvl : vs.length = (st.wy i j).length)
    (ho : rowO w4 121 (.slice (some ⟨g', off, none⟩) ((st.wy i j).length + 1) c) ((st.wy i j).length + 1) (vs ++ [u0])) (hg : wa.grownBy w4 v.ownBlock) (hl : v.ownBlock = some g' ∨ g' = wa.heap.size) (hgw : g' ≠ wb) (hw4 : w4.heap[wb]? = some (.cells warr 147 (0, 0))) :
    PRow (w4.setCell ⟨wb, i * 3684 + 3680 + j, none⟩ (.slice (some ⟨g', off, none⟩) ((st.wy i j).length + 1) c)) (fun b => S b ∨ b = g') (warr.setIfInBounds (i * 3684 + 3680 + j) (.slice (some ⟨g', off, none⟩) ((st.wy i j).length + 1) c)) L W { st with wy := kF st.wy i j (st.wy i j ++ [ps]) } := by
  have hqs : i * 3684 + 3680 + j < warr.size := (Array.getElem?_eq_some_iff.1 hq).1
  obtain ⟨n1, n2⟩ := h.newInj (off := off) (n := (st.wy i j).length + 1) (c := c) hslt hb hq (by omega) hl
  have hpt : ∀ (u : Value) (m' : Nat) (ys : List Value), OwnsIn S w 67 5 u m' ys → OwnsIn (fun b => S b ∨ b = g') (w4.setCell ⟨wb, i * 3684 + 3680 + j, none⟩ (.slice (some ⟨g', off, none⟩) ((st.wy i j).length + 1) c)) 67 5 u m' ys := fun u m' ys ho' => rest_owns hwk hb hw4 (hgp _ (by decide)) ho' (by decide)
  refine ⟨by simpa using h.size, fun a b ha hb' => ⟨?_, ?_⟩, fun a b ha hb' => ?_, fun a b ha hb' => ?_, fun a b ha hb' k hk => ?_, fun a ha k hk => ?_, fun a j' ha hj' => ?_, n1, n2⟩
  · rw [Array.getElem?_setIfInBounds_ne (by omega)]; exact (h.src a b ha hb').1
  · rw [Array.getElem?_setIfInBounds_ne (by omega)]; exact (h.src a b ha hb').2
  · obtain ⟨u, eu, hu⟩ := h.wait a b ha hb'
    exact ⟨u, by rw [Array.getElem?_setIfInBounds_ne (by omega)]; exact eu, h.other hwk hslt hb hg hq eu (by omega) (by omega) (by omega) hu (by decide)⟩
  · obtain ⟨u, eu, hu⟩ := h.letb a b ha hb'
    exact ⟨u, by rw [Array.getElem?_setIfInBounds_ne (by omega)]; exact eu, h.other hwk hslt hb hg hq eu (by omega) (by omega) (by omega) hu (by decide)⟩
  · rw [Array.getElem?_setIfInBounds_ne (by have := pos_ne (i := i) (a := a) (r := 3680 + j) (s := 32 + b * 408 + k) (by omega) (by omega) (by omega); omega)]; exact h.tal a b ha hb' k hk
  · rw [Array.getElem?_setIfInBounds_ne (by omega)]; exact h.bel a ha k hk
  · by_cases e : a = i ∧ j' = j
    · obtain ⟨rfl, rfl⟩ := e
      simp only [yF]
      refine ⟨_, Array.getElem?_setIfInBounds_self_of_lt hqs, vs ++ [u0], ?_, fun b hb => .inr (by simpa [Value.ownBlock] using hb.symm), fun k hk => ?_⟩
      · rw [List.length_append, List.length_singleton]
        exact ho.frame (fun b hb' => by
          simp only [Value.ownBlock, Option.some.injEq] at hb'
          exact Below.heap_setCell w4 ⟨wb, _, none⟩ _ b (fun e => hgw (hb'.trans e)))
      · rw [List.length_append, List.length_singleton] at hk
        by_cases hk2 : k < (st.wy a j').length
        · obtain ⟨u, eu, hu⟩ := hvs k hk2
          refine ⟨u, by rw [List.getElem?_append_left (by omega)]; exact eu, ?_⟩
          rw [show (st.wy a j' ++ [ps]).getD k [] = (st.wy a j').getD k [] by simp [List.getD, List.getElem?_append_left hk2]]
          exact hpt _ _ _ hu
        · have : k = (st.wy a j').length := by omega
          subst this
          refine ⟨u0, by rw [List.getElem?_append_right (by omega), hvl]; simp, ?_⟩
          rw [show (st.wy a j' ++ [ps]).getD (st.wy a j').length [] = ps by simp [List.getD]]
          exact hpt _ _ _ hu0
    · simp only [upd2_ne _ _ e]
      obtain ⟨u, eu, hu⟩ := h.way a j' ha hj'
      exact ⟨u, by rw [Array.getElem?_setIfInBounds_ne (by omega)]; exact eu, h.otherW hwk hslt hb hg hq eu (by omega) (by omega) (by omega) hu hpt⟩
theorem POwn.setRow {w w' : World} {S : Nat → Prop} {pb : Nat} {x : PX} {ns : List Nd} {R W : Nat} {D : Nat → Nat → Int} {st st' : PSt} {arr' : Array Value} (h : POwn w S pb x ns R W D st) (hc : Chg (fun b => b = x.wb) w w') (hw : w'.heap[x.wb]? = some (.cells arr' 147 (0, 0))) (hr : PRow w S arr' ns.length W st') (hg : st'.gv = st.gv ∧ st'.rc = st.rc) (hf : ∀ i n, (st'.wt i n).length ≤ 100000000 ∧ (st'.lb i n).length ≤ 100000000 ∧ (st'.wy i n).length ≤ 100000000) :
    POwn w' S pb { x with warr := arr' } ns R W D st' := by
  have fr : ∀ {b : Nat} {cur : Array Value} {t : TypeId}, w.heap[b]? = some (.cells cur t (0, 0)) → t ≠ 147 → w'.heap[b]? = w.heap[b]? := by
    intro b cur t hb ht
    refine hc.block b (Array.getElem?_eq_some_iff.1 hb).1 ?_
    intro e
    subst e
    rw [h.work] at hb
    simp only [Option.some.injEq, Obj.cells.injEq] at hb
    exact ht hb.2.1.symm
  have frO : ∀ (ty : TypeId) (sz : Nat) (u : Value) (m : Nat) (ys : List Value), ty ≠ 147 → OwnsIn S w ty sz u m ys → OwnsIn S w' ty sz u m ys := by
    intro ty sz u m ys ht ho
    refine ⟨kK ho.1 fun b hbb => ?_, ho.2⟩
    obtain ⟨cur, hc'⟩ := jZ ho.1 hbb
    exact fr hc' ht
  exact ⟨(fr h.root (by decide)).trans h.root, h.r0, h.r1, h.r2, h.r3, by rw [hg.1]; exact h.r4, h.r5, hw, h.sroot, h.swork, fun b hb => Nat.lt_of_lt_of_le (h.slt b hb) hc.size, frO _ _ _ _ _ (by decide) h.nodes, h.dist.map fun ty _ _ _ _ ht ho => frO _ _ _ _ _ (by rcases ht with rfl | rfl <;> decide) ho, by rw [hg.2]; exact frO _ _ _ _ _ (by decide) h.recs, hr.map (fun _ h => h) (fun ty _ _ _ _ ht ho => frO _ _ _ _ _ (by rcases ht with rfl | rfl <;> decide) ho) (fun b cur _ hb => fr hb (by decide)), h.small, ⟨hf, by rw [hg.2]; exact h.few.2⟩⟩
theorem POwn.appRow {w wa w4 : World} {S : Nat → Prop} {pb q g' : Nat} {x : PX} {ns : List Nd} {R W : Nat} {D : Nat → Nat → Int} {st st' : PSt} {v4 : Value} (h : POwn w S pb x ns R W D st) (hb : Bw w wa) (tyv : TypeId) (hty : tyv = 62 ∨ tyv = 121) (hz : wa.heap.size ≤ w4.heap.size) (hgp : ∀ (ty : TypeId), ty ≠ tyv → ∀ (b : Nat) (cur : Array Value), wa.heap[b]? = some (.cells cur ty (0, 0)) → w4.heap[b]? = wa.heap[b]?) (hlt : g' < w4.heap.size)
    (hr : w4.heap[x.wb]? = some (.cells x.warr 147 (0, 0)) → PRow (w4.setCell ⟨x.wb, q, none⟩ v4) (fun b => S b ∨ b = g') (x.warr.setIfInBounds q v4) ns.length W st') (hgv : st'.gv = st.gv ∧ st'.rc = st.rc) (hf : ∀ i n, (st'.wt i n).length ≤ 100000000 ∧ (st'.lb i n).length ≤ 100000000 ∧ (st'.wy i n).length ≤ 100000000) :
    POwn (w4.setCell ⟨x.wb, q, none⟩ v4) (fun b => S b ∨ b = g') pb { x with warr := x.warr.setIfInBounds q v4 } ns R W D st' := by
  have ha := h.bw hb
  have hw4 : w4.heap[x.wb]? = some (.cells x.warr 147 (0, 0)) := (hgp _ (by rcases hty with rfl | rfl <;> decide) _ _ ha.work).trans ha.work
  have hroot := (hgp _ (by rcases hty with rfl | rfl <;> decide) _ _ ha.root).trans ha.root
  have hne : pb ≠ x.wb := fun e => by have h1 := h.root; rw [e, h.work] at h1; simp at h1
  have frO : ∀ (t : TypeId) (s : Nat) (u : Value) (m : Nat) (ys : List Value), t ≠ tyv → t ≠ 147 → OwnsIn S w t s u m ys → OwnsIn (fun b => S b ∨ b = g') (w4.setCell ⟨x.wb, q, none⟩ v4) t s u m ys := fun t s u m ys h1 h2 ho => rest_owns h.work hb hw4 (hgp t h1) ho h2
  refine ⟨(Below.heap_setCell w4 ⟨x.wb, q, none⟩ _ pb hne).trans hroot, h.r0, h.r1, h.r2, h.r3, by rw [hgv.1]; exact h.r4, h.r5, qU hw4, .inl h.sroot, .inl h.swork, fun b hb' => ?_, ?_, ?_, ?_, hr hw4, h.small, ⟨hf, by rw [hgv.2]; exact h.few.2⟩⟩
  · rw [show (w4.setCell ⟨x.wb, q, none⟩ v4).heap.size = w4.heap.size by simp]
    rcases hb' with hb' | rfl
    · exact Nat.lt_of_lt_of_le (ha.slt b hb') hz
    · exact hlt
  · exact frO _ _ _ _ _ (by rcases hty with rfl | rfl <;> decide) (by decide) h.nodes
  · exact h.dist.map fun t _ _ _ _ ht ho => frO _ _ _ _ _ (by rcases hty with rfl | rfl <;> rcases ht with rfl | rfl <;> decide) (by rcases ht with rfl | rfl <;> decide) ho
  · rw [hgv.2]; exact frO _ _ _ _ _ (by rcases hty with rfl | rfl <;> decide) (by decide) h.recs
theorem POwn.mono {w : World} {S S' : Nat → Prop} {pb : Nat} {x : PX} {ns : List Nd} {R W : Nat} {D : Nat → Nat → Int} {st : PSt} (h : POwn w S pb x ns R W D st) (hS : ∀ b, S b → S' b) (hl : ∀ b, S' b → b < w.heap.size) : POwn w S' pb x ns R W D st :=
  ⟨h.root, h.r0, h.r1, h.r2, h.r3, h.r4, h.r5, h.work, hS _ h.sroot, hS _ h.swork, hl, h.nodes.mono hS, h.dist.map fun _ _ _ _ _ _ ho => ho.mono hS, h.recs.mono hS, h.row.map hS (fun _ _ _ _ _ _ ho => ho.mono hS) (fun _ _ _ _ => rfl), h.small, h.few⟩
theorem POwn.belIn {w : World} {S : Nat → Prop} {pb : Nat} {x : PX} {ns : List Nd} {R W : Nat} {D : Nat → Nat → Int} {st : PSt} (h : POwn w S pb x ns R W D st) {i : Nat} (hi : i < W) : BelIn w x.wb (i * 3684 + 3296) 147 x.warr (st.tb i) :=
  ⟨x.warr, h.work, rfl, fun _ _ => rfl, h.row.bel i hi⟩
theorem POwn.believed {w w' : World} {S : Nat → Prop} {pb : Nat} {x : PX} {ns : List Nd} {R W : Nat} {D : Nat → Nat → Int} {st : PSt} {T : Nat → Int} {i : Nat} (h : POwn w S pb x ns R W D st) (hi : i < W) (hb : BelIn w' x.wb (i * 3684 + 3296) 147 x.warr T) (hc : Chg (fun b => b = x.wb) w w') : ∃ arr', POwn w' S pb { x with warr := arr' } ns R W D { st with tb := upd1 st.tb i T } := by
  obtain ⟨arr', h1, h2, h3, h4⟩ := hb
  exact ⟨arr', h.setRow hc h1 (h.row.setBel h.small.1 hi h2 h3 h4) ⟨rfl, rfl⟩ h.few.1⟩
theorem xN {wa w4 : World} {v : Value} {tv : TypeId} (hv : ∀ b, Value.ownBlock v = some b → ∃ cur, wa.heap[b]? = some (.cells cur tv (0, 0))) (hg : wa.grownBy w4 v.ownBlock) : ∀ (ty : TypeId), ty ≠ tv → ∀ (b : Nat) (cur : Array Value), wa.heap[b]? = some (.cells cur ty (0, 0)) → w4.heap[b]? = wa.heap[b]? := by
  intro ty ht b cur hc
  refine hg.block b (Array.getElem?_eq_some_iff.1 hc).1 (fun e => ?_)
  obtain ⟨cur', hc'⟩ := hv b e.symm
  rw [hc] at hc'
  simp only [Option.some.injEq, Obj.cells.injEq] at hc'
  exact ht hc'.2.1
theorem POwn.sent {w wa w4 : World} {S : Nat → Prop} {pb i j g' off c : Nat} {x : PX} {ns : List Nd} {R W : Nat} {D : Nat → Nat → Int} {st : PSt} {v u0 : Value} {vs : List Value} {ps : List Pt} (h : POwn w S pb x ns R W D st) (hi : i < W) (hj : j < 4) (hb : Bw w wa) (hq : x.warr[i * 3684 + 3680 + j]? = some v) (hw : rowO w 121 v (st.wy i j).length vs)
    (hvs : ∀ k, k < (st.wy i j).length → ∃ u, vs[k]? = some u ∧ OwnsIn S w 67 5 u ((st.wy i j).getD k []).length (qR ((st.wy i j).getD k []))) (hu0 : OwnsIn S w 67 5 u0 ps.length (qR ps))
    (ho : rowO w4 121 (.slice (some ⟨g', off, none⟩) ((st.wy i j).length + 1) c) ((st.wy i j).length + 1) (vs ++ [u0])) (hg : wa.grownBy w4 v.ownBlock) (hl : v.ownBlock = some g' ∨ g' = wa.heap.size) (hf : (st.wy i j).length + 1 ≤ 100000000) :
    w4.heap[x.wb]? = some (.cells x.warr 147 (0, 0)) ∧ POwn (w4.setCell ⟨x.wb, i * 3684 + 3680 + j, none⟩ (.slice (some ⟨g', off, none⟩) ((st.wy i j).length + 1) c)) (fun b => S b ∨ b = g') pb { x with warr := x.warr.setIfInBounds (i * 3684 + 3680 + j) (.slice (some ⟨g', off, none⟩) ((st.wy i j).length + 1) c) } ns R W D { st with wy := kF st.wy i j (st.wy i j ++ [ps]) } := by
  have hvb : ∀ b, Value.ownBlock v = some b → ∃ cur, wa.heap[b]? = some (.cells cur 121 (0, 0)) := fun b hbb => by
    obtain ⟨cur, hc⟩ := hw.blk hbb
    exact ⟨cur, (Below.block hb b (Array.getElem?_eq_some_iff.1 hc).1).trans hc⟩
  have hgp := xN hvb hg
  have hwa := (h.bw hb).work
  have hw4 : w4.heap[x.wb]? = some (.cells x.warr 147 (0, 0)) := (hgp _ (by decide) _ _ hwa).trans hwa
  have hgw : g' ≠ x.wb := by
    rcases hl with hl | hl
    · intro e
      obtain ⟨cur, hc⟩ := hvb g' hl
      rw [e, hwa] at hc
      simp only [Option.some.injEq, Obj.cells.injEq] at hc
      exact absurd hc.2.1 (by decide)
    · have := (Array.getElem?_eq_some_iff.1 hwa).1
      omega
  obtain ⟨cur4, hc4⟩ := ho.blk (b := g') rfl
  refine ⟨hw4, h.appRow hb 121 (.inr rfl) hg.size hgp (Array.getElem?_eq_some_iff.1 hc4).1 (fun hw4 => h.row.addWay h.small.1 hi hj h.work h.slt hb hq hgp hvs hu0 hw.1 ho hg hl hgw hw4) ⟨rfl, rfl⟩ (fun a b => ⟨(h.few.1 a b).1, (h.few.1 a b).2.1, ?_⟩)⟩
  simp only [kF]
  split
  · rw [List.length_append]; exact hf
  · exact (h.few.1 a b).2.2
def vZ (wy : Nat → Nat → List (List Pt)) (i : Nat) (ps : List Pt) (k : Nat) : Nat → Nat → List (List Pt) := fun a b => if b = i ∧ a < k ∧ a ≠ i then wy a b ++ [ps] else wy a b
theorem wyAdd_zero (wy : Nat → Nat → List (List Pt)) (i : Nat) (ps : List Pt) : vZ wy i ps 0 = wy := by
  funext a b; simp [vZ]
theorem wyAdd_self (wy : Nat → Nat → List (List Pt)) (i : Nat) (ps : List Pt) : vZ wy i ps (i + 1) = vZ wy i ps i := by
  funext a b; unfold vZ
  by_cases h : b = i ∧ a < i ∧ a ≠ i
  · rw [if_pos h, if_pos ⟨h.1, by omega, h.2.2⟩]
  · rw [if_neg h, if_neg (fun h2 => h ⟨h2.1, by omega, h2.2.2⟩)]
theorem wyAdd_next (wy : Nat → Nat → List (List Pt)) {i k : Nat} (ps : List Pt) (hk : k ≠ i) : vZ wy i ps (k + 1) = kF (vZ wy i ps k) k i (vZ wy i ps k k i ++ [ps]) := by
  funext a b; unfold vZ kF
  by_cases h : a = k ∧ b = i
  · obtain ⟨rfl, rfl⟩ := h
    rw [if_pos ⟨rfl, by omega, hk⟩, if_pos ⟨rfl, rfl⟩, if_neg (fun h2 => by omega)]
  · rw [if_neg h]
    show _ = (if b = i ∧ a < k ∧ a ≠ i then wy a b ++ [ps] else wy a b)
    by_cases h3 : b = i ∧ a < k ∧ a ≠ i
    · rw [if_pos h3, if_pos ⟨h3.1, by omega, h3.2.2⟩]
    · rw [if_neg h3, if_neg (fun h2 => h3 ⟨h2.1, by omega, h2.2.2⟩)]
theorem app_chg {S S' : Nat → Prop} {w wr wa w4 : World} {v u : Value} {g' wb q : Nat} (hC : Chg S w wr) (hS' : ∀ b, S' b → S b ∨ w.heap.size ≤ b) (hb : Bw wr wa) (hg : wa.grownBy w4 v.ownBlock) (hv : ∀ b, v.ownBlock = some b → S' b) (hwb : S' wb) (hl : v.ownBlock = some g' ∨ g' = wa.heap.size) :
    Chg S w (w4.setCell ⟨wb, q, none⟩ u) ∧ (∀ b, (S' b ∨ b = g') → S b ∨ w.heap.size ≤ b) ∧ ∀ (chb : Nat) (arr : Array Value) (t : TypeId), ¬ S' chb → wr.heap[chb]? = some (.cells arr t (0, 0)) → (w4.setCell ⟨wb, q, none⟩ u).heap[chb]? = some (.cells arr t (0, 0)) ∧ ¬ (S' chb ∨ chb = g') := by
  have hz := hC.size
  have hz2 := hb.size
  refine ⟨?_, fun b h => ?_, fun chb arr t hn hch => ⟨?_, ?_⟩⟩
  · have k1 : Chg S w wa := hC.trans (Chg.bw (S := S) hb) (fun _ h => .inl h)
    have k2 : Chg (fun b => v.ownBlock = some b) wa w4 := ⟨hg.os, hg.tape, hg.output, hg.size, fun i hi hn => hg.block i hi (fun e => hn e.symm)⟩
    exact (k1.trans k2 (fun b h => hS' b (hv b h))).trans (qP w4 wb q u) (fun b h => hS' b (h ▸ hwb))
  · rcases h with h | rfl
    · exact hS' b h
    · rcases hl with hl | hl
      · exact hS' _ (hv _ hl)
      · exact .inr (by omega)
  · have hlt := (Array.getElem?_eq_some_iff.1 hch).1
    refine (Below.heap_setCell w4 ⟨wb, q, none⟩ u chb (fun e => hn (e ▸ hwb))).trans ((hg.block chb (by omega) (fun e => hn (hv _ e.symm))).trans ((Below.block hb _ hlt).trans hch))
  · have hlt := (Array.getElem?_eq_some_iff.1 hch).1
    rintro (h | rfl)
    · exact hn h
    · rcases hl with hl | hl
      · exact hn (hv _ hl)
      · omega
theorem pmake_any {S : Nat → Prop} {pb : Nat} {x : PX} {ns : List Nd} {R W : Nat} {D : Nat → Nat → Int} {st : PSt} (i : Nat) (ps : List Pt) (pa : Option Addr) (pc : Nat) (w : World) (hO : POwn w S pb x ns R W D st) (hi : i < W) (hps : CellsAt w pa ps.length (qR ps)) (hok : ∀ j, j < ps.length → PtOk 8 4 (jN ps j)) (hl : ps.length ≤ 1000) (hlim : ∀ a b, (st.wy a b).length + 1 ≤ 100000000) :
    Calls Tryz.prog 89 #[.pointer (some ⟨pb, 0, none⟩), .int .i64 (i : Int), .slice pa ps.length pc] w fun e w' => e = .returned (.tuple #[]) ∧ POwn.After w w' S pb ns R W D { st with tb := upd1 st.tb i (kU 4 (st.tb i) ps ps.length), wy := vZ st.wy i ps W } := by
  have h8 := hO.small
  have HO := qJ hO
  have Hc := qJ (pchangeOf_any ps pa pc w hps hl)
  clear hO hps
  go_enter Tryz.func89, Tryz.ntmps89
  go_wp2_with fail
  refine (qK Hc).mono ?_
  rintro e0 w1 ⟨v1, rfl, hov, hb1⟩
  obtain ⟨va, vc, hve⟩ : ∃ va vc, v1 = .slice va ps.length vc := ⟨_, _, qV hov⟩
  subst hve
  go_wp2_with fail
  obtain ⟨wA, hwA⟩ : ∃ wA, w1.alloc (.cells #[.slice va ps.length vc] 121) = wA := ⟨_, rfl⟩
  obtain ⟨hbA, hchA⟩ : Bw w1 wA ∧ wA.heap[w1.heap.size]? = some (.cells #[.slice va ps.length vc] 121 (0, 0)) := by
    rw [← hwA]; exact ⟨(by repeat first|exact br _|assumption|apply bd|apply bn|apply ba|refine bt ?_ (by assumption)), heap_alloc_new w1 _⟩
  rw [hwA]
  clear hwA
  have hz1 := hb1.size
  have hvlt : ∀ b, Value.ownBlock (.slice va ps.length vc) = some b → w.heap.size ≤ b ∧ b < w1.heap.size := fun b hb => World.ownsRow.lt hov b hb
  obtain ⟨chb, hchb⟩ : ∃ chb, w1.heap.size = chb := ⟨_, rfl⟩
  rw [hchb] at hchA hz1 hvlt
  rw [hchb]
  clear hchb
  have hBA : Bw w wA := hb1.trans hbA
  have hOA := (qK HO).bw hBA
  have hnS : ¬ S chb := fun h => by have := (qK HO).slt _ h; omega
  have c3 := qQ (o := 3) hOA.root hOA.r3
  have lt0 := hOA.slt _ hOA.sroot
  have lt1 := hOA.slt _ hOA.swork
  have ch0 := qQ (o := 0) hchA rfl
  have chl := (Array.getElem?_eq_some_iff.1 hchA).1
  have hi1 : (i : Int) < (W : Int) := by omega
  have Hbel := qJ (fun (w' : World) (h : Bw wA w') => pbelieve_any x.wb (i * 3684 + 3296) 147 x.warr (st.tb i) ps va vc w' (ptsAt_own (hov.bw (hbA.trans h))) hok hl (fun g off e => by
    intro e2
    subst e2
    have h1 := (qK HO).slt _ (qK HO).swork
    have h2 := (World.ownsRow.lt hov x.wb (by rw [e] at *; rfl)).1
    omega) ((hOA.bw h).belIn hi))
  have HOA := qJ hOA
  have HchA := qJ hchA
  clear hOA hchA Hc
  have hnw : ¬ chb = x.wb := fun e => hnS (e ▸ (qK HO).swork)
  go_region_held3 (fun w' => w'.cell? ⟨pb, 3, none⟩ = some (.slice (some ⟨x.wb, 0, none⟩) W x.wc) ∧ w'.cell? ⟨chb, 0, none⟩ = some (.slice va ps.length vc)) (go_keep) ((go_at_call 52; refine ((qK Hbel) _ (by repeat first|exact br _|assumption|apply bd|apply bn|apply ba|refine bt ?_ (by assumption))).mono ?_; rintro e2 w2 ⟨rfl, hb2, hC2⟩; have hO2 := qJ (((qK HOA).bw (show Bw wA wA.drew from (by repeat first|exact br _|assumption|apply bd|apply bn|apply ba|refine bt ?_ (by assumption)))).believed hi hb2 hC2); have hch2 := qJ ((hC2.block chb (by simpa using chl) hnw).trans (qK HchA)); have d3 := qQ (o := 3) (qK hO2).choose_spec.root (qK hO2).choose_spec.r3; have dch0 := qQ (o := 0) (qK hch2) rfl))
  obtain ⟨arr2, hO2⟩ := qK hO2
  have hC02 : Chg S w w2 := (Chg.bw (S := S) (hBA.trans (show Bw wA wA.drew from (by repeat first|exact br _|assumption|apply bd|apply bn|apply ba|refine bt ?_ (by assumption))))).trans hC2 (fun b h => .inl (h ▸ (qK HO).swork))
  have HO2 := qJ hO2
  have lt2 := hO2.slt _ hO2.sroot
  clear hO2
  obtain ⟨st1, hst1⟩ : ∃ st1 : PSt, { st with tb := upd1 st.tb i (kU 4 (st.tb i) ps ps.length) } = st1 := ⟨_, rfl⟩
  rw [hst1] at HO2
  have Hlm : Hid (∀ a b, (st1.wy a b).length + 1 ≤ 100000000) := qJ (by rw [← hst1]; exact hlim)
  have Hgoal : Hid ({ st with tb := upd1 st.tb i (kU 4 (st.tb i) ps ps.length), wy := vZ st.wy i ps W } = { st1 with wy := vZ st1.wy i ps W }) := qJ (by rw [← hst1])
  obtain ⟨S0, hS0⟩ : ∃ S0 : Nat → Prop, S0 = fun b => S b ∨ Value.ownBlock (.slice va ps.length vc) = some b := ⟨_, rfl⟩
  have HP0 : Hid (OwnsIn S0 w2 67 5 (.slice va ps.length vc) ps.length (qR ps)) := qJ ⟨qM (kK (hov.bw (hbA.trans (show Bw wA wA.drew from (by repeat first|exact br _|assumption|apply bd|apply bn|apply ba|refine bt ?_ (by assumption))))) fun b hb => hC2.block b (by have := (hvlt b hb).2; simpa using (by omega : b < wA.heap.size)) (fun e => by have h3 := (qK HO).slt _ (qK HO).swork; have h4 := (hvlt b hb).1; omega)) (Nat.zero_le _), fun b hb => by rw [hS0]; exact .inr hb⟩
  have HO3 := qJ (show POwn w2 S0 pb { x with warr := arr2 } ns R W D { st1 with wy := vZ st1.wy i ps 0 } from by
    rw [wyAdd_zero]
    refine (qK HO2).mono (fun b hb => by rw [hS0]; exact .inl hb) (fun b hb => ?_)
    rw [hS0] at hb
    rcases hb with hb | hb
    · exact (qK HO2).slt b hb
    · have := (hvlt b hb).2; have h5 := hC2.size; have h6 : wA.heap.size ≤ wA.drew.heap.size := by simp
      omega)
  have hnS0 : ¬ S0 chb := by
    rw [hS0]
    rintro (h | h)
    · exact hnS h
    · have := (hvlt chb h).2; omega
  have hS0' : ∀ b, S0 b → S b ∨ w.heap.size ≤ b := by
    rw [hS0]
    rintro b (h | h)
    · exact .inl h
    · exact .inr (hvlt b h).1
  clear hst1 Hbel
  go_wp2_with fail
  go_loopw [25] (fun idx wr => ∃ (k : Nat) (S' : Nat → Prop) (x' : PX), k ≤ W ∧ idx = .int .i64 k ∧ POwn wr S' pb x' ns R W D { st1 with wy := vZ st1.wy i ps k } ∧ OwnsIn S' wr 67 5 (.slice va ps.length vc) ps.length (qR ps) ∧ wr.heap[chb]? = some (.cells #[.slice va ps.length vc] 121 (0, 0)) ∧ Chg S w wr ∧ (∀ b, S' b → S b ∨ w.heap.size ≤ b) ∧ ¬ S' chb) (fun idx _ => W - (intOf idx).toNat)
  case atStart => exact ⟨0, S0, _, Nat.zero_le _, rfl, qK HO3, qK HP0, qK hch2, hC02, hS0', hnS0⟩
  case round =>
    clear hC02 d3 dch0 c3 lt0 lt1 ch0 chl lt2 HO3 HP0 hnS0 hS0'
    obtain ⟨k, S', x', hk, rfl, hOr, hPr, hch, hC, hS', hn'⟩ := hrel
    rename World => wr
    by_cases hlt : k < W
    · have hk1 : (k : Int) < (W : Int) := by omega
      by_cases hki : k = i
      · have hki2 : ((k : Int) != (i : Int)) = false := by simp; omega
        have hki3 : (k == i) = true := by simpa using hki
        subst hki
        have HOr := qJ (show POwn wr S' pb x' ns R W D { st1 with wy := vZ st1.wy k ps (k + 1) } from by rw [wyAdd_self]; exact hOr)
        clear hOr
        go_wp2_with fail
        go_roundw
        case rel => exact ⟨k + 1, S', x', by omega, by go_num, qK HOr, hPr, hch, hC, hS', hn'⟩
        case measure => simp [intOf]; omega
      · have hki2 : ((k : Int) != (i : Int)) = true := by simp; omega
        have hki4 : ¬ (k : Int) = (i : Int) := by omega
        have c3 := qQ (o := 3) hOr.root hOr.r3
        have lt0 := hOr.slt _ hOr.sroot
        have lt1 := hOr.slt _ hOr.swork
        have ch0 := qQ (o := 0) hch rfl
        have chl := (Array.getElem?_eq_some_iff.1 hch).1
        obtain ⟨v, hq, vs, hv, hvS, hvP⟩ := hOr.row.way k i hlt (by omega)
        have hlim' : (vZ st1.wy i ps k k i).length + 1 ≤ 100000000 := by
          unfold vZ
          rw [if_neg (fun h => by omega)]
          exact (qK Hlm) k i
        have Hnx := qJ (wyAdd_next st1.wy ps hki)
        simp only at hv hvP
        obtain ⟨ya, yc, hye⟩ := hv.val
        subst hye
        have hone : ∀ u ∈ vs, Value.oneCell' u = true := by
          intro u hu
          obtain ⟨q, hql, hqe⟩ := List.getElem_of_mem hu
          obtain ⟨u', e', h4⟩ := hvP q (by rw [← hv.1]; exact hql)
          have : u' = u := by rw [List.getElem?_eq_getElem hql, hqe] at e'; exact (Option.some.inj e').symm
          rw [← this, qV h4.1]
          rfl
        have cq := qQ (o := k * 3684 + 3680 + i) hOr.work hq
        have hi4 : (i : Int) < 4 := by omega
        have HOr := qJ hOr
        have HPr := qJ hPr
        have HvP := qJ hvP
        have HvS := qJ hvS
        have Hch := qJ hch
        have Hv := qJ hv
        have Hq := qJ hq
        clear hOr hch hv hq hPr hvP hvS
        go_wp2_with fail
        go_region_law (refine stepO rfl _ _ rfl (.slice ya (vZ st1.wy i ps k k i).length yc) (vZ st1.wy i ps k k i).length vs rfl ((qK Hv).bw (by repeat first|exact br _|assumption|apply bd|apply bn|apply ba|refine bt ?_ (by assumption))) hone _ _ (.slice va ps.length vc) rfl (qQ (qY _ _ (by simp)) rfl) rfl (by omega) ?_; intro g' off cap w4 ho4 hg4 hl4; have Hs := qJ ((qK HOr).sent (ps := ps) hlt (show i < 4 by omega) (show Bw wr _ from (by repeat first|exact br _|assumption|apply bd|apply bn|apply ba|refine bt ?_ (by assumption))) (qK Hq) (qK Hv) (qK HvP) (qK HPr) ho4 hg4 hl4 hlim'); have q7 := qQ (qK Hs).1 (qK Hq); have q7f := qZ (o := k * 3684 + 3680 + i) (qK Hs).1; have q7l := (Array.getElem?_eq_some_iff.1 (qK Hs).1).1)
        all_goals (
          obtain ⟨hw4, hO5⟩ := qK Hs
          have Hx := qJ (app_chg (q := k * 3684 + 3680 + i) (u := .slice (some ⟨g', off, none⟩) ((vZ st1.wy i ps k k i).length + 1) cap) hC hS' (show Bw wr _ from (by repeat first|exact br _|assumption|apply bd|apply bn|apply ba|refine bt ?_ (by assumption))) hg4 (qK HvS) (qK HOr).swork hl4)
          have HP5 := qJ (show OwnsIn (fun b => S' b ∨ b = g') _ 67 5 (.slice va ps.length vc) ps.length (qR ps) from rest_owns (q := k * 3684 + 3680 + i) (v4 := .slice (some ⟨g', off, none⟩) ((vZ st1.wy i ps k k i).length + 1) cap) (qK HOr).work (show Bw wr _ from (by repeat first|exact br _|assumption|apply bd|apply bn|apply ba|refine bt ?_ (by assumption))) hw4 (xN (fun b hb => by obtain ⟨cur, hc⟩ := (qK Hv).blk hb; exact ⟨cur, (Below.block (show Bw wr _ from (by repeat first|exact br _|assumption|apply bd|apply bn|apply ba|refine bt ?_ (by assumption))) b (Array.getElem?_eq_some_iff.1 hc).1).trans hc⟩) hg4 _ (by decide)) (qK HPr) (by decide))
          have HO5 := qJ hO5
          clear hO5 hw4 Hs q7 q7f q7l ho4 hg4 hl4
          go_wp2_with fail
          go_roundw
          case rel =>
            obtain ⟨x1, x2, x3⟩ := qK Hx
            obtain ⟨x4, x5⟩ := x3 chb _ _ hn' (qK Hch)
            exact ⟨k + 1, _, _, by omega, by go_num, by rw [qK Hnx]; exact qK HO5, qK HP5, x4, x1, x2, x5⟩
          case measure => simp [intOf]; omega)
    · have hkW : k = W := by omega
      have HOr := qJ (hkW ▸ hOr)
      have hl1 : decide ((k : Int) < (W : Int)) = false := by simp; omega
      clear hOr hkW
      go_wp2_with fail
      go_end0
      exact ⟨rfl, S', x', by rw [qK Hgoal]; exact qK HOr, hC, hS'⟩
end Go.Proofs.YtfemleimkbjehaaGreat
