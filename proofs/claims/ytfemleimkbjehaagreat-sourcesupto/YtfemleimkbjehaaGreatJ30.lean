import Derived.Test.YtfemleimkbjehaaGreatJ29
namespace Go.Proofs.YtfemleimkbjehaaGreat
set_option linter.unusedVariables false
set_option linter.unusedSimpArgs false
open Go.RowKit

theorem gvCells_snoc' (l : List Gv) (y : Gv) : gvCells (l ++ [y]) = gvCells l ++ y.cells := by simp [gvCells]
set_option maxRecDepth 10000 in
theorem PRow.addWait {w wa w4 : World} {S : Nat → Prop} {warr : Array Value} {L W wb i m g' c : Nat} {st : PSt} {v : Value} {y : Gv} (h : PRow w S warr L W st) (hL : L ≤ 8) (hi : i < W) (hm : m < L) (hwk : w.heap[wb]? = some (.cells warr 147 (0, 0))) (hslt : ∀ b, S b → b < w.heap.size) (hb : Bw w wa) (hq : warr[i * 3684 + 16 + m]? = some v)
    (ho : w4.ownsRow 0 62 3 (.slice (some ⟨g', 0, none⟩) ((st.wt i m).length + 1) c) ((st.wt i m).length + 1) (gvCells (st.wt i m) ++ y.cells)) (hg : wa.grownBy w4 v.ownBlock) (hl : v.ownBlock = some g' ∨ g' = wa.heap.size) (hw4 : w4.heap[wb]? = some (.cells warr 147 (0, 0))) :
    PRow (w4.setCell ⟨wb, i * 3684 + 16 + m, none⟩ (.slice (some ⟨g', 0, none⟩) ((st.wt i m).length + 1) c)) (fun b => S b ∨ b = g') (warr.setIfInBounds (i * 3684 + 16 + m) (.slice (some ⟨g', 0, none⟩) ((st.wt i m).length + 1) c)) L W { st with wt := upd2 st.wt i m (st.wt i m ++ [y]) } := by
  have hqs : i * 3684 + 16 + m < warr.size := (Array.getElem?_eq_some_iff.1 hq).1
  obtain ⟨n1, n2⟩ := h.newInj (n := (st.wt i m).length + 1) (c := c) hslt hb hq (by omega) hl
  refine ⟨by simpa using h.size, fun a b ha hb' => ⟨?_, ?_⟩, fun a b ha hb' => ?_, fun a ha k hk => ?_, fun a j ha hj => ?_, n1, n2⟩
  · rw [Array.getElem?_setIfInBounds_ne (by omega)]; exact (h.src a b ha hb').1
  · rw [Array.getElem?_setIfInBounds_ne (by omega)]; exact (h.src a b ha hb').2
  · by_cases e : a = i ∧ b = m
    · obtain ⟨rfl, rfl⟩ := e
      simp only [upd2_eq]
      refine ⟨_, Array.getElem?_setIfInBounds_self_of_lt hqs, ?_, fun b hb => .inr (by simpa [Value.ownBlock] using hb.symm)⟩
      rw [gvCells_snoc', List.length_append, List.length_singleton]
      exact ownsRow_setT hw4 ho (by decide)
    · obtain ⟨u, eu, hu⟩ := h.wait a b ha hb'
      simp only [upd2_ne _ _ e]
      refine ⟨u, by rw [Array.getElem?_setIfInBounds_ne (by omega)]; exact eu, h.other hwk hslt hb hg hq eu (by omega) (by omega) (by omega) hu (by decide)⟩
  · rw [Array.getElem?_setIfInBounds_ne (by omega)]; exact h.bel a ha k hk
  · obtain ⟨u, k, xs, eu, hu, hk⟩ := h.way a j ha hj
    exact ⟨u, k, xs, by rw [Array.getElem?_setIfInBounds_ne (by omega)]; exact eu, h.other hwk hslt hb hg hq eu (by omega) (by omega) (by omega) hu (by decide), hk⟩
set_option maxRecDepth 10000 in
theorem PRow.addWay {w wa w4 : World} {S : Nat → Prop} {warr : Array Value} {L W wb i j g' c k0 : Nat} {st : PSt} {v : Value} {xs : List Value} (h : PRow w S warr L W st) (hL : L ≤ 8) (hi : i < W) (hj : j < 4) (hwk : w.heap[wb]? = some (.cells warr 147 (0, 0))) (hslt : ∀ b, S b → b < w.heap.size) (hb : Bw w wa) (hq : warr[i * 3684 + 3680 + j]? = some v)
    (ho : w4.ownsRow 0 121 1 (.slice (some ⟨g', 0, none⟩) (k0 + 1) c) (k0 + 1) xs) (hk0 : k0 ≤ st.lim) (hg : wa.grownBy w4 v.ownBlock) (hl : v.ownBlock = some g' ∨ g' = wa.heap.size) (hw4 : w4.heap[wb]? = some (.cells warr 147 (0, 0))) :
    PRow (w4.setCell ⟨wb, i * 3684 + 3680 + j, none⟩ (.slice (some ⟨g', 0, none⟩) (k0 + 1) c)) (fun b => S b ∨ b = g') (warr.setIfInBounds (i * 3684 + 3680 + j) (.slice (some ⟨g', 0, none⟩) (k0 + 1) c)) L W { st with lim := st.lim + 1 } := by
  have hqs : i * 3684 + 3680 + j < warr.size := (Array.getElem?_eq_some_iff.1 hq).1
  obtain ⟨n1, n2⟩ := h.newInj (n := k0 + 1) (c := c) hslt hb hq (by omega) hl
  refine ⟨by simpa using h.size, fun a b ha hb' => ⟨?_, ?_⟩, fun a b ha hb' => ?_, fun a ha k hk => ?_, fun a j' ha hj' => ?_, n1, n2⟩
  · rw [Array.getElem?_setIfInBounds_ne (by omega)]; exact (h.src a b ha hb').1
  · rw [Array.getElem?_setIfInBounds_ne (by omega)]; exact (h.src a b ha hb').2
  · obtain ⟨u, eu, hu⟩ := h.wait a b ha hb'
    exact ⟨u, by rw [Array.getElem?_setIfInBounds_ne (by omega)]; exact eu, h.other hwk hslt hb hg hq eu (by omega) (by omega) (by omega) hu (by decide)⟩
  · rw [Array.getElem?_setIfInBounds_ne (by omega)]; exact h.bel a ha k hk
  · by_cases e : a = i ∧ j' = j
    · obtain ⟨rfl, rfl⟩ := e
      exact ⟨_, k0 + 1, xs, Array.getElem?_setIfInBounds_self_of_lt hqs, ⟨ownsRow_setT hw4 ho (by decide), fun b hb => .inr (by simpa [Value.ownBlock] using hb.symm)⟩, by simp only; omega⟩
    · obtain ⟨u, k, xs', eu, hu, hk⟩ := h.way a j' ha hj'
      exact ⟨u, k, xs', by rw [Array.getElem?_setIfInBounds_ne (by omega)]; exact eu, h.other hwk hslt hb hg hq eu (by omega) (by omega) (by omega) hu (by decide), by simp only; omega⟩

/-- A cell of the workers' row is set, or several. -/
theorem POwn.setRow {w w' : World} {S : Nat → Prop} {pb : Nat} {x : PX} {ns : List Nd} {R W : Nat} {D : Nat → Nat → Int} {st st' : PSt} {arr' : Array Value} (h : POwn w S pb x ns R W D st) (hc : Chg (fun b => b = x.wb) w w') (hw : w'.heap[x.wb]? = some (.cells arr' 147 (0, 0))) (hr : PRow w S arr' ns.length W st') (hg : st'.gv = st.gv) (hf : (∀ i n, (st'.wt i n).length ≤ 1000000) ∧ st'.lim ≤ 1000000) :
    POwn w' S pb { x with warr := arr' } ns R W D st' := by
  have fr : ∀ {b : Nat} {cur : Array Value} {t : TypeId}, w.heap[b]? = some (.cells cur t (0, 0)) → t ≠ 147 → w'.heap[b]? = w.heap[b]? := by
    intro b cur t hb ht
    refine hc.block b (Array.getElem?_eq_some_iff.1 hb).1 ?_
    intro e
    subst e
    rw [h.work] at hb
    simp only [Option.some.injEq, Obj.cells.injEq] at hb
    exact ht hb.2.1.symm
  have frO : ∀ (ty : TypeId) (sz : Nat) (u : Value) (m : Nat) (ys : List Value), ty ≠ 147 → OwnsIn S w ty sz u m ys → OwnsIn S w' ty sz u m ys := by
    intro ty sz u m ys ht ho
    refine ⟨ownsRow_frame ho.1 fun b hbb => ?_, ho.2⟩
    obtain ⟨_, h0 | ⟨g, cap, cur, e1, _, hc', _⟩⟩ := ho.1
    · rw [h0.1] at hbb; simp [Value.ownBlock] at hbb
    · rw [e1] at hbb
      simp only [Value.ownBlock, Option.some.injEq] at hbb
      subst hbb
      exact fr hc' ht
  exact ⟨(fr h.root (by decide)).trans h.root, h.r0, h.r1, h.r2, h.r3, by rw [hg]; exact h.r4, hw, h.sroot, h.swork, fun b hb => Nat.lt_of_lt_of_le (h.slt b hb) hc.size, frO _ _ _ _ _ (by decide) h.nodes, h.dist.map fun ty _ _ _ _ ht ho => frO _ _ _ _ _ (by rcases ht with rfl | rfl <;> decide) ho, hr.map (fun _ h => h) fun ty _ _ _ _ ht ho => frO _ _ _ _ _ (by rcases ht with rfl | rfl <;> decide) ho, h.small, hf⟩
/-- Something was appended to a slice of the workers' row. -/
theorem POwn.appRow {w wa w4 : World} {S : Nat → Prop} {pb q g' n c sz base : Nat} {x : PX} {ns : List Nd} {R W : Nat} {D : Nat → Nat → Int} {st st' : PSt} {v : Value} {ty : TypeId} {xs : List Value} (h : POwn w S pb x ns R W D st) (hb : Bw w wa) (hown : wa.ownsRow base ty sz v n xs) (hg : wa.grownBy w4 v.ownBlock) (hty : ty = 62 ∨ ty = 121) (hlt : g' < w4.heap.size)
    (hr : w4.heap[x.wb]? = some (.cells x.warr 147 (0, 0)) → PRow (w4.setCell ⟨x.wb, q, none⟩ (.slice (some ⟨g', 0, none⟩) (n + 1) c)) (fun b => S b ∨ b = g') (x.warr.setIfInBounds q (.slice (some ⟨g', 0, none⟩) (n + 1) c)) ns.length W st') (hgv : st'.gv = st.gv) (hf : (∀ i n, (st'.wt i n).length ≤ 1000000) ∧ st'.lim ≤ 1000000) :
    POwn (w4.setCell ⟨x.wb, q, none⟩ (.slice (some ⟨g', 0, none⟩) (n + 1) c)) (fun b => S b ∨ b = g') pb { x with warr := x.warr.setIfInBounds q (.slice (some ⟨g', 0, none⟩) (n + 1) c) } ns R W D st' := by
  have ha := h.bw hb
  have hw4 : w4.heap[x.wb]? = some (.cells x.warr 147 (0, 0)) := grown_block hown hg ha.work (.inl (by rcases hty with rfl | rfl <;> decide))
  have hroot := grown_block hown hg ha.root (.inl (by rcases hty with rfl | rfl <;> decide))
  have hne : pb ≠ x.wb := fun e => by have h1 := h.root; rw [e, h.work] at h1; simp at h1
  have frO : ∀ (t : TypeId) (s : Nat) (u : Value) (m : Nat) (ys : List Value), t ≠ ty → t ≠ 147 → OwnsIn S wa t s u m ys → OwnsIn (fun b => S b ∨ b = g') (w4.setCell ⟨x.wb, q, none⟩ (.slice (some ⟨g', 0, none⟩) (n + 1) c)) t s u m ys := fun t s u m ys h1 h2 ho => ((ho.grown hown hg h1).set hw4 h2).mono fun _ h => .inl h
  refine ⟨(Below.heap_setCell w4 ⟨x.wb, q, none⟩ _ pb hne).trans hroot, h.r0, h.r1, h.r2, h.r3, by rw [hgv]; exact h.r4, heap_setCell_at hw4, .inl h.sroot, .inl h.swork, fun b hb' => ?_, ?_, ?_, hr hw4, h.small, hf⟩
  · rw [show (w4.setCell ⟨x.wb, q, none⟩ (.slice (some ⟨g', 0, none⟩) (n + 1) c)).heap.size = w4.heap.size by simp]
    rcases hb' with hb' | rfl
    · exact Nat.lt_of_lt_of_le (ha.slt b hb') hg.size
    · exact hlt
  · exact frO _ _ _ _ _ (by rcases hty with rfl | rfl <;> decide) (by decide) ha.nodes
  · exact ha.dist.map fun t _ _ _ _ ht ho => frO _ _ _ _ _ (by rcases hty with rfl | rfl <;> rcases ht with rfl | rfl <;> decide) (by rcases ht with rfl | rfl <;> decide) ho
end Go.Proofs.YtfemleimkbjehaaGreat
namespace Go.Proofs.YtfemleimkbjehaaGreat
set_option linter.unusedVariables false
set_option linter.unusedSimpArgs false
open Go.RowKit

theorem POwn.limUp {w : World} {S : Nat → Prop} {pb : Nat} {x : PX} {ns : List Nd} {R W : Nat} {D : Nat → Nat → Int} {st : PSt} {l : Nat} (h : POwn w S pb x ns R W D st) (hl : st.lim ≤ l) (hf : l ≤ 1000000) : POwn w S pb x ns R W D { st with lim := l } := by
  obtain ⟨a1, a2, a3, a4, a5, a6, a7, a8, a9, a10, a11, a12, a13, a14, a15⟩ := h
  refine ⟨a1, a2, a3, a4, a5, a6, a7, a8, a9, a10, a11, a12, ⟨a13.size, a13.src, a13.wait, a13.bel, fun i j hi hj => ?_, a13.own, a13.inj⟩, a14, a15.1, hf⟩
  obtain ⟨v, k, xs, e, h1, h2⟩ := a13.way i j hi hj
  exact ⟨v, k, xs, e, h1, by simp only; omega⟩
theorem POwn.belIn {w : World} {S : Nat → Prop} {pb : Nat} {x : PX} {ns : List Nd} {R W : Nat} {D : Nat → Nat → Int} {st : PSt} (h : POwn w S pb x ns R W D st) {i : Nat} (hi : i < W) : BelIn w x.wb (i * 3684 + 3296) 147 x.warr (st.tb i) :=
  ⟨x.warr, h.work, rfl, fun _ _ => rfl, h.row.bel i hi⟩
theorem POwn.believed {w w' : World} {S : Nat → Prop} {pb : Nat} {x : PX} {ns : List Nd} {R W : Nat} {D : Nat → Nat → Int} {st : PSt} {T : Nat → Int} {i : Nat} (h : POwn w S pb x ns R W D st) (hi : i < W) (hb : BelIn w' x.wb (i * 3684 + 3296) 147 x.warr T) (hc : Chg (fun b => b = x.wb) w w') : ∃ arr', POwn w' S pb { x with warr := arr' } ns R W D { st with tb := upd1 st.tb i T } := by
  obtain ⟨arr', h1, h2, h3, h4⟩ := hb
  exact ⟨arr', h.setRow hc h1 (h.row.setBel h.small.1 hi h2 h3 h4) rfl h.few⟩
/-- A change is put on its way. -/
theorem POwn.sent {w wa w4 : World} {S : Nat → Prop} {pb i j g' c k0 : Nat} {x : PX} {ns : List Nd} {R W : Nat} {D : Nat → Nat → Int} {st : PSt} {v : Value} {xs ys : List Value} (h : POwn w S pb x ns R W D st) (hi : i < W) (hj : j < 4) (hb : Bw w wa) (hq : x.warr[i * 3684 + 3680 + j]? = some v) (hown : wa.ownsRow 0 121 1 v k0 xs)
    (ho : w4.ownsRow 0 121 1 (.slice (some ⟨g', 0, none⟩) (k0 + 1) c) (k0 + 1) ys) (hk0 : k0 ≤ st.lim) (hg : wa.grownBy w4 v.ownBlock) (hl : v.ownBlock = some g' ∨ g' = wa.heap.size) (hf : st.lim + 1 ≤ 1000000) :
    w4.heap[x.wb]? = some (.cells x.warr 147 (0, 0)) ∧ POwn (w4.setCell ⟨x.wb, i * 3684 + 3680 + j, none⟩ (.slice (some ⟨g', 0, none⟩) (k0 + 1) c)) (fun b => S b ∨ b = g') pb { x with warr := x.warr.setIfInBounds (i * 3684 + 3680 + j) (.slice (some ⟨g', 0, none⟩) (k0 + 1) c) } ns R W D { st with lim := st.lim + 1 } := by
  refine ⟨grown_block hown hg (h.bw hb).work (.inl (by decide)), ?_⟩
  exact h.appRow hb hown hg (.inr rfl) (World.ownsRow.lt ho g' rfl).2 (fun hw4 => h.row.addWay h.small.1 hi hj h.work h.slt hb hq ho hk0 hg hl hw4) rfl ⟨h.few.1, hf⟩

theorem app_chg {S S' : Nat → Prop} {w wr wa w4 : World} {v u : Value} {g' wb q : Nat} (hC : Chg S w wr) (hS' : ∀ b, S' b → S b ∨ w.heap.size ≤ b) (hb : Bw wr wa) (hg : wa.grownBy w4 v.ownBlock) (hv : ∀ b, v.ownBlock = some b → S' b) (hwb : S' wb) (hl : v.ownBlock = some g' ∨ g' = wa.heap.size) :
    Chg S w (w4.setCell ⟨wb, q, none⟩ u) ∧ (∀ b, (S' b ∨ b = g') → S b ∨ w.heap.size ≤ b) ∧ ∀ (chb : Nat) (arr : Array Value) (t : TypeId), ¬ S' chb → wr.heap[chb]? = some (.cells arr t (0, 0)) → (w4.setCell ⟨wb, q, none⟩ u).heap[chb]? = some (.cells arr t (0, 0)) ∧ ¬ (S' chb ∨ chb = g') := by
  have hz := hC.size
  have hz2 := hb.size
  refine ⟨?_, fun b h => ?_, fun chb arr t hn hch => ⟨?_, ?_⟩⟩
  · have k1 : Chg S w wa := hC.trans (Chg.bw (S := S) hb) (fun _ h => .inl h)
    have k2 : Chg (fun b => v.ownBlock = some b) wa w4 := ⟨hg.os, hg.tape, hg.output, hg.size, fun i hi hn => hg.block i hi (fun e => hn e.symm)⟩
    exact (k1.trans k2 (fun b h => hS' b (hv b h))).trans (chg_set w4 wb q u) (fun b h => hS' b (h ▸ hwb))
  · rcases h with h | rfl
    · exact hS' b h
    · rcases hl with hl | hl
      · exact hS' _ (hv _ hl)
      · exact .inr (by omega)
  · have hlt := (Array.getElem?_eq_some_iff.1 hch).1
    refine (Below.heap_setCell w4 ⟨wb, q, none⟩ u chb (fun e => hn (e ▸ hwb))).trans ((hg.block chb (by omega) (fun e => hn (hv _ e.symm))).trans ((Below.block hb _ hlt).trans hch))
  · have hlt := (Array.getElem?_eq_some_iff.1 hch).1
    rintro (h | rfl)
    · exact hn h
    · rcases hl with hl | hl
      · exact hn (hv _ hl)
      · omega

set_option maxRecDepth 100000 in
set_option maxHeartbeats 4000000 in
theorem pmake_any {S : Nat → Prop} {pb : Nat} {x : PX} {ns : List Nd} {R W : Nat} {D : Nat → Nat → Int} {st : PSt} (i : Nat) (ps : List Pt) (pa : Option Addr) (pc : Nat) (w : World) (hO : POwn w S pb x ns R W D st) (hi : i < W) (hps : CellsAt w pa ps.length (ptsCells ps)) (hok : ∀ j, j < ps.length → PtOk 8 4 (ptn ps j)) (hl : ps.length ≤ 1000) (hlim : st.lim + 4 ≤ 1000000) :
    Calls Tryz.prog 89 #[.pointer (some ⟨pb, 0, none⟩), .int .i64 (i : Int), .slice pa ps.length pc] w fun e w' => e = .returned (.tuple #[]) ∧ POwn.After w w' S pb ns R W D { st with tb := upd1 st.tb i (tabPts 4 (st.tb i) ps ps.length), lim := st.lim + W } := by
  have h8 := hO.small
  have HO := hide hO
  have Hc := hide (pchangeOf_any ps pa pc w hps hl)
  clear hO hps
  go_enter Tryz.func89, Tryz.ntmps89
  go_wp2_with fail
  refine (unhide Hc).mono ?_
  rintro e0 w1 ⟨v1, rfl, hov, hb1⟩
  obtain ⟨va, vc, hve⟩ : ∃ va vc, v1 = .slice va ps.length vc := ⟨_, _, ownsRow_val hov⟩
  subst hve
  go_wp2_with fail
  obtain ⟨wA, hwA⟩ : ∃ wA, w1.alloc (.cells #[.slice va ps.length vc] 121) = wA := ⟨_, rfl⟩
  obtain ⟨hbA, hchA⟩ : Bw w1 wA ∧ wA.heap[w1.heap.size]? = some (.cells #[.slice va ps.length vc] 121 (0, 0)) := by
    rw [← hwA]; exact ⟨(by repeat (first | exact Bw.refl _ | assumption | refine Bw.drew ?_ | refine Bw.drewN ?_ _ | refine Bw.alloc ?_ _ | refine Bw.trans ?_ (by assumption))), heap_alloc_new w1 _⟩
  rw [hwA]
  clear hwA
  have hz1 := hb1.size
  obtain ⟨chb, hchb⟩ : ∃ chb, w1.heap.size = chb := ⟨_, rfl⟩
  rw [hchb] at hchA hz1
  rw [hchb]
  clear hchb
  have hBA : Bw w wA := hb1.trans hbA
  have hOA := (unhide HO).bw hBA
  have hnS : ¬ S chb := fun h => by have := (unhide HO).slt _ h; omega
  have c3 := cell_of_block (o := 3) hOA.root hOA.r3
  have lt0 := hOA.slt _ hOA.sroot
  have lt1 := hOA.slt _ hOA.swork
  have ch0 := cell_of_block (o := 0) hchA rfl
  have chl := (Array.getElem?_eq_some_iff.1 hchA).1
  have hi1 : (i : Int) < (W : Int) := by omega
  have Hbel := hide (fun (w' : World) (h : Bw wA w') => pbelieve_any x.wb (i * 3684 + 3296) 147 x.warr (st.tb i) ps va vc w' (ptsAt_own (hov.bw (hbA.trans h))) hok hl (fun g off e => by
    intro e2
    subst e2
    have h1 := (unhide HO).slt _ (unhide HO).swork
    have h2 := (World.ownsRow.lt hov x.wb (by rw [e] at *; rfl)).1
    omega) ((hOA.bw h).belIn hi))
  have HOA := hide hOA
  have HchA := hide hchA
  clear hOA hchA Hc
  have hnw : ¬ chb = x.wb := fun e => hnS (e ▸ (unhide HO).swork)
  go_region_held3 (fun w' => w'.cell? ⟨pb, 3, none⟩ = some (.slice (some ⟨x.wb, 0, none⟩) W x.wc) ∧ w'.cell? ⟨chb, 0, none⟩ = some (.slice va ps.length vc)) (go_keep) ((go_at_call 52; refine ((unhide Hbel) _ (by repeat (first | exact Bw.refl _ | assumption | refine Bw.drew ?_ | refine Bw.drewN ?_ _ | refine Bw.alloc ?_ _ | refine Bw.trans ?_ (by assumption)))).mono ?_; rintro e2 w2 ⟨rfl, hb2, hC2⟩; have hO2 := hide (((unhide HOA).bw (show Bw wA wA.drew from (by repeat (first | exact Bw.refl _ | assumption | refine Bw.drew ?_ | refine Bw.drewN ?_ _ | refine Bw.alloc ?_ _ | refine Bw.trans ?_ (by assumption))))).believed hi hb2 hC2); have hch2 := hide ((hC2.block chb (by simpa using chl) hnw).trans (unhide HchA)); have d3 := cell_of_block (o := 3) (unhide hO2).choose_spec.root (unhide hO2).choose_spec.r3; have dch0 := cell_of_block (o := 0) (unhide hch2) rfl))
  obtain ⟨arr2, hO2⟩ := unhide hO2
  have hC02 : Chg S w w2 := (Chg.bw (S := S) (hBA.trans (show Bw wA wA.drew from (by repeat (first | exact Bw.refl _ | assumption | refine Bw.drew ?_ | refine Bw.drewN ?_ _ | refine Bw.alloc ?_ _ | refine Bw.trans ?_ (by assumption)))))).trans hC2 (fun b h => .inl (h ▸ (unhide HO).swork))
  have HO2 := hide hO2
  have lt2 := hO2.slt _ hO2.sroot
  clear hO2
  obtain ⟨st1, hst1⟩ : ∃ st1 : PSt, { st with tb := upd1 st.tb i (tabPts 4 (st.tb i) ps ps.length) } = st1 := ⟨_, rfl⟩
  rw [hst1] at HO2
  have Hlm : Hid (st1.lim = st.lim) := hide (by rw [← hst1])
  have Hgoal : Hid ({ st with tb := upd1 st.tb i (tabPts 4 (st.tb i) ps ps.length), lim := st.lim + W } = { st1 with lim := st1.lim + W }) := hide (by rw [← hst1])
  clear hst1 Hbel
  go_wp2_with fail
  go_loopw [25] (fun idx wr => ∃ (k : Nat) (S' : Nat → Prop) (x' : PX), k ≤ W ∧ idx = .int .i64 k ∧ POwn wr S' pb x' ns R W D { st1 with lim := st1.lim + k } ∧ wr.heap[chb]? = some (.cells #[.slice va ps.length vc] 121 (0, 0)) ∧ Chg S w wr ∧ (∀ b, S' b → S b ∨ w.heap.size ≤ b) ∧ ¬ S' chb) (fun idx _ => W - (intOf idx).toNat)
  case atStart => exact ⟨0, S, _, Nat.zero_le _, rfl, unhide HO2, unhide hch2, hC02, fun _ h => .inl h, hnS⟩
  case round =>
    clear hC02 d3 dch0 c3 lt0 lt1 ch0 chl lt2
    obtain ⟨k, S', x', hk, rfl, hOr, hch, hC, hS', hn'⟩ := hrel
    rename World => wr
    by_cases hlt : k < W
    · have hlim' : st1.lim + k + 1 ≤ 1000000 := by have := unhide Hlm; omega
      have hk1 : (k : Int) < (W : Int) := by omega
      by_cases hki : k = i
      · have hki2 : ((k : Int) != (i : Int)) = false := by simp; omega
        have HOr := hide (hOr.limUp (l := st1.lim + (k + 1)) (by simp only; omega) (by omega))
        clear hOr
        have hki3 : (k == i) = true := by simpa using hki
        subst hki
        go_wp2_with fail
        go_roundw
        case rel => exact ⟨k + 1, S', x', by omega, by go_num, unhide HOr, hch, hC, hS', hn'⟩
        case measure => simp [intOf]; omega
      · have hki2 : ((k : Int) != (i : Int)) = true := by simp; omega
        have hki4 : ¬ (k : Int) = (i : Int) := by omega
        have c3 := cell_of_block (o := 3) hOr.root hOr.r3
        have lt0 := hOr.slt _ hOr.sroot
        have lt1 := hOr.slt _ hOr.swork
        have ch0 := cell_of_block (o := 0) hch rfl
        have chl := (Array.getElem?_eq_some_iff.1 hch).1
        obtain ⟨v, k0, xs, hq, hv, hk0⟩ := hOr.row.way k i hlt (by omega)
        obtain ⟨ya, yc, hye⟩ : ∃ ya yc, v = .slice ya k0 yc := ⟨_, _, ownsRow_val hv.1⟩
        subst hye
        have cq := cell_of_block (o := k * 3684 + 3680 + i) hOr.work hq
        have hi4 : (i : Int) < 4 := by omega
        simp only at hk0
        have HOr := hide hOr
        have Hch := hide hch
        have Hv := hide hv
        have Hq := hide hq
        clear hOr hch hv hq
        go_wp2_with fail
        go_region_law (refine stepL rfl _ _ _ 121 rfl _ 1 24 Tryz.infoChangeP Tryz.underlying144 rfl (by decide) 0 (.slice ya k0 yc) k0 xs rfl (ownsRow_bw (unhide Hv).1 fun g hg => Below.block (show Bw wr _ from (by repeat (first | exact Bw.refl _ | assumption | refine Bw.drew ?_ | refine Bw.drewN ?_ _ | refine Bw.alloc ?_ _ | refine Bw.trans ?_ (by assumption)))) g hg) _ _ [.slice va ps.length vc] rfl rfl (cells1 (cell_of_block (alloc_at _ _ (by simp)) rfl)) (by simp [Value.oneCell']) (by omega) (by omega) (Nat.zero_le _) ?_; intro g' cap w4 ho4 hg4 hl4; have Hs := hide ((unhide HOr).sent hlt (show i < 4 by omega) (show Bw wr _ from (by repeat (first | exact Bw.refl _ | assumption | refine Bw.drew ?_ | refine Bw.drewN ?_ _ | refine Bw.alloc ?_ _ | refine Bw.trans ?_ (by assumption)))) (unhide Hq) (ownsRow_bw (unhide Hv).1 fun g hg => Below.block (show Bw wr _ from (by repeat (first | exact Bw.refl _ | assumption | refine Bw.drew ?_ | refine Bw.drewN ?_ _ | refine Bw.alloc ?_ _ | refine Bw.trans ?_ (by assumption)))) g hg) ho4 hk0 hg4 hl4 hlim'); have q7 := cell_of_block (unhide Hs).1 (unhide Hq); have q7f := frozen_of_block (o := k * 3684 + 3680 + i) (unhide Hs).1; have q7l := (Array.getElem?_eq_some_iff.1 (unhide Hs).1).1)
        all_goals (
          obtain ⟨hw4, hO5⟩ := unhide Hs
          have Hx := hide (app_chg (q := k * 3684 + 3680 + i) (u := .slice (some ⟨g', 0, none⟩) (k0 + 1) cap) hC hS' (show Bw wr _ from (by repeat (first | exact Bw.refl _ | assumption | refine Bw.drew ?_ | refine Bw.drewN ?_ _ | refine Bw.alloc ?_ _ | refine Bw.trans ?_ (by assumption)))) hg4 (unhide Hv).2 (unhide HOr).swork hl4)
          have HO5 := hide hO5
          clear hO5 hw4 Hs q7 q7f q7l ho4 hg4 hl4
          go_wp2_with fail
          go_roundw
          case rel =>
            obtain ⟨x1, x2, x3⟩ := unhide Hx
            obtain ⟨x4, x5⟩ := x3 chb _ _ hn' (unhide Hch)
            exact ⟨k + 1, _, _, by omega, by go_num, unhide HO5, x4, x1, x2, x5⟩
          case measure => simp [intOf]; omega)
    · have hkW : k = W := by omega
      have HOr := hide (hkW ▸ hOr)
      have hl1 : decide ((k : Int) < (W : Int)) = false := by simp; omega
      clear hOr hkW
      go_wp2_with fail
      go_end0
      exact ⟨rfl, S', x', by rw [unhide Hgoal]; exact unhide HOr, hC, hS'⟩
end Go.Proofs.YtfemleimkbjehaaGreat
