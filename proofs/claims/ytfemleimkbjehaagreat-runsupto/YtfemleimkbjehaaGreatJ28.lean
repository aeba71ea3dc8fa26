import Derived.Test.YtfemleimkbjehaaGreatJ25
import Derived.Test.YtfemleimkbjehaaGreatRunO
import Derived.Test.YtfemleimkbjehaaGreatJ16
import Derived.Test.YtfemleimkbjehaaGreatJ9
import Derived.Test.YtfemleimkbjehaaGreatJ27
set_option maxRecDepth 1000000
set_option maxHeartbeats 40000000
set_option linter.unusedVariables false
set_option linter.unusedSimpArgs false
namespace Go.Proofs.YtfemleimkbjehaaGreat
open Go.RowKit
theorem yL {w : World} {base n sz cap g p : Nat} {ty : TypeId} {xs : List Value} {u : Value} (h : w.ownsRow base ty sz (.slice (some ⟨g, 0, none⟩) n cap) n xs) (hp : p < xs.length) : (w.setCell ⟨g, p, none⟩ u).ownsRow base ty sz (.slice (some ⟨g, 0, none⟩) n cap) n (xs.set p u) := by
  obtain ⟨hl, h⟩ := h
  refine ⟨by rw [List.length_set]; exact hl, ?_⟩
  rcases h with ⟨h, _⟩ | ⟨g', cap', cur, e1, hb, hc, h1, h2, h3, h4⟩
  · simp at h
  · simp only [Value.slice.injEq, Option.some.injEq, Addr.mk.injEq] at e1
    obtain ⟨⟨rfl, _⟩, _, rfl⟩ := e1
    refine .inr ⟨g, cap, _, rfl, hb, qU hc, h1, h2, by simpa using h3, ?_⟩
    rw [Array.toList_setIfInBounds, List.take_set, h4]
theorem ownsRow_uniq {w : World} {base base' n sz : Nat} {ty ty' : TypeId} {v : Value} {xs ys : List Value} (h : w.ownsRow base ty sz v n xs) (h' : w.ownsRow base' ty' sz v n ys) : xs = ys := by
  obtain ⟨hl, h⟩ := h
  obtain ⟨hl', h'⟩ := h'
  rcases h with ⟨e, h0⟩ | ⟨g, cap, cur, e1, _, hc, _, _, _, h4⟩
  · subst h0
    rw [Nat.zero_mul, List.length_eq_zero_iff] at hl hl'
    rw [hl, hl']
  · rcases h' with ⟨e, h0⟩ | ⟨g', cap', cur', e1', _, hc', _, _, _, h4'⟩
    · subst h0
      rw [Nat.zero_mul, List.length_eq_zero_iff] at hl hl'
      rw [hl, hl']
    · rw [e1] at e1'
      simp only [Value.slice.injEq, Option.some.injEq, Addr.mk.injEq] at e1'
      obtain ⟨⟨rfl, _⟩, _, _⟩ := e1'
      rw [hc] at hc'
      simp only [Option.some.injEq, Obj.cells.injEq] at hc'
      rw [← h4, ← h4', hc'.1]
def jP (ms : List Ml) (z : Nat) : List Ml := ms.set z { xX ms z with gone := true }
theorem mlsCells_gone : ∀ (ms : List Ml) (z : Nat), z < ms.length → jS (jP ms z) = (jS ms).set (z * 6 + 5) (.bool true) := by
  intro ms
  induction ms with
  | nil => intro z hz; simp at hz
  | cons a ms ih =>
    intro z hz
    cases z with
    | zero => simp [jP, jS, xX, Ml.cells]
    | succ z =>
      have h1 := ih z (by simpa using hz)
      have e : jP (a :: ms) (z + 1) = a :: jP ms z := by simp [jP, xX]
      rw [e]
      have e2 : jS (a :: jP ms z) = a.cells ++ jS (jP ms z) := by simp [jS]
      have e3 : jS (a :: ms) = a.cells ++ jS ms := by simp [jS]
      have hl : a.cells.length = 6 := rfl
      rw [e2, e3, h1, List.set_append_right _ _ (by rw [hl]; omega), hl, show (z + 1) * 6 + 5 - 6 = z * 6 + 5 by omega]
theorem xB (ms : List Ml) (z : Nat) : (jP ms z).length = ms.length := by simp [jP]
theorem ROwn.setGone {w : World} {S : Nat → Prop} {rb : Nat} {x : RX} {ns : List Nd} {R W z : Nat} {D : Nat → Nat → Int} {st : RSt} (h : ROwn w S rb x ns R W D st) (hz : z < st.mails.length) :
    ∃ g c cur, x.m = .slice (some ⟨g, 0, none⟩) st.mails.length c ∧ S g ∧ w.heap[g]? = some (.cells cur 108 (0, 0)) ∧ ROwn (w.setCell ⟨g, z * 6 + 5, none⟩ (.bool true)) S rb x ns R W D { st with mails := jP st.mails z } := by
  obtain ⟨hl, h0 | ⟨g, c, cur, e1, _, hc, _⟩⟩ := id h.mails.1
  · omega
  · have hS : S g := h.mails.2 g (by rw [e1]; rfl)
    have hmr := h.mails
    rw [e1] at hmr
    have hne : rb ≠ g := fun e => by have h1 := h.root; rw [e, hc] at h1; simp at h1
    have tr : ∀ (ty : TypeId) (sz : Nat) (u : Value) (m : Nat) (ys : List Value), ty ≠ 108 → OwnsIn S w ty sz u m ys → OwnsIn S (w.setCell ⟨g, z * 6 + 5, none⟩ (.bool true)) ty sz u m ys := fun ty sz u m ys a ho => ho.set hc a
    refine ⟨g, c, cur, e1, hS, hc, ⟨(Below.heap_setCell w ⟨g, z * 6 + 5, none⟩ _ rb hne).trans h.root, h.sroot, fun b hb => by simpa using h.slt b hb, tr _ _ _ _ _ (by decide) h.nodes, ?_, h.log.map fun ty _ _ _ _ ht ho => tr _ _ _ _ _ (by rcases ht with rfl | rfl <;> decide) ho, tr _ _ _ _ _ (by decide) h.evs, tr _ _ _ _ _ (by decide) h.opened, h.told.map fun ty _ _ _ _ ht ho => tr _ _ _ _ _ (by rcases ht with rfl | rfl <;> decide) ho, h.dist.map fun ty _ _ _ _ ht ho => tr _ _ _ _ _ (by rcases ht with rfl | rfl <;> decide) ho, h.small, ⟨h.few.1, by simpa [xB] using h.few.2.1, h.few.2.2⟩, tr _ _ _ _ _ (by decide) h.trow, tr _ _ _ _ _ (by decide) h.drow, h.tsep⟩⟩
    refine ⟨?_, h.mails.2⟩
    simp only [xB]
    rw [mlsCells_gone _ _ hz, e1]
    exact yL hmr.1 (by rw [hmr.1.1]; omega)
def jH (f : Nat → Nat → Int) (a b : Nat) : Nat → Nat → Int := fun i j => if i = a ∧ j = b then f a b + 1 else f i j
theorem ROwn.setTold {w : World} {S : Nat → Prop} {rb : Nat} {x : RX} {ns : List Nd} {R W a b : Nat} {D : Nat → Nat → Int} {st : RSt} (h : ROwn w S rb x ns R W D st) (ha : a < W) (hb : b < W) :
    ∃ g c cur, x.ts[a]? = some (.slice (some ⟨g, 0, none⟩) W c) ∧ S g ∧ w.heap[g]? = some (.cells cur 3 (0, 0)) ∧ ROwn (w.setCell ⟨g, b, none⟩ (.int .i64 (st.told a b + 1))) S rb x ns R W D { st with told := jH st.told a b } := by
  obtain ⟨vs, h1, h2⟩ := id h.told
  have hvs := ownsRow_uniq h1.1 h.trow.1
  subst hvs
  obtain ⟨us, k1, k2⟩ := id h.dist
  have hus := ownsRow_uniq k1.1 h.drow.1
  subst hus
  obtain ⟨u, eu, hu⟩ := h2 a ha
  obtain ⟨hl, h0 | ⟨g, c, cur, e1, _, hc, _⟩⟩ := id hu.1
  · omega
  · have hS : S g := hu.2 g (by rw [e1]; rfl)
    rw [e1] at eu hu
    have hne : rb ≠ g := fun e => by have h1 := h.root; rw [e, hc] at h1; simp at h1
    have tr : ∀ (ty : TypeId) (sz : Nat) (u : Value) (m : Nat) (ys : List Value), ty ≠ 3 → OwnsIn S w ty sz u m ys → OwnsIn S (w.setCell ⟨g, b, none⟩ (.int .i64 (st.told a b + 1))) ty sz u m ys := fun ty sz u m ys a ho => ho.set hc a
    have far : ∀ (sz : Nat) (u : Value) (m : Nat) (ys : List Value), Value.ownBlock u ≠ some g → OwnsIn S w 3 sz u m ys → OwnsIn S (w.setCell ⟨g, b, none⟩ (.int .i64 (st.told a b + 1))) 3 sz u m ys := fun sz u m ys hg ho => ⟨kK ho.1 fun b' hb' => Below.heap_setCell w ⟨g, b, none⟩ _ b' (fun e => hg (hb'.trans (congrArg some e))), ho.2⟩
    refine ⟨g, c, cur, eu, hS, hc, ⟨(Below.heap_setCell w ⟨g, b, none⟩ _ rb hne).trans h.root, h.sroot, fun b hb => by simpa using h.slt b hb, tr _ _ _ _ _ (by decide) h.nodes, tr _ _ _ _ _ (by decide) h.mails, h.log.map fun ty _ _ _ _ ht ho => tr _ _ _ _ _ (by rcases ht with rfl | rfl <;> decide) ho, tr _ _ _ _ _ (by decide) h.evs, tr _ _ _ _ _ (by decide) h.opened, ⟨x.ts, tr _ _ _ _ _ (by decide) h1, fun i hi => ?_⟩, ⟨x.ds, tr _ _ _ _ _ (by decide) k1, fun i hi => ?_⟩, h.small, h.few, tr _ _ _ _ _ (by decide) h.trow, tr _ _ _ _ _ (by decide) h.drow, h.tsep⟩⟩
    · by_cases e : i = a
      · subst e
        refine ⟨_, eu, ?_, hu.2⟩
        have e2 : ((List.range W).map fun j => Value.int .i64 (jH st.told i b i j)) = ((List.range W).map fun j => Value.int .i64 (st.told i j)).set b (.int .i64 (st.told i b + 1)) := by
          apply List.ext_getElem?
          intro j
          rw [List.getElem?_set]
          by_cases hj : j < W
          · by_cases ej : b = j
            · subst ej; simp [jH, hb]
            · simp [jH, hj, ej, Ne.symm ej]
          · simp [hj]
            intro e; subst e; omega
        show World.ownsRow _ _ _ _ _ _ ((List.range W).map fun j => Value.int .i64 (jH st.told i b i j))
        rw [e2]
        exact yL hu.1 (by simpa using hb)
      · obtain ⟨u', eu', hu'⟩ := h2 i hi
        refine ⟨u', eu', ?_⟩
        have e2 : ((List.range W).map fun j => Value.int .i64 (jH st.told a b i j)) = ((List.range W).map fun j => Value.int .i64 (st.told i j)) := by
          apply List.map_congr_left
          intro j _
          simp [jH, e]
        show OwnsIn _ _ _ _ _ _ ((List.range W).map fun j => Value.int .i64 (jH st.told a b i j))
        rw [e2]
        exact far _ _ _ _ (fun hg => e (h.tsep.1 i a u' _ g eu' eu hg rfl)) hu'
    · obtain ⟨u', eu', hu'⟩ := k2 i hi
      exact ⟨u', eu', far _ _ _ _ (h.tsep.2 a i _ u' g eu eu' rfl) hu'⟩
theorem ROwn.addEvs {w w' : World} {S : Nat → Prop} {rb g' cap : Nat} {x : RX} {ns : List Nd} {R W : Nat} {D : Nat → Nat → Int} {st : RSt} {y : Ev} (h : ROwn w S rb x ns R W D st)
    (h2 : w'.ownsRow 0 110 7 (.slice (some ⟨g', 0, none⟩) (st.evs.length + 1) cap) (st.evs.length + 1) (kH st.evs ++ y.cells)) (hg : w.grownBy w' x.e.ownBlock) (hlen : st.evs.length + 1 ≤ 100000000) :
    ROwn (w'.setCell ⟨rb, 5, none⟩ (.slice (some ⟨g', 0, none⟩) (st.evs.length + 1) cap)) (fun b => S b ∨ b = g') rb { x with e := .slice (some ⟨g', 0, none⟩) (st.evs.length + 1) cap } ns R W D { st with evs := st.evs ++ [y] } := by
  have tr := trans_add (S := S) (k := 5) (g' := g') (v' := .slice (some ⟨g', 0, none⟩) (st.evs.length + 1) cap) h.root h.evs.1 hg (by decide)
  have hr := qW h.evs.1 hg h.root (.inl (by decide))
  refine ⟨?_, .inl h.sroot, ?_, tr _ _ _ _ _ (by decide) (by decide) h.nodes, tr _ _ _ _ _ (by decide) (by decide) h.mails, h.log.map fun ty sz u m ys hty ho => tr ty sz u m ys (by rcases hty with rfl | rfl <;> decide) (by rcases hty with rfl | rfl <;> decide) ho, ?_, tr _ _ _ _ _ (by decide) (by decide) h.opened, h.told.map fun ty sz u m ys hty ho => tr ty sz u m ys (by rcases hty with rfl | rfl <;> decide) (by rcases hty with rfl | rfl <;> decide) ho, h.dist.map fun ty sz u m ys hty ho => tr ty sz u m ys (by rcases hty with rfl | rfl <;> decide) (by rcases hty with rfl | rfl <;> decide) ho, h.small, ⟨h.few.1, h.few.2.1, h.few.2.2.1, by simpa using hlen⟩, tr _ _ _ _ _ (by decide) (by decide) h.trow, tr _ _ _ _ _ (by decide) (by decide) h.drow, h.tsep⟩
  · rw [setCell_eq_setRow w' rb 5 _ 83 (0, 0) _ hr]
    exact setRow_heap w' rb _ _ _ _ hr
  · intro b hb
    rcases hb with hb | rfl
    · have := h.slt b hb; have := hg.size; simp; omega
    · have := (World.ownsRow.lt h2 b rfl).2; simpa using this
  · refine ⟨?_, fun b hb => .inr (by simpa [Value.ownBlock] using hb.symm)⟩
    show World.ownsRow _ 0 _ 7 _ (st.evs ++ [y]).length _
    rw [evCells_snoc, List.length_append]
    exact qN hr h2 (by decide)
theorem POwn.reMsg {w w' : World} {S : Nat → Prop} {pb : Nat} {x : PX} {ns : List Nd} {R W i n g c : Nat} {D : Nat → Nat → Int} {st : PSt} {ms' : List Gv} (h : POwn w S pb x ns R W D st) (hi : i < W) (hn : n < ns.length) (hq : x.warr[i * 3684 + 16 + n]? = some (.slice (some ⟨g, 0, none⟩) (st.wt i n).length c)) (hc : Chg (fun b => b = g) w w') (hl : ms'.length = (st.wt i n).length)
    (ho : w'.ownsRow 0 62 3 (.slice (some ⟨g, 0, none⟩) (st.wt i n).length c) (st.wt i n).length (qH ms')) : POwn w' S pb x ns R W D { st with wt := kF st.wt i n ms' } := by
  have h8 := h.small
  obtain ⟨v0, e0, hv0⟩ := h.row.wait i n hi hn
  rw [hq] at e0
  simp only [Option.some.injEq] at e0
  subst e0
  obtain ⟨cg, hcg⟩ := jZ hv0.1 (b := g) rfl
  have fr : ∀ {b : Nat} {cur : Array Value} {t : TypeId}, w.heap[b]? = some (.cells cur t (0, 0)) → t ≠ 62 → w'.heap[b]? = w.heap[b]? := by
    intro b cur t hb ht
    refine hc.block b (Array.getElem?_eq_some_iff.1 hb).1 (fun e => ?_)
    subst e
    rw [hcg] at hb
    simp only [Option.some.injEq, Obj.cells.injEq] at hb
    exact ht hb.2.1.symm
  have frO : ∀ (ty : TypeId) (sz : Nat) (u : Value) (m : Nat) (ys : List Value), ty ≠ 62 → OwnsIn S w ty sz u m ys → OwnsIn S w' ty sz u m ys := by
    intro ty sz u m ys ht ho
    refine ⟨kK ho.1 fun b hbb => ?_, ho.2⟩
    obtain ⟨cur, hc'⟩ := jZ ho.1 hbb
    exact fr hc' ht
  have frM : ∀ (p : Nat) (u : Value) (m : Nat) (ys : List Value), p < W * 3684 → p ≠ i * 3684 + 16 + n → x.warr[p]? = some u → OwnsIn S w 62 3 u m ys → OwnsIn S w' 62 3 u m ys := by
    intro p u m ys hp hpne hpu ho
    refine ⟨kK ho.1 fun b hbb => ?_, ho.2⟩
    obtain ⟨cur, hc'⟩ := jZ ho.1 hbb
    refine hc.block b (Array.getElem?_eq_some_iff.1 hc').1 (fun e => hpne (h.row.inj p _ b u _ hp (by omega) hpu hq hbb (by rw [e]; rfl)))
  refine ⟨(fr h.root (by decide)).trans h.root, h.r0, h.r1, h.r2, h.r3, h.r4, h.r5, (fr h.work (by decide)).trans h.work, h.sroot, h.swork, fun b hb => Nat.lt_of_lt_of_le (h.slt b hb) hc.size, frO _ _ _ _ _ (by decide) h.nodes, h.dist.map fun ty _ _ _ _ ht ho => frO _ _ _ _ _ (by rcases ht with rfl | rfl <;> decide) ho, frO _ _ _ _ _ (by decide) h.recs, ⟨h.row.size, h.row.src, fun a b ha hb => ?_, fun a b ha hb => ?_, h.row.tal, h.row.bel, fun a j ha hj => ?_, h.row.own, h.row.inj⟩, h.small, ⟨fun a b => ⟨?_, (h.few.1 a b).2⟩, h.few.2⟩⟩
  · by_cases e : a = i ∧ b = n
    · obtain ⟨rfl, rfl⟩ := e
      simp only [yF]
      exact ⟨_, hq, by rw [hl]; exact ho, hv0.2⟩
    · simp only [upd2_ne _ _ e]
      obtain ⟨u, eu, hu⟩ := h.row.wait a b ha hb
      exact ⟨u, eu, frM _ u _ _ (by omega) (by omega) eu hu⟩
  · obtain ⟨u, eu, hu⟩ := h.row.letb a b ha hb
    exact ⟨u, eu, frM _ u _ _ (by omega) (by omega) eu hu⟩
  · obtain ⟨u, eu, hu⟩ := h.row.way a j ha hj
    exact ⟨u, eu, hu.map (fun _ h => h) (fun b cur _ hcur => fr hcur (by decide)) (fun _ _ _ ho => frO _ _ _ _ _ (by decide) ho)⟩
  · simp only [kF]
    split
    · rw [hl]; exact (h.few.1 i n).1
    · exact (h.few.1 a b).1
/-- The last message that waits at a node waits no longer. -/
theorem POwn.cutMsg {w : World} {S : Nat → Prop} {pb : Nat} {x : PX} {ns : List Nd} {R W i n g c m : Nat} {D : Nat → Nat → Int} {st : PSt} (h : POwn w S pb x ns R W D st) (hi : i < W) (hn : n < ns.length) (hq : x.warr[i * 3684 + 16 + n]? = some (.slice (some ⟨g, 0, none⟩) (st.wt i n).length c)) (hm : (st.wt i n).length = m + 1) :
    POwn (w.setCell ⟨x.wb, i * 3684 + 16 + n, none⟩ (.slice (some ⟨g, 0, none⟩) m c)) S pb { x with warr := x.warr.setIfInBounds (i * 3684 + 16 + n) (.slice (some ⟨g, 0, none⟩) m c) } ns R W D { st with wt := kF st.wt i n ((st.wt i n).take m) } := by
  have h8 := h.small
  obtain ⟨v0, e0, hv0⟩ := h.row.wait i n hi hn
  rw [hq] at e0
  simp only [Option.some.injEq] at e0
  subst e0
  have hqs := (Array.getElem?_eq_some_iff.1 hq).1
  have hat : (x.warr.setIfInBounds (i * 3684 + 16 + n) (.slice (some ⟨g, 0, none⟩) m c))[i * 3684 + 16 + n]? = some (.slice (some ⟨g, 0, none⟩) m c) := Array.getElem?_setIfInBounds_self_of_lt hqs
  have hne : ∀ (p : Nat), p ≠ i * 3684 + 16 + n → (x.warr.setIfInBounds (i * 3684 + 16 + n) (.slice (some ⟨g, 0, none⟩) m c))[p]? = x.warr[p]? := fun p hp => Array.getElem?_setIfInBounds_ne (fun e => hp e.symm)
  have back : ∀ (p b : Nat) (u : Value), (x.warr.setIfInBounds (i * 3684 + 16 + n) (.slice (some ⟨g, 0, none⟩) m c))[p]? = some u → Value.ownBlock u = some b → ∃ u', x.warr[p]? = some u' ∧ Value.ownBlock u' = some b := by
    intro p b u hu hb
    by_cases e : p = i * 3684 + 16 + n
    · subst e
      rw [hat] at hu
      simp only [Option.some.injEq] at hu
      subst hu
      exact ⟨_, hq, hb⟩
    · rw [hne p e] at hu
      exact ⟨u, hu, hb⟩
  refine h.setRow (qP _ _ _ _) (qU h.work) ⟨by simpa using h.row.size, fun a b ha hb => ⟨?_, ?_⟩, fun a b ha hb => ?_, fun a b ha hb => ?_, fun a b ha hb k hk => ?_, fun a ha k hk => ?_, fun a j ha hj => ?_, fun p b v hp hv hb => ?_, fun p q b v u hp hq' hv hu hb hb' => ?_⟩ ⟨rfl, rfl⟩ (fun a b => ⟨?_, (h.few.1 a b).2⟩)
  · rw [hne _ (by omega)]; exact (h.row.src a b ha hb).1
  · rw [hne _ (by omega)]; exact (h.row.src a b ha hb).2
  · by_cases e : a = i ∧ b = n
    · obtain ⟨rfl, rfl⟩ := e
      simp only [yF]
      refine ⟨_, hat, ?_, hv0.2⟩
      obtain ⟨hl, h0 | ⟨g', cap, cur, e1, hgb, hc, h1, h2, h3, h4⟩⟩ := hv0.1
      · omega
      · simp only [Value.slice.injEq, Option.some.injEq, Addr.mk.injEq] at e1
        obtain ⟨⟨rfl, _⟩, _, rfl⟩ := e1
        have hlen : ((st.wt a b).take m).length = m := by rw [List.length_take]; omega
        refine ⟨by rw [yY, hlen], .inr ⟨g, c, cur, by rw [hlen], hgb, hc, by omega, h2, h3, ?_⟩⟩
        rw [hlen]
        have e3 : qH ((st.wt a b).take m) = (qH (st.wt a b)).take (m * 3) := by
          have key : ∀ (l : List Gv) (k : Nat), qH (l.take k) = (qH l).take (k * 3) := by
            intro l
            induction l with
            | nil => intro k; simp [qH]
            | cons y l ih =>
              intro k
              cases k with
              | zero => simp [qH]
              | succ k =>
                have h5 := ih k
                simp only [qH, List.take_succ_cons, List.flatMap_cons] at h5 ⊢
                rw [h5, show (k + 1) * 3 = y.cells.length + k * 3 by simp [Gv.cells]; omega, List.take_length_add_append]
          exact key _ _
        rw [e3, ← h4, List.take_take]
        congr 1
        omega
    · simp only [upd2_ne _ _ e]
      obtain ⟨u, eu, hu⟩ := h.row.wait a b ha hb
      exact ⟨u, by rw [hne _ (by omega)]; exact eu, hu⟩
  · obtain ⟨u, eu, hu⟩ := h.row.letb a b ha hb
    exact ⟨u, by rw [hne _ (by omega)]; exact eu, hu⟩
  · rw [hne _ (by have := pos_ne (i := a) (a := i) (r := 32 + b * 408 + k) (s := 16 + n) (by omega) (by omega) (by omega); omega)]; exact h.row.tal a b ha hb k hk
  · rw [hne _ (by omega)]; exact h.row.bel a ha k hk
  · obtain ⟨u, eu, hu⟩ := h.row.way a j ha hj
    exact ⟨u, by rw [hne _ (by omega)]; exact eu, hu⟩
  · obtain ⟨u', h1, h2⟩ := back p b v hv hb
    exact h.row.own p b u' hp h1 h2
  · obtain ⟨v', h1, h2⟩ := back p b v hv hb
    obtain ⟨u', h3, h4⟩ := back q b u hu hb'
    exact h.row.inj p q b v' u' hp hq' h1 h3 h2 h4
  · simp only [kF]
    split
    · rw [List.length_take]; have := (h.few.1 i n).1; omega
    · exact (h.few.1 a b).1
theorem gvn_at {gv : List Gv} {k : Nat} (h : k < gv.length) : vR gv k = gv[k] := getD_lt _ _ h
theorem gvCells_set : ∀ (l : List Gv) (j : Nat) (y : Gv), j < l.length → qH (l.set j y) = (((qH l).set (j * 3) (.int .i64 y.node)).set (j * 3 + 1) (.int .i64 y.epoch)).set (j * 3 + 2) (.int .i64 y.value) := by
  intro l
  induction l with
  | nil => intro j y hj; simp at hj
  | cons a l ih =>
    intro j y hj
    have e3 : qH (a :: l) = a.cells ++ qH l := by simp [qH]
    have hl : a.cells.length = 3 := rfl
    cases j with
    | zero => simp [qH, Gv.cells]
    | succ j =>
      have h1 := ih j y (by simpa using hj)
      have e2 : qH ((a :: l).set (j + 1) y) = a.cells ++ qH (l.set j y) := by simp [qH]
      rw [e2, e3, h1, List.set_append_right _ _ (by rw [hl]; omega), List.set_append_right _ _ (by rw [hl]; omega), List.set_append_right _ _ (by rw [hl]; omega), hl, show (j + 1) * 3 - 3 = j * 3 by omega, show (j + 1) * 3 + 1 - 3 = j * 3 + 1 by omega, show (j + 1) * 3 + 2 - 3 = j * 3 + 2 by omega]
def shfN (ms : List Gv) (k : Nat) : Nat → List Gv
  | 0 => ms
  | d + 1 => (shfN ms k d).set (k + d) (vR ms (k + d + 1))
theorem xL (ms : List Gv) (k d : Nat) : (shfN ms k d).length = ms.length := by
  induction d with
  | zero => rfl
  | succ d ih => rw [shfN, List.length_set, ih]
theorem shfN_get (ms : List Gv) (k : Nat) : ∀ d p, p < ms.length → (shfN ms k d)[p]? = some (if k ≤ p ∧ p < k + d then vR ms (p + 1) else vR ms p) := by
  intro d
  induction d with
  | zero => intro p hp; rw [shfN, if_neg (by omega), List.getElem?_eq_getElem hp, gvn_at hp]
  | succ d ih =>
    intro p hp
    rw [shfN, List.getElem?_set]
    by_cases e : k + d = p
    · subst e
      rw [if_pos rfl, if_pos (by rw [xL]; exact hp), if_pos ⟨by omega, by omega⟩]
    · rw [if_neg e, ih p hp]
      congr 1
      by_cases h : k ≤ p ∧ p < k + d
      · rw [if_pos h, if_pos ⟨h.1, by omega⟩]
      · rw [if_neg h, if_neg (by omega)]
theorem shfN_erase {ms : List Gv} {k m : Nat} (hm : ms.length = m + 1) (hk : k ≤ m) : (shfN ms k (m - k)).take m = ms.eraseIdx k := by
  apply List.ext_getElem?
  intro p
  rw [List.getElem?_eraseIdx]
  by_cases hp : p < m
  · rw [List.getElem?_take_of_lt hp, shfN_get _ _ _ _ (by omega)]
    by_cases h : p < k
    · rw [if_neg (by omega), if_pos h, List.getElem?_eq_getElem (by omega), gvn_at (by omega)]
    · rw [if_pos (by omega), if_neg h, List.getElem?_eq_getElem (by omega), gvn_at (by omega)]
  · rw [List.getElem?_eq_none (by rw [List.length_take, xL]; omega)]
    split
    · omega
    · rw [List.getElem?_eq_none (by omega)]
theorem ptakeMsg_any {S : Nat → Prop} {pb : Nat} {x : PX} {ns : List Nd} {R W : Nat} {D : Nat → Nat → Int} {st : PSt} (i n k : Nat) (w : World) (hO : POwn w S pb x ns R W D st) (hi : i < W) (hn : n < ns.length) (hk : k < (st.wt i n).length) :
    Calls Tryz.prog 98 #[.pointer (some ⟨pb, 0, none⟩), .int .i64 (i : Int), .int .i64 (n : Int), .int .i64 (k : Int)] w fun en w' => en = .returned (.tuple #[]) ∧ POwn.After w w' S pb ns R W D { st with wt := kF st.wt i n ((st.wt i n).eraseIdx k) } := by
  have h8 := hO.small
  obtain ⟨v, hq, hv⟩ := hO.row.wait i n hi hn
  obtain ⟨hl0, h0 | ⟨g, cap, cur, e1, _, hcur, hlc, _⟩⟩ := id hv.1
  · omega
  · have hSg : S g := hv.2 g (by rw [e1]; rfl)
    rw [e1] at hq hv
    obtain ⟨m, hm⟩ : ∃ m, (st.wt i n).length = m + 1 := ⟨(st.wt i n).length - 1, by omega⟩
    have hfew := (hO.few.1 i n).1
    have c3 := qQ (o := 3) hO.root hO.r3
    have cq := qQ (o := i * 3684 + 16 + n) hO.work hq
    have lt0 := hO.slt _ hO.sroot
    have lt1 := hO.slt _ hO.swork
    have hi1 : (i : Int) < (W : Int) := by omega
    have hn8 : (n : Int) < 8 := by omega
    have HO := qJ hO
    have Hq := qJ hq
    have H0 : Hid (POwn w S pb x ns R W D { st with wt := kF st.wt i n (shfN (st.wt i n) k 0) }) := qJ (by
      refine (congrArg (POwn w S pb x ns R W D) ?_).mp hO
      have : kF st.wt i n (shfN (st.wt i n) k 0) = st.wt := by
        funext a b
        unfold kF
        split
        · rename_i h; rw [h.1, h.2]; rfl
        · rfl
      rw [this])
    rw [hm] at cq
    clear hO hq hv hcur
    go_enter Tryz.func98, Tryz.ntmps98
    go_wp2_with fail
    go_loopw [3] (fun q wr => ∃ d : Nat, k + d ≤ m ∧ q = .int .i64 ((k + d : Nat) : Int) ∧ POwn wr S pb x ns R W D { st with wt := kF st.wt i n (shfN (st.wt i n) k d) } ∧ Chg S w wr) (fun q _ => m - (intOf q).toNat)
    case atStart => exact ⟨0, by omega, rfl, qK H0, Chg.refl _ _⟩
    case round =>
      clear c3 cq lt0 lt1 H0
      obtain ⟨d, hd, rfl, hOr, hC⟩ := hrel
      rename World => wr
      have c3 := qQ (o := 3) hOr.root hOr.r3
      have cq := qQ (o := i * 3684 + 16 + n) hOr.work (qK Hq)
      have lt0 := hOr.slt _ hOr.sroot
      have lt1 := hOr.slt _ hOr.swork
      have ltg := hOr.slt _ hSg
      rw [hm] at cq
      obtain ⟨v, hq, hv⟩ := hOr.row.wait i n hi hn
      rw [qK Hq] at hq
      simp only [Option.some.injEq] at hq
      subst hq
      simp only [yF] at hv
      have hlm : (shfN (st.wt i n) k d).length = m + 1 := by rw [xL]; exact hm
      have hgw : g ≠ x.wb := by
        obtain ⟨cur', hc'⟩ := jZ hv.1 (b := g) rfl
        intro e
        rw [e, hOr.work] at hc'
        simp only [Option.some.injEq, Obj.cells.injEq] at hc'
        exact absurd hc'.2.1 (by decide)
      have hgp : g ≠ pb := by
        obtain ⟨cur', hc'⟩ := jZ hv.1 (b := g) rfl
        intro e
        rw [e, hOr.root] at hc'
        simp only [Option.some.injEq, Obj.cells.injEq] at hc'
        exact absurd hc'.2.1 (by decide)
      by_cases hlt : k + d < m
      · obtain ⟨gb, goff, hge, _, hgc⟩ := gvAt_own hv.1 (k + d + 1) (by omega)
        simp only [kY, Option.some.injEq, Addr.mk.injEq] at hge
        obtain ⟨rfl, rfl, _⟩ := hge
        obtain ⟨m0, m1, m2⟩ := hgc (k + d + 1) (by omega)
        obtain ⟨n0, n1, n2⟩ := hgc (k + d) (by omega)
        have hgv : vR (shfN (st.wt i n) k d) (k + d + 1) = vR (st.wt i n) (k + d + 1) := by
          have h5 := shfN_get (st.wt i n) k d (k + d + 1) (by omega)
          rw [if_neg (by omega)] at h5
          unfold vR at h5 ⊢
          rw [List.getD, h5]
          rfl
        rw [hgv] at m0 m1 m2
        simp only [Nat.zero_add] at m0 m1 m2 n0 n1 n2
        obtain ⟨cur', hcur'⟩ := jZ hv.1 (b := g) rfl
        have gf := fun o => qZ (o := o) hcur'
        have Hv := qJ hv
        have HOr := qJ hOr
        have Hsh : Hid (shfN (st.wt i n) k (d + 1) = (shfN (st.wt i n) k d).set (k + d) (vR (st.wt i n) (k + d + 1))) := qJ rfl
        obtain ⟨j, hj⟩ : ∃ j, k + d = j := ⟨_, rfl⟩
        rw [hj] at m0 m1 m2 n0 n1 n2 Hsh hlt
        have hm1 : (j : Int) < (m : Int) := by omega
        have hm2 : (j : Int) + 1 < (m : Int) + 1 := by omega
        have hm3 : (j : Int) < (m : Int) + 1 := by omega
        have hj9 : j ≤ 100000000 := by omega
        generalize vR (st.wt i n) (j + 1) = y at *
        have hv1 : wr.ownsRow 0 62 3 (.slice (some ⟨g, 0, none⟩) (st.wt i n).length cap) (st.wt i n).length (qH (shfN (st.wt i n) k d)) := by have h9 := hv.1; rw [xL] at h9; exact h9
        have hs1 := yL (p := j * 3) (u := .int .i64 y.node) hv1 (by rw [yY, hlm]; omega)
        have hs2 := yL (p := j * 3 + 1) (u := .int .i64 y.epoch) hs1 (by rw [List.length_set, yY, hlm]; omega)
        have hs3 := yL (p := j * 3 + 2) (u := .int .i64 y.value) hs2 (by rw [List.length_set, List.length_set, yY, hlm]; omega)
        rw [← gvCells_set _ _ _ (by omega), ← qK Hsh] at hs3
        have Hs3 := qJ hs3
        rw [hj]
        clear hOr hv hv1 hs1 hs2 hs3 hcur' hgc hgv
        go_wp2_with fail
        go_region
        all_goals (
          go_wp2_with fail
          go_roundw
          case rel =>
            have hbd : Bw (((wr.setCell ⟨g, j * 3, none⟩ (.int .i64 y.node)).setCell ⟨g, j * 3 + 1, none⟩ (.int .i64 y.epoch)).setCell ⟨g, j * 3 + 2, none⟩ (.int .i64 y.value)) ((((wr.setCell ⟨g, j * 3, none⟩ (.int .i64 y.node)).setCell ⟨g, j * 3 + 1, none⟩ (.int .i64 y.epoch)).setCell ⟨g, j * 3 + 2, none⟩ (.int .i64 y.value)).drew) := (by repeat first|exact br _|assumption|apply bd|apply bn|apply ba|refine bt ?_ (by assumption))
            have hcg : Chg (fun b => b = g) wr ((((wr.setCell ⟨g, j * 3, none⟩ (.int .i64 y.node)).setCell ⟨g, j * 3 + 1, none⟩ (.int .i64 y.epoch)).setCell ⟨g, j * 3 + 2, none⟩ (.int .i64 y.value)).drew) := (((qP _ _ _ _).trans (qP _ _ _ _) (fun _ h => .inl h)).trans (qP _ _ _ _) (fun _ h => .inl h)).trans (Chg.bw (S := fun b => b = g) hbd) (fun _ h => .inl h)
            have hO9 := (qK HOr).reMsg (i := i) (n := n) (g := g) (c := cap) (ms' := shfN (st.wt i n) k (d + 1)) hi hn (by simp only [yF]; rw [xL]; exact qK Hq) hcg (by simp only [yF]; rw [xL, xL]) (by simp only [yF]; rw [xL]; exact qX (qK Hs3) fun z hz => Below.block hbd z hz)
            refine ⟨d + 1, by omega, by rw [← Nat.add_assoc, hj]; go_num, ?_, hC.trans hcg (fun b hb => .inl (hb ▸ hSg))⟩
            refine (congrArg (POwn _ S pb x ns R W D) ?_).mp hO9
            congr 1
            funext a b
            unfold kF
            split <;> simp_all
          case measure => simp [intOf]; omega)
      · have hdm : k + d = m := by omega
        have hm1 : ¬ ((k + d : Nat) : Int) < (m : Int) := by omega
        have cqf := qZ (o := i * 3684 + 16 + n) hOr.work
        have hmc : (m : Int) ≤ (cap : Int) := by omega
        have hm0 : (0 : Int) ≤ (m : Int) := by omega
        have hcut := hOr.cutMsg (i := i) (n := n) (g := g) (c := cap) (m := m) hi hn (by simp only [yF]; rw [xL]; exact qK Hq) (by simp only [yF]; exact hlm)
        have hne := hOr.work
        have Hcut := qJ hcut
        have hsw := hOr.swork
        rw [show d = m - k by omega] at Hcut
        rw [hdm]
        clear hcut hOr hv hne
        go_wp2_with fail
        go_region
        all_goals (
          go_wp2_with fail
          go_end0
          refine ⟨rfl, S, { x with warr := x.warr.setIfInBounds (i * 3684 + 16 + n) (.slice (some ⟨g, 0, none⟩) m cap) }, ?_, (hC.trans (qP wr x.wb (i * 3684 + 16 + n) (.slice (some ⟨g, 0, none⟩) m cap)) (fun b hb => .inl (hb ▸ hsw))).trans (Chg.bw (S := S) (show Bw _ _ from (by repeat first|exact br _|assumption|apply bd|apply bn|apply ba|refine bt ?_ (by assumption)))) (fun _ h => .inl h), fun b hb => .inl hb⟩
          refine (congrArg (POwn _ S pb _ ns R W D) ?_).mp ((qK Hcut).bw (by repeat first|exact br _|assumption|apply bd|apply bn|apply ba|refine bt ?_ (by assumption)))
          congr 1
          funext a b
          unfold kF
          split
          · rename_i h
            obtain ⟨rfl, rfl⟩ := h
            simp only [and_self, if_true]
            exact shfN_erase hm (by omega)
          · rfl)
def lbB (l : List Gv) (y : Gv) (k : Nat) : Bool := ((vR l k).node == y.node) && (((vR l k).epoch == y.epoch) && ((vR l k).value == y.value))
def lbTo (l : List Gv) (y : Gv) : Nat → Bool
  | 0 => false
  | k + 1 => lbTo l y k || lbB l y k
theorem lbTo_hit {l : List Gv} {y : Gv} {i : Nat} (h : lbB l y i = true) : ∀ k, i < k → lbTo l y k = true := by
  intro k hk
  induction k with
  | zero => omega
  | succ k ih =>
    unfold lbTo
    by_cases e : i = k
    · subst e; rw [h]; simp
    · rw [ih (by omega)]; rfl
theorem lbTo_no {l : List Gv} {y : Gv} {i : Nat} (h : lbTo l y i = false) (h2 : lbB l y i = false) : lbTo l y (i + 1) = false := by rw [lbTo, h, h2]; rfl
def letSt (st : PSt) (i n : Nat) (y : Gv) : PSt := if lbTo (st.lb i n) y (st.lb i n).length then st else { st with lb := kF st.lb i n (st.lb i n ++ [y]) }
theorem plets_any {S : Nat → Prop} {pb : Nat} {x : PX} {ns : List Nd} {R W : Nat} {D : Nat → Nat → Int} {st : PSt} (i n : Nat) (e r v : Int) (w : World) (hO : POwn w S pb x ns R W D st) (hi : i < W) (hn : n < ns.length) (hf : (st.lb i n).length + 1 ≤ 100000000) :
    Calls Tryz.prog 127 #[.pointer (some ⟨pb, 0, none⟩), .int .i64 (i : Int), .int .i64 (n : Int), .agg #[.int .i64 e, .int .i64 r], .int .i64 v] w fun en w' => en = .returned (.bool (!lbTo (st.lb i n) ⟨e, r, v⟩ (st.lb i n).length)) ∧ POwn.After w w' S pb ns R W D (letSt st i n ⟨e, r, v⟩) := by
  have h8 := hO.small
  obtain ⟨u, hq, hu⟩ := hO.row.letb i n hi hn
  obtain ⟨qa, qc, hqe⟩ : ∃ qa qc, u = .slice qa (st.lb i n).length qc := ⟨_, _, qV hu.1⟩
  subst hqe
  have c3 := qQ (o := 3) hO.root hO.r3
  have cq := qQ (o := i * 3684 + 24 + n) hO.work hq
  have lt0 := hO.slt _ hO.sroot
  have lt1 := hO.slt _ hO.swork
  have hi1 : (i : Int) < (W : Int) := by omega
  have hn8 : (n : Int) < 8 := by omega
  have HO := qJ hO
  have Hq := qJ hq
  have Hu := qJ hu
  have Hgv := qJ (show GvAt w qa (st.lb i n) from gvAt_own hu.1)
  have HS : Hid (letSt st i n ⟨e, r, v⟩ = if lbTo (st.lb i n) ⟨e, r, v⟩ (st.lb i n).length then st else { st with lb := kF st.lb i n (st.lb i n ++ [⟨e, r, v⟩]) }) := qJ rfl
  obtain ⟨L, hL⟩ : ∃ L, st.lb i n = L := ⟨_, rfl⟩
  rw [hL] at cq Hq Hu Hgv HS hf
  rw [hL]
  have HL := qJ hL
  have HnS : Hid (∀ z, w.heap.size ≤ z → ¬ S z) := qJ (fun z hz h => by have := hO.slt z h; omega)
  clear hO hq hu hL
  go_enter Tryz.func127, Tryz.ntmps127
  go_wp2_with fail
  obtain ⟨w0, hw0⟩ : ∃ w0, (w.alloc (.cells #[.int .i64 e, .int .i64 r] 72)).alloc (.cells #[.int .i64 e, .int .i64 r, .int .i64 v] 62) = w0 := ⟨_, rfl⟩
  have hA := alloc2 w (.cells #[.int .i64 e, .int .i64 r] 72) (.cells #[.int .i64 e, .int .i64 r, .int .i64 v] 62)
  rw [hw0] at hA
  rw [hw0]
  obtain ⟨ht0, hm0, hB0⟩ := hA
  clear hw0 ht0
  go_loopw [34] (fun j wr => ∃ k : Nat, k ≤ L.length ∧ j = .int .i64 k ∧ lbTo L ⟨e, r, v⟩ k = false ∧ Bw w0 wr) (fun j _ => L.length - (intOf j).toNat)
  case atStart => exact ⟨0, Nat.zero_le _, rfl, rfl, Bw.refl _⟩
  case round =>
    clear c3 cq
    obtain ⟨k, hk, rfl, hno, hBr⟩ := hrel
    rename World => wr
    have hB := hB0.trans hBr
    have hmr := (Below.block hBr _ (Array.getElem?_eq_some_iff.1 hm0).1).trans hm0
    have m0 := qQ (o := 0) hmr rfl
    have m1 := qQ (o := 1) hmr rfl
    have m2 := qQ (o := 2) hmr rfl
    have mlt := (Array.getElem?_eq_some_iff.1 hmr).1
    by_cases hlt : k < L.length
    · have hk1 : (k : Int) < (L.length : Int) := by omega
      obtain ⟨gb, goff, rfl, hgb, hgc⟩ := ((qK Hgv).below hB) k hlt
      obtain ⟨g0, g1, g2⟩ := hgc k hlt
      have Hno := qJ (@lbTo_no L ⟨e, r, v⟩ k hno)
      have Hyes := qJ (fun h => @lbTo_hit L ⟨e, r, v⟩ k h L.length hlt)
      have Hd : Hid (lbB L ⟨e, r, v⟩ k = (((vR L k).node == e) && (((vR L k).epoch == r) && ((vR L k).value == v)))) := qJ rfl
      generalize vR L k = y at *
      generalize hdb : lbB L ⟨e, r, v⟩ k = db at Hd Hno Hyes
      clear hdb hgc hmr
      cases h0 : (y.node == e) with
      | false =>
        have Hs := qJ ((qK Hno) (by rw [qK Hd, h0]; rfl))
        clear Hno Hyes Hd
        go_wp2_with fail
        all_goals (
          go_roundw
          case rel => exact ⟨k + 1, by omega, by go_num, qK Hs, (by repeat first|exact br _|assumption|apply bd|apply bn|apply ba|refine bt ?_ (by assumption))⟩
          case measure => simp [intOf]; omega)
      | true =>
        cases h1 : (y.epoch == r) with
        | false =>
          have Hs := qJ ((qK Hno) (by rw [qK Hd, h0, h1]; rfl))
          clear Hno Hyes Hd
          go_wp2_with fail
          all_goals (
            go_roundw
            case rel => exact ⟨k + 1, by omega, by go_num, qK Hs, (by repeat first|exact br _|assumption|apply bd|apply bn|apply ba|refine bt ?_ (by assumption))⟩
            case measure => simp [intOf]; omega)
        | true =>
          cases h2 : (y.value == v) with
          | false =>
            have Hs := qJ ((qK Hno) (by rw [qK Hd, h0, h1, h2]; rfl))
            clear Hno Hyes Hd
            go_wp2_with fail
            all_goals (
              go_roundw
              case rel => exact ⟨k + 1, by omega, by go_num, qK Hs, (by repeat first|exact br _|assumption|apply bd|apply bn|apply ba|refine bt ?_ (by assumption))⟩
              case measure => simp [intOf]; omega)
          | true =>
            have Hs := qJ ((qK Hyes) (by rw [qK Hd, h0, h1, h2]; rfl))
            clear Hno Hyes Hd
            go_wp2_with fail
            go_ret
            refine ⟨ret_bool (by rw [qK Hs]; rfl), ?_⟩
            rw [qK HS, qK Hs, if_pos rfl]
            have hBw : Bw w (wr.alloc (.cells #[.int .i64 y.node, .int .i64 y.epoch, .int .i64 y.value] 62)) := hB.trans (by repeat first|exact br _|assumption|apply bd|apply bn|apply ba|refine bt ?_ (by assumption))
            exact ⟨S, x, (qK HO).bw hBw, Chg.bw hBw, fun _ h => .inl h⟩
    · have hkk : k = L.length := by omega
      subst hkk
      have hk1 : ¬ (L.length : Int) < (L.length : Int) := by omega
      have hOr := (qK HO).bw hB
      have c3 := qQ (o := 3) hOr.root hOr.r3
      have cq := qQ (o := i * 3684 + 24 + n) hOr.work (qK Hq)
      have l0 := hOr.slt _ hOr.sroot
      have l1 := hOr.slt _ hOr.swork
      have HOr := qJ hOr
      have Hs := qJ hno
      have hz := hB.size
      clear hOr hmr hno
      go_wp2_with fail
      go_region_law (refine yT rfl _ _ _ 62 rfl _ 3 24 Tryz.infoMessage Tryz.underlying58 rfl (by decide) 0 (.slice qa L.length qc) L.length (qH L) rfl (qX (qK Hu).1 fun g hg => Below.block (hB.trans (show Bw wr _ from (by repeat first|exact br _|assumption|apply bd|apply bn|apply ba|refine bt ?_ (by assumption)))) g hg) _ _ (Gv.cells ⟨e, r, v⟩) rfl rfl (gv_cells (qQ (qY _ _ (by simp)) rfl) (qQ (qY _ _ (by simp)) rfl) (qQ (qY _ _ (by simp)) rfl)) (gv_one _) (by omega) (by omega) (Nat.zero_le _) ?_; intro g' cap w4 ho4 hg4 hl4; have q4 := qW (qX (qK Hu).1 fun g hg => Below.block (hB.trans (show Bw wr _ from (by repeat first|exact br _|assumption|apply bd|apply bn|apply ba|refine bt ?_ (by assumption)))) g hg) hg4 ((qK HOr).bw (show Bw wr _ from (by repeat first|exact br _|assumption|apply bd|apply bn|apply ba|refine bt ?_ (by assumption)))).work (.inl (by decide)); have q7 := qQ q4 (qK Hq); have q7f := qZ (o := i * 3684 + 24 + n) q4; have q7l := (Array.getElem?_eq_some_iff.1 q4).1; clear q4)
      all_goals (
        obtain ⟨wB, hwB, hBB⟩ : ∃ wB, wB = (wr.alloc (.cells #[.int .i64 e, .int .i64 r, .int .i64 v] 62)).drew ∧ Bw wr wB := ⟨_, rfl, (by repeat first|exact br _|assumption|apply bd|apply bn|apply ba|refine bt ?_ (by assumption))⟩
        rw [← hwB] at hg4 hl4
        have hvB := qX (qK Hu).1 fun g hg => Below.block (hB.trans hBB) g hg
        have hO5 := (qK HOr).lets (y := ⟨e, r, v⟩) (qK HL) hi hn hBB (qK Hq) hvB ho4 hg4 hl4 hf
        obtain ⟨x1, x2, _⟩ := app_chg (S := S) (S' := S) (w := w) (q := i * 3684 + 24 + n) (u := .slice (some ⟨g', 0, none⟩) (L.length + 1) cap) (Chg.bw hB) (fun _ h => .inl h) hBB hg4 (qK Hu).2 (qK HOr).swork hl4
        go_wp2_with fail
        go_ret
        refine ⟨ret_bool (by rw [qK Hs]; rfl), ?_⟩
        rw [qK HS, qK Hs, if_neg (by simp)]
        exact ⟨_, _, hO5, x1, x2⟩)
end Go.Proofs.YtfemleimkbjehaaGreat
