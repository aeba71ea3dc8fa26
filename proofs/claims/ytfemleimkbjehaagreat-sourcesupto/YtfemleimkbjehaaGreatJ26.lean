import Derived.Test.YtfemleimkbjehaaGreatJ17
namespace Go.Proofs.YtfemleimkbjehaaGreat
set_option linter.unusedVariables false
set_option linter.unusedSimpArgs false
open Go.RowKit

/-- What an append to one field of a run, and the store of its answer, leave of rows of other types. -/
theorem trans_add {S : Nat → Prop} {w w' : World} {rb k g' base n size : Nat} {arr : Array Value} {fr : Nat × Nat} {t : TypeId} {v v' : Value} {xs : List Value} (hroot : w.heap[rb]? = some (.cells arr 83 fr)) (hown : w.ownsRow base t size v n xs) (hg : w.grownBy w' v.ownBlock) (ht : t ≠ 83) :
    ∀ (ty : TypeId) (sz : Nat) (u : Value) (m : Nat) (ys : List Value), ty ≠ t → ty ≠ 83 → OwnsIn S w ty sz u m ys → OwnsIn (fun b => S b ∨ b = g') (w'.setCell ⟨rb, k, none⟩ v') ty sz u m ys := by
  intro ty sz u m ys h1 h2 h
  exact ((h.grown hown hg h1).set (grown_block hown hg hroot (.inl (Ne.symm ht))) h2).mono fun b hb => .inl hb
theorem chg_add {S : Nat → Prop} {w w' : World} {rb k base n size : Nat} {t : TypeId} {v v' : Value} {xs : List Value} (hown : OwnsIn S w t size v n xs) (hg : w.grownBy w' v.ownBlock) (hrb : S rb) (_hb : base = 0) : Chg S w (w'.setCell ⟨rb, k, none⟩ v') := by
  refine ⟨hg.os, hg.tape, hg.output, by simpa using hg.size, fun i hi hn => ?_⟩
  refine (Below.heap_setCell w' ⟨rb, k, none⟩ v' i (by simp only; intro e; subst e; exact hn hrb)).trans (hg.block i hi fun e => hn (hown.2 i e.symm))
theorem TabIn.map {S S' : Nat → Prop} {w w' : World} {v : Value} {n m : Nat} {f : Nat → Nat → Int} (h : TabIn S w v n m f) (hf : ∀ (ty : TypeId) (sz : Nat) (u : Value) (m : Nat) (ys : List Value), ty = 94 ∨ ty = 3 → OwnsIn S w ty sz u m ys → OwnsIn S' w' ty sz u m ys) : TabIn S' w' v n m f := by
  obtain ⟨vs, h1, h2⟩ := h
  refine ⟨vs, hf _ _ _ _ _ (.inl rfl) h1, fun i hi => ?_⟩
  obtain ⟨u, e, h3⟩ := h2 i hi
  exact ⟨u, e, hf _ _ _ _ _ (.inr rfl) h3⟩
theorem LogIn.map {S S' : Nat → Prop} {w w' : World} {v : Value} {cs : List Cg} (h : LogIn S w v cs) (hf : ∀ (ty : TypeId) (sz : Nat) (u : Value) (m : Nat) (ys : List Value), ty = 113 ∨ ty = 67 → OwnsIn S w ty sz u m ys → OwnsIn S' w' ty sz u m ys) : LogIn S' w' v cs := by
  obtain ⟨vs, hl, h1, h2⟩ := h
  refine ⟨vs, hl, hf _ _ _ _ _ (.inl rfl) h1, fun i hi => ?_⟩
  obtain ⟨u, e, h3⟩ := h2 i hi
  exact ⟨u, e, hf _ _ _ _ _ (.inr rfl) h3⟩

theorem ROwn.addOpened {w w' : World} {S : Nat → Prop} {rb g' cap : Nat} {x : RX} {ns : List Nd} {R W : Nat} {D : Nat → Nat → Int} {st : RSt} {y : Gv} (h : ROwn w S rb x ns R W D st)
    (h2 : w'.ownsRow 0 152 3 (.slice (some ⟨g', 0, none⟩) (st.opened.length + 1) cap) (st.opened.length + 1) (gvCells st.opened ++ y.cells)) (hg : w.grownBy w' x.o.ownBlock) (hlen : st.opened.length + 1 ≤ 1000000) :
    ROwn (w'.setCell ⟨rb, 6, none⟩ (.slice (some ⟨g', 0, none⟩) (st.opened.length + 1) cap)) (fun b => S b ∨ b = g') rb { x with o := .slice (some ⟨g', 0, none⟩) (st.opened.length + 1) cap } ns R W D { st with opened := st.opened ++ [y] } := by
  have tr := trans_add (S := S) (k := 6) (g' := g') (v' := .slice (some ⟨g', 0, none⟩) (st.opened.length + 1) cap) h.root h.opened.1 hg (by decide)
  have hr := grown_block h.opened.1 hg h.root (.inl (by decide))
  refine ⟨?_, .inl h.sroot, ?_, tr _ _ _ _ _ (by decide) (by decide) h.nodes, tr _ _ _ _ _ (by decide) (by decide) h.mails, h.log.map fun ty sz u m ys hty ho => tr ty sz u m ys (by rcases hty with rfl | rfl <;> decide) (by rcases hty with rfl | rfl <;> decide) ho, h.evs, ?_, h.told.map fun ty sz u m ys hty ho => tr ty sz u m ys (by rcases hty with rfl | rfl <;> decide) (by rcases hty with rfl | rfl <;> decide) ho, h.dist.map fun ty sz u m ys hty ho => tr ty sz u m ys (by rcases hty with rfl | rfl <;> decide) (by rcases hty with rfl | rfl <;> decide) ho, h.small, ⟨by simpa using hlen, h.few.2⟩⟩
  · rw [setCell_eq_setRow w' rb 6 _ 83 (0, 0) _ hr]
    exact setRow_heap w' rb _ _ _ _ hr
  · intro b hb
    rcases hb with hb | rfl
    · have := h.slt b hb; have := hg.size; simp; omega
    · have := (World.ownsRow.lt h2 b rfl).2; simpa using this
  · refine ⟨?_, fun b hb => .inr (by simpa [Value.ownBlock] using hb.symm)⟩
    show World.ownsRow _ 0 _ 3 _ (st.opened ++ [y]).length _
    rw [gvCells_snoc, List.length_append]
    exact ownsRow_setT hr h2 (by decide)
theorem mlsCells_snoc (l : List Ml) (y : Ml) : mlsCells (l ++ [y]) = mlsCells l ++ y.cells := by simp [mlsCells]
theorem ROwn.addMails {w w' : World} {S : Nat → Prop} {rb g' cap : Nat} {x : RX} {ns : List Nd} {R W : Nat} {D : Nat → Nat → Int} {st : RSt} {y : Ml} (h : ROwn w S rb x ns R W D st)
    (h2 : w'.ownsRow 0 108 6 (.slice (some ⟨g', 0, none⟩) (st.mails.length + 1) cap) (st.mails.length + 1) (mlsCells st.mails ++ y.cells)) (hg : w.grownBy w' x.m.ownBlock) (hlen : st.mails.length + 1 ≤ 1000000) :
    ROwn (w'.setCell ⟨rb, 3, none⟩ (.slice (some ⟨g', 0, none⟩) (st.mails.length + 1) cap)) (fun b => S b ∨ b = g') rb { x with m := .slice (some ⟨g', 0, none⟩) (st.mails.length + 1) cap } ns R W D { st with mails := st.mails ++ [y] } := by
  have tr := trans_add (S := S) (k := 3) (g' := g') (v' := .slice (some ⟨g', 0, none⟩) (st.mails.length + 1) cap) h.root h.mails.1 hg (by decide)
  have hr := grown_block h.mails.1 hg h.root (.inl (by decide))
  refine ⟨?_, .inl h.sroot, ?_, tr _ _ _ _ _ (by decide) (by decide) h.nodes, ?_, h.log.map fun ty sz u m ys hty ho => tr ty sz u m ys (by rcases hty with rfl | rfl <;> decide) (by rcases hty with rfl | rfl <;> decide) ho, h.evs, tr _ _ _ _ _ (by decide) (by decide) h.opened, h.told.map fun ty sz u m ys hty ho => tr ty sz u m ys (by rcases hty with rfl | rfl <;> decide) (by rcases hty with rfl | rfl <;> decide) ho, h.dist.map fun ty sz u m ys hty ho => tr ty sz u m ys (by rcases hty with rfl | rfl <;> decide) (by rcases hty with rfl | rfl <;> decide) ho, h.small, ⟨h.few.1, by simpa using hlen, h.few.2.2⟩⟩
  · rw [setCell_eq_setRow w' rb 3 _ 83 (0, 0) _ hr]
    exact setRow_heap w' rb _ _ _ _ hr
  · intro b hb
    rcases hb with hb | rfl
    · have := h.slt b hb; have := hg.size; simp; omega
    · have := (World.ownsRow.lt h2 b rfl).2; simpa using this
  · refine ⟨?_, fun b hb => .inr (by simpa [Value.ownBlock] using hb.symm)⟩
    show World.ownsRow _ 0 _ 6 _ (st.mails ++ [y]).length _
    rw [mlsCells_snoc, List.length_append]
    exact ownsRow_setT hr h2 (by decide)
/-- A change is added to the log: its points lie in a block of their own, gp. -/
theorem ROwn.addLog {w w' : World} {S : Nat → Prop} {rb g' cap : Nat} {x : RX} {ns : List Nd} {R W : Nat} {D : Nat → Nat → Int} {st : RSt} {c : Cg} {vp : Value} {n0 : Nat} {vs : List Value} (h : ROwn w S rb x ns R W D st) (hvl : vs.length = st.log.length) (hl1 : OwnsIn S w 113 2 x.l st.log.length (logCells st.log vs)) (hl2 : ∀ i, i < st.log.length → ∃ u, vs[i]? = some u ∧ OwnsIn S w 67 5 u (cgn st.log i).pts.length (ptsCells (cgn st.log i).pts)) (hp : w.ownsRow n0 67 5 vp c.pts.length (ptsCells c.pts))
    (h2' : w'.ownsRow 0 113 2 (.slice (some ⟨g', 0, none⟩) (st.log.length + 1) cap) (st.log.length + 1) (logCells st.log vs ++ [.int .i64 c.worker, vp])) (hg : w.grownBy w' x.l.ownBlock) (hlen : st.log.length + 1 ≤ 1000000) :
    ROwn (w'.setCell ⟨rb, 4, none⟩ (.slice (some ⟨g', 0, none⟩) (st.log.length + 1) cap)) (fun b => (S b ∨ vp.ownBlock = some b) ∨ b = g') rb { x with l := .slice (some ⟨g', 0, none⟩) (st.log.length + 1) cap } ns R W D { st with log := st.log ++ [c] } := by
  have tr0 := trans_add (S := fun b => S b ∨ vp.ownBlock = some b) (k := 4) (g' := g') (v' := .slice (some ⟨g', 0, none⟩) (st.log.length + 1) cap) h.root hl1.1 hg (by decide)
  have tr : ∀ (ty : TypeId) (sz : Nat) (u : Value) (m : Nat) (ys : List Value), ty ≠ 113 → ty ≠ 83 → OwnsIn S w ty sz u m ys → OwnsIn (fun b => (S b ∨ vp.ownBlock = some b) ∨ b = g') (w'.setCell ⟨rb, 4, none⟩ (.slice (some ⟨g', 0, none⟩) (st.log.length + 1) cap)) ty sz u m ys := fun ty sz u m ys a b ho => tr0 ty sz u m ys a b (ho.mono fun b hb => .inl hb)
  have hr := grown_block hl1.1 hg h.root (.inl (by decide))
  refine ⟨?_, .inl (.inl h.sroot), ?_, tr _ _ _ _ _ (by decide) (by decide) h.nodes, tr _ _ _ _ _ (by decide) (by decide) h.mails, ?_, h.evs, tr _ _ _ _ _ (by decide) (by decide) h.opened, h.told.map fun ty sz u m ys hty ho => tr ty sz u m ys (by rcases hty with rfl | rfl <;> decide) (by rcases hty with rfl | rfl <;> decide) ho, h.dist.map fun ty sz u m ys hty ho => tr ty sz u m ys (by rcases hty with rfl | rfl <;> decide) (by rcases hty with rfl | rfl <;> decide) ho, h.small, ⟨h.few.1, h.few.2.1, by simpa using hlen⟩⟩
  · rw [setCell_eq_setRow w' rb 4 _ 83 (0, 0) _ hr]
    exact setRow_heap w' rb _ _ _ _ hr
  · intro b hb
    rcases hb with (hb | hb) | rfl
    · have := h.slt b hb; have := hg.size; simp; omega
    · have := (World.ownsRow.lt hp b hb).2; have := hg.size; simp; omega
    · have := (World.ownsRow.lt h2' b rfl).2; simpa using this
  · refine ⟨vs ++ [vp], by simp [hvl], ⟨?_, fun b hb => .inr (by simpa [Value.ownBlock] using hb.symm)⟩, fun i hi => ?_⟩
    · show World.ownsRow _ 0 _ 2 _ (st.log ++ [c]).length _
      rw [logCells_snoc _ _ _ _ hvl, List.length_append]
      exact ownsRow_setT hr h2' (by decide)
    · by_cases e : i < st.log.length
      · obtain ⟨u, eu, hu⟩ := hl2 i e
        have e2 : cgn (st.log ++ [c]) i = cgn st.log i := by unfold cgn; simp [List.getD, List.getElem?_append_left e]
        refine ⟨u, by rw [List.getElem?_append_left (by omega)]; exact eu, ?_⟩
        show OwnsIn _ _ _ 5 u (cgn (st.log ++ [c]) i).pts.length (ptsCells (cgn (st.log ++ [c]) i).pts)
        rw [e2]
        exact tr _ _ _ _ _ (by decide) (by decide) hu
      · have hi' : i = st.log.length := by
          have : i < (st.log ++ [c]).length := hi
          simp at this; omega
        subst hi'
        have e2 : cgn (st.log ++ [c]) st.log.length = c := by unfold cgn; simp [List.getD]
        refine ⟨vp, by rw [← hvl]; simp, ?_⟩
        show OwnsIn _ _ _ 5 vp (cgn (st.log ++ [c]) st.log.length).pts.length (ptsCells (cgn (st.log ++ [c]) st.log.length).pts)
        rw [e2]
        exact tr0 _ _ _ _ _ (by decide) (by decide) ⟨ownsRow_weaken hp (Nat.zero_le _), fun b hb => .inr hb⟩
end Go.Proofs.YtfemleimkbjehaaGreat
namespace Go.Proofs.YtfemleimkbjehaaGreat
set_option linter.unusedVariables false
set_option linter.unusedSimpArgs false
open Go.RowKit

theorem Tryz.infoChange : (Tryz.prog.info? 113).map (fun i => (i.zero, i.size, i.bytes)) = some (some (.agg #[.int .i64 0, .slice none 0 0]), 2, 32) := by kernel_rfl
theorem Tryz.infoGivenR : (Tryz.prog.info? 152).map (fun i => (i.zero, i.size, i.bytes)) = some (some (.agg #[.int .i64 0, .int .i64 0, .int .i64 0]), 3, 24) := by kernel_rfl
theorem cells2 {w : World} {g : Nat} {a b : Value} (h0 : w.cell? ⟨g, 0, none⟩ = some a) (h1 : w.cell? ⟨g, 1, none⟩ = some b) : ∀ j u, [a, b][j]? = some u → w.cell? ⟨g, j, none⟩ = some u := by
  intro j u hj
  match j, hj with
  | 0, hj => simp at hj; subst hj; exact h0
  | 1, hj => simp at hj; subst hj; exact h1
/-- A run after an operation: what it holds, and where. -/
def ROwn.After (w w' : World) (S : Nat → Prop) (rb : Nat) (ns : List Nd) (R W : Nat) (D : Nat → Nat → Int) (st : RSt) : Prop :=
  ∃ (S' : Nat → Prop) (x' : RX), ROwn w' S' rb x' ns R W D st ∧ Chg S w w' ∧ ∀ b, S' b → S b ∨ w.heap.size ≤ b
theorem ROwn.after_same {w : World} {S : Nat → Prop} {rb : Nat} {x : RX} {ns : List Nd} {R W : Nat} {D : Nat → Nat → Int} {st : RSt} (h : ROwn w S rb x ns R W D st) : ROwn.After w w S rb ns R W D st := ⟨S, x, h, Chg.refl _ _, fun _ hb => .inl hb⟩

def advE (ns : List Nd) (W : Nat) (op : List Gv) (w n : Int) : Int := if sourceE ns W op w n != 0 then sourceE ns W op w n else if decide (5 ≤ doneTo op w n 2 op.length) then 5 else 0
def advSt (st : RSt) (w n : Int) (k : Nat) : RSt := { st with log := st.log ++ [⟨w, [⟨n, true, k, 0, -1⟩, ⟨n, true, (k : Int) + 1, 0, 1⟩]⟩], opened := st.opened ++ [⟨n, w, 2⟩] }
def advS (ns : List Nd) (W : Nat) (st : RSt) (w n : Int) : RSt := if advE ns W st.opened w n == 0 then advSt st w n (doneTo st.opened w n 2 st.opened.length) else st

set_option maxRecDepth 100000 in
set_option maxHeartbeats 4000000 in
theorem radvance_any {S : Nat → Prop} {rb : Nat} {x : RX} {ns : List Nd} {R W : Nat} {D : Nat → Nat → Int} {st : RSt} (wk n : Int) (w : World) (hO : ROwn w S rb x ns R W D st) (hlo : st.opened.length + 1 ≤ 1000000) (hll : st.log.length + 1 ≤ 1000000) :
    Calls Tryz.prog 31 #[.pointer (some ⟨rb, 0, none⟩), .int .i64 wk, .int .i64 n] w fun e w' => e = .returned (.int .i64 (advE ns W st.opened wk n)) ∧ ROwn.After w w' S rb ns R W D (advS ns W st wk n) := by
  have HO := hide hO
  have HR := hide hO.read
  have Hsrc := hide (rsource_any wk n w hO.read)
  have Hdone := hide (rdone_any wk n 2 w hO.read)
  have hdl := doneTo_le st.opened wk n 2 st.opened.length
  cases hse : (sourceE ns W st.opened wk n != 0) with
  | true =>
    have He : Hid (advE ns W st.opened wk n = sourceE ns W st.opened wk n) := hide (by unfold advE; rw [if_pos hse])
    have Hne : Hid (sourceE ns W st.opened wk n ≠ 0) := hide (by simpa using hse)
    have Hs : Hid (advS ns W st wk n = st) := hide (by unfold advS; rw [unhide He, if_neg (by simpa using unhide Hne)])
    generalize sourceE ns W st.opened wk n = se at *
    clear hO
    go_enter Tryz.func31, Tryz.ntmps31
    go_wp2_with (go_at_call 57; refine (unhide Hsrc).mono ?_; rintro e w' ⟨rfl, rfl⟩)
    go_ret
    exact ⟨ret_int (unhide He).symm, by rw [unhide Hs]; exact (unhide HO).after_same⟩
  | false =>
    have hs0 : sourceE ns W st.opened wk n = 0 := by simpa using hse
    rw [hs0] at Hsrc
    by_cases h5 : 5 ≤ doneTo st.opened wk n 2 st.opened.length
    · have He : Hid (advE ns W st.opened wk n = 5) := hide (by unfold advE; rw [hse, show decide (5 ≤ doneTo st.opened wk n 2 st.opened.length) = true by simpa using h5]; rfl)
      have Hs : Hid (advS ns W st wk n = st) := hide (by unfold advS; rw [unhide He]; rfl)
      generalize doneTo st.opened wk n 2 st.opened.length = k at *
      clear hO hse hs0
      go_enter Tryz.func31, Tryz.ntmps31
      go_wp2_with (first | (go_at_call 57; refine (unhide Hsrc).mono ?_; rintro e w' ⟨rfl, rfl⟩) | (go_at_call 58; refine (unhide Hdone).mono ?_; rintro e w' ⟨rfl, rfl⟩))
      go_ret
      exact ⟨ret_int (unhide He).symm, by rw [unhide Hs]; exact (unhide HO).after_same⟩
    · have He : Hid (advE ns W st.opened wk n = 0) := hide (by unfold advE; rw [hse, show decide (5 ≤ doneTo st.opened wk n 2 st.opened.length) = false by simpa using h5]; rfl)
      have Hs : Hid (advS ns W st wk n = advSt st wk n (doneTo st.opened wk n 2 st.opened.length)) := hide (by unfold advS; rw [unhide He]; rfl)
      generalize doneTo st.opened wk n 2 st.opened.length = k at *
      obtain ⟨wA, hwA⟩ : ∃ wA, (w.alloc (.cells #[.int .i64 n, .bool true, .int .i64 (k : Int), .int .i64 0, .int .i64 (-1), .int .i64 n, .bool true, .int .i64 ((k : Int) + 1), .int .i64 0, .int .i64 1] 67)).alloc (.cells #[.int .i64 wk, .slice (some ⟨w.heap.size, 0, none⟩) 2 2] 113) = wA := ⟨_, rfl⟩
      obtain ⟨hBA, hpA, hcA, hzA⟩ : Bw w wA ∧ wA.heap[w.heap.size]? = some (.cells #[.int .i64 n, .bool true, .int .i64 (k : Int), .int .i64 0, .int .i64 (-1), .int .i64 n, .bool true, .int .i64 ((k : Int) + 1), .int .i64 0, .int .i64 1] 67) ∧ wA.heap[w.heap.size + 1]? = some (.cells #[.int .i64 wk, .slice (some ⟨w.heap.size, 0, none⟩) 2 2] 113) ∧ wA.heap.size = w.heap.size + 2 := by
        rw [← hwA]
        exact ⟨(by repeat (first | exact Bw.refl _ | assumption | refine Bw.drew ?_ | refine Bw.drewN ?_ _ | refine Bw.alloc ?_ _ | refine Bw.trans ?_ (by assumption))), (Below.heap_alloc _ _ _ (by simp)).trans (heap_alloc_new w _), alloc_at _ _ (by simp), by simp⟩
      have hOA := hO.bw hBA
      obtain ⟨vs, hvl, hl1, hl2⟩ := hOA.log
      have r4 := cell_of_block (o := 4) (u := x.l) hO.root rfl
      have rlt := (Array.getElem?_eq_some_iff.1 hO.root).1
      have HOA := hide hOA
      have Hl1 := hide hl1
      have Hl2 := hide hl2
      have hPown : wA.ownsRow 0 67 5 (.slice (some ⟨w.heap.size, 0, none⟩) 2 2) 2 (ptsCells [⟨n, true, k, 0, -1⟩, ⟨n, true, (k : Int) + 1, 0, 1⟩]) := ⟨rfl, .inr ⟨w.heap.size, 2, _, rfl, Nat.zero_le _, hpA, Nat.le_refl _, by unfold maxLen; omega, rfl, rfl⟩⟩
      have HPown := hide hPown
      have hc0 := cell_of_block (o := 0) hcA rfl
      have hc1 := cell_of_block (o := 1) hcA rfl
      clear hO hse hs0 hl1 hl2 hOA hPown hpA hcA
      have hk5 : (k : Int) < 5 := by omega
      go_enter Tryz.func31, Tryz.ntmps31
      go_wp2_with (first | (go_at_call 57; refine (unhide Hsrc).mono ?_; rintro e w' ⟨rfl, rfl⟩) | (go_at_call 58; refine (unhide Hdone).mono ?_; rintro e w' ⟨rfl, rfl⟩) | (at_builtin; refine appL wA rfl _ _ _ 113 rfl _ 2 32 Tryz.infoChange Tryz.underlying79 rfl (by decide) 0 x.l st.log.length (logCells st.log vs) rfl (unhide Hl1).1 _ _ [.int .i64 wk, .slice (some ⟨_, 0, none⟩) 2 2] rfl rfl (cells2 hc0 hc1) (by simp [Value.oneCell']) (by omega) (by omega) (Nat.zero_le _) ?_; intro g' cap w2 ho2 hg2 hl2'; have hr2 := grown_block (unhide Hl1).1 hg2 (unhide HOA).root (.inl (by decide)); have q4 := cell_of_block (o := 4) (u := x.l) hr2 rfl; have q4f := frozen_of_block (o := 4) hr2; have q4l := (Array.getElem?_eq_some_iff.1 hr2).1; have HO3 := hide ((unhide HOA).addLog (c := ⟨wk, [⟨n, true, k, 0, -1⟩, ⟨n, true, (k : Int) + 1, 0, 1⟩]⟩) hvl (unhide Hl1) (unhide Hl2) (unhide HPown) ho2 hg2 hll); have q6 := cell_of_block (o := 6) (u := x.o) hr2 rfl; have q6f := frozen_of_block (o := 6) hr2; clear hr2) | (at_builtin; refine appL _ rfl _ _ _ 152 rfl _ 3 24 Tryz.infoGivenR Tryz.underlying80 rfl (by decide) 0 x.o st.opened.length (gvCells st.opened) rfl ((unhide HO3).bw ((Bw.refl _).alloc _)).opened.1 _ _ (Gv.cells ⟨n, wk, 2⟩) rfl rfl (gv_cells (cell_of_block (alloc_at _ _ (by simp)) rfl) (cell_of_block (alloc_at _ _ (by simp)) rfl) (cell_of_block (alloc_at _ _ (by simp)) rfl)) (gv_one _) (by omega) (by omega) (Nat.zero_le _) ?_; intro g2 cap2 w5 ho5 hg5 hl5; have hr5 := grown_block ((unhide HO3).bw ((Bw.refl _).alloc _)).opened.1 hg5 ((unhide HO3).bw ((Bw.refl _).alloc _)).root (.inl (by decide)); have p6 := cell_of_block (o := 6) (u := x.o) hr5 rfl; have p6f := frozen_of_block (o := 6) hr5; have p6l := (Array.getElem?_eq_some_iff.1 hr5).1; have HO6 := hide (((unhide HO3).bw ((Bw.refl _).alloc _)).addOpened (y := ⟨n, wk, 2⟩) ho5 hg5 hlo); clear hr5))
      go_ret
      refine ⟨ret_int (unhide He).symm, ?_⟩
      rw [unhide Hs]
      have hz2 := hg2.size
      have hz5 := hg5.size
      simp at hz5
      have hS3 : ∀ b, ((S b ∨ (Value.slice (some ⟨w'.heap.size, 0, none⟩) 2 2).ownBlock = some b) ∨ b = g') → S b ∨ w'.heap.size ≤ b := by
        intro b hb
        rcases hb with (hb | hb) | rfl
        · exact .inl hb
        · simp [Value.ownBlock] at hb; exact .inr (by omega)
        · rcases hl2' with h | h
          · exact .inl ((unhide Hl1).2 _ h)
          · exact .inr (by omega)
      refine ⟨_, _, unhide HO6, ?_, ?_⟩
      · have k1 : Chg S w' wA := Chg.bw hBA
        have k2 := chg_add (k := 4) (base := 0) (v' := .slice (some ⟨g', 0, none⟩) (st.log.length + 1) cap) (unhide Hl1) hg2 (unhide HOA).sroot rfl
        have k4 := chg_add (k := 6) (base := 0) (v' := .slice (some ⟨g2, 0, none⟩) (st.opened.length + 1) cap2) ((unhide HO3).bw ((Bw.refl _).alloc _)).opened hg5 (unhide HO3).sroot rfl
        exact ((k1.trans k2 fun _ h => .inl h).trans (Chg.bw (S := S) ((Bw.refl _).alloc _)) fun _ h => .inl h).trans k4 hS3
      · intro b hb
        rcases hb with hb | rfl
        · exact hS3 b hb
        · rcases hl5 with h | h
          · exact hS3 _ (((unhide HO3).opened).2 _ h)
          · simp at h; exact .inr (by omega)
end Go.Proofs.YtfemleimkbjehaaGreat
namespace Go.Proofs.YtfemleimkbjehaaGreat
set_option linter.unusedVariables false
set_option linter.unusedSimpArgs false
open Go.RowKit

def clsSt (st : RSt) (w n : Int) (k : Nat) : RSt := { st with log := st.log ++ [⟨w, [⟨n, true, k, 0, -1⟩]⟩], opened := st.opened ++ [⟨n, w, 3⟩] }
def clsS (ns : List Nd) (W : Nat) (st : RSt) (w n : Int) : RSt := if sourceE ns W st.opened w n == 0 then clsSt st w n (doneTo st.opened w n 2 st.opened.length) else st

set_option maxRecDepth 100000 in
set_option maxHeartbeats 4000000 in
theorem rclose_any {S : Nat → Prop} {rb : Nat} {x : RX} {ns : List Nd} {R W : Nat} {D : Nat → Nat → Int} {st : RSt} (wk n : Int) (w : World) (hO : ROwn w S rb x ns R W D st) (hlo : st.opened.length + 1 ≤ 1000000) (hll : st.log.length + 1 ≤ 1000000) :
    Calls Tryz.prog 33 #[.pointer (some ⟨rb, 0, none⟩), .int .i64 wk, .int .i64 n] w fun e w' => e = .returned (.int .i64 (sourceE ns W st.opened wk n)) ∧ ROwn.After w w' S rb ns R W D (clsS ns W st wk n) := by
  have HO := hide hO
  have HR := hide hO.read
  have Hsrc := hide (rsource_any wk n w hO.read)
  have Hdone := hide (rdone_any wk n 2 w hO.read)
  have hdl := doneTo_le st.opened wk n 2 st.opened.length
  cases hse : (sourceE ns W st.opened wk n != 0) with
  | true =>
    have Hne : Hid (sourceE ns W st.opened wk n ≠ 0) := hide (by simpa using hse)
    have Hs : Hid (clsS ns W st wk n = st) := hide (by unfold clsS; rw [if_neg (by simpa using unhide Hne)])
    generalize sourceE ns W st.opened wk n = se at *
    clear hO
    go_enter Tryz.func33, Tryz.ntmps33
    go_wp2_with (go_at_call 57; refine (unhide Hsrc).mono ?_; rintro e w' ⟨rfl, rfl⟩)
    go_ret
    exact ⟨rfl, by rw [unhide Hs]; exact (unhide HO).after_same⟩
  | false =>
    have hs0 : sourceE ns W st.opened wk n = 0 := by simpa using hse
    rw [hs0] at Hsrc
    have He : Hid (sourceE ns W st.opened wk n = 0) := hide hs0
    have Hs : Hid (clsS ns W st wk n = clsSt st wk n (doneTo st.opened wk n 2 st.opened.length)) := hide (by unfold clsS; rw [hs0]; rfl)
    generalize doneTo st.opened wk n 2 st.opened.length = k at *
    obtain ⟨wA, hwA⟩ : ∃ wA, (w.alloc (.cells #[.int .i64 n, .bool true, .int .i64 (k : Int), .int .i64 0, .int .i64 (-1)] 67)).alloc (.cells #[.int .i64 wk, .slice (some ⟨w.heap.size, 0, none⟩) 1 1] 113) = wA := ⟨_, rfl⟩
    obtain ⟨hBA, hpA, hcA, hzA⟩ : Bw w wA ∧ wA.heap[w.heap.size]? = some (.cells #[.int .i64 n, .bool true, .int .i64 (k : Int), .int .i64 0, .int .i64 (-1)] 67) ∧ wA.heap[w.heap.size + 1]? = some (.cells #[.int .i64 wk, .slice (some ⟨w.heap.size, 0, none⟩) 1 1] 113) ∧ wA.heap.size = w.heap.size + 2 := by
      rw [← hwA]
      exact ⟨(by repeat (first | exact Bw.refl _ | assumption | refine Bw.drew ?_ | refine Bw.drewN ?_ _ | refine Bw.alloc ?_ _ | refine Bw.trans ?_ (by assumption))), (Below.heap_alloc _ _ _ (by simp)).trans (heap_alloc_new w _), alloc_at _ _ (by simp), by simp⟩
    have hOA := hO.bw hBA
    obtain ⟨vs, hvl, hl1, hl2⟩ := hOA.log
    have r4 := cell_of_block (o := 4) (u := x.l) hO.root rfl
    have rlt := (Array.getElem?_eq_some_iff.1 hO.root).1
    have HOA := hide hOA
    have Hl1 := hide hl1
    have Hl2 := hide hl2
    have hPown : wA.ownsRow 0 67 5 (.slice (some ⟨w.heap.size, 0, none⟩) 1 1) 1 (ptsCells [⟨n, true, k, 0, -1⟩]) := ⟨rfl, .inr ⟨w.heap.size, 1, _, rfl, Nat.zero_le _, hpA, Nat.le_refl _, by unfold maxLen; omega, rfl, rfl⟩⟩
    have HPown := hide hPown
    have hc0 := cell_of_block (o := 0) hcA rfl
    have hc1 := cell_of_block (o := 1) hcA rfl
    clear hO hse hs0 hl1 hl2 hOA hPown hpA hcA
    go_enter Tryz.func33, Tryz.ntmps33
    go_wp2_with (first | (go_at_call 57; refine (unhide Hsrc).mono ?_; rintro e w' ⟨rfl, rfl⟩) | (go_at_call 58; refine (unhide Hdone).mono ?_; rintro e w' ⟨rfl, rfl⟩) | (at_builtin; refine appL wA rfl _ _ _ 113 rfl _ 2 32 Tryz.infoChange Tryz.underlying79 rfl (by decide) 0 x.l st.log.length (logCells st.log vs) rfl (unhide Hl1).1 _ _ [.int .i64 wk, .slice (some ⟨_, 0, none⟩) 1 1] rfl rfl (cells2 hc0 hc1) (by simp [Value.oneCell']) (by omega) (by omega) (Nat.zero_le _) ?_; intro g' cap w2 ho2 hg2 hl2'; have hr2 := grown_block (unhide Hl1).1 hg2 (unhide HOA).root (.inl (by decide)); have q4 := cell_of_block (o := 4) (u := x.l) hr2 rfl; have q4f := frozen_of_block (o := 4) hr2; have q4l := (Array.getElem?_eq_some_iff.1 hr2).1; have HO3 := hide ((unhide HOA).addLog (c := ⟨wk, [⟨n, true, k, 0, -1⟩]⟩) hvl (unhide Hl1) (unhide Hl2) (unhide HPown) ho2 hg2 hll); have q6 := cell_of_block (o := 6) (u := x.o) hr2 rfl; have q6f := frozen_of_block (o := 6) hr2; clear hr2) | (at_builtin; refine appL _ rfl _ _ _ 152 rfl _ 3 24 Tryz.infoGivenR Tryz.underlying80 rfl (by decide) 0 x.o st.opened.length (gvCells st.opened) rfl ((unhide HO3).bw ((Bw.refl _).alloc _)).opened.1 _ _ (Gv.cells ⟨n, wk, 3⟩) rfl rfl (gv_cells (cell_of_block (alloc_at _ _ (by simp)) rfl) (cell_of_block (alloc_at _ _ (by simp)) rfl) (cell_of_block (alloc_at _ _ (by simp)) rfl)) (gv_one _) (by omega) (by omega) (Nat.zero_le _) ?_; intro g2 cap2 w5 ho5 hg5 hl5; have hr5 := grown_block ((unhide HO3).bw ((Bw.refl _).alloc _)).opened.1 hg5 ((unhide HO3).bw ((Bw.refl _).alloc _)).root (.inl (by decide)); have p6 := cell_of_block (o := 6) (u := x.o) hr5 rfl; have p6f := frozen_of_block (o := 6) hr5; have p6l := (Array.getElem?_eq_some_iff.1 hr5).1; have HO6 := hide (((unhide HO3).bw ((Bw.refl _).alloc _)).addOpened (y := ⟨n, wk, 3⟩) ho5 hg5 hlo); clear hr5))
    go_ret
    refine ⟨ret_int (unhide He).symm, ?_⟩
    rw [unhide Hs]
    have hz2 := hg2.size
    have hz5 := hg5.size
    simp at hz5
    have hS3 : ∀ b, ((S b ∨ (Value.slice (some ⟨w'.heap.size, 0, none⟩) 1 1).ownBlock = some b) ∨ b = g') → S b ∨ w'.heap.size ≤ b := by
      intro b hb
      rcases hb with (hb | hb) | rfl
      · exact .inl hb
      · simp [Value.ownBlock] at hb; exact .inr (by omega)
      · rcases hl2' with h | h
        · exact .inl ((unhide Hl1).2 _ h)
        · exact .inr (by omega)
    refine ⟨_, _, unhide HO6, ?_, ?_⟩
    · have k1 : Chg S w' wA := Chg.bw hBA
      have k2 := chg_add (k := 4) (base := 0) (v' := .slice (some ⟨g', 0, none⟩) (st.log.length + 1) cap) (unhide Hl1) hg2 (unhide HOA).sroot rfl
      have k4 := chg_add (k := 6) (base := 0) (v' := .slice (some ⟨g2, 0, none⟩) (st.opened.length + 1) cap2) ((unhide HO3).bw ((Bw.refl _).alloc _)).opened hg5 (unhide HO3).sroot rfl
      exact ((k1.trans k2 fun _ h => .inl h).trans (Chg.bw (S := S) ((Bw.refl _).alloc _)) fun _ h => .inl h).trans k4 hS3
    · intro b hb
      rcases hb with hb | rfl
      · exact hS3 b hb
      · rcases hl5 with h | h
        · exact hS3 _ (((unhide HO3).opened).2 _ h)
        · simp at h; exact .inr (by omega)
end Go.Proofs.YtfemleimkbjehaaGreat
