import Derived.Test.YtfemleimkbjehaaGreatJ33
namespace Go.Proofs.YtfemleimkbjehaaGreat
set_option linter.unusedVariables false
set_option linter.unusedSimpArgs false
open Go.RowKit

/-- The belief at first. -/
def begT (ns : List Nd) (W : Nat) : Nat → Int := tabPts 4 (fun _ => 0) (begL ns W ns.length) (begL ns W ns.length).length
/-- What New has laid so far. -/
structure NewP (w wr : World) (gb qb rb : Nat) (vn vd vw : Value) (ns : List Nd) (ga : Option Addr) (gc R : Nat) : Prop where
  gr : wr.heap[gb]? = some (.cells #[.slice ga ns.length gc, .int .i64 (R : Int)] 24 (0, 0))
  qr : wr.heap[qb]? = some (.cells zrun 88 (0, 0))
  rt : wr.heap[rb]? = some (.cells #[vn, .int .i64 (R : Int), vd, vw, .int .i64 0, .slice none 0 0] 88 (0, 0))
  nd : wr.ownsRow w.heap.size 46 5 vn ns.length (nodeCells ns)
  ds : TabB w.heap.size wr vd ns.length ns.length (distD ns)
  qbl : w.heap.size ≤ qb
  rbl : w.heap.size ≤ rb
  ne : qb ≠ rb
  bel : Bw w wr
theorem NewP.bw {w a b : World} {gb qb rb gc R : Nat} {vn vd vw : Value} {ns : List Nd} {ga : Option Addr} (h : NewP w a gb qb rb vn vd vw ns ga gc R) (hb : Bw a b) : NewP w b gb qb rb vn vd vw ns ga gc R :=
  ⟨(Below.block hb _ (Array.getElem?_eq_some_iff.1 h.gr).1).trans h.gr, (Below.block hb _ (Array.getElem?_eq_some_iff.1 h.qr).1).trans h.qr, (Below.block hb _ (Array.getElem?_eq_some_iff.1 h.rt).1).trans h.rt, ownsRow_bw h.nd fun g hg => Below.block hb g hg, h.ds.bw hb, h.qbl, h.rbl, h.ne, h.bel.trans hb⟩

theorem NewP.grow {w a b : World} {gb qb rb gc R n sz base : Nat} {vn vd vw u : Value} {ns : List Nd} {ga : Option Addr} {xs : List Value} (h : NewP w a gb qb rb vn vd vw ns ga gc R) (hown : a.ownsRow base 147 sz u n xs) (hg : a.grownBy b u.ownBlock) (hbs : w.heap.size ≤ base) : NewP w b gb qb rb vn vd vw ns ga gc R :=
  ⟨grown_block hown hg h.gr (.inl (by decide)), grown_block hown hg h.qr (.inl (by decide)), grown_block hown hg h.rt (.inl (by decide)), ownsRow_grown hown hg h.nd (by decide), h.ds.map fun ty _ _ _ ht ho => ownsRow_grown hown hg ho (by rcases ht with rfl | rfl <;> decide), h.qbl, h.rbl, h.ne, bw_own hown hg h.bel hbs⟩
theorem NewP.setW {w a : World} {gb qb rb gc R : Nat} {vn vd vw v : Value} {ns : List Nd} {ga : Option Addr} (h : NewP w a gb qb rb vn vd vw ns ga gc R) : NewP w (a.setCell ⟨rb, 3, none⟩ v) gb qb rb vn vd v ns ga gc R := by
  have hgr : gb ≠ rb := fun e => by have h1 := h.gr; rw [e, h.rt] at h1; simp at h1
  exact ⟨(Below.heap_setCell a ⟨rb, 3, none⟩ v gb hgr).trans h.gr, (Below.heap_setCell a ⟨rb, 3, none⟩ v qb h.ne).trans h.qr, (heap_setCell_at h.rt).trans rfl, ownsRow_setT h.rt h.nd (by decide), h.ds.map fun ty _ _ _ ht ho => ownsRow_setT h.rt ho (by rcases ht with rfl | rfl <;> decide), h.qbl, h.rbl, h.ne, Bw.setCell h.bel h.rbl _⟩
theorem set5 {w : World} {q : Nat} {t : TypeId} (h : w.heap[q]? = some (.cells zrun t (0, 0))) (a b c d e f : Value) : ((((((w.setCell ⟨q, 0, none⟩ a).setCell ⟨q, 1, none⟩ b).setCell ⟨q, 2, none⟩ c).setCell ⟨q, 3, none⟩ d).setCell ⟨q, 4, none⟩ e).setCell ⟨q, 5, none⟩ f).heap[q]? = some (.cells #[a, b, c, d, e, f] t (0, 0)) ∧ Chg (fun x => x = q) w ((((((w.setCell ⟨q, 0, none⟩ a).setCell ⟨q, 1, none⟩ b).setCell ⟨q, 2, none⟩ c).setCell ⟨q, 3, none⟩ d).setCell ⟨q, 4, none⟩ e).setCell ⟨q, 5, none⟩ f) := by
  have h1 := heap_setCell_at (k := 0) (v := a) h
  have h2 := heap_setCell_at (k := 1) (v := b) h1
  have h3 := heap_setCell_at (k := 2) (v := c) h2
  have h4 := heap_setCell_at (k := 3) (v := d) h3
  have h5 := heap_setCell_at (k := 4) (v := e) h4
  have h6 := heap_setCell_at (k := 5) (v := f) h5
  refine ⟨h6.trans rfl, ?_⟩
  exact (((((chg_set _ _ _ _).trans (chg_set _ _ _ _) (fun _ h => .inl h)).trans (chg_set _ _ _ _) (fun _ h => .inl h)).trans (chg_set _ _ _ _) (fun _ h => .inl h)).trans (chg_set _ _ _ _) (fun _ h => .inl h)).trans (chg_set _ _ _ _) (fun _ h => .inl h)
theorem ownsRow_chg {w w' : World} {q base n sz : Nat} {ty t : TypeId} {v : Value} {xs : List Value} {arr : Array Value} (h : w.ownsRow base ty sz v n xs) (hq : w.heap[q]? = some (.cells arr t (0, 0))) (hc : Chg (fun x => x = q) w w') (hne : ty ≠ t) : w'.ownsRow base ty sz v n xs := by
  refine ownsRow_frame h fun b hb => ?_
  obtain ⟨cur, hcur⟩ := own_blk h hb
  refine hc.block b (Array.getElem?_eq_some_iff.1 hcur).1 (fun e => ?_)
  subst e
  rw [hq] at hcur
  simp only [Option.some.injEq, Obj.cells.injEq] at hcur
  exact hne hcur.2.1.symm
theorem TabB.weak {b c : Nat} {w : World} {v : Value} {n m : Nat} {f : Nat → Nat → Int} (h : TabB b w v n m f) (hc : c ≤ b) : TabB c w v n m f := by
  obtain ⟨vs, h1, h2⟩ := h
  refine ⟨vs, ownsRow_weaken h1 hc, fun i hi => ?_⟩
  obtain ⟨u, e, h3⟩ := h2 i hi
  exact ⟨u, e, ownsRow_weaken h3 hc⟩
theorem TabB.setR {base : Nat} {w : World} {v : Value} {n m rb k : Nat} {f : Nat → Nat → Int} {arr : Array Value} {fr : Nat × Nat} {u : Value} (h : TabB base w v n m f) (hr : w.heap[rb]? = some (.cells arr 88 fr)) : TabB base (w.setCell ⟨rb, k, none⟩ u) v n m f :=
  h.map fun ty _ _ _ ht h => ownsRow_setT hr h (by rcases ht with rfl | rfl <;> decide)

set_option maxRecDepth 100000 in
set_option maxHeartbeats 8000000 in
theorem prnew_ok (ns : List Nd) (ga : Option Addr) (gc : Nat) (R W : Nat) (w : World) (hn : NodesAt w ga ns) (hE : checkE ns R = 0) (h1 : 1 ≤ ns.length) (h8 : ns.length ≤ 8) (hW1 : 1 ≤ W) (hW4 : W ≤ 4) (hR4 : R ≤ 4) :
    Calls Tryz.prog 25 #[.agg #[.slice ga ns.length gc, .int .i64 (R : Int)], .int .i64 (W : Int)] w fun e w' => ∃ vn vd wb wc warr, e = .returned (.tuple #[.agg #[vn, .int .i64 (R : Int), vd, .slice (some ⟨wb, 0, none⟩) W wc, .int .i64 0, .slice none 0 0], .int .i64 0]) ∧ w'.ownsRow w.heap.size 46 5 vn ns.length (nodeCells ns) ∧ TabB w.heap.size w' vd ns.length ns.length (distD ns) ∧ w'.heap[wb]? = some (.cells warr 147 (0, 0)) ∧ w.heap.size ≤ wb ∧ W * 3684 ≤ warr.size ∧ warr.toList.take (W * 3684) = rowL (begT ns W) W ∧ Bw w w' := by
  obtain ⟨hg0, hr0, hB0⟩ := alloc2 w (.cells #[.slice ga ns.length gc, .int .i64 (R : Int)] 24) (.cells zrun 88)
  have Hck := hide (gcheck_any ns ga gc (R : Int) _ (hn.below hB0) (by unfold maxLen; omega))
  rw [hE] at Hck
  have d1 : decide ((W : Int) < 1) = false := by simp; omega
  have d2 : decide (4 < (W : Int)) = false := by simp; omega
  clear hE
  go_enter Tryz.func25, Tryz.ntmps25
  go_wp2_with (first | (go_at_call 49; refine (unhide Hck).mono ?_; rintro e w1 ⟨vv, rfl, _, hb1⟩; have hq1 := (Below.block hb1 _ (by simp)).trans hr0; have hg1 := (Below.block hb1 _ (by simp; omega)).trans hg0; have y0 := cell_of_block (o := 0) hg1 rfl; have y1 := cell_of_block (o := 1) hg1 rfl; have yl := (Array.getElem?_eq_some_iff.1 hg1).1; obtain ⟨w2, hw2⟩ : ∃ w2, w1.alloc (.cells #[.slice none 0 0, .int .i64 (R : Int), .slice none 0 0, .slice none 0 0, .int .i64 0, .slice none 0 0] 88) = w2 := ⟨_, rfl⟩; have hb2 : Bw w1 w2 := (by rw [← hw2]; exact (by repeat (first | exact Bw.refl _ | assumption | refine Bw.drew ?_ | refine Bw.drewN ?_ _ | refine Bw.alloc ?_ _ | refine Bw.trans ?_ (by assumption)))); have hr2 : w2.heap[w1.heap.size]? = some (.cells #[.slice none 0 0, .int .i64 (R : Int), .slice none 0 0, .slice none 0 0, .int .i64 0, .slice none 0 0] 88 (0, 0)) := (by rw [← hw2]; exact heap_alloc_new w1 _); have hc2 : CellsAt w2 ga ns.length (nodeCells ns) := nodes_row (hn.below (hB0.trans (hb1.trans hb2))); have z0 := cell_of_block (o := 0) hr2 rfl; have zl := (Array.getElem?_eq_some_iff.1 hr2).1; have hg2 := (Below.block hb2 _ yl).trans hg1; have y20 := cell_of_block (o := 0) hg2 rfl; have y2l := (Array.getElem?_eq_some_iff.1 hg2).1) | (at_builtin; refine appG w2 rfl _ _ _ 46 rfl _ 5 40 Tryz.infoNode Tryz.underlying22 rfl (by decide) w.heap.size (.slice none 0 0) 0 [] rfl (World.ownsRow_nil _ _ _ _) _ ns.length _ (nodeCells ns) rfl (nodeCells_len ns) hc2 (nodeCells_one ns) (by omega) (by omega) (Bw.size (hB0.trans (hb1.trans hb2))) ?_; intro v0 w3 hown3 hgr3 hl3; have hb3 := bw_grown hgr3; rw [Nat.zero_add, List.nil_append] at hown3; obtain ⟨na, nc, hv0⟩ : ∃ na nc, v0 = .slice na ns.length nc := ⟨_, _, ownsRow_val hown3⟩; subst hv0; have hr3 := (Below.block hb3 _ zl).trans hr2; have z30 := cell_of_block (o := 0) hr3 rfl; have z3f := frozen_of_block (o := 0) hr3; have z3l := (Array.getElem?_eq_some_iff.1 hr3).1; have hg3 := (Below.block hb3 _ y2l).trans hg2; have y30 := cell_of_block (o := 0) hg3 rfl; have y31 := cell_of_block (o := 1) hg3 rfl; have y3l := (Array.getElem?_eq_some_iff.1 hg3).1; have hgr' : ¬ w.heap.size = w1.heap.size := (by omega)))
  obtain ⟨rb, hrb⟩ : ∃ rb, w1.heap.size = rb := ⟨_, rfl⟩
  have hz1 : w.heap.size + 1 + 1 ≤ w1.heap.size := by have := hb1.size; simpa using this
  have hq3 := (Below.block (hb2.trans hb3) _ (Array.getElem?_eq_some_iff.1 hq1).1).trans hq1
  have hB3 : Bw w w3 := hB0.trans (hb1.trans (hb2.trans hb3))
  rw [hrb] at hr3 hz1
  rw [hrb]
  obtain ⟨qb, hqb⟩ : ∃ qb, w.heap.size + 1 = qb := ⟨_, rfl⟩
  rw [hqb] at hq3 hz1
  rw [hqb]
  obtain ⟨gb, hgb⟩ : ∃ gb, w.heap.size = gb := ⟨_, rfl⟩
  have hqg : gb + 1 = qb := by omega
  have hwg : w.heap.size = gb := hgb
  rw [hgb] at hg3
  rw [hgb]
  have hgr : gb ≠ rb := by omega
  have hqr : qb ≠ rb := by omega
  have hrl : w.heap.size ≤ rb := by omega
  have hql : w.heap.size ≤ qb := by omega
  obtain ⟨w4, hw4⟩ : ∃ w4, w3.setCell ⟨rb, 0, none⟩ (.slice na ns.length nc) = w4 := ⟨_, rfl⟩
  obtain ⟨hg4, hq4, hr4, hn4, hB4⟩ : w4.heap[gb]? = some (.cells #[.slice ga ns.length gc, .int .i64 (R : Int)] 24 (0, 0)) ∧ w4.heap[qb]? = some (.cells zrun 88 (0, 0)) ∧ w4.heap[rb]? = some (.cells #[.slice na ns.length nc, .int .i64 (R : Int), .slice none 0 0, .slice none 0 0, .int .i64 0, .slice none 0 0] 88 (0, 0)) ∧ w4.ownsRow w.heap.size 46 5 (.slice na ns.length nc) ns.length (nodeCells ns) ∧ Bw w w4 := by
    rw [← hw4]
    exact ⟨(Below.heap_setCell w3 ⟨rb, 0, none⟩ _ gb hgr).trans hg3, (Below.heap_setCell w3 ⟨rb, 0, none⟩ _ qb hqr).trans hq3, (heap_setCell_at hr3).trans rfl, ownsRow_setT hr3 hown3 (by decide), Bw.setCell hB3 hrl _⟩
  rw [hw4]
  clear hw4 hw2 hb1 hb2 hb3 hq1 hg1 hg2 hg3 hq3 hr2 hr3 hc2 hown3 hgr3 hl3 hr0 hg0 hB0 Hck y0 y1 yl z0 zl y20 y2l z30 z3f z3l y30 y31 y3l hgr' hrb hqb hgb hB3
  refine (pdistOf_any ns ga gc (R : Int) w4 (hn.below hB4) h1 h8).mono ?_
  rintro e5 w5 ⟨vd, rfl, hT5, hb5⟩
  obtain ⟨da, dc, hde⟩ : ∃ da dc, vd = .slice da ns.length dc := by
    obtain ⟨vs, h, _⟩ := hT5
    exact ⟨_, _, ownsRow_val h⟩
  subst hde
  have hr5 := (Below.block hb5 _ (Array.getElem?_eq_some_iff.1 hr4).1).trans hr4
  have hg5 := (Below.block hb5 _ (Array.getElem?_eq_some_iff.1 hg4).1).trans hg4
  have hq5 := (Below.block hb5 _ (Array.getElem?_eq_some_iff.1 hq4).1).trans hq4
  have k2 := cell_of_block (o := 2) hr5 rfl
  have k2f := frozen_of_block (o := 2) hr5
  have k2l := (Array.getElem?_eq_some_iff.1 hr5).1
  have g0 := cell_of_block (o := 0) hg5 rfl
  have g1 := cell_of_block (o := 1) hg5 rfl
  have gl := (Array.getElem?_eq_some_iff.1 hg5).1
  have hP6 : NewP w (w5.setCell ⟨rb, 2, none⟩ (.slice da ns.length dc)) gb qb rb (.slice na ns.length nc) (.slice da ns.length dc) (.slice none 0 0) ns ga gc R :=
    ⟨(Below.heap_setCell w5 ⟨rb, 2, none⟩ _ gb hgr).trans hg5, (Below.heap_setCell w5 ⟨rb, 2, none⟩ _ qb hqr).trans hq5, (heap_setCell_at hr5).trans rfl, ownsRow_setT hr5 (ownsRow_bw hn4 fun g hg => Below.block hb5 g hg) (by decide), (hT5.weak hB4.size).setR hr5, hql, hrl, hqr, Bw.setCell (hB4.trans hb5) hrl _⟩
  have HP6 := hide hP6
  clear hP6 hr5 hg5 hq5 hr4 hg4 hq4 hn4 hT5
  go_wp2_with fail
  obtain ⟨w6, hw6⟩ : ∃ w6, w5.setCell ⟨rb, 2, none⟩ (.slice da ns.length dc) = w6 := ⟨_, rfl⟩
  rw [hw6] at HP6
  rw [hw6]
  clear hw6 k2 k2f k2l g0 g1 gl
  refine (pbeg_any ns ga gc W (R : Int) w6 (hn.below (unhide HP6).bel) h8 hW4).mono ?_
  rintro e7 w7 ⟨vf, rfl, hof, hb7⟩
  obtain ⟨fa, fc, hfe⟩ : ∃ fa fc, vf = .slice fa (begL ns W ns.length).length fc := ⟨_, _, ownsRow_val hof⟩
  subst hfe
  go_wp2_with fail
  obtain ⟨w8, hw8⟩ : ∃ w8, w7.alloc (.cells #[.slice fa (begL ns W ns.length).length fc] 121) = w8 := ⟨_, rfl⟩
  have hb8 : Bw w7 w8 := by rw [← hw8]; exact (by repeat (first | exact Bw.refl _ | assumption | refine Bw.drew ?_ | refine Bw.drewN ?_ _ | refine Bw.alloc ?_ _ | refine Bw.trans ?_ (by assumption)))
  have hf8 : w8.heap[w7.heap.size]? = some (.cells #[.slice fa (begL ns W ns.length).length fc] 121 (0, 0)) := by rw [← hw8]; exact heap_alloc_new w7 _
  rw [hw8]
  have hP8 := (unhide HP6).bw (hb7.trans hb8)
  have hof8 : OwnP w w8 (.slice fa (begL ns W ns.length).length fc) (begL ns W ns.length) := (hof.bw hb8).weaken (unhide HP6).bel
  obtain ⟨fb, hfb⟩ : ∃ fb, w7.heap.size = fb := ⟨_, rfl⟩
  rw [hfb] at hf8
  rw [hfb]
  clear hw8 hfb hof hb7 hb8 HP6
  have hbl := begL_len ns W ns.length
  have Hbok := hide (fun j (hj : j < (begL ns W ns.length).length) => begL_ok (W := W) h8 ns.length (Nat.le_refl _) _ (ptn_mem hj))
  have HT : Hid (begT ns W = tabPts 4 (fun _ => 0) (begL ns W ns.length) (begL ns W ns.length).length) := hide rfl
  generalize begL ns W ns.length = bl at *
  obtain ⟨T, hTT⟩ : ∃ T, begT ns W = T := ⟨_, rfl⟩
  rw [hTT] at HT
  have HTT := hide hTT
  clear hTT
  obtain ⟨iw, hiw, hz0, hzs, hzb⟩ := info_parts Tryz.infoWorker
  have hz : ∀ w, (zeroValue 147).run Tryz.prog w = .ok (.agg zwL.toArray) w := (zero_of_info (P := Tryz.prog) (t := 147) (v := .agg zwL.toArray) (n := 3684) (by rw [hiw]; simp [hz0, hzs])).1
  have Hsz : Hid ((Tryz.prog.info? 147).map (·.size) = some 3684) := hide (by rw [hiw]; simp [hzs])
  have HzA : Hid ((Value.agg zwL.toArray).cells.size = 3684) := hide (by simp [Value.cells, zwL_len])
  clear hiw hz0 hzs hzb
  go_loopw [10] (fun idx wr => ∃ (k : Nat) (vw : Value), k ≤ W ∧ idx = .int .i64 k ∧ NewP w wr gb qb rb (.slice na ns.length nc) (.slice da ns.length dc) vw ns ga gc R ∧ wr.heap[fb]? = some (.cells #[.slice fa bl.length fc] 121 (0, 0)) ∧ OwnP w wr (.slice fa bl.length fc) bl ∧ wr.ownsRow w.heap.size 147 3684 vw k (rowL T k)) (fun idx _ => W - (intOf idx).toNat)
  case atStart => exact ⟨0, _, Nat.zero_le _, rfl, hP8, hf8, hof8, World.ownsRow_nil _ _ _ _⟩
  case round =>
    clear hP8 hf8 hof8
    obtain ⟨k, vw, hk, rfl, hP, hfx, hof, how⟩ := hrel
    rename World => wr
    obtain ⟨wa', wc', hvw⟩ : ∃ a c, vw = .slice a k c := ⟨_, _, ownsRow_val how⟩
    subst hvw
    have HP := hide hP
    have Hfx := hide hfx
    have Hof := hide hof
    have How := hide how
    have r3 := cell_of_block (o := 3) hP.rt rfl
    have rl := (Array.getElem?_eq_some_iff.1 hP.rt).1
    have f0 := cell_of_block (o := 0) hfx rfl
    have fl := (Array.getElem?_eq_some_iff.1 hfx).1
    by_cases hlt : k < W
    · have hl1 : decide ((k : Int) < (W : Int)) = true := by simp; omega
      clear hP hfx hof how
      go_wp2_with fail
      have hA := heap_alloc_new wr (.cells zwL.toArray 147)
      refine (pbelieve_any wr.heap.size 3296 147 zwL.toArray (fun _ => 0) bl fa fc _ (ptsAt_own ((unhide Hof).bw ((Bw.refl wr).alloc _))) (unhide Hbok) (by omega) (fun g off e => ?_) ⟨_, hA, rfl, fun _ _ => rfl, fun k hk => by simpa using zwL_bel k hk⟩).mono ?_
      · intro e2
        subst e2
        have h2 := (World.ownsRow.lt (unhide Hof) wr.heap.size (by rw [e]; rfl)).2
        omega
      rintro eB wB ⟨rfl, hbB, hCB⟩
      have hBB : Bw wr wB := Chg.toBw (S := fun b => b = wr.heap.size) ((Bw.refl wr).alloc _) hCB (fun x hx => by rw [hx]; exact Nat.le_refl _)
      rw [← unhide HT] at hbB
      have hoB := belIn_wkL hbB
      have HPB := hide ((unhide HP).bw hBB)
      have HoB := hide hoB
      have rB3 := cell_of_block (o := 3) (unhide HPB).rt rfl
      have rBl := (Array.getElem?_eq_some_iff.1 (unhide HPB).rt).1
      have Hrange : Hid (wB.rangeAt wr.heap.size 0 (wkL T)) := hide (fun j v hj => by rw [Nat.zero_add]; exact cell_of_block hoB (by simpa using hj))
      have Hsize : Hid ((Tryz.prog.info? 147).map (·.size) = some (wkL T).length) := hide (by rw [unhide Hsz, wkL_len])
      clear hbB hCB hoB hA r3 rl f0 fl
      have Hone := hide (fun u hu => (wkL_own T u hu).2)
      have Hwl := hide (show (wkL T).toArray.size = 3684 from by simp [wkL_len])
      have Hwl2 := hide (wkL_len T)
      go_wp2_with (first | (refine wpList_load_mid rfl 147 _ rfl wr.heap.size 0 rfl (wkL T) _ (unhide Hrange) Tryz.underlying147 rfl (unhide Hsize) ?_) | (refine buildL _ rfl _ _ 147 rfl 3684 _ (wkL T).toArray rfl Tryz.underlying86 hz (unhide Hsz) (unhide Hwl) (by omega) (by omega) ?_) | (at_builtin; refine appG _ rfl _ _ _ 147 rfl _ 3684 17696 Tryz.infoWorker Tryz.underlying86 (unhide HzA) (by decide) w.heap.size (.slice wa' k wc') k (rowL T k) rfl (ownsRow_bw (unhide How) fun g hg => Below.block (show Bw wr _ from (by repeat (first | exact Bw.refl _ | assumption | refine Bw.drew ?_ | refine Bw.drewN ?_ _ | refine Bw.alloc ?_ _ | refine Bw.trans ?_ (by assumption)))) g hg) _ 1 _ (wkL T) rfl (by rw [unhide Hwl2]) (fun _ => ⟨_, _, rfl, fun j u hj => by rw [Nat.zero_add]; exact cell_of_block (heap_alloc_new _ _) (by simpa using hj)⟩) (unhide Hone) (by omega) (by omega) (Nat.le_trans (Bw.size (unhide HP).bel) (Bw.size (show Bw wr _ from (by repeat (first | exact Bw.refl _ | assumption | refine Bw.drew ?_ | refine Bw.drewN ?_ _ | refine Bw.alloc ?_ _ | refine Bw.trans ?_ (by assumption)))))) ?_; intro vE wE hoE hgE hlE; obtain ⟨ea, ec, hee⟩ : ∃ ea ec, vE = .slice ea (k + 1) ec := ⟨_, _, ownsRow_val hoE⟩; subst hee; have HPE := hide (((unhide HPB).bw ((Bw.refl wB).alloc (.cells (wkL T).toArray 147))).grow (ownsRow_bw (unhide How) fun g hg => Below.block (show Bw wr _ from (by repeat (first | exact Bw.refl _ | assumption | refine Bw.drew ?_ | refine Bw.drewN ?_ _ | refine Bw.alloc ?_ _ | refine Bw.trans ?_ (by assumption)))) g hg) hgE (Nat.le_refl _)); have q3 := cell_of_block (o := 3) (unhide HPE).rt rfl; have q3f := frozen_of_block (o := 3) (unhide HPE).rt; have q3l := (Array.getElem?_eq_some_iff.1 (unhide HPE).rt).1))
      go_roundw
      case rel =>
        obtain ⟨wX, hwX, hBX⟩ : ∃ wX, wX = wB.alloc (.cells (wkL T).toArray 147) ∧ Bw wr wX := ⟨_, rfl, (by repeat (first | exact Bw.refl _ | assumption | refine Bw.drew ?_ | refine Bw.drewN ?_ _ | refine Bw.alloc ?_ _ | refine Bw.trans ?_ (by assumption)))⟩
        rw [← hwX] at hgE
        have howX := ownsRow_bw (unhide How) fun g hg => Below.block hBX g hg
        refine ⟨k + 1, _, by omega, by go_num, (unhide HPE).setW, ?_, ?_, ?_⟩
        · have h1 := grown_block howX hgE ((Below.block hBX _ (Array.getElem?_eq_some_iff.1 (unhide Hfx)).1).trans (unhide Hfx)) (.inl (by decide))
          exact (Below.heap_setCell wE ⟨rb, 3, none⟩ _ fb (fun e => by simp only at e; rw [e, (unhide HPE).rt] at h1; simp at h1)).trans h1
        · exact ownsRow_setT (unhide HPE).rt (ownsRow_grown howX hgE ((unhide Hof).bw hBX) (by decide)) (by decide)
        · rw [rowL_succ]
          exact ownsRow_setT (unhide HPE).rt hoE (by decide)
      case measure => simp [intOf]; omega
    · have hkW : k = W := by omega
      have hl1 : decide ((k : Int) < (W : Int)) = false := by simp; omega
      have HkW := hide hkW
      have How := hide how
      have HP := hide hP
      have hr0 := cell_of_block (o := 0) hP.rt rfl
      have hr1 := cell_of_block (o := 1) hP.rt rfl
      have hr2 := cell_of_block (o := 2) hP.rt rfl
      have hr4 := cell_of_block (o := 4) hP.rt rfl
      have hr5 := cell_of_block (o := 5) hP.rt rfl
      have hx0 := cell_of_block (o := 0) hP.qr rfl
      have hx1 := cell_of_block (o := 1) hP.qr rfl
      have hx2 := cell_of_block (o := 2) hP.qr rfl
      have hx3 := cell_of_block (o := 3) hP.qr rfl
      have hx4 := cell_of_block (o := 4) hP.qr rfl
      have hx5 := cell_of_block (o := 5) hP.qr rfl
      have hxf := fun k => frozen_of_block (o := k) hP.qr
      have hxl := (Array.getElem?_eq_some_iff.1 hP.qr).1
      have hne := hP.ne
      clear hP hfx hof how hkW
      go_wp2_with fail
      have hkW := unhide HkW
      subst hkW
      obtain ⟨s1, s2⟩ := set5 (unhide HP).qr (.slice na ns.length nc) (.int .i64 (R : Int)) (.slice da ns.length dc) (.slice wa' k wc') (.int .i64 0) (.slice none 0 0)
      obtain ⟨wF, hwF⟩ : ∃ wF, ((((((wr.setCell ⟨qb, 0, none⟩ (.slice na ns.length nc)).setCell ⟨qb, 1, none⟩ (.int .i64 (R : Int))).setCell ⟨qb, 2, none⟩ (.slice da ns.length dc)).setCell ⟨qb, 3, none⟩ (.slice wa' k wc')).setCell ⟨qb, 4, none⟩ (.int .i64 0)).setCell ⟨qb, 5, none⟩ (.slice none 0 0)) = wF := ⟨_, rfl⟩
      rw [hwF] at s1 s2
      rw [hwF]
      clear hwF
      have c0 := cell_of_block (o := 0) s1 rfl
      have c1 := cell_of_block (o := 1) s1 rfl
      have c2 := cell_of_block (o := 2) s1 rfl
      have c3 := cell_of_block (o := 3) s1 rfl
      have c4 := cell_of_block (o := 4) s1 rfl
      have c5 := cell_of_block (o := 5) s1 rfl
      refine bodyPost_ret (v := .tuple #[.agg #[.slice na ns.length nc, .int .i64 (R : Int), .slice da ns.length dc, .slice wa' k wc', .int .i64 0, .slice none 0 0], .int .i64 0]) (by simp [results, Tryz.results25, go_sem, c0, c1, c2, c3, c4, c5]) rfl ?_
      have hoF := ownsRow_chg (unhide How) (unhide HP).qr s2 (by decide)
      obtain ⟨_, h0 | ⟨g, cap, cur, hv, hgb, hgc, hcl, _, hcs, hct⟩⟩ := id hoF
      · omega
      · simp only [Value.slice.injEq] at hv
        obtain ⟨rfl, _, rfl⟩ := hv
        exact ⟨_, _, g, wc', cur, rfl, ownsRow_chg (unhide HP).nd (unhide HP).qr s2 (by decide), (unhide HP).ds.map fun ty _ _ _ ht ho => ownsRow_chg ho (unhide HP).qr s2 (by rcases ht with rfl | rfl <;> decide), hgc, hgb, by rw [hcs]; exact Nat.mul_le_mul_right _ hcl, by rw [unhide HTT]; exact hct, Chg.toBw (unhide HP).bel s2 (fun x hx => hx ▸ (unhide HP).qbl)⟩
end Go.Proofs.YtfemleimkbjehaaGreat
namespace Go.Proofs.YtfemleimkbjehaaGreat
set_option linter.unusedVariables false
set_option linter.unusedSimpArgs false
open Go.RowKit

set_option maxRecDepth 100000 in
set_option maxHeartbeats 4000000 in
theorem pnew_bad (ns : List Nd) (ga : Option Addr) (gc : Nat) (r wk : Int) (w : World) (hn : NodesAt w ga ns) (hgl : ns.length ≤ maxLen) (hE : newE ns r wk ≠ 0) :
    Calls Tryz.prog 13 #[.agg #[.slice ga ns.length gc, .int .i64 r], .int .i64 wk] w fun e w' => e = .returned (.tuple #[.pointer none, .int .i64 (newE ns r wk)]) ∧ Bw w w' := by
  have H := hide (fun (w' : World) (h : Bw w w') => prnew_bad ns ga gc r wk w' (hn.below h) hgl hE)
  generalize newE ns r wk = E at *
  have hE2 : (E != 0) = true := by simpa using hE
  clear hE hn
  go_enter Tryz.func13, Tryz.ntmps13
  go_wp2_with (go_at_call 25; refine ((unhide H) _ (by repeat (first | exact Bw.refl _ | assumption | refine Bw.drew ?_ | refine Bw.drewN ?_ _ | refine Bw.alloc ?_ _ | refine Bw.trans ?_ (by assumption)))).mono ?_; rintro e w1 ⟨rfl, hb1⟩; simp only [zrun])
  go_ret2
  exact ⟨rfl, (by repeat (first | exact Bw.refl _ | assumption | refine Bw.drew ?_ | refine Bw.drewN ?_ _ | refine Bw.alloc ?_ _ | refine Bw.trans ?_ (by assumption)))⟩

set_option maxRecDepth 100000 in
set_option maxHeartbeats 4000000 in
theorem pnew_ok (ns : List Nd) (ga : Option Addr) (gc : Nat) (R W : Nat) (w : World) (hn : NodesAt w ga ns) (hE : checkE ns R = 0) (h1 : 1 ≤ ns.length) (h8 : ns.length ≤ 8) (hW1 : 1 ≤ W) (hW4 : W ≤ 4) (hR1 : 1 ≤ R) (hR4 : R ≤ 4) :
    Calls Tryz.prog 13 #[.agg #[.slice ga ns.length gc, .int .i64 (R : Int)], .int .i64 (W : Int)] w fun e w' => ∃ pb x, e = .returned (.tuple #[.pointer (some ⟨pb, 0, none⟩), .int .i64 0]) ∧ POwn w' (fun b => w.heap.size ≤ b ∧ b < w'.heap.size) pb x ns R W (farD ns) (pst0 (begT ns W)) ∧ Bw w w' := by
  have H := hide (fun (w' : World) (h : Bw w w') => prnew_ok ns ga gc R W w' (hn.below h) hE h1 h8 hW1 hW4 hR4)
  clear hE hn
  go_enter Tryz.func13, Tryz.ntmps13
  go_wp2_with (go_at_call 25; refine ((unhide H) _ (by repeat (first | exact Bw.refl _ | assumption | refine Bw.drew ?_ | refine Bw.drewN ?_ _ | refine Bw.alloc ?_ _ | refine Bw.trans ?_ (by assumption)))).mono ?_; rintro e w1 ⟨vn, vd, wb, wc, warr, rfl, hnd, hds, hwk, hwl, hws, hwt, hb1⟩; obtain ⟨na, nc, hne⟩ : ∃ na nc, vn = .slice na ns.length nc := ⟨_, _, ownsRow_val hnd⟩; subst hne; obtain ⟨da, dc, hde⟩ : ∃ da dc, vd = .slice da ns.length dc := (by obtain ⟨vs, h, _⟩ := hds; exact ⟨_, _, ownsRow_val h⟩); subst hde)
  go_ret2
  obtain ⟨hA0, hA1, hAB⟩ := alloc2 w1 (.cells #[.slice na ns.length nc, .int .i64 (R : Int), .slice da ns.length dc, .slice (some ⟨wb, 0, none⟩) W wc, .int .i64 0, .slice none 0 0] 88) (.cells #[.slice na ns.length nc, .int .i64 (R : Int), .slice da ns.length dc, .slice (some ⟨wb, 0, none⟩) W wc, .int .i64 0, .slice none 0 0] 92)
  obtain ⟨w2, hw2⟩ : ∃ w2, (w1.alloc (.cells #[.slice na ns.length nc, .int .i64 (R : Int), .slice da ns.length dc, .slice (some ⟨wb, 0, none⟩) W wc, .int .i64 0, .slice none 0 0] 88)).alloc (.cells #[.slice na ns.length nc, .int .i64 (R : Int), .slice da ns.length dc, .slice (some ⟨wb, 0, none⟩) W wc, .int .i64 0, .slice none 0 0] 92) = w2 := ⟨_, rfl⟩
  rw [hw2] at hA1 hAB
  rw [hw2]
  have hB : Bw w w2 := (show Bw w w1 from (by repeat (first | exact Bw.refl _ | assumption | refine Bw.drew ?_ | refine Bw.drewN ?_ _ | refine Bw.alloc ?_ _ | refine Bw.trans ?_ (by assumption)))).trans hAB
  have hz : w.heap.size ≤ (w.alloc (.cells #[.slice ga ns.length gc, .int .i64 (R : Int)] 24)).heap.size := by simp
  have hz1 : w.heap.size ≤ w1.heap.size := Bw.size (by repeat (first | exact Bw.refl _ | assumption | refine Bw.drew ?_ | refine Bw.drewN ?_ _ | refine Bw.alloc ?_ _ | refine Bw.trans ?_ (by assumption)))
  have hnd2 := ownsRow_bw hnd fun g hg => Below.block hAB g hg
  have hwk2 := (Below.block hAB _ (Array.getElem?_eq_some_iff.1 hwk).1).trans hwk
  have hds2 : TabB w.heap.size w2 (.slice da ns.length dc) ns.length ns.length (farD ns) := by
    obtain ⟨vs, a1, a2⟩ := (hds.bw hAB).weak hz
    refine ⟨vs, a1, fun i hi => ?_⟩
    obtain ⟨u, eu, a3⟩ := a2 i hi
    refine ⟨u, eu, ?_⟩
    have : intRow ns.length (farD ns i) = intRow ns.length (distD ns i) := by
      unfold intRow
      refine List.map_congr_left fun j hj => ?_
      rw [distD_far h1 (by simpa using hj)]
    rw [this]
    exact a3
  refine ⟨w1.heap.size + 1, ⟨#[.slice na ns.length nc, .int .i64 (R : Int), .slice da ns.length dc, .slice (some ⟨wb, 0, none⟩) W wc, .int .i64 0, .slice none 0 0], .slice na ns.length nc, .slice da ns.length dc, wb, wc, warr⟩, rfl, ?_, hB⟩
  refine ⟨hA1, rfl, rfl, rfl, rfl, rfl, hwk2, ⟨by omega, (Array.getElem?_eq_some_iff.1 hA1).1⟩, ⟨Nat.le_trans hz hwl, (Array.getElem?_eq_some_iff.1 hwk2).1⟩, fun b hb => hb.2, ⟨ownsRow_weaken hnd2 (Nat.zero_le _), fun b hb => ⟨Nat.le_trans hz (World.ownsRow.lt hnd2 b hb).1, (World.ownsRow.lt hnd2 b hb).2⟩⟩, hds2.tabIn fun b a1 a2 => ⟨a1, a2⟩, PRow.first h8 hws hwt, ⟨h8, hR4, hW4, hW1, hR1, h1⟩, ⟨fun _ _ => by simp [pst0], by simp [pst0]⟩⟩
end Go.Proofs.YtfemleimkbjehaaGreat
