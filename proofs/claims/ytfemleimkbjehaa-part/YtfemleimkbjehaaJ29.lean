import Derived.Test.YtfemleimkbjehaaJ28
import Derived.Test.YtfemleimkbjehaaJ4
import Derived.Test.YtfemleimkbjehaaJ2
set_option maxRecDepth 1000000
set_option maxHeartbeats 40000000
set_option linter.unusedVariables false
set_option linter.unusedSimpArgs false
namespace Go.Proofs.Ytfemleimkbjehaa
open Go.RowKit
def tF (ns : List Nd) (W : Nat) : Nat → Int := kT 4 (fun _ => 0) (vP ns W ns.length) (vP ns W ns.length).length
structure NewP (w wr : World) (gb qb rb : Nat) (vn vd vw : Value) (ns : List Nd) (ga : Option Addr) (gc R : Nat) : Prop where
  gr : wr.heap[gb]? = some (.cells #[.slice ga ns.length gc, .int .i64 (R : Int)] 24 (0, 0))
  qr : wr.heap[qb]? = some (.cells zrun 104 (0, 0))
  rt : wr.heap[rb]? = some (.cells #[vn, .int .i64 (R : Int), vd, vw, .int .i64 0, .slice none 0 0] 104 (0, 0))
  nd : wr.ownsRow w.heap.size 32 5 vn ns.length (qM ns)
  ds : TabB w.heap.size wr vd ns.length ns.length (mX ns)
  qbl : w.heap.size ≤ qb
  rbl : w.heap.size ≤ rb
  ne : qb ≠ rb
  bel : Bw w wr
theorem NewP.bw {w a b : World} {gb qb rb gc R : Nat} {vn vd vw : Value} {ns : List Nd} {ga : Option Addr} (h : NewP w a gb qb rb vn vd vw ns ga gc R) (hb : Bw a b) : NewP w b gb qb rb vn vd vw ns ga gc R :=
  ⟨(Below.block hb _ (Array.getElem?_eq_some_iff.1 h.gr).1).trans h.gr, (Below.block hb _ (Array.getElem?_eq_some_iff.1 h.qr).1).trans h.qr, (Below.block hb _ (Array.getElem?_eq_some_iff.1 h.rt).1).trans h.rt, qP h.nd fun g hg => Below.block hb g hg, h.ds.bw hb, h.qbl, h.rbl, h.ne, h.bel.trans hb⟩
theorem NewP.grow {w a b : World} {gb qb rb gc R n sz base : Nat} {vn vd vw u : Value} {ns : List Nd} {ga : Option Addr} {xs : List Value} (h : NewP w a gb qb rb vn vd vw ns ga gc R) (hown : a.ownsRow base 162 sz u n xs) (hg : a.grownBy b u.ownBlock) (hbs : w.heap.size ≤ base) : NewP w b gb qb rb vn vd vw ns ga gc R :=
  ⟨kZ hown hg h.gr (.inl (by decide)), kZ hown hg h.qr (.inl (by decide)), kZ hown hg h.rt (.inl (by decide)), jU hown hg h.nd (by decide), h.ds.map fun ty _ _ _ ht ho => jU hown hg ho (by rcases ht with rfl | rfl <;> decide), h.qbl, h.rbl, h.ne, tD hown hg h.bel hbs⟩
theorem NewP.setW {w a : World} {gb qb rb gc R : Nat} {vn vd vw v : Value} {ns : List Nd} {ga : Option Addr} (h : NewP w a gb qb rb vn vd vw ns ga gc R) : NewP w (a.setCell ⟨rb, 3, none⟩ v) gb qb rb vn vd v ns ga gc R := by
  have hgr : gb ≠ rb := fun e => by have h1 := h.gr; rw [e, h.rt] at h1; simp at h1
  exact ⟨(Below.heap_setCell a ⟨rb, 3, none⟩ v gb hgr).trans h.gr, (Below.heap_setCell a ⟨rb, 3, none⟩ v qb h.ne).trans h.qr, (qY h.rt).trans rfl, kJ h.rt h.nd (by decide), h.ds.map fun ty _ _ _ ht ho => kJ h.rt ho (by rcases ht with rfl | rfl <;> decide), h.qbl, h.rbl, h.ne, Bw.setCell h.bel h.rbl _⟩
theorem set5 {w : World} {q : Nat} {t : TypeId} (h : w.heap[q]? = some (.cells zrun t (0, 0))) (a b c d e f : Value) : ((((((w.setCell ⟨q, 0, none⟩ a).setCell ⟨q, 1, none⟩ b).setCell ⟨q, 2, none⟩ c).setCell ⟨q, 3, none⟩ d).setCell ⟨q, 4, none⟩ e).setCell ⟨q, 5, none⟩ f).heap[q]? = some (.cells #[a, b, c, d, e, f] t (0, 0)) ∧ Chg (fun x => x = q) w ((((((w.setCell ⟨q, 0, none⟩ a).setCell ⟨q, 1, none⟩ b).setCell ⟨q, 2, none⟩ c).setCell ⟨q, 3, none⟩ d).setCell ⟨q, 4, none⟩ e).setCell ⟨q, 5, none⟩ f) := by
  have h1 := qY (k := 0) (v := a) h
  have h2 := qY (k := 1) (v := b) h1
  have h3 := qY (k := 2) (v := c) h2
  have h4 := qY (k := 3) (v := d) h3
  have h5 := qY (k := 4) (v := e) h4
  have h6 := qY (k := 5) (v := f) h5
  refine ⟨h6.trans rfl, ?_⟩
  exact (((((qC _ _ _ _).trans (qC _ _ _ _) (fun _ h => .inl h)).trans (qC _ _ _ _) (fun _ h => .inl h)).trans (qC _ _ _ _) (fun _ h => .inl h)).trans (qC _ _ _ _) (fun _ h => .inl h)).trans (qC _ _ _ _) (fun _ h => .inl h)
theorem mP {w w' : World} {q base n sz : Nat} {ty t : TypeId} {v : Value} {xs : List Value} {arr : Array Value} (h : w.ownsRow base ty sz v n xs) (hq : w.heap[q]? = some (.cells arr t (0, 0))) (hc : Chg (fun x => x = q) w w') (hne : ty ≠ t) : w'.ownsRow base ty sz v n xs := by
  refine kL h fun b hb => ?_
  obtain ⟨cur, hcur⟩ := zK h hb
  refine hc.block b (Array.getElem?_eq_some_iff.1 hcur).1 (fun e => ?_)
  subst e
  rw [hq] at hcur
  simp only [Option.some.injEq, Obj.cells.injEq] at hcur
  exact hne hcur.2.1.symm
theorem TabB.weak {b c : Nat} {w : World} {v : Value} {n m : Nat} {f : Nat → Nat → Int} (h : TabB b w v n m f) (hc : c ≤ b) : TabB c w v n m f := by
  obtain ⟨vs, h1, h2⟩ := h
  refine ⟨vs, kU h1 hc, fun i hi => ?_⟩
  obtain ⟨u, e, h3⟩ := h2 i hi
  exact ⟨u, e, kU h3 hc⟩
theorem TabB.setR {base : Nat} {w : World} {v : Value} {n m rb k : Nat} {f : Nat → Nat → Int} {arr : Array Value} {fr : Nat × Nat} {u : Value} (h : TabB base w v n m f) (hr : w.heap[rb]? = some (.cells arr 104 fr)) : TabB base (w.setCell ⟨rb, k, none⟩ u) v n m f :=
  h.map fun ty _ _ _ ht h => kJ hr h (by rcases ht with rfl | rfl <;> decide)
set_option maxRecDepth 100000 in
set_option maxHeartbeats 8000000 in
theorem prnew_ok (ns : List Nd) (ga : Option Addr) (gc : Nat) (R W : Nat) (w : World) (hn : NodesAt w ga ns) (hE : xY ns R = 0) (h1 : 1 ≤ ns.length) (h8 : ns.length ≤ 8) (hW1 : 1 ≤ W) (hW4 : W ≤ 4) (hR4 : R ≤ 4) :
    Calls Try.prog 80 #[.agg #[.slice ga ns.length gc, .int .i64 (R : Int)], .int .i64 (W : Int)] w fun e w' => ∃ vn vd wb wc warr, e = .returned (.tuple #[.agg #[vn, .int .i64 (R : Int), vd, .slice (some ⟨wb, 0, none⟩) W wc, .int .i64 0, .slice none 0 0], .int .i64 0]) ∧ w'.ownsRow w.heap.size 32 5 vn ns.length (qM ns) ∧ TabB w.heap.size w' vd ns.length ns.length (mX ns) ∧ w'.heap[wb]? = some (.cells warr 162 (0, 0)) ∧ w.heap.size ≤ wb ∧ W * 3684 ≤ warr.size ∧ warr.toList.take (W * 3684) = cS (tF ns W) W ∧ Bw w w' := by
  obtain ⟨hg0, hr0, hB0⟩ := yU w (.cells #[.slice ga ns.length gc, .int .i64 (R : Int)] 24) (.cells zrun 104)
  have Hck := qJ (gcheck_any ns ga gc (R : Int) _ (hn.below hB0) (by unfold maxLen; omega))
  rw [hE] at Hck
  have d1 : decide ((W : Int) < 1) = false := by simp; omega
  have d2 : decide (4 < (W : Int)) = false := by simp; omega
  clear hE
  go_enter Try.func80, Try.ntmps80
  go_wp2_with (first | (go_at_call 38; refine (qK Hck).mono ?_; rintro e w1 ⟨vv, rfl, _, hb1⟩; have hq1 := (Below.block hb1 _ (by simp)).trans hr0; have hg1 := (Below.block hb1 _ (by simp; omega)).trans hg0; have y0 := qQ (o := 0) hg1 rfl; have y1 := qQ (o := 1) hg1 rfl; have yl := (Array.getElem?_eq_some_iff.1 hg1).1; obtain ⟨w2, hw2⟩ : ∃ w2, w1.alloc (.cells #[.slice none 0 0, .int .i64 (R : Int), .slice none 0 0, .slice none 0 0, .int .i64 0, .slice none 0 0] 104) = w2 := ⟨_, rfl⟩; have hb2 : Bw w1 w2 := (by rw [← hw2]; exact (by repeat first|exact br _|assumption|apply bd|apply bn|apply ba|refine bt ?_ (by assumption))); have hr2 : w2.heap[w1.heap.size]? = some (.cells #[.slice none 0 0, .int .i64 (R : Int), .slice none 0 0, .slice none 0 0, .int .i64 0, .slice none 0 0] 104 (0, 0)) := (by rw [← hw2]; exact heap_alloc_new w1 _); have hc2 : CellsAt w2 ga ns.length (qM ns) := nodes_row (hn.below (hB0.trans (hb1.trans hb2))); have z0 := qQ (o := 0) hr2 rfl; have zl := (Array.getElem?_eq_some_iff.1 hr2).1; have hg2 := (Below.block hb2 _ yl).trans hg1; have y20 := qQ (o := 0) hg2 rfl; have y2l := (Array.getElem?_eq_some_iff.1 hg2).1) | (at_builtin; refine appG w2 rfl _ _ _ 32 rfl _ 5 40 Try.infoNode Try.underlying22 rfl (by decide) w.heap.size (.slice none 0 0) 0 [] rfl (World.ownsRow_nil _ _ _ _) _ ns.length _ (qM ns) rfl (uP ns) hc2 (uN ns) (by omega) (by omega) (Bw.size (hB0.trans (hb1.trans hb2))) ?_; intro v0 w3 hown3 hgr3 hl3; have hb3 := gP hgr3; rw [Nat.zero_add, List.nil_append] at hown3; obtain ⟨na, nc, hv0⟩ : ∃ na nc, v0 = .slice na ns.length nc := ⟨_, _, qW hown3⟩; subst hv0; have hr3 := (Below.block hb3 _ zl).trans hr2; have z30 := qQ (o := 0) hr3 rfl; have z3f := qZ (o := 0) hr3; have z3l := (Array.getElem?_eq_some_iff.1 hr3).1; have hg3 := (Below.block hb3 _ y2l).trans hg2; have y30 := qQ (o := 0) hg3 rfl; have y31 := qQ (o := 1) hg3 rfl; have y3l := (Array.getElem?_eq_some_iff.1 hg3).1; have hgr' : ¬ w.heap.size = w1.heap.size := (by omega)))
  obtain ⟨rb, hrb⟩ : ∃ rb, w1.heap.size = rb := ⟨_, rfl⟩
  have hz1 : w.heap.size + 1 + 1 ≤ w1.heap.size := by have := hb1.size; simpa using this
  have hq3 := (Below.block (hb2.trans hb3) _ (Array.getElem?_eq_some_iff.1 hq1).1).trans hq1
  have hB3 : Bw w w3 := hB0.trans (hb1.trans (hb2.trans hb3))
  rw [hrb] at hr3 hz1
  rw [hrb]
  obtain ⟨qb, hqb⟩ : ∃ qb, w.heap.size + 1 = qb := ⟨_, rfl⟩
  rw [hqb] at hq3 hz1
  rw [hqb]
  obtain ⟨gb, hgb⟩ : ∃ gb, w.heap.size = gb := ⟨_, rfl⟩
  have hqg : gb + 1 = qb := by omega
  have hwg : w.heap.size = gb := hgb
  rw [hgb] at hg3
  rw [hgb]
  have hgr : gb ≠ rb := by omega
  have hqr : qb ≠ rb := by omega
  have hrl : w.heap.size ≤ rb := by omega
  have hql : w.heap.size ≤ qb := by omega
  obtain ⟨w4, hw4⟩ : ∃ w4, w3.setCell ⟨rb, 0, none⟩ (.slice na ns.length nc) = w4 := ⟨_, rfl⟩
  obtain ⟨hg4, hq4, hr4, hn4, hB4⟩ : w4.heap[gb]? = some (.cells #[.slice ga ns.length gc, .int .i64 (R : Int)] 24 (0, 0)) ∧ w4.heap[qb]? = some (.cells zrun 104 (0, 0)) ∧ w4.heap[rb]? = some (.cells #[.slice na ns.length nc, .int .i64 (R : Int), .slice none 0 0, .slice none 0 0, .int .i64 0, .slice none 0 0] 104 (0, 0)) ∧ w4.ownsRow w.heap.size 32 5 (.slice na ns.length nc) ns.length (qM ns) ∧ Bw w w4 := by
    rw [← hw4]
    exact ⟨(Below.heap_setCell w3 ⟨rb, 0, none⟩ _ gb hgr).trans hg3, (Below.heap_setCell w3 ⟨rb, 0, none⟩ _ qb hqr).trans hq3, (qY hr3).trans rfl, kJ hr3 hown3 (by decide), Bw.setCell hB3 hrl _⟩
  rw [hw4]
  clear hw4 hw2 hb1 hb2 hb3 hq1 hg1 hg2 hg3 hq3 hr2 hr3 hc2 hown3 hgr3 hl3 hr0 hg0 hB0 Hck y0 y1 yl z0 zl y20 y2l z30 z3f z3l y30 y31 y3l hgr' hrb hqb hgb hB3
  refine (pdistOf_any ns ga gc (R : Int) w4 (hn.below hB4) h1 h8).mono ?_
  rintro e5 w5 ⟨vd, rfl, hT5, hb5⟩
  obtain ⟨da, dc, hde⟩ : ∃ da dc, vd = .slice da ns.length dc := by
    obtain ⟨vs, h, _⟩ := hT5
    exact ⟨_, _, qW h⟩
  subst hde
  have hr5 := (Below.block hb5 _ (Array.getElem?_eq_some_iff.1 hr4).1).trans hr4
  have hg5 := (Below.block hb5 _ (Array.getElem?_eq_some_iff.1 hg4).1).trans hg4
  have hq5 := (Below.block hb5 _ (Array.getElem?_eq_some_iff.1 hq4).1).trans hq4
  have k2 := qQ (o := 2) hr5 rfl
  have k2f := qZ (o := 2) hr5
  have k2l := (Array.getElem?_eq_some_iff.1 hr5).1
  have g0 := qQ (o := 0) hg5 rfl
  have g1 := qQ (o := 1) hg5 rfl
  have gl := (Array.getElem?_eq_some_iff.1 hg5).1
  have hP6 : NewP w (w5.setCell ⟨rb, 2, none⟩ (.slice da ns.length dc)) gb qb rb (.slice na ns.length nc) (.slice da ns.length dc) (.slice none 0 0) ns ga gc R :=
    ⟨(Below.heap_setCell w5 ⟨rb, 2, none⟩ _ gb hgr).trans hg5, (Below.heap_setCell w5 ⟨rb, 2, none⟩ _ qb hqr).trans hq5, (qY hr5).trans rfl, kJ hr5 (qP hn4 fun g hg => Below.block hb5 g hg) (by decide), (hT5.weak hB4.size).setR hr5, hql, hrl, hqr, Bw.setCell (hB4.trans hb5) hrl _⟩
  have HP6 := qJ hP6
  clear hP6 hr5 hg5 hq5 hr4 hg4 hq4 hn4 hT5
  go_wp2_with fail
  obtain ⟨w6, hw6⟩ : ∃ w6, w5.setCell ⟨rb, 2, none⟩ (.slice da ns.length dc) = w6 := ⟨_, rfl⟩
  rw [hw6] at HP6
  rw [hw6]
  clear hw6 k2 k2f k2l g0 g1 gl
  refine (pbeg_any ns ga gc W (R : Int) w6 (hn.below (qK HP6).bel) h8 hW4).mono ?_
  rintro e7 w7 ⟨vf, rfl, hof, hb7⟩
  obtain ⟨fa, fc, hfe⟩ : ∃ fa fc, vf = .slice fa (vP ns W ns.length).length fc := ⟨_, _, qW hof⟩
  subst hfe
  go_wp2_with fail
  obtain ⟨w8, hw8⟩ : ∃ w8, w7.alloc (.cells #[.slice fa (vP ns W ns.length).length fc] 183) = w8 := ⟨_, rfl⟩
  have hb8 : Bw w7 w8 := by rw [← hw8]; exact (by repeat first|exact br _|assumption|apply bd|apply bn|apply ba|refine bt ?_ (by assumption))
  have hf8 : w8.heap[w7.heap.size]? = some (.cells #[.slice fa (vP ns W ns.length).length fc] 183 (0, 0)) := by rw [← hw8]; exact heap_alloc_new w7 _
  rw [hw8]
  have hP8 := (qK HP6).bw (hb7.trans hb8)
  have hof8 : OwnP w w8 (.slice fa (vP ns W ns.length).length fc) (vP ns W ns.length) := (hof.bw hb8).weaken (qK HP6).bel
  obtain ⟨fb, hfb⟩ : ∃ fb, w7.heap.size = fb := ⟨_, rfl⟩
  rw [hfb] at hf8
  rw [hfb]
  clear hw8 hfb hof hb7 hb8 HP6
  have hbl := begL_len ns W ns.length
  have Hbok := qJ (fun j (hj : j < (vP ns W ns.length).length) => begL_ok (W := W) h8 ns.length (Nat.le_refl _) _ (tU hj))
  have HT : Hid (tF ns W = kT 4 (fun _ => 0) (vP ns W ns.length) (vP ns W ns.length).length) := qJ rfl
  generalize vP ns W ns.length = bl at *
  obtain ⟨T, hTT⟩ : ∃ T, tF ns W = T := ⟨_, rfl⟩
  rw [hTT] at HT
  have HTT := qJ hTT
  clear hTT
  obtain ⟨iw, hiw, hz0, hzs, hzb⟩ := info_parts Try.infoWorker
  have hz : ∀ w, (zeroValue 162).run Try.prog w = .ok (.agg zwL.toArray) w := (zero_of_info (P := Try.prog) (t := 162) (v := .agg zwL.toArray) (n := 3684) (by rw [hiw]; simp [hz0, hzs])).1
  have Hsz : Hid ((Try.prog.info? 162).map (·.size) = some 3684) := qJ (by rw [hiw]; simp [hzs])
  have HzA : Hid ((Value.agg zwL.toArray).cells.size = 3684) := qJ (by simp [Value.cells, zwL_len])
  clear hiw hz0 hzs hzb
  go_loopw [10] (fun idx wr => ∃ (k : Nat) (vw : Value), k ≤ W ∧ idx = .int .i64 k ∧ NewP w wr gb qb rb (.slice na ns.length nc) (.slice da ns.length dc) vw ns ga gc R ∧ wr.heap[fb]? = some (.cells #[.slice fa bl.length fc] 183 (0, 0)) ∧ OwnP w wr (.slice fa bl.length fc) bl ∧ wr.ownsRow w.heap.size 162 3684 vw k (cS T k)) (fun idx _ => W - (intOf idx).toNat)
  case atStart => exact ⟨0, _, Nat.zero_le _, rfl, hP8, hf8, hof8, World.ownsRow_nil _ _ _ _⟩
  case round =>
    clear hP8 hf8 hof8
    obtain ⟨k, vw, hk, rfl, hP, hfx, hof, how⟩ := hrel
    rename World => wr
    obtain ⟨wa', wc', hvw⟩ : ∃ a c, vw = .slice a k c := ⟨_, _, qW how⟩
    subst hvw
    have HP := qJ hP
    have Hfx := qJ hfx
    have Hof := qJ hof
    have How := qJ how
    have r3 := qQ (o := 3) hP.rt rfl
    have rl := (Array.getElem?_eq_some_iff.1 hP.rt).1
    have f0 := qQ (o := 0) hfx rfl
    have fl := (Array.getElem?_eq_some_iff.1 hfx).1
    by_cases hlt : k < W
    · have hl1 : decide ((k : Int) < (W : Int)) = true := by simp; omega
      clear hP hfx hof how
      go_wp2_with fail
      have hA := heap_alloc_new wr (.cells zwL.toArray 162)
      refine (nP wr.heap.size 3296 162 zwL.toArray (fun _ => 0) bl fa fc _ (lW ((qK Hof).bw ((Bw.refl wr).alloc _))) (qK Hbok) (by omega) (fun g off e => ?_) ⟨_, hA, rfl, fun _ _ => rfl, fun k hk => by simpa using zwL_bel k hk⟩).mono ?_
      · intro e2
        subst e2
        have h2 := (World.ownsRow.lt (qK Hof) wr.heap.size (by rw [e]; rfl)).2
        omega
      rintro eB wB ⟨rfl, hbB, hCB⟩
      have hBB : Bw wr wB := Chg.toBw (S := fun b => b = wr.heap.size) ((Bw.refl wr).alloc _) hCB (fun x hx => by rw [hx]; exact Nat.le_refl _)
      rw [← qK HT] at hbB
      have hoB := belIn_wkL hbB
      have HPB := qJ ((qK HP).bw hBB)
      have HoB := qJ hoB
      have rB3 := qQ (o := 3) (qK HPB).rt rfl
      have rBl := (Array.getElem?_eq_some_iff.1 (qK HPB).rt).1
      have Hrange : Hid (wB.rangeAt wr.heap.size 0 (wkL T)) := qJ (fun j v hj => by rw [Nat.zero_add]; exact qQ hoB (by simpa using hj))
      have Hsize : Hid ((Try.prog.info? 162).map (·.size) = some (wkL T).length) := qJ (by rw [qK Hsz, wkL_len])
      clear hbB hCB hoB hA r3 rl f0 fl
      have Hone := qJ (fun u hu => (wkL_own T u hu).2)
      have Hwl := qJ (show (wkL T).toArray.size = 3684 from by simp [wkL_len])
      have Hwl2 := qJ (wkL_len T)
      go_wp2_with (first | (refine wpList_load_mid rfl 162 _ rfl wr.heap.size 0 rfl (wkL T) _ (qK Hrange) Try.underlying162 rfl (qK Hsize) ?_) | (refine buildL _ rfl _ _ 162 rfl 3684 _ (wkL T).toArray rfl Try.underlying102 hz (qK Hsz) (qK Hwl) (by omega) (by omega) ?_) | (at_builtin; refine appG _ rfl _ _ _ 162 rfl _ 3684 17696 Try.infoWorker Try.underlying102 (qK HzA) (by decide) w.heap.size (.slice wa' k wc') k (cS T k) rfl (qP (qK How) fun g hg => Below.block (show Bw wr _ from (by repeat first|exact br _|assumption|apply bd|apply bn|apply ba|refine bt ?_ (by assumption))) g hg) _ 1 _ (wkL T) rfl (by rw [qK Hwl2]) (fun _ => ⟨_, _, rfl, fun j u hj => by rw [Nat.zero_add]; exact qQ (heap_alloc_new _ _) (by simpa using hj)⟩) (qK Hone) (by omega) (by omega) (Nat.le_trans (Bw.size (qK HP).bel) (Bw.size (show Bw wr _ from (by repeat first|exact br _|assumption|apply bd|apply bn|apply ba|refine bt ?_ (by assumption))))) ?_; intro vE wE hoE hgE hlE; obtain ⟨ea, ec, hee⟩ : ∃ ea ec, vE = .slice ea (k + 1) ec := ⟨_, _, qW hoE⟩; subst hee; have HPE := qJ (((qK HPB).bw ((Bw.refl wB).alloc (.cells (wkL T).toArray 162))).grow (qP (qK How) fun g hg => Below.block (show Bw wr _ from (by repeat first|exact br _|assumption|apply bd|apply bn|apply ba|refine bt ?_ (by assumption))) g hg) hgE (Nat.le_refl _)); have q3 := qQ (o := 3) (qK HPE).rt rfl; have q3f := qZ (o := 3) (qK HPE).rt; have q3l := (Array.getElem?_eq_some_iff.1 (qK HPE).rt).1))
      go_roundw
      case rel =>
        obtain ⟨wX, hwX, hBX⟩ : ∃ wX, wX = wB.alloc (.cells (wkL T).toArray 162) ∧ Bw wr wX := ⟨_, rfl, (by repeat first|exact br _|assumption|apply bd|apply bn|apply ba|refine bt ?_ (by assumption))⟩
        rw [← hwX] at hgE
        have howX := qP (qK How) fun g hg => Below.block hBX g hg
        refine ⟨k + 1, _, by omega, by go_num, (qK HPE).setW, ?_, ?_, ?_⟩
        · have h1 := kZ howX hgE ((Below.block hBX _ (Array.getElem?_eq_some_iff.1 (qK Hfx)).1).trans (qK Hfx)) (.inl (by decide))
          exact (Below.heap_setCell wE ⟨rb, 3, none⟩ _ fb (fun e => by simp only at e; rw [e, (qK HPE).rt] at h1; simp at h1)).trans h1
        · exact kJ (qK HPE).rt (jU howX hgE ((qK Hof).bw hBX) (by decide)) (by decide)
        · rw [rowL_succ]
          exact kJ (qK HPE).rt hoE (by decide)
      case measure => simp [intOf]; omega
    · have hkW : k = W := by omega
      have hl1 : decide ((k : Int) < (W : Int)) = false := by simp; omega
      have HkW := qJ hkW
      have How := qJ how
      have HP := qJ hP
      have hr0 := qQ (o := 0) hP.rt rfl
      have hr1 := qQ (o := 1) hP.rt rfl
      have hr2 := qQ (o := 2) hP.rt rfl
      have hr4 := qQ (o := 4) hP.rt rfl
      have hr5 := qQ (o := 5) hP.rt rfl
      have hx0 := qQ (o := 0) hP.qr rfl
      have hx1 := qQ (o := 1) hP.qr rfl
      have hx2 := qQ (o := 2) hP.qr rfl
      have hx3 := qQ (o := 3) hP.qr rfl
      have hx4 := qQ (o := 4) hP.qr rfl
      have hx5 := qQ (o := 5) hP.qr rfl
      have hxf := fun k => qZ (o := k) hP.qr
      have hxl := (Array.getElem?_eq_some_iff.1 hP.qr).1
      have hne := hP.ne
      clear hP hfx hof how hkW
      go_wp2_with fail
      have hkW := qK HkW
      subst hkW
      obtain ⟨s1, s2⟩ := set5 (qK HP).qr (.slice na ns.length nc) (.int .i64 (R : Int)) (.slice da ns.length dc) (.slice wa' k wc') (.int .i64 0) (.slice none 0 0)
      obtain ⟨wF, hwF⟩ : ∃ wF, ((((((wr.setCell ⟨qb, 0, none⟩ (.slice na ns.length nc)).setCell ⟨qb, 1, none⟩ (.int .i64 (R : Int))).setCell ⟨qb, 2, none⟩ (.slice da ns.length dc)).setCell ⟨qb, 3, none⟩ (.slice wa' k wc')).setCell ⟨qb, 4, none⟩ (.int .i64 0)).setCell ⟨qb, 5, none⟩ (.slice none 0 0)) = wF := ⟨_, rfl⟩
      rw [hwF] at s1 s2
      rw [hwF]
      clear hwF
      have c0 := qQ (o := 0) s1 rfl
      have c1 := qQ (o := 1) s1 rfl
      have c2 := qQ (o := 2) s1 rfl
      have c3 := qQ (o := 3) s1 rfl
      have c4 := qQ (o := 4) s1 rfl
      have c5 := qQ (o := 5) s1 rfl
      refine bodyPost_ret (v := .tuple #[.agg #[.slice na ns.length nc, .int .i64 (R : Int), .slice da ns.length dc, .slice wa' k wc', .int .i64 0, .slice none 0 0], .int .i64 0]) (by simp [results, Try.results80, go_sem, c0, c1, c2, c3, c4, c5]) rfl ?_
      have hoF := mP (qK How) (qK HP).qr s2 (by decide)
      obtain ⟨_, h0 | ⟨g, cap, cur, hv, hgb, hgc, hcl, _, hcs, hct⟩⟩ := id hoF
      · omega
      · simp only [Value.slice.injEq] at hv
        obtain ⟨rfl, _, rfl⟩ := hv
        exact ⟨_, _, g, wc', cur, rfl, mP (qK HP).nd (qK HP).qr s2 (by decide), (qK HP).ds.map fun ty _ _ _ ht ho => mP ho (qK HP).qr s2 (by rcases ht with rfl | rfl <;> decide), hgc, hgb, by rw [hcs]; exact Nat.mul_le_mul_right _ hcl, by rw [qK HTT]; exact hct, Chg.toBw (qK HP).bel s2 (fun x hx => hx ▸ (qK HP).qbl)⟩
theorem zV : ∀ k, qH (fun _ => 0) k = 0
  | 0 => rfl
  | k + 1 => by rw [qH, zV k]; rfl
theorem bV (c : Int) : ∀ k, qH (fun _ => c) k = k * c
  | 0 => by simp [qH]
  | k + 1 => by rw [qH, bV c k, Int.natCast_add, Int.add_mul]; simp
theorem beg_cnt {ns : List Nd} {W k : Nat} : ∀ K, kX (vP ns W K) k = if k / 48 < K ∧ (qV ns (k / 48)).kind = 0 ∧ k = 48 * (k / 48) + 24 then (W : Int) else 0
  | 0 => by simp [vP, kX]
  | K + 1 => by
    have ih := beg_cnt (ns := ns) (W := W) (k := k) K
    have hsp : rY 4 ⟨(K : Int), true, 0, 0, (W : Int)⟩ = 48 * K + 24 := by have := pK K true 0 0 W; simpa using this
    rw [vP]
    by_cases h0 : (qV ns K).kind = 0
    · rw [if_pos (by simpa using h0), uC, ih]
      simp only [kX, hsp]
      by_cases h1 : 48 * K + 24 = k
      · have h2 : k / 48 = K := by omega
        rw [if_pos h1, if_neg (by omega), if_pos ⟨by omega, by rw [h2]; exact h0, by omega⟩]; omega
      · rw [if_neg h1]
        by_cases h2 : k / 48 < K ∧ (qV ns (k / 48)).kind = 0 ∧ k = 48 * (k / 48) + 24
        · rw [if_pos h2, if_pos ⟨by omega, h2.2⟩]; omega
        · rw [if_neg h2, if_neg (fun hh => h2 ⟨by omega, hh.2⟩)]; omega
    · rw [if_neg (by simpa using h0), ih]
      by_cases h2 : k / 48 < K ∧ (qV ns (k / 48)).kind = 0 ∧ k = 48 * (k / 48) + 24
      · rw [if_pos h2, if_pos ⟨by omega, h2.2⟩]
      · rw [if_neg h2, if_neg (fun hh => h2 ⟨by
          have : k / 48 ≠ K := fun e => h0 (e ▸ hh.2.1)
          omega, hh.2⟩)]
theorem zw_wn {k : Nat} (hk : k < 24) : wnOf (fun k => zwT.getD k undef) k = false := by
  unfold wnOf
  have : zwT.getD k undef = .bool false := by
    unfold zwT List.getD
    rw [List.getElem?_append_left (by simpa using hk), List.getElem?_replicate, if_pos hk]; rfl
  simp only [this]
theorem KInv.beg {ns : List Nd} {D : Nat → Nat → Int} {W : Nat} : KInv ns D W (rP (tF ns W)) := by
  refine ⟨fun w hw k hk => ?_, fun w hw => rfl, fun w j hw hj hne => trivial, fun w j hw hj c hc => absurd hc (by simp [rP])⟩
  have h1 : pV W (rP (tF ns W)).wy w k = 0 := zV W
  have h2 : (rP (tF ns W)).tb w k = wrap64 (0 + kX (vP ns W ns.length) k) := gW (t := fun _ => 0) (x := 0) (by unfold wrap64; omega)
  rw [h1, h2, beg_cnt]
  congr 1
  rw [Int.zero_add, Int.sub_zero]
  unfold pC rU
  by_cases ho : k / 24 % 2 = 0
  · rw [if_pos ho, if_neg (by omega)]
    exact (zV W).symm
  · rw [if_neg ho]
    by_cases hl : k / 48 < ns.length
    · rw [gY hl]
      by_cases h0 : (qV ns (k / 48)).kind = 0
      · rw [if_pos h0]
        by_cases h3 : k = 48 * (k / 48) + 24
        · rw [if_pos ⟨hl, h0, h3⟩]
          have : qH (fun i => if rM (rP (tF ns W)) i k then (1 : Int) else 0) W = qH (fun _ => 1) W := kP fun i hi => by
            have : rM (rP (tF ns W)) i k = true := by
              unfold rM
              show (!false && (decide ((0 : Int) = _) && _)) = true
              simp; omega
            rw [this]; rfl
          rw [this, bV]; omega
        · rw [if_neg (fun hh => h3 hh.2.2)]
          have : qH (fun i => if rM (rP (tF ns W)) i k then (1 : Int) else 0) W = qH (fun _ => 0) W := kP fun i hi => by
            have : rM (rP (tF ns W)) i k = false := by
              unfold rM
              show (!false && (decide ((0 : Int) = _) && _)) = false
              simp; omega
            rw [this]; rfl
          rw [this, zV]
      · rw [if_neg h0, if_neg (fun hh => h0 hh.2.1)]
        split
        · have : qH (fun i => if wnOf ((rP (tF ns W)).tl i (k / 48)) (k % 24) then (1 : Int) else 0) W = qH (fun _ => 0) W := kP fun i hi => by
            have : wnOf ((rP (tF ns W)).tl i (k / 48)) (k % 24) = false := zw_wn (by omega)
            rw [this]; rfl
          rw [this, zV]
        · rfl
    · have : kdN ns (k / 48) = 1 := if_neg hl
      rw [this, if_neg (fun hh => hl hh.1), if_neg (by omega), if_neg (by omega)]
theorem pacts_nil {L W : Nat} {p : PSt} {frs : Nat → Nat → List Tm} : ∀ k, kW L W p frs k = [] → ∀ i, i < k → wkN (p.wt i) i L = [] ∧ oth L W p frs i = []
  | 0, _, i, h => absurd h (Nat.not_lt_zero _)
  | k + 1, h, i, hi => by
    rw [kW, List.append_eq_nil_iff, List.append_eq_nil_iff] at h
    by_cases e : i = k
    · subst e; exact h.2
    · exact pacts_nil k h.1 i (by omega)
theorem cwTo_nil {f : Nat → List Gv} : ∀ k, vG f k = 0 → ∀ n, n < k → f n = []
  | 0, _, n, h => absurd h (Nat.not_lt_zero _)
  | k + 1, h, n, hn => by
    rw [vG] at h
    by_cases e : n = k
    · subst e; exact List.eq_nil_of_length_eq_zero (by omega)
    · exact cwTo_nil k (by omega) n (by omega)
theorem ptX_nil {f : Nat → List (List Pt)} {i : Nat} : ∀ k, ptX f i k = [] → ∀ x, x < k → f x = []
  | 0, _, n, h => absurd h (Nat.not_lt_zero _)
  | k + 1, h, n, hn => by
    rw [ptX] at h
    split at h
    · rename_i h0
      by_cases e : n = k
      · subst e; exact List.eq_nil_of_length_eq_zero h0
      · exact ptX_nil k h n (by omega)
    · simp at h
theorem pnT_nil {i n : Nat} {fr ts : List Tm} : ∀ k, k ≤ ts.length → pnT i n fr ts k = [] → ∀ j, j < k → zC fr (nB ts j).e.toNat (nB ts j).s.toNat fr.length = false
  | 0, _, _, j, h => absurd h (Nat.not_lt_zero _)
  | k + 1, hk, h, j, hj => by
    rw [pnT] at h
    split at h
    · simp at h
    · rename_i h0
      by_cases e : j = k
      · subst e; simpa using h0
      · exact pnT_nil k (by omega) h j (by omega)
theorem pnN_nil {i : Nat} {frs tms : Nat → List Tm} : ∀ k, pnN i frs tms k = [] → ∀ n, n < k → pnT i n (frs n) (tms n) (tms n).length = []
  | 0, _, n, h => absurd h (Nat.not_lt_zero _)
  | k + 1, h, n, hn => by
    rw [pnN, List.append_eq_nil_iff] at h
    by_cases e : n = k
    · subst e; exact h.2
    · exact pnN_nil k h.1 n (by omega)
theorem tmS_in {wn : Nat → Bool} {e s : Nat} (h : wn (e * 4 + s) = true) : ∀ m, s < m → (⟨(e : Int), (s : Int)⟩ : Tm) ∈ tmS wn e m
  | 0, h => absurd h (Nat.not_lt_zero _)
  | m + 1, hs => by
    rw [tmS]
    by_cases e1 : s = m
    · subst e1; rw [if_pos h]; exact List.mem_append.2 (.inr (by simp))
    · have := tmS_in h m (by omega)
      split
      · exact List.mem_append.2 (.inl this)
      · exact this
theorem tmE_in {wn : Nat → Bool} {e s : Nat} (h : wn (e * 4 + s) = true) (hs : s < 4) : ∀ m, e < m → (⟨(e : Int), (s : Int)⟩ : Tm) ∈ mG wn m
  | 0, h => absurd h (Nat.not_lt_zero _)
  | m + 1, he => by
    rw [mG]
    by_cases e1 : e = m
    · subst e1; exact List.mem_append.2 (.inr (tmS_in h 4 hs))
    · exact List.mem_append.2 (.inl (tmE_in h hs m (by omega)))
def NoLoop (ns : List Nd) (D : Nat → Nat → Int) : Prop := ∀ m n, m < ns.length → n < ns.length → (qV ns m).kind ≠ 4 → D m n = 0 → cL ns m < cL ns n
theorem ended {ns : List Nd} {D : Nat → Nat → Int} {R W B : Nat} {p : PSt} (hL : NoLoop ns D) (hK : KInv ns D W p) (hp : PInv ns R p B) (hB : B ≤ 100000000) (h8 : ns.length ≤ 8) (hR : R ≤ 4) (hW : W ≤ 4) (hcl : ∀ i n, i < W → n < ns.length → (qV ns n).kind = 0 → p.cl i n = true) (hwr : ∀ i n e s, i < W → n < ns.length → e < 6 → s < 4 → wnOf (p.tl i n) (e * 4 + s) = true → s < R) (hout : ∀ i n, ns.length ≤ n → p.wt i n = []) (h : kW ns.length W p (lH ns D R p) W = []) :
    (∀ i n, i < W → n < ns.length → p.wt i n = []) ∧ (∀ i j, i < W → j < W → p.wy i j = []) ∧ ∀ i n e s, i < W → n < ns.length → e < 6 → s < 4 → wnOf (p.tl i n) (e * 4 + s) = false := by
  have h0 := pacts_nil W h
  have hwt : ∀ i n, i < W → n < ns.length → p.wt i n = [] := fun i n hi hn => cwTo_nil ns.length (by rw [← pY, (h0 i hi).1]; rfl) n hn
  have hot : ∀ i, i < W → pnN i (lH ns D R p i) (fun n => mG (wnOf (p.tl i n)) 6) ns.length = [] ∧ ptX (p.wy i) i W = [] := fun i hi => by
    have := (h0 i hi).2
    unfold oth at this
    exact List.append_eq_nil_iff.1 this
  have hwy : ∀ i j, i < W → j < W → p.wy i j = [] := fun i j hi hj => ptX_nil W (hot i hi).2 j hj
  refine ⟨hwt, hwy, ?_⟩
  have main : ∀ r i n e s, i < W → n < ns.length → e < 6 → s < 4 → rkS ns (xB n e s true) < r → wnOf (p.tl i n) (e * 4 + s) = false := by
    intro r
    induction r with
    | zero => intro i n e s _ _ _ _ h; omega
    | succ r ih =>
      intro i n e s hi hn h6 h4 hr
      cases hw : wnOf (p.tl i n) (e * 4 + s) with
      | false => rfl
      | true =>
        exfalso
        have hsR := hwr i n e s hi hn h6 h4 hw
        have hk6 := hp.six (by omega) hw
        obtain ⟨j, hj, ej⟩ := tmn_at (tmE_in hw h4 6 h6)
        have hno := pnT_nil _ (Nat.le_refl _) (pnN_nil ns.length (hot i hi).1 n hn) j hj
        simp only [ej, Int.toNat_natCast] at hno
        have hyes : zC (lH ns D R p i n) e s (lH ns D R p i n).length = true := by
          refine (fr_free hR hsR).2 fun k hk hc => ?_
          have hway : pV W p.wy i k = 0 := by
            have : pV W p.wy i k = qH (fun _ => 0) W := kP fun b hb => by rw [hwy i b hi hb]; rfl
            rw [this, zV]
          have htr : pC ns W p k = 0 := by
            unfold pC tZ rU
            by_cases hl : k / 48 < ns.length
            · split
              · have : qH (fun i => tY (p.wt i (k / 48)) (k / 4 % 6) (k % 4)) W = qH (fun _ => 0) W := kP fun b hb => by rw [hwt b _ hb hl]; rfl
                rw [this, zV]
              · rename_i ho
                rw [gY hl]
                split
                · rename_i hk0
                  have : qH (fun i => if rM p i k then (1 : Int) else 0) W = qH (fun _ => 0) W := kP fun b hb => by
                    have : rM p b k = false := by unfold rM; rw [hcl b _ hb hl hk0]; rfl
                    rw [this]; rfl
                  rw [this, zV]
                · split
                  · rename_i hkm
                    have : qH (fun i => if wnOf (p.tl i (k / 48)) (k % 24) then (1 : Int) else 0) W = qH (fun _ => 0) W := kP fun b hb => by
                      obtain ⟨e', s', g1, g2, g3⟩ : ∃ e' s', e' < 6 ∧ s' < 4 ∧ k = xB (k / 48) e' s' true := ⟨k / 4 % 6, k % 4, by omega, by omega, by unfold xB; simp only [if_true]; omega⟩
                      have hk24 : k % 24 = e' * 4 + s' := by unfold xB at g3; simp only [if_true] at g3; omega
                      rw [hk24]
                      have hc2 := hc
                      rw [g3, xV g1 g2, cQ] at hc2
                      have : wnOf (p.tl b (k / 48)) (e' * 4 + s') = false := by
                        refine ih b (k / 48) e' s' hb hl g1 g2 ?_
                        rw [uH ns h6 h4] at hr
                        rw [uH ns g1 g2]
                        have t1 := topo_le (ns := ns) (n := k / 48) (by omega)
                        have t2 := topo_le (ns := ns) (n := n) (by omega)
                        obtain ⟨c1, c2, c3⟩ := hc2
                        split at c2
                        · omega
                        · rename_i hd
                          rw [if_neg hd] at c3
                          by_cases q1 : e' < e
                          · omega
                          · by_cases q2 : s' < s
                            · omega
                            · have := hL (k / 48) n hl hn (by omega) (by omega)
                              omega
                      rw [this]; rfl
                    rw [this, zV]
                  · rfl
            · have hkd : kdN ns (k / 48) = 1 := if_neg hl
              rw [hkd]
              split
              · have : qH (fun i => tY (p.wt i (k / 48)) (k / 4 % 6) (k % 4)) W = qH (fun _ => 0) W := kP fun b hb => by rw [hout b _ (by omega)]; rfl
                rw [this, zV]
              · rfl
          show p.tb i k ≤ 0
          rw [hK.bel i hi k hk, htr, hway]; unfold wrap64; omega
        rw [hyes] at hno; cases hno
  exact fun i n e s hi hn h6 h4 => main _ i n e s hi hn h6 h4 (Nat.lt_succ_self _)
theorem bG {o : List Nd} {x : Nd} {j : Nat} (h : j < o.length) : qV (o ++ [x]) j = qV o j := by
  rw [ndn_lt (by simp; omega), ndn_lt h, List.getElem_append_left h]
theorem fS (o : List Nd) (x : Nd) : qV (o ++ [x]) o.length = x := by
  rw [ndn_lt (by simp)]; simp
theorem mgTo_app {o : List Nd} {x : Nd} : ∀ k, k ≤ o.length → xG (o ++ [x]) k = xG o k := by
  intro k hk
  induction k with
  | zero => rfl
  | succ k ih => unfold xG; rw [ih (by omega), bG (by omega)]
structure Raw1 (o : List Nd) (m : Int) : Prop where
  kinds : ∀ j, j < o.length → 0 ≤ (qV o j).kind ∧ (qV o j).kind ≤ 7 ∧ (qV o j).wf
  first : 0 < o.length → (qV o 0).kind = 0
  some_ : (xG o o.length : Int) ≤ m
  few : xG o o.length ≤ 3
  lo : 0 ≤ m
  hi : m ≤ o.length
theorem Raw1.nil : Raw1 [] 0 := ⟨by intro j hj; simp at hj, by simp, by simp [xG], by simp [xG], by omega, by simp⟩
theorem Raw1.snoc {o : List Nd} {m m' : Int} {x : Nd} (h : Raw1 o m) (h0 : 0 ≤ x.kind) (h7 : x.kind ≤ 7) (hw : x.wf) (hf : o.length = 0 → x.kind = 0) (hm : m ≤ m') (hm' : m' ≤ m + 1) (h3 : x.kind = 3 → m' = m + 1 ∧ m' ≤ 3) : Raw1 (o ++ [x]) m' := by
  have hlen : (o ++ [x]).length = o.length + 1 := by simp
  have hmg : xG (o ++ [x]) (o ++ [x]).length = xG o o.length + (if x.kind == 3 then 1 else 0) := by
    rw [hlen, xG, mgTo_app _ (Nat.le_refl _), fS]
  have hs := h.some_
  have hfw := h.few
  refine ⟨?_, ?_, ?_, ?_, ?_, ?_⟩
  · intro j hj
    rw [hlen] at hj
    by_cases e : j < o.length
    · rw [bG e]; exact h.kinds j e
    · have : j = o.length := by omega
      subst this; rw [fS]; exact ⟨h0, h7, hw⟩
  · intro _
    by_cases e : 0 < o.length
    · rw [bG e]; exact h.first e
    · have e0 : o.length = 0 := by omega
      have : qV (o ++ [x]) 0 = x := by have := fS o x; rw [e0] at this; exact this
      rw [this]; exact hf e0
  · rw [hmg]
    by_cases e : x.kind = 3
    · have := h3 e; simp [e]; omega
    · simp [e]; omega
  · rw [hmg]
    by_cases e : x.kind = 3
    · have := h3 e; simp [e]; omega
    · simp [e]; omega
  · have := h.lo; omega
  · have := h.hi; rw [hlen]; omega
def Fits (ns1 o : List Nd) : Prop := ∀ j, j < o.length → FitNode ns1 j (qV o j)
theorem Fits.snoc {ns1 o : List Nd} {y : Nd} (h : Fits ns1 o) (hy : FitNode ns1 o.length y) : Fits ns1 (o ++ [y]) := by
  intro j hj
  simp at hj
  by_cases e : j < o.length
  · rw [bG e]; exact h j e
  · have : j = o.length := by omega
    subst this; rw [fS]; exact hy
structure FitOk (o : List Nd) (r : Int) : Prop where
  wf : wfB o r = true
  zero : (qV o 0).kind = 0
  low : ∀ j, j < o.length → (qV o j).kind ≠ 4 → ∀ z ∈ qF (qV o j), ∃ a : Nat, z = a ∧ a < o.length ∧ ((qV o a).kind = 4 ∨ a < j)
theorem wfTo_all {ns : List Nd} {n : Nat} (h : ∀ k, k < n → zN ns (qV ns k) = true) : pB ns n = true := by
  induction n with
  | zero => rfl
  | succ n ih => unfold pB; rw [ih (fun k hk => h k (by omega)), h n (by omega)]; rfl
theorem fit_ok {ns1 o : List Nd} {m r : Int} (h1 : Raw1 ns1 m) (h2 : Fits ns1 o) (hl : o.length = ns1.length) (hp : 1 ≤ ns1.length) (h8 : ns1.length ≤ 8) (hr1 : 1 ≤ r) (hr4 : r ≤ 4) : FitOk o r := by
  have hk : ∀ a, a < o.length → ((qV o a).kind = 4 ↔ (qV ns1 a).kind = 4) ∧ ((qV o a).kind = 7 ↔ (qV ns1 a).kind = 7) ∧ ((qV o a).kind = 3 → (qV ns1 a).kind = 3) := by
    intro a ha
    rcases (h2 a ha).kind with h | ⟨h, h'⟩ <;> omega
  have hmg : ∀ k, k ≤ o.length → xG o k ≤ xG ns1 k := by
    intro k hk'
    induction k with
    | zero => exact Nat.le_refl _
    | succ k ih =>
      have := ih (by omega)
      have h3 := (hk k (by omega)).2.2
      unfold xG
      by_cases e : (qV o k).kind = 3
      · simp [e, h3 e]; omega
      · simp [e]; omega
  have hin : ∀ j, j < o.length → ∀ z ∈ qF (qV o j), ∃ a : Nat, z = a ∧ a < o.length ∧ (qV o a).kind ≠ 7 ∧ ((qV o a).kind = 4 ∨ a < j ∨ (qV o j).kind = 4) := by
    intro j hj z hz
    obtain ⟨a, rfl, ha, hc⟩ := (h2 j hj).inp z hz
    have ha' : a < o.length := by omega
    obtain ⟨k4, k7, _⟩ := hk a ha'
    obtain ⟨j4, _, _⟩ := hk j hj
    simp only [chB, Bool.and_eq_true, Bool.not_eq_true', Bool.or_eq_true, decide_eq_true_eq, beq_iff_eq, beq_eq_false_iff_ne] at hc
    refine ⟨a, rfl, ha', fun h => hc.1 (k7.1 h), ?_⟩
    rcases hc.2 with (h | h) | h
    · exact .inl (k4.2 h)
    · exact .inr (.inl h)
    · exact .inr (.inr (j4.2 h))
  refine ⟨?_, ?_, ?_⟩
  · have hwt : pB o o.length = true := by
      refine wfTo_all fun j hj => ?_
      rw [cF, (h2 j hj).pre]
      simp only [Bool.true_and]
      unfold inB
      rw [List.all_eq_true]
      intro z hz
      obtain ⟨a, rfl, ha, h7, _⟩ := hin j hj z hz
      simp [gM, jQ, ha, h7]
    have := hmg o.length (Nat.le_refl _)
    have h3 := h1.few
    rw [← hl] at h3
    rw [wfB_good (by omega) (by omega) hr1 hr4, hwt]
    simp
    omega
  · have h0 := h1.first (by omega)
    rcases (h2 0 (by omega)).kind with h | ⟨h, _⟩
    · rw [h]; exact h0
    · omega
  · intro j hj hj4 z hz
    obtain ⟨a, e, ha, _, h⟩ := hin j hj z hz
    refine ⟨a, e, ha, ?_⟩
    rcases h with h | h | h
    · exact .inl h
    · exact .inr h
    · exact absurd h hj4
end Go.Proofs.Ytfemleimkbjehaa
