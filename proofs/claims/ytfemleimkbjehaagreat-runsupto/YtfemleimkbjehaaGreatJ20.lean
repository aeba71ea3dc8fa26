import Derived.Test.YtfemleimkbjehaaGreatJ19
set_option maxRecDepth 1000000
set_option maxHeartbeats 40000000
set_option linter.unusedVariables false
set_option linter.unusedSimpArgs false
namespace Go.Proofs.YtfemleimkbjehaaGreat
open Go.RowKit
theorem POwn.setEp {w : World} {S : Nat → Prop} {pb : Nat} {x : PX} {ns : List Nd} {R W : Nat} {D : Nat → Nat → Int} {st : PSt} (h : POwn w S pb x ns R W D st) {i m : Nat} (hi : i < W) (hm : m < ns.length) (v : Int) : POwn (w.setCell ⟨x.wb, i * 3684 + m * 2, none⟩ (.int .i64 v)) S pb { x with warr := x.warr.setIfInBounds (i * 3684 + m * 2) (.int .i64 v) } ns R W D { st with ep := kF st.ep i m v } :=
  h.setRow (qP _ _ _ _) (qU h.work) (h.row.setEp h.small.1 hi hm v) ⟨rfl, rfl⟩ h.few.1
theorem POwn.setCl {w : World} {S : Nat → Prop} {pb : Nat} {x : PX} {ns : List Nd} {R W : Nat} {D : Nat → Nat → Int} {st : PSt} (h : POwn w S pb x ns R W D st) {i m : Nat} (hi : i < W) (hm : m < ns.length) (v : Bool) : POwn (w.setCell ⟨x.wb, i * 3684 + m * 2 + 1, none⟩ (.bool v)) S pb { x with warr := x.warr.setIfInBounds (i * 3684 + m * 2 + 1) (.bool v) } ns R W D { st with cl := kF st.cl i m v } :=
  h.setRow (qP _ _ _ _) (qU h.work) (h.row.setCl h.small.1 hi hm v) ⟨rfl, rfl⟩ h.few.1
theorem cells5at {w : World} {g : Nat} {p : Pt} (h : w.heap[g]? = some (.cells #[.int .i64 p.node, .bool p.out, .int .i64 p.epoch, .int .i64 p.round, .int .i64 p.count] 67 (0, 0))) : CellsAt w (some ⟨g, 0, none⟩) 1 (qR [p]) := by
  intro _
  refine ⟨g, 0, rfl, fun j u hj => ?_⟩
  rw [Nat.zero_add]
  refine qQ h ?_
  have : qR [p] = Pt.cells p := by simp [qR]
  rw [this] at hj
  simpa [Pt.cells] using hj
theorem cells10at {w : World} {g : Nat} {p q : Pt} (h : w.heap[g]? = some (.cells #[.int .i64 p.node, .bool p.out, .int .i64 p.epoch, .int .i64 p.round, .int .i64 p.count, .int .i64 q.node, .bool q.out, .int .i64 q.epoch, .int .i64 q.round, .int .i64 q.count] 67 (0, 0))) : CellsAt w (some ⟨g, 0, none⟩) 2 (qR [p, q]) := by
  intro _
  refine ⟨g, 0, rfl, fun j u hj => ?_⟩
  rw [Nat.zero_add]
  refine qQ h ?_
  have : qR [p, q] = Pt.cells p ++ Pt.cells q := by simp [qR]
  rw [this] at hj
  simpa [Pt.cells] using hj
def pclsSt (W : Nat) (st : PSt) (i m : Nat) : PSt := { st with cl := kF st.cl i m true, tb := upd1 st.tb i (kU 4 (st.tb i) [⟨m, true, st.ep i m, 0, -1⟩] 1), wy := vZ st.wy i [⟨m, true, st.ep i m, 0, -1⟩] W }
def pclsS (ns : List Nd) (W : Nat) (st : PSt) (w n : Int) : PSt := if zR ns W st.cl w n == 0 then pclsSt W st w.toNat n.toNat else st
theorem prclose_any {S : Nat → Prop} {pb : Nat} {x : PX} {ns : List Nd} {R W : Nat} {D : Nat → Nat → Int} {st : PSt} (wk n : Int) (w : World) (hO : POwn w S pb x ns R W D st) (hlim : ∀ a b, (st.wy a b).length + 1 ≤ 100000000) (hep : ∀ a b, ∃ k : Nat, st.ep a b = k ∧ k < 6) :
    Calls Tryz.prog 61 #[.pointer (some ⟨pb, 0, none⟩), .int .i64 wk, .int .i64 n] w fun e w' => e = .returned (.int .i64 (zR ns W st.cl wk n)) ∧ POwn.After w w' S pb ns R W D (pclsS ns W st wk n) := by
  have Hsrc := qJ (psrc_any wk n w hO)
  have HO := qJ hO
  cases hse : (zR ns W st.cl wk n != 0) with
  | true =>
    have Hne : Hid (zR ns W st.cl wk n ≠ 0) := qJ (by simpa using hse)
    have Hs : Hid (pclsS ns W st wk n = st) := qJ (by unfold pclsS; rw [if_neg (by simpa using qK Hne)])
    generalize zR ns W st.cl wk n = se at *
    clear hO hep
    go_enter Tryz.func61, Tryz.ntmps61
    go_wp2_with (go_at_call 86; refine (qK Hsrc).mono ?_; rintro e w1 ⟨rfl, hb1⟩)
    go_ret
    exact ⟨rfl, by rw [qK Hs]; exact ⟨S, x, (qK HO).bw hb1, Chg.bw hb1, fun _ h => .inl h⟩⟩
  | false =>
    have hs0 : zR ns W st.cl wk n = 0 := by simpa using hse
    have Hs : Hid (pclsS ns W st wk n = pclsSt W st wk.toNat n.toNat) := qJ (by unfold pclsS; rw [hs0]; rfl)
    obtain ⟨i, m, rfl, rfl, hi, hm⟩ := psrcE_zero hs0
    rw [Int.toNat_natCast, Int.toNat_natCast] at Hs
    rw [hs0] at Hsrc ⊢
    have h8 := hO.small
    have hi1 : (i : Int) < (W : Int) := by omega
    have hm8 : (m : Int) < 8 := by omega
    clear hO hse hs0
    go_enter Tryz.func61, Tryz.ntmps61
    go_wp2_with (go_at_call 86; refine (qK Hsrc).mono ?_; rintro e w1 ⟨rfl, hb1⟩; have hO1 := (qK HO).bw hb1; have c3 := qQ (o := 3) hO1.root hO1.r3; have l0 := hO1.slt _ hO1.sroot; have l1 := hO1.slt _ hO1.swork; have c4 := qQ (o := i * 3684 + m * 2 + 1) hO1.work (hO1.row.src i m hi hm).2; have c4f := qZ (o := i * 3684 + m * 2 + 1) hO1.work; have HO2 := qJ (hO1.setCl hi hm true); clear hO1)
    obtain ⟨w2, hw2⟩ : ∃ w2, w1.setCell ⟨x.wb, i * 3684 + m * 2 + 1, none⟩ (.bool true) = w2 := ⟨_, rfl⟩
    have hC2 : Chg S w w2 := by rw [← hw2]; exact (Chg.bw (S := S) hb1).trans (qP _ _ _ _) (fun b h => .inl (h ▸ (qK HO).swork))
    rw [hw2] at HO2
    rw [hw2]
    clear hw2 c3 c4 c4f l0 l1 Hsrc
    obtain ⟨ep, hepe, hep6⟩ := hep i m
    have Htm := qJ (psrcTime_any i m w2 (qK HO2) hi hm)
    simp only [hepe] at Htm
    refine (qK Htm).mono ?_
    rintro e3 w3 ⟨rfl, hb3⟩
    go_wp2_with (go_at_call 81; refine (pout_any _ _ _ _ _).mono ?_; rintro e5 w5 ⟨rfl, hb5⟩; simp only [Pt.val])
    obtain ⟨w6, hw6⟩ : ∃ w6, w5.alloc (.cells #[.int .i64 (m : Int), .bool true, .int .i64 (ep : Int), .int .i64 0, .int .i64 (-1)] 67) = w6 := ⟨_, rfl⟩
    have hb6 : Bw w5 w6 := by rw [← hw6]; exact (by repeat first|exact br _|assumption|apply bd|apply bn|apply ba|refine bt ?_ (by assumption))
    have hp6 : w6.heap[w5.heap.size]? = some (.cells #[.int .i64 (m : Int), .bool true, .int .i64 (ep : Int), .int .i64 0, .int .i64 (-1)] 67 (0, 0)) := by rw [← hw6]; exact heap_alloc_new w5 _
    rw [hw6]
    clear hw6
    have hb26 : Bw w2 w6 := (show Bw w2 w5 from (by repeat first|exact br _|assumption|apply bd|apply bn|apply ba|refine bt ?_ (by assumption))).trans hb6
    refine (pmake_any i [⟨m, true, ep, 0, -1⟩] _ _ w6 ((qK HO2).bw hb26) hi (cells5at (p := ⟨m, true, ep, 0, -1⟩) hp6) (fun j hj => ?_) (by simp) hlim).mono ?_
    · have : j = 0 := by simpa using hj
      subst this
      exact ⟨m, ep, 0, rfl, by omega, rfl, hep6, rfl, by omega⟩
    rintro e7 w7 ⟨rfl, hA7⟩
    have HA := qJ (After.of (hC2.trans (Chg.bw (S := S) hb26) (fun _ h => .inl h)) (fun _ h => .inl h) hA7)
    clear hA7
    go_wp2_with fail
    go_ret
    exact ⟨rfl, by rw [qK Hs]; unfold pclsSt; rw [hepe]; exact qK HA⟩
theorem POwn.After.box {w w' : World} {S : Nat → Prop} {pb : Nat} {ns : List Nd} {R W : Nat} {D : Nat → Nat → Int} {st : PSt} (h : POwn.After w w' S pb ns R W D st) {g : Nat} {o : Obj} (hn : ¬ S g) (hb : w.heap[g]? = some o) : w'.heap[g]? = some o := by
  obtain ⟨_, _, _, hC, _⟩ := h
  exact (hC.block g (Array.getElem?_eq_some_iff.1 hb).1 hn).trans hb
def padvE (ns : List Nd) (W : Nat) (st : PSt) (w n : Int) : Int := if zR ns W st.cl w n != 0 then zR ns W st.cl w n else if decide (5 ≤ st.ep w.toNat n.toNat) then 5 else 0
def padvSt (W : Nat) (st : PSt) (i m : Nat) : PSt := { st with ep := kF st.ep i m (st.ep i m + 1), tb := upd1 st.tb i (kU 4 (st.tb i) [⟨m, true, st.ep i m, 0, -1⟩, ⟨m, true, st.ep i m + 1, 0, 1⟩] 2), wy := vZ st.wy i [⟨m, true, st.ep i m, 0, -1⟩, ⟨m, true, st.ep i m + 1, 0, 1⟩] W }
def padvS (ns : List Nd) (W : Nat) (st : PSt) (w n : Int) : PSt := if padvE ns W st w n == 0 then padvSt W st w.toNat n.toNat else st
theorem pradvance_any {S : Nat → Prop} {pb : Nat} {x : PX} {ns : List Nd} {R W : Nat} {D : Nat → Nat → Int} {st : PSt} (wk n : Int) (w : World) (hO : POwn w S pb x ns R W D st) (hlim : ∀ a b, (st.wy a b).length + 1 ≤ 100000000) (hep : ∀ a b, ∃ k : Nat, st.ep a b = k ∧ k < 6) :
    Calls Tryz.prog 60 #[.pointer (some ⟨pb, 0, none⟩), .int .i64 wk, .int .i64 n] w fun e w' => e = .returned (.int .i64 (padvE ns W st wk n)) ∧ POwn.After w w' S pb ns R W D (padvS ns W st wk n) := by
  have Hsrc := qJ (psrc_any wk n w hO)
  have HO := qJ hO
  cases hse : (zR ns W st.cl wk n != 0) with
  | true =>
    have He : Hid (padvE ns W st wk n = zR ns W st.cl wk n) := qJ (by unfold padvE; rw [if_pos hse])
    have Hne : Hid (zR ns W st.cl wk n ≠ 0) := qJ (by simpa using hse)
    have Hs : Hid (padvS ns W st wk n = st) := qJ (by unfold padvS; rw [qK He, if_neg (by simpa using qK Hne)])
    generalize zR ns W st.cl wk n = se at *
    clear hO hep
    go_enter Tryz.func60, Tryz.ntmps60
    go_wp2_with (go_at_call 86; refine (qK Hsrc).mono ?_; rintro e w1 ⟨rfl, hb1⟩)
    go_ret
    exact ⟨qF (qK He).symm, by rw [qK Hs]; exact ⟨S, x, (qK HO).bw hb1, Chg.bw hb1, fun _ h => .inl h⟩⟩
  | false =>
    have hs0 : zR ns W st.cl wk n = 0 := by simpa using hse
    have HE : Hid (padvE ns W st wk n = if decide (5 ≤ st.ep wk.toNat n.toNat) then 5 else 0) := qJ (by unfold padvE; rw [hse]; rfl)
    obtain ⟨i, m, rfl, rfl, hi, hm⟩ := psrcE_zero hs0
    rw [Int.toNat_natCast, Int.toNat_natCast] at HE
    rw [hs0] at Hsrc
    have h8 := hO.small
    have hi1 : (i : Int) < (W : Int) := by omega
    have hm8 : (m : Int) < 8 := by omega
    obtain ⟨ep, hepe, hep6⟩ := hep i m
    have Htm := qJ (fun (w' : World) (h : Bw w w') => psrcTime_any i m w' (hO.bw h) hi hm)
    simp only [hepe] at Htm HE
    clear hO hse hs0
    by_cases h5 : 5 ≤ ep
    · have hd5 : decide (5 ≤ (ep : Int)) = true := by simp; omega
      have He : Hid (padvE ns W st i m = 5) := qJ (by rw [qK HE, hd5]; rfl)
      have Hs : Hid (padvS ns W st i m = st) := qJ (by unfold padvS; rw [qK He]; rfl)
      go_enter Tryz.func60, Tryz.ntmps60
      go_wp2_with (first | (go_at_call 86; refine (qK Hsrc).mono ?_; rintro e w1 ⟨rfl, hb1⟩) | (go_at_call 87; refine ((qK Htm) _ hb1).mono ?_; rintro e3 w3 ⟨rfl, hb3⟩))
      go_ret
      have hB : Bw w (w3.alloc (.cells #[.int .i64 (ep : Int), .int .i64 0] 72)) := (by repeat first|exact br _|assumption|apply bd|apply bn|apply ba|refine bt ?_ (by assumption))
      exact ⟨qF (qK He).symm, by rw [qK Hs]; exact ⟨S, x, (qK HO).bw hB, Chg.bw hB, fun _ h => .inl h⟩⟩
    · have hd5 : decide (5 ≤ (ep : Int)) = false := by simp; omega
      have h5' : ¬ (5 ≤ (ep : Int)) := by omega
      have He : Hid (padvE ns W st i m = 0) := qJ (by rw [qK HE, hd5]; rfl)
      have Hs : Hid (padvS ns W st i m = padvSt W st i m) := qJ (by unfold padvS; rw [qK He]; rfl)
      go_enter Tryz.func60, Tryz.ntmps60
      go_wp2_with (first | (go_at_call 86; refine (qK Hsrc).mono ?_; rintro e w1 ⟨rfl, hb1⟩) | (go_at_call 87; refine ((qK Htm) _ hb1).mono ?_; rintro e3 w3 ⟨rfl, hb3⟩))
      obtain ⟨w4, hw4⟩ : ∃ w4, w3.alloc (.cells #[.int .i64 (ep : Int), .int .i64 0] 72) = w4 := ⟨_, rfl⟩
      have hb4 : Bw w3 w4 := by rw [← hw4]; exact (by repeat first|exact br _|assumption|apply bd|apply bn|apply ba|refine bt ?_ (by assumption))
      have hg4 : w4.heap[w3.heap.size]? = some (.cells #[.int .i64 (ep : Int), .int .i64 0] 72 (0, 0)) := by rw [← hw4]; exact heap_alloc_new w3 _
      rw [hw4]
      clear hw4
      have hB4 : Bw w w4 := (by repeat first|exact br _|assumption|apply bd|apply bn|apply ba|refine bt ?_ (by assumption))
      have hz3 : w.heap.size ≤ w3.heap.size := Bw.size (by repeat first|exact br _|assumption|apply bd|apply bn|apply ba|refine bt ?_ (by assumption))
      obtain ⟨gb, hgb⟩ : ∃ gb, w3.heap.size = gb := ⟨_, rfl⟩
      rw [hgb] at hg4 hz3
      rw [hgb]
      clear hgb
      have hnS : ∀ g, w.heap.size ≤ g → ¬ S g := fun g hg h => by have := (qK HO).slt _ h; omega
      have hO4 := (qK HO).bw hB4
      have c3 := qQ (o := 3) hO4.root hO4.r3
      have l0 := hO4.slt _ hO4.sroot
      have l1 := hO4.slt _ hO4.swork
      have c4 := qQ (o := i * 3684 + m * 2) hO4.work (hepe ▸ (hO4.row.src i m hi hm).1)
      have c4f := qZ (o := i * 3684 + m * 2) hO4.work
      have hpw : ¬ pb = x.wb := fun e => by have h1 := hO4.root; rw [e, hO4.work] at h1; simp at h1
      have hpw2 : ¬ x.wb = pb := fun e => hpw e.symm
      have HO5 := qJ (hO4.setEp hi hm (st.ep i m + 1))
      have hgw : ¬ gb = x.wb := fun e => hnS gb hz3 (e ▸ (qK HO).swork)
      clear hO4
      rw [hepe] at HO5
      go_region
      obtain ⟨w5, hw5⟩ : ∃ w5, (w4.setCell ⟨x.wb, i * 3684 + m * 2, none⟩ (.int .i64 ((ep : Int) + 1))).drew = w5 := ⟨_, rfl⟩
      have hbd : Bw (w4.setCell ⟨x.wb, i * 3684 + m * 2, none⟩ (.int .i64 ((ep : Int) + 1))) w5 := by rw [← hw5]; exact (by repeat first|exact br _|assumption|apply bd|apply bn|apply ba|refine bt ?_ (by assumption))
      have hC5 : Chg S w w5 := (((Chg.bw (S := S) hB4).trans (qP w4 x.wb (i * 3684 + m * 2) (.int .i64 ((ep : Int) + 1))) (fun b h => .inl (h ▸ (qK HO).swork)))).trans (Chg.bw (S := S) hbd) (fun _ h => .inl h)
      have hO5 := (qK HO5).bw hbd
      have hg5 : w5.heap[gb]? = some (.cells #[.int .i64 (ep : Int), .int .i64 0] 72 (0, 0)) := (Below.block hbd _ (by simpa using (Array.getElem?_eq_some_iff.1 hg4).1)).trans ((Below.heap_setCell w4 ⟨x.wb, i * 3684 + m * 2, none⟩ _ gb hgw).trans hg4)
      rw [hw5]
      clear hw5 HO5 c3 c4 c4f l0 l1 hg4 hbd
      have Htm5 := qJ (psrcTime_any i m w5 hO5 hi hm)
      simp only [yF] at Htm5
      have HO5 := qJ hO5
      have hz5 := hC5.size
      clear hO5
      go_wp2_with (go_at_call 87; refine (qK Htm5).mono ?_; rintro e6 w6 ⟨rfl, hb6⟩)
      obtain ⟨w7, hw7⟩ : ∃ w7, w6.alloc (.cells #[.int .i64 ((ep : Int) + 1), .int .i64 0] 72) = w7 := ⟨_, rfl⟩
      have hb7 : Bw w6 w7 := by rw [← hw7]; exact (by repeat first|exact br _|assumption|apply bd|apply bn|apply ba|refine bt ?_ (by assumption))
      have hn7 : w7.heap[w6.heap.size]? = some (.cells #[.int .i64 ((ep : Int) + 1), .int .i64 0] 72 (0, 0)) := by rw [← hw7]; exact heap_alloc_new w6 _
      rw [hw7]
      clear hw7
      have hB7 : Bw w5 w7 := hb6.trans hb7
      have hz6 := hb6.size
      obtain ⟨nb, hnb⟩ : ∃ nb, w6.heap.size = nb := ⟨_, rfl⟩
      rw [hnb] at hn7 hz6
      rw [hnb]
      clear hnb
      have hg7 := (Below.block hB7 _ (Array.getElem?_eq_some_iff.1 hg5).1).trans hg5
      have s0 := qQ (o := 0) hg7 rfl
      have s1 := qQ (o := 1) hg7 rfl
      have s2 := qQ (o := 0) hn7 rfl
      have s3 := qQ (o := 1) hn7 rfl
      have sl := (Array.getElem?_eq_some_iff.1 hg7).1
      have sm := (Array.getElem?_eq_some_iff.1 hn7).1
      have Hcs := qJ (fun (w' : World) (h : w'.heap[gb]? = some (.cells #[.int .i64 (ep : Int), .int .i64 0] 72 (0, 0)) ∧ w'.heap[nb]? = some (.cells #[.int .i64 ((ep : Int) + 1), .int .i64 0] 72 (0, 0))) => (⟨qQ (o := 0) h.1 rfl, qQ (o := 1) h.1 rfl, qQ (o := 0) h.2 rfl, qQ (o := 1) h.2 rfl⟩ : w'.cell? ⟨gb, 0, none⟩ = some (.int .i64 (ep : Int)) ∧ w'.cell? ⟨gb, 1, none⟩ = some (.int .i64 0) ∧ w'.cell? ⟨nb, 0, none⟩ = some (.int .i64 ((ep : Int) + 1)) ∧ w'.cell? ⟨nb, 1, none⟩ = some (.int .i64 0)))
      have Hbx := qJ (fun (w' : World) (h : Bw w7 w') => (⟨(Below.block h _ sl).trans hg7, (Below.block h _ sm).trans hn7⟩ : w'.heap[gb]? = some (.cells #[.int .i64 (ep : Int), .int .i64 0] 72 (0, 0)) ∧ w'.heap[nb]? = some (.cells #[.int .i64 ((ep : Int) + 1), .int .i64 0] 72 (0, 0))))
      have Hok : Hid (∀ j, j < [(⟨m, true, ep, 0, -1⟩ : Pt), ⟨m, true, (ep : Int) + 1, 0, 1⟩].length → PtOk 8 4 (jN [(⟨m, true, ep, 0, -1⟩ : Pt), ⟨m, true, (ep : Int) + 1, 0, 1⟩] j)) := qJ (fun j hj => by
        simp only [List.length_cons, List.length_nil] at hj
        match j, hj with
        | 0, _ => exact ⟨m, ep, 0, rfl, by omega, rfl, hep6, rfl, by omega⟩
        | 1, _ => exact ⟨m, ep + 1, 0, rfl, by omega, by simp [jN], by omega, rfl, by omega⟩)
      have hng := hnS gb hz3
      have hnn := hnS nb (by omega)
      have Hmk := qJ (fun (w' : World) (h : Bw w7 w') (g : Nat) (c : Nat) (hp : w'.heap[g]? = some (.cells #[.int .i64 (m : Int), .bool true, .int .i64 (ep : Int), .int .i64 0, .int .i64 (-1), .int .i64 (m : Int), .bool true, .int .i64 ((ep : Int) + 1), .int .i64 0, .int .i64 1] 67 (0, 0))) => pmake_any i [(⟨m, true, ep, 0, -1⟩ : Pt), ⟨m, true, (ep : Int) + 1, 0, 1⟩] (some ⟨g, 0, none⟩) c w' ((qK HO5).bw (hB7.trans h)) hi (cells10at (p := ⟨m, true, ep, 0, -1⟩) (q := ⟨m, true, (ep : Int) + 1, 0, 1⟩) hp) (qK Hok) (by simp) hlim)
      clear hg7 hn7 hg5
      go_region_held3 (fun w' => w'.cell? ⟨gb, 0, none⟩ = some (.int .i64 (ep : Int)) ∧ w'.cell? ⟨gb, 1, none⟩ = some (.int .i64 0) ∧ w'.cell? ⟨nb, 0, none⟩ = some (.int .i64 ((ep : Int) + 1)) ∧ w'.cell? ⟨nb, 1, none⟩ = some (.int .i64 0)) (first | go_keep | exact (qK Hcs) _ hbx9 | exact (qK Hcs) _ ((qK Hbx) _ (by repeat first|exact br _|assumption|apply bd|apply bn|apply ba|refine bt ?_ (by assumption)))) ((first | (go_at_call 81; refine (pout_any _ _ _ _ _).mono ?_; rintro e8 w8 ⟨rfl, hb8⟩; simp only [Pt.val]) | (go_at_call 89; refine ((qK Hmk) _ (by repeat first|exact br _|assumption|apply bd|apply bn|apply ba|refine bt ?_ (by assumption)) _ _ (heap_alloc_new _ _)).mono ?_; rintro e9 w9 ⟨rfl, hA9⟩; have hbx9 := (⟨hA9.box hng ((qK Hbx) _ (by repeat first|exact br _|assumption|apply bd|apply bn|apply ba|refine bt ?_ (by assumption))).1, hA9.box hnn ((qK Hbx) _ (by repeat first|exact br _|assumption|apply bd|apply bn|apply ba|refine bt ?_ (by assumption))).2⟩ : w9.heap[gb]? = some (.cells #[.int .i64 (ep : Int), .int .i64 0] 72 (0, 0)) ∧ w9.heap[nb]? = some (.cells #[.int .i64 ((ep : Int) + 1), .int .i64 0] 72 (0, 0))))))
      all_goals (
        have HA := qJ (After.of (hC5.trans (Chg.bw (S := S) (hB7.trans (show Bw w7 _ from (by repeat first|exact br _|assumption|apply bd|apply bn|apply ba|refine bt ?_ (by assumption))))) (fun _ h => .inl h)) (fun _ h => .inl h) hA9)
        clear hA9
        go_wp2_with fail
        go_ret
        exact ⟨qF (qK He).symm, by rw [qK Hs]; unfold padvSt; rw [hepe]; exact qK HA⟩)
theorem pgive_any {S : Nat → Prop} {pb : Nat} {x : PX} {ns : List Nd} {R W : Nat} {D : Nat → Nat → Int} {st : PSt} (wk n v : Int) (w : World) (hO : POwn w S pb x ns R W D st) (h6 : ∀ k, k < ns.length → (qT ns k).kind = 6 → 1 ≤ (qT ns k).k ∧ (qT ns k).k ≤ 8) (hf : ∀ a b, (st.wt a b).length ≤ 90000000) (hlim : ∀ a b, (st.wy a b).length + 1 ≤ 100000000) (hep : ∀ a b, ∃ k : Nat, st.ep a b = k ∧ k < 6) (hgv : 0 ≤ st.gv ∧ st.gv ≤ 1000) :
    Calls Tryz.prog 28 #[.pointer (some ⟨pb, 0, none⟩), .int .i64 wk, .int .i64 n, .int .i64 v] w fun e w' => e = .returned (.int .i64 (pgiveE ns W st wk n)) ∧ POwn.After w w' S pb ns R W D (uJ ns W st wk n v) := by
  have H := qJ (prgive_any wk n v w hO h6 hf hlim hep hgv)
  clear hO hep h6 hf
  go_enter Tryz.func28, Tryz.ntmps28
  go_wp2_with (go_at_call 56; refine (qK H).mono ?_; rintro e w1 ⟨rfl, hA⟩)
  go_ret
  exact ⟨rfl, hA⟩
theorem padvance_any {S : Nat → Prop} {pb : Nat} {x : PX} {ns : List Nd} {R W : Nat} {D : Nat → Nat → Int} {st : PSt} (wk n : Int) (w : World) (hO : POwn w S pb x ns R W D st) (hlim : ∀ a b, (st.wy a b).length + 1 ≤ 100000000) (hep : ∀ a b, ∃ k : Nat, st.ep a b = k ∧ k < 6) :
    Calls Tryz.prog 30 #[.pointer (some ⟨pb, 0, none⟩), .int .i64 wk, .int .i64 n] w fun e w' => e = .returned (.int .i64 (padvE ns W st wk n)) ∧ POwn.After w w' S pb ns R W D (padvS ns W st wk n) := by
  have H := qJ (pradvance_any wk n w hO hlim hep)
  clear hO hep
  go_enter Tryz.func30, Tryz.ntmps30
  go_wp2_with (go_at_call 60; refine (qK H).mono ?_; rintro e w1 ⟨rfl, hA⟩)
  go_ret
  exact ⟨rfl, hA⟩
theorem pclose_any {S : Nat → Prop} {pb : Nat} {x : PX} {ns : List Nd} {R W : Nat} {D : Nat → Nat → Int} {st : PSt} (wk n : Int) (w : World) (hO : POwn w S pb x ns R W D st) (hlim : ∀ a b, (st.wy a b).length + 1 ≤ 100000000) (hep : ∀ a b, ∃ k : Nat, st.ep a b = k ∧ k < 6) :
    Calls Tryz.prog 32 #[.pointer (some ⟨pb, 0, none⟩), .int .i64 wk, .int .i64 n] w fun e w' => e = .returned (.int .i64 (zR ns W st.cl wk n)) ∧ POwn.After w w' S pb ns R W D (pclsS ns W st wk n) := by
  have H := qJ (prclose_any wk n w hO hlim hep)
  clear hO hep
  go_enter Tryz.func32, Tryz.ntmps32
  go_wp2_with (go_at_call 61; refine (qK H).mono ?_; rintro e w1 ⟨rfl, hA⟩)
  go_ret
  exact ⟨rfl, hA⟩
theorem pWaiting_any {S : Nat → Prop} {pb : Nat} {x : PX} {ns : List Nd} {R W : Nat} {D : Nat → Nat → Int} {st : PSt} (wk n : Int) (w : World) (hO : POwn w S pb x ns R W D st) :
    Calls Tryz.prog 34 #[.pointer (some ⟨pb, 0, none⟩), .int .i64 wk, .int .i64 n] w fun e w' => ∃ v, e = .returned (.tuple #[v, .int .i64 (vC ns.length W wk n)]) ∧ OwnM w w' v (pwaitR ns.length W st.wt wk n) ∧ Bw w w' := by
  have H := qJ (pwaiting_any wk n w hO)
  clear hO
  go_enter Tryz.func34, Tryz.ntmps34
  go_wp2_with (go_at_call 62; refine (qK H).mono ?_; rintro e w1 ⟨v, rfl, h1, h2⟩)
  go_ret2
  exact ⟨v, rfl, h1, h2⟩
theorem pView_any {S : Nat → Prop} {pb : Nat} {x : PX} {ns : List Nd} {R W : Nat} {D : Nat → Nat → Int} {st : PSt} (wk : Int) (w : World) (hO : POwn w S pb x ns R W D st) :
    Calls Tryz.prog 36 #[.pointer (some ⟨pb, 0, none⟩), .int .i64 wk] w fun e w' => ∃ v, e = .returned (.tuple #[v, .int .i64 (pviewE W wk)]) ∧ OwnP w w' v (pviewR W st.tb wk) ∧ Bw w w' := by
  have H := qJ (pview_any wk w hO)
  clear hO
  go_enter Tryz.func36, Tryz.ntmps36
  go_wp2_with (go_at_call 64; refine (qK H).mono ?_; rintro e w1 ⟨v, rfl, h1, h2⟩)
  go_ret2
  exact ⟨v, rfl, h1, h2⟩
theorem pFrontier_any {S : Nat → Prop} {pb : Nat} {x : PX} {ns : List Nd} {R W : Nat} {D : Nat → Nat → Int} {st : PSt} (wk n : Int) (w : World) (hO : POwn w S pb x ns R W D st) (hD : ∀ a b, D a b ≤ 1000) (hD1 : ∀ a b, -1 ≤ D a b) (hok : ∀ i, i < W → ∀ p ∈ vN (st.tb i) 4 8, PtOk ns.length R p) :
    Calls Tryz.prog 38 #[.pointer (some ⟨pb, 0, none⟩), .int .i64 wk, .int .i64 n] w fun e w' => ∃ v, e = .returned (.tuple #[v, .int .i64 (vC ns.length W wk n)]) ∧ OwnT w w' v (pfrR ns R W D st.tb wk n) ∧ Bw w w' := by
  have H := qJ (pfront_any wk n w hO hD hD1 hok)
  clear hO hD hD1 hok
  go_enter Tryz.func38, Tryz.ntmps38
  go_wp2_with (go_at_call 67; refine (qK H).mono ?_; rintro e w1 ⟨v, rfl, h1, h2⟩)
  go_ret2
  exact ⟨v, rfl, h1, h2⟩
def vF (ns : List Nd) (W : Nat) : Nat → List Pt
  | 0 => []
  | k + 1 => if (qT ns k).kind == 0 then vF ns W k ++ [⟨k, true, 0, 0, W⟩] else vF ns W k
theorem begL_len (ns : List Nd) (W k : Nat) : (vF ns W k).length ≤ k := by
  induction k with
  | zero => simp [vF]
  | succ k ih => unfold vF; split <;> (try simp) <;> omega
theorem begL_ok {ns : List Nd} {W : Nat} (h8 : ns.length ≤ 8) : ∀ k, k ≤ ns.length → ∀ p ∈ vF ns W k, PtOk 8 4 p := by
  intro k
  induction k with
  | zero => intro _ p hp; simp [vF] at hp
  | succ k ih =>
    intro hk p hp
    unfold vF at hp
    split at hp
    · rcases List.mem_append.1 hp with h | h
      · exact ih (by omega) p h
      · simp at h
        subst h
        exact ⟨k, 0, 0, rfl, by omega, rfl, by omega, rfl, by omega⟩
    · exact ih (by omega) p hp
theorem pbeg_any (ns : List Nd) (ga : Option Addr) (gc W : Nat) (r : Int) (w : World) (hn : NodesAt w ga ns) (h8 : ns.length ≤ 8) (hW : W ≤ 4) :
    Calls Tryz.prog 51 #[.agg #[.slice ga ns.length gc, .int .i64 r], .int .i64 (W : Int)] w fun e w' => ∃ v, e = .returned (.agg #[v]) ∧ OwnP w w' v (vF ns W ns.length) ∧ Bw w w' := by
  go_enter Tryz.func51, Tryz.ntmps51
  go_wp2_with fail
  obtain ⟨w0, hw0⟩ : ∃ w0, ((w.alloc (.cells #[.slice ga ns.length gc, .int .i64 r] 24)).alloc (.cells #[.slice none 0 0] 121)).alloc (.cells #[.slice none 0 0] 121) = w0 := ⟨_, rfl⟩
  have hA := alloc3 w (.cells #[.slice ga ns.length gc, .int .i64 r] 24) (.cells #[.slice none 0 0] 121) (.cells #[.slice none 0 0] 121)
  rw [hw0] at hA
  rw [hw0]
  obtain ⟨hg0, hd0, hc0, hB0⟩ := hA
  clear hw0 hg0
  obtain ⟨gb, hgb⟩ : ∃ gb, w.heap.size = gb := ⟨_, rfl⟩
  rw [hgb] at hd0 hc0
  rw [hgb]
  obtain ⟨db, hdb⟩ : ∃ db, gb + 1 = db := ⟨_, rfl⟩
  obtain ⟨cb, hcb⟩ : ∃ cb, gb + 1 + 1 = cb := ⟨_, rfl⟩
  rw [hcb] at hc0
  rw [hdb] at hd0
  simp only [hcb]
  simp only [hdb]
  have hq : w.heap.size ≤ cb ∧ w.heap.size ≤ db ∧ db ≠ cb := by omega
  clear hgb hdb hcb
  go_loopw [11] (fun i wr => ∃ (k : Nat) (v : Value), k ≤ ns.length ∧ i = .int .i64 k ∧ wr.heap[db]? = some (.cells #[.slice none 0 0] 121 (0, 0)) ∧ wr.heap[cb]? = some (.cells #[v] 121 (0, 0)) ∧ OwnP w wr v (vF ns W k) ∧ Bw w wr) (fun i _ => ns.length - (intOf i).toNat)
  case atStart => exact ⟨0, _, Nat.zero_le _, rfl, hd0, hc0, OwnP.nil _ _, hB0⟩
  case round =>
    clear hd0 hc0 hB0
    obtain ⟨k, v, hk, rfl, hd, hc, ho, hB⟩ := hrel
    rename World => wr
    have hle := begL_len ns W k
    obtain ⟨va, vc, hve⟩ : ∃ va vc, v = .slice va (vF ns W k).length vc := ⟨_, _, qV ho⟩
    subst hve
    have dl := (Array.getElem?_eq_some_iff.1 hd).1
    have cl := (Array.getElem?_eq_some_iff.1 hc).1
    by_cases hlt : k < ns.length
    · obtain ⟨b, off, rfl, hb, hcn⟩ := (hn.below hB) k hlt
      obtain ⟨c0, c1, c2, c3, c4⟩ := hcn k hlt
      clear hcn
      have Hbl : Hid (vF ns W (k + 1) = if (qT ns k).kind == 0 then vF ns W k ++ [⟨k, true, 0, 0, W⟩] else vF ns W k) := qJ rfl
      have Hd := qJ hd
      have Hc := qJ hc
      cases hk0 : ((qT ns k).kind == 0) with
      | false =>
        have Hs : Hid (vF ns W (k + 1) = vF ns W k) := qJ (by rw [qK Hbl, hk0]; rfl)
        generalize vF ns W k = L at *
        generalize qT ns k = y at *
        clear hd hc
        go_wp2_with fail
        go_roundw
        case rel => exact ⟨k + 1, _, by omega, by go_num, (Below.block (show Bw wr _ from (by repeat first|exact br _|assumption|apply bd|apply bn|apply ba|refine bt ?_ (by assumption))) _ dl).trans (qK Hd), (Below.block (show Bw wr _ from (by repeat first|exact br _|assumption|apply bd|apply bn|apply ba|refine bt ?_ (by assumption))) _ cl).trans (qK Hc), by rw [qK Hs]; exact ho.bw (by repeat first|exact br _|assumption|apply bd|apply bn|apply ba|refine bt ?_ (by assumption)), (by repeat first|exact br _|assumption|apply bd|apply bn|apply ba|refine bt ?_ (by assumption))⟩
        case measure => simp [intOf]; omega
      | true =>
        have Hs : Hid (vF ns W (k + 1) = vF ns W k ++ [⟨k, true, 0, 0, W⟩]) := qJ (by rw [qK Hbl, hk0]; rfl)
        generalize vF ns W k = L at *
        generalize qT ns k = y at *
        have x0 := qQ (o := 0) hc rfl
        clear hd hc
        go_wp2_with fail
        go_region_law (first | (refine yT rfl _ _ _ 67 rfl _ 5 40 Tryz.infoPoint Tryz.underlying63 rfl (by decide) w.heap.size (.slice va L.length vc) L.length (qR L) rfl (ho.bw (by repeat first|exact br _|assumption|apply bd|apply bn|apply ba|refine bt ?_ (by assumption))) _ _ (Pt.cells ⟨k, true, 0, 0, W⟩) rfl rfl (xV (qQ (qY _ _ (by simp)) rfl) (qQ (qY _ _ (by simp)) rfl) (qQ (qY _ _ (by simp)) rfl) (qQ (qY _ _ (by simp)) rfl) (qQ (qY _ _ (by simp)) rfl)) (pt_one _) (by omega) (by omega) (Bw.size (show Bw w _ from (by repeat first|exact br _|assumption|apply bd|apply bn|apply ba|refine bt ?_ (by assumption)))) ?_; intro g6 cap6 w6 ho6 hg6 hl6; have hc6 := qJ (qW (ho.bw (show Bw wr _ from (by repeat first|exact br _|assumption|apply bd|apply bn|apply ba|refine bt ?_ (by assumption)))) hg6 ((Below.block (show Bw wr _ from (by repeat first|exact br _|assumption|apply bd|apply bn|apply ba|refine bt ?_ (by assumption))) _ cl).trans (qK Hc)) (.inl (by decide))); have hd6 := qJ (qW (ho.bw (show Bw wr _ from (by repeat first|exact br _|assumption|apply bd|apply bn|apply ba|refine bt ?_ (by assumption)))) hg6 ((Below.block (show Bw wr _ from (by repeat first|exact br _|assumption|apply bd|apply bn|apply ba|refine bt ?_ (by assumption))) _ dl).trans (qK Hd)) (.inl (by decide))); have hB6 := yK (W := w) (ho.bw (show Bw wr _ from (by repeat first|exact br _|assumption|apply bd|apply bn|apply ba|refine bt ?_ (by assumption)))) hg6 (by repeat first|exact br _|assumption|apply bd|apply bn|apply ba|refine bt ?_ (by assumption)) (Nat.le_refl _); have z0 := qQ (o := 0) (qK hc6) rfl; have zf := qZ (o := 0) (qK hc6); have zl := (Array.getElem?_eq_some_iff.1 (qK hc6)).1) | (go_simp; go_at_call 81; refine (pout_any _ _ _ _ _).mono ?_; rintro e1 w1 ⟨rfl, hb1⟩; simp only [Pt.val]; have hx1 := (Below.block (show Bw wr w1 from (by repeat first|exact br _|assumption|apply bd|apply bn|apply ba|refine bt ?_ (by assumption))) _ cl).trans (qK Hc); have x1 := qQ (o := 0) hx1 rfl; have x1l := (Array.getElem?_eq_some_iff.1 hx1).1; clear hx1))
        all_goals (
          go_wp2_with fail
          go_roundw
          case rel =>
            refine ⟨k + 1, _, by omega, by go_num, ?_, (qU (qK hc6)).trans rfl, ?_, ?_⟩
            · exact (Below.heap_setCell w6 ⟨cb, 0, none⟩ _ db hq.2.2).trans (qK hd6)
            · rw [qK Hs]; exact qN (qK hc6) (OwnP.snoc ho6) (by decide)
            · exact Bw.setCell hB6 hq.1 _
          case measure => simp [intOf]; omega)
    · have hkk : k = ns.length := by omega
      subst hkk
      have d0 := qQ (o := 0) hd rfl
      have df := qZ (o := 0) hd
      have x0 := qQ (o := 0) hc rfl
      have hds := qQ (o := 0) (qU (k := 0) (v := .slice va (vF ns W ns.length).length vc) hd) rfl
      have hos := qN (k := 0) (u := .slice va (vF ns W ns.length).length vc) hd ho (by decide)
      clear hc hd ho
      go_wp2_with fail
      refine bodyPost_ret (v := .agg #[.slice va (vF ns W ns.length).length vc]) (by simp [results, Tryz.results51, go_sem, hds]) rfl ⟨_, rfl, hos, ?_⟩
      exact Bw.setCell hB hq.2.1 _
end Go.Proofs.YtfemleimkbjehaaGreat
