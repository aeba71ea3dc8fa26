import Derived.Test.YtfemleimkbjehaaGreatJ14
set_option maxRecDepth 1000000
set_option maxHeartbeats 40000000
set_option linter.unusedVariables false
set_option linter.unusedSimpArgs false
namespace Go.Proofs.YtfemleimkbjehaaGreat
open Go.RowKit
def clsSt (st : RSt) (w n : Int) (k : Nat) : RSt := { st with log := st.log ++ [⟨w, [⟨n, true, k, 0, -1⟩]⟩], opened := st.opened ++ [⟨n, w, 3⟩] }
def clsS (ns : List Nd) (W : Nat) (st : RSt) (w n : Int) : RSt := if kS ns W st.opened w n == 0 then clsSt st w n (qC st.opened w n 2 st.opened.length) else st
theorem rclose_any {S : Nat → Prop} {rb : Nat} {x : RX} {ns : List Nd} {R W : Nat} {D : Nat → Nat → Int} {st : RSt} (wk n : Int) (w : World) (hO : ROwn w S rb x ns R W D st) (hlo : st.opened.length + 1 ≤ 100000000) (hll : st.log.length + 1 ≤ 100000000) :
    Calls Tryz.prog 33 #[.pointer (some ⟨rb, 0, none⟩), .int .i64 wk, .int .i64 n] w fun e w' => e = .returned (.int .i64 (kS ns W st.opened wk n)) ∧ ROwn.After w w' S rb ns R W D (clsS ns W st wk n) := by
  have HO := qJ hO
  have HR := qJ hO.read
  have Hsrc := qJ (rsource_any wk n w hO.read)
  have Hdone := qJ (rdone_any wk n 2 w hO.read)
  have hdl := doneTo_le st.opened wk n 2 st.opened.length
  cases hse : (kS ns W st.opened wk n != 0) with
  | true =>
    have Hne : Hid (kS ns W st.opened wk n ≠ 0) := qJ (by simpa using hse)
    have Hs : Hid (clsS ns W st wk n = st) := qJ (by unfold clsS; rw [if_neg (by simpa using qK Hne)])
    generalize kS ns W st.opened wk n = se at *
    clear hO
    go_enter Tryz.func33, Tryz.ntmps33
    go_wp2_with (go_at_call 57; refine (qK Hsrc).mono ?_; rintro e w' ⟨rfl, rfl⟩)
    go_ret
    exact ⟨rfl, by rw [qK Hs]; exact (qK HO).after_same⟩
  | false =>
    have hs0 : kS ns W st.opened wk n = 0 := by simpa using hse
    rw [hs0] at Hsrc
    have He : Hid (kS ns W st.opened wk n = 0) := qJ hs0
    have Hs : Hid (clsS ns W st wk n = clsSt st wk n (qC st.opened wk n 2 st.opened.length)) := qJ (by unfold clsS; rw [hs0]; rfl)
    generalize qC st.opened wk n 2 st.opened.length = k at *
    obtain ⟨wA, hwA⟩ : ∃ wA, (w.alloc (.cells #[.int .i64 n, .bool true, .int .i64 (k : Int), .int .i64 0, .int .i64 (-1)] 67)).alloc (.cells #[.int .i64 wk, .slice (some ⟨w.heap.size, 0, none⟩) 1 1] 113) = wA := ⟨_, rfl⟩
    obtain ⟨hBA, hpA, hcA, hzA⟩ : Bw w wA ∧ wA.heap[w.heap.size]? = some (.cells #[.int .i64 n, .bool true, .int .i64 (k : Int), .int .i64 0, .int .i64 (-1)] 67) ∧ wA.heap[w.heap.size + 1]? = some (.cells #[.int .i64 wk, .slice (some ⟨w.heap.size, 0, none⟩) 1 1] 113) ∧ wA.heap.size = w.heap.size + 2 := by
      rw [← hwA]
      exact ⟨(by repeat first|exact br _|assumption|apply bd|apply bn|apply ba|refine bt ?_ (by assumption)), (Below.heap_alloc _ _ _ (by simp)).trans (heap_alloc_new w _), qY _ _ (by simp), by simp⟩
    have hOA := hO.bw hBA
    obtain ⟨vs, hvl, hl1, hl2⟩ := hOA.log
    have r4 := qQ (o := 4) (u := x.l) hO.root rfl
    have rlt := (Array.getElem?_eq_some_iff.1 hO.root).1
    have HOA := qJ hOA
    have Hl1 := qJ hl1
    have Hl2 := qJ hl2
    have hPown : wA.ownsRow 0 67 5 (.slice (some ⟨w.heap.size, 0, none⟩) 1 1) 1 (qR [⟨n, true, k, 0, -1⟩]) := ⟨rfl, .inr ⟨w.heap.size, 1, _, rfl, Nat.zero_le _, hpA, Nat.le_refl _, by unfold maxLen; omega, rfl, rfl⟩⟩
    have HPown := qJ hPown
    have hc0 := qQ (o := 0) hcA rfl
    have hc1 := qQ (o := 1) hcA rfl
    clear hO hse hs0 hl1 hl2 hOA hPown hpA hcA
    go_enter Tryz.func33, Tryz.ntmps33
    go_wp2_with (first | (go_at_call 57; refine (qK Hsrc).mono ?_; rintro e w' ⟨rfl, rfl⟩) | (go_at_call 58; refine (qK Hdone).mono ?_; rintro e w' ⟨rfl, rfl⟩) | (at_builtin; refine appL wA rfl _ _ _ 113 rfl _ 2 32 Tryz.infoChange Tryz.underlying79 rfl (by decide) 0 x.l st.log.length (jM st.log vs) rfl (qK Hl1).1 _ _ [.int .i64 wk, .slice (some ⟨_, 0, none⟩) 1 1] rfl rfl (xD hc0 hc1) (by simp [Value.oneCell']) (by omega) (by omega) (Nat.zero_le _) ?_; intro g' cap w2 ho2 hg2 hl2'; have hr2 := qW (qK Hl1).1 hg2 (qK HOA).root (.inl (by decide)); have q4 := qQ (o := 4) (u := x.l) hr2 rfl; have q4f := qZ (o := 4) hr2; have q4l := (Array.getElem?_eq_some_iff.1 hr2).1; have HO3 := qJ ((qK HOA).addLog (c := ⟨wk, [⟨n, true, k, 0, -1⟩]⟩) hvl (qK Hl1) (qK Hl2) (qK HPown) ho2 hg2 hll); have q6 := qQ (o := 6) (u := x.o) hr2 rfl; have q6f := qZ (o := 6) hr2; clear hr2) | (at_builtin; refine appL _ rfl _ _ _ 152 rfl _ 3 24 Tryz.infoGivenR Tryz.underlying80 rfl (by decide) 0 x.o st.opened.length (qH st.opened) rfl ((qK HO3).bw ((Bw.refl _).alloc _)).opened.1 _ _ (Gv.cells ⟨n, wk, 3⟩) rfl rfl (gv_cells (qQ (qY _ _ (by simp)) rfl) (qQ (qY _ _ (by simp)) rfl) (qQ (qY _ _ (by simp)) rfl)) (gv_one _) (by omega) (by omega) (Nat.zero_le _) ?_; intro g2 cap2 w5 ho5 hg5 hl5; have hr5 := qW ((qK HO3).bw ((Bw.refl _).alloc _)).opened.1 hg5 ((qK HO3).bw ((Bw.refl _).alloc _)).root (.inl (by decide)); have p6 := qQ (o := 6) (u := x.o) hr5 rfl; have p6f := qZ (o := 6) hr5; have p6l := (Array.getElem?_eq_some_iff.1 hr5).1; have HO6 := qJ (((qK HO3).bw ((Bw.refl _).alloc _)).addOpened (y := ⟨n, wk, 3⟩) ho5 hg5 hlo); clear hr5))
    go_ret
    refine ⟨qF (qK He).symm, ?_⟩
    rw [qK Hs]
    have hz2 := hg2.size
    have hz5 := hg5.size
    simp at hz5
    have hS3 : ∀ b, ((S b ∨ (Value.slice (some ⟨w'.heap.size, 0, none⟩) 1 1).ownBlock = some b) ∨ b = g') → S b ∨ w'.heap.size ≤ b := by
      intro b hb
      rcases hb with (hb | hb) | rfl
      · exact .inl hb
      · simp [Value.ownBlock] at hb; exact .inr (by omega)
      · rcases hl2' with h | h
        · exact .inl ((qK Hl1).2 _ h)
        · exact .inr (by omega)
    refine ⟨_, _, qK HO6, ?_, ?_⟩
    · have k1 : Chg S w' wA := Chg.bw hBA
      have k2 := yX (k := 4) (base := 0) (v' := .slice (some ⟨g', 0, none⟩) (st.log.length + 1) cap) (qK Hl1) hg2 (qK HOA).sroot rfl
      have k4 := yX (k := 6) (base := 0) (v' := .slice (some ⟨g2, 0, none⟩) (st.opened.length + 1) cap2) ((qK HO3).bw ((Bw.refl _).alloc _)).opened hg5 (qK HO3).sroot rfl
      exact ((k1.trans k2 fun _ h => .inl h).trans (Chg.bw (S := S) ((Bw.refl _).alloc _)) fun _ h => .inl h).trans k4 hS3
    · intro b hb
      rcases hb with hb | rfl
      · exact hS3 b hb
      · rcases hl5 with h | h
        · exact hS3 _ (((qK HO3).opened).2 _ h)
        · simp at h; exact .inr (by omega)
theorem Tryz.infoMail : (Tryz.prog.info? 108).map (fun i => (i.zero, i.size, i.bytes)) = some (some (.agg #[.int .i64 0, .int .i64 0, .int .i64 0, .int .i64 0, .int .i64 0, .bool false]), 6, 48) := by kernel_rfl
theorem ml_cells {w : World} {g : Nat} {p : Ml} (h0 : w.cell? ⟨g, 0, none⟩ = some (.int .i64 p.worker)) (h1 : w.cell? ⟨g, 1, none⟩ = some (.int .i64 p.node)) (h2 : w.cell? ⟨g, 2, none⟩ = some (.int .i64 p.epoch)) (h3 : w.cell? ⟨g, 3, none⟩ = some (.int .i64 p.round)) (h4 : w.cell? ⟨g, 4, none⟩ = some (.int .i64 p.value)) (h5 : w.cell? ⟨g, 5, none⟩ = some (.bool p.gone)) : ∀ j u, p.cells[j]? = some u → w.cell? ⟨g, j, none⟩ = some u := by
  intro j u hj
  unfold Ml.cells at hj
  match j, hj with
  | 0, hj => simp at hj; subst hj; exact h0
  | 1, hj => simp at hj; subst hj; exact h1
  | 2, hj => simp at hj; subst hj; exact h2
  | 3, hj => simp at hj; subst hj; exact h3
  | 4, hj => simp at hj; subst hj; exact h4
  | 5, hj => simp at hj; subst hj; exact h5
theorem ml_one (p : Ml) : ∀ u ∈ p.cells, u.oneCell' = true := by
  intro u hu
  simp [Ml.cells] at hu
  rcases hu with rfl | rfl | rfl | rfl | rfl | rfl <;> rfl
def atI (ns : List Nd) (W : Nat) (w : Int) (v : Int) (x : Nat) : Int := if (qT ns x).kind == 5 then v % W else if (qT ns x).kind == 6 then (v % (qT ns x).k) % W else w
def yC (ns : List Nd) (W : Nat) (w n : Int) (m : Gv) : Nat → List Ml
  | 0 => []
  | x + 1 => if kZ (qT ns x) n then yC ns W w n m x ++ [⟨atI ns W w m.value x, x, m.node, m.epoch, m.value, false⟩] else yC ns W w n m x
def jR (ns : List Nd) (n : Int) (m : Gv) : Nat → List Pt
  | 0 => []
  | x + 1 => if kZ (qT ns x) n then jR ns n m x ++ [⟨x, false, m.node, m.epoch, 1⟩] else jR ns n m x
theorem putM_len (ns : List Nd) (W : Nat) (w n : Int) (m : Gv) (k : Nat) : (yC ns W w n m k).length ≤ k := by
  induction k with
  | zero => simp [yC]
  | succ k ih => unfold yC; split <;> (try simp) <;> omega
theorem xY (ns : List Nd) (n : Int) (m : Gv) (k : Nat) : (jR ns n m k).length ≤ k := by
  induction k with
  | zero => simp [jR]
  | succ k ih => unfold jR; split <;> (try simp) <;> omega
theorem put_mid {w0 w w' : World} {S S1 : Nat → Prop} {rb g' cap mb : Nat} {x : RX} {ns : List Nd} {R W : Nat} {D : Nat → Nat → Int} {st : RSt} {y : Ml} {u : Value} {ps : List Pt} {arr : Array Value} (h : ROwn w S1 rb x ns R W D st)
    (h2 : w'.ownsRow 0 108 6 (.slice (some ⟨g', 0, none⟩) (st.mails.length + 1) cap) (st.mails.length + 1) (jS st.mails ++ y.cells)) (hg : w.grownBy w' x.m.ownBlock) (hl : x.m.ownBlock = some g' ∨ g' = w.heap.size) (hlen : st.mails.length + 1 ≤ 100000000)
    (hP : OwnP w0 w u ps) (hbx : w.heap[mb]? = some (.cells arr 62)) (hC : Chg S w0 w) (hS : ∀ b, S1 b → S b ∨ w0.heap.size ≤ b) (hD : ∀ b, u.ownBlock = some b → ¬ S1 b) :
    ROwn (w'.setCell ⟨rb, 3, none⟩ (.slice (some ⟨g', 0, none⟩) (st.mails.length + 1) cap)) (fun b => S1 b ∨ b = g') rb { x with m := .slice (some ⟨g', 0, none⟩) (st.mails.length + 1) cap } ns R W D { st with mails := st.mails ++ [y] } ∧
    OwnP w0 (w'.setCell ⟨rb, 3, none⟩ (.slice (some ⟨g', 0, none⟩) (st.mails.length + 1) cap)) u ps ∧ (w'.setCell ⟨rb, 3, none⟩ (.slice (some ⟨g', 0, none⟩) (st.mails.length + 1) cap)).heap[mb]? = some (.cells arr 62) ∧
    Chg S w0 (w'.setCell ⟨rb, 3, none⟩ (.slice (some ⟨g', 0, none⟩) (st.mails.length + 1) cap)) ∧ (∀ b, (S1 b ∨ b = g') → S b ∨ w0.heap.size ≤ b) ∧ (∀ b, u.ownBlock = some b → ¬ (S1 b ∨ b = g')) := by
  have hr := qW h.mails.1 hg h.root (.inl (by decide))
  refine ⟨h.addMails h2 hg hlen, ?_, ?_, ?_, ?_, ?_⟩
  · exact qN hr (kQ h.mails.1 hg hP (by decide)) (by decide)
  · have hb := qW h.mails.1 hg hbx (.inl (by decide))
    refine (Below.heap_setCell w' ⟨rb, 3, none⟩ _ mb ?_).trans hb
    intro eq
    simp only at eq
    subst eq
    rw [hr] at hb
    simp at hb
  · exact hC.trans (yX (k := 3) (base := 0) h.mails hg h.sroot rfl) hS
  · intro b hb
    rcases hb with hb | rfl
    · exact hS b hb
    · rcases hl with e | e
      · exact hS _ (h.mails.2 _ e)
      · exact .inr (by have := hC.size; omega)
  · intro b hb hn
    rcases hn with hn | rfl
    · exact hD b hb hn
    · rcases hl with e | e
      · exact hD _ hb (h.mails.2 _ e)
      · have := (World.ownsRow.lt hP b hb).2; omega
theorem rput_any {S : Nat → Prop} {rb : Nat} {x : RX} {ns : List Nd} {R W : Nat} {D : Nat → Nat → Int} {st : RSt} (wk n : Int) (m : Gv) (w : World) (hO : ROwn w S rb x ns R W D st) (hlm : st.mails.length + 8 ≤ 100000000) (h6 : ∀ k, k < ns.length → (qT ns k).kind = 6 → 1 ≤ (qT ns k).k ∧ (qT ns k).k ≤ 8) :
    Calls Tryz.prog 59 #[.pointer (some ⟨rb, 0, none⟩), .int .i64 wk, .int .i64 n, .agg #[.int .i64 m.node, .int .i64 m.epoch, .int .i64 m.value]] w fun e w' => ∃ v, e = .returned v ∧ OwnP w w' v (jR ns n m ns.length) ∧ ∃ (S' : Nat → Prop) (x' : RX), ROwn w' S' rb x' ns R W D { st with mails := st.mails ++ yC ns W wk n m ns.length } ∧ Chg S w w' ∧ (∀ b, S' b → S b ∨ w.heap.size ≤ b) := by
  obtain ⟨s1, s2, s3, s4, s5⟩ := hO.small
  obtain ⟨w0, hw0⟩ : ∃ w0, w.alloc (.cells #[.int .i64 m.node, .int .i64 m.epoch, .int .i64 m.value] 62) = w0 := ⟨_, rfl⟩
  obtain ⟨hB0, hbx, hz0⟩ : Bw w w0 ∧ w0.heap[w.heap.size]? = some (.cells #[.int .i64 m.node, .int .i64 m.epoch, .int .i64 m.value] 62) ∧ w0.heap.size = w.heap.size + 1 := by
    rw [← hw0]; exact ⟨(by repeat first|exact br _|assumption|apply bd|apply bn|apply ba|refine bt ?_ (by assumption)), heap_alloc_new w _, by simp⟩
  have hnS : ¬ S w.heap.size := fun h => by have := hO.slt _ h; omega
  have hO0 := hO.bw hB0
  go_enter Tryz.func59, Tryz.ntmps59
  go_wp2_with fail
  go_loopw [9, 10] (fun v i wr => ∃ (k : Nat) (S' : Nat → Prop) (x' : RX), k ≤ ns.length ∧ i = .int .i64 k ∧ ROwn wr S' rb x' ns R W D { st with mails := st.mails ++ yC ns W wk n m k } ∧ Chg S w0 wr ∧ (∀ b, S' b → S b ∨ w0.heap.size ≤ b) ∧ OwnP w0 wr v (jR ns n m k) ∧ (∀ b, v.ownBlock = some b → ¬ S' b)) (fun _ i _ => ns.length - (intOf i).toNat)
  case atStart => exact ⟨0, S, x, Nat.zero_le _, rfl, by rw [show yC ns W wk n m 0 = [] from rfl, List.append_nil]; exact hO0, Chg.refl _ _, fun _ h => .inl h, OwnP.nil _ _, by simp [Value.ownBlock]⟩
  case round =>
    clear hO0
    obtain ⟨k, S1, x1, hk, rfl, hO1, hC1, hS1, hP1, hD1⟩ := hrel
    rename World => w1
    have hml := putM_len ns W wk n m k
    have hpl := xY ns n m k
    have hR1 := hO1.read
    have c0 := hR1.c0
    have hlt0 := hR1.lt
    by_cases hlt : k < ns.length
    · obtain ⟨b, off, e, hb, hc⟩ := hR1.nodes k hlt
      obtain ⟨d0, d1, d2, d3, d4⟩ := hc k hlt
      rw [e] at c0
      have hbx1 := (hC1.block _ (by omega) hnS).trans hbx
      clear hc
      cases ht : kZ (qT ns k) n with
      | false =>
        have HM : Hid (yC ns W wk n m (k + 1) = yC ns W wk n m k) := qJ (by rw [yC, ht]; rfl)
        have HPp : Hid (jR ns n m (k + 1) = jR ns n m k) := qJ (by rw [jR, ht]; rfl)
        have Ht := qJ ht
        clear ht
        have HO1 := qJ hO1
        clear hO1 hR1
        go_wp2_with (go_at_call 85; refine (yD (qT ns k) _ _).mono ?_; rintro en w2 ⟨rfl, hB2⟩; rw [qK Ht])
        go_roundw
        case rel => exact ⟨k + 1, S1, x1, by omega, by go_num, by rw [qK HM]; exact (qK HO1).bw hB2, hC1.trans (Chg.bw (S := S) hB2) (fun _ h => .inl h), hS1, by rw [qK HPp]; exact hP1.bw hB2, hD1⟩
        case measure => simp [intOf]; omega
      | true =>
        have HM : Hid (yC ns W wk n m (k + 1) = yC ns W wk n m k ++ [⟨atI ns W wk m.value k, k, m.node, m.epoch, m.value, false⟩]) := qJ (by rw [yC, ht]; rfl)
        have HPp : Hid (jR ns n m (k + 1) = jR ns n m k ++ [⟨k, false, m.node, m.epoch, 1⟩]) := qJ (by rw [jR, ht]; rfl)
        have Ht := qJ ht
        have HO1 := qJ hO1
        clear ht hO1 hR1
        go_wp2_with fail
        refine (yD (qT ns k) _ _).mono ?_
        rintro en w2 ⟨rfl, hB2⟩
        rw [qK Ht]
        have hO2 := (qK HO1).bw hB2
        have hR2 := hO2.read
        have c0' := hR2.c0
        have c2' := hR2.c2
        have hlt2 := hR2.lt
        obtain ⟨b2, off2, e2, hb2, hc2⟩ := hR2.nodes k hlt
        obtain ⟨f0, f1, f2, f3, f4⟩ := hc2 k hlt
        rw [e2] at c0'
        have hbx2 := (Below.block hB2 _ (Array.getElem?_eq_some_iff.1 hbx1).1).trans hbx1
        have bx0 := qQ (o := 0) hbx2 rfl
        have bx1 := qQ (o := 1) hbx2 rfl
        have bx2 := qQ (o := 2) hbx2 rfl
        have bxl := (Array.getElem?_eq_some_iff.1 hbx2).1
        obtain ⟨mls, hmls⟩ : ∃ mls, st.mails ++ yC ns W wk n m k = mls := ⟨_, rfl⟩
        have hmL : mls.length + 1 ≤ 100000000 := by rw [← hmls, List.length_append]; omega
        rw [hmls] at hO2
        have Hmls := qJ hmls
        clear hmls
        have Hat : Hid (atI ns W wk m.value k = if (qT ns k).kind == 5 then m.value % W else if (qT ns k).kind == 6 then (m.value % (qT ns k).k) % W else wk) := qJ rfl
        have hW1 : (1 : Int) ≤ (W : Int) := by omega
        have hW2 : (W : Int) ≤ 1000 := by omega
        clear hc2 e2 c0 hlt0 d0 d1 d2 d3 d4 hb hR2 hbx1 e
        cases k5 : ((qT ns k).kind == 5) with
        | true =>
          have Ha : Hid (atI ns W wk m.value k = m.value % W) := qJ (by rw [qK Hat, k5]; rfl)
          go_wp2_with fail
          go_quiet ((go_at_call 90; refine Calls.quiet_of_same (rrest_any _ _ _ hW1 hW2)))
          go_wp2_with fail
          obtain ⟨w3, hw3⟩ : ∃ w3, w2.drewN nq = w3 := ⟨_, rfl⟩
          rw [hw3]
          have hB3 : Bw w2 w3 := by rw [← hw3]; exact (Bw.refl _).drewN _
          clear hw3
          have hO3 := hO2.bw hB3
          have hr := hO3.root
          have r3 := qQ (o := 3) (u := x1.m) hr rfl
          have r3f := qZ (o := 3) hr
          have r3l := (Array.getElem?_eq_some_iff.1 hr).1
          have hbx3 := (Below.block hB3 _ bxl).trans hbx2
          have y0 := qQ (o := 0) hbx3 rfl
          have y1 := qQ (o := 1) hbx3 rfl
          have y2 := qQ (o := 2) hbx3 rfl
          have y3 := (Array.getElem?_eq_some_iff.1 hbx3).1
          have hP3 := hP1.bw (hB2.trans hB3)
          have hB13 : Bw w1 w3 := hB2.trans hB3
          have HO3 := qJ hO3
          have Hbx3 := qJ hbx3
          clear hr bx0 bx1 bx2 c0' c2' f0 f1 f2 f3 f4 hO3 hO2 hbx2 hbx3 bxl hb2 hlt2
          obtain ⟨atv, hatv⟩ : ∃ atv, atI ns W wk m.value k = atv := ⟨_, rfl⟩
          rw [hatv] at Ha HM
          rw [← qK Ha]
          clear Ha Hat hatv
          go_region_law (refine yT rfl _ _ _ 108 rfl _ 6 48 Tryz.infoMail Tryz.underlying78 rfl (by decide) 0 x1.m mls.length (jS mls) rfl ((qK HO3).bw (by repeat first|exact br _|assumption|apply bd|apply bn|apply ba|refine bt ?_ (by assumption))).mails.1 _ _ (Ml.cells ⟨atv, k, m.node, m.epoch, m.value, false⟩) rfl rfl (ml_cells (qQ (qY _ _ (by simp)) rfl) (qQ (qY _ _ (by simp)) rfl) (qQ (qY _ _ (by simp)) rfl) (qQ (qY _ _ (by simp)) rfl) (qQ (qY _ _ (by simp)) rfl) (qQ (qY _ _ (by simp)) rfl)) (ml_one _) (by omega) (by omega) (Nat.zero_le _) ?_; intro g' cap w4 ho4 hg4 hl4; have hr4 := qW ((qK HO3).bw (by repeat first|exact br _|assumption|apply bd|apply bn|apply ba|refine bt ?_ (by assumption))).mails.1 hg4 ((qK HO3).bw (by repeat first|exact br _|assumption|apply bd|apply bn|apply ba|refine bt ?_ (by assumption))).root (.inl (by decide)); have q3 := qQ (o := 3) (u := x1.m) hr4 rfl; have q3f := qZ (o := 3) hr4; have q3l := (Array.getElem?_eq_some_iff.1 hr4).1; have Hfin := qJ (put_mid (w0 := w0) (S := S) (u := u9) ((qK HO3).bw (by repeat first|exact br _|assumption|apply bd|apply bn|apply ba|refine bt ?_ (by assumption))) ho4 hg4 hl4 hmL (hP3.bw (by repeat first|exact br _|assumption|apply bd|apply bn|apply ba|refine bt ?_ (by assumption))) ((Below.block (show Bw w3 _ from (by repeat first|exact br _|assumption|apply bd|apply bn|apply ba|refine bt ?_ (by assumption))) _ y3).trans (qK Hbx3)) (hC1.trans (Chg.bw (S := S) (show Bw w1 _ from (by repeat first|exact br _|assumption|apply bd|apply bn|apply ba|refine bt ?_ (by assumption)))) (fun _ h => .inl h)) hS1 hD1); clear hr4)
          all_goals (
            obtain ⟨hO5, hP5, hbx5, hC5, hS5, hD5⟩ := qK Hfin
            obtain ⟨w5, hw5⟩ : ∃ w5, w4.setCell ⟨rb, 3, none⟩ (.slice (some ⟨g', 0, none⟩) (mls.length + 1) cap) = w5 := ⟨_, rfl⟩
            rw [hw5] at hO5 hP5 hbx5 hC5
            have z0 := qQ (o := 0) hbx5 rfl
            have z1 := qQ (o := 1) hbx5 rfl
            have z2 := (Array.getElem?_eq_some_iff.1 hbx5).1
            have HO5 := qJ hO5
            have hz5 := hC5.size
            clear hO5 Hfin q3 q3f q3l ho4 hg4 hl4 y0 y1 y2 y3
            go_wp2_with (at_builtin; refine appL _ rfl _ _ _ 67 rfl _ 5 40 Tryz.infoPoint Tryz.underlying63 rfl (by decide) w0.heap.size u9 (jR ns n m k).length (qR (jR ns n m k)) rfl (hP5.bw (by repeat first|exact br _|assumption|apply bd|apply bn|apply ba|refine bt ?_ (by assumption))) _ _ (Pt.cells ⟨k, false, m.node, m.epoch, 1⟩) rfl rfl (xV (qQ (qY _ _ (by simp)) rfl) (qQ (qY _ _ (by simp)) rfl) (qQ (qY _ _ (by simp)) rfl) (qQ (qY _ _ (by simp)) rfl) (qQ (qY _ _ (by simp)) rfl)) (pt_one _) (by omega) (by omega) (Nat.le_trans hz5 (Bw.size (by repeat first|exact br _|assumption|apply bd|apply bn|apply ba|refine bt ?_ (by assumption)))) ?_; intro g6 cap6 w6 ho6 hg6 hl6)
            have hP5' := hP5.bw (show Bw w5 _ from (Bw.refl w5).alloc (.cells #[.int .i64 (k : Int), .bool false, .int .i64 m.node, .int .i64 m.epoch, .int .i64 1] 67))
            have hO5' := (qK HO5).bw ((Bw.refl w5).alloc (.cells #[.int .i64 (k : Int), .bool false, .int .i64 m.node, .int .i64 m.epoch, .int .i64 1] 67))
            refine ⟨⟨k + 1, _, _, by omega, by go_num, by rw [qK HM, ← List.append_assoc, qK Hmls]; exact hO5'.frame hg6.size (fun b hb hl => hg6.block b hl (fun e => hD5 b e.symm hb)), ?_, hS5, by rw [qK HPp]; exact OwnP.snoc ho6, ?_⟩, by simp [intOf]; omega⟩
            · have k1 : Chg S w0 (w5.alloc (.cells #[.int .i64 (k : Int), .bool false, .int .i64 m.node, .int .i64 m.epoch, .int .i64 1] 67)) := hC5.trans (Chg.bw (S := S) ((Bw.refl w5).alloc _)) (fun _ h => .inl h)
              have k2 : Chg (fun b => u9.ownBlock = some b) (w5.alloc (.cells #[.int .i64 (k : Int), .bool false, .int .i64 m.node, .int .i64 m.epoch, .int .i64 1] 67)) w6 := ⟨hg6.os, hg6.tape, hg6.output, hg6.size, fun i hi hn => hg6.block i hi (fun e => hn e.symm)⟩
              exact k1.trans k2 (fun b hb => .inr (World.ownsRow.lt hP5 b hb).1)
            · intro b hb
              simp [Value.ownBlock] at hb
              subst hb
              rcases hl6 with e | e
              · exact hD5 _ e
              · intro hs
                have := (qK HO5).slt _ hs
                simp at e
                omega)
        | false =>
          cases k6 : ((qT ns k).kind == 6) with
          | true =>
            have Ha : Hid (atI ns W wk m.value k = m.value % (qT ns k).k % W) := qJ (by rw [qK Hat, k5, k6]; rfl)
            obtain ⟨e61, e62⟩ := h6 k hlt (by simpa using k6)
            have htm : (m.value % (qT ns k).k).tmod (W : Int) = m.value % (qT ns k).k % W := Int.tmod_eq_emod_of_nonneg (Int.emod_nonneg _ (by omega))
            go_wp2_with fail
            go_quiet ((go_at_call 90; refine Calls.quiet_of_same (rrest_any _ _ _ e61 (by omega))))
            go_wp2_with fail
            obtain ⟨w3, hw3⟩ : ∃ w3, w2.drewN nq = w3 := ⟨_, rfl⟩
            rw [hw3]
            have hB3 : Bw w2 w3 := by rw [← hw3]; exact (Bw.refl _).drewN _
            clear hw3
            have hO3 := hO2.bw hB3
            have hr := hO3.root
            have r3 := qQ (o := 3) (u := x1.m) hr rfl
            have r3f := qZ (o := 3) hr
            have r3l := (Array.getElem?_eq_some_iff.1 hr).1
            have hbx3 := (Below.block hB3 _ bxl).trans hbx2
            have y0 := qQ (o := 0) hbx3 rfl
            have y1 := qQ (o := 1) hbx3 rfl
            have y2 := qQ (o := 2) hbx3 rfl
            have y3 := (Array.getElem?_eq_some_iff.1 hbx3).1
            have hP3 := hP1.bw (hB2.trans hB3)
            have hB13 : Bw w1 w3 := hB2.trans hB3
            have HO3 := qJ hO3
            have Hbx3 := qJ hbx3
            clear hr bx0 bx1 bx2 c0' c2' f0 f1 f2 f3 f4 hO3 hO2 hbx2 hbx3 bxl hb2 hlt2
            obtain ⟨atv, hatv⟩ : ∃ atv, atI ns W wk m.value k = atv := ⟨_, rfl⟩
            rw [hatv] at Ha HM
            rw [← qK Ha]
            clear Ha Hat hatv
            go_region_law (refine yT rfl _ _ _ 108 rfl _ 6 48 Tryz.infoMail Tryz.underlying78 rfl (by decide) 0 x1.m mls.length (jS mls) rfl ((qK HO3).bw (by repeat first|exact br _|assumption|apply bd|apply bn|apply ba|refine bt ?_ (by assumption))).mails.1 _ _ (Ml.cells ⟨atv, k, m.node, m.epoch, m.value, false⟩) rfl rfl (ml_cells (qQ (qY _ _ (by simp)) rfl) (qQ (qY _ _ (by simp)) rfl) (qQ (qY _ _ (by simp)) rfl) (qQ (qY _ _ (by simp)) rfl) (qQ (qY _ _ (by simp)) rfl) (qQ (qY _ _ (by simp)) rfl)) (ml_one _) (by omega) (by omega) (Nat.zero_le _) ?_; intro g' cap w4 ho4 hg4 hl4; have hr4 := qW ((qK HO3).bw (by repeat first|exact br _|assumption|apply bd|apply bn|apply ba|refine bt ?_ (by assumption))).mails.1 hg4 ((qK HO3).bw (by repeat first|exact br _|assumption|apply bd|apply bn|apply ba|refine bt ?_ (by assumption))).root (.inl (by decide)); have q3 := qQ (o := 3) (u := x1.m) hr4 rfl; have q3f := qZ (o := 3) hr4; have q3l := (Array.getElem?_eq_some_iff.1 hr4).1; have Hfin := qJ (put_mid (w0 := w0) (S := S) (u := u9) ((qK HO3).bw (by repeat first|exact br _|assumption|apply bd|apply bn|apply ba|refine bt ?_ (by assumption))) ho4 hg4 hl4 hmL (hP3.bw (by repeat first|exact br _|assumption|apply bd|apply bn|apply ba|refine bt ?_ (by assumption))) ((Below.block (show Bw w3 _ from (by repeat first|exact br _|assumption|apply bd|apply bn|apply ba|refine bt ?_ (by assumption))) _ y3).trans (qK Hbx3)) (hC1.trans (Chg.bw (S := S) (show Bw w1 _ from (by repeat first|exact br _|assumption|apply bd|apply bn|apply ba|refine bt ?_ (by assumption)))) (fun _ h => .inl h)) hS1 hD1); clear hr4)
            all_goals (
              obtain ⟨hO5, hP5, hbx5, hC5, hS5, hD5⟩ := qK Hfin
              obtain ⟨w5, hw5⟩ : ∃ w5, w4.setCell ⟨rb, 3, none⟩ (.slice (some ⟨g', 0, none⟩) (mls.length + 1) cap) = w5 := ⟨_, rfl⟩
              rw [hw5] at hO5 hP5 hbx5 hC5
              have z0 := qQ (o := 0) hbx5 rfl
              have z1 := qQ (o := 1) hbx5 rfl
              have z2 := (Array.getElem?_eq_some_iff.1 hbx5).1
              have HO5 := qJ hO5
              have hz5 := hC5.size
              clear hO5 Hfin q3 q3f q3l ho4 hg4 hl4 y0 y1 y2 y3
              go_wp2_with (at_builtin; refine appL _ rfl _ _ _ 67 rfl _ 5 40 Tryz.infoPoint Tryz.underlying63 rfl (by decide) w0.heap.size u9 (jR ns n m k).length (qR (jR ns n m k)) rfl (hP5.bw (by repeat first|exact br _|assumption|apply bd|apply bn|apply ba|refine bt ?_ (by assumption))) _ _ (Pt.cells ⟨k, false, m.node, m.epoch, 1⟩) rfl rfl (xV (qQ (qY _ _ (by simp)) rfl) (qQ (qY _ _ (by simp)) rfl) (qQ (qY _ _ (by simp)) rfl) (qQ (qY _ _ (by simp)) rfl) (qQ (qY _ _ (by simp)) rfl)) (pt_one _) (by omega) (by omega) (Nat.le_trans hz5 (Bw.size (by repeat first|exact br _|assumption|apply bd|apply bn|apply ba|refine bt ?_ (by assumption)))) ?_; intro g6 cap6 w6 ho6 hg6 hl6)
              have hP5' := hP5.bw (show Bw w5 _ from (Bw.refl w5).alloc (.cells #[.int .i64 (k : Int), .bool false, .int .i64 m.node, .int .i64 m.epoch, .int .i64 1] 67))
              have hO5' := (qK HO5).bw ((Bw.refl w5).alloc (.cells #[.int .i64 (k : Int), .bool false, .int .i64 m.node, .int .i64 m.epoch, .int .i64 1] 67))
              refine ⟨⟨k + 1, _, _, by omega, by go_num, by rw [qK HM, ← List.append_assoc, qK Hmls]; exact hO5'.frame hg6.size (fun b hb hl => hg6.block b hl (fun e => hD5 b e.symm hb)), ?_, hS5, by rw [qK HPp]; exact OwnP.snoc ho6, ?_⟩, by simp [intOf]; omega⟩
              · have k1 : Chg S w0 (w5.alloc (.cells #[.int .i64 (k : Int), .bool false, .int .i64 m.node, .int .i64 m.epoch, .int .i64 1] 67)) := hC5.trans (Chg.bw (S := S) ((Bw.refl w5).alloc _)) (fun _ h => .inl h)
                have k2 : Chg (fun b => u9.ownBlock = some b) (w5.alloc (.cells #[.int .i64 (k : Int), .bool false, .int .i64 m.node, .int .i64 m.epoch, .int .i64 1] 67)) w6 := ⟨hg6.os, hg6.tape, hg6.output, hg6.size, fun i hi hn => hg6.block i hi (fun e => hn e.symm)⟩
                exact k1.trans k2 (fun b hb => .inr (World.ownsRow.lt hP5 b hb).1)
              · intro b hb
                simp [Value.ownBlock] at hb
                subst hb
                rcases hl6 with e | e
                · exact hD5 _ e
                · intro hs
                  have := (qK HO5).slt _ hs
                  simp at e
                  omega)
          | false =>
            have Ha : Hid (atI ns W wk m.value k = wk) := qJ (by rw [qK Hat, k5, k6]; rfl)
            go_wp2_with fail
            obtain ⟨w3, hw3⟩ : ∃ w3, w2 = w3 := ⟨_, rfl⟩
            rw [hw3]
            have hB3 : Bw w2 w3 := by rw [← hw3]; exact Bw.refl _
            clear hw3
            have hO3 := hO2.bw hB3
            have hr := hO3.root
            have r3 := qQ (o := 3) (u := x1.m) hr rfl
            have r3f := qZ (o := 3) hr
            have r3l := (Array.getElem?_eq_some_iff.1 hr).1
            have hbx3 := (Below.block hB3 _ bxl).trans hbx2
            have y0 := qQ (o := 0) hbx3 rfl
            have y1 := qQ (o := 1) hbx3 rfl
            have y2 := qQ (o := 2) hbx3 rfl
            have y3 := (Array.getElem?_eq_some_iff.1 hbx3).1
            have hP3 := hP1.bw (hB2.trans hB3)
            have hB13 : Bw w1 w3 := hB2.trans hB3
            have HO3 := qJ hO3
            have Hbx3 := qJ hbx3
            clear hr bx0 bx1 bx2 c0' c2' f0 f1 f2 f3 f4 hO3 hO2 hbx2 hbx3 bxl hb2 hlt2
            rw [qK Ha] at HM
            clear Ha Hat
            go_region_law (refine yT rfl _ _ _ 108 rfl _ 6 48 Tryz.infoMail Tryz.underlying78 rfl (by decide) 0 x1.m mls.length (jS mls) rfl ((qK HO3).bw (by repeat first|exact br _|assumption|apply bd|apply bn|apply ba|refine bt ?_ (by assumption))).mails.1 _ _ (Ml.cells ⟨wk, k, m.node, m.epoch, m.value, false⟩) rfl rfl (ml_cells (qQ (qY _ _ (by simp)) rfl) (qQ (qY _ _ (by simp)) rfl) (qQ (qY _ _ (by simp)) rfl) (qQ (qY _ _ (by simp)) rfl) (qQ (qY _ _ (by simp)) rfl) (qQ (qY _ _ (by simp)) rfl)) (ml_one _) (by omega) (by omega) (Nat.zero_le _) ?_; intro g' cap w4 ho4 hg4 hl4; have hr4 := qW ((qK HO3).bw (by repeat first|exact br _|assumption|apply bd|apply bn|apply ba|refine bt ?_ (by assumption))).mails.1 hg4 ((qK HO3).bw (by repeat first|exact br _|assumption|apply bd|apply bn|apply ba|refine bt ?_ (by assumption))).root (.inl (by decide)); have q3 := qQ (o := 3) (u := x1.m) hr4 rfl; have q3f := qZ (o := 3) hr4; have q3l := (Array.getElem?_eq_some_iff.1 hr4).1; have Hfin := qJ (put_mid (w0 := w0) (S := S) (u := u9) ((qK HO3).bw (by repeat first|exact br _|assumption|apply bd|apply bn|apply ba|refine bt ?_ (by assumption))) ho4 hg4 hl4 hmL (hP3.bw (by repeat first|exact br _|assumption|apply bd|apply bn|apply ba|refine bt ?_ (by assumption))) ((Below.block (show Bw w3 _ from (by repeat first|exact br _|assumption|apply bd|apply bn|apply ba|refine bt ?_ (by assumption))) _ y3).trans (qK Hbx3)) (hC1.trans (Chg.bw (S := S) (show Bw w1 _ from (by repeat first|exact br _|assumption|apply bd|apply bn|apply ba|refine bt ?_ (by assumption)))) (fun _ h => .inl h)) hS1 hD1); clear hr4)
            all_goals (
              obtain ⟨hO5, hP5, hbx5, hC5, hS5, hD5⟩ := qK Hfin
              obtain ⟨w5, hw5⟩ : ∃ w5, w4.setCell ⟨rb, 3, none⟩ (.slice (some ⟨g', 0, none⟩) (mls.length + 1) cap) = w5 := ⟨_, rfl⟩
              rw [hw5] at hO5 hP5 hbx5 hC5
              have z0 := qQ (o := 0) hbx5 rfl
              have z1 := qQ (o := 1) hbx5 rfl
              have z2 := (Array.getElem?_eq_some_iff.1 hbx5).1
              have HO5 := qJ hO5
              have hz5 := hC5.size
              clear hO5 Hfin q3 q3f q3l ho4 hg4 hl4 y0 y1 y2 y3
              go_wp2_with (at_builtin; refine appL _ rfl _ _ _ 67 rfl _ 5 40 Tryz.infoPoint Tryz.underlying63 rfl (by decide) w0.heap.size u9 (jR ns n m k).length (qR (jR ns n m k)) rfl (hP5.bw (by repeat first|exact br _|assumption|apply bd|apply bn|apply ba|refine bt ?_ (by assumption))) _ _ (Pt.cells ⟨k, false, m.node, m.epoch, 1⟩) rfl rfl (xV (qQ (qY _ _ (by simp)) rfl) (qQ (qY _ _ (by simp)) rfl) (qQ (qY _ _ (by simp)) rfl) (qQ (qY _ _ (by simp)) rfl) (qQ (qY _ _ (by simp)) rfl)) (pt_one _) (by omega) (by omega) (Nat.le_trans hz5 (Bw.size (by repeat first|exact br _|assumption|apply bd|apply bn|apply ba|refine bt ?_ (by assumption)))) ?_; intro g6 cap6 w6 ho6 hg6 hl6)
              have hP5' := hP5.bw (show Bw w5 _ from (Bw.refl w5).alloc (.cells #[.int .i64 (k : Int), .bool false, .int .i64 m.node, .int .i64 m.epoch, .int .i64 1] 67))
              have hO5' := (qK HO5).bw ((Bw.refl w5).alloc (.cells #[.int .i64 (k : Int), .bool false, .int .i64 m.node, .int .i64 m.epoch, .int .i64 1] 67))
              refine ⟨⟨k + 1, _, _, by omega, by go_num, by rw [qK HM, ← List.append_assoc, qK Hmls]; exact hO5'.frame hg6.size (fun b hb hl => hg6.block b hl (fun e => hD5 b e.symm hb)), ?_, hS5, by rw [qK HPp]; exact OwnP.snoc ho6, ?_⟩, by simp [intOf]; omega⟩
              · have k1 : Chg S w0 (w5.alloc (.cells #[.int .i64 (k : Int), .bool false, .int .i64 m.node, .int .i64 m.epoch, .int .i64 1] 67)) := hC5.trans (Chg.bw (S := S) ((Bw.refl w5).alloc _)) (fun _ h => .inl h)
                have k2 : Chg (fun b => u9.ownBlock = some b) (w5.alloc (.cells #[.int .i64 (k : Int), .bool false, .int .i64 m.node, .int .i64 m.epoch, .int .i64 1] 67)) w6 := ⟨hg6.os, hg6.tape, hg6.output, hg6.size, fun i hi hn => hg6.block i hi (fun e => hn e.symm)⟩
                exact k1.trans k2 (fun b hb => .inr (World.ownsRow.lt hP5 b hb).1)
              · intro b hb
                simp [Value.ownBlock] at hb
                subst hb
                rcases hl6 with e | e
                · exact hD5 _ e
                · intro hs
                  have := (qK HO5).slt _ hs
                  simp at e
                  omega)
    · have hkk : k = ns.length := by omega
      subst hkk
      go_wp2_with fail
      go_ret
      exact ⟨_, rfl, hP1.weaken hB0, S1, x1, hO1, (Chg.bw (S := S) hB0).trans hC1 (fun _ h => .inl h), fun b hb => by rcases hS1 b hb with h | h; exact .inl h; exact .inr (by omega)⟩
end Go.Proofs.YtfemleimkbjehaaGreat
