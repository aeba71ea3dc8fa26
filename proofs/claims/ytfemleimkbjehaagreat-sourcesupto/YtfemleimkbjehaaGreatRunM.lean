import Derived.Test.YtfemleimkbjehaaGreatJ26
namespace Go.Proofs.YtfemleimkbjehaaGreat
set_option linter.unusedVariables false
set_option linter.unusedSimpArgs false
open Go.RowKit

theorem Tryz.infoMail : (Tryz.prog.info? 108).map (fun i => (i.zero, i.size, i.bytes)) = some (some (.agg #[.int .i64 0, .int .i64 0, .int .i64 0, .int .i64 0, .int .i64 0, .bool false]), 6, 48) := by kernel_rfl
theorem ml_cells {w : World} {g : Nat} {p : Ml} (h0 : w.cell? ⟨g, 0, none⟩ = some (.int .i64 p.worker)) (h1 : w.cell? ⟨g, 1, none⟩ = some (.int .i64 p.node)) (h2 : w.cell? ⟨g, 2, none⟩ = some (.int .i64 p.epoch)) (h3 : w.cell? ⟨g, 3, none⟩ = some (.int .i64 p.round)) (h4 : w.cell? ⟨g, 4, none⟩ = some (.int .i64 p.value)) (h5 : w.cell? ⟨g, 5, none⟩ = some (.bool p.gone)) : ∀ j u, p.cells[j]? = some u → w.cell? ⟨g, j, none⟩ = some u := by
  intro j u hj
  unfold Ml.cells at hj
  match j, hj with
  | 0, hj => simp at hj; subst hj; exact h0
  | 1, hj => simp at hj; subst hj; exact h1
  | 2, hj => simp at hj; subst hj; exact h2
  | 3, hj => simp at hj; subst hj; exact h3
  | 4, hj => simp at hj; subst hj; exact h4
  | 5, hj => simp at hj; subst hj; exact h5
theorem ml_one (p : Ml) : ∀ u ∈ p.cells, u.oneCell' = true := by
  intro u hu
  simp [Ml.cells] at hu
  rcases hu with rfl | rfl | rfl | rfl | rfl | rfl <;> rfl
/-- On which worker a message waits. -/
def atI (ns : List Nd) (W : Nat) (w : Int) (v : Int) (x : Nat) : Int := if (ndn ns x).kind == 5 then v % W else if (ndn ns x).kind == 6 then (v % (ndn ns x).k) % W else w
def putM (ns : List Nd) (W : Nat) (w n : Int) (m : Gv) : Nat → List Ml
  | 0 => []
  | x + 1 => if takesB (ndn ns x) n then putM ns W w n m x ++ [⟨atI ns W w m.value x, x, m.node, m.epoch, m.value, false⟩] else putM ns W w n m x
def putP (ns : List Nd) (n : Int) (m : Gv) : Nat → List Pt
  | 0 => []
  | x + 1 => if takesB (ndn ns x) n then putP ns n m x ++ [⟨x, false, m.node, m.epoch, 1⟩] else putP ns n m x
theorem putM_len (ns : List Nd) (W : Nat) (w n : Int) (m : Gv) (k : Nat) : (putM ns W w n m k).length ≤ k := by
  induction k with
  | zero => simp [putM]
  | succ k ih => unfold putM; split <;> (try simp) <;> omega
theorem putP_len (ns : List Nd) (n : Int) (m : Gv) (k : Nat) : (putP ns n m k).length ≤ k := by
  induction k with
  | zero => simp [putP]
  | succ k ih => unfold putP; split <;> (try simp) <;> omega

/-- The mail is added to the run: what stands behind the store. -/
theorem put_mid {w0 w w' : World} {S S1 : Nat → Prop} {rb g' cap mb : Nat} {x : RX} {ns : List Nd} {R W : Nat} {D : Nat → Nat → Int} {st : RSt} {y : Ml} {u : Value} {ps : List Pt} {arr : Array Value} (h : ROwn w S1 rb x ns R W D st)
    (h2 : w'.ownsRow 0 108 6 (.slice (some ⟨g', 0, none⟩) (st.mails.length + 1) cap) (st.mails.length + 1) (mlsCells st.mails ++ y.cells)) (hg : w.grownBy w' x.m.ownBlock) (hl : x.m.ownBlock = some g' ∨ g' = w.heap.size) (hlen : st.mails.length + 1 ≤ 1000000)
    (hP : OwnP w0 w u ps) (hbx : w.heap[mb]? = some (.cells arr 62)) (hC : Chg S w0 w) (hS : ∀ b, S1 b → S b ∨ w0.heap.size ≤ b) (hD : ∀ b, u.ownBlock = some b → ¬ S1 b) :
    ROwn (w'.setCell ⟨rb, 3, none⟩ (.slice (some ⟨g', 0, none⟩) (st.mails.length + 1) cap)) (fun b => S1 b ∨ b = g') rb { x with m := .slice (some ⟨g', 0, none⟩) (st.mails.length + 1) cap } ns R W D { st with mails := st.mails ++ [y] } ∧
    OwnP w0 (w'.setCell ⟨rb, 3, none⟩ (.slice (some ⟨g', 0, none⟩) (st.mails.length + 1) cap)) u ps ∧ (w'.setCell ⟨rb, 3, none⟩ (.slice (some ⟨g', 0, none⟩) (st.mails.length + 1) cap)).heap[mb]? = some (.cells arr 62) ∧
    Chg S w0 (w'.setCell ⟨rb, 3, none⟩ (.slice (some ⟨g', 0, none⟩) (st.mails.length + 1) cap)) ∧ (∀ b, (S1 b ∨ b = g') → S b ∨ w0.heap.size ≤ b) ∧ (∀ b, u.ownBlock = some b → ¬ (S1 b ∨ b = g')) := by
  have hr := grown_block h.mails.1 hg h.root (.inl (by decide))
  refine ⟨h.addMails h2 hg hlen, ?_, ?_, ?_, ?_, ?_⟩
  · exact ownsRow_setT hr (ownsRow_grown h.mails.1 hg hP (by decide)) (by decide)
  · have hb := grown_block h.mails.1 hg hbx (.inl (by decide))
    refine (Below.heap_setCell w' ⟨rb, 3, none⟩ _ mb ?_).trans hb
    intro eq
    simp only at eq
    subst eq
    rw [hr] at hb
    simp at hb
  · exact hC.trans (chg_add (k := 3) (base := 0) h.mails hg h.sroot rfl) hS
  · intro b hb
    rcases hb with hb | rfl
    · exact hS b hb
    · rcases hl with e | e
      · exact hS _ (h.mails.2 _ e)
      · exact .inr (by have := hC.size; omega)
  · intro b hb hn
    rcases hn with hn | rfl
    · exact hD b hb hn
    · rcases hl with e | e
      · exact hD _ hb (h.mails.2 _ e)
      · have := (World.ownsRow.lt hP b hb).2; omega

set_option maxRecDepth 100000 in
set_option maxHeartbeats 4000000 in
theorem rput_any {S : Nat → Prop} {rb : Nat} {x : RX} {ns : List Nd} {R W : Nat} {D : Nat → Nat → Int} {st : RSt} (wk n : Int) (m : Gv) (w : World) (hO : ROwn w S rb x ns R W D st) (hlm : st.mails.length + 8 ≤ 1000000) (h6 : ∀ k, k < ns.length → (ndn ns k).kind = 6 → 1 ≤ (ndn ns k).k ∧ (ndn ns k).k ≤ 8) :
    Calls Tryz.prog 59 #[.pointer (some ⟨rb, 0, none⟩), .int .i64 wk, .int .i64 n, .agg #[.int .i64 m.node, .int .i64 m.epoch, .int .i64 m.value]] w fun e w' => ∃ v, e = .returned v ∧ OwnP w w' v (putP ns n m ns.length) ∧ ∃ (S' : Nat → Prop) (x' : RX), ROwn w' S' rb x' ns R W D { st with mails := st.mails ++ putM ns W wk n m ns.length } ∧ Chg S w w' ∧ (∀ b, S' b → S b ∨ w.heap.size ≤ b) := by
  obtain ⟨s1, s2, s3, s4, s5⟩ := hO.small
  obtain ⟨w0, hw0⟩ : ∃ w0, w.alloc (.cells #[.int .i64 m.node, .int .i64 m.epoch, .int .i64 m.value] 62) = w0 := ⟨_, rfl⟩
  obtain ⟨hB0, hbx, hz0⟩ : Bw w w0 ∧ w0.heap[w.heap.size]? = some (.cells #[.int .i64 m.node, .int .i64 m.epoch, .int .i64 m.value] 62) ∧ w0.heap.size = w.heap.size + 1 := by
    rw [← hw0]; exact ⟨(by repeat (first | exact Bw.refl _ | assumption | refine Bw.drew ?_ | refine Bw.drewN ?_ _ | refine Bw.alloc ?_ _ | refine Bw.trans ?_ (by assumption))), heap_alloc_new w _, by simp⟩
  have hnS : ¬ S w.heap.size := fun h => by have := hO.slt _ h; omega
  have hO0 := hO.bw hB0
  go_enter Tryz.func59, Tryz.ntmps59
  go_wp2_with fail
  go_loopw [9, 10] (fun v i wr => ∃ (k : Nat) (S' : Nat → Prop) (x' : RX), k ≤ ns.length ∧ i = .int .i64 k ∧ ROwn wr S' rb x' ns R W D { st with mails := st.mails ++ putM ns W wk n m k } ∧ Chg S w0 wr ∧ (∀ b, S' b → S b ∨ w0.heap.size ≤ b) ∧ OwnP w0 wr v (putP ns n m k) ∧ (∀ b, v.ownBlock = some b → ¬ S' b)) (fun _ i _ => ns.length - (intOf i).toNat)
  case atStart => exact ⟨0, S, x, Nat.zero_le _, rfl, by rw [show putM ns W wk n m 0 = [] from rfl, List.append_nil]; exact hO0, Chg.refl _ _, fun _ h => .inl h, OwnP.nil _ _, by simp [Value.ownBlock]⟩
  case round =>
    clear hO0
    obtain ⟨k, S1, x1, hk, rfl, hO1, hC1, hS1, hP1, hD1⟩ := hrel
    rename World => w1
    have hml := putM_len ns W wk n m k
    have hpl := putP_len ns n m k
    have hR1 := hO1.read
    have c0 := hR1.c0
    have hlt0 := hR1.lt
    by_cases hlt : k < ns.length
    · obtain ⟨b, off, e, hb, hc⟩ := hR1.nodes k hlt
      obtain ⟨d0, d1, d2, d3, d4⟩ := hc k hlt
      rw [e] at c0
      have hbx1 := (hC1.block _ (by omega) hnS).trans hbx
      clear hc
      cases ht : takesB (ndn ns k) n with
      | false =>
        have HM : Hid (putM ns W wk n m (k + 1) = putM ns W wk n m k) := hide (by rw [putM, ht]; rfl)
        have HPp : Hid (putP ns n m (k + 1) = putP ns n m k) := hide (by rw [putP, ht]; rfl)
        have Ht := hide ht
        clear ht
        have HO1 := hide hO1
        clear hO1 hR1
        go_wp2_with (go_at_call 85; refine (rtakes_any (ndn ns k) _ _).mono ?_; rintro en w2 ⟨rfl, hB2⟩; rw [unhide Ht])
        go_roundw
        case rel => exact ⟨k + 1, S1, x1, by omega, by go_num, by rw [unhide HM]; exact (unhide HO1).bw hB2, hC1.trans (Chg.bw (S := S) hB2) (fun _ h => .inl h), hS1, by rw [unhide HPp]; exact hP1.bw hB2, hD1⟩
        case measure => simp [intOf]; omega
      | true =>
        have HM : Hid (putM ns W wk n m (k + 1) = putM ns W wk n m k ++ [⟨atI ns W wk m.value k, k, m.node, m.epoch, m.value, false⟩]) := hide (by rw [putM, ht]; rfl)
        have HPp : Hid (putP ns n m (k + 1) = putP ns n m k ++ [⟨k, false, m.node, m.epoch, 1⟩]) := hide (by rw [putP, ht]; rfl)
        have Ht := hide ht
        have HO1 := hide hO1
        clear ht hO1 hR1
        go_wp2_with fail
        refine (rtakes_any (ndn ns k) _ _).mono ?_
        rintro en w2 ⟨rfl, hB2⟩
        rw [unhide Ht]
        have hO2 := (unhide HO1).bw hB2
        have hR2 := hO2.read
        have c0' := hR2.c0
        have c2' := hR2.c2
        have hlt2 := hR2.lt
        obtain ⟨b2, off2, e2, hb2, hc2⟩ := hR2.nodes k hlt
        obtain ⟨f0, f1, f2, f3, f4⟩ := hc2 k hlt
        rw [e2] at c0'
        have hbx2 := (Below.block hB2 _ (Array.getElem?_eq_some_iff.1 hbx1).1).trans hbx1
        have bx0 := cell_of_block (o := 0) hbx2 rfl
        have bx1 := cell_of_block (o := 1) hbx2 rfl
        have bx2 := cell_of_block (o := 2) hbx2 rfl
        have bxl := (Array.getElem?_eq_some_iff.1 hbx2).1
        obtain ⟨mls, hmls⟩ : ∃ mls, st.mails ++ putM ns W wk n m k = mls := ⟨_, rfl⟩
        have hmL : mls.length + 1 ≤ 1000000 := by rw [← hmls, List.length_append]; omega
        rw [hmls] at hO2
        have Hmls := hide hmls
        clear hmls
        have Hat : Hid (atI ns W wk m.value k = if (ndn ns k).kind == 5 then m.value % W else if (ndn ns k).kind == 6 then (m.value % (ndn ns k).k) % W else wk) := hide rfl
        have hW1 : (1 : Int) ≤ (W : Int) := by omega
        have hW2 : (W : Int) ≤ 1000 := by omega
        clear hc2 e2 c0 hlt0 d0 d1 d2 d3 d4 hb hR2 hbx1 e
        cases k5 : ((ndn ns k).kind == 5) with
        | true =>
          have Ha : Hid (atI ns W wk m.value k = m.value % W) := hide (by rw [unhide Hat, k5]; rfl)
          go_wp2_with fail
          go_quiet ((go_at_call 90; refine Calls.quiet_of_same (rrest_any _ _ _ hW1 hW2)))
          go_wp2_with fail
          obtain ⟨w3, hw3⟩ : ∃ w3, w2.drewN nq = w3 := ⟨_, rfl⟩
          rw [hw3]
          have hB3 : Bw w2 w3 := by rw [← hw3]; exact (Bw.refl _).drewN _
          clear hw3
          have hO3 := hO2.bw hB3
          have hr := hO3.root
          have r3 := cell_of_block (o := 3) (u := x1.m) hr rfl
          have r3f := frozen_of_block (o := 3) hr
          have r3l := (Array.getElem?_eq_some_iff.1 hr).1
          have hbx3 := (Below.block hB3 _ bxl).trans hbx2
          have y0 := cell_of_block (o := 0) hbx3 rfl
          have y1 := cell_of_block (o := 1) hbx3 rfl
          have y2 := cell_of_block (o := 2) hbx3 rfl
          have y3 := (Array.getElem?_eq_some_iff.1 hbx3).1
          have hP3 := hP1.bw (hB2.trans hB3)
          have hB13 : Bw w1 w3 := hB2.trans hB3
          have HO3 := hide hO3
          have Hbx3 := hide hbx3
          clear hr bx0 bx1 bx2 c0' c2' f0 f1 f2 f3 f4 hO3 hO2 hbx2 hbx3 bxl hb2 hlt2
          obtain ⟨atv, hatv⟩ : ∃ atv, atI ns W wk m.value k = atv := ⟨_, rfl⟩
          rw [hatv] at Ha HM
          rw [← unhide Ha]
          clear Ha Hat hatv
          go_region_law (refine stepL rfl _ _ _ 108 rfl _ 6 48 Tryz.infoMail Tryz.underlying78 rfl (by decide) 0 x1.m mls.length (mlsCells mls) rfl ((unhide HO3).bw (by repeat (first | exact Bw.refl _ | assumption | refine Bw.drew ?_ | refine Bw.drewN ?_ _ | refine Bw.alloc ?_ _ | refine Bw.trans ?_ (by assumption)))).mails.1 _ _ (Ml.cells ⟨atv, k, m.node, m.epoch, m.value, false⟩) rfl rfl (ml_cells (cell_of_block (alloc_at _ _ (by simp)) rfl) (cell_of_block (alloc_at _ _ (by simp)) rfl) (cell_of_block (alloc_at _ _ (by simp)) rfl) (cell_of_block (alloc_at _ _ (by simp)) rfl) (cell_of_block (alloc_at _ _ (by simp)) rfl) (cell_of_block (alloc_at _ _ (by simp)) rfl)) (ml_one _) (by omega) (by omega) (Nat.zero_le _) ?_; intro g' cap w4 ho4 hg4 hl4; have hr4 := grown_block ((unhide HO3).bw (by repeat (first | exact Bw.refl _ | assumption | refine Bw.drew ?_ | refine Bw.drewN ?_ _ | refine Bw.alloc ?_ _ | refine Bw.trans ?_ (by assumption)))).mails.1 hg4 ((unhide HO3).bw (by repeat (first | exact Bw.refl _ | assumption | refine Bw.drew ?_ | refine Bw.drewN ?_ _ | refine Bw.alloc ?_ _ | refine Bw.trans ?_ (by assumption)))).root (.inl (by decide)); have q3 := cell_of_block (o := 3) (u := x1.m) hr4 rfl; have q3f := frozen_of_block (o := 3) hr4; have q3l := (Array.getElem?_eq_some_iff.1 hr4).1; have Hfin := hide (put_mid (w0 := w0) (S := S) (u := u9) ((unhide HO3).bw (by repeat (first | exact Bw.refl _ | assumption | refine Bw.drew ?_ | refine Bw.drewN ?_ _ | refine Bw.alloc ?_ _ | refine Bw.trans ?_ (by assumption)))) ho4 hg4 hl4 hmL (hP3.bw (by repeat (first | exact Bw.refl _ | assumption | refine Bw.drew ?_ | refine Bw.drewN ?_ _ | refine Bw.alloc ?_ _ | refine Bw.trans ?_ (by assumption)))) ((Below.block (show Bw w3 _ from (by repeat (first | exact Bw.refl _ | assumption | refine Bw.drew ?_ | refine Bw.drewN ?_ _ | refine Bw.alloc ?_ _ | refine Bw.trans ?_ (by assumption)))) _ y3).trans (unhide Hbx3)) (hC1.trans (Chg.bw (S := S) (show Bw w1 _ from (by repeat (first | exact Bw.refl _ | assumption | refine Bw.drew ?_ | refine Bw.drewN ?_ _ | refine Bw.alloc ?_ _ | refine Bw.trans ?_ (by assumption))))) (fun _ h => .inl h)) hS1 hD1); clear hr4)
          all_goals (
            obtain ⟨hO5, hP5, hbx5, hC5, hS5, hD5⟩ := unhide Hfin
            obtain ⟨w5, hw5⟩ : ∃ w5, w4.setCell ⟨rb, 3, none⟩ (.slice (some ⟨g', 0, none⟩) (mls.length + 1) cap) = w5 := ⟨_, rfl⟩
            rw [hw5] at hO5 hP5 hbx5 hC5
            have z0 := cell_of_block (o := 0) hbx5 rfl
            have z1 := cell_of_block (o := 1) hbx5 rfl
            have z2 := (Array.getElem?_eq_some_iff.1 hbx5).1
            have HO5 := hide hO5
            have hz5 := hC5.size
            clear hO5 Hfin q3 q3f q3l ho4 hg4 hl4 y0 y1 y2 y3
            go_wp2_with (at_builtin; refine appL _ rfl _ _ _ 67 rfl _ 5 40 Tryz.infoPoint Tryz.underlying63 rfl (by decide) w0.heap.size u9 (putP ns n m k).length (ptsCells (putP ns n m k)) rfl (hP5.bw (by repeat (first | exact Bw.refl _ | assumption | refine Bw.drew ?_ | refine Bw.drewN ?_ _ | refine Bw.alloc ?_ _ | refine Bw.trans ?_ (by assumption)))) _ _ (Pt.cells ⟨k, false, m.node, m.epoch, 1⟩) rfl rfl (pt_cells (cell_of_block (alloc_at _ _ (by simp)) rfl) (cell_of_block (alloc_at _ _ (by simp)) rfl) (cell_of_block (alloc_at _ _ (by simp)) rfl) (cell_of_block (alloc_at _ _ (by simp)) rfl) (cell_of_block (alloc_at _ _ (by simp)) rfl)) (pt_one _) (by omega) (by omega) (Nat.le_trans hz5 (Bw.size (by repeat (first | exact Bw.refl _ | assumption | refine Bw.drew ?_ | refine Bw.drewN ?_ _ | refine Bw.alloc ?_ _ | refine Bw.trans ?_ (by assumption))))) ?_; intro g6 cap6 w6 ho6 hg6 hl6)
            have hP5' := hP5.bw (show Bw w5 _ from (Bw.refl w5).alloc (.cells #[.int .i64 (k : Int), .bool false, .int .i64 m.node, .int .i64 m.epoch, .int .i64 1] 67))
            have hO5' := (unhide HO5).bw ((Bw.refl w5).alloc (.cells #[.int .i64 (k : Int), .bool false, .int .i64 m.node, .int .i64 m.epoch, .int .i64 1] 67))
            refine ⟨⟨k + 1, _, _, by omega, by go_num, by rw [unhide HM, ← List.append_assoc, unhide Hmls]; exact hO5'.frame hg6.size (fun b hb hl => hg6.block b hl (fun e => hD5 b e.symm hb)), ?_, hS5, by rw [unhide HPp]; exact OwnP.snoc ho6, ?_⟩, by simp [intOf]; omega⟩
            · have k1 : Chg S w0 (w5.alloc (.cells #[.int .i64 (k : Int), .bool false, .int .i64 m.node, .int .i64 m.epoch, .int .i64 1] 67)) := hC5.trans (Chg.bw (S := S) ((Bw.refl w5).alloc _)) (fun _ h => .inl h)
              have k2 : Chg (fun b => u9.ownBlock = some b) (w5.alloc (.cells #[.int .i64 (k : Int), .bool false, .int .i64 m.node, .int .i64 m.epoch, .int .i64 1] 67)) w6 := ⟨hg6.os, hg6.tape, hg6.output, hg6.size, fun i hi hn => hg6.block i hi (fun e => hn e.symm)⟩
              exact k1.trans k2 (fun b hb => .inr (World.ownsRow.lt hP5 b hb).1)
            · intro b hb
              simp [Value.ownBlock] at hb
              subst hb
              rcases hl6 with e | e
              · exact hD5 _ e
              · intro hs
                have := (unhide HO5).slt _ hs
                simp at e
                omega)
        | false =>
          cases k6 : ((ndn ns k).kind == 6) with
          | true =>
            have Ha : Hid (atI ns W wk m.value k = m.value % (ndn ns k).k % W) := hide (by rw [unhide Hat, k5, k6]; rfl)
            obtain ⟨e61, e62⟩ := h6 k hlt (by simpa using k6)
            have htm : (m.value % (ndn ns k).k).tmod (W : Int) = m.value % (ndn ns k).k % W := Int.tmod_eq_emod_of_nonneg (Int.emod_nonneg _ (by omega))
            go_wp2_with fail
            go_quiet ((go_at_call 90; refine Calls.quiet_of_same (rrest_any _ _ _ e61 (by omega))))
            go_wp2_with fail
            obtain ⟨w3, hw3⟩ : ∃ w3, w2.drewN nq = w3 := ⟨_, rfl⟩
            rw [hw3]
            have hB3 : Bw w2 w3 := by rw [← hw3]; exact (Bw.refl _).drewN _
            clear hw3
            have hO3 := hO2.bw hB3
            have hr := hO3.root
            have r3 := cell_of_block (o := 3) (u := x1.m) hr rfl
            have r3f := frozen_of_block (o := 3) hr
            have r3l := (Array.getElem?_eq_some_iff.1 hr).1
            have hbx3 := (Below.block hB3 _ bxl).trans hbx2
            have y0 := cell_of_block (o := 0) hbx3 rfl
            have y1 := cell_of_block (o := 1) hbx3 rfl
            have y2 := cell_of_block (o := 2) hbx3 rfl
            have y3 := (Array.getElem?_eq_some_iff.1 hbx3).1
            have hP3 := hP1.bw (hB2.trans hB3)
            have hB13 : Bw w1 w3 := hB2.trans hB3
            have HO3 := hide hO3
            have Hbx3 := hide hbx3
            clear hr bx0 bx1 bx2 c0' c2' f0 f1 f2 f3 f4 hO3 hO2 hbx2 hbx3 bxl hb2 hlt2
            obtain ⟨atv, hatv⟩ : ∃ atv, atI ns W wk m.value k = atv := ⟨_, rfl⟩
            rw [hatv] at Ha HM
            rw [← unhide Ha]
            clear Ha Hat hatv
            go_region_law (refine stepL rfl _ _ _ 108 rfl _ 6 48 Tryz.infoMail Tryz.underlying78 rfl (by decide) 0 x1.m mls.length (mlsCells mls) rfl ((unhide HO3).bw (by repeat (first | exact Bw.refl _ | assumption | refine Bw.drew ?_ | refine Bw.drewN ?_ _ | refine Bw.alloc ?_ _ | refine Bw.trans ?_ (by assumption)))).mails.1 _ _ (Ml.cells ⟨atv, k, m.node, m.epoch, m.value, false⟩) rfl rfl (ml_cells (cell_of_block (alloc_at _ _ (by simp)) rfl) (cell_of_block (alloc_at _ _ (by simp)) rfl) (cell_of_block (alloc_at _ _ (by simp)) rfl) (cell_of_block (alloc_at _ _ (by simp)) rfl) (cell_of_block (alloc_at _ _ (by simp)) rfl) (cell_of_block (alloc_at _ _ (by simp)) rfl)) (ml_one _) (by omega) (by omega) (Nat.zero_le _) ?_; intro g' cap w4 ho4 hg4 hl4; have hr4 := grown_block ((unhide HO3).bw (by repeat (first | exact Bw.refl _ | assumption | refine Bw.drew ?_ | refine Bw.drewN ?_ _ | refine Bw.alloc ?_ _ | refine Bw.trans ?_ (by assumption)))).mails.1 hg4 ((unhide HO3).bw (by repeat (first | exact Bw.refl _ | assumption | refine Bw.drew ?_ | refine Bw.drewN ?_ _ | refine Bw.alloc ?_ _ | refine Bw.trans ?_ (by assumption)))).root (.inl (by decide)); have q3 := cell_of_block (o := 3) (u := x1.m) hr4 rfl; have q3f := frozen_of_block (o := 3) hr4; have q3l := (Array.getElem?_eq_some_iff.1 hr4).1; have Hfin := hide (put_mid (w0 := w0) (S := S) (u := u9) ((unhide HO3).bw (by repeat (first | exact Bw.refl _ | assumption | refine Bw.drew ?_ | refine Bw.drewN ?_ _ | refine Bw.alloc ?_ _ | refine Bw.trans ?_ (by assumption)))) ho4 hg4 hl4 hmL (hP3.bw (by repeat (first | exact Bw.refl _ | assumption | refine Bw.drew ?_ | refine Bw.drewN ?_ _ | refine Bw.alloc ?_ _ | refine Bw.trans ?_ (by assumption)))) ((Below.block (show Bw w3 _ from (by repeat (first | exact Bw.refl _ | assumption | refine Bw.drew ?_ | refine Bw.drewN ?_ _ | refine Bw.alloc ?_ _ | refine Bw.trans ?_ (by assumption)))) _ y3).trans (unhide Hbx3)) (hC1.trans (Chg.bw (S := S) (show Bw w1 _ from (by repeat (first | exact Bw.refl _ | assumption | refine Bw.drew ?_ | refine Bw.drewN ?_ _ | refine Bw.alloc ?_ _ | refine Bw.trans ?_ (by assumption))))) (fun _ h => .inl h)) hS1 hD1); clear hr4)
            all_goals (
              obtain ⟨hO5, hP5, hbx5, hC5, hS5, hD5⟩ := unhide Hfin
              obtain ⟨w5, hw5⟩ : ∃ w5, w4.setCell ⟨rb, 3, none⟩ (.slice (some ⟨g', 0, none⟩) (mls.length + 1) cap) = w5 := ⟨_, rfl⟩
              rw [hw5] at hO5 hP5 hbx5 hC5
              have z0 := cell_of_block (o := 0) hbx5 rfl
              have z1 := cell_of_block (o := 1) hbx5 rfl
              have z2 := (Array.getElem?_eq_some_iff.1 hbx5).1
              have HO5 := hide hO5
              have hz5 := hC5.size
              clear hO5 Hfin q3 q3f q3l ho4 hg4 hl4 y0 y1 y2 y3
              go_wp2_with (at_builtin; refine appL _ rfl _ _ _ 67 rfl _ 5 40 Tryz.infoPoint Tryz.underlying63 rfl (by decide) w0.heap.size u9 (putP ns n m k).length (ptsCells (putP ns n m k)) rfl (hP5.bw (by repeat (first | exact Bw.refl _ | assumption | refine Bw.drew ?_ | refine Bw.drewN ?_ _ | refine Bw.alloc ?_ _ | refine Bw.trans ?_ (by assumption)))) _ _ (Pt.cells ⟨k, false, m.node, m.epoch, 1⟩) rfl rfl (pt_cells (cell_of_block (alloc_at _ _ (by simp)) rfl) (cell_of_block (alloc_at _ _ (by simp)) rfl) (cell_of_block (alloc_at _ _ (by simp)) rfl) (cell_of_block (alloc_at _ _ (by simp)) rfl) (cell_of_block (alloc_at _ _ (by simp)) rfl)) (pt_one _) (by omega) (by omega) (Nat.le_trans hz5 (Bw.size (by repeat (first | exact Bw.refl _ | assumption | refine Bw.drew ?_ | refine Bw.drewN ?_ _ | refine Bw.alloc ?_ _ | refine Bw.trans ?_ (by assumption))))) ?_; intro g6 cap6 w6 ho6 hg6 hl6)
              have hP5' := hP5.bw (show Bw w5 _ from (Bw.refl w5).alloc (.cells #[.int .i64 (k : Int), .bool false, .int .i64 m.node, .int .i64 m.epoch, .int .i64 1] 67))
              have hO5' := (unhide HO5).bw ((Bw.refl w5).alloc (.cells #[.int .i64 (k : Int), .bool false, .int .i64 m.node, .int .i64 m.epoch, .int .i64 1] 67))
              refine ⟨⟨k + 1, _, _, by omega, by go_num, by rw [unhide HM, ← List.append_assoc, unhide Hmls]; exact hO5'.frame hg6.size (fun b hb hl => hg6.block b hl (fun e => hD5 b e.symm hb)), ?_, hS5, by rw [unhide HPp]; exact OwnP.snoc ho6, ?_⟩, by simp [intOf]; omega⟩
              · have k1 : Chg S w0 (w5.alloc (.cells #[.int .i64 (k : Int), .bool false, .int .i64 m.node, .int .i64 m.epoch, .int .i64 1] 67)) := hC5.trans (Chg.bw (S := S) ((Bw.refl w5).alloc _)) (fun _ h => .inl h)
                have k2 : Chg (fun b => u9.ownBlock = some b) (w5.alloc (.cells #[.int .i64 (k : Int), .bool false, .int .i64 m.node, .int .i64 m.epoch, .int .i64 1] 67)) w6 := ⟨hg6.os, hg6.tape, hg6.output, hg6.size, fun i hi hn => hg6.block i hi (fun e => hn e.symm)⟩
                exact k1.trans k2 (fun b hb => .inr (World.ownsRow.lt hP5 b hb).1)
              · intro b hb
                simp [Value.ownBlock] at hb
                subst hb
                rcases hl6 with e | e
                · exact hD5 _ e
                · intro hs
                  have := (unhide HO5).slt _ hs
                  simp at e
                  omega)
          | false =>
            have Ha : Hid (atI ns W wk m.value k = wk) := hide (by rw [unhide Hat, k5, k6]; rfl)
            go_wp2_with fail
            obtain ⟨w3, hw3⟩ : ∃ w3, w2 = w3 := ⟨_, rfl⟩
            rw [hw3]
            have hB3 : Bw w2 w3 := by rw [← hw3]; exact Bw.refl _
            clear hw3
            have hO3 := hO2.bw hB3
            have hr := hO3.root
            have r3 := cell_of_block (o := 3) (u := x1.m) hr rfl
            have r3f := frozen_of_block (o := 3) hr
            have r3l := (Array.getElem?_eq_some_iff.1 hr).1
            have hbx3 := (Below.block hB3 _ bxl).trans hbx2
            have y0 := cell_of_block (o := 0) hbx3 rfl
            have y1 := cell_of_block (o := 1) hbx3 rfl
            have y2 := cell_of_block (o := 2) hbx3 rfl
            have y3 := (Array.getElem?_eq_some_iff.1 hbx3).1
            have hP3 := hP1.bw (hB2.trans hB3)
            have hB13 : Bw w1 w3 := hB2.trans hB3
            have HO3 := hide hO3
            have Hbx3 := hide hbx3
            clear hr bx0 bx1 bx2 c0' c2' f0 f1 f2 f3 f4 hO3 hO2 hbx2 hbx3 bxl hb2 hlt2
            rw [unhide Ha] at HM
            clear Ha Hat
            go_region_law (refine stepL rfl _ _ _ 108 rfl _ 6 48 Tryz.infoMail Tryz.underlying78 rfl (by decide) 0 x1.m mls.length (mlsCells mls) rfl ((unhide HO3).bw (by repeat (first | exact Bw.refl _ | assumption | refine Bw.drew ?_ | refine Bw.drewN ?_ _ | refine Bw.alloc ?_ _ | refine Bw.trans ?_ (by assumption)))).mails.1 _ _ (Ml.cells ⟨wk, k, m.node, m.epoch, m.value, false⟩) rfl rfl (ml_cells (cell_of_block (alloc_at _ _ (by simp)) rfl) (cell_of_block (alloc_at _ _ (by simp)) rfl) (cell_of_block (alloc_at _ _ (by simp)) rfl) (cell_of_block (alloc_at _ _ (by simp)) rfl) (cell_of_block (alloc_at _ _ (by simp)) rfl) (cell_of_block (alloc_at _ _ (by simp)) rfl)) (ml_one _) (by omega) (by omega) (Nat.zero_le _) ?_; intro g' cap w4 ho4 hg4 hl4; have hr4 := grown_block ((unhide HO3).bw (by repeat (first | exact Bw.refl _ | assumption | refine Bw.drew ?_ | refine Bw.drewN ?_ _ | refine Bw.alloc ?_ _ | refine Bw.trans ?_ (by assumption)))).mails.1 hg4 ((unhide HO3).bw (by repeat (first | exact Bw.refl _ | assumption | refine Bw.drew ?_ | refine Bw.drewN ?_ _ | refine Bw.alloc ?_ _ | refine Bw.trans ?_ (by assumption)))).root (.inl (by decide)); have q3 := cell_of_block (o := 3) (u := x1.m) hr4 rfl; have q3f := frozen_of_block (o := 3) hr4; have q3l := (Array.getElem?_eq_some_iff.1 hr4).1; have Hfin := hide (put_mid (w0 := w0) (S := S) (u := u9) ((unhide HO3).bw (by repeat (first | exact Bw.refl _ | assumption | refine Bw.drew ?_ | refine Bw.drewN ?_ _ | refine Bw.alloc ?_ _ | refine Bw.trans ?_ (by assumption)))) ho4 hg4 hl4 hmL (hP3.bw (by repeat (first | exact Bw.refl _ | assumption | refine Bw.drew ?_ | refine Bw.drewN ?_ _ | refine Bw.alloc ?_ _ | refine Bw.trans ?_ (by assumption)))) ((Below.block (show Bw w3 _ from (by repeat (first | exact Bw.refl _ | assumption | refine Bw.drew ?_ | refine Bw.drewN ?_ _ | refine Bw.alloc ?_ _ | refine Bw.trans ?_ (by assumption)))) _ y3).trans (unhide Hbx3)) (hC1.trans (Chg.bw (S := S) (show Bw w1 _ from (by repeat (first | exact Bw.refl _ | assumption | refine Bw.drew ?_ | refine Bw.drewN ?_ _ | refine Bw.alloc ?_ _ | refine Bw.trans ?_ (by assumption))))) (fun _ h => .inl h)) hS1 hD1); clear hr4)
            all_goals (
              obtain ⟨hO5, hP5, hbx5, hC5, hS5, hD5⟩ := unhide Hfin
              obtain ⟨w5, hw5⟩ : ∃ w5, w4.setCell ⟨rb, 3, none⟩ (.slice (some ⟨g', 0, none⟩) (mls.length + 1) cap) = w5 := ⟨_, rfl⟩
              rw [hw5] at hO5 hP5 hbx5 hC5
              have z0 := cell_of_block (o := 0) hbx5 rfl
              have z1 := cell_of_block (o := 1) hbx5 rfl
              have z2 := (Array.getElem?_eq_some_iff.1 hbx5).1
              have HO5 := hide hO5
              have hz5 := hC5.size
              clear hO5 Hfin q3 q3f q3l ho4 hg4 hl4 y0 y1 y2 y3
              go_wp2_with (at_builtin; refine appL _ rfl _ _ _ 67 rfl _ 5 40 Tryz.infoPoint Tryz.underlying63 rfl (by decide) w0.heap.size u9 (putP ns n m k).length (ptsCells (putP ns n m k)) rfl (hP5.bw (by repeat (first | exact Bw.refl _ | assumption | refine Bw.drew ?_ | refine Bw.drewN ?_ _ | refine Bw.alloc ?_ _ | refine Bw.trans ?_ (by assumption)))) _ _ (Pt.cells ⟨k, false, m.node, m.epoch, 1⟩) rfl rfl (pt_cells (cell_of_block (alloc_at _ _ (by simp)) rfl) (cell_of_block (alloc_at _ _ (by simp)) rfl) (cell_of_block (alloc_at _ _ (by simp)) rfl) (cell_of_block (alloc_at _ _ (by simp)) rfl) (cell_of_block (alloc_at _ _ (by simp)) rfl)) (pt_one _) (by omega) (by omega) (Nat.le_trans hz5 (Bw.size (by repeat (first | exact Bw.refl _ | assumption | refine Bw.drew ?_ | refine Bw.drewN ?_ _ | refine Bw.alloc ?_ _ | refine Bw.trans ?_ (by assumption))))) ?_; intro g6 cap6 w6 ho6 hg6 hl6)
              have hP5' := hP5.bw (show Bw w5 _ from (Bw.refl w5).alloc (.cells #[.int .i64 (k : Int), .bool false, .int .i64 m.node, .int .i64 m.epoch, .int .i64 1] 67))
              have hO5' := (unhide HO5).bw ((Bw.refl w5).alloc (.cells #[.int .i64 (k : Int), .bool false, .int .i64 m.node, .int .i64 m.epoch, .int .i64 1] 67))
              refine ⟨⟨k + 1, _, _, by omega, by go_num, by rw [unhide HM, ← List.append_assoc, unhide Hmls]; exact hO5'.frame hg6.size (fun b hb hl => hg6.block b hl (fun e => hD5 b e.symm hb)), ?_, hS5, by rw [unhide HPp]; exact OwnP.snoc ho6, ?_⟩, by simp [intOf]; omega⟩
              · have k1 : Chg S w0 (w5.alloc (.cells #[.int .i64 (k : Int), .bool false, .int .i64 m.node, .int .i64 m.epoch, .int .i64 1] 67)) := hC5.trans (Chg.bw (S := S) ((Bw.refl w5).alloc _)) (fun _ h => .inl h)
                have k2 : Chg (fun b => u9.ownBlock = some b) (w5.alloc (.cells #[.int .i64 (k : Int), .bool false, .int .i64 m.node, .int .i64 m.epoch, .int .i64 1] 67)) w6 := ⟨hg6.os, hg6.tape, hg6.output, hg6.size, fun i hi hn => hg6.block i hi (fun e => hn e.symm)⟩
                exact k1.trans k2 (fun b hb => .inr (World.ownsRow.lt hP5 b hb).1)
              · intro b hb
                simp [Value.ownBlock] at hb
                subst hb
                rcases hl6 with e | e
                · exact hD5 _ e
                · intro hs
                  have := (unhide HO5).slt _ hs
                  simp at e
                  omega)
    · have hkk : k = ns.length := by omega
      subst hkk
      go_wp2_with fail
      go_ret
      exact ⟨_, rfl, hP1.weaken hB0, S1, x1, hO1, (Chg.bw (S := S) hB0).trans hC1 (fun _ h => .inl h), fun b hb => by rcases hS1 b hb with h | h; exact .inl h; exact .inr (by omega)⟩
end Go.Proofs.YtfemleimkbjehaaGreat
