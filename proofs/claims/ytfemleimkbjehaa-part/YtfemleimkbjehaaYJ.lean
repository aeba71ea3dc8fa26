import Derived.Test.YtfemleimkbjehaaJ37
import Derived.Deep.CutBlock
set_option maxRecDepth 1000000
set_option maxHeartbeats 40000000
set_option linter.unusedVariables false
set_option linter.unusedSimpArgs false
namespace Go.Proofs.Ytfemleimkbjehaa
open Go.RowKit
theorem Kept.ptOk {ns : List Nd} {R W : Nat} {gs : List Gv} {p : PSt} {st : RSt} (g : GOk ns R W) (h : Kept ns R W gs p st) : ∀ i, i < W → ∀ q ∈ vN (p.tb i) 4 8, wP ns.length R q := by
  obtain ⟨k, hi⟩ := h.inv
  intro i hiW q hq
  have hv : vN (p.tb i) 4 8 = vN (zY ns R W st.log st.told i st.log.length) R ns.length := by
    rw [h.sim.tb i hiW]
    exact view_eq (TabRel.log g.h8 ⟨g.hR1, g.hR⟩ (fun j hj => (hi.cg j hj).1) _ (Nat.le_refl _)) g.h8 g.hR
  rw [hv] at hq
  exact vN_ok _ R ns.length q hq
theorem frT_len (ns : List Nd) (D : Nat → Nat → Int) (R : Nat) (T : Nat → Int) (y : Nat) : (frT ns D R T y).length ≤ 6 := lstE_len _ _
theorem pwait_in {L W i n : Nat} (hi : i < W) (hn : n < L) : gU L W i n = 0 := by
  unfold gU mT jQ
  rw [if_pos (by simp; omega)]
theorem Kept.frOk {S : Nat → Prop} {pb : Nat} {x : PX} {ns : List Nd} {R W : Nat} {gs : List Gv} {p : PSt} {st : RSt} (g : GOk ns R W) (h : Kept ns R W gs p st) : FrOk S pb x ns R W (zQ ns) p (lH ns (zQ ns) R p) := by
  have hD : ∀ a b, -1 ≤ zQ ns a b ∧ zQ ns a b ≤ 1000 := fun a b => by
    have := leastB_bd ns (b : Int) ns.length (a : Int)
    have := g.h8
    unfold zQ
    omega
  refine ⟨fun i n => by have := frT_len ns (zQ ns) R (p.tb i) n; unfold lH; omega, fun i n q _ _ hq => (h.pinv g).wn i n q hq, fun i n hiW hn w' hO => ?_⟩
  refine (pfront_any (i : Int) (n : Int) w' hO (fun a b => (hD a b).2) (fun a b => (hD a b).1) (h.ptOk g)).mono ?_
  rintro e w'' ⟨v, rfl, ho, hb2⟩
  rw [pfrR_frT hiW hn] at ho
  exact ⟨v, by rw [pwait_in hiW hn], ho, hb2⟩
def oneIf (ns : List Nd) (R W : Nat) (p : PSt) : Nat := if jW ns R W p = [] then 0 else 1
def MidA (w wx : World) (T S : Nat → Prop) (bb pb xb : Nat) (x : BX) (ns : List Nd) (R W : Nat) (gs : List Gv) (p : PSt) (st : RSt) (y : Ev) : Prop :=
  ∃ S' xp', POwn wx S' pb xp' ns R W (zQ ns) (yJ ns R W p y) ∧ BT wx T bb pb x ns R W (rT p) gs st.opened.length st.evs.length (bJ st.evs) ∧ (∀ b, T b → ¬ S' b) ∧ Chg S w wx ∧ (∀ b, S' b → S b ∨ w.heap.size ≤ b) ∧ wx.heap[xb]? = some (.cells #[.int .i64 y.kind, .int .i64 y.worker, .int .i64 y.node, .int .i64 y.index, .int .i64 y.epoch, .int .i64 y.round, .int .i64 y.value] 120 (0, 0)) ∧ w.heap.size ≤ xb ∧ ¬ S' xb
theorem MidA.box {w wb w9 wx : World} {T S S' : Nat → Prop} {bb pb xb : Nat} {x : BX} {xp' : PX} {ns : List Nd} {R W : Nat} {gs : List Gv} {p : PSt} {st : RSt} {y : Ev} (hb : Bw w wb) (ht : ∀ b, T b → b < w.heap.size) (a1 : POwn w9 S' pb xp' ns R W (zQ ns) (yJ ns R W p y)) (a2 : BT w9 T bb pb x ns R W (rT p) gs st.opened.length st.evs.length (bJ st.evs)) (a3 : ∀ b, T b → ¬ S' b) (a6 : Chg S wb w9) (a7 : ∀ b, S' b → S b ∨ wb.heap.size ≤ b) (hx : wx.heap[xb]? = some (.cells #[.int .i64 y.kind, .int .i64 y.worker, .int .i64 y.node, .int .i64 y.index, .int .i64 y.epoch, .int .i64 y.round, .int .i64 y.value] 120 (0, 0))) (hle : w.heap.size ≤ xb) (hns : ¬ S' xb) (hc : Chg (fun b => b = xb) w9 wx) : MidA w wx T S bb pb xb x ns R W gs p st y :=
  ⟨S', xp', a1.other hc (fun b hb e => hns (e ▸ hb)), a2.other hc (fun b hb e => by have := ht b hb; omega), a3, ((Chg.bw (S := S) hb).trans a6 (fun b h => .inl h)).trans hc (fun b e => .inr (by omega)), fun b hb' => (a7 b hb').imp id (fun h => Nat.le_trans hb.size h), hx, hle, hns⟩
theorem set7e {w : World} {q : Nat} {t : TypeId} {z0 z1 z2 z3 z4 z5 z6 : Value} (h : w.heap[q]? = some (.cells #[z0, z1, z2, z3, z4, z5, z6] t (0, 0))) (a b c d e f g : Value) : (((((((w.setCell ⟨q, 0, none⟩ a).setCell ⟨q, 1, none⟩ b).setCell ⟨q, 2, none⟩ c).setCell ⟨q, 3, none⟩ d).setCell ⟨q, 4, none⟩ e).setCell ⟨q, 5, none⟩ f).setCell ⟨q, 6, none⟩ g).heap[q]? = some (.cells #[a, b, c, d, e, f, g] t (0, 0)) ∧ Chg (fun x => x = q) w (((((((w.setCell ⟨q, 0, none⟩ a).setCell ⟨q, 1, none⟩ b).setCell ⟨q, 2, none⟩ c).setCell ⟨q, 3, none⟩ d).setCell ⟨q, 4, none⟩ e).setCell ⟨q, 5, none⟩ f).setCell ⟨q, 6, none⟩ g) := by
  refine ⟨(qY (qY (qY (qY (qY (qY (qY h))))))).trans (by simp), ?_⟩
  exact ((((((qC _ _ _ _).trans (qC _ _ _ _) (fun _ h => .inl h)).trans (qC _ _ _ _) (fun _ h => .inl h)).trans (qC _ _ _ _) (fun _ h => .inl h)).trans (qC _ _ _ _) (fun _ h => .inl h)).trans (qC _ _ _ _) (fun _ h => .inl h)).trans (qC _ _ _ _) (fun _ h => .inl h)
theorem BT.growT {w w4 : World} {T : Nat → Prop} {bb pb xb : Nat} {x : BX} {ns : List Nd} {R W : Nat} {ep : Nat → Nat → Int} {gs : List Gv} {used done : Nat} {nts : List Gv} {y : Ev} (h : BT w T bb pb x ns R W ep gs used done nts) (hg : w.grownBy w4 x.vt.ownBlock) (hx : w.heap[xb]? = some (.cells #[.int .i64 y.kind, .int .i64 y.worker, .int .i64 y.node, .int .i64 y.index, .int .i64 y.epoch, .int .i64 y.round, .int .i64 y.value] 120 (0, 0))) :
    w4.cell? ⟨xb, 2, none⟩ = some (.int .i64 y.node) ∧ w4.cell? ⟨xb, 4, none⟩ = some (.int .i64 y.epoch) ∧ w4.cell? ⟨xb, 5, none⟩ = some (.int .i64 y.round) ∧ bb < w4.heap.size ∧ w4.frozen? ⟨bb, 8, none⟩ = false ∧ w4.cell? ⟨bb, 8, none⟩ = some x.vt ∧ (∀ v, (w4.setCell ⟨bb, 8, none⟩ v).heap[xb]? = some (.cells #[.int .i64 y.kind, .int .i64 y.worker, .int .i64 y.node, .int .i64 y.index, .int .i64 y.epoch, .int .i64 y.round, .int .i64 y.value] 120 (0, 0))) ∧
    ∀ v, (w4.setCell ⟨bb, 8, none⟩ v).cell? ⟨xb, 2, none⟩ = some (.int .i64 y.node) ∧ (w4.setCell ⟨bb, 8, none⟩ v).cell? ⟨xb, 4, none⟩ = some (.int .i64 y.epoch) ∧ (w4.setCell ⟨bb, 8, none⟩ v).cell? ⟨xb, 5, none⟩ = some (.int .i64 y.round) := by
  obtain ⟨g1, _, _⟩ := h.grow h.notes.1 hg (.inr rfl)
  have hx4 := kZ h.notes.1 hg hx (.inl (by decide))
  have hx5 : ∀ v, (w4.setCell ⟨bb, 8, none⟩ v).heap[xb]? = _ := fun v => qU g1 hx4 (by decide)
  exact ⟨qQ hx4 rfl, qQ hx4 rfl, qQ hx4 rfl, (Array.getElem?_eq_some_iff.1 g1).1, qZ g1, qQ g1 rfl, hx5, fun v => ⟨qQ (hx5 v) rfl, qQ (hx5 v) rfl, qQ (hx5 v) rfl⟩⟩
theorem midNot {S S' : Nat → Prop} {n m k : Nat} (hs : ∀ b, S b → b < n) (hz : n ≤ m) (a7 : ∀ b, S' b → S b ∨ k ≤ b) (hm : m < k) : ¬ S' m := fun h => by
  rcases a7 _ h with h' | h'
  · have := hs _ h'; omega
  · omega
theorem EvOk.facts {ns : List Nd} {R W : Nat} {y : Ev} (h : EvOk ns R W y) (h1 : 1 ≤ ns.length) : 1 ≤ y.kind ∧ y.kind ≤ 3 ∧ 0 ≤ y.node ∧ y.node < ns.length := by
  rcases h with ⟨a, n, i, e, s, v, rfl, _, hn, _⟩ | ⟨a, n, e, s, rfl, _, hn, _⟩ | ⟨a, x, rfl, _⟩
  · simp only; omega
  · simp only; omega
  · simp only; omega
set_option maxRecDepth 100000 in
set_option maxHeartbeats 8000000 in
theorem kact_any {U : Nat → Prop} {bb : Nat} {ns : List Nd} {R W : Nat} {gs : List Gv} {p : PSt} {st : RSt} (g : GOk ns R W) (c : Int) (w : World) (hB : BAt w U bb ns R W gs p st) (hc1 : -9223372036854775808 ≤ c) (hc2 : c ≤ 9223372036854775807) :
    Calls Try.prog 37 #[.pointer (some ⟨bb, 0, none⟩), .int .i64 c] w fun e w' => e = .returned (.bool true) ∧ ∃ p' st', BAt.After w w' U bb ns R W gs p' st' ∧ Mv ns R W p p' ∧ st'.opened = st.opened ∧ p'.cl = p.cl ∧ st'.evs.length = st.evs.length + oneIf ns R W p := by
  obtain ⟨W0, T, S, pb, x, xp, hR, hU⟩ := hB
  have HR := qJ hR
  have HU := qJ hU
  obtain ⟨c0, c1, c2, c3, c4, c5, c6, c7, c8, cl, _⟩ := hR.bt.cells
  have hp := hR.kept.pinv g
  have hlen := lX (L := ns.length) (W := W) (st := p) (frs := lH ns (zQ ns) R p) g.h8 g.hW (fun i n => by have := (hp.few i n).1; omega) W
  have hlen2 : W * 800000200 ≤ 4 * 800000200 := Nat.mul_le_mul_right _ g.hW
  have HA := qJ (fun (w' : World) (hb : Bw w w') => pact_any (lH ns (zQ ns) R p) w' (hR.run.bw hb) (hR.kept.frOk g))
  have HD := qJ (fun (k : Int) (hk9 : k ≤ 9223372036854775807) (w' : World) (hb : Bw w w') => pdo_any (lH ns (zQ ns) R p) k w' (hR.run.bw hb) (hR.kept.frOk g) hp (by omega) g.kind hk9)
  have Hmv := qJ (fun (w' w1 : World) (hb : Bw w w') {p' : PSt} (ha : POwn.After w' w1 S pb ns R W (zQ ns) p') => (hR.bw hb).moved ha)
  have hacts : kW ns.length W p (lH ns (zQ ns) R p) W = jW ns R W p := rfl
  rw [hacts] at hlen
  have hL : (jW ns R W p).length ≤ 4000000000 := by omega
  clear hlen hlen2
  simp only [hacts] at HA HD
  clear hR hU hacts
  by_cases hz : jW ns R W p = []
  · have hz0 : (jW ns R W p).length = 0 := by rw [hz]; rfl
    rw [hz0] at HA
    go_enter Try.func37, Try.ntmps37
    go_wp2_with (go_at_call 36; refine ((qK HA) _ (Bw.refl _)).mono ?_; rintro e w1 ⟨rfl, hB1⟩)
    go_ret
    exact ⟨rfl, p, st, BAt.same ⟨W0, T, S, pb, x, xp, qK HR, qK HU⟩ hB1, Mv.refl _ _ _ _, rfl, rfl, by unfold oneIf; rw [if_pos hz]; rfl⟩
  · have hz1 : 0 < (jW ns R W p).length := Nat.pos_of_ne_zero fun e => hz (List.eq_nil_of_length_eq_zero e)
    obtain ⟨b1, b2⟩ := jC c (n := ((jW ns R W p).length : Int)) (by omega)
    have hb : uF (jW ns R W p) (jT c (jW ns R W p).length) = true := by unfold uF; exact decide_eq_true ⟨b1, b2⟩
    have hmem := actB_mem hb
    have HD2 := qJ ((qK HD) (jT c (jW ns R W p).length) (by omega))
    have hdoE : doE (jW ns R W p) (jT c (jW ns R W p).length) = 0 := by unfold doE; rw [hb]; rfl
    have hdoP : doP ns R W p (jW ns R W p) (jT c (jW ns R W p).length) = yJ ns R W p (uY (jW ns R W p) (jT c (jW ns R W p).length)) := by unfold doP; rw [hb]; rfl
    simp only [hdoE, hdoP] at HD2
    obtain ⟨hkp, hstp, _, hev⟩ := (qK HR).kept.act g hmem
    have hsm := (qK HR).kept.small g
    generalize hy : uY (jW ns R W p) (jT c (jW ns R W p).length) = y at *
    obtain ⟨y1, y2, y3, y4⟩ := hev.facts g.h1
    have Hkp := qJ (⟨hkp, hstp⟩ : _ ∧ _)
    have Hcl := qJ (pdoS_cl ns R W p y)
    have hnz : ¬ ((jW ns R W p).length : Int) < 0 := by omega
    have hnz1 : (((jW ns R W p).length : Int) == 0) = false := by simp; omega
    have Hz := qJ hz
    generalize hnl : (jW ns R W p).length = nl at *
    generalize hpk : jT c (nl : Int) = pk at *
    clear hb hdoE hdoP hmem hkp hstp hev hy hz HD
    obtain ⟨yk, yw, yn, yi, ye, yr, yv⟩ := y
    simp only [Ev.val] at HD2
    simp only at y1 y2 y3 y4
    go_enter Try.func37, Try.ntmps37
    go_wp2_with (go_at_call 36; refine ((qK HA) _ (Bw.refl _)).mono ?_; rintro e w1 ⟨rfl, hB1⟩; have e0 := ((qX hB1).1 _ 0 cl).trans c0; have el := Nat.lt_of_lt_of_le cl hB1.size)
    go_cut [6, 7] from 18 (fun v6 v7 wx => ∃ xb, v6 = .pointer (some ⟨xb, 0, none⟩) ∧ v7 = .int .i64 0 ∧ MidA w wx T S bb pb xb x ns R W gs p st ⟨yk, yw, yn, yi, ye, yr, yv⟩)
    case first =>
      refine wp_region_held_drew (S := (fun w' => w'.cell? ⟨bb, 0, none⟩ = some (.pointer (some ⟨pb, 0, none⟩)))) (by kernel_rfl) (by (try dsimp only); go_keep) (fun hHeld => ?_)
      refine tk 0 ?_; try simp only [Act.put, qT, qS, qR]
      refine tk 1 ?_; try simp only [Act.put, qT, qS, qR]
      refine tk 2 ?_; try simp only [Act.put, qT, qS, qR]
      refine tk 3 ?_; try simp only [Act.put, qT, qS, qR]
      refine tk 4 ?_; try simp only [Act.put, qT, qS, qR]
      refine tk 5 ?_; try simp only [Act.put, qT, qS, qR]
      refine wpAnyH_ready (rs := [6, 11]) (by kernel_rfl) (by simp) ?_
      refine AllReadyH.cons rfl (fun K hK => ?_) (AllReadyH.cons rfl (fun K hK => ?_) AllReadyH.nil)
      · go_simp
        go_at_call 16
        refine (pS c (nl : Int) _ hc1 hc2 (by omega) (by omega)).mono ?_
        rintro e8 w8 ⟨rfl, rfl⟩
        rw [hpk]
        (try go_wp2_with fail)
        refine hK.out _ _ (by (try dsimp only); go_keep) (fun hHeld => ?_)
        clear hK K
        try simp only [Act.put, qT, qS, qR]
        refine wpAnyH_ready (rs := [7, 11]) (by kernel_rfl) (by simp) ?_
        refine AllReadyH.cons rfl (fun K hK => ?_) (AllReadyH.cons rfl (fun K hK => ?_) AllReadyH.nil)
        · go_simp
          go_at_call 65
          refine ((qK HD2) _ (by repeat first|exact br _|assumption|apply bd|apply bn|apply ba|refine bt ?_ (by assumption))).mono ?_
          rintro e9 w9 ⟨rfl, hA⟩
          obtain ⟨S', xp', a1, a2, a3, a4, a5, a6, a7⟩ := (qK Hmv) _ w9 (by repeat first|exact br _|assumption|apply bd|apply bn|apply ba|refine bt ?_ (by assumption)) hA
          obtain ⟨d0, d1, d2, d3, d4, d5, d6, d7, d8, dl, df⟩ := a2.cells
          (try go_wp2_with fail)
          refine hK.out _ _ (by (try dsimp only); go_keep) (fun hHeld => ?_)
          clear hK K
          try simp only [Act.put, qT, qS, qR]
          refine tk 8 ?_; try simp only [Act.put, qT, qS, qR]
          refine tk 9 ?_; try simp only [Act.put, qT, qS, qR]
          refine tk 10 ?_; try simp only [Act.put, qT, qS, qR]
          refine wpAnyH_ready (rs := [11]) (by kernel_rfl) (by simp) ?_
          refine AllReadyH.cons rfl (fun K hK => ?_) AllReadyH.nil
          go_simp
          refine hK.out _ _ (by (try dsimp only); go_keep) (fun hHeld => ?_)
          clear hK K
          try simp only [Act.put, qT, qS, qR]
          refine wpAnyH_ready (rs := [12]) (by kernel_rfl) (by simp) ?_
          refine AllReadyH.cons rfl (fun K hK => ?_) AllReadyH.nil
          go_simp
          refine hK.out _ _ (by (try dsimp only); go_keep) (fun hHeld => ?_)
          clear hK K
          try simp only [Act.put, qT, qS, qR]
          refine wpAnyH_ready (rs := [13]) (by kernel_rfl) (by simp) ?_
          refine AllReadyH.cons rfl (fun K hK => ?_) AllReadyH.nil
          go_simp
          refine hK.out _ _ (by (try dsimp only); go_keep) (fun hHeld => ?_)
          clear hK K
          try simp only [Act.put, qT, qS, qR]
          refine wpAnyH_done (by kernel_rfl) ?_ _
          go_wp2_with fail
          (try simp only [List.set_cons_zero, List.set_cons_succ, List.setIfInBounds_toArray])
          go_meet
          exact ⟨w9.heap.size, rfl, rfl, MidA.box (hB1.trans (show Bw w1 _ from (by repeat first|exact br _|assumption|apply bd|apply bn|apply ba|refine bt ?_ (by assumption)))) (qK HR).bt.tlt a1 a2 a3 a6 a7 (heap_alloc_new w9 _) (Nat.le_trans hB1.size a6.size) (fun h => by have := a1.slt _ h; omega) (Chg.bw (by repeat first|exact br _|assumption|apply bd|apply bn|apply ba|refine bt ?_ (by assumption)))⟩
        · go_simp
          refine hK.out _ _ (by (try dsimp only); go_keep) (fun hHeld => ?_)
          clear hK K
          try simp only [Act.put, qT, qS, qR]
          refine wpAnyH_ready (rs := [7]) (by kernel_rfl) (by simp) ?_
          refine AllReadyH.cons rfl (fun K hK => ?_) AllReadyH.nil
          go_simp
          go_at_call 65
          refine ((qK HD2) _ (by repeat first|exact br _|assumption|apply bd|apply bn|apply ba|refine bt ?_ (by assumption))).mono ?_
          rintro e9 w9 ⟨rfl, hA⟩
          obtain ⟨S', xp', a1, a2, a3, a4, a5, a6, a7⟩ := (qK Hmv) _ w9 (by repeat first|exact br _|assumption|apply bd|apply bn|apply ba|refine bt ?_ (by assumption)) hA
          obtain ⟨d0, d1, d2, d3, d4, d5, d6, d7, d8, dl, df⟩ := a2.cells
          have hx9 : w9.heap[w1.heap.size]? = some (.cells #[.int .i64 0, .int .i64 0, .int .i64 0, .int .i64 0, .int .i64 0, .int .i64 0, .int .i64 0] 120 (0, 0)) := (a6.block _ (by simp) (fun h => by have := (qK HR).run.slt _ h; have := hB1.size; omega)).trans (qN _ _ (by simp))
          have nbx : ¬ bb = w1.heap.size := by omega
          have nbx2 : ¬ w1.heap.size = bb := by omega
          have x9l := (Array.getElem?_eq_some_iff.1 hx9).1
          have xf0 := qZ (o := 0) hx9
          have xf1 := qZ (o := 1) hx9
          have xf2 := qZ (o := 2) hx9
          have xf3 := qZ (o := 3) hx9
          have xf4 := qZ (o := 4) hx9
          have xf5 := qZ (o := 5) hx9
          have xf6 := qZ (o := 6) hx9
          have xc0 := qQ (o := 0) hx9 rfl
          have xc1 := qQ (o := 1) hx9 rfl
          have xc2 := qQ (o := 2) hx9 rfl
          have xc3 := qQ (o := 3) hx9 rfl
          have xc4 := qQ (o := 4) hx9 rfl
          have xc5 := qQ (o := 5) hx9 rfl
          have xc6 := qQ (o := 6) hx9 rfl
          have Hx9 := qJ hx9
          clear hx9
          (try go_wp2_with fail)
          refine hK.out _ _ (by (try dsimp only); go_keep) (fun hHeld => ?_)
          clear hK K
          try simp only [Act.put, qT, qS, qR]
          refine tk 8 ?_; try simp only [Act.put, qT, qS, qR]
          refine tk 9 ?_; try simp only [Act.put, qT, qS, qR]
          refine tk 10 ?_; try simp only [Act.put, qT, qS, qR]
          refine wpAnyH_ready (rs := [12]) (by kernel_rfl) (by simp) ?_
          refine AllReadyH.cons rfl (fun K hK => ?_) AllReadyH.nil
          go_simp
          refine hK.out _ _ (by (try dsimp only); go_keep) (fun hHeld => ?_)
          clear hK K
          try simp only [Act.put, qT, qS, qR]
          refine wpAnyH_ready (rs := [13]) (by kernel_rfl) (by simp) ?_
          refine AllReadyH.cons rfl (fun K hK => ?_) AllReadyH.nil
          go_simp
          refine hK.out _ _ (by (try dsimp only); go_keep) (fun hHeld => ?_)
          clear hK K
          try simp only [Act.put, qT, qS, qR]
          refine wpAnyH_done (by kernel_rfl) ?_ _
          go_wp2_with fail
          (try simp only [List.set_cons_zero, List.set_cons_succ, List.setIfInBounds_toArray])
          go_meet
          exact ⟨w1.heap.size, rfl, rfl, MidA.box (hB1.trans (show Bw w1 _ from (by repeat first|exact br _|assumption|apply bd|apply bn|apply ba|refine bt ?_ (by assumption)))) (qK HR).bt.tlt a1 a2 a3 a6 a7 (set7e (qK Hx9) _ _ _ _ _ _ _).1 hB1.size (midNot (qK HR).run.slt hB1.size a7 (by simp)) (set7e (qK Hx9) _ _ _ _ _ _ _).2⟩
      · go_simp
        refine hK.out _ _ (by (try dsimp only); go_keep) (fun hHeld => ?_)
        clear hK K
        try simp only [Act.put, qT, qS, qR]
        refine wpAnyH_ready (rs := [6]) (by kernel_rfl) (by simp) ?_
        refine AllReadyH.cons rfl (fun K hK => ?_) AllReadyH.nil
        go_simp
        go_at_call 16
        refine (pS c (nl : Int) _ hc1 hc2 (by omega) (by omega)).mono ?_
        rintro e8 w8 ⟨rfl, rfl⟩
        rw [hpk]
        (try go_wp2_with fail)
        refine hK.out _ _ (by (try dsimp only); go_keep) (fun hHeld => ?_)
        clear hK K
        try simp only [Act.put, qT, qS, qR]
        refine wpAnyH_ready (rs := [7]) (by kernel_rfl) (by simp) ?_
        refine AllReadyH.cons rfl (fun K hK => ?_) AllReadyH.nil
        go_simp
        go_at_call 65
        refine ((qK HD2) _ (by repeat first|exact br _|assumption|apply bd|apply bn|apply ba|refine bt ?_ (by assumption))).mono ?_
        rintro e9 w9 ⟨rfl, hA⟩
        obtain ⟨S', xp', a1, a2, a3, a4, a5, a6, a7⟩ := (qK Hmv) _ w9 (by repeat first|exact br _|assumption|apply bd|apply bn|apply ba|refine bt ?_ (by assumption)) hA
        obtain ⟨d0, d1, d2, d3, d4, d5, d6, d7, d8, dl, df⟩ := a2.cells
        have hx9 : w9.heap[w1.heap.size]? = some (.cells #[.int .i64 0, .int .i64 0, .int .i64 0, .int .i64 0, .int .i64 0, .int .i64 0, .int .i64 0] 120 (0, 0)) := (a6.block _ (by simp) (fun h => by have := (qK HR).run.slt _ h; have := hB1.size; omega)).trans (qN _ _ (by simp))
        have nbx : ¬ bb = w1.heap.size := by omega
        have nbx2 : ¬ w1.heap.size = bb := by omega
        have x9l := (Array.getElem?_eq_some_iff.1 hx9).1
        have xf0 := qZ (o := 0) hx9
        have xf1 := qZ (o := 1) hx9
        have xf2 := qZ (o := 2) hx9
        have xf3 := qZ (o := 3) hx9
        have xf4 := qZ (o := 4) hx9
        have xf5 := qZ (o := 5) hx9
        have xf6 := qZ (o := 6) hx9
        have xc0 := qQ (o := 0) hx9 rfl
        have xc1 := qQ (o := 1) hx9 rfl
        have xc2 := qQ (o := 2) hx9 rfl
        have xc3 := qQ (o := 3) hx9 rfl
        have xc4 := qQ (o := 4) hx9 rfl
        have xc5 := qQ (o := 5) hx9 rfl
        have xc6 := qQ (o := 6) hx9 rfl
        have Hx9 := qJ hx9
        clear hx9
        (try go_wp2_with fail)
        refine hK.out _ _ (by (try dsimp only); go_keep) (fun hHeld => ?_)
        clear hK K
        try simp only [Act.put, qT, qS, qR]
        refine tk 8 ?_; try simp only [Act.put, qT, qS, qR]
        refine tk 9 ?_; try simp only [Act.put, qT, qS, qR]
        refine tk 10 ?_; try simp only [Act.put, qT, qS, qR]
        refine wpAnyH_ready (rs := [12]) (by kernel_rfl) (by simp) ?_
        refine AllReadyH.cons rfl (fun K hK => ?_) AllReadyH.nil
        go_simp
        refine hK.out _ _ (by (try dsimp only); go_keep) (fun hHeld => ?_)
        clear hK K
        try simp only [Act.put, qT, qS, qR]
        refine wpAnyH_ready (rs := [13]) (by kernel_rfl) (by simp) ?_
        refine AllReadyH.cons rfl (fun K hK => ?_) AllReadyH.nil
        go_simp
        refine hK.out _ _ (by (try dsimp only); go_keep) (fun hHeld => ?_)
        clear hK K
        try simp only [Act.put, qT, qS, qR]
        refine wpAnyH_done (by kernel_rfl) ?_ _
        go_wp2_with fail
        (try simp only [List.set_cons_zero, List.set_cons_succ, List.setIfInBounds_toArray])
        go_meet
        exact ⟨w1.heap.size, rfl, rfl, MidA.box (hB1.trans (show Bw w1 _ from (by repeat first|exact br _|assumption|apply bd|apply bn|apply ba|refine bt ?_ (by assumption)))) (qK HR).bt.tlt a1 a2 a3 a6 a7 (set7e (qK Hx9) _ _ _ _ _ _ _).1 hB1.size (midNot (qK HR).run.slt hB1.size a7 (by simp)) (set7e (qK Hx9) _ _ _ _ _ _ _).2⟩
    case rest =>
      obtain ⟨xb, rfl, rfl, S', xp', a1, a2, a3, a6, a7, hx, hle, hns⟩ := hcut
      have hBd := a2.setDone
      obtain ⟨d0, d1, d2, d3, d4, d5, d6, d7, d8, dl, df⟩ := a2.cells
      have d7f := df 7
      have x0 := qQ (o := 0) hx rfl
      have x2 := qQ (o := 2) hx rfl
      have x4 := qQ (o := 4) hx rfl
      have x5 := qQ (o := 5) hx rfl
      have xl := (Array.getElem?_eq_some_iff.1 hx).1
      have nbx : ¬ xb = bb := fun e => by have := (qK HR).bt.tlt _ (qK HR).bt.troot; omega
      have hevl : st.evs.length ≤ 30000000 := hsm.2.1
      have k1 : decide (1 ≤ yk) = true := by simpa using y1
      have k2 : decide (yk ≤ 3) = true := by simpa using y2
      have k3 : decide (0 ≤ yn) = true := by simpa using y3
      have k4 : decide (yn < (ns.length : Int)) = true := by simpa using y4
      clear df
      rename World => wc
      by_cases hk2 : yk = 2
      · subst hk2
        obtain ⟨ta, tc, hvt⟩ : ∃ ta tc, x.vt = .slice ta (bJ st.evs).length tc := ⟨_, _, qW a2.notes.1⟩
        have hntl : (bJ st.evs).length ≤ 768 := by
          have : (bJ st.evs).length = lV st.evs 2 := by unfold bJ lV; rw [List.length_map]
          rw [this]; exact hsm.2.2.2
        have Hcd := qJ ((qC wc bb 7 (.int .i64 ((st.evs.length : Int) + 1))).mono (T := T) (fun b h => by rw [h]; exact a2.troot))
        have Hxd := qJ ((Below.heap_setCell wc ⟨bb, 7, none⟩ (.int .i64 ((st.evs.length : Int) + 1)) xb nbx).trans hx)
        have HBT := qJ hBd
        have Hst := qJ (⟨a1, a2, a3, a6, a7⟩ : _ ∧ _ ∧ _ ∧ _ ∧ _)
        clear a1 a2 a3 a6 a7 hBd hx
        go_wp2_with fail
        have Hwdz : Hid ((wc.setCell ⟨bb, 7, none⟩ (.int .i64 ((st.evs.length : Int) + 1))).heap.size = wc.heap.size) := qJ (by simp)
        generalize wc.setCell ⟨bb, 7, none⟩ (.int .i64 ((st.evs.length : Int) + 1)) = wd at HBT Hxd Hcd Hwdz ⊢
        obtain ⟨q0, q1, q2, q3, q4, q5, q6, q7, q8, ql, qf⟩ := (qK HBT).cells
        rw [hvt] at q8
        have q8f := qf 8
        have xc2 := qQ (o := 2) (qK Hxd) rfl
        have xc4 := qQ (o := 4) (qK Hxd) rfl
        have xc5 := qQ (o := 5) (qK Hxd) rfl
        have xld := (Array.getElem?_eq_some_iff.1 (qK Hxd)).1
        clear qf d0 d1 d2 d3 d4 d5 d6 d7 d8 x0 x2 x4 x5 c0 c1 c2 c3 c4 c5 c6 c7 c8
        refine wp_region_held_drew (S := (fun w' => w'.cell? ⟨xb, 2, none⟩ = some (.int .i64 yn) ∧ w'.cell? ⟨xb, 4, none⟩ = some (.int .i64 ye) ∧ w'.cell? ⟨xb, 5, none⟩ = some (.int .i64 yr))) (by kernel_rfl) (by (try dsimp only); go_keep) (fun hHeld => ?_)
        refine tk 0 ?_; try simp only [Act.put, qT, qS, qR]
        refine tk 1 ?_; try simp only [Act.put, qT, qS, qR]
        refine tk 2 ?_; try simp only [Act.put, qT, qS, qR]
        refine tk 3 ?_; try simp only [Act.put, qT, qS, qR]
        refine tk 5 ?_; try simp only [Act.put, qT, qS, qR]
        refine tk 6 ?_; try simp only [Act.put, qT, qS, qR]
        refine tk 7 ?_; try simp only [Act.put, qT, qS, qR]
        refine tk 8 ?_; try simp only [Act.put, qT, qS, qR]
        refine tk 9 ?_; try simp only [Act.put, qT, qS, qR]
        refine tk 10 ?_; try simp only [Act.put, qT, qS, qR]
        refine tk 11 ?_; try simp only [Act.put, qT, qS, qR]
        refine tk 12 ?_; try simp only [Act.put, qT, qS, qR]
        refine wpAnyH_ready (rs := [4, 13]) (by kernel_rfl) (by simp) ?_
        refine AllReadyH.cons rfl (fun K hK => ?_) (AllReadyH.cons rfl (fun K hK => ?_) AllReadyH.nil)
        · go_simp
          refine hK.out _ _ (by (try dsimp only); go_keep) (fun hHeld => ?_)
          clear hK K
          try simp only [Act.put, qT, qS, qR]
          refine wpAnyH_ready (rs := [13]) (by kernel_rfl) (by simp) ?_
          refine AllReadyH.cons rfl (fun K hK => ?_) AllReadyH.nil
          go_simp
          refine hK.out _ _ (by (try dsimp only); go_keep) (fun hHeld => ?_)
          clear hK K
          try simp only [Act.put, qT, qS, qR]
          refine wpAnyH_ready (rs := [14]) (by kernel_rfl) (by simp) ?_
          refine AllReadyH.cons rfl (fun K hK => ?_) AllReadyH.nil
          refine pF rfl _ _ _ 77 rfl _ 3 24 Try.infoTold Try.underlying55 rfl (by decide) 0 (.slice ta (bJ st.evs).length tc) (bJ st.evs).length (qB (bJ st.evs)) rfl (hvt ▸ ((qK HBT).bw (show Bw wd _ from (by repeat first|exact br _|assumption|apply bd|apply bn|apply ba|refine bt ?_ (by assumption)))).notes.1) _ _ (Gv.cells ⟨yn, ye, yr⟩) rfl rfl (pT (qQ (qN _ _ (by simp)) rfl) (qQ (qN _ _ (by simp)) rfl) (qQ (qN _ _ (by simp)) rfl)) (cJ _) (by omega) (by omega) (Nat.zero_le _) ?_
          intro g' cap w7 ho7 hg7 hl7
          obtain ⟨t1, t2, t3, t4, t5, t8, t6, t7⟩ := ((qK HBT).bw (show Bw wd _ from (by repeat first|exact br _|assumption|apply bd|apply bn|apply ba|refine bt ?_ (by assumption)))).growT (hvt.symm ▸ hg7) (y := ⟨2, yw, yn, yi, ye, yr, yv⟩) ((Below.block (show Bw wd _ from (by repeat first|exact br _|assumption|apply bd|apply bn|apply ba|refine bt ?_ (by assumption))) _ xld).trans (qK Hxd))
          rw [hvt] at t8
          refine hK.out _ _ (by (try dsimp only); go_keep) (fun hHeld => ?_)
          clear hK K
          try simp only [Act.put, qT, qS, qR]
          refine tk 15 ?_; try simp only [Act.put, qT, qS, qR]
          refine tk 16 ?_; try simp only [Act.put, qT, qS, qR]
          refine wpAnyH_ready (rs := [17]) (by kernel_rfl) (by simp) ?_
          refine AllReadyH.cons rfl (fun K hK => ?_) AllReadyH.nil
          go_simp
          refine hK.out _ _ (t7 _) (fun hHeld => ?_)
          clear hK K
          try simp only [Act.put, qT, qS, qR]
          refine wpAnyH_done (by kernel_rfl) ?_ _
          have hBTn := ((qK HBT).bw (show Bw wd _ from (by repeat first|exact br _|assumption|apply bd|apply bn|apply ba|refine bt ?_ (by assumption)))).addNote (y := ⟨yn, ye, yr⟩) ho7 (hvt.symm ▸ hg7)
          have hxn := t6 (.slice (some ⟨g', 0, none⟩) ((bJ st.evs).length + 1) cap)
          have hcg : Chg T wd (w7.setCell ⟨bb, 8, none⟩ (.slice (some ⟨g', 0, none⟩) ((bJ st.evs).length + 1) cap)) := gH (show Bw wd _ from (by repeat first|exact br _|assumption|apply bd|apply bn|apply ba|refine bt ?_ (by assumption))) hg7 (fun b hb => (qK HBT).notes.2 b (hvt ▸ hb)) (qK HBT).troot
          have hgT : ∀ b, (T b ∨ b = g') → T b ∨ wc.heap.size ≤ b := by
            rintro b (hb | rfl)
            · exact .inl hb
            · rcases hl7 with h | h
              · exact .inl ((qK HBT).notes.2 _ (hvt ▸ h))
              · exact .inr (by rw [h, ← qK Hwdz]; exact Bw.size (show Bw wd _ from (by repeat first|exact br _|assumption|apply bd|apply bn|apply ba|refine bt ?_ (by assumption))))
          generalize w7.setCell ⟨bb, 8, none⟩ (.slice (some ⟨g', 0, none⟩) ((bJ st.evs).length + 1) cap) = w8 at hBTn hcg hxn ⊢
          obtain ⟨z0, z1, z2, z3, z4, z5, z6, z7, z8, zl, zf⟩ := hBTn.cells
          have v0 := qQ (o := 0) hxn rfl
          have v2 := qQ (o := 2) hxn rfl
          have vl := (Array.getElem?_eq_some_iff.1 hxn).1
          have Hfin := qJ (⟨hBTn, hcg, hgT⟩ : _ ∧ _ ∧ _)
          clear hBTn hcg hgT zf t1 t2 t3 t4 t5 t6 t7 t8 hxn ho7 hg7 hl7
          go_wp2_with fail
          go_quiet (fail)
          go_wp2_with fail
          go_ret
          obtain ⟨hBTn, hcg, hgT⟩ := qK Hfin
          obtain ⟨a1, a2, a3, a6, a7⟩ := qK Hst
          obtain ⟨hkp, hstp⟩ := qK Hkp
          obtain ⟨hclE, hepE⟩ := qK Hcl
          refine ⟨rfl, _, _, (qK HR).next (qK HU) a1 a6 a7 a3 (w2 := _) (((qK Hcd).trans hcg (fun b h => .inl h)).trans (Chg.bw (S := T) (by repeat first|exact br _|assumption|apply bd|apply bn|apply ba|refine bt ?_ (by assumption))) (fun b h => .inl h)) (x' := { x with vt := .slice (some ⟨g', 0, none⟩) ((bJ st.evs).length + 1) cap }) (T' := fun b => T b ∨ b = g') (st' := lQ ns R W st ⟨2, yw, yn, yi, ye, yr, yv⟩) ?_ hgT rfl hkp, Mv.stp hstp (pdoS_rc _ _ _ _ _), xX _ _ _ _ _, hclE, ?_⟩
          · have hbe : rT (yJ ns R W p ⟨2, yw, yn, yi, ye, yr, yv⟩) = rT p := by unfold rT; rw [hclE, hepE]
            rw [xX, nU, hbe, ntL_snoc, if_pos (by simp), List.length_append]
            exact hBTn.bw (by repeat first|exact br _|assumption|apply bd|apply bn|apply ba|refine bt ?_ (by assumption))
          · rw [nU, List.length_append]; unfold oneIf; rw [if_neg (qK Hz)]; rfl
        · go_simp
          refine hK.out _ _ (by (try dsimp only); go_keep) (fun hHeld => ?_)
          clear hK K
          try simp only [Act.put, qT, qS, qR]
          refine wpAnyH_ready (rs := [4]) (by kernel_rfl) (by simp) ?_
          refine AllReadyH.cons rfl (fun K hK => ?_) AllReadyH.nil
          go_simp
          refine hK.out _ _ (by (try dsimp only); go_keep) (fun hHeld => ?_)
          clear hK K
          try simp only [Act.put, qT, qS, qR]
          refine wpAnyH_ready (rs := [14]) (by kernel_rfl) (by simp) ?_
          refine AllReadyH.cons rfl (fun K hK => ?_) AllReadyH.nil
          refine pF rfl _ _ _ 77 rfl _ 3 24 Try.infoTold Try.underlying55 rfl (by decide) 0 (.slice ta (bJ st.evs).length tc) (bJ st.evs).length (qB (bJ st.evs)) rfl (hvt ▸ ((qK HBT).bw (show Bw wd _ from (by repeat first|exact br _|assumption|apply bd|apply bn|apply ba|refine bt ?_ (by assumption)))).notes.1) _ _ (Gv.cells ⟨yn, ye, yr⟩) rfl rfl (pT (qQ (qN _ _ (by simp)) rfl) (qQ (qN _ _ (by simp)) rfl) (qQ (qN _ _ (by simp)) rfl)) (cJ _) (by omega) (by omega) (Nat.zero_le _) ?_
          intro g' cap w7 ho7 hg7 hl7
          obtain ⟨t1, t2, t3, t4, t5, t8, t6, t7⟩ := ((qK HBT).bw (show Bw wd _ from (by repeat first|exact br _|assumption|apply bd|apply bn|apply ba|refine bt ?_ (by assumption)))).growT (hvt.symm ▸ hg7) (y := ⟨2, yw, yn, yi, ye, yr, yv⟩) ((Below.block (show Bw wd _ from (by repeat first|exact br _|assumption|apply bd|apply bn|apply ba|refine bt ?_ (by assumption))) _ xld).trans (qK Hxd))
          rw [hvt] at t8
          refine hK.out _ _ (by (try dsimp only); go_keep) (fun hHeld => ?_)
          clear hK K
          try simp only [Act.put, qT, qS, qR]
          refine tk 15 ?_; try simp only [Act.put, qT, qS, qR]
          refine tk 16 ?_; try simp only [Act.put, qT, qS, qR]
          refine wpAnyH_ready (rs := [17]) (by kernel_rfl) (by simp) ?_
          refine AllReadyH.cons rfl (fun K hK => ?_) AllReadyH.nil
          go_simp
          refine hK.out _ _ (t7 _) (fun hHeld => ?_)
          clear hK K
          try simp only [Act.put, qT, qS, qR]
          refine wpAnyH_done (by kernel_rfl) ?_ _
          have hBTn := ((qK HBT).bw (show Bw wd _ from (by repeat first|exact br _|assumption|apply bd|apply bn|apply ba|refine bt ?_ (by assumption)))).addNote (y := ⟨yn, ye, yr⟩) ho7 (hvt.symm ▸ hg7)
          have hxn := t6 (.slice (some ⟨g', 0, none⟩) ((bJ st.evs).length + 1) cap)
          have hcg : Chg T wd (w7.setCell ⟨bb, 8, none⟩ (.slice (some ⟨g', 0, none⟩) ((bJ st.evs).length + 1) cap)) := gH (show Bw wd _ from (by repeat first|exact br _|assumption|apply bd|apply bn|apply ba|refine bt ?_ (by assumption))) hg7 (fun b hb => (qK HBT).notes.2 b (hvt ▸ hb)) (qK HBT).troot
          have hgT : ∀ b, (T b ∨ b = g') → T b ∨ wc.heap.size ≤ b := by
            rintro b (hb | rfl)
            · exact .inl hb
            · rcases hl7 with h | h
              · exact .inl ((qK HBT).notes.2 _ (hvt ▸ h))
              · exact .inr (by rw [h, ← qK Hwdz]; exact Bw.size (show Bw wd _ from (by repeat first|exact br _|assumption|apply bd|apply bn|apply ba|refine bt ?_ (by assumption))))
          generalize w7.setCell ⟨bb, 8, none⟩ (.slice (some ⟨g', 0, none⟩) ((bJ st.evs).length + 1) cap) = w8 at hBTn hcg hxn ⊢
          obtain ⟨z0, z1, z2, z3, z4, z5, z6, z7, z8, zl, zf⟩ := hBTn.cells
          have v0 := qQ (o := 0) hxn rfl
          have v2 := qQ (o := 2) hxn rfl
          have vl := (Array.getElem?_eq_some_iff.1 hxn).1
          have Hfin := qJ (⟨hBTn, hcg, hgT⟩ : _ ∧ _ ∧ _)
          clear hBTn hcg hgT zf t1 t2 t3 t4 t5 t6 t7 t8 hxn ho7 hg7 hl7
          go_wp2_with fail
          go_quiet (fail)
          go_wp2_with fail
          go_ret
          obtain ⟨hBTn, hcg, hgT⟩ := qK Hfin
          obtain ⟨a1, a2, a3, a6, a7⟩ := qK Hst
          obtain ⟨hkp, hstp⟩ := qK Hkp
          obtain ⟨hclE, hepE⟩ := qK Hcl
          refine ⟨rfl, _, _, (qK HR).next (qK HU) a1 a6 a7 a3 (w2 := _) (((qK Hcd).trans hcg (fun b h => .inl h)).trans (Chg.bw (S := T) (by repeat first|exact br _|assumption|apply bd|apply bn|apply ba|refine bt ?_ (by assumption))) (fun b h => .inl h)) (x' := { x with vt := .slice (some ⟨g', 0, none⟩) ((bJ st.evs).length + 1) cap }) (T' := fun b => T b ∨ b = g') (st' := lQ ns R W st ⟨2, yw, yn, yi, ye, yr, yv⟩) ?_ hgT rfl hkp, Mv.stp hstp (pdoS_rc _ _ _ _ _), xX _ _ _ _ _, hclE, ?_⟩
          · have hbe : rT (yJ ns R W p ⟨2, yw, yn, yi, ye, yr, yv⟩) = rT p := by unfold rT; rw [hclE, hepE]
            rw [xX, nU, hbe, ntL_snoc, if_pos (by simp), List.length_append]
            exact hBTn.bw (by repeat first|exact br _|assumption|apply bd|apply bn|apply ba|refine bt ?_ (by assumption))
          · rw [nU, List.length_append]; unfold oneIf; rw [if_neg (qK Hz)]; rfl
      · have hkb : (yk == 2) = false := by simpa using hk2
        have Hk2 := qJ hk2
        clear hk2
        have Hst := qJ (⟨a1, a2, a3, a6, a7, hBd⟩ : _ ∧ _ ∧ _ ∧ _ ∧ _ ∧ _)
        clear a1 a2 a3 a6 a7 hBd hx
        go_wp2_with fail
        go_quiet (fail)
        go_wp2_with fail
        go_ret
        obtain ⟨a1, a2, a3, a6, a7, hBd⟩ := qK Hst
        obtain ⟨hkp, hstp⟩ := qK Hkp
        obtain ⟨hclE, hepE⟩ := qK Hcl
        refine ⟨rfl, _, _, (qK HR).next (qK HU) a1 a6 a7 a3 (w2 := _) (((qC _ _ _ _).mono (fun b h => by rw [h]; exact a2.troot)).trans (Chg.bw (S := T) (by repeat first|exact br _|assumption|apply bd|apply bn|apply ba|refine bt ?_ (by assumption))) (fun b h => .inl h)) (x' := x) (T' := T) (st' := lQ ns R W st ⟨yk, yw, yn, yi, ye, yr, yv⟩) ?_ (fun b h => .inl h) rfl hkp, Mv.stp hstp (pdoS_rc _ _ _ _ _), xX _ _ _ _ _, hclE, ?_⟩
        · have hbe : rT (yJ ns R W p ⟨yk, yw, yn, yi, ye, yr, yv⟩) = rT p := by unfold rT; rw [hclE, hepE]
          rw [xX, nU, hbe, ntL_snoc, if_neg (by simp; exact qK Hk2), List.append_nil, List.length_append]
          exact hBd.bw (by repeat first|exact br _|assumption|apply bd|apply bn|apply ba|refine bt ?_ (by assumption))
        · rw [nU, List.length_append]; unfold oneIf; rw [if_neg (qK Hz)]; rfl
end Go.Proofs.Ytfemleimkbjehaa
