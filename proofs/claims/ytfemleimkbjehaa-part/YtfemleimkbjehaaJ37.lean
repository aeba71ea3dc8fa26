import Derived.Test.YtfemleimkbjehaaJ36
import Derived.Test.YtfemleimkbjehaaJ8
set_option maxRecDepth 1000000
set_option maxHeartbeats 40000000
set_option linter.unusedVariables false
set_option linter.unusedSimpArgs false
namespace Go.Proofs.Ytfemleimkbjehaa
open Go.RowKit
theorem BT.grow {w w4 : World} {T : Nat → Prop} {bb pb : Nat} {x : BX} {ns : List Nd} {R W : Nat} {ep : Nat → Nat → Int} {gs : List Gv} {used done base n sz : Nat} {nts : List Gv} {u : Value} {ty : TypeId} {ys : List Value} (h : BT w T bb pb x ns R W ep gs used done nts) (hown : w.ownsRow base ty sz u n ys) (hg : w.grownBy w4 u.ownBlock) (hty : ty = 44 ∨ ty = 77) :
    w4.heap[bb]? = some (.cells (x.cells pb ns.length R W used done) 57 (0, 0)) ∧ (∃ arr : Array Value, w4.heap[x.eb]? = some (.cells arr 26 (0, 0)) ∧ ∀ i, i < W → arr[i]? = some (.slice (some ⟨x.er i, 0, none⟩) ns.length ns.length)) ∧ ∀ i, i < W → ∃ arr : Array Value, w4.heap[x.er i]? = some (.cells arr 3 (0, 0)) ∧ arr.size = ns.length ∧ ∀ n, n < ns.length → arr[n]? = some (.int .i64 (ep i n)) := by
  have key : ∀ (g : Nat) (arr : Array Value) (t : TypeId), w.heap[g]? = some (.cells arr t (0, 0)) → t ≠ 44 → t ≠ 77 → w4.heap[g]? = some (.cells arr t (0, 0)) := fun g arr t hb h1 h2 => kZ hown hg hb (.inl (by rcases hty with e | e <;> rw [e] <;> assumption))
  refine ⟨key _ _ _ h.root (by decide) (by decide), ?_, fun i hi => ?_⟩
  · obtain ⟨arr, e1, e2⟩ := h.eps; exact ⟨arr, key _ _ _ e1 (by decide) (by decide), e2⟩
  · obtain ⟨arr, r1, r2⟩ := h.row i hi; exact ⟨arr, key _ _ _ r1 (by decide) (by decide), r2⟩
theorem BT.addGiven {w w4 : World} {T : Nat → Prop} {bb pb g' cap : Nat} {x : BX} {ns : List Nd} {R W : Nat} {ep : Nat → Nat → Int} {gs : List Gv} {used done : Nat} {nts : List Gv} {y : Gv} (h : BT w T bb pb x ns R W ep gs used done nts)
    (ho : w4.ownsRow 0 44 3 (.slice (some ⟨g', 0, none⟩) (gs.length + 1) cap) (gs.length + 1) (qB gs ++ y.cells)) (hg : w.grownBy w4 x.vg.ownBlock) :
    BT (w4.setCell ⟨bb, 5, none⟩ (.slice (some ⟨g', 0, none⟩) (gs.length + 1) cap)) (fun b => T b ∨ b = g') bb pb { x with vg := .slice (some ⟨g', 0, none⟩) (gs.length + 1) cap } ns R W ep (gs ++ [y]) used done nts := by
  obtain ⟨g1, g2, g3⟩ := h.grow h.given.1 hg (.inl rfl)
  have hlt : g' < w4.heap.size := (World.ownsRow.lt ho g' rfl).2
  have h4 : BT w4 (fun b => T b ∨ b = g') bb pb { x with vg := .slice (some ⟨g', 0, none⟩) (gs.length + 1) cap } ns R W ep (gs ++ [y]) used done nts → True := fun _ => trivial
  refine ⟨?_, .inl h.troot, fun b hb => ?_, ?_, fun i hi => ?_, ⟨.inl h.te.1, fun i hi => .inl (h.te.2 i hi)⟩, h.inj, ?_, ?_⟩
  · exact (qY g1).trans (by unfold BX.cells; simp)
  · rcases hb with hb | hb
    · have := h.tlt b hb; have := hg.size; simp; omega
    · subst hb; simpa using hlt
  · obtain ⟨arr, e1, e2⟩ := g2; exact ⟨arr, qU g1 e1 (by decide), e2⟩
  · obtain ⟨arr, r1, r2⟩ := g3 i hi; exact ⟨arr, qU g1 r1 (by decide), r2⟩
  · refine ⟨?_, fun b hb => ?_⟩
    · rw [fZ, List.length_append]
      exact kJ g1 ho (by decide)
    · simp only [Value.ownBlock, Option.some.injEq] at hb
      exact .inr hb.symm
  · exact ((h.notes.grown h.given.1 hg (by decide)).set g1 (by decide)).mono fun _ h => .inl h
theorem BT.addNote {w w4 : World} {T : Nat → Prop} {bb pb g' cap : Nat} {x : BX} {ns : List Nd} {R W : Nat} {ep : Nat → Nat → Int} {gs : List Gv} {used done : Nat} {nts : List Gv} {y : Gv} (h : BT w T bb pb x ns R W ep gs used done nts)
    (ho : w4.ownsRow 0 77 3 (.slice (some ⟨g', 0, none⟩) (nts.length + 1) cap) (nts.length + 1) (qB nts ++ y.cells)) (hg : w.grownBy w4 x.vt.ownBlock) :
    BT (w4.setCell ⟨bb, 8, none⟩ (.slice (some ⟨g', 0, none⟩) (nts.length + 1) cap)) (fun b => T b ∨ b = g') bb pb { x with vt := .slice (some ⟨g', 0, none⟩) (nts.length + 1) cap } ns R W ep gs used done (nts ++ [y]) := by
  obtain ⟨g1, g2, g3⟩ := h.grow h.notes.1 hg (.inr rfl)
  have hlt : g' < w4.heap.size := (World.ownsRow.lt ho g' rfl).2
  refine ⟨?_, .inl h.troot, fun b hb => ?_, ?_, fun i hi => ?_, ⟨.inl h.te.1, fun i hi => .inl (h.te.2 i hi)⟩, h.inj, ?_, ?_⟩
  · exact (qY g1).trans (by unfold BX.cells; simp)
  · rcases hb with hb | hb
    · have := h.tlt b hb; have := hg.size; simp; omega
    · subst hb; simpa using hlt
  · obtain ⟨arr, e1, e2⟩ := g2; exact ⟨arr, qU g1 e1 (by decide), e2⟩
  · obtain ⟨arr, r1, r2⟩ := g3 i hi; exact ⟨arr, qU g1 r1 (by decide), r2⟩
  · exact ((h.given.grown h.notes.1 hg (by decide)).set g1 (by decide)).mono fun _ h => .inl h
  · refine ⟨?_, fun b hb => ?_⟩
    · rw [fZ, List.length_append]
      exact kJ g1 ho (by decide)
    · simp only [Value.ownBlock, Option.some.injEq] at hb
      exact .inr hb.symm
def Mv (ns : List Nd) (R W : Nat) (p p' : PSt) : Prop := (∀ n f, n < ns.length → Cov ns R W p n f → Cov ns R W p' n f) ∧ p.rc.length ≤ p'.rc.length
theorem Mv.refl (ns : List Nd) (R W : Nat) (p : PSt) : Mv ns R W p p := ⟨fun _ _ _ h => h, Nat.le_refl _⟩
theorem Mv.stp {ns : List Nd} {R W : Nat} {p p' : PSt} (h : Stp ns (zQ ns) W p p') (hr : p.rc.length ≤ p'.rc.length) : Mv ns R W p p' := ⟨fun _ _ hn hc => hc.stp hn h, hr⟩
theorem Mv.trans {ns : List Nd} {R W : Nat} {p p' p'' : PSt} (h : Mv ns R W p p') (k : Mv ns R W p' p'') : Mv ns R W p p'' := ⟨fun n f hn hc => k.1 n f hn (h.1 n f hn hc), Nat.le_trans h.2 k.2⟩
theorem pgiveS_rc (ns : List Nd) (W : Nat) (p : PSt) (i m v : Int) : p.rc.length ≤ (jD ns W p i m v).rc.length := by unfold jD; split <;> exact Nat.le_refl _
theorem padvS_rc (ns : List Nd) (W : Nat) (p : PSt) (i m : Int) : p.rc.length ≤ (yZ ns W p i m).rc.length := by unfold yZ; split <;> exact Nat.le_refl _
theorem pclsS_rc (ns : List Nd) (W : Nat) (p : PSt) (i m : Int) : p.rc.length ≤ (yF ns W p i m).rc.length := by unfold yF; split <;> exact Nat.le_refl _
theorem pdoS_rc (ns : List Nd) (R W : Nat) (p : PSt) (y : Ev) : p.rc.length ≤ (yJ ns R W p y).rc.length := by
  unfold yJ
  split
  · unfold xQ wU hH jJ
    simp only
    split
    · rw [List.length_append]; omega
    · exact Nat.le_refl _
  · split <;> exact Nat.le_refl _
theorem BR.still {W0 w w1 : World} {T S U : Nat → Prop} {bb pb : Nat} {x : BX} {xp : PX} {ns : List Nd} {R W : Nat} {gs : List Gv} {p : PSt} {st : RSt} (h : BR W0 w T S bb pb x xp ns R W gs p st) (hU : ∀ b, U b ↔ T b ∨ S b) (ha : POwn.After w w1 S pb ns R W (zQ ns) p) : BAt.After w w1 U bb ns R W gs p st := by
  obtain ⟨S', xp', a1, a2, a3, a4, a5, a6, a7⟩ := h.moved ha
  refine ⟨fun b => T b ∨ S' b, ⟨W0, T, S', pb, x, xp', ⟨a2, a1, h.kept, a3, h.nodes, a4, a5⟩, fun _ => Iff.rfl⟩, a6.mono fun b hb => (hU b).2 (.inr hb), fun b hb => ?_⟩
  rcases hb with hb | hb
  · exact .inl ((hU b).2 (.inl hb))
  · rcases a7 b hb with h1 | h1
    · exact .inl ((hU b).2 (.inr h1))
    · exact .inr h1
theorem BR.next {W0 w w1 w2 : World} {T S U T' S' : Nat → Prop} {bb pb : Nat} {x x' : BX} {xp xp' : PX} {ns : List Nd} {R W : Nat} {gs gs' : List Gv} {p p' : PSt} {st st' : RSt} (h : BR W0 w T S bb pb x xp ns R W gs p st) (hU : ∀ b, U b ↔ T b ∨ S b) (hr : POwn w1 S' pb xp' ns R W (zQ ns) p') (hc : Chg S w w1) (hs : ∀ b, S' b → S b ∨ w.heap.size ≤ b) (hd : ∀ b, T b → ¬ S' b)
    (hc2 : Chg T w1 w2) (hb : BT w2 T' bb pb x' ns R W (rT p') gs' st'.opened.length st'.evs.length (bJ st'.evs)) (hT : ∀ b, T' b → T b ∨ w1.heap.size ≤ b) (hna : x'.na = x.na) (hk : Kept ns R W gs' p' st') : BAt.After w w2 U bb ns R W gs' p' st' := by
  have hT1 : ∀ b, T b → b < w.heap.size := h.bt.tlt
  have hlow : ∀ b, S b → W0.heap.size ≤ b := fun b hb => h.low b (.inr hb)
  have hbw1 : Bw W0 w1 := Chg.toBw h.base hc hlow
  have hbw2 : Bw W0 w2 := Chg.toBw hbw1 hc2 (fun b hb => h.low b (.inl hb))
  have hr2 : POwn w2 S' pb xp' ns R W (zQ ns) p' := hr.other hc2 (fun b hb hb2 => hd b hb2 hb)
  have hCU : Chg U w w2 := (hc.mono fun b hb => (hU b).2 (.inr hb)).trans (hc2.mono fun b hb => (hU b).2 (.inl hb)) (fun b hb => .inl hb)
  refine ⟨fun b => T' b ∨ S' b, ⟨W0, T', S', pb, x', xp', ⟨hb, hr2, hk, fun b hb hs' => ?_, by rw [hna]; exact h.nodes, hbw2, fun b hb => ?_⟩, fun _ => Iff.rfl⟩, hCU, fun b hb => ?_⟩
  · rcases hT b hb with h1 | h1
    · exact hd b h1 hs'
    · have := hr.slt b hs'; omega
  · rcases hb with hb | hb
    · rcases hT b hb with h1 | h1
      · exact h.low b (.inl h1)
      · exact Nat.le_trans hbw1.size h1
    · rcases hs b hb with h1 | h1
      · exact hlow b h1
      · exact Nat.le_trans h.base.size h1
  · rcases hb with hb | hb
    · rcases hT b hb with h1 | h1
      · exact .inl ((hU b).2 (.inl h1))
      · exact .inr (Nat.le_trans hc.size h1)
    · rcases hs b hb with h1 | h1
      · exact .inl ((hU b).2 (.inr h1))
      · exact .inr h1
theorem bep_lt {p : PSt} {i n : Nat} (h : ∃ e : Nat, p.ep i n = e ∧ e < 6) : (rT p i n < 0 ↔ p.cl i n = true) ∧ -1 ≤ rT p i n ∧ rT p i n ≤ 5 := by
  obtain ⟨e, e1, e2⟩ := h
  unfold rT
  cases p.cl i n <;> simp <;> omega
theorem BT.growG {w w4 : World} {T : Nat → Prop} {bb pb i n : Nat} {x : BX} {ns : List Nd} {R W : Nat} {ep : Nat → Nat → Int} {gs : List Gv} {used done : Nat} {nts : List Gv} (h : BT w T bb pb x ns R W ep gs used done nts) (hi : i < W) (hn : n < ns.length) (hg : w.grownBy w4 x.vg.ownBlock) :
    w4.cell? ⟨bb, 4, none⟩ = some (.slice (some ⟨x.eb, 0, none⟩) W x.ec) ∧ w4.cell? ⟨bb, 5, none⟩ = some x.vg ∧ w4.cell? ⟨x.eb, i, none⟩ = some (.slice (some ⟨x.er i, 0, none⟩) ns.length ns.length) ∧ w4.cell? ⟨x.er i, n, none⟩ = some (.int .i64 (ep i n)) ∧ w4.cell? ⟨bb, 6, none⟩ = some (.int .i64 (used : Int)) ∧ bb < w4.heap.size ∧ (∀ k, w4.frozen? ⟨bb, k, none⟩ = false) ∧ ∀ v, (w4.setCell ⟨bb, 5, none⟩ v).cell? ⟨bb, 4, none⟩ = some (.slice (some ⟨x.eb, 0, none⟩) W x.ec) ∧ (w4.setCell ⟨bb, 5, none⟩ v).cell? ⟨x.eb, i, none⟩ = some (.slice (some ⟨x.er i, 0, none⟩) ns.length ns.length) ∧ (w4.setCell ⟨bb, 5, none⟩ v).cell? ⟨x.er i, n, none⟩ = some (.int .i64 (ep i n)) := by
  obtain ⟨g1, ⟨a1, e1, e2⟩, g3⟩ := h.grow h.given.1 hg (.inl rfl)
  obtain ⟨a2, r1, _, r2⟩ := g3 i hi
  exact ⟨qQ g1 rfl, qQ g1 rfl, qQ e1 (e2 i hi), qQ r1 (r2 n hn), qQ g1 rfl, (Array.getElem?_eq_some_iff.1 g1).1, fun k => qZ g1, fun v => ⟨qQ ((qY g1).trans rfl) (by unfold BX.cells; simp), qQ (qU g1 e1 (by decide)) (e2 i hi), qQ (qU g1 r1 (by decide)) (r2 n hn)⟩⟩
theorem BT.ne {w : World} {T : Nat → Prop} {bb pb : Nat} {x : BX} {ns : List Nd} {R W : Nat} {ep : Nat → Nat → Int} {gs : List Gv} {used done : Nat} {nts : List Gv} (h : BT w T bb pb x ns R W ep gs used done nts) : ¬ x.eb = bb ∧ ¬ bb = x.eb ∧ ∀ i, i < W → ¬ x.er i = bb ∧ ¬ bb = x.er i ∧ ¬ x.eb = x.er i ∧ ¬ x.er i = x.eb := by
  have key : ∀ (a b : Nat) (arr arr' : Array Value) (t t' : TypeId), w.heap[a]? = some (.cells arr t (0, 0)) → w.heap[b]? = some (.cells arr' t' (0, 0)) → t ≠ t' → ¬ a = b := by
    intro a b arr arr' t t' ha hb hne eq
    subst eq
    rw [ha] at hb
    simp only [Option.some.injEq, Obj.cells.injEq] at hb
    exact hne hb.2.1
  obtain ⟨a1, e1, _⟩ := h.eps
  have k1 := key _ _ _ _ _ _ e1 h.root (by decide)
  refine ⟨k1, fun e => k1 e.symm, fun i hi => ?_⟩
  obtain ⟨a2, r1, _⟩ := h.row i hi
  have k2 := key _ _ _ _ _ _ r1 h.root (by decide)
  have k3 := key _ _ _ _ _ _ e1 r1 (by decide)
  exact ⟨k2, fun e => k2 e.symm, k3, fun e => k3 e.symm⟩
theorem gH {T : Nat → Prop} {w1 wY w7 : World} {u : Value} {bb k : Nat} {v : Value} (hb : Bw w1 wY) (hg : wY.grownBy w7 u.ownBlock) (hT : ∀ b, u.ownBlock = some b → T b) (hbb : T bb) : Chg T w1 (w7.setCell ⟨bb, k, none⟩ v) := by
  have k1 : Chg T w1 wY := Chg.bw hb
  have k2 : Chg (fun b => u.ownBlock = some b) wY w7 := ⟨hg.os, hg.tape, hg.output, hg.size, fun i hi hn => hg.block i hi (fun e => hn e.symm)⟩
  exact (k1.trans k2 (fun b hb => .inl (hT b hb))).trans (qC _ _ _ _) (fun b h => .inl (h ▸ hbb))
set_option maxRecDepth 100000 in
set_option maxHeartbeats 8000000 in
theorem kgive_any {U : Nat → Prop} {bb : Nat} {ns : List Nd} {R W : Nat} {gs : List Gv} {p : PSt} {st : RSt} (g : GOk ns R W) (i n : Nat) (v : Int) (w : World) (hB : BAt w U bb ns R W gs p st) (hi : i < W) (hn : n < ns.length) (hk : (qV ns n).kind = 0) (hv : mQ v) :
    Calls Try.prog 29 #[.pointer (some ⟨bb, 0, none⟩), .int .i64 (i : Int), .int .i64 (n : Int), .int .i64 v] w fun e w' => e = .returned (.bool true) ∧ ∃ gs' p' st', BAt.After w w' U bb ns R W gs' p' st' ∧ Mv ns R W p p' ∧ st'.evs = st.evs := by
  obtain ⟨W0, T, S, pb, x, xp, hR, hU⟩ := hB
  have HR := qJ hR
  have HU := qJ hU
  obtain ⟨c0, c1, c2, c3, c4, c5, c6, c7, c8, cl, _⟩ := hR.bt.cells
  have hp := hR.kept.pinv g
  have h6 := hR.kept.ep6 i n
  obtain ⟨e0, ee1, ee2, _ee3⟩ := h6
  clear _ee3
  have hbl := bep_lt (p := p) (i := i) (n := n) ⟨e0, ee1, ee2⟩
  have Hg := qJ (fun (w' : World) (hb : Bw w w') => pgive_any (i : Int) (n : Int) v w' (hR.run.bw hb) (fun k hk h6 => (g.kind k hk).2.1 h6) (fun a b => by have := (hp.few a b).1; omega) (fun a b => by have := (hp.few a b).2.2; omega) hp.ep hp.gv)
  have Hmv := qJ (fun (w' w1 : World) (hb : Bw w w') {p' : PSt} (ha : POwn.After w' w1 S pb ns R W (zQ ns) p') => (hR.bw hb).moved ha)
  have HgE := hR.kept.gv
  clear hR hU
  have hi1 : (i : Int) < (W : Int) := by omega
  have hn1 : (n : Int) < (ns.length : Int) := by omega
  by_cases hcl : p.cl i n = true
  · obtain ⟨q1, q2⟩ := give_no (v := v) hi hn hk (.inl hcl)
    rw [hcl] at q1
    rw [q1, q2] at Hg
    have hneg : rT p i n < 0 := hbl.1.2 hcl
    clear hcl hbl
    go_enter Try.func29, Try.ntmps29
    go_wp2_with (go_at_call 59; refine ((qK Hg) _ (Bw.refl _)).mono ?_; rintro e w1 ⟨rfl, hA⟩; obtain ⟨S', xp', a1, a2, a3, a4, a5, a6, a7⟩ := (qK Hmv) w w1 (Bw.refl _) hA; obtain ⟨d0, d1, d2, d3, d4, d5, d6, d7, d8, dl, df⟩ := a2.cells; obtain ⟨f1, f2, f3, f4, f5⟩ := a2.epAt hi hn)
    go_ret
    exact ⟨rfl, gs, p, st, (qK HR).still (qK HU) hA, Mv.refl _ _ _ _, rfl⟩
  · have hcl' : p.cl i n = false := by simpa using hcl
    have hpos : ¬ rT p i n < 0 := fun h => hcl (hbl.1.1 h)
    have hbe : rT p i n = e0 := by unfold rT; rw [hcl', ee1]; rfl
    clear hbl
    rw [hbe] at hpos
    obtain ⟨ga, gc, hvg⟩ : ∃ ga gc, x.vg = .slice ga gs.length gc := ⟨_, _, qW (qK HR).bt.given.1⟩
    have Hvg := qJ hvg
    by_cases hgl : 20 ≤ gs.length
    · obtain ⟨q1, q2⟩ := give_no (v := v) hi hn hk (.inr (by rw [HgE]; omega) : p.cl i n = true ∨ 20 ≤ p.gv)
      rw [hcl'] at q1
      rw [q1, q2] at Hg
      have hgl1 : (20 : Int) ≤ (gs.length : Int) := by omega
      clear hcl hcl'
      go_enter Try.func29, Try.ntmps29
      go_wp2_with (go_at_call 59; refine ((qK Hg) _ (Bw.refl _)).mono ?_; rintro e w1 ⟨rfl, hA⟩; obtain ⟨S', xp', a1, a2, a3, a4, a5, a6, a7⟩ := (qK Hmv) w w1 (Bw.refl _) hA; obtain ⟨d0, d1, d2, d3, d4, d5, d6, d7, d8, dl, df⟩ := a2.cells; obtain ⟨f1, f2, f3, f4, f5⟩ := a2.epAt hi hn; rw [hbe] at f2; rw [hvg] at d5)
      go_ret
      exact ⟨rfl, gs, p, st, (qK HR).still (qK HU) hA, Mv.refl _ _ _ _, rfl⟩
    · obtain ⟨q1, st', hkp, hstp, hev, hop, hclE, hepE⟩ := (qK HR).kept.give g (i := i) (m := n) (e := e0) (v := v) hi hn hk hcl' (by omega) hv ee1
      rw [q1] at Hg
      have Hkp := qJ (⟨hkp, hstp, hev, hop, hclE, hepE⟩ : _ ∧ _ ∧ _ ∧ _ ∧ _ ∧ _)
      have hgl1 : ¬ (20 : Int) ≤ (gs.length : Int) := by omega
      have hgl2 : gs.length ≤ 20 := by omega
      have Hcl := qJ hcl'
      clear hcl hcl' hkp hstp hev hop hclE hepE hgl
      go_enter Try.func29, Try.ntmps29
      go_wp2_with (go_at_call 59; refine ((qK Hg) _ (Bw.refl _)).mono ?_; rintro e w1 ⟨rfl, hA⟩; obtain ⟨S', xp', a1, a2, a3, a4, a5, a6, a7⟩ := (qK Hmv) w w1 (Bw.refl _) hA; obtain ⟨d0, d1, d2, d3, d4, d5, d6, d7, d8, dl, df⟩ := a2.cells; obtain ⟨f1, f2, f3, f4, f5⟩ := a2.epAt hi hn; rw [hbe] at f2; rw [hvg] at d5)
      have HBT := qJ a2
      obtain ⟨m1, m2, m3⟩ := a2.ne
      obtain ⟨m4, m5, m6, m7⟩ := m3 i hi
      clear m3
      have Hrun := qJ (⟨a1, a3, a6, a7⟩ : _ ∧ _ ∧ _ ∧ _)
      have Hbe := qJ hbe
      clear a1 a2 a3 a4 a5 a6 a7 hA c0 c1 c2 c3 c4 c5 c6 c7 c8 hbe
      refine wp_region_held_drew (S := (fun w' => w'.cell? ⟨bb, 4, none⟩ = some (.slice (some ⟨x.eb, 0, none⟩) W x.ec) ∧ w'.cell? ⟨x.eb, i, none⟩ = some (.slice (some ⟨x.er i, 0, none⟩) ns.length ns.length) ∧ w'.cell? ⟨x.er i, n, none⟩ = some (.int .i64 (e0 : Int)))) (by kernel_rfl) (by (try dsimp only); go_keep) (fun hHeld => ?_)
      refine tk 0 ?_; try simp only [Act.put, qT, qS, qR]
      refine tk 1 ?_; try simp only [Act.put, qT, qS, qR]
      refine tk 2 ?_; try simp only [Act.put, qT, qS, qR]
      refine tk 3 ?_; try simp only [Act.put, qT, qS, qR]
      refine tk 5 ?_; try simp only [Act.put, qT, qS, qR]
      refine tk 6 ?_; try simp only [Act.put, qT, qS, qR]
      refine tk 7 ?_; try simp only [Act.put, qT, qS, qR]
      refine tk 8 ?_; try simp only [Act.put, qT, qS, qR]
      refine tk 9 ?_; try simp only [Act.put, qT, qS, qR]
      refine tk 10 ?_; try simp only [Act.put, qT, qS, qR]
      refine tk 11 ?_; try simp only [Act.put, qT, qS, qR]
      refine tk 12 ?_; try simp only [Act.put, qT, qS, qR]
      refine tk 13 ?_; try simp only [Act.put, qT, qS, qR]
      refine tk 14 ?_; try simp only [Act.put, qT, qS, qR]
      refine tk 15 ?_; try simp only [Act.put, qT, qS, qR]
      refine tk 16 ?_; try simp only [Act.put, qT, qS, qR]
      refine tk 17 ?_; try simp only [Act.put, qT, qS, qR]
      refine wpAnyH_ready (rs := [4, 18]) (by kernel_rfl) (by simp) ?_
      refine AllReadyH.cons rfl (fun K hK => ?_) (AllReadyH.cons rfl (fun K hK => ?_) AllReadyH.nil)
      · go_simp
        refine hK.out _ _ (by (try dsimp only); go_keep) (fun hHeld => ?_)
        clear hK K
        try simp only [Act.put, qT, qS, qR]
        refine wpAnyH_ready (rs := [18]) (by kernel_rfl) (by simp) ?_
        refine AllReadyH.cons rfl (fun K hK => ?_) AllReadyH.nil
        go_simp
        refine hK.out _ _ (by (try dsimp only); go_keep) (fun hHeld => ?_)
        clear hK K
        try simp only [Act.put, qT, qS, qR]
        refine wpAnyH_ready (rs := [19]) (by kernel_rfl) (by simp) ?_
        refine AllReadyH.cons rfl (fun K hK => ?_) AllReadyH.nil
        refine pF rfl _ _ _ 44 rfl _ 3 24 Try.infoGivenK Try.underlying41 rfl (by decide) 0 (.slice ga gs.length gc) gs.length (qB gs) rfl (hvg ▸ ((qK HBT).bw (show Bw w1 _ from (by repeat first|exact br _|assumption|apply bd|apply bn|apply ba|refine bt ?_ (by assumption)))).given.1) _ _ (Gv.cells ⟨n, e0, v⟩) rfl rfl (pT (qQ (qN _ _ (by simp)) rfl) (qQ (qN _ _ (by simp)) rfl) (qQ (qN _ _ (by simp)) rfl)) (cJ _) (by omega) (by omega) (Nat.zero_le _) ?_
        intro g' cap w7 ho7 hg7 hl7
        obtain ⟨t4, t5, t6, t7, t8, t9, t10, t11⟩ := ((qK HBT).bw (show Bw w1 _ from (by repeat first|exact br _|assumption|apply bd|apply bn|apply ba|refine bt ?_ (by assumption)))).growG hi hn (hvg.symm ▸ hg7)
        rw [qK Hbe] at t7
        simp only [qK Hbe] at t11
        rw [hvg] at t5
        refine hK.out _ _ (by (try dsimp only); go_keep) (fun hHeld => ?_)
        clear hK K
        try simp only [Act.put, qT, qS, qR]
        refine tk 20 ?_; try simp only [Act.put, qT, qS, qR]
        refine tk 21 ?_; try simp only [Act.put, qT, qS, qR]
        refine wpAnyH_ready (rs := [22]) (by kernel_rfl) (by simp) ?_
        refine AllReadyH.cons rfl (fun K hK => ?_) AllReadyH.nil
        go_simp
        refine hK.out _ _ (t11 _) (fun hHeld => ?_)
        clear hK K
        try simp only [Act.put, qT, qS, qR]
        refine wpAnyH_done (by kernel_rfl) ?_ _
        have hBTn := ((qK HBT).bw (show Bw w1 _ from (by repeat first|exact br _|assumption|apply bd|apply bn|apply ba|refine bt ?_ (by assumption)))).addGiven ho7 (hvg.symm ▸ hg7)
        have hcg : Chg T w1 (w7.setCell ⟨bb, 5, none⟩ (.slice (some ⟨g', 0, none⟩) (gs.length + 1) cap)) := gH (show Bw w1 _ from (by repeat first|exact br _|assumption|apply bd|apply bn|apply ba|refine bt ?_ (by assumption))) hg7 (fun b hb => (qK HBT).given.2 b (hvg ▸ hb)) (qK HBT).troot
        have hgT : ∀ b, (T b ∨ b = g') → T b ∨ w1.heap.size ≤ b := by
          rintro b (hb | rfl)
          · exact .inl hb
          · rcases hl7 with h | h
            · exact .inl ((qK HBT).given.2 _ (hvg ▸ h))
            · exact .inr (by rw [h]; exact Bw.size (show Bw w1 _ from (by repeat first|exact br _|assumption|apply bd|apply bn|apply ba|refine bt ?_ (by assumption))))
        generalize w7.setCell ⟨bb, 5, none⟩ (.slice (some ⟨g', 0, none⟩) (gs.length + 1) cap) = w8 at hBTn hcg ⊢
        obtain ⟨z0, z1, z2, z3, z4, z5, z6, z7, z8, zl, zf⟩ := hBTn.cells
        have z6f := zf 6
        have Hfin := qJ (⟨hBTn, hcg, hgT⟩ : _ ∧ _ ∧ _)
        have hul := ((qK HR).kept.small g).1
        clear hBTn hcg hgT zf t4 t5 t6 t7 t8 t9 t10 t11 d0 d1 d2 d3 d4 d5 d6 d7 d8 f1 f2
        go_wp2_with fail
        go_ret
        obtain ⟨hBTn, hcg, hgT⟩ := qK Hfin
        obtain ⟨a1, a3, a6, a7⟩ := qK Hrun
        obtain ⟨hkp, hstp, hev, hop, hclE, hepE⟩ := qK Hkp
        refine ⟨rfl, _, _, st', (qK HR).next (qK HU) a1 a6 a7 a3 (hcg.trans (qC _ _ _ _) (fun b h => .inl (h ▸ (qK HBT).troot))) (x' := { x with vg := .slice (some ⟨g', 0, none⟩) (gs.length + 1) cap }) ?_ hgT rfl hkp, Mv.stp hstp (pgiveS_rc _ _ _ _ _ _), hev⟩
        rw [hop, hev]
        have hbe : rT (jD ns W p i n v) = rT p := by unfold rT; rw [hclE, hepE]
        rw [hbe]
        exact hBTn.setUsed
      · go_simp
        refine hK.out _ _ (by (try dsimp only); go_keep) (fun hHeld => ?_)
        clear hK K
        try simp only [Act.put, qT, qS, qR]
        refine wpAnyH_ready (rs := [4]) (by kernel_rfl) (by simp) ?_
        refine AllReadyH.cons rfl (fun K hK => ?_) AllReadyH.nil
        go_simp
        refine hK.out _ _ (by (try dsimp only); go_keep) (fun hHeld => ?_)
        clear hK K
        try simp only [Act.put, qT, qS, qR]
        refine wpAnyH_ready (rs := [19]) (by kernel_rfl) (by simp) ?_
        refine AllReadyH.cons rfl (fun K hK => ?_) AllReadyH.nil
        refine pF rfl _ _ _ 44 rfl _ 3 24 Try.infoGivenK Try.underlying41 rfl (by decide) 0 (.slice ga gs.length gc) gs.length (qB gs) rfl (hvg ▸ ((qK HBT).bw (show Bw w1 _ from (by repeat first|exact br _|assumption|apply bd|apply bn|apply ba|refine bt ?_ (by assumption)))).given.1) _ _ (Gv.cells ⟨n, e0, v⟩) rfl rfl (pT (qQ (qN _ _ (by simp)) rfl) (qQ (qN _ _ (by simp)) rfl) (qQ (qN _ _ (by simp)) rfl)) (cJ _) (by omega) (by omega) (Nat.zero_le _) ?_
        intro g' cap w7 ho7 hg7 hl7
        obtain ⟨t4, t5, t6, t7, t8, t9, t10, t11⟩ := ((qK HBT).bw (show Bw w1 _ from (by repeat first|exact br _|assumption|apply bd|apply bn|apply ba|refine bt ?_ (by assumption)))).growG hi hn (hvg.symm ▸ hg7)
        rw [qK Hbe] at t7
        simp only [qK Hbe] at t11
        rw [hvg] at t5
        refine hK.out _ _ (by (try dsimp only); go_keep) (fun hHeld => ?_)
        clear hK K
        try simp only [Act.put, qT, qS, qR]
        refine tk 20 ?_; try simp only [Act.put, qT, qS, qR]
        refine tk 21 ?_; try simp only [Act.put, qT, qS, qR]
        refine wpAnyH_ready (rs := [22]) (by kernel_rfl) (by simp) ?_
        refine AllReadyH.cons rfl (fun K hK => ?_) AllReadyH.nil
        go_simp
        refine hK.out _ _ (t11 _) (fun hHeld => ?_)
        clear hK K
        try simp only [Act.put, qT, qS, qR]
        refine wpAnyH_done (by kernel_rfl) ?_ _
        have hBTn := ((qK HBT).bw (show Bw w1 _ from (by repeat first|exact br _|assumption|apply bd|apply bn|apply ba|refine bt ?_ (by assumption)))).addGiven ho7 (hvg.symm ▸ hg7)
        have hcg : Chg T w1 (w7.setCell ⟨bb, 5, none⟩ (.slice (some ⟨g', 0, none⟩) (gs.length + 1) cap)) := gH (show Bw w1 _ from (by repeat first|exact br _|assumption|apply bd|apply bn|apply ba|refine bt ?_ (by assumption))) hg7 (fun b hb => (qK HBT).given.2 b (hvg ▸ hb)) (qK HBT).troot
        have hgT : ∀ b, (T b ∨ b = g') → T b ∨ w1.heap.size ≤ b := by
          rintro b (hb | rfl)
          · exact .inl hb
          · rcases hl7 with h | h
            · exact .inl ((qK HBT).given.2 _ (hvg ▸ h))
            · exact .inr (by rw [h]; exact Bw.size (show Bw w1 _ from (by repeat first|exact br _|assumption|apply bd|apply bn|apply ba|refine bt ?_ (by assumption))))
        generalize w7.setCell ⟨bb, 5, none⟩ (.slice (some ⟨g', 0, none⟩) (gs.length + 1) cap) = w8 at hBTn hcg ⊢
        obtain ⟨z0, z1, z2, z3, z4, z5, z6, z7, z8, zl, zf⟩ := hBTn.cells
        have z6f := zf 6
        have Hfin := qJ (⟨hBTn, hcg, hgT⟩ : _ ∧ _ ∧ _)
        have hul := ((qK HR).kept.small g).1
        clear hBTn hcg hgT zf t4 t5 t6 t7 t8 t9 t10 t11 d0 d1 d2 d3 d4 d5 d6 d7 d8 f1 f2
        go_wp2_with fail
        go_ret
        obtain ⟨hBTn, hcg, hgT⟩ := qK Hfin
        obtain ⟨a1, a3, a6, a7⟩ := qK Hrun
        obtain ⟨hkp, hstp, hev, hop, hclE, hepE⟩ := qK Hkp
        refine ⟨rfl, _, _, st', (qK HR).next (qK HU) a1 a6 a7 a3 (hcg.trans (qC _ _ _ _) (fun b h => .inl (h ▸ (qK HBT).troot))) (x' := { x with vg := .slice (some ⟨g', 0, none⟩) (gs.length + 1) cap }) ?_ hgT rfl hkp, Mv.stp hstp (pgiveS_rc _ _ _ _ _ _), hev⟩
        rw [hop, hev]
        have hbe : rT (jD ns W p i n v) = rT p := by unfold rT; rw [hclE, hepE]
        rw [hbe]
        exact hBTn.setUsed
theorem bep_adv {p p' : PSt} {i n e : Nat} (hc : p.cl i n = false) (h1 : p'.cl = p.cl) (h2 : p'.ep = kY p.ep i n ((e : Int) + 1)) : rT p' = kY (rT p) i n ((e : Int) + 1) := by
  funext a b
  unfold rT
  rw [h1, h2]
  by_cases hh : a = i ∧ b = n
  · obtain ⟨rfl, rfl⟩ := hh
    rw [hc, zZ, zZ]; rfl
  · rw [yH _ _ hh, yH _ _ hh]
theorem bep_cls {p p' : PSt} {i n : Nat} (h1 : p'.cl = kY p.cl i n true) (h2 : p'.ep = p.ep) : rT p' = kY (rT p) i n (-1) := by
  funext a b
  unfold rT
  rw [h1, h2]
  by_cases hh : a = i ∧ b = n
  · obtain ⟨rfl, rfl⟩ := hh
    rw [zZ, zZ]; rfl
  · rw [yH _ _ hh, yH _ _ hh]
set_option maxRecDepth 100000 in
set_option maxHeartbeats 8000000 in
theorem kadvance_any {U : Nat → Prop} {bb : Nat} {ns : List Nd} {R W : Nat} {gs : List Gv} {p : PSt} {st : RSt} (g : GOk ns R W) (i n : Nat) (w : World) (hB : BAt w U bb ns R W gs p st) (hi : i < W) (hn : n < ns.length) (hk : (qV ns n).kind = 0) :
    Calls Try.prog 57 #[.pointer (some ⟨bb, 0, none⟩), .int .i64 (i : Int), .int .i64 (n : Int)] w fun e w' => e = .returned (.bool true) ∧ ∃ gs' p' st', BAt.After w w' U bb ns R W gs' p' st' ∧ Mv ns R W p p' ∧ st'.evs = st.evs := by
  obtain ⟨W0, T, S, pb, x, xp, hR, hU⟩ := hB
  have HR := qJ hR
  have HU := qJ hU
  obtain ⟨c0, c1, c2, c3, c4, c5, c6, c7, c8, cl, _⟩ := hR.bt.cells
  have hp := hR.kept.pinv g
  obtain ⟨e0, ee1, ee2, _ee3⟩ := hR.kept.ep6 i n
  clear _ee3
  have hbl := bep_lt (p := p) (i := i) (n := n) ⟨e0, ee1, ee2⟩
  have Hg := qJ (fun (w' : World) (hb : Bw w w') => padvance_any (i : Int) (n : Int) w' (hR.run.bw hb) (fun a b => by have := (hp.few a b).2.2; omega) hp.ep)
  have Hmv := qJ (fun (w' w1 : World) (hb : Bw w w') {p' : PSt} (ha : POwn.After w' w1 S pb ns R W (zQ ns) p') => (hR.bw hb).moved ha)
  clear hR hU
  have hi1 : (i : Int) < (W : Int) := by omega
  have hn1 : (n : Int) < (ns.length : Int) := by omega
  by_cases hcl : p.cl i n = true
  · obtain ⟨q1, q2⟩ := adv_no (p := p) hi hn hk (.inl hcl)
    rw [hcl] at q1
    rw [q1, q2] at Hg
    have hneg : rT p i n < 0 := hbl.1.2 hcl
    clear hcl hbl
    go_enter Try.func57, Try.ntmps57
    go_wp2_with (go_at_call 83; refine ((qK Hg) _ (Bw.refl _)).mono ?_; rintro e w1 ⟨rfl, hA⟩; obtain ⟨S', xp', a1, a2, a3, a4, a5, a6, a7⟩ := (qK Hmv) w w1 (Bw.refl _) hA; obtain ⟨d0, d1, d2, d3, d4, d5, d6, d7, d8, dl, df⟩ := a2.cells; obtain ⟨f1, f2, f3, f4, f5⟩ := a2.epAt hi hn)
    go_ret
    exact ⟨rfl, gs, p, st, (qK HR).still (qK HU) hA, Mv.refl _ _ _ _, rfl⟩
  · have hcl' : p.cl i n = false := by simpa using hcl
    have hpos : ¬ rT p i n < 0 := fun h => hcl (hbl.1.1 h)
    have hbe : rT p i n = e0 := by unfold rT; rw [hcl', ee1]; rfl
    clear hbl
    rw [hbe] at hpos
    by_cases hgl : 5 ≤ e0
    · obtain ⟨q1, q2⟩ := adv_no (p := p) hi hn hk (.inr (by rw [ee1]; omega))
      rw [hcl'] at q1
      rw [q1, q2] at Hg
      have hgl1 : (5 : Int) ≤ (e0 : Int) := by omega
      clear hcl hcl'
      go_enter Try.func57, Try.ntmps57
      go_wp2_with (go_at_call 83; refine ((qK Hg) _ (Bw.refl _)).mono ?_; rintro e w1 ⟨rfl, hA⟩; obtain ⟨S', xp', a1, a2, a3, a4, a5, a6, a7⟩ := (qK Hmv) w w1 (Bw.refl _) hA; obtain ⟨d0, d1, d2, d3, d4, d5, d6, d7, d8, dl, df⟩ := a2.cells; obtain ⟨f1, f2, f3, f4, f5⟩ := a2.epAt hi hn; rw [hbe] at f2)
      go_ret
      exact ⟨rfl, gs, p, st, (qK HR).still (qK HU) hA, Mv.refl _ _ _ _, rfl⟩
    · obtain ⟨q1, st', hkp, hstp, hev, hop, hclE, hepE⟩ := (qK HR).kept.adv g (i := i) (m := n) (e := e0) hi hn hk hcl' ee1 (by omega)
      rw [q1] at Hg
      have Hkp := qJ (⟨hkp, hstp, hev, hop, bep_adv hcl' hclE hepE⟩ : _ ∧ _ ∧ _ ∧ _ ∧ _)
      have hgl1 : ¬ (5 : Int) ≤ (e0 : Int) := by omega
      have hgl2 : e0 < 5 := by omega
      have hul := ((qK HR).kept.small g).1
      clear hcl hcl' hkp hstp hev hop hclE hepE hgl
      go_enter Try.func57, Try.ntmps57
      go_wp2_with (go_at_call 83; refine ((qK Hg) _ (Bw.refl _)).mono ?_; rintro e w1 ⟨rfl, hA⟩; obtain ⟨S', xp', a1, a2, a3, a4, a5, a6, a7⟩ := (qK Hmv) w w1 (Bw.refl _) hA; obtain ⟨d0, d1, d2, d3, d4, d5, d6, d7, d8, dl, df⟩ := a2.cells; obtain ⟨f1, f2, f3, f4, f5⟩ := a2.epAt hi hn; rw [hbe] at f2; obtain ⟨m1, m2, m3⟩ := a2.ne; obtain ⟨m4, m5, m6, m7⟩ := m3 i hi; clear m3; have HBT := qJ a2; have d6f := df 6; clear df)
      go_ret
      obtain ⟨hkp, hstp, hev, hop, hbp⟩ := qK Hkp
      refine ⟨rfl, gs, _, st', (qK HR).next (qK HU) a1 a6 a7 a3 ((qC _ _ _ _).mono (fun b h => by rw [h]; exact (qK HBT).te.2 i hi) |>.trans (qC _ _ _ _) (fun b h => .inl (by rw [h]; exact (qK HBT).troot))) (x' := x) (T' := T) ?_ (fun b h => .inl h) rfl hkp, Mv.stp hstp (padvS_rc _ _ _ _ _), hev⟩
      rw [hop, hev, hbp]
      exact ((qK HBT).setEp hi _).setUsed
set_option maxRecDepth 100000 in
set_option maxHeartbeats 8000000 in
theorem kclose_any {U : Nat → Prop} {bb : Nat} {ns : List Nd} {R W : Nat} {gs : List Gv} {p : PSt} {st : RSt} (g : GOk ns R W) (i n : Nat) (w : World) (hB : BAt w U bb ns R W gs p st) (hi : i < W) (hn : n < ns.length) (hk : (qV ns n).kind = 0) :
    Calls Try.prog 58 #[.pointer (some ⟨bb, 0, none⟩), .int .i64 (i : Int), .int .i64 (n : Int)] w fun e w' => e = .returned (.bool true) ∧ ∃ p' st', BAt.After w w' U bb ns R W gs p' st' ∧ Mv ns R W p p' ∧ st'.evs = st.evs ∧ p'.cl i n = true ∧ ∀ a b, p.cl a b = true → p'.cl a b = true := by
  obtain ⟨W0, T, S, pb, x, xp, hR, hU⟩ := hB
  have HR := qJ hR
  have HU := qJ hU
  obtain ⟨c0, c1, c2, c3, c4, c5, c6, c7, c8, cl, _⟩ := hR.bt.cells
  have hp := hR.kept.pinv g
  obtain ⟨e0, ee1, ee2, _ee3⟩ := hR.kept.ep6 i n
  clear _ee3
  have hbl := bep_lt (p := p) (i := i) (n := n) ⟨e0, ee1, ee2⟩
  have Hg := qJ (fun (w' : World) (hb : Bw w w') => pclose_any (i : Int) (n : Int) w' (hR.run.bw hb) (fun a b => by have := (hp.few a b).2.2; omega) hp.ep)
  have Hmv := qJ (fun (w' w1 : World) (hb : Bw w w') {p' : PSt} (ha : POwn.After w' w1 S pb ns R W (zQ ns) p') => (hR.bw hb).moved ha)
  clear hR hU
  have hi1 : (i : Int) < (W : Int) := by omega
  have hn1 : (n : Int) < (ns.length : Int) := by omega
  by_cases hcl : p.cl i n = true
  · obtain ⟨q1, q2⟩ := cls_no (p := p) hi hn hk hcl
    rw [q1, q2] at Hg
    have hneg : rT p i n < 0 := hbl.1.2 hcl
    have Hcl := qJ hcl
    clear hcl hbl
    go_enter Try.func58, Try.ntmps58
    go_wp2_with (go_at_call 84; refine ((qK Hg) _ (Bw.refl _)).mono ?_; rintro e w1 ⟨rfl, hA⟩; obtain ⟨S', xp', a1, a2, a3, a4, a5, a6, a7⟩ := (qK Hmv) w w1 (Bw.refl _) hA; obtain ⟨d0, d1, d2, d3, d4, d5, d6, d7, d8, dl, df⟩ := a2.cells; obtain ⟨f1, f2, f3, f4, f5⟩ := a2.epAt hi hn)
    go_ret
    exact ⟨rfl, p, st, (qK HR).still (qK HU) hA, Mv.refl _ _ _ _, rfl, qK Hcl, fun _ _ h => h⟩
  · have hcl' : p.cl i n = false := by simpa using hcl
    have hpos : ¬ rT p i n < 0 := fun h => hcl (hbl.1.1 h)
    have hbe : rT p i n = e0 := by unfold rT; rw [hcl', ee1]; rfl
    clear hbl
    rw [hbe] at hpos
    obtain ⟨q1, st', hkp, hstp, hev, hop, hclE, hepE⟩ := (qK HR).kept.cls g (i := i) (m := n) hi hn hk hcl'
    rw [q1] at Hg
    have Hkp := qJ (⟨hkp, hstp, hev, hop, bep_cls hclE hepE, hclE⟩ : _ ∧ _ ∧ _ ∧ _ ∧ _ ∧ _)
    have hul := ((qK HR).kept.small g).1
    clear hcl hcl' hkp hstp hev hop hclE hepE
    go_enter Try.func58, Try.ntmps58
    go_wp2_with (go_at_call 84; refine ((qK Hg) _ (Bw.refl _)).mono ?_; rintro e w1 ⟨rfl, hA⟩; obtain ⟨S', xp', a1, a2, a3, a4, a5, a6, a7⟩ := (qK Hmv) w w1 (Bw.refl _) hA; obtain ⟨d0, d1, d2, d3, d4, d5, d6, d7, d8, dl, df⟩ := a2.cells; obtain ⟨f1, f2, f3, f4, f5⟩ := a2.epAt hi hn; rw [hbe] at f2; obtain ⟨m1, m2, m3⟩ := a2.ne; obtain ⟨m4, m5, m6, m7⟩ := m3 i hi; clear m3; have HBT := qJ a2; have d6f := df 6; clear df)
    go_ret
    obtain ⟨hkp, hstp, hev, hop, hbp, hclE⟩ := qK Hkp
    refine ⟨rfl, _, st', (qK HR).next (qK HU) a1 a6 a7 a3 ((qC _ _ _ _).mono (fun b h => by rw [h]; exact (qK HBT).te.2 i hi) |>.trans (qC _ _ _ _) (fun b h => .inl (by rw [h]; exact (qK HBT).troot))) (x' := x) (T' := T) ?_ (fun b h => .inl h) rfl hkp, Mv.stp hstp (pclsS_rc _ _ _ _ _), hev, by rw [hclE, zZ], fun a b h => ?_⟩
    · rw [hop, hev, hbp]
      exact ((qK HBT).setEp hi _).setUsed
    · rw [hclE]
      by_cases hh : a = i ∧ b = n
      · rw [hh.1, hh.2, zZ]
      · rw [yH _ _ hh]; exact h
end Go.Proofs.Ytfemleimkbjehaa
