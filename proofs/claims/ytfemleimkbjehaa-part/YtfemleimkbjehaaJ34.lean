import Derived.Test.YtfemleimkbjehaaJ33
set_option maxRecDepth 1000000
set_option maxHeartbeats 40000000
set_option linter.unusedVariables false
set_option linter.unusedSimpArgs false
namespace Go.Proofs.Ytfemleimkbjehaa
open Go.RowKit
set_option maxHeartbeats 1000000 in
theorem Hist.note {ns : List Nd} {r : Int} {q : List Int} {D : Nat → Nat → Int} {R W : Nat} {gs : List Gv} {p p' : PSt} {st : RSt} {a n e s : Nat} (hG : Good ns r q) (h : Hist ns D R W gs p st) (hs : Stp ns D W p p')
    (ha : a < W) (hn : n < ns.length) (h6 : e < 6) (h4 : s < R) (hk : (qV ns n).kind = 6) (hw : jS st.evs a n e s st.evs.length ≠ []) (hz : Zero ns D W p' n e s) :
    Hist ns D R W gs p' (lQ ns R W st ⟨2, a, n, 0, e, s, 0⟩) := by
  have e0 : lQ ns R W st ⟨2, a, n, 0, e, s, 0⟩ = { fP ns W st a n e s with evs := st.evs ++ [⟨2, a, n, 0, e, s, 0⟩] } := by
    unfold lQ doneS
    rw [if_neg (by simp), if_pos (by simp)]
    simp only [Int.toNat_natCast]
  have hold : nG st.evs a n e s = 0 ∧ jS st.evs a n e s st.evs.length = lL st.evs a n e s := by
    rcases h.nt a n e s ha hn h6 h4 hk with g | ⟨_, g, _, _⟩
    · exact g
    · exact absurd g hw
  rw [e0]
  have hV : ∀ n' e' s', uR (st.evs ++ [⟨2, a, n, 0, e, s, 0⟩]) n' e' s' = uR st.evs n' e' s' := fun n' e' s' => by
    rw [nQ, wkF_note]; simp
  have hO : ∀ w n' e' s', lL (st.evs ++ [⟨2, a, n, 0, e, s, 0⟩]) w n' e' s' = lL st.evs w n' e' s' := fun w n' e' s' => by
    rw [dU, wkF_note]; simp
  have hC : ∀ w n' e' s', nG (st.evs ++ [⟨2, a, n, 0, e, s, 0⟩]) w n' e' s' = nG st.evs w n' e' s' + if a = w ∧ n = n' ∧ e = e' ∧ s = s' then 1 else 0 := fun w n' e' s' => by rw [fN, ntF_note]; simp
  have hA : ∀ w n' e' s' : Nat, jS (st.evs ++ [⟨2, a, n, 0, e, s, 0⟩]) w n' e' s' (st.evs ++ [(⟨2, a, n, 0, e, s, 0⟩ : Ev)]).length = if a = w ∧ n = n' ∧ e = e' ∧ s = s' then [] else jS st.evs w n' e' s' st.evs.length := fun w n' e' s' => by
    rw [tN]
    have := bT 2 0 a n e s 0 w n' e' s'
    rw [show (⟨2, (a : Int), (n : Int), ((0 : Nat) : Int), (e : Int), (s : Int), 0⟩ : Ev) = ⟨2, a, n, 0, e, s, 0⟩ from rfl] at this
    rw [this]
    by_cases hh : a = w ∧ n = n' ∧ e = e' ∧ s = s'
    · rw [if_pos hh, if_pos (by simp; omega)]; simp
    · rw [if_neg hh, if_neg (by simp; omega)]
  refine ⟨fun y hy => ?_, fun m hm' => ?_, fun n' e' s' => ?_, ?_, fun w n' e' s' hw' hn' he' hs' hk' => ?_, ?_, ?_, h.ts, h.gl, h.op, h.c3, h.gi⟩
  · rcases List.mem_append.1 hy with hy | hy
    · exact h.ev y hy
    · simp at hy; subst hy; exact .inr (.inl ⟨a, n, e, s, rfl, ha, hn, h6, h4, hk⟩)
  · rcases List.mem_append.1 hm' with hm' | hm'
    · exact h.pl m hm'
    · obtain ⟨_, j, g3, _, g5⟩ := ntM_new _ m hm'
      exact ⟨j, g3, by rw [g5]; exact at_pl⟩
  · show (gnV (st.mails ++ _) n' e' s').Perm (uR (st.evs ++ [_]) n' e' s')
    rw [nT, hV, gnV_new (fun x hx => (ntM_new _ x hx).1), List.append_nil]
    exact h.gn n' e' s'
  · refine cm_step hG (n := n) (e := e) (t := s) (u := dP ns st a n e s) (ms := st.mails) (P := zD ns W gs st.evs) h.cm (fun x e' s' => rfl) ?_ ?_ ?_
    · intro x e' s' hx he' hs'
      rw [cmV_nt _ _ _ _ (Nat.le_refl _), List.take_length]
      by_cases hh : qL (qV ns x) n = true ∧ e = e' ∧ s = s'
      · rw [if_pos hh, if_pos ⟨hx, hh⟩]
      · rw [if_neg hh, if_neg (fun g => hh g.2)]
    · intro e' s' a' he' hs' ha' h7' hne
      refine put_keep (fun _ _ => hV _ _ _) (fun k4 => ?_) (fun k6 w hw => ⟨?_, hO _ _ _ _⟩)
      · cases s' with
        | zero => rfl
        | succ s' => exact hV _ _ _
      · rw [hC, if_neg (fun hh => hne ⟨hh.2.1.symm, hh.2.2⟩)]; rfl
    · intro _ _ _
      have hform : ∀ evs : List Ev, zD ns W gs evs e s n = smV ns evs n e s W := fun evs => by
        unfold zD
        rw [if_neg (by simp [hk]), if_neg (by simp [hk]), if_pos (by simp [hk])]
      rw [hform, hform]
      unfold dP
      rw [hold.2]
      exact smV_note hold.1 (by rw [hC, if_pos ⟨rfl, rfl, rfl, rfl⟩]; omega) (fun w => hO _ _ _ _) (fun w hw => by rw [hC, if_neg (fun hh => hw hh.1.symm)]; rfl) W ha
  · show (nG (st.evs ++ [_]) w n' e' s' = 0 ∧ jS (st.evs ++ [_]) w n' e' s' (st.evs ++ [_]).length = lL (st.evs ++ [_]) w n' e' s') ∨ (nG (st.evs ++ [_]) w n' e' s' = 1 ∧ jS (st.evs ++ [_]) w n' e' s' (st.evs ++ [_]).length = [] ∧ _ ∧ lL (st.evs ++ [_]) w n' e' s' ≠ [])
    rw [hC, hA, hO]
    by_cases hh : a = w ∧ n = n' ∧ e = e' ∧ s = s'
    · obtain ⟨rfl, rfl, rfl, rfl⟩ := hh
      rw [if_pos ⟨rfl, rfl, rfl, rfl⟩, if_pos ⟨rfl, rfl, rfl, rfl⟩]
      exact .inr ⟨by rw [hold.1], rfl, hz, by rw [← hold.2]; exact hw⟩
    · rw [if_neg hh, if_neg hh]
      rcases h.nt w n' e' s' hw' hn' he' hs' hk' with g | ⟨g1, g2, g3, g4⟩
      · exact .inl g
      · exact .inr ⟨g1, g2, g3.stp hn' hs, g4⟩
  · show (st.log ++ [_]).length = st.opened.length + lV (st.evs ++ [_]) 1 + lV (st.evs ++ [_]) 2
    rw [xH, xH, List.length_append, h.lg]; simp; omega
  · show qH (fun a => qH (fun b => st.told a b) W) W = ((lV (st.evs ++ [_]) 3 : Nat) : Int)
    rw [xH]; simpa using h.tl
theorem put_same {ns : List Nd} {W : Nat} {gs : List Gv} {evs : List Ev} {y : Ev} (hy : y.kind = 3) (e s : Nat) : zD ns W gs (evs ++ [y]) e s = zD ns W gs evs e s := by
  have hf : ∀ n e s, wkF n e s y = false := fun n e s => by unfold wkF; rw [hy]; rfl
  have hg : ∀ w n e s, ntF w n e s y = false := fun w n e s => by unfold ntF; rw [hy]; rfl
  funext a
  refine put_keep (fun _ _ => ?_) (fun k4 => ?_) (fun k6 w hw => ⟨?_, ?_⟩)
  · rw [nQ, hf]; simp
  · cases s with
    | zero => rfl
    | succ s' => show uR _ _ _ _ = uR _ _ _ _; rw [nQ, hf]; simp
  · rw [fN, hg]; rfl
  · rw [dU, hf]; simp
theorem sumTo_told {W a b : Nat} (ha : a < W) (hb : b < W) (f : Nat → Nat → Int) : qH (fun i => qH (fun j => zX f a b i j) W) W = qH (fun i => qH (fun j => f i j) W) W + 1 := by
  refine jH ha fun i hi => ?_
  by_cases e : i = a
  · subst e
    rw [if_pos rfl]
    refine jH hb fun j hj => ?_
    unfold zX
    by_cases e2 : j = b
    · subst e2; rw [if_pos ⟨rfl, rfl⟩, if_pos rfl]
    · rw [if_neg (fun h => e2 h.2), if_neg e2, Int.add_zero]
  · rw [if_neg e, Int.add_zero]
    exact kP fun j hj => by unfold zX; rw [if_neg (fun h => e h.1)]
theorem Hist.tell {ns : List Nd} {D : Nat → Nat → Int} {R W : Nat} {gs : List Gv} {p p' : PSt} {st : RSt} {a x : Nat} (h : Hist ns D R W gs p st) (hs : Stp ns D W p p') (ha : a < W) (hx : x < W) (hax : a ≠ x) :
    Hist ns D R W gs p' (lQ ns R W st ⟨3, a, 0, x, 0, 0, 0⟩) := by
  have e0 : lQ ns R W st ⟨3, a, 0, x, 0, 0, 0⟩ = { st with told := zX st.told a x, evs := st.evs ++ [⟨3, a, 0, x, 0, 0, 0⟩] } := rfl
  rw [e0]
  have hf : ∀ n e s, wkF n e s ⟨3, a, 0, x, 0, 0, 0⟩ = false := fun n e s => rfl
  refine ⟨fun y hy => ?_, h.pl, fun n' e' s' => ?_, fun x' e' s' hx' he' hs' hk' => ?_, fun w n' e' s' hw' hn' he' hs' hk' => ?_, ?_, ?_, fun b => ?_, h.gl, h.op, h.c3, h.gi⟩
  · rcases List.mem_append.1 hy with hy | hy
    · exact h.ev y hy
    · simp at hy; subst hy; exact .inr (.inr ⟨a, x, rfl, ha, hx, hax⟩)
  · show (gnV st.mails n' e' s').Perm (uR (st.evs ++ [_]) n' e' s')
    rw [nQ, hf]; simpa using h.gn n' e' s'
  · show (lD st.mails x' e' s').Perm (kK _ (zD ns W gs (st.evs ++ [_]) e' s'))
    rw [put_same rfl]
    exact h.cm x' e' s' hx' he' hs' hk'
  · show (nG (st.evs ++ [_]) w n' e' s' = 0 ∧ jS (st.evs ++ [_]) w n' e' s' (st.evs ++ [_]).length = lL (st.evs ++ [_]) w n' e' s') ∨ (nG (st.evs ++ [_]) w n' e' s' = 1 ∧ jS (st.evs ++ [_]) w n' e' s' (st.evs ++ [_]).length = [] ∧ _ ∧ lL (st.evs ++ [_]) w n' e' s' ≠ [])
    have hA : ∀ w n' e' s' : Nat, jS (st.evs ++ [⟨3, a, 0, x, 0, 0, 0⟩]) w n' e' s' (st.evs ++ [(⟨3, a, 0, x, 0, 0, 0⟩ : Ev)]).length = jS st.evs w n' e' s' st.evs.length := fun w n' e' s' => by
      rw [tN]; split <;> simp
    rw [hA, fN, dU, hf, ntF_tell]
    simp only [Bool.and_false, Bool.false_eq_true, if_false, List.append_nil, Nat.add_zero]
    rcases h.nt w n' e' s' hw' hn' he' hs' hk' with g | ⟨g1, g2, g3, g4⟩
    · exact .inl g
    · exact .inr ⟨g1, g2, g3.stp hn' hs, g4⟩
  · show st.log.length = st.opened.length + lV (st.evs ++ [_]) 1 + lV (st.evs ++ [_]) 2
    rw [xH, xH, h.lg]; rfl
  · show qH (fun i => qH (fun j => zX st.told a x i j) W) W = ((lV (st.evs ++ [_]) 3 : Nat) : Int)
    rw [xH, sumTo_told ha hx, h.tl]; simp
  · show zX st.told a x b b = 0
    unfold zX
    rw [if_neg (fun hh => hax (hh.1.symm.trans hh.2))]
    exact h.ts b
theorem srcTo_app (gs : List Gv) (g : Gv) (n e s : Nat) : ∀ k, k ≤ gs.length → zW (gs ++ [g]) n e s k = zW gs n e s k
  | 0, _ => rfl
  | k + 1, hk => by
    have e1 : cN (gs ++ [g]) n e s k = cN gs n e s k := by unfold cN; rw [fV (by omega)]
    rw [zW, zW, srcTo_app gs g n e s k (by omega), e1, fV (by omega)]
theorem srcL_snoc (gs : List Gv) (g : Gv) (n e s : Nat) : bU (gs ++ [g]) n e s = bU gs n e s ++ (if (s == 0) && (g.node == (n : Int)) && (g.epoch == (e : Int)) then [g.value] else []) := by
  unfold bU
  rw [List.length_append, List.length_singleton, zW, srcTo_app gs g n e s _ (Nat.le_refl _)]
  unfold cN
  rw [fY]
  split <;> simp
theorem rV {ns : List Nd} {W : Nat} {gs : List Gv} {evs : List Ev} {e s a : Nat} (h0 : (qV ns a).kind = 0) : zD ns W gs evs e s a = bU gs a e s := by
  unfold zD; rw [if_pos (by simp [h0])]
theorem putV_nsrc {ns : List Nd} {W : Nat} {gs gs' : List Gv} {evs : List Ev} {e s a : Nat} (h0 : (qV ns a).kind ≠ 0) : zD ns W gs' evs e s a = zD ns W gs evs e s a := by
  have e0 : ((qV ns a).kind == 0) = false := by simpa using h0
  unfold zD; rw [e0]; rfl
theorem Hist.give {ns : List Nd} {r : Int} {q : List Int} {D : Nat → Nat → Int} {R W : Nat} {gs : List Gv} {p p' : PSt} {st : RSt} {i m e : Nat} {v : Int} (hG : Good ns r q) (h : Hist ns D R W gs p st) (hs : Stp ns D W p p') (hm : m < ns.length) (hk : (qV ns m).kind = 0) (h6 : e < 6) (hv : mQ v) :
    Hist ns D R W (gs ++ [⟨m, e, v⟩]) p' (yT ns W st i m v e) := by
  refine ⟨h.ev, fun y hy => ?_, fun n' e' s' => ?_, ?_, fun w n' e' s' hw' hn' he' hs' hk' => ?_, ?_, h.tl, h.ts, ?_, ?_, fun a b => ?_, fun g hg => ?_⟩
  · rcases List.mem_append.1 hy with hy | hy
    · exact h.pl y hy
    · obtain ⟨_, g2, j, g3, _, g5⟩ := rZ _ y hy
      exact ⟨j, g3, by rw [g5, g2]; exact at_pl⟩
  · show (gnV (st.mails ++ _) n' e' s').Perm _
    rw [nT, gnV_new (fun x hx => (rZ _ x hx).1), List.append_nil]
    exact h.gn n' e' s'
  · refine cm_step hG (n := m) (e := e) (t := 0) (u := [v]) (ms := st.mails) (P := zD ns W gs st.evs) (P' := zD ns W (gs ++ [⟨m, e, v⟩]) st.evs) h.cm (fun x e' s' => rfl) ?_ ?_ ?_
    · intro x e' s' hx he' hs'
      rw [bP (e := e) (s := 0) rfl rfl]
      by_cases hh : qL (qV ns x) m = true ∧ e = e' ∧ 0 = s'
      · rw [if_pos hh, if_pos ⟨hx, hh⟩]
      · rw [if_neg hh, if_neg (fun g => hh g.2)]
    · intro e' s' a' he' hs' ha' h7' hne
      by_cases h0 : (qV ns a').kind = 0
      · rw [rV h0, rV h0, srcL_snoc, if_neg (by simp; omega), List.append_nil]
      · exact putV_nsrc h0
    · intro _ _ _
      rw [rV hk, rV hk, srcL_snoc, if_pos (by simp)]
  · rcases h.nt w n' e' s' hw' hn' he' hs' hk' with g | ⟨g1, g2, g3, g4⟩
    · exact .inl g
    · exact .inr ⟨g1, g2, g3.stp hn' hs, g4⟩
  · show (st.log ++ [_]).length = (st.opened ++ [_]).length + lV st.evs 1 + lV st.evs 2
    rw [List.length_append, List.length_append, h.lg]; simp; omega
  · show (gs ++ [_]).length = jM (st.opened ++ [⟨m, i, 1⟩]) (st.opened ++ [(⟨m, i, 1⟩ : Gv)]).length
    rw [vV, List.length_append, h.gl]; simp
  · show (st.opened ++ [(⟨m, i, 1⟩ : Gv)]).length = jM (st.opened ++ [⟨m, i, 1⟩]) (st.opened ++ [(⟨m, i, 1⟩ : Gv)]).length + qD (fun a => qD (fun b => kQ (st.opened ++ [⟨m, i, 1⟩]) a b 2 (st.opened ++ [(⟨m, i, 1⟩ : Gv)]).length + kQ (st.opened ++ [⟨m, i, 1⟩]) a b 3 (st.opened ++ [(⟨m, i, 1⟩ : Gv)]).length) ns.length) W
    rw [vV, kV (g := fun a => qD (fun b => kQ st.opened a b 2 st.opened.length + kQ st.opened a b 3 st.opened.length) ns.length) (fun a ha => kV fun b hb => by rw [jV, jV]; simp), List.length_append]
    have := h.op
    simp; omega
  · show kQ (st.opened ++ [⟨m, i, 1⟩]) a b 3 (st.opened ++ [(⟨m, i, 1⟩ : Gv)]).length ≤ 1
    rw [jV]
    have := h.c3 a b
    simp; omega
  · rcases List.mem_append.1 hg with hg | hg
    · exact h.gi g hg
    · simp at hg; subst hg; exact ⟨⟨m, e, rfl, hm, hk, rfl, h6⟩, hv⟩
theorem Hist.quietly {ns : List Nd} {D : Nat → Nat → Int} {R W : Nat} {gs : List Gv} {p p' : PSt} {st st' : RSt} (h : Hist ns D R W gs p st) (hs : Stp ns D W p p') (h1 : st'.mails = st.mails) (h2 : st'.evs = st.evs) (h3 : st'.told = st.told) {c : Cg} {i m : Nat} {kd : Int} (h4 : st'.log = st.log ++ [c]) (h5 : st'.opened = st.opened ++ [⟨m, i, kd⟩]) (h6 : kd = 2 ∨ kd = 3) (hi : i < W) (hm : m < ns.length) (h7 : kd = 3 → kQ st.opened i m 3 st.opened.length = 0) :
    Hist ns D R W gs p' st' := by
  have hd : ∀ (a b : Nat) (x : Int), kQ st'.opened a b x st'.opened.length = kQ st.opened a b x st.opened.length + if a = i ∧ b = m ∧ kd = x then 1 else 0 := fun a b x => by
    rw [h5, jV]
    congr 1
    by_cases hh : a = i ∧ b = m ∧ kd = x
    · rw [if_pos hh, if_pos (by simp [hh])]
    · rw [if_neg hh, if_neg (by simp; omega)]
  have hg : jM st'.opened st'.opened.length = jM st.opened st.opened.length := by
    rw [h5, vV, if_neg (by simp; omega)]; rfl
  refine ⟨by rw [h2]; exact h.ev, by rw [h1]; exact h.pl, by rw [h1, h2]; exact h.gn, by rw [h1, h2]; exact h.cm, fun w n' e' s' hw' hn' he' hs' hk' => ?_, ?_, by rw [h2, h3]; exact h.tl, by rw [h3]; exact h.ts, ?_, ?_, fun a b => ?_, h.gi⟩
  · rw [h2]
    rcases h.nt w n' e' s' hw' hn' he' hs' hk' with g | ⟨g1, g2, g3, g4⟩
    · exact .inl g
    · exact .inr ⟨g1, g2, g3.stp hn' hs, g4⟩
  · rw [h2, h4, h5, List.length_append, List.length_append, h.lg]; simp; omega
  · rw [hg, h.gl]
  · have e1 : qD (fun a => qD (fun b => kQ st'.opened a b 2 st'.opened.length + kQ st'.opened a b 3 st'.opened.length) ns.length) W = qD (fun a => qD (fun b => kQ st.opened a b 2 st.opened.length + kQ st.opened a b 3 st.opened.length) ns.length) W + 1 := wT hi fun a ha => by
      by_cases ea : a = i
      · subst ea
        rw [if_pos rfl]
        refine wT hm fun b hb => ?_
        rw [hd, hd]
        by_cases eb : b = m
        · subst eb
          rw [if_pos rfl]
          rcases h6 with rfl | rfl <;> simp <;> omega
        · rw [if_neg (fun hh => eb hh.2.1), if_neg (fun hh => eb hh.2.1), if_neg eb]; omega
      · rw [if_neg ea]
        exact kV fun b hb => by rw [hd, hd, if_neg (fun hh => ea hh.1), if_neg (fun hh => ea hh.1)]; rfl
    rw [hg, e1]
    have := h.op
    rw [h5, List.length_append]; simp; omega
  · rw [hd]
    by_cases hh : a = i ∧ b = m ∧ kd = 3
    · obtain ⟨rfl, rfl, rfl⟩ := hh
      rw [h7 rfl, if_pos ⟨rfl, rfl, rfl⟩]; omega
    · rw [if_neg hh]; exact h.c3 a b
theorem Hist.beg {ns : List Nd} {r : Int} {q : List Int} (hG : Good ns r q) {D : Nat → Nat → Int} {R W : Nat} {p : PSt} : Hist ns D R W [] p rst0 := by
  refine ⟨fun y hy => by simp [rst0] at hy, fun y hy => by simp [rst0] at hy, fun n e s => by simp [rst0, gnV, uR], fun x e s hx he hs hk => ?_, fun w n e s _ _ _ _ _ => .inl ⟨rfl, rfl⟩, rfl, ?_, fun a => rfl, rfl, ?_, fun a b => Nat.zero_le _, fun g hg => by simp at hg⟩
  · have h0 : ∀ a, zD ns W [] rst0.evs e s a = [] := fun a => by
      unfold zD
      split
      · rfl
      · split
        · cases s <;> rfl
        · split
          · exact dJ W (fun w hw => rfl)
          · rfl
    have : kK (qV ns x) (zD ns W [] rst0.evs e s) = [] := by
      unfold kK
      rw [List.flatMap_eq_nil_iff]
      intro z _; exact h0 _
    rw [this]; exact List.Perm.refl _
  · show qH (fun _ => qH (fun _ => 0) W) W = 0
    rw [kP (g := fun _ => 0) (fun i hi => zV W), zV]
  · have : qD (fun i => qD (fun n => kQ rst0.opened (i : Int) (n : Int) 2 rst0.opened.length + kQ rst0.opened (i : Int) (n : Int) 3 rst0.opened.length) ns.length) W = 0 := vC fun i hi => vC fun n hn => rfl
    rw [this]; rfl
theorem vQ {α : Type} (f : α → Int) {N : Nat} {P : α → Bool} : ∀ (l : List α), (∀ y ∈ l, P y = true → ∃ i : Nat, i < N ∧ f y = (i : Int)) → (l.filter P).length = qD (fun i => (l.filter fun y => P y && (f y == (i : Int))).length) N
  | [], _ => by simp; exact (vC (fun i hi => rfl)).symm
  | y :: l, h => by
    have ih := vQ f l (fun z hz => h z (by simp [hz]))
    cases hp : P y with
    | false =>
      rw [List.filter_cons_of_neg (by simp [hp]), ih]
      exact kV fun i hi => by rw [List.filter_cons_of_neg (by simp [hp])]
    | true =>
      obtain ⟨j, hj, e⟩ := h y (by simp) hp
      rw [List.filter_cons_of_pos hp, List.length_cons, ih]
      refine (wT (j := j) (d := 1) hj fun i hi => ?_).symm
      by_cases e2 : i = j
      · subst e2; rw [List.filter_cons_of_pos (by simp [hp, e]), if_pos rfl]; rfl
      · rw [List.filter_cons_of_neg (by simp [hp, e]; omega), if_neg e2]; rfl
theorem EvOk.work {ns : List Nd} {R W : Nat} {y : Ev} (h : EvOk ns R W y) (hk : (y.kind == 1) = true) : ∃ a n i e s : Nat, ∃ v : Int, y = ⟨1, a, n, i, e, s, v⟩ ∧ a < W ∧ n < ns.length ∧ e < 6 ∧ s < R ∧ (qV ns n).kind ≠ 0 ∧ mQ v ∧ PlOk ns W n a v := by
  rcases h with h | ⟨a, n, e, s, rfl, _⟩ | ⟨a, x, rfl, _⟩
  · exact h
  · simp at hk
  · simp at hk
theorem EvOk.note {ns : List Nd} {R W : Nat} {y : Ev} (h : EvOk ns R W y) (hk : (y.kind == 2) = true) : ∃ a n e s : Nat, y = ⟨2, a, n, 0, e, s, 0⟩ ∧ a < W ∧ n < ns.length ∧ e < 6 ∧ s < R ∧ (qV ns n).kind = 6 := by
  rcases h with ⟨a, n, i, e, s, v, rfl, _⟩ | h | ⟨a, x, rfl, _⟩
  · simp at hk
  · exact h
  · simp at hk
theorem Hist.works {ns : List Nd} {D : Nat → Nat → Int} {R W : Nat} {gs : List Gv} {p : PSt} {st : RSt} (h : Hist ns D R W gs p st) : lV st.evs 1 = qD (fun n => qD (fun e => qD (fun s => (uR st.evs n e s).length) R) 6) ns.length := by
  unfold lV
  rw [vQ (·.node) (N := ns.length) st.evs (fun y hy hk => by obtain ⟨a, n, i, e, s, v, rfl, _, hn, _⟩ := (h.ev y hy).work hk; exact ⟨n, hn, rfl⟩)]
  refine kV fun n hn => ?_
  rw [vQ (·.epoch) (N := 6) st.evs (fun y hy hk => by
    rw [Bool.and_eq_true] at hk
    obtain ⟨a, n, i, e, s, v, rfl, _, _, he, _⟩ := (h.ev y hy).work hk.1; exact ⟨e, he, rfl⟩)]
  refine kV fun e he => ?_
  rw [vQ (·.round) (N := R) st.evs (fun y hy hk => by
    rw [Bool.and_eq_true, Bool.and_eq_true] at hk
    obtain ⟨a, n, i, e, s, v, rfl, _, _, _, hs, _⟩ := (h.ev y hy).work hk.1.1; exact ⟨s, hs, rfl⟩)]
  refine kV fun s hs => ?_
  unfold uR wkF
  rw [List.length_map]
  congr 1
  refine List.filter_congr fun y _ => ?_
  simp only [Bool.and_assoc]
theorem Hist.notes {ns : List Nd} {D : Nat → Nat → Int} {R W : Nat} {gs : List Gv} {p : PSt} {st : RSt} (h : Hist ns D R W gs p st) : lV st.evs 2 = qD (fun n => qD (fun e => qD (fun s => qD (fun w => nG st.evs w n e s) W) R) 6) ns.length := by
  unfold lV
  rw [vQ (·.node) (N := ns.length) st.evs (fun y hy hk => by obtain ⟨a, n, e, s, rfl, _, hn, _⟩ := (h.ev y hy).note hk; exact ⟨n, hn, rfl⟩)]
  refine kV fun n hn => ?_
  rw [vQ (·.epoch) (N := 6) st.evs (fun y hy hk => by
    rw [Bool.and_eq_true] at hk
    obtain ⟨a, n, e, s, rfl, _, _, he, _⟩ := (h.ev y hy).note hk.1; exact ⟨e, he, rfl⟩)]
  refine kV fun e he => ?_
  rw [vQ (·.round) (N := R) st.evs (fun y hy hk => by
    rw [Bool.and_eq_true, Bool.and_eq_true] at hk
    obtain ⟨a, n, e, s, rfl, _, _, _, hs, _⟩ := (h.ev y hy).note hk.1.1; exact ⟨s, hs, rfl⟩)]
  refine kV fun s hs => ?_
  rw [vQ (·.worker) (N := W) st.evs (fun y hy hk => by
    rw [Bool.and_eq_true, Bool.and_eq_true, Bool.and_eq_true] at hk
    obtain ⟨a, n, e, s, rfl, ha, _⟩ := (h.ev y hy).note hk.1.1.1; exact ⟨a, ha, rfl⟩)]
  refine kV fun w hw => ?_
  unfold nG ntF
  congr 1
  refine List.filter_congr fun y _ => ?_
  cases y.kind == 2 <;> cases y.worker == (w : Int) <;> cases y.node == (n : Int) <;> cases y.epoch == (e : Int) <;> cases y.round == (s : Int) <;> rfl
theorem kd_all {ns : List Nd} {R W : Nat} : ∀ (evs : List Ev), (∀ y ∈ evs, EvOk ns R W y) → evs.length = lV evs 1 + lV evs 2 + lV evs 3
  | [], _ => rfl
  | y :: l, h => by
    have ih := kd_all l (fun z hz => h z (by simp [hz]))
    unfold lV at ih ⊢
    have h0 : (y.kind = 1 ∨ y.kind = 2) ∨ y.kind = 3 := by
      rcases h y (by simp) with ⟨a, n, i, e, s, v, rfl, _⟩ | ⟨a, n, e, s, rfl, _⟩ | ⟨a, x, rfl, _⟩ <;> simp
    rw [List.length_cons, List.filter_cons, List.filter_cons, List.filter_cons]
    rcases h0 with (h0 | h0) | h0 <;> rw [h0] <;> simp <;> omega
theorem mails_all {ns : List Nd} {R W k : Nat} {st : RSt} (h : Inv ns R W st k) : st.mails.length = qD (fun n => qD (fun e => qD (fun s => (lD st.mails n e s).length) R) 6) ns.length := by
  have hm : ∀ m ∈ st.mails, ∃ n e s : Nat, m.node = n ∧ n < ns.length ∧ m.epoch = e ∧ e < 6 ∧ m.round = s ∧ s < R := fun m hm => by
    obtain ⟨j, hj, e1⟩ := List.getElem_of_mem hm
    obtain ⟨a, n, e, s, _, _, b1, b2, _, b3, b4, b5, b6, _⟩ := h.mo j hj
    rw [show rS st.mails j = m by rw [← e1]; simp [rS, List.getD, List.getElem?_eq_getElem hj]] at b1 b3 b5
    exact ⟨n, e, s, b1, b2, b3, b4, b5, b6⟩
  have e0 : st.mails.length = (st.mails.filter fun _ => true).length := by rw [List.filter_eq_self.2 (fun _ _ => rfl)]
  rw [e0, vQ (·.node) (N := ns.length) st.mails (fun y hy hk => by obtain ⟨n, e, s, g1, g2, _⟩ := hm y hy; exact ⟨n, g2, g1⟩)]
  refine kV fun n hn => ?_
  rw [vQ (·.epoch) (N := 6) st.mails (fun y hy hk => by obtain ⟨n, e, s, _, _, g1, g2, _⟩ := hm y hy; exact ⟨e, g2, g1⟩)]
  refine kV fun e he => ?_
  rw [vQ (·.round) (N := R) st.mails (fun y hy hk => by obtain ⟨n, e, s, _, _, _, _, g1, g2⟩ := hm y hy; exact ⟨s, g2, g1⟩)]
  refine kV fun s hs => ?_
  unfold lD mlF
  rw [List.length_map]
  congr 1
  refine List.filter_congr fun y _ => ?_
  simp only [Bool.true_and, Bool.and_assoc]
theorem Hist.wk_le {ns : List Nd} {D : Nat → Nat → Int} {R W : Nat} {gs : List Gv} {p : PSt} {st : RSt} (h : Hist ns D R W gs p st) (n e s : Nat) : (uR st.evs n e s).length ≤ (lD st.mails n e s).length := by
  rw [← (h.gn n e s).length_eq]
  unfold gnV lD
  rw [List.length_map, List.length_map, ← List.filter_filter]
  exact List.length_filter_le _ _
theorem fK (xs : List Int) (v q : Int) : ∀ m : Nat, (kD (xs ++ [v]) q m).length ≤ (kD xs q m).length + (if v % q < m then 1 else 0)
  | 0 => by simp [kD]
  | m + 1 => by
    have ih := fK xs v q m
    have h1 := (gsum_snoc xs v q m).2
    rw [kD, kD]
    by_cases e : v % q = m
    · have h2 : kG (xs ++ [v]) q m (xs ++ [v]).length = true := by rw [h1]; simp [e]
      rw [if_neg (by omega)] at ih
      have h3 : (if v % q < ((m + 1 : Nat) : Int) then 1 else 0) = 1 := if_pos (by omega)
      rw [if_pos h2, h3]
      split <;> simp <;> omega
    · have h2 : kG (xs ++ [v]) q m (xs ++ [v]).length = kG xs q m xs.length := by rw [h1]; simp [e]
      have : (if v % q < ((m + 1 : Nat) : Int) then 1 else 0) = if v % q < (m : Int) then 1 else 0 := by
        by_cases h2 : v % q < (m : Int)
        · rw [if_pos h2, if_pos (by omega)]
        · rw [if_neg h2, if_neg (by omega)]
      rw [this, h2]
      cases kG xs q m xs.length <;> simp <;> omega
theorem cZ {α : Type} {P : List α → Prop} (h0 : P []) (h1 : ∀ l v, P l → P (l ++ [v])) (l : List α) : P l := by
  have : ∀ k (l : List α), l.length = k → P l := by
    intro k
    induction k with
    | zero => intro l hl; rw [List.eq_nil_of_length_eq_zero hl]; exact h0
    | succ k ih =>
      intro l hl
      have hne : l ≠ [] := fun e => by rw [e] at hl; simp at hl
      rw [← List.dropLast_concat_getLast hne]
      exact h1 _ _ (ih _ (by rw [List.length_dropLast]; omega))
  exact this _ l rfl
theorem grp_len (q : Int) (m : Nat) (xs : List Int) : (kD xs q m).length ≤ xs.length := by
  refine cZ (P := fun xs => (kD xs q m).length ≤ xs.length) ?_ (fun l v ih => ?_) xs
  · have : ∀ m, kD [] q m = [] := by
      intro m
      induction m with
      | zero => rfl
      | succ m ih => rw [kD, ih]; rfl
    rw [this]; exact Nat.le_refl _
  · have := fK l v q m
    rw [List.length_append, List.length_singleton]
    split at this <;> omega
theorem smV_len {ns : List Nd} {evs : List Ev} {n e s : Nat} : ∀ K, (smV ns evs n e s K).length ≤ qD (fun w => (lL evs w n e s).length) K
  | 0 => Nat.le_refl _
  | K + 1 => by
    have := smV_len (ns := ns) (evs := evs) (n := n) (e := e) (s := s) K
    rw [smV, qD, List.length_append]
    split
    · simp; omega
    · have := grp_len (qV ns n).k (qV ns n).k.toNat (lL evs K n e s); omega
theorem Hist.wkO_all {ns : List Nd} {D : Nat → Nat → Int} {R W : Nat} {gs : List Gv} {p : PSt} {st : RSt} (h : Hist ns D R W gs p st) (n e s : Nat) : (uR st.evs n e s).length = qD (fun w => (lL st.evs w n e s).length) W := by
  unfold uR
  rw [List.length_map, vQ (·.worker) (N := W) st.evs (fun y hy hk => by
    unfold wkF at hk
    rw [Bool.and_eq_true] at hk
    obtain ⟨a, n, i, e, s, v, rfl, ha, _⟩ := (h.ev y hy).work hk.1; exact ⟨a, ha, rfl⟩)]
  refine kV fun w hw => ?_
  unfold lL
  rw [List.length_map]
  congr 1
  exact List.filter_congr fun y _ => Bool.and_comm _ _
end Go.Proofs.Ytfemleimkbjehaa
