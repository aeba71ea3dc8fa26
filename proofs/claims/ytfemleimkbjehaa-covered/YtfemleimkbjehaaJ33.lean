import Derived.Test.YtfemleimkbjehaaJ32
set_option maxRecDepth 1000000
set_option maxHeartbeats 40000000
set_option linter.unusedVariables false
set_option linter.unusedSimpArgs false
namespace Go.Proofs.Ytfemleimkbjehaa
open Go.RowKit
set_option maxHeartbeats 1000000 in
theorem Hist.note {ns : List Nd} {r : Int} {q : List Int} {D : Nat → Nat → Int} {R W : Nat} {gs : List Gv} {p p' : PSt} {st : RSt} {a n e s : Nat} (hG : Good ns r q) (h : Hist ns D R W gs p st) (hs : Stp ns D W p p')
    (ha : a < W) (hn : n < ns.length) (h6 : e < 6) (h4 : s < R) (hk : (qV ns n).kind = 6) (hw : jR st.evs a n e s st.evs.length ≠ []) (hz : Zero ns D W p' n e s) :
    Hist ns D R W gs p' (doS ns R W st ⟨2, a, n, 0, e, s, 0⟩) := by
  have e0 : doS ns R W st ⟨2, a, n, 0, e, s, 0⟩ = { noteS ns W st a n e s with evs := st.evs ++ [⟨2, a, n, 0, e, s, 0⟩] } := by
    unfold doS doneS
    rw [if_neg (by simp), if_pos (by simp)]
    simp only [Int.toNat_natCast]
  have hold : ntC st.evs a n e s = 0 ∧ jR st.evs a n e s st.evs.length = wkO st.evs a n e s := by
    rcases h.nt a n e s ha hn h6 h4 hk with g | ⟨_, g, _, _⟩
    · exact g
    · exact absurd g hw
  rw [e0]
  have hV : ∀ n' e' s', wkV (st.evs ++ [⟨2, a, n, 0, e, s, 0⟩]) n' e' s' = wkV st.evs n' e' s' := fun n' e' s' => by
    rw [wkV_snoc, wkF_note]; simp
  have hO : ∀ w n' e' s', wkO (st.evs ++ [⟨2, a, n, 0, e, s, 0⟩]) w n' e' s' = wkO st.evs w n' e' s' := fun w n' e' s' => by
    rw [wkO_snoc, wkF_note]; simp
  have hC : ∀ w n' e' s', ntC (st.evs ++ [⟨2, a, n, 0, e, s, 0⟩]) w n' e' s' = ntC st.evs w n' e' s' + if a = w ∧ n = n' ∧ e = e' ∧ s = s' then 1 else 0 := fun w n' e' s' => by rw [ntC_snoc, ntF_note]; simp
  have hA : ∀ w n' e' s' : Nat, jR (st.evs ++ [⟨2, a, n, 0, e, s, 0⟩]) w n' e' s' (st.evs ++ [(⟨2, a, n, 0, e, s, 0⟩ : Ev)]).length = if a = w ∧ n = n' ∧ e = e' ∧ s = s' then [] else jR st.evs w n' e' s' st.evs.length := fun w n' e' s' => by
    rw [acTo_snoc]
    have := acM_nat 2 0 a n e s 0 w n' e' s'
    rw [show (⟨2, (a : Int), (n : Int), ((0 : Nat) : Int), (e : Int), (s : Int), 0⟩ : Ev) = ⟨2, a, n, 0, e, s, 0⟩ from rfl] at this
    rw [this]
    by_cases hh : a = w ∧ n = n' ∧ e = e' ∧ s = s'
    · rw [if_pos hh, if_pos (by simp; omega)]; simp
    · rw [if_neg hh, if_neg (by simp; omega)]
  refine ⟨fun y hy => ?_, fun m hm' => ?_, fun n' e' s' => ?_, ?_, fun w n' e' s' hw' hn' he' hs' hk' => ?_, ?_, ?_, h.ts, h.gl, h.op, h.c3, h.gi⟩
  · rcases List.mem_append.1 hy with hy | hy
    · exact h.ev y hy
    · simp at hy; subst hy; exact .inr (.inl ⟨a, n, e, s, rfl, ha, hn, h6, h4, hk⟩)
  · rcases List.mem_append.1 hm' with hm' | hm'
    · exact h.pl m hm'
    · obtain ⟨_, j, g3, _, g5⟩ := ntM_new _ m hm'
      exact ⟨j, g3, by rw [g5]; exact at_pl⟩
  · show (gnV (st.mails ++ _) n' e' s').Perm (wkV (st.evs ++ [_]) n' e' s')
    rw [gnV_app, hV, gnV_new (fun x hx => (ntM_new _ x hx).1), List.append_nil]
    exact h.gn n' e' s'
  · refine cm_step hG (n := n) (e := e) (t := s) (u := adL ns st a n e s) (ms := st.mails) (P := zF ns W gs st.evs) h.cm (fun x e' s' => rfl) ?_ ?_ ?_
    · intro x e' s' hx he' hs'
      rw [cmV_nt _ _ _ _ (Nat.le_refl _), List.take_length]
      by_cases hh : qR (qV ns x) n = true ∧ e = e' ∧ s = s'
      · rw [if_pos hh, if_pos ⟨hx, hh⟩]
      · rw [if_neg hh, if_neg (fun g => hh g.2)]
    · intro e' s' a' he' hs' ha' h7' hne
      refine put_keep (fun _ _ => hV _ _ _) (fun k4 => ?_) (fun k6 w hw => ⟨?_, hO _ _ _ _⟩)
      · cases s' with
        | zero => rfl
        | succ s' => exact hV _ _ _
      · rw [hC, if_neg (fun hh => hne ⟨hh.2.1.symm, hh.2.2⟩)]; rfl
    · intro _ _ _
      have hform : ∀ evs : List Ev, zF ns W gs evs e s n = smV ns evs n e s W := fun evs => by
        unfold zF
        rw [if_neg (by simp [hk]), if_neg (by simp [hk]), if_pos (by simp [hk])]
      rw [hform, hform]
      unfold adL
      rw [hold.2]
      exact smV_note hold.1 (by rw [hC, if_pos ⟨rfl, rfl, rfl, rfl⟩]; omega) (fun w => hO _ _ _ _) (fun w hw => by rw [hC, if_neg (fun hh => hw hh.1.symm)]; rfl) W ha
  · show (ntC (st.evs ++ [_]) w n' e' s' = 0 ∧ jR (st.evs ++ [_]) w n' e' s' (st.evs ++ [_]).length = wkO (st.evs ++ [_]) w n' e' s') ∨ (ntC (st.evs ++ [_]) w n' e' s' = 1 ∧ jR (st.evs ++ [_]) w n' e' s' (st.evs ++ [_]).length = [] ∧ _ ∧ wkO (st.evs ++ [_]) w n' e' s' ≠ [])
    rw [hC, hA, hO]
    by_cases hh : a = w ∧ n = n' ∧ e = e' ∧ s = s'
    · obtain ⟨rfl, rfl, rfl, rfl⟩ := hh
      rw [if_pos ⟨rfl, rfl, rfl, rfl⟩, if_pos ⟨rfl, rfl, rfl, rfl⟩]
      exact .inr ⟨by rw [hold.1], rfl, hz, by rw [← hold.2]; exact hw⟩
    · rw [if_neg hh, if_neg hh]
      rcases h.nt w n' e' s' hw' hn' he' hs' hk' with g | ⟨g1, g2, g3, g4⟩
      · exact .inl g
      · exact .inr ⟨g1, g2, g3.stp hn' hs, g4⟩
  · show (st.log ++ [_]).length = st.opened.length + kdC (st.evs ++ [_]) 1 + kdC (st.evs ++ [_]) 2
    rw [xH, xH, List.length_append, h.lg]; simp; omega
  · show qL (fun a => qL (fun b => st.told a b) W) W = ((kdC (st.evs ++ [_]) 3 : Nat) : Int)
    rw [xH]; simpa using h.tl
theorem put_same {ns : List Nd} {W : Nat} {gs : List Gv} {evs : List Ev} {y : Ev} (hy : y.kind = 3) (e s : Nat) : zF ns W gs (evs ++ [y]) e s = zF ns W gs evs e s := by
  have hf : ∀ n e s, wkF n e s y = false := fun n e s => by unfold wkF; rw [hy]; rfl
  have hg : ∀ w n e s, ntF w n e s y = false := fun w n e s => by unfold ntF; rw [hy]; rfl
  funext a
  refine put_keep (fun _ _ => ?_) (fun k4 => ?_) (fun k6 w hw => ⟨?_, ?_⟩)
  · rw [wkV_snoc, hf]; simp
  · cases s with
    | zero => rfl
    | succ s' => show wkV _ _ _ _ = wkV _ _ _ _; rw [wkV_snoc, hf]; simp
  · rw [ntC_snoc, hg]; rfl
  · rw [wkO_snoc, hf]; simp
theorem sumTo_told {W a b : Nat} (ha : a < W) (hb : b < W) (f : Nat → Nat → Int) : qL (fun i => qL (fun j => zZ f a b i j) W) W = qL (fun i => qL (fun j => f i j) W) W + 1 := by
  refine jG ha fun i hi => ?_
  by_cases e : i = a
  · subst e
    rw [if_pos rfl]
    refine jG hb fun j hj => ?_
    unfold zZ
    by_cases e2 : j = b
    · subst e2; rw [if_pos ⟨rfl, rfl⟩, if_pos rfl]
    · rw [if_neg (fun h => e2 h.2), if_neg e2, Int.add_zero]
  · rw [if_neg e, Int.add_zero]
    exact kP fun j hj => by unfold zZ; rw [if_neg (fun h => e h.1)]
theorem Hist.tell {ns : List Nd} {D : Nat → Nat → Int} {R W : Nat} {gs : List Gv} {p p' : PSt} {st : RSt} {a x : Nat} (h : Hist ns D R W gs p st) (hs : Stp ns D W p p') (ha : a < W) (hx : x < W) (hax : a ≠ x) :
    Hist ns D R W gs p' (doS ns R W st ⟨3, a, 0, x, 0, 0, 0⟩) := by
  have e0 : doS ns R W st ⟨3, a, 0, x, 0, 0, 0⟩ = { st with told := zZ st.told a x, evs := st.evs ++ [⟨3, a, 0, x, 0, 0, 0⟩] } := rfl
  rw [e0]
  have hf : ∀ n e s, wkF n e s ⟨3, a, 0, x, 0, 0, 0⟩ = false := fun n e s => rfl
  refine ⟨fun y hy => ?_, h.pl, fun n' e' s' => ?_, fun x' e' s' hx' he' hs' hk' => ?_, fun w n' e' s' hw' hn' he' hs' hk' => ?_, ?_, ?_, fun b => ?_, h.gl, h.op, h.c3, h.gi⟩
  · rcases List.mem_append.1 hy with hy | hy
    · exact h.ev y hy
    · simp at hy; subst hy; exact .inr (.inr ⟨a, x, rfl, ha, hx, hax⟩)
  · show (gnV st.mails n' e' s').Perm (wkV (st.evs ++ [_]) n' e' s')
    rw [wkV_snoc, hf]; simpa using h.gn n' e' s'
  · show (cmV st.mails x' e' s').Perm (kK _ (zF ns W gs (st.evs ++ [_]) e' s'))
    rw [put_same rfl]
    exact h.cm x' e' s' hx' he' hs' hk'
  · show (ntC (st.evs ++ [_]) w n' e' s' = 0 ∧ jR (st.evs ++ [_]) w n' e' s' (st.evs ++ [_]).length = wkO (st.evs ++ [_]) w n' e' s') ∨ (ntC (st.evs ++ [_]) w n' e' s' = 1 ∧ jR (st.evs ++ [_]) w n' e' s' (st.evs ++ [_]).length = [] ∧ _ ∧ wkO (st.evs ++ [_]) w n' e' s' ≠ [])
    have hA : ∀ w n' e' s' : Nat, jR (st.evs ++ [⟨3, a, 0, x, 0, 0, 0⟩]) w n' e' s' (st.evs ++ [(⟨3, a, 0, x, 0, 0, 0⟩ : Ev)]).length = jR st.evs w n' e' s' st.evs.length := fun w n' e' s' => by
      rw [acTo_snoc]; split <;> simp
    rw [hA, ntC_snoc, wkO_snoc, hf, ntF_tell]
    simp only [Bool.and_false, Bool.false_eq_true, if_false, List.append_nil, Nat.add_zero]
    rcases h.nt w n' e' s' hw' hn' he' hs' hk' with g | ⟨g1, g2, g3, g4⟩
    · exact .inl g
    · exact .inr ⟨g1, g2, g3.stp hn' hs, g4⟩
  · show st.log.length = st.opened.length + kdC (st.evs ++ [_]) 1 + kdC (st.evs ++ [_]) 2
    rw [xH, xH, h.lg]; rfl
  · show qL (fun i => qL (fun j => zZ st.told a x i j) W) W = ((kdC (st.evs ++ [_]) 3 : Nat) : Int)
    rw [xH, sumTo_told ha hx, h.tl]; simp
  · show zZ st.told a x b b = 0
    unfold zZ
    rw [if_neg (fun hh => hax (hh.1.symm.trans hh.2))]
    exact h.ts b
theorem srcTo_app (gs : List Gv) (g : Gv) (n e s : Nat) : ∀ k, k ≤ gs.length → zY (gs ++ [g]) n e s k = zY gs n e s k
  | 0, _ => rfl
  | k + 1, hk => by
    have e1 : srcB (gs ++ [g]) n e s k = srcB gs n e s k := by unfold srcB; rw [gvn_app (by omega)]
    rw [zY, zY, srcTo_app gs g n e s k (by omega), e1, gvn_app (by omega)]
theorem srcL_snoc (gs : List Gv) (g : Gv) (n e s : Nat) : srcL (gs ++ [g]) n e s = srcL gs n e s ++ (if (s == 0) && (g.node == (n : Int)) && (g.epoch == (e : Int)) then [g.value] else []) := by
  unfold srcL
  rw [List.length_append, List.length_singleton, zY, srcTo_app gs g n e s _ (Nat.le_refl _)]
  unfold srcB
  rw [gvn_last]
  split <;> simp
theorem putV_src {ns : List Nd} {W : Nat} {gs : List Gv} {evs : List Ev} {e s a : Nat} (h0 : (qV ns a).kind = 0) : zF ns W gs evs e s a = srcL gs a e s := by
  unfold zF; rw [if_pos (by simp [h0])]
theorem putV_nsrc {ns : List Nd} {W : Nat} {gs gs' : List Gv} {evs : List Ev} {e s a : Nat} (h0 : (qV ns a).kind ≠ 0) : zF ns W gs' evs e s a = zF ns W gs evs e s a := by
  have e0 : ((qV ns a).kind == 0) = false := by simpa using h0
  unfold zF; rw [e0]; rfl
theorem Hist.give {ns : List Nd} {r : Int} {q : List Int} {D : Nat → Nat → Int} {R W : Nat} {gs : List Gv} {p p' : PSt} {st : RSt} {i m e : Nat} {v : Int} (hG : Good ns r q) (h : Hist ns D R W gs p st) (hs : Stp ns D W p p') (hm : m < ns.length) (hk : (qV ns m).kind = 0) (h6 : e < 6) (hv : I64 v) :
    Hist ns D R W (gs ++ [⟨m, e, v⟩]) p' (yU ns W st i m v e) := by
  refine ⟨h.ev, fun y hy => ?_, fun n' e' s' => ?_, ?_, fun w n' e' s' hw' hn' he' hs' hk' => ?_, ?_, h.tl, h.ts, ?_, ?_, fun a b => ?_, fun g hg => ?_⟩
  · rcases List.mem_append.1 hy with hy | hy
    · exact h.pl y hy
    · obtain ⟨_, g2, j, g3, _, g5⟩ := putM_new _ y hy
      exact ⟨j, g3, by rw [g5, g2]; exact at_pl⟩
  · show (gnV (st.mails ++ _) n' e' s').Perm _
    rw [gnV_app, gnV_new (fun x hx => (putM_new _ x hx).1), List.append_nil]
    exact h.gn n' e' s'
  · refine cm_step hG (n := m) (e := e) (t := 0) (u := [v]) (ms := st.mails) (P := zF ns W gs st.evs) (P' := zF ns W (gs ++ [⟨m, e, v⟩]) st.evs) h.cm (fun x e' s' => rfl) ?_ ?_ ?_
    · intro x e' s' hx he' hs'
      rw [cmV_put (e := e) (s := 0) rfl rfl]
      by_cases hh : qR (qV ns x) m = true ∧ e = e' ∧ 0 = s'
      · rw [if_pos hh, if_pos ⟨hx, hh⟩]
      · rw [if_neg hh, if_neg (fun g => hh g.2)]
    · intro e' s' a' he' hs' ha' h7' hne
      by_cases h0 : (qV ns a').kind = 0
      · rw [putV_src h0, putV_src h0, srcL_snoc, if_neg (by simp; omega), List.append_nil]
      · exact putV_nsrc h0
    · intro _ _ _
      rw [putV_src hk, putV_src hk, srcL_snoc, if_pos (by simp)]
  · rcases h.nt w n' e' s' hw' hn' he' hs' hk' with g | ⟨g1, g2, g3, g4⟩
    · exact .inl g
    · exact .inr ⟨g1, g2, g3.stp hn' hs, g4⟩
  · show (st.log ++ [_]).length = (st.opened ++ [_]).length + kdC st.evs 1 + kdC st.evs 2
    rw [List.length_append, List.length_append, h.lg]; simp; omega
  · show (gs ++ [_]).length = jH (st.opened ++ [⟨m, i, 1⟩]) (st.opened ++ [(⟨m, i, 1⟩ : Gv)]).length
    rw [vZ, List.length_append, h.gl]; simp
  · show (st.opened ++ [(⟨m, i, 1⟩ : Gv)]).length = jH (st.opened ++ [⟨m, i, 1⟩]) (st.opened ++ [(⟨m, i, 1⟩ : Gv)]).length + kQ (fun a => kQ (fun b => qB (st.opened ++ [⟨m, i, 1⟩]) a b 2 (st.opened ++ [(⟨m, i, 1⟩ : Gv)]).length + qB (st.opened ++ [⟨m, i, 1⟩]) a b 3 (st.opened ++ [(⟨m, i, 1⟩ : Gv)]).length) ns.length) W
    rw [vZ, kX (g := fun a => kQ (fun b => qB st.opened a b 2 st.opened.length + qB st.opened a b 3 st.opened.length) ns.length) (fun a ha => kX fun b hb => by rw [jY, jY]; simp), List.length_append]
    have := h.op
    simp; omega
  · show qB (st.opened ++ [⟨m, i, 1⟩]) a b 3 (st.opened ++ [(⟨m, i, 1⟩ : Gv)]).length ≤ 1
    rw [jY]
    have := h.c3 a b
    simp; omega
  · rcases List.mem_append.1 hg with hg | hg
    · exact h.gi g hg
    · simp at hg; subst hg; exact ⟨⟨m, e, rfl, hm, hk, rfl, h6⟩, hv⟩
theorem Hist.quietly {ns : List Nd} {D : Nat → Nat → Int} {R W : Nat} {gs : List Gv} {p p' : PSt} {st st' : RSt} (h : Hist ns D R W gs p st) (hs : Stp ns D W p p') (h1 : st'.mails = st.mails) (h2 : st'.evs = st.evs) (h3 : st'.told = st.told) {c : Cg} {i m : Nat} {kd : Int} (h4 : st'.log = st.log ++ [c]) (h5 : st'.opened = st.opened ++ [⟨m, i, kd⟩]) (h6 : kd = 2 ∨ kd = 3) (hi : i < W) (hm : m < ns.length) (h7 : kd = 3 → qB st.opened i m 3 st.opened.length = 0) :
    Hist ns D R W gs p' st' := by
  have hd : ∀ (a b : Nat) (x : Int), qB st'.opened a b x st'.opened.length = qB st.opened a b x st.opened.length + if a = i ∧ b = m ∧ kd = x then 1 else 0 := fun a b x => by
    rw [h5, jY]
    congr 1
    by_cases hh : a = i ∧ b = m ∧ kd = x
    · rw [if_pos hh, if_pos (by simp [hh])]
    · rw [if_neg hh, if_neg (by simp; omega)]
  have hg : jH st'.opened st'.opened.length = jH st.opened st.opened.length := by
    rw [h5, vZ, if_neg (by simp; omega)]; rfl
  refine ⟨by rw [h2]; exact h.ev, by rw [h1]; exact h.pl, by rw [h1, h2]; exact h.gn, by rw [h1, h2]; exact h.cm, fun w n' e' s' hw' hn' he' hs' hk' => ?_, ?_, by rw [h2, h3]; exact h.tl, by rw [h3]; exact h.ts, ?_, ?_, fun a b => ?_, h.gi⟩
  · rw [h2]
    rcases h.nt w n' e' s' hw' hn' he' hs' hk' with g | ⟨g1, g2, g3, g4⟩
    · exact .inl g
    · exact .inr ⟨g1, g2, g3.stp hn' hs, g4⟩
  · rw [h2, h4, h5, List.length_append, List.length_append, h.lg]; simp; omega
  · rw [hg, h.gl]
  · have e1 : kQ (fun a => kQ (fun b => qB st'.opened a b 2 st'.opened.length + qB st'.opened a b 3 st'.opened.length) ns.length) W = kQ (fun a => kQ (fun b => qB st.opened a b 2 st.opened.length + qB st.opened a b 3 st.opened.length) ns.length) W + 1 := sumN_one hi fun a ha => by
      by_cases ea : a = i
      · subst ea
        rw [if_pos rfl]
        refine sumN_one hm fun b hb => ?_
        rw [hd, hd]
        by_cases eb : b = m
        · subst eb
          rw [if_pos rfl]
          rcases h6 with rfl | rfl <;> simp <;> omega
        · rw [if_neg (fun hh => eb hh.2.1), if_neg (fun hh => eb hh.2.1), if_neg eb]; omega
      · rw [if_neg ea]
        exact kX fun b hb => by rw [hd, hd, if_neg (fun hh => ea hh.1), if_neg (fun hh => ea hh.1)]; rfl
    rw [hg, e1]
    have := h.op
    rw [h5, List.length_append]; simp; omega
  · rw [hd]
    by_cases hh : a = i ∧ b = m ∧ kd = 3
    · obtain ⟨rfl, rfl, rfl⟩ := hh
      rw [h7 rfl, if_pos ⟨rfl, rfl, rfl⟩]; omega
    · rw [if_neg hh]; exact h.c3 a b
theorem Hist.beg {ns : List Nd} {r : Int} {q : List Int} (hG : Good ns r q) {D : Nat → Nat → Int} {R W : Nat} {p : PSt} : Hist ns D R W [] p rst0 := by
  refine ⟨fun y hy => by simp [rst0] at hy, fun y hy => by simp [rst0] at hy, fun n e s => by simp [rst0, gnV, wkV], fun x e s hx he hs hk => ?_, fun w n e s _ _ _ _ _ => .inl ⟨rfl, rfl⟩, rfl, ?_, fun a => rfl, rfl, ?_, fun a b => Nat.zero_le _, fun g hg => by simp at hg⟩
  · have h0 : ∀ a, zF ns W [] rst0.evs e s a = [] := fun a => by
      unfold zF
      split
      · rfl
      · split
        · cases s <;> rfl
        · split
          · exact smV_none W (fun w hw => rfl)
          · rfl
    have : kK (qV ns x) (zF ns W [] rst0.evs e s) = [] := by
      unfold kK
      rw [List.flatMap_eq_nil_iff]
      intro z _; exact h0 _
    rw [this]; exact List.Perm.refl _
  · show qL (fun _ => qL (fun _ => 0) W) W = 0
    rw [kP (g := fun _ => 0) (fun i hi => zK W), zK]
  · have : kQ (fun i => kQ (fun n => qB rst0.opened (i : Int) (n : Int) 2 rst0.opened.length + qB rst0.opened (i : Int) (n : Int) 3 rst0.opened.length) ns.length) W = 0 := sumN_zero fun i hi => sumN_zero fun n hn => rfl
    rw [this]; rfl
theorem zB {α : Type} (f : α → Int) {N : Nat} {P : α → Bool} : ∀ (l : List α), (∀ y ∈ l, P y = true → ∃ i : Nat, i < N ∧ f y = (i : Int)) → (l.filter P).length = kQ (fun i => (l.filter fun y => P y && (f y == (i : Int))).length) N
  | [], _ => by simp; exact (sumN_zero (fun i hi => rfl)).symm
  | y :: l, h => by
    have ih := zB f l (fun z hz => h z (by simp [hz]))
    cases hp : P y with
    | false =>
      rw [List.filter_cons_of_neg (by simp [hp]), ih]
      exact kX fun i hi => by rw [List.filter_cons_of_neg (by simp [hp])]
    | true =>
      obtain ⟨j, hj, e⟩ := h y (by simp) hp
      rw [List.filter_cons_of_pos hp, List.length_cons, ih]
      refine (sumN_one (j := j) (d := 1) hj fun i hi => ?_).symm
      by_cases e2 : i = j
      · subst e2; rw [List.filter_cons_of_pos (by simp [hp, e]), if_pos rfl]; rfl
      · rw [List.filter_cons_of_neg (by simp [hp, e]; omega), if_neg e2]; rfl
theorem EvOk.work {ns : List Nd} {R W : Nat} {y : Ev} (h : EvOk ns R W y) (hk : (y.kind == 1) = true) : ∃ a n i e s : Nat, ∃ v : Int, y = ⟨1, a, n, i, e, s, v⟩ ∧ a < W ∧ n < ns.length ∧ e < 6 ∧ s < R ∧ (qV ns n).kind ≠ 0 ∧ I64 v ∧ PlOk ns W n a v := by
  rcases h with h | ⟨a, n, e, s, rfl, _⟩ | ⟨a, x, rfl, _⟩
  · exact h
  · simp at hk
  · simp at hk
theorem EvOk.note {ns : List Nd} {R W : Nat} {y : Ev} (h : EvOk ns R W y) (hk : (y.kind == 2) = true) : ∃ a n e s : Nat, y = ⟨2, a, n, 0, e, s, 0⟩ ∧ a < W ∧ n < ns.length ∧ e < 6 ∧ s < R ∧ (qV ns n).kind = 6 := by
  rcases h with ⟨a, n, i, e, s, v, rfl, _⟩ | h | ⟨a, x, rfl, _⟩
  · simp at hk
  · exact h
  · simp at hk
theorem Hist.works {ns : List Nd} {D : Nat → Nat → Int} {R W : Nat} {gs : List Gv} {p : PSt} {st : RSt} (h : Hist ns D R W gs p st) : kdC st.evs 1 = kQ (fun n => kQ (fun e => kQ (fun s => (wkV st.evs n e s).length) R) 6) ns.length := by
  unfold kdC
  rw [zB (·.node) (N := ns.length) st.evs (fun y hy hk => by obtain ⟨a, n, i, e, s, v, rfl, _, hn, _⟩ := (h.ev y hy).work hk; exact ⟨n, hn, rfl⟩)]
  refine kX fun n hn => ?_
  rw [zB (·.epoch) (N := 6) st.evs (fun y hy hk => by
    rw [Bool.and_eq_true] at hk
    obtain ⟨a, n, i, e, s, v, rfl, _, _, he, _⟩ := (h.ev y hy).work hk.1; exact ⟨e, he, rfl⟩)]
  refine kX fun e he => ?_
  rw [zB (·.round) (N := R) st.evs (fun y hy hk => by
    rw [Bool.and_eq_true, Bool.and_eq_true] at hk
    obtain ⟨a, n, i, e, s, v, rfl, _, _, _, hs, _⟩ := (h.ev y hy).work hk.1.1; exact ⟨s, hs, rfl⟩)]
  refine kX fun s hs => ?_
  unfold wkV wkF
  rw [List.length_map]
  congr 1
  refine List.filter_congr fun y _ => ?_
  simp only [Bool.and_assoc]
theorem Hist.notes {ns : List Nd} {D : Nat → Nat → Int} {R W : Nat} {gs : List Gv} {p : PSt} {st : RSt} (h : Hist ns D R W gs p st) : kdC st.evs 2 = kQ (fun n => kQ (fun e => kQ (fun s => kQ (fun w => ntC st.evs w n e s) W) R) 6) ns.length := by
  unfold kdC
  rw [zB (·.node) (N := ns.length) st.evs (fun y hy hk => by obtain ⟨a, n, e, s, rfl, _, hn, _⟩ := (h.ev y hy).note hk; exact ⟨n, hn, rfl⟩)]
  refine kX fun n hn => ?_
  rw [zB (·.epoch) (N := 6) st.evs (fun y hy hk => by
    rw [Bool.and_eq_true] at hk
    obtain ⟨a, n, e, s, rfl, _, _, he, _⟩ := (h.ev y hy).note hk.1; exact ⟨e, he, rfl⟩)]
  refine kX fun e he => ?_
  rw [zB (·.round) (N := R) st.evs (fun y hy hk => by
    rw [Bool.and_eq_true, Bool.and_eq_true] at hk
    obtain ⟨a, n, e, s, rfl, _, _, _, hs, _⟩ := (h.ev y hy).note hk.1.1; exact ⟨s, hs, rfl⟩)]
  refine kX fun s hs => ?_
  rw [zB (·.worker) (N := W) st.evs (fun y hy hk => by
    rw [Bool.and_eq_true, Bool.and_eq_true, Bool.and_eq_true] at hk
    obtain ⟨a, n, e, s, rfl, ha, _⟩ := (h.ev y hy).note hk.1.1.1; exact ⟨a, ha, rfl⟩)]
  refine kX fun w hw => ?_
  unfold ntC ntF
  congr 1
  refine List.filter_congr fun y _ => ?_
  cases y.kind == 2 <;> cases y.worker == (w : Int) <;> cases y.node == (n : Int) <;> cases y.epoch == (e : Int) <;> cases y.round == (s : Int) <;> rfl
theorem kd_all {ns : List Nd} {R W : Nat} : ∀ (evs : List Ev), (∀ y ∈ evs, EvOk ns R W y) → evs.length = kdC evs 1 + kdC evs 2 + kdC evs 3
  | [], _ => rfl
  | y :: l, h => by
    have ih := kd_all l (fun z hz => h z (by simp [hz]))
    unfold kdC at ih ⊢
    have h0 : (y.kind = 1 ∨ y.kind = 2) ∨ y.kind = 3 := by
      rcases h y (by simp) with ⟨a, n, i, e, s, v, rfl, _⟩ | ⟨a, n, e, s, rfl, _⟩ | ⟨a, x, rfl, _⟩ <;> simp
    rw [List.length_cons, List.filter_cons, List.filter_cons, List.filter_cons]
    rcases h0 with (h0 | h0) | h0 <;> rw [h0] <;> simp <;> omega
theorem mails_all {ns : List Nd} {R W k : Nat} {st : RSt} (h : Inv ns R W st k) : st.mails.length = kQ (fun n => kQ (fun e => kQ (fun s => (cmV st.mails n e s).length) R) 6) ns.length := by
  have hm : ∀ m ∈ st.mails, ∃ n e s : Nat, m.node = n ∧ n < ns.length ∧ m.epoch = e ∧ e < 6 ∧ m.round = s ∧ s < R := fun m hm => by
    obtain ⟨j, hj, e1⟩ := List.getElem_of_mem hm
    obtain ⟨a, n, e, s, _, _, b1, b2, _, b3, b4, b5, b6, _⟩ := h.mo j hj
    rw [show mln st.mails j = m by rw [← e1]; simp [mln, List.getD, List.getElem?_eq_getElem hj]] at b1 b3 b5
    exact ⟨n, e, s, b1, b2, b3, b4, b5, b6⟩
  have e0 : st.mails.length = (st.mails.filter fun _ => true).length := by rw [List.filter_eq_self.2 (fun _ _ => rfl)]
  rw [e0, zB (·.node) (N := ns.length) st.mails (fun y hy hk => by obtain ⟨n, e, s, g1, g2, _⟩ := hm y hy; exact ⟨n, g2, g1⟩)]
  refine kX fun n hn => ?_
  rw [zB (·.epoch) (N := 6) st.mails (fun y hy hk => by obtain ⟨n, e, s, _, _, g1, g2, _⟩ := hm y hy; exact ⟨e, g2, g1⟩)]
  refine kX fun e he => ?_
  rw [zB (·.round) (N := R) st.mails (fun y hy hk => by obtain ⟨n, e, s, _, _, _, _, g1, g2⟩ := hm y hy; exact ⟨s, g2, g1⟩)]
  refine kX fun s hs => ?_
  unfold cmV mlF
  rw [List.length_map]
  congr 1
  refine List.filter_congr fun y _ => ?_
  simp only [Bool.true_and, Bool.and_assoc]
theorem Hist.wk_le {ns : List Nd} {D : Nat → Nat → Int} {R W : Nat} {gs : List Gv} {p : PSt} {st : RSt} (h : Hist ns D R W gs p st) (n e s : Nat) : (wkV st.evs n e s).length ≤ (cmV st.mails n e s).length := by
  rw [← (h.gn n e s).length_eq]
  unfold gnV cmV
  rw [List.length_map, List.length_map, ← List.filter_filter]
  exact List.length_filter_le _ _
theorem grp_snoc_len (xs : List Int) (v q : Int) : ∀ m : Nat, (kC (xs ++ [v]) q m).length ≤ (kC xs q m).length + (if v % q < m then 1 else 0)
  | 0 => by simp [kC]
  | m + 1 => by
    have ih := grp_snoc_len xs v q m
    have h1 := (gsum_snoc xs v q m).2
    rw [kC, kC]
    by_cases e : v % q = m
    · have h2 : kG (xs ++ [v]) q m (xs ++ [v]).length = true := by rw [h1]; simp [e]
      rw [if_neg (by omega)] at ih
      have h3 : (if v % q < ((m + 1 : Nat) : Int) then 1 else 0) = 1 := if_pos (by omega)
      rw [if_pos h2, h3]
      split <;> simp <;> omega
    · have h2 : kG (xs ++ [v]) q m (xs ++ [v]).length = kG xs q m xs.length := by rw [h1]; simp [e]
      have : (if v % q < ((m + 1 : Nat) : Int) then 1 else 0) = if v % q < (m : Int) then 1 else 0 := by
        by_cases h2 : v % q < (m : Int)
        · rw [if_pos h2, if_pos (by omega)]
        · rw [if_neg h2, if_neg (by omega)]
      rw [this, h2]
      cases kG xs q m xs.length <;> simp <;> omega
theorem list_snoc {α : Type} {P : List α → Prop} (h0 : P []) (h1 : ∀ l v, P l → P (l ++ [v])) (l : List α) : P l := by
  have : ∀ k (l : List α), l.length = k → P l := by
    intro k
    induction k with
    | zero => intro l hl; rw [List.eq_nil_of_length_eq_zero hl]; exact h0
    | succ k ih =>
      intro l hl
      have hne : l ≠ [] := fun e => by rw [e] at hl; simp at hl
      rw [← List.dropLast_concat_getLast hne]
      exact h1 _ _ (ih _ (by rw [List.length_dropLast]; omega))
  exact this _ l rfl
theorem grp_len (q : Int) (m : Nat) (xs : List Int) : (kC xs q m).length ≤ xs.length := by
  refine list_snoc (P := fun xs => (kC xs q m).length ≤ xs.length) ?_ (fun l v ih => ?_) xs
  · have : ∀ m, kC [] q m = [] := by
      intro m
      induction m with
      | zero => rfl
      | succ m ih => rw [kC, ih]; rfl
    rw [this]; exact Nat.le_refl _
  · have := grp_snoc_len l v q m
    rw [List.length_append, List.length_singleton]
    split at this <;> omega
theorem smV_len {ns : List Nd} {evs : List Ev} {n e s : Nat} : ∀ K, (smV ns evs n e s K).length ≤ kQ (fun w => (wkO evs w n e s).length) K
  | 0 => Nat.le_refl _
  | K + 1 => by
    have := smV_len (ns := ns) (evs := evs) (n := n) (e := e) (s := s) K
    rw [smV, kQ, List.length_append]
    split
    · simp; omega
    · have := grp_len (qV ns n).k (qV ns n).k.toNat (wkO evs K n e s); omega
theorem Hist.wkO_all {ns : List Nd} {D : Nat → Nat → Int} {R W : Nat} {gs : List Gv} {p : PSt} {st : RSt} (h : Hist ns D R W gs p st) (n e s : Nat) : (wkV st.evs n e s).length = kQ (fun w => (wkO st.evs w n e s).length) W := by
  unfold wkV
  rw [List.length_map, zB (·.worker) (N := W) st.evs (fun y hy hk => by
    unfold wkF at hk
    rw [Bool.and_eq_true] at hk
    obtain ⟨a, n, i, e, s, v, rfl, ha, _⟩ := (h.ev y hy).work hk.1; exact ⟨a, ha, rfl⟩)]
  refine kX fun w hw => ?_
  unfold wkO
  rw [List.length_map]
  congr 1
  exact List.filter_congr fun y _ => Bool.and_comm _ _
end Go.Proofs.Ytfemleimkbjehaa
