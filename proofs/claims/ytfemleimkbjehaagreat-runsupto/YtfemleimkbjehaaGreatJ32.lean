import Derived.Test.YtfemleimkbjehaaGreatJ31
set_option maxRecDepth 1000000
set_option maxHeartbeats 40000000
set_option linter.unusedVariables false
set_option linter.unusedSimpArgs false
namespace Go.Proofs.YtfemleimkbjehaaGreat
open Go.RowKit
theorem giveE_zero {ns : List Nd} {W : Nat} {op : List Gv} {w n : Int} (hE : giveE ns W op w n = 0) : kS ns W op w n = 0 ∧ kG op op.length < 20 := by
  unfold giveE at hE
  split at hE
  · rename_i h; simp at h; exact absurd hE h
  · rename_i h
    split at hE
    · cases hE
    · rename_i h2; exact ⟨by simpa using h, by simpa using h2⟩
theorem advE_zero {ns : List Nd} {W : Nat} {op : List Gv} {w n : Int} (hE : advE ns W op w n = 0) : kS ns W op w n = 0 ∧ qC op w n 2 op.length < 5 := by
  unfold advE at hE
  split at hE
  · rename_i h; simp at h; exact absurd hE h
  · rename_i h
    split at hE
    · cases hE
    · rename_i h2; exact ⟨by simpa using h, by simpa using h2⟩
theorem Sim.at {ns : List Nd} {W : Nat} {p : PSt} {st : RSt} (h : Sim ns W p st) {w n : Int} (h0 : kS ns W st.opened w n = 0) : ∃ i m : Nat, w = i ∧ n = m ∧ i < W ∧ m < ns.length := psrcE_zero (cl := p.cl) (by rw [psrcE_eq h]; exact h0)
theorem Sim.gave {ns : List Nd} {R W : Nat} {p : PSt} {st : RSt} {k : Nat} (h : Sim ns W p st) (hi : Inv ns R W st k) (wk n v : Int) : Sim ns W (uJ ns W p wk n v) (xG ns W st wk n v) := by
  by_cases hE : giveE ns W st.opened wk n = 0
  · obtain ⟨i, m, rfl, rfl, hiW, hm⟩ := h.at (giveE_zero hE).1
    have e1 : uJ ns W p i m v = pgiveSt ns W p i m v := by unfold uJ; rw [pgiveE_eq h, hE]; rfl
    have e2 : xG ns W st i m v = yS ns W st i m v (qC st.opened i m 2 st.opened.length) := by unfold xG; rw [hE]; rfl
    rw [e1, e2]
    have hwt : p.wt = fun (a b : Nat) => jQ st.mails a b := by funext a b; exact h.wt a b
    obtain ⟨c1, c2⟩ := h.change hi hiW (p1 := pgiveSt ns W p i m v) (st1 := yS ns W st i m v (qC st.opened i m 2 st.opened.length)) (q := jR ns m ⟨(qC st.opened i m 2 st.opened.length : Nat), 0, v⟩ ns.length) ⟨by simp only [pgiveSt, h.ep], by simp only [pgiveSt, h.ep]⟩ ⟨rfl, rfl⟩
    refine ⟨fun a b => ?_, fun a b => ?_, fun a b => ?_, h.lb, h.lbn, h.wn, h.gs, c1, c2, ?_, h.rc⟩
    · simp only [pgiveSt, yS, h.ep]; rw [zC]; simp
    · refine (h.cl a b).trans (decide_eq_decide.2 ?_)
      simp only [yS]; rw [zC]; simp
    · simp only [pgiveSt, yS, h.ep]
      rw [waitL_put ns W i hiW m _ st.mails ns.length a b, hwt]
    · simp only [pgiveSt, yS, h.gv]; rw [xQ]; simp
  · have e1 : uJ ns W p wk n v = p := by unfold uJ; rw [pgiveE_eq h, if_neg (by simpa using hE)]
    have e2 : xG ns W st wk n v = st := by unfold xG; rw [if_neg (by simpa using hE)]
    rw [e1, e2]; exact h
theorem ne_of {a i b m : Nat} (e : ¬ (a = i ∧ b = m)) (x y : Int) : ((i : Int) == (a : Int) && ((m : Int) == (b : Int)) && (x == y)) = false := by
  rw [Bool.eq_false_iff]; intro h; simp at h; omega
theorem Sim.advanced {ns : List Nd} {R W : Nat} {p : PSt} {st : RSt} {k : Nat} (h : Sim ns W p st) (hi : Inv ns R W st k) (wk n : Int) : Sim ns W (padvS ns W p wk n) (advS ns W st wk n) := by
  by_cases hE : advE ns W st.opened wk n = 0
  · obtain ⟨i, m, rfl, rfl, hiW, hm⟩ := h.at (advE_zero hE).1
    have e1 : padvS ns W p i m = padvSt W p i m := by unfold padvS; rw [padvE_eq h, hE]; rfl
    have e2 : advS ns W st i m = advSt st i m (qC st.opened i m 2 st.opened.length) := by unfold advS; rw [hE]; rfl
    rw [e1, e2]
    obtain ⟨c1, c2⟩ := h.change hi hiW (p1 := padvSt W p i m) (st1 := advSt st i m (qC st.opened i m 2 st.opened.length)) (q := [⟨m, true, (qC st.opened i m 2 st.opened.length : Nat), 0, -1⟩, ⟨m, true, (qC st.opened i m 2 st.opened.length : Nat) + 1, 0, 1⟩]) ⟨by simp only [padvSt, h.ep]; rfl, by simp only [padvSt, h.ep]⟩ ⟨rfl, rfl⟩
    refine ⟨fun a b => ?_, fun a b => ?_, h.wt, h.lb, h.lbn, h.wn, h.gs, c1, c2, ?_, h.rc⟩
    · simp only [padvSt, advSt]
      rw [zC]
      unfold kF
      by_cases e : a = i ∧ b = m
      · obtain ⟨rfl, rfl⟩ := e; simp [h.ep]
      · rw [if_neg e, h.ep, ne_of e]; simp
    · refine (h.cl a b).trans (decide_eq_decide.2 ?_)
      simp only [advSt]; rw [zC]; simp
    · simp only [padvSt, advSt, h.gv]; rw [xQ]; simp
  · have e1 : padvS ns W p wk n = p := by unfold padvS; rw [padvE_eq h, if_neg (by simpa using hE)]
    have e2 : advS ns W st wk n = st := by unfold advS; rw [if_neg (by simpa using hE)]
    rw [e1, e2]; exact h
theorem Sim.closed {ns : List Nd} {R W : Nat} {p : PSt} {st : RSt} {k : Nat} (h : Sim ns W p st) (hi : Inv ns R W st k) (wk n : Int) : Sim ns W (pclsS ns W p wk n) (clsS ns W st wk n) := by
  by_cases hE : kS ns W st.opened wk n = 0
  · obtain ⟨i, m, rfl, rfl, hiW, hm⟩ := h.at hE
    have e1 : pclsS ns W p i m = pclsSt W p i m := by unfold pclsS; rw [psrcE_eq h, hE]; rfl
    have e2 : clsS ns W st i m = clsSt st i m (qC st.opened i m 2 st.opened.length) := by unfold clsS; rw [hE]; rfl
    rw [e1, e2]
    obtain ⟨c1, c2⟩ := h.change hi hiW (p1 := pclsSt W p i m) (st1 := clsSt st i m (qC st.opened i m 2 st.opened.length)) (q := [⟨m, true, (qC st.opened i m 2 st.opened.length : Nat), 0, -1⟩]) ⟨by simp only [pclsSt, h.ep]; rfl, by simp only [pclsSt, h.ep]⟩ ⟨rfl, rfl⟩
    refine ⟨fun a b => ?_, fun a b => ?_, h.wt, h.lb, h.lbn, h.wn, h.gs, c1, c2, ?_, h.rc⟩
    · simp only [pclsSt, clsSt, h.ep]; rw [zC]; simp
    · have hd := zC st.opened ⟨(m : Int), (i : Int), 3⟩ a b 3
      simp only [pclsSt]
      unfold kF
      by_cases e : a = i ∧ b = m
      · obtain ⟨rfl, rfl⟩ := e
        rw [if_pos ⟨rfl, rfl⟩]
        refine (decide_eq_true ?_).symm
        simp only [clsSt]
        rw [hd]; simp
      · rw [if_neg e]
        refine (h.cl a b).trans (decide_eq_decide.2 ?_)
        simp only [clsSt]
        rw [hd, ne_of e]; simp
    · simp only [pclsSt, clsSt, h.gv]; rw [xQ]; simp
  · have e1 : pclsS ns W p wk n = p := by unfold pclsS; rw [psrcE_eq h, if_neg (by simpa using hE)]
    have e2 : clsS ns W st wk n = st := by unfold clsS; rw [if_neg (by simpa using hE)]
    rw [e1, e2]; exact h
theorem cg_snoc {ns : List Nd} {R W : Nat} {cs : List Cg} {c : Cg} (h : ∀ i, i < cs.length → CgOk ns.length R W (jF cs i) ∧ (jF cs i).pts.length ≤ 100) (hc : CgOk ns.length R W c ∧ c.pts.length ≤ 100) : ∀ i, i < (cs ++ [c]).length → CgOk ns.length R W (jF (cs ++ [c]) i) ∧ (jF (cs ++ [c]) i).pts.length ≤ 100 := by
  intro i hi
  by_cases h1 : i < cs.length
  · rw [cgn_app h1]; exact h i h1
  · have : i = cs.length := by simp at hi; omega
    subst this
    rw [cgn_last]; exact hc
theorem tl_snoc {cs : List Cg} {c : Cg} {W : Nat} {told : Nat → Nat → Int} (h : ∀ a b, a < W → b < W → ∃ t : Nat, told a b = t ∧ t ≤ zK cs b cs.length) : ∀ a b, a < W → b < W → ∃ t : Nat, told a b = t ∧ t ≤ zK (cs ++ [c]) b (cs ++ [c]).length := by
  intro a b ha hb
  obtain ⟨t, e, ht⟩ := h a b ha hb
  exact ⟨t, e, by rw [cnTo_snoc]; omega⟩
def MlOk (ns : List Nd) (R W : Nat) (x : Ml) : Prop := ∃ a n e s : Nat, x.worker = a ∧ a < W ∧ x.node = n ∧ n < ns.length ∧ (qT ns n).kind ≠ 0 ∧ x.epoch = e ∧ e < 6 ∧ x.round = s ∧ s < R ∧ -9223372036854775808 ≤ x.value ∧ x.value ≤ 9223372036854775807
theorem putM_ok {ns : List Nd} {R W i : Nat} {n : Int} {m : Gv} {e s : Nat} (hi : i < W) (he : m.node = e) (h6 : e < 6) (hs : m.epoch = s) (hR : s < R) (hv1 : -9223372036854775808 ≤ m.value) (hv2 : m.value ≤ 9223372036854775807) : ∀ k, k ≤ ns.length → ∀ x ∈ yC ns W i n m k, MlOk ns R W x := by
  intro k
  induction k with
  | zero => intro _ x hx; simp [yC] at hx
  | succ k ih =>
    intro hk x hx
    unfold yC at hx
    split at hx
    · rename_i ht
      rcases List.mem_append.1 hx with h | h
      · exact ih (by omega) x h
      · simp at h
        obtain ⟨h0, h1⟩ := atI_lt (ns := ns) (k := k) (v := m.value) hi
        obtain ⟨t, htt⟩ := Int.eq_ofNat_of_zero_le h0
        subst h
        refine ⟨t, k, e, s, htt, by omega, rfl, by omega, ?_, he, h6, hs, hR, hv1, hv2⟩
        intro hk0
        unfold kZ at ht
        rw [hk0] at ht
        simp at ht
    · exact ih (by omega) x hx
theorem mln_mem {l : List Ml} {j : Nat} (h : j < l.length) : xX l j ∈ l := by
  unfold xX List.getD
  rw [List.getElem?_eq_getElem h]
  exact List.getElem_mem h
theorem mo_app {ns : List Nd} {R W : Nat} {ms l : List Ml} (h : ∀ i, i < ms.length → MlOk ns R W (xX ms i)) (hl : ∀ x ∈ l, MlOk ns R W x) : ∀ i, i < (ms ++ l).length → MlOk ns R W (xX (ms ++ l) i) := by
  intro i hi
  rcases List.mem_append.1 (mln_mem hi) with h1 | h1
  · obtain ⟨j, hj, e⟩ := List.getElem_of_mem h1
    rw [← e]
    have := h j hj
    rw [show xX ms j = ms[j] by simp [xX, List.getD, List.getElem?_eq_getElem hj]] at this
    exact this
  · exact hl _ h1
theorem Inv.gave {ns : List Nd} {R W : Nat} {p : PSt} {st : RSt} {k : Nat} (h : Inv ns R W st k) (hs : Sim ns W p st) (h8 : ns.length ≤ 8) (hR : 1 ≤ R) (w n v : Int) (hv1 : -9223372036854775808 ≤ v) (hv2 : v ≤ 9223372036854775807) : Inv ns R W (xG ns W st w n v) (k + 1) := by
  by_cases hE : giveE ns W st.opened w n = 0
  · have h20 := (giveE_zero hE).2
    obtain ⟨i, m, rfl, rfl, hi, hm⟩ := hs.at (giveE_zero hE).1
    have e2 : xG ns W st i m v = yS ns W st i m v (qC st.opened i m 2 st.opened.length) := by unfold xG; rw [hE]; rfl
    rw [e2]
    have hep := h.ep i m
    have hg : kG (st.opened ++ [(⟨m, i, 1⟩ : Gv)]) (st.opened ++ [(⟨m, i, 1⟩ : Gv)]).length = kG st.opened st.opened.length + 1 := by rw [xQ]; rfl
    have hpm := putM_len ns W i m ⟨(qC st.opened i m 2 st.opened.length : Nat), 0, v⟩ ns.length
    have hpp := xY ns m ⟨(qC st.opened i m 2 st.opened.length : Nat), 0, v⟩ ns.length
    have hop := h.op
    have hlg := h.lg
    have hml := h.ml
    have hev := h.ev
    refine ⟨by simp [yS]; omega, by simp [yS]; omega, by simp [yS]; omega, ?_, ?_, fun a b => ?_, cg_snoc h.cg ⟨⟨⟨i, rfl, hi⟩, fun j hj => ?_⟩, ?_⟩, mo_app h.mo (putM_ok (s := 0) hi rfl (by omega) rfl (by omega) hv1 hv2 _ (Nat.le_refl _)), h.eo, tl_snoc h.tl⟩
    · simp only [yS]; rw [hg]; omega
    · simp only [yS]; rw [List.length_append]; omega
    · simp only [yS]
      rw [zC]
      have := h.ep a b
      simp
      exact this
    · exact putP_okG (s := 0) (Nat.le_refl _) rfl (by omega) rfl (by omega) _ (Nat.le_refl _) _ (xH hj)
    · simp only; omega
  · have e2 : xG ns W st w n v = st := by unfold xG; rw [if_neg (by simpa using hE)]
    rw [e2]; exact h.more
theorem Inv.advanced {ns : List Nd} {R W : Nat} {p : PSt} {st : RSt} {k : Nat} (h : Inv ns R W st k) (hs : Sim ns W p st) (hR : 1 ≤ R) (w n : Int) : Inv ns R W (advS ns W st w n) (k + 1) := by
  by_cases hE : advE ns W st.opened w n = 0
  · have h5 := (advE_zero hE).2
    obtain ⟨i, m, rfl, rfl, hi, hm⟩ := hs.at (advE_zero hE).1
    have e2 : advS ns W st i m = advSt st i m (qC st.opened i m 2 st.opened.length) := by unfold advS; rw [hE]; rfl
    rw [e2]
    have hop := h.op
    have hlg := h.lg
    have hml := h.ml
    have hev := h.ev
    have hg : kG (st.opened ++ [(⟨m, i, 2⟩ : Gv)]) (st.opened ++ [(⟨m, i, 2⟩ : Gv)]).length = kG st.opened st.opened.length := by rw [xQ]; rfl
    refine ⟨by simp [advSt]; omega, by simp [advSt]; omega, by simp [advSt]; omega, ?_, by simp [advSt]; omega, fun a b => ?_, cg_snoc h.cg ⟨⟨⟨i, rfl, hi⟩, fun j hj => ?_⟩, by simp⟩, h.mo, h.eo, tl_snoc h.tl⟩
    · simp only [advSt]; rw [hg]; exact h.gv
    · simp only [advSt]
      rw [zC]
      have h1 := h.ep a b
      by_cases e : a = i ∧ b = m
      · obtain ⟨rfl, rfl⟩ := e; simp; omega
      · rw [ne_of e]; simpa using h1
    · simp only [List.length_cons, List.length_nil] at hj
      match j, hj with
      | 0, _ => exact ⟨m, qC st.opened i m 2 st.opened.length, 0, rfl, hm, rfl, by omega, rfl, by omega⟩
      | 1, _ => exact ⟨m, qC st.opened i m 2 st.opened.length + 1, 0, rfl, hm, by simp [jN], by omega, rfl, by omega⟩
  · have e2 : advS ns W st w n = st := by unfold advS; rw [if_neg (by simpa using hE)]
    rw [e2]; exact h.more
theorem Inv.closed {ns : List Nd} {R W : Nat} {p : PSt} {st : RSt} {k : Nat} (h : Inv ns R W st k) (hs : Sim ns W p st) (hR : 1 ≤ R) (w n : Int) : Inv ns R W (clsS ns W st w n) (k + 1) := by
  by_cases hE : kS ns W st.opened w n = 0
  · obtain ⟨i, m, rfl, rfl, hi, hm⟩ := hs.at hE
    have e2 : clsS ns W st i m = clsSt st i m (qC st.opened i m 2 st.opened.length) := by unfold clsS; rw [hE]; rfl
    rw [e2]
    have hop := h.op
    have hlg := h.lg
    have hml := h.ml
    have hev := h.ev
    have hep := h.ep i m
    have hg : kG (st.opened ++ [(⟨m, i, 3⟩ : Gv)]) (st.opened ++ [(⟨m, i, 3⟩ : Gv)]).length = kG st.opened st.opened.length := by rw [xQ]; rfl
    refine ⟨by simp [clsSt]; omega, by simp [clsSt]; omega, by simp [clsSt]; omega, ?_, by simp [clsSt]; omega, fun a b => ?_, cg_snoc h.cg ⟨⟨⟨i, rfl, hi⟩, fun j hj => ?_⟩, by simp⟩, h.mo, h.eo, tl_snoc h.tl⟩
    · simp only [clsSt]; rw [hg]; exact h.gv
    · simp only [clsSt]
      rw [zC]
      have := h.ep a b
      simp
      exact this
    · have : j = 0 := by simpa using hj
      subst this
      exact ⟨m, qC st.opened i m 2 st.opened.length, 0, rfl, hm, rfl, by omega, rfl, by omega⟩
  · have e2 : clsS ns W st w n = st := by unfold clsS; rw [if_neg (by simpa using hE)]
    rw [e2]; exact h.more
theorem gvn_mem {l : List Gv} {j : Nat} (h : j < l.length) : vR l j ∈ l := by
  unfold vR List.getD
  rw [List.getElem?_eq_getElem h]
  exact List.getElem_mem h
def ActW (L W : Nat) (p : PSt) (y : Ev) : Prop := ∃ a n i : Nat, a < W ∧ n < L ∧ i < (p.wt a n).length ∧ y = ⟨1, a, n, i, (vR (p.wt a n) i).node, (vR (p.wt a n) i).epoch, (vR (p.wt a n) i).value⟩
def ActN (L W : Nat) (p : PSt) (frs : Nat → Nat → List Tm) (y : Ev) : Prop := ∃ a n e s : Nat, a < W ∧ n < L ∧ e < 6 ∧ s < 4 ∧ wnOf (p.tl a n) (e * 4 + s) = true ∧ zQ (frs a n) e s (frs a n).length = true ∧ y = ⟨2, a, n, 0, e, s, 0⟩
def ActT (W : Nat) (p : PSt) (y : Ev) : Prop := ∃ a x : Nat, a < W ∧ x < W ∧ (p.wy a x).length ≠ 0 ∧ y = ⟨3, a, 0, x, 0, 0, 0⟩
def ActOk (L W : Nat) (p : PSt) (frs : Nat → Nat → List Tm) (y : Ev) : Prop := ActW L W p y ∨ ActN L W p frs y ∨ ActT W p y
theorem wkTo_mem {w n : Nat} {l : List Gv} {y : Ev} : ∀ k, y ∈ wkTo w n l k → ∃ i, i < k ∧ y = ⟨1, w, n, i, (vR l i).node, (vR l i).epoch, (vR l i).value⟩ := by
  intro k
  induction k with
  | zero => intro h; simp [wkTo] at h
  | succ k ih =>
    intro h
    rw [wkTo] at h
    rcases List.mem_append.1 h with h | h
    · obtain ⟨i, a, b⟩ := ih h; exact ⟨i, by omega, b⟩
    · simp at h; exact ⟨k, by omega, h⟩
theorem wkN_mem {f : Nat → List Gv} {w : Nat} {y : Ev} : ∀ k, y ∈ wkN f w k → ∃ n i, n < k ∧ i < (f n).length ∧ y = ⟨1, w, n, i, (vR (f n) i).node, (vR (f n) i).epoch, (vR (f n) i).value⟩ := by
  intro k
  induction k with
  | zero => intro h; simp [wkN] at h
  | succ k ih =>
    intro h
    rw [wkN] at h
    rcases List.mem_append.1 h with h | h
    · obtain ⟨n, i, a, b⟩ := ih h; exact ⟨n, i, by omega, b⟩
    · obtain ⟨i, a, b⟩ := wkTo_mem _ h; exact ⟨k, i, by omega, a, b⟩
theorem tmS_mem2 {wn : Nat → Bool} {e s : Nat} : ∀ t ∈ tmS wn e s, ∃ r : Nat, t = ⟨e, r⟩ ∧ r < s ∧ wn (e * 4 + r) = true := by
  induction s with
  | zero => intro t ht; simp [tmS] at ht
  | succ s ih =>
    intro t ht
    unfold tmS at ht
    split at ht
    · rename_i hw
      rcases List.mem_append.1 ht with ht | ht
      · obtain ⟨r, e1, h1, h2⟩ := ih t ht; exact ⟨r, e1, by omega, h2⟩
      · simp at ht; exact ⟨s, ht, by omega, hw⟩
    · obtain ⟨r, e1, h1, h2⟩ := ih t ht; exact ⟨r, e1, by omega, h2⟩
theorem tmE_mem2 {wn : Nat → Bool} {k : Nat} : ∀ t ∈ tmE wn k, ∃ e r : Nat, t = ⟨e, r⟩ ∧ e < k ∧ r < 4 ∧ wn (e * 4 + r) = true := by
  induction k with
  | zero => intro t ht; simp [tmE] at ht
  | succ k ih =>
    intro t ht
    rw [tmE] at ht
    rcases List.mem_append.1 ht with ht | ht
    · obtain ⟨e, r, a, b, c⟩ := ih t ht; exact ⟨e, r, a, by omega, c⟩
    · obtain ⟨r, a, b, c⟩ := tmS_mem2 t ht; exact ⟨k, r, a, by omega, b, c⟩
theorem pnT_mem {i n : Nat} {fr ts : List Tm} {y : Ev} : ∀ k, k ≤ ts.length → y ∈ pnT i n fr ts k → ∃ t ∈ ts, zQ fr t.e.toNat t.s.toNat fr.length = true ∧ y = ⟨2, i, n, 0, t.e, t.s, 0⟩ := by
  intro k
  induction k with
  | zero => intro _ h; simp [pnT] at h
  | succ k ih =>
    intro hk h
    unfold pnT at h
    split at h
    · rename_i hf
      rcases List.mem_append.1 h with h | h
      · exact ih (by omega) h
      · simp at h; exact ⟨_, tmn_mem (show k < ts.length by omega), hf, h⟩
    · exact ih (by omega) h
theorem pnN_mem {i : Nat} {frs tms : Nat → List Tm} {y : Ev} : ∀ k, y ∈ pnN i frs tms k → ∃ n, n < k ∧ ∃ t ∈ tms n, zQ (frs n) t.e.toNat t.s.toNat (frs n).length = true ∧ y = ⟨2, i, n, 0, t.e, t.s, 0⟩ := by
  intro k
  induction k with
  | zero => intro h; simp [pnN] at h
  | succ k ih =>
    intro h
    rw [pnN] at h
    rcases List.mem_append.1 h with h | h
    · obtain ⟨n, a, b⟩ := ih h; exact ⟨n, by omega, b⟩
    · exact ⟨k, by omega, pnT_mem _ (Nat.le_refl _) h⟩
theorem ptX_mem {f : Nat → List (List Pt)} {i : Nat} {y : Ev} : ∀ k, y ∈ ptX f i k → ∃ x, x < k ∧ (f x).length ≠ 0 ∧ y = ⟨3, i, 0, x, 0, 0, 0⟩ := by
  intro k
  induction k with
  | zero => intro h; simp [ptX] at h
  | succ k ih =>
    intro h
    unfold ptX at h
    split at h
    · obtain ⟨x, a, b⟩ := ih h; exact ⟨x, by omega, b⟩
    · rename_i hl
      rcases List.mem_append.1 h with h | h
      · obtain ⟨x, a, b⟩ := ih h; exact ⟨x, by omega, b⟩
      · simp at h; exact ⟨k, by omega, hl, h⟩
theorem pacts_mem {L W : Nat} {p : PSt} {frs : Nat → Nat → List Tm} {y : Ev} : ∀ k, k ≤ W → y ∈ kR L W p frs k → ActOk L W p frs y := by
  intro k
  induction k with
  | zero => intro _ h; simp [kR] at h
  | succ k ih =>
    intro hk h
    rw [kR] at h
    rcases List.mem_append.1 h with h | h
    · exact ih (by omega) h
    · rcases List.mem_append.1 h with h | h
      · obtain ⟨n, i, a, b, c⟩ := wkN_mem _ h
        exact .inl ⟨k, n, i, by omega, a, b, c⟩
      · unfold oth at h
        rcases List.mem_append.1 h with h | h
        · obtain ⟨n, hn, t, ht, hf, e⟩ := pnN_mem _ h
          obtain ⟨e', r, rfl, h1, h2, h3⟩ := tmE_mem2 t ht
          exact .inr (.inl ⟨k, n, e', r, by omega, hn, h1, h2, h3, by simpa using hf, e⟩)
        · obtain ⟨x, a, b, c⟩ := ptX_mem _ h
          exact .inr (.inr ⟨k, x, by omega, a, b, c⟩)
theorem evn_mem {l : List Ev} {j : Nat} (h : j < l.length) : zH l j ∈ l := by
  unfold zH List.getD
  rw [List.getElem?_eq_getElem h]
  exact List.getElem_mem h
theorem acTo_high {evs : List Ev} {R : Nat} (he : ∀ i, i < evs.length → ∃ s : Nat, (zH evs i).round = s ∧ s < R) (w n e : Int) {s : Nat} (hs : R ≤ s) : ∀ k, k ≤ evs.length → jU evs w n e s k = [] := by
  intro k
  induction k with
  | zero => intro _; rfl
  | succ k ih =>
    intro hk
    have h0 : acB evs w n e s k = false := by
      obtain ⟨r, e1, h1⟩ := he k (by omega)
      unfold acB
      rw [e1]
      rw [Bool.eq_false_iff]; intro h; simp at h; omega
    rw [acTo_no h0]
    exact ih (by omega)
theorem pnT_app {i n : Nat} {fr ts us : List Tm} : ∀ k, k ≤ us.length → pnT i n fr (ts ++ us) (ts.length + k) = pnT i n fr ts ts.length ++ pnT i n fr us k := by
  have key : ∀ k, k ≤ ts.length → pnT i n fr (ts ++ us) k = pnT i n fr ts k := by
    intro k
    induction k with
    | zero => intro _; rfl
    | succ k ih =>
      intro hk
      have e : yU (ts ++ us) k = yU ts k := by simp [yU, List.getD, List.getElem?_append_left (show k < ts.length by omega)]
      rw [pnT, pnT, ih (by omega), e]
  intro k
  induction k with
  | zero => intro _; rw [Nat.add_zero, key _ (Nat.le_refl _)]; simp [pnT]
  | succ k ih =>
    intro hk
    have e : yU (ts ++ us) (ts.length + k) = yU us k := by simp [yU, List.getD, List.getElem?_append_right]
    rw [← Nat.add_assoc, pnT, pnT, ih (by omega), e]
    split <;> simp
theorem pnT_S {i n e R : Nat} {evs : List Ev} {fr : List Tm} {wn : Nat → Bool} (hw : ∀ s, s < 4 → wn (e * 4 + s) = !((jU evs i n e s evs.length).length == 0)) (hh : ∀ s, R ≤ s → s < 4 → (jU evs i n e s evs.length).length = 0) : ∀ s, s ≤ 4 → pnT i n fr (tmS wn e s) (tmS wn e s).length = waS evs fr i n e (min s R) := by
  intro s
  induction s with
  | zero => intro _; simp [tmS, pnT, waS]
  | succ s ih =>
    intro hs
    have h1 := ih (by omega)
    have hws := hw s (by omega)
    by_cases hR : s < R
    · rw [Nat.min_eq_left (by omega)] at h1 ⊢
      rw [tmS]
      by_cases hz : (jU evs i n e s evs.length).length = 0
      · have hw0 : wn (e * 4 + s) = false := by rw [hws, hz]; rfl
        have hb : waB evs fr i n e s = false := by unfold waB; rw [hz]; rfl
        rw [hw0, if_neg (by simp), waS_no hb]
        exact h1
      · have hw1 : wn (e * 4 + s) = true := by rw [hws]; simpa using hz
        rw [if_pos hw1, List.length_append]
        have := pnT_app (i := i) (n := n) (fr := fr) (ts := tmS wn e s) (us := [⟨e, s⟩]) 1 (by simp)
        rw [show [(⟨e, s⟩ : Tm)].length = 1 by rfl, this, h1]
        have e2 : pnT i n fr [⟨e, s⟩] 1 = if zQ fr e s fr.length then [⟨2, i, n, 0, e, s, 0⟩] else [] := by
          simp only [pnT, yU, List.getD, List.getElem?_cons_zero, Option.getD_some, Int.toNat_natCast, List.nil_append]
          rfl
        rw [e2]
        have hb : waB evs fr i n e s = zQ fr e s fr.length := by
          unfold waB
          rw [show ((jU evs i n e s evs.length).length == 0) = false by simpa using hz]
          rfl
        cases hf : zQ fr e s fr.length with
        | true => rw [waS_yes (hb.trans hf)]; rfl
        | false => rw [waS_no (hb.trans hf)]; simp
    · have hw0 : wn (e * 4 + s) = false := by rw [hws, hh s (by omega) (by omega)]; rfl
      rw [tmS, hw0, if_neg (by simp), h1]
      congr 1
      omega
theorem pnT_E {i n R : Nat} {evs : List Ev} {fr : List Tm} {wn : Nat → Bool} (hR : R ≤ 4) (hw : ∀ e s, e < 6 → s < 4 → wn (e * 4 + s) = !((jU evs i n e s evs.length).length == 0)) (hh : ∀ e s : Nat, R ≤ s → s < 4 → (jU evs i n e s evs.length).length = 0) : ∀ e, e ≤ 6 → pnT i n fr (tmE wn e) (tmE wn e).length = waE evs fr R i n e := by
  intro e
  induction e with
  | zero => intro _; simp [tmE, pnT, waE]
  | succ e ih =>
    intro he
    rw [tmE, waE, List.length_append, pnT_app _ (Nat.le_refl _), ih (by omega), pnT_S (R := R) (fun s hs => hw e s (by omega) hs) (fun s h1 h2 => hh e s h1 h2) 4 (Nat.le_refl _), Nat.min_eq_right hR]
theorem tmE_none {wn : Nat → Bool} (hw : ∀ e s, e < 6 → s < 4 → wn (e * 4 + s) = false) : ∀ e, e ≤ 6 → tmE wn e = [] := by
  intro e
  induction e with
  | zero => intro _; rfl
  | succ e ih =>
    intro he
    have a : ∀ s, s ≤ 4 → tmS wn e s = [] := by
      intro s
      induction s with
      | zero => intro _; rfl
      | succ s ih2 => intro hs; rw [tmS, hw e s (by omega) (by omega), ih2 (by omega)]; rfl
    rw [tmE, ih (by omega), a 4 (Nat.le_refl _)]; rfl
theorem Sim.wnOf {ns : List Nd} {W : Nat} {p : PSt} {st : RSt} (h : Sim ns W p st) (i n e s : Nat) (he : e < 6) (hs : s < 4) : wnOf (p.tl i n) (e * 4 + s) = ((qT ns n).kind == 6 && !((jU st.evs i n e s st.evs.length).length == 0)) := by
  unfold Go.Proofs.YtfemleimkbjehaaGreat.wnOf
  rw [h.wn i n e s he hs]
theorem pnN_eq {ns : List Nd} {R W : Nat} {p : PSt} {st : RSt} {k i : Nat} {frs : Nat → Nat → List Tm} (h : Sim ns W p st) (hi : Inv ns R W st k) (hR : R ≤ 4) : ∀ n, pnN i (frs i) (fun n => tmE (Go.Proofs.YtfemleimkbjehaaGreat.wnOf (p.tl i n)) 6) n = waN ns st.evs (frs i) R i n := by
  intro n
  induction n with
  | zero => rfl
  | succ n ih =>
    rw [pnN, waN, ih]
    by_cases h6 : (qT ns n).kind = 6
    · rw [if_pos (by simpa using h6), pnT_E hR (fun e s he hs => by rw [h.wnOf i n e s he hs, h6]; rfl) (fun e s h1 _ => by rw [acTo_high (fun j hj => (hi.eo j hj).2) _ _ _ h1 _ (Nat.le_refl _)]; rfl) 6 (Nat.le_refl _)]
    · rw [if_neg (by simpa using h6), tmE_none (fun e s he hs => by rw [h.wnOf i n e s he hs, show ((qT ns n).kind == 6) = false by simpa using h6]; rfl) 6 (Nat.le_refl _)]
      simp [pnT]
theorem ptX_eq {ns : List Nd} {R W : Nat} {p : PSt} {st : RSt} {k i : Nat} (h : Sim ns W p st) (hi : Inv ns R W st k) (hiW : i < W) : ∀ x, x ≤ W → ptX (p.wy i) i x = teX st.log st.told i x := by
  intro x
  induction x with
  | zero => intro _; rfl
  | succ x ih =>
    intro hx
    rw [ptX, teX, ih (by omega)]
    obtain ⟨t, et, ht⟩ := hi.tl i x hiW (by omega)
    have hl : (p.wy i x).length = if i ≠ x then zK st.log x st.log.length - t else 0 := by
      rw [h.wy i x]
      by_cases e : i = x
      · rw [if_neg (fun h => h.2.2 e), if_neg (by simpa using e)]; rfl
      · rw [if_pos ⟨hiW, by omega, e⟩, if_pos e, List.length_drop, cgTo_len, et]; rfl
    have hb : teB st.log st.told i x = decide (i ≠ x ∧ t < zK st.log x st.log.length) := by
      unfold teB
      rw [et, Bool.eq_iff_iff]
      simp
      intro _
      constructor <;> intro h <;> omega
    rw [hb, hl]
    by_cases e : i = x
    · subst e; simp
    · by_cases e2 : t < zK st.log x st.log.length
      · rw [if_pos (show i ≠ x from e), if_neg (by omega), if_pos (by simpa using ⟨e, e2⟩)]
      · rw [if_pos (show i ≠ x from e), if_pos (by omega), if_neg (by simp; intro _; omega)]
theorem pacts_eq {ns : List Nd} {R W : Nat} {p : PSt} {st : RSt} {k : Nat} {frs : Nat → Nat → List Tm} (h : Sim ns W p st) (hi : Inv ns R W st k) (hR : R ≤ 4) : ∀ w, w ≤ W → kR ns.length W p frs w = acts ns R W st frs w := by
  intro w
  induction w with
  | zero => intro _; rfl
  | succ w ih =>
    intro hw
    rw [kR, acts, ih (by omega)]
    congr 1
    unfold oth acW
    rw [pnN_eq h hi hR, ptX_eq h hi (by omega) W (Nat.le_refl _), show p.wt w = fun (n : Nat) => jQ st.mails w n from funext fun n => h.wt w n, List.append_assoc]
theorem Sim.told {ns : List Nd} {R W : Nat} {p : PSt} {st : RSt} {k a x : Nat} (h : Sim ns W p st) (hi : Inv ns R W st k) (hW : W ≤ 4) (ha : a < W) (hx : x < W) (hl : (p.wy a x).length ≠ 0) : Sim ns W (yB p a x) (doS ns R W st ⟨3, a, 0, x, 0, 0, 0⟩) := by
  have hax : a ≠ x := by
    intro e
    rw [h.wy, if_neg (fun h => h.2.2 e)] at hl
    simp at hl
  obtain ⟨t, et, ht⟩ := hi.tl a x ha hx
  have hwy : p.wy a x = (xU st.log x st.log.length).drop t := by rw [h.wy, if_pos ⟨ha, hx, hax⟩, et]; rfl
  have hlt : t < zK st.log x st.log.length := by
    rw [hwy, List.length_drop, cgTo_len] at hl
    omega
  have hc : (p.wy a x).getD 0 [] = (xU st.log x st.log.length).getD t [] := by
    rw [hwy]; simp [List.getD]
  have hac : ∀ w n e s : Int, jU (st.evs ++ [⟨3, a, 0, x, 0, 0, 0⟩]) w n e s (st.evs ++ [(⟨3, a, 0, x, 0, 0, 0⟩ : Ev)]).length = jU st.evs w n e s st.evs.length := by
    intro w n e s
    rw [acTo_snoc]
    split
    · rfl
    · rfl
  have e0 : doS ns R W st ⟨3, a, 0, x, 0, 0, 0⟩ = { st with told := jH st.told a x, evs := st.evs ++ [⟨3, a, 0, x, 0, 0, 0⟩] } := rfl
  rw [e0]
  refine ⟨h.ep, h.cl, h.wt, fun i n h5 y => ?_, fun i n => ?_, fun i n e s he hs => ?_, fun i n e s g h6 he hs hg => ?_, fun i hiW => ?_, fun i j => ?_, h.gv, ?_⟩
  · simp only [yB]
    rw [meTo_snoc, h.lb i n h5 y]
    simp [meM]
  · have := h.lbn i n
    simp [yB]; omega
  · simp only [yB]; rw [hac]; exact h.wn i n e s he hs
  · simp only [yB]; rw [hac]; exact h.gs i n e s g h6 he hs hg
  · simp only [yB]
    rw [hc]
    unfold upd1
    funext q
    by_cases e : i = a
    · subst e
      rw [if_pos rfl, h.tb i hiW]
      exact (tabLog_told hW hax et hi.wk hlt q).symm
    · rw [if_neg e, h.tb i hiW]
      exact (tabLog_untold hW e q).symm
  · simp only [yB]
    unfold kF
    by_cases e : i = a ∧ j = x
    · obtain ⟨rfl, rfl⟩ := e
      rw [if_pos ⟨rfl, rfl⟩, if_pos ⟨ha, hx, hax⟩, hwy, List.drop_drop]
      congr 1
      simp [jH, et]
    · rw [if_neg e, h.wy i j]
      simp only [jH, if_neg e]
  · simp only [yB]
    rw [ouTo_snoc, h.rc]
    simp
theorem grpOf_congr {S S' : Nat → Int} {M M' : Nat → Bool} : ∀ m, (∀ g, g < m → S g = S' g ∧ M g = M' g) → vQ S M m = vQ S' M' m := by
  intro m
  induction m with
  | zero => intro _; rfl
  | succ m ih =>
    intro h
    rw [vQ, vQ, ih (fun g hg => h g (by omega)), (h m (by omega)).1, (h m (by omega)).2]
theorem grpOf_more {S : Nat → Int} {M : Nat → Bool} {m : Nat} : ∀ d, (∀ g, m ≤ g → g < m + d → M g = false) → vQ S M (m + d) = vQ S M m := by
  intro d
  induction d with
  | zero => intro _; rfl
  | succ d ih =>
    intro h
    rw [← Nat.add_assoc, grpOf_no (h _ (by omega) (by omega)), ih (fun g h1 h2 => h g h1 (by omega))]
theorem gmet_high {xs : List Int} {q : Int} {g : Nat} (hq : 1 ≤ q) (hg : q ≤ g) : ∀ k, gmetTo xs q g k = false := by
  intro k
  induction k with
  | zero => rfl
  | succ k ih =>
    have h1 := Int.emod_lt_of_pos (jD xs k) (show 0 < q by omega)
    rw [gmetTo, if_neg (by simp; omega), ih]
theorem wnOf_bool {f : Nat → Value} {k : Nat} {b : Bool} (h : f k = .bool b) : wnOf f k = b := by unfold wnOf; rw [h]
theorem Sim.sums {ns : List Nd} {W : Nat} {p : PSt} {st : RSt} (h : Sim ns W p st) {a n e s : Nat} (h6 : (qT ns n).kind = 6) (hk1 : 1 ≤ (qT ns n).k) (hk8 : (qT ns n).k ≤ 8) (he : e < 6) (hs : s < 4) : sumL (p.tl a n) e s = adL ns st a n e s := by
  unfold sumL adL
  rw [grpTo_of, grpOf_congr (S' := fun g => jG (jU st.evs a n e s st.evs.length) (qT ns n).k g (jU st.evs a n e s st.evs.length).length) (M' := fun g => gmetTo (jU st.evs a n e s st.evs.length) (qT ns n).k g (jU st.evs a n e s st.evs.length).length) 8 (fun g hg => ⟨by rw [(h.gs a n e s g h6 he hs hg).1]; rfl, wnOf_bool (h.gs a n e s g h6 he hs hg).2⟩)]
  obtain ⟨q, hq⟩ := Int.eq_ofNat_of_zero_le (show 0 ≤ (qT ns n).k by omega)
  rw [hq, Int.toNat_natCast, show 8 = q + (8 - q) by omega]
  exact grpOf_more _ (fun g h1 _ => gmet_high (by omega) (by omega) _)
theorem waitL_nt {ns : List Nd} {W a : Nat} (ha : a < W) (n e s : Nat) (l : List Int) (ms : List Ml) : ∀ k (i j : Nat), jQ (ms ++ ntM ns W a n e s l k) i j = ntW ns W a n e s l (fun (p q : Nat) => jQ ms p q) k i j := by
  intro k
  induction k with
  | zero => intro i j; simp [ntM, ntW]
  | succ k ih =>
    intro i j
    rw [ntM, ntW, ← List.append_assoc, waitL_put ns W a ha n _ _ ns.length i j]
    rw [show (fun p q : Nat => jQ (ms ++ ntM ns W a n e s l k) p q) = ntW ns W a n e s l (fun (p q : Nat) => jQ ms p q) k from funext fun p => funext fun q => ih p q]
theorem acM_nat (kd v : Int) (a n e s idx i m e' s' : Nat) : acM ⟨kd, a, n, idx, e, s, v⟩ i m e' s' = decide (i = a ∧ m = n ∧ e' = e ∧ s' = s) := by
  unfold acM
  rw [Bool.eq_iff_iff]
  simp
  omega
theorem Sim.noted {ns : List Nd} {R W : Nat} {p : PSt} {st : RSt} {k a n e s : Nat} (h : Sim ns W p st) (hi : Inv ns R W st k) (ha : a < W) (h6 : (qT ns n).kind = 6) (hk1 : 1 ≤ (qT ns n).k) (hk8 : (qT ns n).k ≤ 8) (he : e < 6) (hs : s < 4) : Sim ns W (pnoteS ns W p a n e s) (doS ns R W st ⟨2, a, n, 0, e, s, 0⟩) := by
  have hwt : p.wt = fun (i j : Nat) => jQ st.mails i j := by funext i j; exact h.wt i j
  have e0 : doS ns R W st ⟨2, a, n, 0, e, s, 0⟩ = { noteS ns W st a n e s with evs := st.evs ++ [⟨2, a, n, 0, e, s, 0⟩] } := rfl
  have e1 : pnoteS ns W p a n e s = pchg W { p with tl := kF p.tl a n (yH (p.tl a n) e s), wt := ntW ns W a n e s (adL ns st a n e s) p.wt (adL ns st a n e s).length } a (ntP ns n e s (adL ns st a n e s) (adL ns st a n e s).length) := by
    unfold pnoteS; rw [h.sums h6 hk1 hk8 he hs]
  rw [e0, e1]
  have hac : ∀ i m e' s' : Nat, jU (st.evs ++ [⟨2, a, n, 0, e, s, 0⟩]) i m e' s' (st.evs ++ [(⟨2, a, n, 0, e, s, 0⟩ : Ev)]).length = if i = a ∧ m = n ∧ e' = e ∧ s' = s then [] else jU st.evs i m e' s' st.evs.length := by
    intro i m e' s'
    rw [acTo_snoc]
    have := acM_nat 2 0 a n e s 0 i m e' s'
    simp only [Int.natCast_zero] at this
    rw [this]
    by_cases q : i = a ∧ m = n ∧ e' = e ∧ s' = s
    · rw [if_pos q, if_pos (by simpa using q)]; rfl
    · rw [if_neg q, if_neg (by simpa using q)]
  obtain ⟨c1, c2⟩ := h.change hi ha (p1 := pchg W { p with tl := kF p.tl a n (yH (p.tl a n) e s), wt := ntW ns W a n e s (adL ns st a n e s) p.wt (adL ns st a n e s).length } a (ntP ns n e s (adL ns st a n e s) (adL ns st a n e s).length)) (st1 := { noteS ns W st a n e s with evs := st.evs ++ [⟨2, a, n, 0, e, s, 0⟩] }) (q := ntP ns n e s (adL ns st a n e s) (adL ns st a n e s).length) ⟨rfl, rfl⟩ ⟨rfl, rfl⟩
  refine ⟨h.ep, h.cl, fun i j => ?_, fun i m h5 y => ?_, fun i m => ?_, fun i m e' s' he' hs' => ?_, fun i m e' s' g hm6 he' hs' hg => ?_, c1, c2, h.gv, ?_⟩
  · simp only [pchg, noteS]
    rw [waitL_nt ha, hwt]
  · simp only [pchg]
    rw [meTo_snoc, h.lb i m h5 y]
    simp [meM]
  · have := h.lbn i m
    simp [pchg]; omega
  · simp only [pchg]
    rw [hac]
    unfold kF
    by_cases q1 : i = a ∧ m = n
    · obtain ⟨rfl, rfl⟩ := q1
      rw [if_pos ⟨rfl, rfl⟩]
      unfold yH
      by_cases q2 : e' = e ∧ s' = s
      · obtain ⟨rfl, rfl⟩ := q2
        rw [if_pos rfl, if_pos ⟨rfl, rfl, rfl, rfl⟩]; simp
      · rw [if_neg (by omega), if_neg (by omega), if_neg (by omega), if_neg (by omega)]
        exact h.wn i m e' s' he' hs'
    · rw [if_neg q1, if_neg (by omega)]
      exact h.wn i m e' s' he' hs'
  · simp only [pchg]
    rw [hac]
    unfold kF
    by_cases q1 : i = a ∧ m = n
    · obtain ⟨rfl, rfl⟩ := q1
      rw [if_pos ⟨rfl, rfl⟩]
      unfold yH
      by_cases q2 : e' = e ∧ s' = s
      · obtain ⟨rfl, rfl⟩ := q2
        rw [if_pos (⟨rfl, rfl, rfl, rfl⟩ : i = i ∧ m = m ∧ e' = e' ∧ s' = s'), if_neg (by omega), if_pos ⟨by omega, by omega⟩, if_neg (by omega), if_neg (by omega), if_pos ⟨by omega, by omega⟩]
        exact ⟨rfl, rfl⟩
      · rw [if_neg (show ¬ (i = i ∧ m = m ∧ e' = e ∧ s' = s) by omega), if_neg (by omega), if_neg (by omega), if_neg (by omega), if_neg (by omega), if_neg (by omega), if_neg (by omega)]
        exact h.gs i m e' s' g hm6 he' hs' hg
    · rw [if_neg q1, if_neg (show ¬ (i = a ∧ m = n ∧ e' = e ∧ s' = s) by omega)]
      exact h.gs i m e' s' g hm6 he' hs' hg
  · simp only [pchg]
    rw [ouTo_snoc, h.rc]
    simp
end Go.Proofs.YtfemleimkbjehaaGreat
