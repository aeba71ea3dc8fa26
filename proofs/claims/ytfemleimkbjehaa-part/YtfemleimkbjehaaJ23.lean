import Derived.Test.YtfemleimkbjehaaJ22
set_option maxRecDepth 1000000
set_option maxHeartbeats 40000000
set_option linter.unusedVariables false
set_option linter.unusedSimpArgs false
namespace Go.Proofs.Ytfemleimkbjehaa
open Go.RowKit
theorem lZ {l : List Gv} {j : Nat} (h : j < l.length) : vR l j ∈ l := by
  unfold vR List.getD
  rw [List.getElem?_eq_getElem h]
  exact List.getElem_mem h
def ActW (L W : Nat) (p : PSt) (y : Ev) : Prop := ∃ a n i : Nat, a < W ∧ n < L ∧ i < (p.wt a n).length ∧ y = ⟨1, a, n, i, (vR (p.wt a n) i).node, (vR (p.wt a n) i).epoch, (vR (p.wt a n) i).value⟩
def ActN (L W : Nat) (p : PSt) (frs : Nat → Nat → List Tm) (y : Ev) : Prop := ∃ a n e s : Nat, a < W ∧ n < L ∧ e < 6 ∧ s < 4 ∧ wnOf (p.tl a n) (e * 4 + s) = true ∧ zC (frs a n) e s (frs a n).length = true ∧ y = ⟨2, a, n, 0, e, s, 0⟩
def ActT (W : Nat) (p : PSt) (y : Ev) : Prop := ∃ a x : Nat, a < W ∧ x < W ∧ (p.wy a x).length ≠ 0 ∧ y = ⟨3, a, 0, x, 0, 0, 0⟩
def ActOk (L W : Nat) (p : PSt) (frs : Nat → Nat → List Tm) (y : Ev) : Prop := ActW L W p y ∨ ActN L W p frs y ∨ ActT W p y
theorem wkTo_mem {w n : Nat} {l : List Gv} {y : Ev} : ∀ k, y ∈ wkTo w n l k → ∃ i, i < k ∧ y = ⟨1, w, n, i, (vR l i).node, (vR l i).epoch, (vR l i).value⟩ := by
  intro k
  induction k with
  | zero => intro h; simp [wkTo] at h
  | succ k ih =>
    intro h
    rw [wkTo] at h
    rcases List.mem_append.1 h with h | h
    · obtain ⟨i, a, b⟩ := ih h; exact ⟨i, by omega, b⟩
    · simp at h; exact ⟨k, by omega, h⟩
theorem wkN_mem {f : Nat → List Gv} {w : Nat} {y : Ev} : ∀ k, y ∈ wkN f w k → ∃ n i, n < k ∧ i < (f n).length ∧ y = ⟨1, w, n, i, (vR (f n) i).node, (vR (f n) i).epoch, (vR (f n) i).value⟩ := by
  intro k
  induction k with
  | zero => intro h; simp [wkN] at h
  | succ k ih =>
    intro h
    rw [wkN] at h
    rcases List.mem_append.1 h with h | h
    · obtain ⟨n, i, a, b⟩ := ih h; exact ⟨n, i, by omega, b⟩
    · obtain ⟨i, a, b⟩ := wkTo_mem _ h; exact ⟨k, i, by omega, a, b⟩
theorem tmS_mem2 {wn : Nat → Bool} {e s : Nat} : ∀ t ∈ tmS wn e s, ∃ r : Nat, t = ⟨e, r⟩ ∧ r < s ∧ wn (e * 4 + r) = true := by
  induction s with
  | zero => intro t ht; simp [tmS] at ht
  | succ s ih =>
    intro t ht
    unfold tmS at ht
    split at ht
    · rename_i hw
      rcases List.mem_append.1 ht with ht | ht
      · obtain ⟨r, e1, h1, h2⟩ := ih t ht; exact ⟨r, e1, by omega, h2⟩
      · simp at ht; exact ⟨s, ht, by omega, hw⟩
    · obtain ⟨r, e1, h1, h2⟩ := ih t ht; exact ⟨r, e1, by omega, h2⟩
theorem tmE_mem2 {wn : Nat → Bool} {k : Nat} : ∀ t ∈ mG wn k, ∃ e r : Nat, t = ⟨e, r⟩ ∧ e < k ∧ r < 4 ∧ wn (e * 4 + r) = true := by
  induction k with
  | zero => intro t ht; simp [mG] at ht
  | succ k ih =>
    intro t ht
    rw [mG] at ht
    rcases List.mem_append.1 ht with ht | ht
    · obtain ⟨e, r, a, b, c⟩ := ih t ht; exact ⟨e, r, a, by omega, c⟩
    · obtain ⟨r, a, b, c⟩ := tmS_mem2 t ht; exact ⟨k, r, a, by omega, b, c⟩
theorem pnT_mem {i n : Nat} {fr ts : List Tm} {y : Ev} : ∀ k, k ≤ ts.length → y ∈ pnT i n fr ts k → ∃ t ∈ ts, zC fr t.e.toNat t.s.toNat fr.length = true ∧ y = ⟨2, i, n, 0, t.e, t.s, 0⟩ := by
  intro k
  induction k with
  | zero => intro _ h; simp [pnT] at h
  | succ k ih =>
    intro hk h
    unfold pnT at h
    split at h
    · rename_i hf
      rcases List.mem_append.1 h with h | h
      · exact ih (by omega) h
      · simp at h; exact ⟨_, tmn_mem (show k < ts.length by omega), hf, h⟩
    · exact ih (by omega) h
theorem pnN_mem {i : Nat} {frs tms : Nat → List Tm} {y : Ev} : ∀ k, y ∈ pnN i frs tms k → ∃ n, n < k ∧ ∃ t ∈ tms n, zC (frs n) t.e.toNat t.s.toNat (frs n).length = true ∧ y = ⟨2, i, n, 0, t.e, t.s, 0⟩ := by
  intro k
  induction k with
  | zero => intro h; simp [pnN] at h
  | succ k ih =>
    intro h
    rw [pnN] at h
    rcases List.mem_append.1 h with h | h
    · obtain ⟨n, a, b⟩ := ih h; exact ⟨n, by omega, b⟩
    · exact ⟨k, by omega, pnT_mem _ (Nat.le_refl _) h⟩
theorem ptX_mem {f : Nat → List (List Pt)} {i : Nat} {y : Ev} : ∀ k, y ∈ ptX f i k → ∃ x, x < k ∧ (f x).length ≠ 0 ∧ y = ⟨3, i, 0, x, 0, 0, 0⟩ := by
  intro k
  induction k with
  | zero => intro h; simp [ptX] at h
  | succ k ih =>
    intro h
    unfold ptX at h
    split at h
    · obtain ⟨x, a, b⟩ := ih h; exact ⟨x, by omega, b⟩
    · rename_i hl
      rcases List.mem_append.1 h with h | h
      · obtain ⟨x, a, b⟩ := ih h; exact ⟨x, by omega, b⟩
      · simp at h; exact ⟨k, by omega, hl, h⟩
theorem pacts_mem {L W : Nat} {p : PSt} {frs : Nat → Nat → List Tm} {y : Ev} : ∀ k, k ≤ W → y ∈ kW L W p frs k → ActOk L W p frs y := by
  intro k
  induction k with
  | zero => intro _ h; simp [kW] at h
  | succ k ih =>
    intro hk h
    rw [kW] at h
    rcases List.mem_append.1 h with h | h
    · exact ih (by omega) h
    · rcases List.mem_append.1 h with h | h
      · obtain ⟨n, i, a, b, c⟩ := wkN_mem _ h
        exact .inl ⟨k, n, i, by omega, a, b, c⟩
      · unfold oth at h
        rcases List.mem_append.1 h with h | h
        · obtain ⟨n, hn, t, ht, hf, e⟩ := pnN_mem _ h
          obtain ⟨e', r, rfl, h1, h2, h3⟩ := tmE_mem2 t ht
          exact .inr (.inl ⟨k, n, e', r, by omega, hn, h1, h2, h3, by simpa using hf, e⟩)
        · obtain ⟨x, a, b, c⟩ := ptX_mem _ h
          exact .inr (.inr ⟨k, x, by omega, a, b, c⟩)
theorem evn_mem {l : List Ev} {j : Nat} (h : j < l.length) : uJ l j ∈ l := by
  unfold uJ List.getD
  rw [List.getElem?_eq_getElem h]
  exact List.getElem_mem h
theorem dS {evs : List Ev} {R : Nat} (he : ∀ i, i < evs.length → ∃ s : Nat, (uJ evs i).round = s ∧ s < R) (w n e : Int) {s : Nat} (hs : R ≤ s) : ∀ k, k ≤ evs.length → jS evs w n e s k = [] := by
  intro k
  induction k with
  | zero => intro _; rfl
  | succ k ih =>
    intro hk
    have h0 : acB evs w n e s k = false := by
      obtain ⟨r, e1, h1⟩ := he k (by omega)
      unfold acB
      rw [e1]
      rw [Bool.eq_false_iff]; intro h; simp at h; omega
    rw [acTo_no h0]
    exact ih (by omega)
theorem Sim.wnOf {ns : List Nd} {W : Nat} {p : PSt} {st : RSt} (h : Sim ns W p st) (i n e s : Nat) (he : e < 6) (hs : s < 4) : wnOf (p.tl i n) (e * 4 + s) = ((qV ns n).kind == 6 && !((jS st.evs i n e s st.evs.length).length == 0)) := by
  unfold Go.Proofs.Ytfemleimkbjehaa.wnOf
  rw [h.wn i n e s he hs]
theorem Sim.told {ns : List Nd} {R W : Nat} {p : PSt} {st : RSt} {k a x : Nat} (h : Sim ns W p st) (hi : Inv ns R W st k) (hW : W ≤ 4) (ha : a < W) (hx : x < W) (hl : (p.wy a x).length ≠ 0) : Sim ns W (zF p a x) (lQ ns R W st ⟨3, a, 0, x, 0, 0, 0⟩) := by
  have hax : a ≠ x := by
    intro e
    rw [h.wy, if_neg (fun h => h.2.2 e)] at hl
    simp at hl
  obtain ⟨t, et, ht⟩ := hi.tl a x ha hx
  have hwy : p.wy a x = (xP st.log x st.log.length).drop t := by rw [h.wy, if_pos ⟨ha, hx, hax⟩, et]; rfl
  have hlt : t < zU st.log x st.log.length := by
    rw [hwy, List.length_drop, tC] at hl
    omega
  have hc : (p.wy a x).getD 0 [] = (xP st.log x st.log.length).getD t [] := by
    rw [hwy]; simp [List.getD]
  have hac : ∀ w n e s : Int, jS (st.evs ++ [⟨3, a, 0, x, 0, 0, 0⟩]) w n e s (st.evs ++ [(⟨3, a, 0, x, 0, 0, 0⟩ : Ev)]).length = jS st.evs w n e s st.evs.length := by
    intro w n e s
    rw [tN]
    split
    · rfl
    · rfl
  have e0 : lQ ns R W st ⟨3, a, 0, x, 0, 0, 0⟩ = { st with told := zX st.told a x, evs := st.evs ++ [⟨3, a, 0, x, 0, 0, 0⟩] } := rfl
  rw [e0]
  refine ⟨h.ep, h.cl, h.wt, fun i n h5 y => ?_, fun i n => ?_, fun i n e s he hs => ?_, fun i n e s g h6 he hs hg => ?_, fun i hiW => ?_, fun i j => ?_, h.gv, ?_⟩
  · simp only [zF]
    rw [cY, h.lb i n h5 y]
    simp [meM]
  · have := h.lbn i n
    simp [zF]; omega
  · simp only [zF]; rw [hac]; exact h.wn i n e s he hs
  · simp only [zF]; rw [hac]; exact h.gs i n e s g h6 he hs hg
  · simp only [zF]
    rw [hc]
    unfold pZ
    funext q
    by_cases e : i = a
    · subst e
      rw [if_pos rfl, h.tb i hiW]
      exact (tabLog_told hW hax et hi.wk hlt q).symm
    · rw [if_neg e, h.tb i hiW]
      exact (tabLog_untold hW e q).symm
  · simp only [zF]
    unfold kY
    by_cases e : i = a ∧ j = x
    · obtain ⟨rfl, rfl⟩ := e
      rw [if_pos ⟨rfl, rfl⟩, if_pos ⟨ha, hx, hax⟩, hwy, List.drop_drop]
      congr 1
      simp [zX, et]
    · rw [if_neg e, h.wy i j]
      simp only [zX, if_neg e]
  · simp only [zF]
    rw [pM, h.rc]
    simp
theorem grpOf_congr {S S' : Nat → Int} {M M' : Nat → Bool} : ∀ m, (∀ g, g < m → S g = S' g ∧ M g = M' g) → vY S M m = vY S' M' m := by
  intro m
  induction m with
  | zero => intro _; rfl
  | succ m ih =>
    intro h
    rw [vY, vY, ih (fun g hg => h g (by omega)), (h m (by omega)).1, (h m (by omega)).2]
theorem grpOf_more {S : Nat → Int} {M : Nat → Bool} {m : Nat} : ∀ d, (∀ g, m ≤ g → g < m + d → M g = false) → vY S M (m + d) = vY S M m := by
  intro d
  induction d with
  | zero => intro _; rfl
  | succ d ih =>
    intro h
    rw [← Nat.add_assoc, grpOf_no (h _ (by omega) (by omega)), ih (fun g h1 h2 => h g h1 (by omega))]
theorem gmet_high {xs : List Int} {q : Int} {g : Nat} (hq : 1 ≤ q) (hg : q ≤ g) : ∀ k, kG xs q g k = false := by
  intro k
  induction k with
  | zero => rfl
  | succ k ih =>
    have h1 := Int.emod_lt_of_pos (kC xs k) (show 0 < q by omega)
    rw [kG, if_neg (by simp; omega), ih]
theorem wnOf_bool {f : Nat → Value} {k : Nat} {b : Bool} (h : f k = .bool b) : wnOf f k = b := by unfold wnOf; rw [h]
theorem Sim.sums {ns : List Nd} {W : Nat} {p : PSt} {st : RSt} (h : Sim ns W p st) {a n e s : Nat} (h6 : (qV ns n).kind = 6) (hk1 : 1 ≤ (qV ns n).k) (hk8 : (qV ns n).k ≤ 8) (he : e < 6) (hs : s < 4) : xK (p.tl a n) e s = dP ns st a n e s := by
  unfold xK dP
  rw [grpTo_of, grpOf_congr (S' := fun g => gsumTo (jS st.evs a n e s st.evs.length) (qV ns n).k g (jS st.evs a n e s st.evs.length).length) (M' := fun g => kG (jS st.evs a n e s st.evs.length) (qV ns n).k g (jS st.evs a n e s st.evs.length).length) 8 (fun g hg => ⟨by rw [(h.gs a n e s g h6 he hs hg).1]; rfl, wnOf_bool (h.gs a n e s g h6 he hs hg).2⟩)]
  obtain ⟨q, hq⟩ := Int.eq_ofNat_of_zero_le (show 0 ≤ (qV ns n).k by omega)
  rw [hq, Int.toNat_natCast, show 8 = q + (8 - q) by omega]
  exact grpOf_more _ (fun g h1 _ => gmet_high (by omega) (by omega) _)
theorem waitL_nt {ns : List Nd} {W a : Nat} (ha : a < W) (n e s : Nat) (l : List Int) (ms : List Ml) : ∀ k (i j : Nat), vD (ms ++ ntM ns W a n e s l k) i j = ntW ns W a n e s l (fun (p q : Nat) => vD ms p q) k i j := by
  intro k
  induction k with
  | zero => intro i j; simp [ntM, ntW]
  | succ k ih =>
    intro i j
    rw [ntM, ntW, ← List.append_assoc, cG ns W a ha n _ _ ns.length i j]
    rw [show (fun p q : Nat => vD (ms ++ ntM ns W a n e s l k) p q) = ntW ns W a n e s l (fun (p q : Nat) => vD ms p q) k from funext fun p => funext fun q => ih p q]
theorem bT (kd v : Int) (a n e s idx i m e' s' : Nat) : acM ⟨kd, a, n, idx, e, s, v⟩ i m e' s' = decide (i = a ∧ m = n ∧ e' = e ∧ s' = s) := by
  unfold acM
  rw [Bool.eq_iff_iff]
  simp
  omega
theorem Sim.noted {ns : List Nd} {R W : Nat} {p : PSt} {st : RSt} {k a n e s : Nat} (h : Sim ns W p st) (hi : Inv ns R W st k) (ha : a < W) (h6 : (qV ns n).kind = 6) (hk1 : 1 ≤ (qV ns n).k) (hk8 : (qV ns n).k ≤ 8) (he : e < 6) (hs : s < 4) : Sim ns W (yB ns W p a n e s) (lQ ns R W st ⟨2, a, n, 0, e, s, 0⟩) := by
  have hwt : p.wt = fun (i j : Nat) => vD st.mails i j := by funext i j; exact h.wt i j
  have e0 : lQ ns R W st ⟨2, a, n, 0, e, s, 0⟩ = { fP ns W st a n e s with evs := st.evs ++ [⟨2, a, n, 0, e, s, 0⟩] } := rfl
  have e1 : yB ns W p a n e s = wU W { p with tl := kY p.tl a n (vX (p.tl a n) e s), wt := ntW ns W a n e s (dP ns st a n e s) p.wt (dP ns st a n e s).length } a (nK ns n e s (dP ns st a n e s) (dP ns st a n e s).length) := by
    unfold yB; rw [h.sums h6 hk1 hk8 he hs]
  rw [e0, e1]
  have hac : ∀ i m e' s' : Nat, jS (st.evs ++ [⟨2, a, n, 0, e, s, 0⟩]) i m e' s' (st.evs ++ [(⟨2, a, n, 0, e, s, 0⟩ : Ev)]).length = if i = a ∧ m = n ∧ e' = e ∧ s' = s then [] else jS st.evs i m e' s' st.evs.length := by
    intro i m e' s'
    rw [tN]
    have := bT 2 0 a n e s 0 i m e' s'
    simp only [Int.natCast_zero] at this
    rw [this]
    by_cases q : i = a ∧ m = n ∧ e' = e ∧ s' = s
    · rw [if_pos q, if_pos (by simpa using q)]; rfl
    · rw [if_neg q, if_neg (by simpa using q)]
  obtain ⟨c1, c2⟩ := h.change hi ha (p1 := wU W { p with tl := kY p.tl a n (vX (p.tl a n) e s), wt := ntW ns W a n e s (dP ns st a n e s) p.wt (dP ns st a n e s).length } a (nK ns n e s (dP ns st a n e s) (dP ns st a n e s).length)) (st1 := { fP ns W st a n e s with evs := st.evs ++ [⟨2, a, n, 0, e, s, 0⟩] }) (q := nK ns n e s (dP ns st a n e s) (dP ns st a n e s).length) ⟨rfl, rfl⟩ ⟨rfl, rfl⟩
  refine ⟨h.ep, h.cl, fun i j => ?_, fun i m h5 y => ?_, fun i m => ?_, fun i m e' s' he' hs' => ?_, fun i m e' s' g hm6 he' hs' hg => ?_, c1, c2, h.gv, ?_⟩
  · simp only [wU, fP]
    rw [waitL_nt ha, hwt]
  · simp only [wU]
    rw [cY, h.lb i m h5 y]
    simp [meM]
  · have := h.lbn i m
    simp [wU]; omega
  · simp only [wU]
    rw [hac]
    unfold kY
    by_cases q1 : i = a ∧ m = n
    · obtain ⟨rfl, rfl⟩ := q1
      rw [if_pos ⟨rfl, rfl⟩]
      unfold vX
      by_cases q2 : e' = e ∧ s' = s
      · obtain ⟨rfl, rfl⟩ := q2
        rw [if_pos rfl, if_pos ⟨rfl, rfl, rfl, rfl⟩]; simp
      · rw [if_neg (by omega), if_neg (by omega), if_neg (by omega), if_neg (by omega)]
        exact h.wn i m e' s' he' hs'
    · rw [if_neg q1, if_neg (by omega)]
      exact h.wn i m e' s' he' hs'
  · simp only [wU]
    rw [hac]
    unfold kY
    by_cases q1 : i = a ∧ m = n
    · obtain ⟨rfl, rfl⟩ := q1
      rw [if_pos ⟨rfl, rfl⟩]
      unfold vX
      by_cases q2 : e' = e ∧ s' = s
      · obtain ⟨rfl, rfl⟩ := q2
        rw [if_pos (⟨rfl, rfl, rfl, rfl⟩ : i = i ∧ m = m ∧ e' = e' ∧ s' = s'), if_neg (by omega), if_pos ⟨by omega, by omega⟩, if_neg (by omega), if_neg (by omega), if_pos ⟨by omega, by omega⟩]
        exact ⟨rfl, rfl⟩
      · rw [if_neg (show ¬ (i = i ∧ m = m ∧ e' = e ∧ s' = s) by omega), if_neg (by omega), if_neg (by omega), if_neg (by omega), if_neg (by omega), if_neg (by omega), if_neg (by omega)]
        exact h.gs i m e' s' g hm6 he' hs' hg
    · rw [if_neg q1, if_neg (show ¬ (i = a ∧ m = n ∧ e' = e ∧ s' = s) by omega)]
      exact h.gs i m e' s' g hm6 he' hs' hg
  · simp only [wU]
    rw [pM, h.rc]
    simp
def yD (x : Nd) : Prop := (x.kind = 0 ∨ x.kind = 1 ∨ x.kind = 2 ∨ x.kind = 3 ∨ x.kind = 4 ∨ x.kind = 5 ∨ x.kind = 6 ∨ x.kind = 7) ∧ (x.kind = 6 → 1 ≤ x.k ∧ x.k ≤ 8) ∧ (x.kind = 2 → 1 ≤ x.k ∧ x.k ≤ 100)
theorem Sim.mail {ns : List Nd} {R W : Nat} {p : PSt} {st : RSt} {k a n i : Nat} (h : Sim ns W p st) (hi : Inv ns R W st k) (hil : i < (p.wt a n).length) : ∃ z e s : Nat, ∃ v : Int, z < st.mails.length ∧ i < (kS st.mails a n st.mails.length).length ∧ kC (kS st.mails a n st.mails.length) i = (z : Int) ∧ vR (p.wt a n) i = ⟨e, s, v⟩ ∧ e < 6 ∧ s < R ∧ -9223372036854775808 ≤ v ∧ v ≤ 9223372036854775807 ∧ (qV ns n).kind ≠ 0 ∧ a < W ∧ n < ns.length := by
  rw [h.wt] at hil
  have hil2 : i < (kS st.mails a n st.mails.length).length := by
    unfold vD at hil
    rwa [List.length_map] at hil
  obtain ⟨z, h1, h2, h3, h4⟩ := gT st.mails.length i hil2
  obtain ⟨a', n', e, s, b1, b2, b3, b4, b5, b6, b7, b8, b9, b10, b11⟩ := hi.mo z h1
  unfold yX at h3
  simp only [Bool.and_eq_true, beq_iff_eq, Bool.not_eq_true'] at h3
  have ea : a' = a := by have := h3.1.2; omega
  have en : n' = n := by have := h3.2; omega
  subst ea en
  refine ⟨z, e, s, (rS st.mails z).value, h1, hil2, h2, ?_, b7, b9, b10, b11, b5, b2, b4⟩
  rw [h.wt, waitL_get hil2, h2, Int.toNat_natCast]
  unfold lB
  rw [b6, b8]
theorem wk_specs {ns : List Nd} {R W : Nat} {p : PSt} {st : RSt} (h : Sim ns W p st) {a n i e s : Nat} {v : Int} (hk : yD (qV ns n)) (h0 : (qV ns n).kind ≠ 0) (he : e < 6) (hs : s < 4) (hv1 : -9223372036854775808 ≤ v) (hv2 : v ≤ 9223372036854775807) :
    wkU ns R st.evs ⟨1, a, n, i, e, s, v⟩ = rN ns R (p.lb a n) n e s v ∧ wkM ns ⟨1, a, n, i, e, s, v⟩ = pH ns n e s v ∧ wkQ ns st.evs ⟨1, a, n, i, e, s, v⟩ ++ (if rN ns R (p.lb a n) n e s v then jX ns n (pH ns n e s v) ns.length else []) = ⟨n, false, e, s, -1⟩ :: tK ns R p a n e s v := by
  have hwn := h.wnOf a n e s he hs
  unfold wkU wkM wkQ tK rN pH gR
  simp only [Int.toNat_natCast]
  obtain ⟨hk, _, _⟩ := hk
  rcases hk with hk | hk | hk | hk | hk | hk | hk | hk
  · exact absurd hk h0
  · exact ⟨by simp [hk], by simp [hk], by simp [hk]⟩
  · exact ⟨by simp [hk], by simp [hk, tR hv1 hv2], by simp [hk]⟩
  · exact ⟨by simp [hk], by simp [hk, tR hv1 hv2], by simp [hk]⟩
  · exact ⟨by simp [hk], by simp [hk, tR hv1 hv2], by simp [hk]⟩
  · have hl := h.lb a n hk ⟨e, s, v⟩
    have hl2 := meTo_same st.evs ⟨1, a, n, 0, e, s, v⟩ ⟨1, a, n, i, e, s, v⟩ ⟨rfl, rfl, rfl, rfl, rfl⟩ st.evs.length
    rw [hl2] at hl
    exact ⟨by simp [hk, hl], by simp [hk, tR hv1 hv2], by simp [hk]⟩
  · rw [hwn]
    refine ⟨by simp [hk], by simp [hk, tR hv1 hv2], ?_⟩
    cases hz : ((jS st.evs a n e s st.evs.length).length == 0)
    · simp [hk]
    · simp [hk]
  · exact ⟨by simp [hk], by simp [hk, tR hv1 hv2], by simp [hk]⟩
theorem lbTo_app (l : List Gv) (m y : Gv) : ∀ k, k ≤ l.length → wH (l ++ [m]) y k = wH l y k := by
  intro k
  induction k with
  | zero => intro _; rfl
  | succ k ih =>
    intro hk
    rw [wH, wH, ih (by omega)]
    unfold lbB
    rw [fV (by omega)]
theorem lbTo_snoc (l : List Gv) (m y : Gv) : wH (l ++ [m]) y (l ++ [m]).length = (wH l y l.length || ((m.node == y.node) && ((m.epoch == y.epoch) && (m.value == y.value)))) := by
  rw [List.length_append, List.length_singleton, wH, lbTo_app l m y _ (Nat.le_refl _)]
  unfold lbB
  rw [fY]
theorem Sim.worked {ns : List Nd} {R W : Nat} {p : PSt} {st : RSt} {k a n i e s z : Nat} {v : Int} (h : Sim ns W p st) (hi : Inv ns R W st k) (hk : yD (qV ns n)) (h0 : (qV ns n).kind ≠ 0) (ha : a < W) (he : e < 6) (hs : s < 4) (hv1 : -9223372036854775808 ≤ v) (hv2 : v ≤ 9223372036854775807) (hil : i < (kS st.mails a n st.mails.length).length) (hz : kC (kS st.mails a n st.mails.length) i = (z : Int)) :
    Sim ns W (xQ ns R W (jJ p a n i) a n e s v) (lQ ns R W st ⟨1, a, n, i, e, s, v⟩) := by
  obtain ⟨hU, hM, hQ⟩ := wk_specs (R := R) (i := i) h hk h0 he hs hv1 hv2 (a := a)
  have hwt : p.wt = fun (i j : Nat) => vD st.mails i j := by funext i j; exact h.wt i j
  have e0 : lQ ns R W st ⟨1, a, n, i, e, s, v⟩ = { st with mails := zG st.mails z ++ (if rN ns R (p.lb a n) n e s v then tW ns W a n (pH ns n e s v) ns.length else []), log := st.log ++ [⟨a, ⟨n, false, e, s, -1⟩ :: tK ns R p a n e s v⟩], evs := st.evs ++ [⟨1, a, n, i, e, s, v⟩] } := by
    rw [← hQ]
    unfold lQ doneS
    rw [if_neg (by simp), if_neg (by simp)]
    simp only [Int.toNat_natCast]
    rw [hz, Int.toNat_natCast]
    unfold workS
    rw [hU, hM]
  rw [e0]
  have hpt : (jJ p a n i).wt = fun (b m : Nat) => vD (zG st.mails z) b m := by
    funext b m
    rw [waitL_gone hil hz b m]
    simp only [jJ, hwt]
    unfold kY
    rfl
  have hac : ∀ b m e' s' : Nat, jS (st.evs ++ [⟨1, a, n, i, e, s, v⟩]) b m e' s' (st.evs ++ [(⟨1, a, n, i, e, s, v⟩ : Ev)]).length = if b = a ∧ m = n ∧ e' = e ∧ s' = s then jS st.evs b m e' s' st.evs.length ++ [v] else jS st.evs b m e' s' st.evs.length := by
    intro b m e' s'
    rw [tN, bT]
    by_cases q : b = a ∧ m = n ∧ e' = e ∧ s' = s
    · rw [if_pos q, if_pos (by simpa using q)]; rfl
    · rw [if_neg q, if_neg (by simpa using q)]
  have hme : ∀ (b m : Nat) (y : Gv), pP (st.evs ++ [⟨1, a, n, i, e, s, v⟩]) ⟨1, b, m, 0, y.node, y.epoch, y.value⟩ (st.evs ++ [(⟨1, a, n, i, e, s, v⟩ : Ev)]).length = (pP st.evs ⟨1, b, m, 0, y.node, y.epoch, y.value⟩ st.evs.length || (decide (b = a ∧ m = n) && (((e : Int) == y.node) && (((s : Int) == y.epoch) && (v == y.value))))) := by
    intro b m y
    rw [cY]
    congr 1
    unfold meM
    simp only [beq_self_eq_true, Bool.true_and]
    rw [← Bool.and_assoc]
    congr 1
    rw [Bool.eq_iff_iff]
    simp
    omega
  obtain ⟨c1, c2⟩ := h.change hi ha (p1 := xQ ns R W (jJ p a n i) a n e s v) (st1 := { st with mails := zG st.mails z ++ (if rN ns R (p.lb a n) n e s v then tW ns W a n (pH ns n e s v) ns.length else []), log := st.log ++ [⟨a, ⟨n, false, e, s, -1⟩ :: tK ns R p a n e s v⟩], evs := st.evs ++ [⟨1, a, n, i, e, s, v⟩] }) (q := ⟨n, false, e, s, -1⟩ :: tK ns R p a n e s v) ⟨rfl, rfl⟩ ⟨rfl, rfl⟩
  refine ⟨h.ep, h.cl, fun b m => ?_, fun b m h5 y => ?_, fun b m => ?_, fun b m e' s' he' hs' => ?_, fun b m e' s' g hm6 he' hs' hg => ?_, c1, c2, h.gv, ?_⟩
  · show (if rN ns R (p.lb a n) n e s v then jB ns W a n (pH ns n e s v) (jJ p a n i).wt ns.length else (jJ p a n i).wt) b m = _
    rw [hpt]
    cases hu : rN ns R (p.lb a n) n e s v with
    | true => simp only [if_true]; exact (cG ns W a ha n _ _ ns.length b m).symm
    | false => simp
  · rw [hme]
    show wH ((if (qV ns n).kind == 5 then (tB (jJ p a n i) a n ⟨e, s, v⟩).lb else p.lb) b m) y ((if (qV ns n).kind == 5 then (tB (jJ p a n i) a n ⟨e, s, v⟩).lb else p.lb) b m).length = _
    by_cases hn5 : (qV ns n).kind = 5
    · rw [if_pos (by simpa using hn5)]
      have hold := h.lb a n hn5 ⟨e, s, v⟩
      have eL : (tB (jJ p a n i) a n ⟨e, s, v⟩).lb = if wH (p.lb a n) ⟨e, s, v⟩ (p.lb a n).length then p.lb else kY p.lb a n (p.lb a n ++ [⟨e, s, v⟩]) := by
        unfold tB; show PSt.lb (if wH (p.lb a n) ⟨e, s, v⟩ (p.lb a n).length then _ else _) = _; split <;> rfl
      rw [eL]
      cases hL : wH (p.lb a n) ⟨e, s, v⟩ (p.lb a n).length with
      | true =>
        rw [if_pos rfl, h.lb b m h5 y]
        cases hc : (decide (b = a ∧ m = n) && (((e : Int) == y.node) && (((s : Int) == y.epoch) && (v == y.value)))) with
        | false => simp
        | true =>
          simp only [Bool.and_eq_true, decide_eq_true_eq, beq_iff_eq] at hc
          obtain ⟨⟨rfl, rfl⟩, q1, q2, q3⟩ := hc
          rw [← q1, ← q2, ← q3, ← hold, hL]; rfl
      | false =>
        rw [if_neg (by simp)]
        unfold kY
        by_cases q : b = a ∧ m = n
        · obtain ⟨rfl, rfl⟩ := q
          rw [if_pos ⟨rfl, rfl⟩, lbTo_snoc, h.lb b m h5 y]
          simp
        · rw [if_neg q, h.lb b m h5 y]
          simp [q]
    · rw [if_neg (by simpa using hn5), h.lb b m h5 y]
      have : ¬ (b = a ∧ m = n) := fun q => hn5 (by rw [← q.2]; exact h5)
      simp [this]
  · have h1 := h.lbn b m
    have h2 := h.lbn a n
    show ((if (qV ns n).kind == 5 then (tB (jJ p a n i) a n ⟨e, s, v⟩).lb else p.lb) b m).length ≤ (st.evs ++ [(⟨1, a, n, i, e, s, v⟩ : Ev)]).length
    rw [List.length_append, List.length_singleton]
    split
    · unfold tB
      split
      · show (p.lb b m).length ≤ _; omega
      · show (kY p.lb a n (p.lb a n ++ [⟨e, s, v⟩]) b m).length ≤ _
        unfold kY
        split
        · rw [List.length_append]; simp; omega
        · omega
    · omega
  · rw [hac]
    show (if (qV ns n).kind == 6 then kY p.tl a n (yP (p.tl a n) e s v (qV ns n).k) else p.tl) b m (e' * 4 + s') = _
    by_cases hn6 : (qV ns n).kind = 6
    · rw [if_pos (by simpa using hn6)]
      unfold kY
      by_cases q1 : b = a ∧ m = n
      · obtain ⟨rfl, rfl⟩ := q1
        rw [if_pos ⟨rfl, rfl⟩]
        unfold yP
        by_cases q2 : e' = e ∧ s' = s
        · obtain ⟨rfl, rfl⟩ := q2
          rw [if_pos rfl, if_pos ⟨rfl, rfl, rfl, rfl⟩, hn6]
          simp
        · rw [if_neg (by omega), if_neg (by omega), if_neg (by omega), if_neg (by omega)]
          exact h.wn b m e' s' he' hs'
      · rw [if_neg q1, if_neg (by omega)]
        exact h.wn b m e' s' he' hs'
    · rw [if_neg (by simpa using hn6), h.wn b m e' s' he' hs']
      by_cases q : b = a ∧ m = n ∧ e' = e ∧ s' = s
      · obtain ⟨_, rfl, _⟩ := q
        rw [show ((qV ns m).kind == 6) = false by simpa using hn6]; rfl
      · rw [if_neg q]
  · rw [hac]
    show (if (qV ns n).kind == 6 then kY p.tl a n (yP (p.tl a n) e s v (qV ns n).k) else p.tl) b m (24 + e' * 64 + s' * 16 + g) = _ ∧ (if (qV ns n).kind == 6 then kY p.tl a n (yP (p.tl a n) e s v (qV ns n).k) else p.tl) b m (24 + e' * 64 + s' * 16 + 8 + g) = _
    by_cases hn6 : (qV ns n).kind = 6
    · rw [if_pos (by simpa using hn6)]
      unfold kY
      by_cases q1 : b = a ∧ m = n
      · obtain ⟨rfl, rfl⟩ := q1
        rw [if_pos ⟨rfl, rfl⟩]
        obtain ⟨hk1, hk8⟩ := hk.2.1 hn6
        have hg0 : (v % (qV ns m).k).toNat < 8 := by
          have := Int.emod_lt_of_pos v (show 0 < (qV ns m).k by omega)
          omega
        have hge : v % (qV ns m).k = ((v % (qV ns m).k).toNat : Int) := by
          have := Int.emod_nonneg v (show (qV ns m).k ≠ 0 by omega)
          omega
        by_cases q2 : e' = e ∧ s' = s
        · obtain ⟨rfl, rfl⟩ := q2
          obtain ⟨s1, s2⟩ := gsum_snoc (jS st.evs b m e' s' st.evs.length) v (qV ns m).k g
          rw [if_pos (⟨rfl, rfl, rfl, rfl⟩ : b = b ∧ m = m ∧ e' = e' ∧ s' = s'), s1, s2]
          obtain ⟨o1, o2⟩ := h.gs b m e' s' g hm6 he' hs' hg
          unfold yP
          by_cases q3 : g = (v % (qV ns m).k).toNat
          · rw [if_neg (by omega), if_neg (by omega), if_pos (by omega), ← q3, o1, if_pos (by rw [hge, ← q3]; simp), if_neg (by omega), if_pos rfl, if_pos (by rw [hge, ← q3]; simp)]
            exact ⟨rfl, rfl⟩
          · have hno : ((v % (qV ns m).k) == (g : Int)) = false := by rw [hge]; simp; omega
            rw [hno]
            simp only [Bool.false_eq_true, if_false]
            rw [if_neg (by omega), if_neg (by omega), if_neg (by omega), if_neg (by omega), if_neg (by omega), if_neg (by omega)]
            exact ⟨o1, o2⟩
        · unfold yP
          rw [if_neg (show ¬ (b = b ∧ m = m ∧ e' = e ∧ s' = s) by omega), if_neg (by omega), if_neg (by omega), if_neg (by omega), if_neg (by omega), if_neg (by omega), if_neg (by omega)]
          exact h.gs b m e' s' g hm6 he' hs' hg
      · rw [if_neg q1, if_neg (show ¬ (b = a ∧ m = n ∧ e' = e ∧ s' = s) by omega)]
        exact h.gs b m e' s' g hm6 he' hs' hg
    · have q : ¬ (b = a ∧ m = n ∧ e' = e ∧ s' = s) := fun q => hn6 (by rw [← q.2.1]; exact hm6)
      rw [if_neg (by simpa using hn6), if_neg q]
      exact h.gs b m e' s' g hm6 he' hs' hg
  · rw [pM]
    show (if (qV ns n).kind == 7 then p.rc ++ [⟨n, a, e, s, v⟩] else p.rc) = _
    rw [h.rc]
    simp only [beq_self_eq_true, Bool.true_and, Int.toNat_natCast]
    split
    · rfl
    · simp
end Go.Proofs.Ytfemleimkbjehaa
