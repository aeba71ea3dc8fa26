import Derived.Test.YtfemleimkbjehaaGreatJ37
import Derived.Test.YtfemleimkbjehaaGreatRunO
namespace Go.Proofs.YtfemleimkbjehaaGreat
set_option linter.unusedVariables false
set_option linter.unusedSimpArgs false
open Go.RowKit

theorem POwn.gave {w : World} {S : Nat → Prop} {pb : Nat} {x : PX} {ns : List Nd} {R W : Nat} {D : Nat → Nat → Int} {st : RSt} {lim : Nat} (wk n v : Int) (hO : POwn w S pb x ns R W D (pgiveS ns W (pstOf ns W st lim) wk n v)) (ht : st.told = fun _ _ => 0) (hf : ∀ i j : Nat, (waitL (giveS ns W st wk n v).mails i j).length ≤ 1000000) (hl : lim + W ≤ 1000000) : POwn w S pb x ns R W D (pstOf ns W (giveS ns W st wk n v) (lim + W)) := by
  by_cases hE : giveE ns W st.opened wk n = 0
  · have h0 : psrcE ns W (pstOf ns W st lim).cl wk n = 0 := by
      rw [psrcE_eq]
      unfold giveE at hE
      split at hE
      · rename_i h; simp at h; exact absurd hE h
      · rename_i h; simpa using h
    obtain ⟨i, m, rfl, rfl, hi, hm⟩ := psrcE_zero h0
    have e1 : pgiveS ns W (pstOf ns W st lim) i m v = pgiveSt ns W (pstOf ns W st lim) i m v := by
      unfold pgiveS; rw [pgiveE_eq, hE]; rfl
    have e2 : giveS ns W st i m v = giveSt ns W st i m v (doneTo st.opened i m 2 st.opened.length) := by
      unfold giveS; rw [hE]; rfl
    rw [e1] at hO
    rw [e2] at hf ⊢
    refine hO.congr (fun a b ha hb => ⟨?_, ?_, ?_⟩) (fun a ha k hk => ?_) ?_ (by simp [pgiveSt, pstOf]) ⟨hf, by simpa [pstOf] using hl⟩
    · simp only [pstOf, pgiveSt, giveSt]
      rw [doneTo_snoc]
      simp
    · refine decide_eq_decide.2 ?_
      simp only [giveSt]
      rw [doneTo_snoc]
      simp
    · simp only [pstOf, pgiveSt, giveSt]
      exact waitL_put ns W i hi m _ st.mails ns.length a b
    · simp only [pstOf, pgiveSt, giveSt, ht]
      rw [tabLog_snoc ns 4 W st.log _ a i rfl]
      unfold upd1
      split
      · rename_i e; subst e; rfl
      · rfl
    · simp only [pstOf, pgiveSt, giveSt]
      rw [giveTo_snoc]
      simp
  · have e1 : pgiveS ns W (pstOf ns W st lim) wk n v = pstOf ns W st lim := by
      unfold pgiveS; rw [pgiveE_eq, if_neg (by simpa using hE)]
    have e2 : giveS ns W st wk n v = st := by
      unfold giveS; rw [if_neg (by simpa using hE)]
    rw [e1] at hO
    rw [e2]
    exact hO.limUp (by simp [pstOf]) hl
theorem POwn.advanced {w : World} {S : Nat → Prop} {pb : Nat} {x : PX} {ns : List Nd} {R W : Nat} {D : Nat → Nat → Int} {st : RSt} {lim : Nat} (wk n : Int) (hO : POwn w S pb x ns R W D (padvS ns W (pstOf ns W st lim) wk n)) (ht : st.told = fun _ _ => 0) (hf : ∀ i j : Nat, (waitL st.mails i j).length ≤ 1000000) (hl : lim + W ≤ 1000000) : POwn w S pb x ns R W D (pstOf ns W (advS ns W st wk n) (lim + W)) := by
  by_cases hE : advE ns W st.opened wk n = 0
  · have h0 : psrcE ns W (pstOf ns W st lim).cl wk n = 0 := by
      rw [psrcE_eq]
      unfold advE at hE
      split at hE
      · rename_i h; simp at h; exact absurd hE h
      · rename_i h; simpa using h
    obtain ⟨i, m, rfl, rfl, hi, hm⟩ := psrcE_zero h0
    have e1 : padvS ns W (pstOf ns W st lim) i m = padvSt W (pstOf ns W st lim) i m := by
      unfold padvS; rw [padvE_eq, hE]; rfl
    have e2 : advS ns W st i m = advSt st i m (doneTo st.opened i m 2 st.opened.length) := by
      unfold advS; rw [hE]; rfl
    rw [e1] at hO
    rw [e2]
    refine hO.congr (fun a b ha hb => ⟨?_, ?_, ?_⟩) (fun a ha k hk => ?_) ?_ (by simp [padvSt, pstOf]) ⟨hf, by simpa [pstOf] using hl⟩
    · simp only [pstOf, padvSt, advSt]
      rw [doneTo_snoc]
      unfold upd2
      by_cases e : a = i ∧ b = m
      · obtain ⟨rfl, rfl⟩ := e; simp
      · rw [if_neg e]
        have : ((i : Int) == (a : Int) && ((m : Int) == (b : Int)) && ((2 : Int) == 2)) = false := by
          rw [Bool.eq_false_iff]; intro h; simp at h; omega
        simp only [this]; simp
    · refine decide_eq_decide.2 ?_
      simp only [advSt]
      rw [doneTo_snoc]
      simp
    · rfl
    · simp only [pstOf, padvSt, advSt, ht]
      rw [tabLog_snoc ns 4 W st.log _ a i rfl]
      unfold upd1
      split
      · rename_i e; subst e; rfl
      · rfl
    · simp only [pstOf, padvSt, advSt]
      rw [giveTo_snoc]
      simp
  · have e1 : padvS ns W (pstOf ns W st lim) wk n = pstOf ns W st lim := by
      unfold padvS; rw [padvE_eq, if_neg (by simpa using hE)]
    have e2 : advS ns W st wk n = st := by
      unfold advS; rw [if_neg (by simpa using hE)]
    rw [e1] at hO
    rw [e2]
    exact hO.limUp (by simp [pstOf]) hl
theorem POwn.closed {w : World} {S : Nat → Prop} {pb : Nat} {x : PX} {ns : List Nd} {R W : Nat} {D : Nat → Nat → Int} {st : RSt} {lim : Nat} (wk n : Int) (hO : POwn w S pb x ns R W D (pclsS ns W (pstOf ns W st lim) wk n)) (ht : st.told = fun _ _ => 0) (hf : ∀ i j : Nat, (waitL st.mails i j).length ≤ 1000000) (hl : lim + W ≤ 1000000) : POwn w S pb x ns R W D (pstOf ns W (clsS ns W st wk n) (lim + W)) := by
  by_cases hE : sourceE ns W st.opened wk n = 0
  · have h0 : psrcE ns W (pstOf ns W st lim).cl wk n = 0 := by rw [psrcE_eq]; exact hE
    obtain ⟨i, m, rfl, rfl, hi, hm⟩ := psrcE_zero h0
    have e1 : pclsS ns W (pstOf ns W st lim) i m = pclsSt W (pstOf ns W st lim) i m := by
      unfold pclsS; rw [h0]; rfl
    have e2 : clsS ns W st i m = clsSt st i m (doneTo st.opened i m 2 st.opened.length) := by
      unfold clsS; rw [hE]; rfl
    rw [e1] at hO
    rw [e2]
    refine hO.congr (fun a b ha hb => ⟨?_, ?_, ?_⟩) (fun a ha k hk => ?_) ?_ (by simp [pclsSt, pstOf]) ⟨hf, by simpa [pstOf] using hl⟩
    · simp only [pstOf, pclsSt, clsSt]
      rw [doneTo_snoc]
      simp
    · have hd := doneTo_snoc st.opened ⟨(m : Int), (i : Int), 3⟩ a b 3
      by_cases e : a = i ∧ b = m
      · obtain ⟨rfl, rfl⟩ := e
        have h2 : (pclsSt W (pstOf ns W st lim) a b).cl a b = true := by simp only [pclsSt]; exact upd2_eq _ _ _ _
        rw [h2]
        refine decide_eq_true ?_
        simp only [clsSt]
        rw [hd]
        simp
      · have h2 : (pclsSt W (pstOf ns W st lim) i m).cl a b = (pstOf ns W st lim).cl a b := by simp only [pclsSt]; exact upd2_ne _ _ e
        rw [h2]
        refine decide_eq_decide.2 ?_
        simp only [clsSt]
        rw [hd]
        have : ((i : Int) == (a : Int) && ((m : Int) == (b : Int)) && ((3 : Int) == 3)) = false := by
          rw [Bool.eq_false_iff]; intro h; simp at h; omega
        rw [this]; simp
    · rfl
    · simp only [pstOf, pclsSt, clsSt, ht]
      rw [tabLog_snoc ns 4 W st.log _ a i rfl]
      unfold upd1
      split
      · rename_i e; subst e; rfl
      · rfl
    · simp only [pstOf, pclsSt, clsSt]
      rw [giveTo_snoc]
      simp
  · have h0 : psrcE ns W (pstOf ns W st lim).cl wk n ≠ 0 := by rw [psrcE_eq]; exact hE
    have e1 : pclsS ns W (pstOf ns W st lim) wk n = pstOf ns W st lim := by
      unfold pclsS; rw [if_neg (by simpa using h0)]
    have e2 : clsS ns W st wk n = st := by
      unfold clsS; rw [if_neg (by simpa using hE)]
    rw [e1] at hO
    rw [e2]
    exact hO.limUp (by simp [pstOf]) hl
end Go.Proofs.YtfemleimkbjehaaGreat
namespace Go.Proofs.YtfemleimkbjehaaGreat
set_option linter.unusedVariables false
set_option linter.unusedSimpArgs false
open Go.RowKit

theorem spotN_inj {R n e s n' e' s' : Nat} {o o' : Bool} (hR : 1 ≤ R ∧ R ≤ 4) (he : e < 6) (hs : s < R) (he' : e' < 6) (hs' : s' < R) (h : spotN R n e s o = spotN R n' e' s' o') : n = n' ∧ e = e' ∧ s = s' ∧ o = o' := by
  unfold spotN at h
  have : R = 1 ∨ R = 2 ∨ R = 3 ∨ R = 4 := by omega
  rcases this with rfl | rfl | rfl | rfl <;> cases o <;> cases o' <;> simp at h ⊢ <;> omega
/-- The program's table and the reference's say the same. -/
def TabRel (L R : Nat) (Tp Tr : Nat → Int) : Prop := ∀ n e s o, n < 8 → e < 6 → s < 4 → (n < L → s < R → Tp (spotN 4 n e s o) = Tr (spotN R n e s o)) ∧ (L ≤ n ∨ R ≤ s → Tp (spotN 4 n e s o) = 0)
theorem TabRel.upd {L R : Nat} {Tp Tr : Nat → Int} (h : TabRel L R Tp Tr) (hR : 1 ≤ R ∧ R ≤ 4) {n e s : Nat} {o : Bool} (hn : n < L) (he : e < 6) (hs : s < R) (v : Int) : TabRel L R (updT Tp (spotN 4 n e s o) v) (updT Tr (spotN R n e s o) v) := by
  intro n' e' s' o' hn' he' hs'
  obtain ⟨h1, h2⟩ := h n' e' s' o' hn' he' hs'
  by_cases hq : n' = n ∧ e' = e ∧ s' = s ∧ o' = o
  · obtain ⟨rfl, rfl, rfl, rfl⟩ := hq
    exact ⟨fun _ _ => by rw [updT_eq, updT_eq], fun h => by omega⟩
  · have d4 : spotN 4 n' e' s' o' ≠ spotN 4 n e s o := fun e0 => hq (by
      obtain ⟨a, b, c, d⟩ := spotN_inj ⟨by omega, by omega⟩ he' hs' he (by omega) e0
      exact ⟨a, b, c, d⟩)
    refine ⟨fun a b => ?_, fun a => by rw [updT_ne _ _ d4]; exact h2 a⟩
    have dR : spotN R n' e' s' o' ≠ spotN R n e s o := fun e0 => hq (by
      obtain ⟨a, b, c, d⟩ := spotN_inj hR he' b he hs e0
      exact ⟨a, b, c, d⟩)
    rw [updT_ne _ _ d4, updT_ne _ _ dR]
    exact h1 a b
theorem TabRel.get {L R : Nat} {Tp Tr : Nat → Int} (h : TabRel L R Tp Tr) (hL : L ≤ 8) (hR : R ≤ 4) {n e s : Nat} {o : Bool} (hn : n < L) (he : e < 6) (hs : s < R) : Tp (spotN 4 n e s o) = Tr (spotN R n e s o) := (h n e s o (by omega) he (by omega)).1 hn hs
theorem TabRel.src {ns : List Nd} {R W : Nat} (hL : ns.length ≤ 8) (hR : 1 ≤ R ∧ R ≤ 4) : ∀ k, k ≤ ns.length → TabRel ns.length R (tabSrc ns 4 W k) (tabSrc ns R W k) := by
  intro k
  induction k with
  | zero => intro _ n e s o _ _ _; exact ⟨fun _ _ => rfl, fun _ => rfl⟩
  | succ k ih =>
    intro hk
    unfold tabSrc
    split
    · exact (ih (by omega)).upd hR (by omega) (by omega) (by omega) _
    · exact ih (by omega)
theorem TabRel.pts {L R : Nat} {Tp Tr : Nat → Int} {ps : List Pt} (h : TabRel L R Tp Tr) (hL : L ≤ 8) (hR : 1 ≤ R ∧ R ≤ 4) (hok : ∀ j, j < ps.length → PtOk L R (ptn ps j)) : ∀ k, k ≤ ps.length → TabRel L R (tabPts 4 Tp ps k) (tabPts R Tr ps k) := by
  intro k
  induction k with
  | zero => intro _; exact h
  | succ k ih =>
    intro hk
    have hi := ih (by omega)
    obtain ⟨n, e, s, h1, h2, h3, h4, h5, h6⟩ := hok k (by omega)
    have e4 : spP 4 (ptn ps k) = spotN 4 n e s (ptn ps k).out := by unfold spP; rw [h1, h3, h5]; rfl
    have eR : spP R (ptn ps k) = spotN R n e s (ptn ps k).out := by unfold spP; rw [h1, h3, h5]; rfl
    unfold tabPts
    rw [e4, eR, hi.get hL hR.2 h2 h4 h6]
    exact hi.upd hR h2 h4 h6 _
theorem TabRel.log {ns : List Nd} {R W : Nat} {cs : List Cg} {told : Nat → Nat → Int} {w : Nat} (hL : ns.length ≤ 8) (hR : 1 ≤ R ∧ R ≤ 4) (hok : ∀ i, i < cs.length → CgOk ns.length R W (cgn cs i)) : ∀ k, k ≤ cs.length → TabRel ns.length R (tabLog ns 4 W cs told w k) (tabLog ns R W cs told w k) := by
  intro k
  induction k with
  | zero => intro _; exact TabRel.src hL hR _ (Nat.le_refl _)
  | succ k ih =>
    intro hk
    unfold tabLog
    split
    · exact ih (by omega)
    · exact (ih (by omega)).pts hL hR (hok k (by omega)).2 _ (Nat.le_refl _)
theorem vS_rel {L R : Nat} {Tp Tr : Nat → Int} (h : TabRel L R Tp Tr) (hL : L ≤ 8) (hR : R ≤ 4) {n k e : Nat} (hn : n < L) (he : e < 6) : vS Tp 4 n k e 4 = vS Tr R n k e R := by
  have a1 : ∀ s, s ≤ R → vS Tp 4 n k e s = vS Tr R n k e s := by
    intro s
    induction s with
    | zero => intro _; rfl
    | succ s ih => intro hs; rw [vS, vS, ih (by omega), h.get hL hR hn he (by omega)]
  have a2 : ∀ d, R + d ≤ 4 → vS Tp 4 n k e (R + d) = vS Tp 4 n k e R := by
    intro d
    induction d with
    | zero => intro _; rfl
    | succ d ih =>
      intro hd
      rw [← Nat.add_assoc, vS, (h n e (R + d) (kB k) (by omega) he (by omega)).2 (.inr (by omega)), ih (by omega)]
      rfl
  have := a2 (4 - R) (by omega)
  rw [show R + (4 - R) = 4 by omega] at this
  rw [this, a1 R (Nat.le_refl _)]
theorem vE_rel {L R : Nat} {Tp Tr : Nat → Int} (h : TabRel L R Tp Tr) (hL : L ≤ 8) (hR : R ≤ 4) {n k : Nat} (hn : n < L) : ∀ e, e ≤ 6 → vE Tp 4 n k e = vE Tr R n k e := by
  intro e
  induction e with
  | zero => intro _; rfl
  | succ e ih => intro he; rw [vE, vE, ih (by omega), vS_rel h hL hR hn (by omega)]
theorem vE_none {L R : Nat} {Tp Tr : Nat → Int} (h : TabRel L R Tp Tr) {n k : Nat} (hn : L ≤ n) (h8 : n < 8) : ∀ e, e ≤ 6 → vE Tp 4 n k e = [] := by
  intro e
  induction e with
  | zero => intro _; rfl
  | succ e ih =>
    intro he
    have a : ∀ s, s ≤ 4 → vS Tp 4 n k e s = [] := by
      intro s
      induction s with
      | zero => intro _; rfl
      | succ s ih2 => intro hs; rw [vS, (h n e s (kB k) h8 (by omega) (by omega)).2 (.inl hn), ih2 (by omega)]; rfl
    rw [vE, ih (by omega), a 4 (by omega)]; rfl
/-- The views are the same. -/
theorem view_eq {L R : Nat} {Tp Tr : Nat → Int} (h : TabRel L R Tp Tr) (hL : L ≤ 8) (hR : R ≤ 4) : vN Tp 4 8 = vN Tr R L := by
  have a1 : ∀ n, n ≤ L → vN Tp 4 n = vN Tr R n := by
    intro n
    induction n with
    | zero => intro _; rfl
    | succ n ih =>
      intro hn
      rw [vN, vN, ih (by omega)]
      simp only [vK]
      rw [vE_rel h hL hR (by omega) 6 (by omega), vE_rel h hL hR (by omega) 6 (by omega)]
  have a2 : ∀ d, L + d ≤ 8 → vN Tp 4 (L + d) = vN Tp 4 L := by
    intro d
    induction d with
    | zero => intro _; rfl
    | succ d ih =>
      intro hd
      rw [← Nat.add_assoc, vN, ih (by omega)]
      simp only [vK]
      rw [vE_none h (by omega) (by omega) 6 (by omega), vE_none h (by omega) (by omega) 6 (by omega)]
      simp
  have := a2 (8 - L) (by omega)
  rw [show L + (8 - L) = 8 by omega] at this
  rw [this, a1 L (Nat.le_refl _)]
end Go.Proofs.YtfemleimkbjehaaGreat
namespace Go.Proofs.YtfemleimkbjehaaGreat
set_option linter.unusedVariables false
set_option linter.unusedSimpArgs false
open Go.RowKit

theorem inTo_iff {ts : List Tm} {e s : Nat} : ∀ k, inTo ts e s k = true ↔ ∃ i, i < k ∧ (tmn ts i).e = (e : Int) ∧ (tmn ts i).s = (s : Int) := by
  intro k
  induction k with
  | zero => simp [inTo]
  | succ k ih =>
    rw [inTo, Bool.or_eq_true, ih]
    constructor
    · rintro (⟨i, h1, h2⟩ | h)
      · exact ⟨i, by omega, h2⟩
      · simp only [eqB, Bool.and_eq_true, beq_iff_eq] at h
        exact ⟨k, by omega, h⟩
    · rintro ⟨i, h1, h2⟩
      by_cases e0 : i = k
      · subst e0; right; simp only [eqB, Bool.and_eq_true, beq_iff_eq]; exact h2
      · exact .inl ⟨i, by omega, h2⟩
theorem lowTo_iff {ts : List Tm} {e s : Nat} : ∀ k, lowTo ts e s k = true ↔ ∃ i, i < k ∧ ¬ ((tmn ts i).e = (e : Int) ∧ (tmn ts i).s = (s : Int)) ∧ (tmn ts i).e ≤ (e : Int) ∧ (tmn ts i).s ≤ (s : Int) := by
  intro k
  induction k with
  | zero => simp [lowTo]
  | succ k ih =>
    rw [lowTo, Bool.or_eq_true, ih]
    constructor
    · rintro (⟨i, h1, h2⟩ | h)
      · exact ⟨i, by omega, h2⟩
      · simp only [eqB, upB, Bool.and_eq_true, Bool.not_eq_true', Bool.and_eq_false_iff, beq_eq_false_iff_ne, decide_eq_true_eq] at h
        exact ⟨k, by omega, fun h0 => by rcases h.1 with h1 | h1; exact h1 h0.1; exact h1 h0.2, h.2⟩
    · rintro ⟨i, h1, h2, h3⟩
      by_cases e0 : i = k
      · subst e0
        right
        simp only [eqB, upB, Bool.and_eq_true, Bool.not_eq_true', Bool.and_eq_false_iff, beq_eq_false_iff_ne, decide_eq_true_eq]
        refine ⟨?_, h3⟩
        by_cases h4 : (tmn ts i).e = (e : Int)
        · exact .inr fun h5 => h2 ⟨h4, h5⟩
        · exact .inl h4
      · exact .inl ⟨i, by omega, h2, h3⟩
theorem belE_spec (C : Nat → Nat → Bool) : ∀ e, (∀ e' s, e' < e → s < belE C e → C e' s = false) ∧ (belE C e = 4 ∨ ∃ e', e' < e ∧ C e' (belE C e) = true) := by
  intro e
  induction e with
  | zero => exact ⟨fun e' s h => by omega, .inl rfl⟩
  | succ e ih =>
    obtain ⟨h1, h2⟩ := ih
    have hle := fstS_le (C e) (belE C e)
    refine ⟨fun e' s he hs => ?_, ?_⟩
    · rw [belE] at hs
      by_cases e0 : e' = e
      · subst e0; exact fstS_no _ _ s hs
      · exact h1 e' s (by omega) (by omega)
    · rw [belE]
      by_cases hf : fstS (C e) (belE C e) < belE C e
      · exact .inr ⟨e, by omega, fstS_yes _ _ hf⟩
      · have : fstS (C e) (belE C e) = belE C e := by omega
        rw [this]
        rcases h2 with h2 | ⟨e', h3, h4⟩
        · exact .inl h2
        · exact .inr ⟨e', by omega, h4⟩
/-- All of the times are times. -/
def TmsOk (R : Nat) (ts : List Tm) : Prop := ∀ i, i < ts.length → ∃ e s : Nat, (tmn ts i).e = e ∧ e < 6 ∧ (tmn ts i).s = s ∧ s < R
theorem inT_iff {ts : List Tm} {e s : Nat} : inT ts e s = true ↔ ∃ i, i < ts.length ∧ (tmn ts i).e = (e : Int) ∧ (tmn ts i).s = (s : Int) := inTo_iff _
theorem least_iff {ts : List Tm} {R e s : Nat} (hok : TmsOk R ts) (hR : R ≤ 4) : (inTo ts e s ts.length && !lowTo ts e s ts.length) = true ↔ (s = fstS (inT ts e) (belE (inT ts) e) ∧ fstS (inT ts e) (belE (inT ts) e) < belE (inT ts) e) := by
  obtain ⟨b1, b2⟩ := belE_spec (inT ts) e
  have b4 := belE_le (inT ts) e
  rw [Bool.and_eq_true, Bool.not_eq_true']
  constructor
  · rintro ⟨h1, h2⟩
    have h1' : inT ts e s = true := h1
    have hs4 : s < 4 := by
      obtain ⟨i, hi, _, h4⟩ := inT_iff.1 h1'
      obtain ⟨_, s', _, _, h5, h6⟩ := hok i hi
      omega
    have hno : ∀ e' s', e' ≤ e → s' ≤ s → ¬ (e' = e ∧ s' = s) → inT ts e' s' = false := by
      intro e' s' he hs hne
      cases hq : inT ts e' s' with
      | false => rfl
      | true =>
        obtain ⟨i, hi, h3, h4⟩ := inT_iff.1 hq
        have : lowTo ts e s ts.length = true := (lowTo_iff _).2 ⟨i, hi, fun h => hne (by omega), by omega, by omega⟩
        rw [h2] at this
        cases this
    have hsB : s < belE (inT ts) e := by
      rcases b2 with b2 | ⟨e', he', hc⟩
      · omega
      · rcases Nat.lt_or_ge s (belE (inT ts) e) with h | h
        · exact h
        · rw [hno e' _ (by omega) h (by omega)] at hc; cases hc
    have hF := fstS_eq (c := inT ts e) hsB h1' (fun j hj => hno e j (Nat.le_refl _) (by omega) (by omega))
    exact ⟨hF.symm, by omega⟩
  · rintro ⟨rfl, hF⟩
    have hc := fstS_yes _ _ hF
    refine ⟨hc, ?_⟩
    cases hq : lowTo ts e (fstS (inT ts e) (belE (inT ts) e)) ts.length with
    | false => rfl
    | true =>
      obtain ⟨i, hi, hne, h1, h2⟩ := (lowTo_iff _).1 hq
      obtain ⟨e', s', h3, _, h4, _⟩ := hok i hi
      have hin : inT ts e' s' = true := inT_iff.2 ⟨i, hi, h3, h4⟩
      by_cases he : e' = e
      · subst he
        have hlt : s' < fstS (inT ts e') (belE (inT ts) e') := by omega
        rw [fstS_no _ _ s' hlt] at hin
        cases hin
      · rw [b1 e' s' (by omega) (by omega)] at hin
        cases hin
theorem frS_eq {ts : List Tm} {R e : Nat} (hok : TmsOk R ts) (hR : R ≤ 4) : ∀ s, frS ts e s = if fstS (inT ts e) (belE (inT ts) e) < belE (inT ts) e ∧ fstS (inT ts e) (belE (inT ts) e) < s then [⟨e, (fstS (inT ts e) (belE (inT ts) e) : Nat)⟩] else [] := by
  intro s
  induction s with
  | zero => simp [frS]
  | succ s ih =>
    rw [frS, ih]
    by_cases h : (inTo ts e s ts.length && !lowTo ts e s ts.length) = true
    · obtain ⟨h1, h2⟩ := (least_iff hok hR).1 h
      rw [if_pos h, if_neg (by omega), if_pos ⟨h2, by omega⟩, ← h1]
      rfl
    · rw [if_neg h]
      by_cases hF : fstS (inT ts e) (belE (inT ts) e) < belE (inT ts) e
      · have hne : s ≠ fstS (inT ts e) (belE (inT ts) e) := fun h1 => h ((least_iff hok hR).2 ⟨h1, hF⟩)
        by_cases h3 : fstS (inT ts e) (belE (inT ts) e) < s
        · rw [if_pos ⟨hF, h3⟩, if_pos ⟨hF, by omega⟩]
        · rw [if_neg (by omega), if_neg (by omega)]
      · rw [if_neg (by omega), if_neg (by omega)]
/-- The frontiers are the same. -/
theorem frontier_eq {ts : List Tm} {R : Nat} (hok : TmsOk R ts) (hR : R ≤ 4) : ∀ e, lstE (inT ts) e = frE ts R e := by
  intro e
  induction e with
  | zero => rfl
  | succ e ih =>
    rw [lstE, frE, ih, frS_eq hok hR R]
    by_cases hF : fstS (inT ts e) (belE (inT ts) e) < belE (inT ts) e
    · have hc := fstS_yes _ _ hF
      have hlt : fstS (inT ts e) (belE (inT ts) e) < R := by
        obtain ⟨i, hi, _, h4⟩ := inT_iff.1 hc
        obtain ⟨_, s', _, _, h5, h6⟩ := hok i hi
        omega
      rw [if_pos hF, if_pos ⟨hF, hlt⟩]
    · rw [if_neg hF, if_neg (by omega), List.append_nil]
end Go.Proofs.YtfemleimkbjehaaGreat
namespace Go.Proofs.YtfemleimkbjehaaGreat
set_option linter.unusedVariables false
set_option linter.unusedSimpArgs false
open Go.RowKit

/-- What holds of the reference's run behind k steps. -/
structure Inv (ns : List Nd) (R W : Nat) (st : RSt) (k : Nat) : Prop where
  told : st.told = fun _ _ => 0
  op : st.opened.length ≤ k
  lg : st.log.length ≤ k
  gv : giveTo st.opened st.opened.length ≤ 20
  ml : st.mails.length ≤ 8 * giveTo st.opened st.opened.length
  ep : ∀ i n : Nat, doneTo st.opened i n 2 st.opened.length ≤ 5
  cg : ∀ i, i < st.log.length → CgOk ns.length R W (cgn st.log i) ∧ (cgn st.log i).pts.length ≤ 8
theorem Inv.zero (ns : List Nd) (R W : Nat) : Inv ns R W rst0 0 := ⟨rfl, by simp [rst0], by simp [rst0], by simp [rst0, giveTo], by simp [rst0, giveTo], fun _ _ => by simp [rst0, doneTo], fun i hi => by simp [rst0] at hi⟩
theorem Inv.more {ns : List Nd} {R W : Nat} {st : RSt} {k : Nat} (h : Inv ns R W st k) : Inv ns R W st (k + 1) := ⟨h.told, Nat.le_succ_of_le h.op, Nat.le_succ_of_le h.lg, h.gv, h.ml, h.ep, h.cg⟩
theorem cg_snoc {ns : List Nd} {R W : Nat} {cs : List Cg} {c : Cg} (h : ∀ i, i < cs.length → CgOk ns.length R W (cgn cs i) ∧ (cgn cs i).pts.length ≤ 8) (hc : CgOk ns.length R W c ∧ c.pts.length ≤ 8) : ∀ i, i < (cs ++ [c]).length → CgOk ns.length R W (cgn (cs ++ [c]) i) ∧ (cgn (cs ++ [c]) i).pts.length ≤ 8 := by
  intro i hi
  by_cases h1 : i < cs.length
  · rw [cgn_app h1]; exact h i h1
  · have : i = cs.length := by simp at hi; omega
    subst this
    rw [cgn_last]; exact hc
theorem putP_okR {ns : List Nd} {R : Nat} {n : Int} {m : Gv} {e : Nat} (he : m.node = e) (h6 : e < 6) (hr : m.epoch = 0) (hR : 1 ≤ R) : ∀ k, k ≤ ns.length → ∀ p ∈ putP ns n m k, PtOk ns.length R p := by
  intro k
  induction k with
  | zero => intro _ p hp; simp [putP] at hp
  | succ k ih =>
    intro hk p hp
    unfold putP at hp
    split at hp
    · rcases List.mem_append.1 hp with h | h
      · exact ih (by omega) p h
      · simp at h
        subst h
        exact ⟨k, e, 0, rfl, by omega, he, h6, by simpa using hr, by omega⟩
    · exact ih (by omega) p hp
theorem Inv.gave {ns : List Nd} {R W : Nat} {st : RSt} {k : Nat} (h : Inv ns R W st k) (h8 : ns.length ≤ 8) (hR : 1 ≤ R) (w n v : Int) : Inv ns R W (giveS ns W st w n v) (k + 1) := by
  by_cases hE : giveE ns W st.opened w n = 0
  · have h0 : psrcE ns W (pstOf ns W st 0).cl w n = 0 := by
      rw [psrcE_eq]
      unfold giveE at hE
      split at hE
      · rename_i h; simp at h; exact absurd hE h
      · rename_i h; simpa using h
    have h20 : giveTo st.opened st.opened.length < 20 := by
      unfold giveE at hE
      split at hE
      · rename_i h; simp at h; exact absurd hE h
      · split at hE
        · cases hE
        · rename_i h; simpa using h
    obtain ⟨i, m, rfl, rfl, hi, hm⟩ := psrcE_zero h0
    have e2 : giveS ns W st i m v = giveSt ns W st i m v (doneTo st.opened i m 2 st.opened.length) := by
      unfold giveS; rw [hE]; rfl
    rw [e2]
    have hep := h.ep i m
    have hg : giveTo (st.opened ++ [(⟨m, i, 1⟩ : Gv)]) (st.opened ++ [(⟨m, i, 1⟩ : Gv)]).length = giveTo st.opened st.opened.length + 1 := by rw [giveTo_snoc]; rfl
    have hpm := putM_len ns W i m ⟨(doneTo st.opened i m 2 st.opened.length : Nat), 0, v⟩ ns.length
    have hpp := putP_len ns m ⟨(doneTo st.opened i m 2 st.opened.length : Nat), 0, v⟩ ns.length
    have hop := h.op
    have hlg := h.lg
    have hml := h.ml
    refine ⟨h.told, by simp [giveSt]; omega, by simp [giveSt]; omega, ?_, ?_, fun a b => ?_, cg_snoc h.cg ⟨⟨⟨i, rfl, hi⟩, fun j hj => ?_⟩, ?_⟩⟩
    · simp only [giveSt]; rw [hg]; omega
    · simp only [giveSt]; rw [hg, List.length_append]; omega
    · simp only [giveSt]
      rw [doneTo_snoc]
      have := h.ep a b
      simp
      exact this
    · exact putP_okR rfl (by omega) rfl hR _ (Nat.le_refl _) _ (ptn_mem hj)
    · simp only; omega
  · have e2 : giveS ns W st w n v = st := by unfold giveS; rw [if_neg (by simpa using hE)]
    rw [e2]; exact h.more
theorem Inv.advanced {ns : List Nd} {R W : Nat} {st : RSt} {k : Nat} (h : Inv ns R W st k) (hR : 1 ≤ R) (w n : Int) : Inv ns R W (advS ns W st w n) (k + 1) := by
  by_cases hE : advE ns W st.opened w n = 0
  · have h0 : psrcE ns W (pstOf ns W st 0).cl w n = 0 := by
      rw [psrcE_eq]
      unfold advE at hE
      split at hE
      · rename_i h; simp at h; exact absurd hE h
      · rename_i h; simpa using h
    have h5 : doneTo st.opened w n 2 st.opened.length < 5 := by
      unfold advE at hE
      split at hE
      · rename_i h; simp at h; exact absurd hE h
      · split at hE
        · cases hE
        · rename_i h; simpa using h
    obtain ⟨i, m, rfl, rfl, hi, hm⟩ := psrcE_zero h0
    have e2 : advS ns W st i m = advSt st i m (doneTo st.opened i m 2 st.opened.length) := by
      unfold advS; rw [hE]; rfl
    rw [e2]
    have hop := h.op
    have hlg := h.lg
    have hg : giveTo (st.opened ++ [(⟨m, i, 2⟩ : Gv)]) (st.opened ++ [(⟨m, i, 2⟩ : Gv)]).length = giveTo st.opened st.opened.length := by rw [giveTo_snoc]; rfl
    refine ⟨h.told, by simp [advSt]; omega, by simp [advSt]; omega, ?_, ?_, fun a b => ?_, cg_snoc h.cg ⟨⟨⟨i, rfl, hi⟩, fun j hj => ?_⟩, by simp⟩⟩
    · simp only [advSt]; rw [hg]; exact h.gv
    · simp only [advSt]; rw [hg]; exact h.ml
    · simp only [advSt]
      rw [doneTo_snoc]
      have h1 := h.ep a b
      by_cases e : a = i ∧ b = m
      · obtain ⟨rfl, rfl⟩ := e; simp; omega
      · have : ((i : Int) == (a : Int) && ((m : Int) == (b : Int)) && ((2 : Int) == 2)) = false := by
          rw [Bool.eq_false_iff]; intro h; simp at h; omega
        simp only [this]; simpa using h1
    · simp only [List.length_cons, List.length_nil] at hj
      match j, hj with
      | 0, _ => exact ⟨m, doneTo st.opened i m 2 st.opened.length, 0, rfl, hm, rfl, by omega, rfl, by omega⟩
      | 1, _ => exact ⟨m, doneTo st.opened i m 2 st.opened.length + 1, 0, rfl, hm, by simp [ptn], by omega, rfl, by omega⟩
  · have e2 : advS ns W st w n = st := by unfold advS; rw [if_neg (by simpa using hE)]
    rw [e2]; exact h.more
theorem Inv.closed {ns : List Nd} {R W : Nat} {st : RSt} {k : Nat} (h : Inv ns R W st k) (hR : 1 ≤ R) (w n : Int) : Inv ns R W (clsS ns W st w n) (k + 1) := by
  by_cases hE : sourceE ns W st.opened w n = 0
  · have h0 : psrcE ns W (pstOf ns W st 0).cl w n = 0 := by rw [psrcE_eq]; exact hE
    obtain ⟨i, m, rfl, rfl, hi, hm⟩ := psrcE_zero h0
    have e2 : clsS ns W st i m = clsSt st i m (doneTo st.opened i m 2 st.opened.length) := by
      unfold clsS; rw [hE]; rfl
    rw [e2]
    have hop := h.op
    have hlg := h.lg
    have hep := h.ep i m
    have hg : giveTo (st.opened ++ [(⟨m, i, 3⟩ : Gv)]) (st.opened ++ [(⟨m, i, 3⟩ : Gv)]).length = giveTo st.opened st.opened.length := by rw [giveTo_snoc]; rfl
    refine ⟨h.told, by simp [clsSt]; omega, by simp [clsSt]; omega, ?_, ?_, fun a b => ?_, cg_snoc h.cg ⟨⟨⟨i, rfl, hi⟩, fun j hj => ?_⟩, by simp⟩⟩
    · simp only [clsSt]; rw [hg]; exact h.gv
    · simp only [clsSt]; rw [hg]; exact h.ml
    · simp only [clsSt]
      rw [doneTo_snoc]
      have := h.ep a b
      simp
      exact this
    · have : j = 0 := by simpa using hj
      subst this
      exact ⟨m, doneTo st.opened i m 2 st.opened.length, 0, rfl, hm, rfl, by omega, rfl, by omega⟩
  · have e2 : clsS ns W st w n = st := by unfold clsS; rw [if_neg (by simpa using hE)]
    rw [e2]; exact h.more
end Go.Proofs.YtfemleimkbjehaaGreat
namespace Go.Proofs.YtfemleimkbjehaaGreat
set_option linter.unusedVariables false
set_option linter.unusedSimpArgs false
open Go.RowKit

/-- A run of the program, the document's, and what the statement keeps, in step. -/
structure Duo (w : World) (K Sp Sr : Nat → Prop) (lb pb rb : Nat) (xp : PX) (xr : RX) (x : LX) (cnt : Int) (l : LL) (ns : List Nd) (R W : Nat) (st : RSt) (lim k : Nat) : Prop where
  lw : LW w K lb pb rb x cnt l
  po : POwn w Sp pb xp ns R W (farD ns) (pstOf ns W st lim)
  ro : ROwn w Sr rb xr ns R W (farD ns) st
  inv : Inv ns R W st k
  kp : ∀ b, K b → ¬ Sp b
  kr : ∀ b, K b → ¬ Sr b
  pr : ∀ b, Sp b → ¬ Sr b
  lm : lim ≤ 4 * k
  ct : 0 ≤ cnt ∧ cnt ≤ 1048576 + k
  km : l.m.length ≤ 4 * k ∧ l.p.length ≤ 4 * k ∧ l.t.length ≤ 4 * k ∧ l.r.length ≤ 4 * k
/-- All that it owns. -/
def uni (K Sp Sr : Nat → Prop) : Nat → Prop := fun b => K b ∨ Sp b ∨ Sr b
def Duo.After (w w' : World) (U : Nat → Prop) (lb : Nat) (ns : List Nd) (R W k : Nat) : Prop :=
  ∃ K Sp Sr pb rb xp xr x cnt l st lim, Duo w' K Sp Sr lb pb rb xp xr x cnt l ns R W st lim k ∧ Chg U w w' ∧ ∀ b, uni K Sp Sr b → U b ∨ w.heap.size ≤ b
theorem waitL_len (ms : List Ml) (w n : Int) : (waitL ms w n).length ≤ ms.length := by
  unfold waitL
  rw [List.length_map]
  exact waitTo_len ms w n _
theorem farD_bd (ns : List Nd) (h8 : ns.length ≤ 8) (a b : Nat) : -1 ≤ farD ns a b ∧ farD ns a b ≤ 1000 := by
  have := leastB_bd ns (b : Int) ns.length (a : Int)
  unfold farD
  omega
/-- Both runs take a step that changes them. -/
theorem Duo.both {w a1 b1 a2 w' : World} {K Sp Sr : Nat → Prop} {lb pb rb : Nat} {xp : PX} {xr : RX} {x : LX} {cnt : Int} {l : LL} {ns : List Nd} {R W : Nat} {st st' : RSt} {lim k : Nat} (h : Duo w K Sp Sr lb pb rb xp xr x cnt l ns R W st lim k)
    (h1 : Bw w a1) (hc1 : Chg Sp a1 b1) (hp : ∃ Sp' xp', POwn b1 Sp' pb xp' ns R W (farD ns) (pstOf ns W st' (lim + W)) ∧ ∀ b, Sp' b → Sp b ∨ a1.heap.size ≤ b) (h2 : Bw b1 a2) (hc2 : Chg Sr a2 w') (hr : ∃ Sr' xr', ROwn w' Sr' rb xr' ns R W (farD ns) st' ∧ ∀ b, Sr' b → Sr b ∨ a2.heap.size ≤ b) (hi : Inv ns R W st' (k + 1)) : Duo.After w w' (uni K Sp Sr) lb ns R W (k + 1) := by
  obtain ⟨Sp', xp', hP, hS⟩ := hp
  obtain ⟨Sr', xr', hR', hT⟩ := hr
  have z1 := h1.size
  have z2 := hc1.size
  have z3 := h2.size
  have z4 := hc2.size
  have kl := h.lw.klt
  have sl := h.po.slt
  have rl := h.ro.slt
  have hW := h.po.small
  have hPS := hP.slt
  have hCa : Chg (uni K Sp Sr) w b1 := (Chg.bw (S := uni K Sp Sr) h1).trans hc1 (fun b hb => .inl (.inr (.inl hb)))
  have hCb : Chg (uni K Sp Sr) w a2 := hCa.trans (Chg.bw (S := uni K Sp Sr) h2) (fun _ h => .inl h)
  have hCw : Chg (uni K Sp Sr) w w' := hCb.trans hc2 (fun b hb => .inl (.inr (.inr hb)))
  have hPw : POwn w' Sp' pb xp' ns R W (farD ns) (pstOf ns W st' (lim + W)) := (hP.bw h2).other hc2 fun b hb hs => by
    rcases hS b hb with h5 | h5
    · exact h.pr b h5 hs
    · have := rl b hs; omega
  have hLw : LW w' K lb pb rb x cnt l := (((h.lw.bw h1).other hc1 h.kp).bw h2).other hc2 h.kr
  have hl := h.lm
  have hct := h.ct
  have hkm := h.km
  refine ⟨K, Sp', Sr', pb, rb, xp', xr', x, cnt, l, st', lim + W, ⟨hLw, hPw, hR', hi, fun b hb hs => ?_, fun b hb hs => ?_, fun b hb hs => ?_, by omega, ⟨hct.1, by omega⟩, by omega⟩, hCw, fun b hb => ?_⟩
  · rcases hS b hs with h5 | h5
    · exact h.kp b hb h5
    · have := kl b hb; omega
  · rcases hT b hs with h5 | h5
    · exact h.kr b hb h5
    · have := kl b hb; omega
  · rcases hT b hs with h5 | h5
    · rcases hS b hb with h6 | h6
      · exact h.pr b h6 h5
      · have := rl b h5; omega
    · have := hPS b hb; omega
  · rcases hb with hb | hb | hb
    · exact .inl (.inl hb)
    · rcases hS b hb with h5 | h5
      · exact .inl (.inr (.inl h5))
      · exact .inr (by omega)
    · rcases hT b hb with h5 | h5
      · exact .inl (.inr (.inr h5))
      · exact .inr (by omega)
end Go.Proofs.YtfemleimkbjehaaGreat
