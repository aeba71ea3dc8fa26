import Derived.Test.YtfemleimkbjehaaGreatJ30
import Derived.Test.YtfemleimkbjehaaGreatJ5
import Derived.Test.YtfemleimkbjehaaGreatJ28
import Derived.Test.YtfemleimkbjehaaGreatJ29
set_option maxRecDepth 1000000
set_option maxHeartbeats 40000000
set_option linter.unusedVariables false
set_option linter.unusedSimpArgs false
namespace Go.Proofs.YtfemleimkbjehaaGreat
open Go.RowKit
theorem spotN_inj {R n e s n' e' s' : Nat} {o o' : Bool} (hR : 1 ≤ R ∧ R ≤ 4) (he : e < 6) (hs : s < R) (he' : e' < 6) (hs' : s' < R) (h : kN R n e s o = kN R n' e' s' o') : n = n' ∧ e = e' ∧ s = s' ∧ o = o' := by
  unfold kN at h
  have : R = 1 ∨ R = 2 ∨ R = 3 ∨ R = 4 := by omega
  rcases this with rfl | rfl | rfl | rfl <;> cases o <;> cases o' <;> simp at h ⊢ <;> omega
def TabRel (L R : Nat) (Tp Tr : Nat → Int) : Prop := ∀ n e s o, n < 8 → e < 6 → s < 4 → (n < L → s < R → Tp (kN 4 n e s o) = Tr (kN R n e s o)) ∧ (L ≤ n ∨ R ≤ s → Tp (kN 4 n e s o) = 0)
theorem TabRel.upd {L R : Nat} {Tp Tr : Nat → Int} (h : TabRel L R Tp Tr) (hR : 1 ≤ R ∧ R ≤ 4) {n e s : Nat} {o : Bool} (hn : n < L) (he : e < 6) (hs : s < R) (v : Int) : TabRel L R (updT Tp (kN 4 n e s o) v) (updT Tr (kN R n e s o) v) := by
  intro n' e' s' o' hn' he' hs'
  obtain ⟨h1, h2⟩ := h n' e' s' o' hn' he' hs'
  by_cases hq : n' = n ∧ e' = e ∧ s' = s ∧ o' = o
  · obtain ⟨rfl, rfl, rfl, rfl⟩ := hq
    exact ⟨fun _ _ => by rw [xW, xW], fun h => by omega⟩
  · have d4 : kN 4 n' e' s' o' ≠ kN 4 n e s o := fun e0 => hq (by
      obtain ⟨a, b, c, d⟩ := spotN_inj ⟨by omega, by omega⟩ he' hs' he (by omega) e0
      exact ⟨a, b, c, d⟩)
    refine ⟨fun a b => ?_, fun a => by rw [updT_ne _ _ d4]; exact h2 a⟩
    have dR : kN R n' e' s' o' ≠ kN R n e s o := fun e0 => hq (by
      obtain ⟨a, b, c, d⟩ := spotN_inj hR he' b he hs e0
      exact ⟨a, b, c, d⟩)
    rw [updT_ne _ _ d4, updT_ne _ _ dR]
    exact h1 a b
theorem TabRel.get {L R : Nat} {Tp Tr : Nat → Int} (h : TabRel L R Tp Tr) (hL : L ≤ 8) (hR : R ≤ 4) {n e s : Nat} {o : Bool} (hn : n < L) (he : e < 6) (hs : s < R) : Tp (kN 4 n e s o) = Tr (kN R n e s o) := (h n e s o (by omega) he (by omega)).1 hn hs
theorem TabRel.src {ns : List Nd} {R W : Nat} (hL : ns.length ≤ 8) (hR : 1 ≤ R ∧ R ≤ 4) : ∀ k, k ≤ ns.length → TabRel ns.length R (zX ns 4 W k) (zX ns R W k) := by
  intro k
  induction k with
  | zero => intro _ n e s o _ _ _; exact ⟨fun _ _ => rfl, fun _ => rfl⟩
  | succ k ih =>
    intro hk
    unfold zX
    split
    · exact (ih (by omega)).upd hR (by omega) (by omega) (by omega) _
    · exact ih (by omega)
theorem TabRel.pts {L R : Nat} {Tp Tr : Nat → Int} {ps : List Pt} (h : TabRel L R Tp Tr) (hL : L ≤ 8) (hR : 1 ≤ R ∧ R ≤ 4) (hok : ∀ j, j < ps.length → PtOk L R (jN ps j)) : ∀ k, k ≤ ps.length → TabRel L R (kU 4 Tp ps k) (kU R Tr ps k) := by
  intro k
  induction k with
  | zero => intro _; exact h
  | succ k ih =>
    intro hk
    have hi := ih (by omega)
    obtain ⟨n, e, s, h1, h2, h3, h4, h5, h6⟩ := hok k (by omega)
    have e4 : spP 4 (jN ps k) = kN 4 n e s (jN ps k).out := by unfold spP; rw [h1, h3, h5]; rfl
    have eR : spP R (jN ps k) = kN R n e s (jN ps k).out := by unfold spP; rw [h1, h3, h5]; rfl
    unfold kU
    rw [e4, eR, hi.get hL hR.2 h2 h4 h6]
    exact hi.upd hR h2 h4 h6 _
theorem TabRel.log {ns : List Nd} {R W : Nat} {cs : List Cg} {told : Nat → Nat → Int} {w : Nat} (hL : ns.length ≤ 8) (hR : 1 ≤ R ∧ R ≤ 4) (hok : ∀ i, i < cs.length → CgOk ns.length R W (jF cs i)) : ∀ k, k ≤ cs.length → TabRel ns.length R (qD ns 4 W cs told w k) (qD ns R W cs told w k) := by
  intro k
  induction k with
  | zero => intro _; exact TabRel.src hL hR _ (Nat.le_refl _)
  | succ k ih =>
    intro hk
    unfold qD
    split
    · exact ih (by omega)
    · exact (ih (by omega)).pts hL hR (hok k (by omega)).2 _ (Nat.le_refl _)
theorem vS_rel {L R : Nat} {Tp Tr : Nat → Int} (h : TabRel L R Tp Tr) (hL : L ≤ 8) (hR : R ≤ 4) {n k e : Nat} (hn : n < L) (he : e < 6) : vS Tp 4 n k e 4 = vS Tr R n k e R := by
  have a1 : ∀ s, s ≤ R → vS Tp 4 n k e s = vS Tr R n k e s := by
    intro s
    induction s with
    | zero => intro _; rfl
    | succ s ih => intro hs; rw [vS, vS, ih (by omega), h.get hL hR hn he (by omega)]
  have a2 : ∀ d, R + d ≤ 4 → vS Tp 4 n k e (R + d) = vS Tp 4 n k e R := by
    intro d
    induction d with
    | zero => intro _; rfl
    | succ d ih =>
      intro hd
      rw [← Nat.add_assoc, vS, (h n e (R + d) (kB k) (by omega) he (by omega)).2 (.inr (by omega)), ih (by omega)]
      rfl
  have := a2 (4 - R) (by omega)
  rw [show R + (4 - R) = 4 by omega] at this
  rw [this, a1 R (Nat.le_refl _)]
theorem vE_rel {L R : Nat} {Tp Tr : Nat → Int} (h : TabRel L R Tp Tr) (hL : L ≤ 8) (hR : R ≤ 4) {n k : Nat} (hn : n < L) : ∀ e, e ≤ 6 → vE Tp 4 n k e = vE Tr R n k e := by
  intro e
  induction e with
  | zero => intro _; rfl
  | succ e ih => intro he; rw [vE, vE, ih (by omega), vS_rel h hL hR hn (by omega)]
theorem vE_none {L R : Nat} {Tp Tr : Nat → Int} (h : TabRel L R Tp Tr) {n k : Nat} (hn : L ≤ n) (h8 : n < 8) : ∀ e, e ≤ 6 → vE Tp 4 n k e = [] := by
  intro e
  induction e with
  | zero => intro _; rfl
  | succ e ih =>
    intro he
    have a : ∀ s, s ≤ 4 → vS Tp 4 n k e s = [] := by
      intro s
      induction s with
      | zero => intro _; rfl
      | succ s ih2 => intro hs; rw [vS, (h n e s (kB k) h8 (by omega) (by omega)).2 (.inl hn), ih2 (by omega)]; rfl
    rw [vE, ih (by omega), a 4 (by omega)]; rfl
theorem view_eq {L R : Nat} {Tp Tr : Nat → Int} (h : TabRel L R Tp Tr) (hL : L ≤ 8) (hR : R ≤ 4) : vN Tp 4 8 = vN Tr R L := by
  have a1 : ∀ n, n ≤ L → vN Tp 4 n = vN Tr R n := by
    intro n
    induction n with
    | zero => intro _; rfl
    | succ n ih =>
      intro hn
      rw [vN, vN, ih (by omega)]
      simp only [vK]
      rw [vE_rel h hL hR (by omega) 6 (by omega), vE_rel h hL hR (by omega) 6 (by omega)]
  have a2 : ∀ d, L + d ≤ 8 → vN Tp 4 (L + d) = vN Tp 4 L := by
    intro d
    induction d with
    | zero => intro _; rfl
    | succ d ih =>
      intro hd
      rw [← Nat.add_assoc, vN, ih (by omega)]
      simp only [vK]
      rw [vE_none h (by omega) (by omega) 6 (by omega), vE_none h (by omega) (by omega) 6 (by omega)]
      simp
  have := a2 (8 - L) (by omega)
  rw [show L + (8 - L) = 8 by omega] at this
  rw [this, a1 L (Nat.le_refl _)]
theorem inTo_iff {ts : List Tm} {e s : Nat} : ∀ k, inTo ts e s k = true ↔ ∃ i, i < k ∧ (yU ts i).e = (e : Int) ∧ (yU ts i).s = (s : Int) := by
  intro k
  induction k with
  | zero => simp [inTo]
  | succ k ih =>
    rw [inTo, Bool.or_eq_true, ih]
    constructor
    · rintro (⟨i, h1, h2⟩ | h)
      · exact ⟨i, by omega, h2⟩
      · simp only [eqB, Bool.and_eq_true, beq_iff_eq] at h
        exact ⟨k, by omega, h⟩
    · rintro ⟨i, h1, h2⟩
      by_cases e0 : i = k
      · subst e0; right; simp only [eqB, Bool.and_eq_true, beq_iff_eq]; exact h2
      · exact .inl ⟨i, by omega, h2⟩
theorem lowTo_iff {ts : List Tm} {e s : Nat} : ∀ k, lowTo ts e s k = true ↔ ∃ i, i < k ∧ ¬ ((yU ts i).e = (e : Int) ∧ (yU ts i).s = (s : Int)) ∧ (yU ts i).e ≤ (e : Int) ∧ (yU ts i).s ≤ (s : Int) := by
  intro k
  induction k with
  | zero => simp [lowTo]
  | succ k ih =>
    rw [lowTo, Bool.or_eq_true, ih]
    constructor
    · rintro (⟨i, h1, h2⟩ | h)
      · exact ⟨i, by omega, h2⟩
      · simp only [eqB, upB, Bool.and_eq_true, Bool.not_eq_true', Bool.and_eq_false_iff, beq_eq_false_iff_ne, decide_eq_true_eq] at h
        exact ⟨k, by omega, fun h0 => by rcases h.1 with h1 | h1; exact h1 h0.1; exact h1 h0.2, h.2⟩
    · rintro ⟨i, h1, h2, h3⟩
      by_cases e0 : i = k
      · subst e0
        right
        simp only [eqB, upB, Bool.and_eq_true, Bool.not_eq_true', Bool.and_eq_false_iff, beq_eq_false_iff_ne, decide_eq_true_eq]
        refine ⟨?_, h3⟩
        by_cases h4 : (yU ts i).e = (e : Int)
        · exact .inr fun h5 => h2 ⟨h4, h5⟩
        · exact .inl h4
      · exact .inl ⟨i, by omega, h2, h3⟩
theorem belE_spec (C : Nat → Nat → Bool) : ∀ e, (∀ e' s, e' < e → s < zN C e → C e' s = false) ∧ (zN C e = 4 ∨ ∃ e', e' < e ∧ C e' (zN C e) = true) := by
  intro e
  induction e with
  | zero => exact ⟨fun e' s h => by omega, .inl rfl⟩
  | succ e ih =>
    obtain ⟨h1, h2⟩ := ih
    have hle := fstS_le (C e) (zN C e)
    refine ⟨fun e' s he hs => ?_, ?_⟩
    · rw [zN] at hs
      by_cases e0 : e' = e
      · subst e0; exact fstS_no _ _ s hs
      · exact h1 e' s (by omega) (by omega)
    · rw [zN]
      by_cases hf : vM (C e) (zN C e) < zN C e
      · exact .inr ⟨e, by omega, fstS_yes _ _ hf⟩
      · have : vM (C e) (zN C e) = zN C e := by omega
        rw [this]
        rcases h2 with h2 | ⟨e', h3, h4⟩
        · exact .inl h2
        · exact .inr ⟨e', by omega, h4⟩
def TmsOk (R : Nat) (ts : List Tm) : Prop := ∀ i, i < ts.length → ∃ e s : Nat, (yU ts i).e = e ∧ e < 6 ∧ (yU ts i).s = s ∧ s < R
theorem inT_iff {ts : List Tm} {e s : Nat} : inT ts e s = true ↔ ∃ i, i < ts.length ∧ (yU ts i).e = (e : Int) ∧ (yU ts i).s = (s : Int) := inTo_iff _
theorem least_iff {ts : List Tm} {R e s : Nat} (hok : TmsOk R ts) (hR : R ≤ 4) : (inTo ts e s ts.length && !lowTo ts e s ts.length) = true ↔ (s = vM (inT ts e) (zN (inT ts) e) ∧ vM (inT ts e) (zN (inT ts) e) < zN (inT ts) e) := by
  obtain ⟨b1, b2⟩ := belE_spec (inT ts) e
  have b4 := belE_le (inT ts) e
  rw [Bool.and_eq_true, Bool.not_eq_true']
  constructor
  · rintro ⟨h1, h2⟩
    have h1' : inT ts e s = true := h1
    have hs4 : s < 4 := by
      obtain ⟨i, hi, _, h4⟩ := inT_iff.1 h1'
      obtain ⟨_, s', _, _, h5, h6⟩ := hok i hi
      omega
    have hno : ∀ e' s', e' ≤ e → s' ≤ s → ¬ (e' = e ∧ s' = s) → inT ts e' s' = false := by
      intro e' s' he hs hne
      cases hq : inT ts e' s' with
      | false => rfl
      | true =>
        obtain ⟨i, hi, h3, h4⟩ := inT_iff.1 hq
        have : lowTo ts e s ts.length = true := (lowTo_iff _).2 ⟨i, hi, fun h => hne (by omega), by omega, by omega⟩
        rw [h2] at this
        cases this
    have hsB : s < zN (inT ts) e := by
      rcases b2 with b2 | ⟨e', he', hc⟩
      · omega
      · rcases Nat.lt_or_ge s (zN (inT ts) e) with h | h
        · exact h
        · rw [hno e' _ (by omega) h (by omega)] at hc; cases hc
    have hF := fstS_eq (c := inT ts e) hsB h1' (fun j hj => hno e j (Nat.le_refl _) (by omega) (by omega))
    exact ⟨hF.symm, by omega⟩
  · rintro ⟨rfl, hF⟩
    have hc := fstS_yes _ _ hF
    refine ⟨hc, ?_⟩
    cases hq : lowTo ts e (vM (inT ts e) (zN (inT ts) e)) ts.length with
    | false => rfl
    | true =>
      obtain ⟨i, hi, hne, h1, h2⟩ := (lowTo_iff _).1 hq
      obtain ⟨e', s', h3, _, h4, _⟩ := hok i hi
      have hin : inT ts e' s' = true := inT_iff.2 ⟨i, hi, h3, h4⟩
      by_cases he : e' = e
      · subst he
        have hlt : s' < vM (inT ts e') (zN (inT ts) e') := by omega
        rw [fstS_no _ _ s' hlt] at hin
        cases hin
      · rw [b1 e' s' (by omega) (by omega)] at hin
        cases hin
theorem frS_eq {ts : List Tm} {R e : Nat} (hok : TmsOk R ts) (hR : R ≤ 4) : ∀ s, frS ts e s = if vM (inT ts e) (zN (inT ts) e) < zN (inT ts) e ∧ vM (inT ts e) (zN (inT ts) e) < s then [⟨e, (vM (inT ts e) (zN (inT ts) e) : Nat)⟩] else [] := by
  intro s
  induction s with
  | zero => simp [frS]
  | succ s ih =>
    rw [frS, ih]
    by_cases h : (inTo ts e s ts.length && !lowTo ts e s ts.length) = true
    · obtain ⟨h1, h2⟩ := (least_iff hok hR).1 h
      rw [if_pos h, if_neg (by omega), if_pos ⟨h2, by omega⟩, ← h1]
      rfl
    · rw [if_neg h]
      by_cases hF : vM (inT ts e) (zN (inT ts) e) < zN (inT ts) e
      · have hne : s ≠ vM (inT ts e) (zN (inT ts) e) := fun h1 => h ((least_iff hok hR).2 ⟨h1, hF⟩)
        by_cases h3 : vM (inT ts e) (zN (inT ts) e) < s
        · rw [if_pos ⟨hF, h3⟩, if_pos ⟨hF, by omega⟩]
        · rw [if_neg (by omega), if_neg (by omega)]
      · rw [if_neg (by omega), if_neg (by omega)]
theorem frontier_eq {ts : List Tm} {R : Nat} (hok : TmsOk R ts) (hR : R ≤ 4) : ∀ e, lstE (inT ts) e = frE ts R e := by
  intro e
  induction e with
  | zero => rfl
  | succ e ih =>
    rw [lstE, frE, ih, frS_eq hok hR R]
    by_cases hF : vM (inT ts e) (zN (inT ts) e) < zN (inT ts) e
    · have hc := fstS_yes _ _ hF
      have hlt : vM (inT ts e) (zN (inT ts) e) < R := by
        obtain ⟨i, hi, _, h4⟩ := inT_iff.1 hc
        obtain ⟨_, s', _, _, h5, h6⟩ := hok i hi
        omega
      rw [if_pos hF, if_pos ⟨hF, hlt⟩]
    · rw [if_neg hF, if_neg (by omega), List.append_nil]
theorem wrap_add (a b : Int) : wrap64 (wrap64 a + b) = wrap64 (a + b) := by unfold wrap64; omega
theorem wrap_id {a : Int} (h1 : -9223372036854775808 ≤ a) (h2 : a ≤ 9223372036854775807) : wrap64 a = a := by unfold wrap64; omega
def ptTo (R q : Nat) (ps : List Pt) : Nat → Int
  | 0 => 0
  | j + 1 => if spP R (jN ps j) = q then ptTo R q ps j + (jN ps j).count else ptTo R q ps j
def ptSum (R q : Nat) (ps : List Pt) : Int := ptTo R q ps ps.length
theorem tabPts_sum (R : Nat) (T : Nat → Int) (ps : List Pt) (q : Nat) (hT : wrap64 (T q) = T q) : ∀ j, kU R T ps j q = wrap64 (T q + ptTo R q ps j) := by
  intro j
  induction j with
  | zero => simp only [kU, ptTo, Int.add_zero]; exact hT.symm
  | succ j ih =>
    rw [kU, ptTo]
    by_cases e : spP R (jN ps j) = q
    · rw [e, xW, if_pos rfl, ih, wrap_add, Int.add_assoc]
    · rw [updT_ne _ _ (fun h => e h.symm), if_neg e, ih]
theorem tabSrc_in (ns : List Nd) (R W : Nat) (hW : W ≤ 4) : ∀ k q, 0 ≤ zX ns R W k q ∧ zX ns R W k q ≤ 4 := by
  intro k
  induction k with
  | zero => intro q; simp [zX]
  | succ k ih =>
    intro q
    unfold zX
    split
    · by_cases e : q = kN R k 0 0 true
      · subst e; rw [xW]; omega
      · rw [updT_ne _ _ e]; exact ih q
    · exact ih q
def lgSum (R q : Nat) (cs : List Cg) (told : Nat → Nat → Int) (w : Nat) : Nat → Int
  | 0 => 0
  | i + 1 => if lateB cs told w i then lgSum R q cs told w i else lgSum R q cs told w i + ptSum R q (jF cs i).pts
theorem tabLog_sum (ns : List Nd) (R W : Nat) (hW : W ≤ 4) (cs : List Cg) (told : Nat → Nat → Int) (w : Nat) : ∀ k q, qD ns R W cs told w k q = wrap64 (zX ns R W ns.length q + lgSum R q cs told w k) := by
  intro k
  induction k with
  | zero =>
    intro q
    have := tabSrc_in ns R W hW ns.length q
    simp only [qD, lgSum, Int.add_zero]
    exact (wrap_id (by omega) (by omega)).symm
  | succ k ih =>
    intro q
    rw [qD, lgSum]
    split
    · exact ih q
    · rw [tabPts_sum R _ _ q (by rw [ih q]; exact wrap_id (wrap64_bd _).1 (wrap64_bd _).2), ih q, wrap_add, Int.add_assoc]
      rfl
theorem tabLog_in (ns : List Nd) (R W : Nat) (hW : W ≤ 4) (cs : List Cg) (told : Nat → Nat → Int) (w k q : Nat) : wrap64 (qD ns R W cs told w k q) = qD ns R W cs told w k q := by
  rw [tabLog_sum ns R W hW]
  exact wrap_id (wrap64_bd _).1 (wrap64_bd _).2
def xU (cs : List Cg) (b : Nat) : Nat → List (List Pt)
  | 0 => []
  | i + 1 => if (jF cs i).worker == (b : Int) then xU cs b i ++ [(jF cs i).pts] else xU cs b i
theorem cgTo_len (cs : List Cg) (b k : Nat) : (xU cs b k).length = zK cs b k := by
  induction k with
  | zero => rfl
  | succ k ih => unfold xU zK; split <;> simp [ih]
theorem cgTo_app (cs : List Cg) (c : Cg) (b : Nat) : ∀ k, k ≤ cs.length → xU (cs ++ [c]) b k = xU cs b k := by
  intro k
  induction k with
  | zero => intro _; rfl
  | succ k ih => intro hk; rw [xU, xU, ih (by omega), cgn_app (by omega)]
theorem cgTo_snoc (cs : List Cg) (c : Cg) (b : Nat) : xU (cs ++ [c]) b (cs ++ [c]).length = xU cs b cs.length ++ (if c.worker == (b : Int) then [c.pts] else []) := by
  rw [List.length_append, List.length_singleton, xU, cgTo_app cs c b _ (Nat.le_refl _), cgn_last]
  split <;> simp
theorem cnTo_app (cs : List Cg) (c : Cg) (b : Nat) : ∀ k, k ≤ cs.length → zK (cs ++ [c]) b k = zK cs b k := by
  intro k
  induction k with
  | zero => intro _; rfl
  | succ k ih => intro hk; rw [zK, zK, ih (by omega), cgn_app (by omega)]
theorem cnTo_snoc (cs : List Cg) (c : Cg) (b : Nat) : zK (cs ++ [c]) b (cs ++ [c]).length = zK cs b cs.length + (if c.worker == (b : Int) then 1 else 0) := by
  rw [List.length_append, List.length_singleton, zK, cnTo_app cs c b _ (Nat.le_refl _), cgn_last]
  split <;> simp
theorem cgTo_mem {cs : List Cg} {b : Nat} : ∀ k, k ≤ cs.length → ∀ ps ∈ xU cs b k, ∃ i, i < k ∧ ps = (jF cs i).pts := by
  intro k
  induction k with
  | zero => intro _ ps h; simp [xU] at h
  | succ k ih =>
    intro hk ps h
    unfold xU at h
    split at h
    · rcases List.mem_append.1 h with h | h
      · obtain ⟨i, a, b⟩ := ih (by omega) ps h; exact ⟨i, by omega, b⟩
      · simp at h; exact ⟨k, by omega, h⟩
    · obtain ⟨i, a, b⟩ := ih (by omega) ps h; exact ⟨i, by omega, b⟩
theorem seen_cn {cs : List Cg} (b : Nat) : ∀ k, k ≤ cs.length → (∀ j, j < cs.length → ∃ m : Nat, (jF cs j).worker = m) → jT cs k b = (zK cs b k : Nat) := by
  intro k
  induction k with
  | zero => intro _ _; rfl
  | succ k ih =>
    intro hk hw
    have h1 := ih (by omega) hw
    obtain ⟨m, hm⟩ := hw k (by omega)
    rw [jT, zK, hm, Int.toNat_natCast]
    by_cases e : b = m
    · subst e; rw [xW, if_pos (by simp), h1]; simp
    · rw [updT_ne _ _ e, if_neg (by simp; omega), h1]
theorem lgSum_told {R q : Nat} {cs : List Cg} {told : Nat → Nat → Int} {a b t : Nat} (hab : a ≠ b) (ht : told a b = t) (hw : ∀ j, j < cs.length → ∃ m : Nat, (jF cs j).worker = m) : ∀ k, k ≤ cs.length → lgSum R q cs (jH told a b) a k = lgSum R q cs told a k + (if t < zK cs b k then ptSum R q ((xU cs b k).getD t []) else 0) := by
  intro k
  induction k with
  | zero => intro _; simp [lgSum, zK]
  | succ k ih =>
    intro hk
    have h1 := ih (by omega)
    obtain ⟨m, hm⟩ := hw k (by omega)
    have hseen := seen_cn (cs := cs) m (k + 1) hk hw
    have e1 : lateB cs told a k = ((m != a) && decide (told a m < (zK cs m (k + 1) : Nat))) := by
      unfold lateB
      rw [hm, Int.toNat_natCast, hseen]
      congr 1
      rw [Bool.eq_iff_iff]; simp; omega
    have e2 : lateB cs (jH told a b) a k = ((m != a) && decide (jH told a b a m < (zK cs m (k + 1) : Nat))) := by
      unfold lateB
      rw [hm, Int.toNat_natCast, hseen]
      congr 1
      rw [Bool.eq_iff_iff]; simp; omega
    rw [lgSum, lgSum, e1, e2, h1]
    by_cases e : m = b
    · subst e
      have hcn : zK cs m (k + 1) = zK cs m k + 1 := by rw [zK, if_pos (by rw [hm]; simp)]
      have hch : xU cs m (k + 1) = xU cs m k ++ [(jF cs k).pts] := by rw [xU, if_pos (by rw [hm]; simp)]
      have hln := cgTo_len cs m k
      have hup : jH told a m a m = (t : Int) + 1 := by simp [jH, ht]
      have hne : (m != a) = true := by simp; omega
      rw [hup, ht, hne, Bool.true_and, Bool.true_and, hcn, hch]
      have d1 : decide ((t : Int) < ((zK cs m k + 1 : Nat) : Int)) = decide (t < zK cs m k + 1) := decide_eq_decide.2 ⟨fun h => by omega, fun h => by omega⟩
      have d2 : decide ((t : Int) + 1 < ((zK cs m k + 1 : Nat) : Int)) = decide (t < zK cs m k) := decide_eq_decide.2 ⟨fun h => by omega, fun h => by omega⟩
      rw [d1, d2]
      by_cases c1 : t < zK cs m k
      · have c1' : t < zK cs m k + 1 := by omega
        simp only [c1, c1', decide_true, if_true]
        congr 2
        simp [List.getD, List.getElem?_append_left (show t < (xU cs m k).length by omega)]
      · by_cases c2 : t = zK cs m k
        · have c1' : t < zK cs m k + 1 := by omega
          simp only [c1, c1', decide_true, decide_false, if_true, if_false, Bool.false_eq_true]
          have : (xU cs m k ++ [(jF cs k).pts]).getD t [] = (jF cs k).pts := by
            rw [c2, ← hln]; simp [List.getD]
          rw [this]; omega
        · have c1' : ¬ t < zK cs m k + 1 := by omega
          simp only [c1, c1', decide_false, if_false, Bool.false_eq_true]
          omega
    · have hcn : zK cs b (k + 1) = zK cs b k := by rw [zK, if_neg (by rw [hm]; simp; omega)]
      have hch : xU cs b (k + 1) = xU cs b k := by rw [xU, if_neg (by rw [hm]; simp; omega)]
      have hup : jH told a b a m = told a m := by simp [jH]; intro e9; omega
      rw [hup, hcn, hch]
      split <;> omega
theorem lgSum_other {R q : Nat} {cs : List Cg} {told : Nat → Nat → Int} {a b w : Nat} (h : w ≠ a) : ∀ k, lgSum R q cs (jH told a b) w k = lgSum R q cs told w k := by
  intro k
  induction k with
  | zero => rfl
  | succ k ih =>
    have e : lateB cs (jH told a b) w k = lateB cs told w k := by unfold lateB jH; simp [h]
    rw [lgSum, lgSum, e, ih]
theorem tabLog_told {ns : List Nd} {R W : Nat} (hW : W ≤ 4) {cs : List Cg} {told : Nat → Nat → Int} {a b t : Nat} (hab : a ≠ b) (ht : told a b = t) (hw : ∀ j, j < cs.length → ∃ m : Nat, (jF cs j).worker = m) (hlt : t < zK cs b cs.length) (q : Nat) : qD ns R W cs (jH told a b) a cs.length q = kU R (qD ns R W cs told a cs.length) ((xU cs b cs.length).getD t []) ((xU cs b cs.length).getD t []).length q := by
  rw [tabPts_sum R _ _ q (tabLog_in ns R W hW cs told a cs.length q), tabLog_sum ns R W hW, tabLog_sum ns R W hW, wrap_add, lgSum_told hab ht hw _ (Nat.le_refl _), if_pos hlt, Int.add_assoc]
  rfl
theorem tabLog_untold {ns : List Nd} {R W : Nat} (hW : W ≤ 4) {cs : List Cg} {told : Nat → Nat → Int} {a b w : Nat} (h : w ≠ a) (q : Nat) : qD ns R W cs (jH told a b) w cs.length q = qD ns R W cs told w cs.length q := by
  rw [tabLog_sum ns R W hW, tabLog_sum ns R W hW, lgSum_other h]
theorem evn_app {l : List Ev} {y : Ev} {i : Nat} (hi : i < l.length) : zH (l ++ [y]) i = zH l i := evn_left hi
theorem evn_last (l : List Ev) (y : Ev) : zH (l ++ [y]) l.length = y := by simp [zH, List.getD]
def acM (y : Ev) (w n e s : Int) : Bool := (y.worker == w) && ((y.node == n) && ((y.epoch == e) && (y.round == s)))
theorem acTo_app (evs : List Ev) (y : Ev) (w n e s : Int) : ∀ k, k ≤ evs.length → jU (evs ++ [y]) w n e s k = jU evs w n e s k := by
  intro k
  induction k with
  | zero => intro _; rfl
  | succ k ih =>
    intro hk
    rw [jU, jU, ih (by omega)]
    unfold acB
    rw [evn_app (by omega)]
theorem acTo_snoc (evs : List Ev) (y : Ev) (w n e s : Int) : jU (evs ++ [y]) w n e s (evs ++ [y]).length = if acM y w n e s then (if y.kind == 1 then jU evs w n e s evs.length ++ [y.value] else if y.kind == 2 then [] else jU evs w n e s evs.length) else jU evs w n e s evs.length := by
  rw [List.length_append, List.length_singleton, jU, acTo_app evs y w n e s _ (Nat.le_refl _)]
  unfold acB
  rw [evn_last]
  rfl
def meM (y x : Ev) : Bool := (y.kind == 1) && ((y.worker == x.worker) && ((y.node == x.node) && ((y.epoch == x.epoch) && ((y.round == x.round) && (y.value == x.value)))))
theorem meTo_app (evs : List Ev) (y x : Ev) : ∀ k, k ≤ evs.length → meTo (evs ++ [y]) x k = meTo evs x k := by
  intro k
  induction k with
  | zero => intro _; rfl
  | succ k ih =>
    intro hk
    rw [meTo, meTo, ih (by omega)]
    unfold meB
    rw [evn_app (by omega)]
theorem meTo_snoc (evs : List Ev) (y x : Ev) : meTo (evs ++ [y]) x (evs ++ [y]).length = (meTo evs x evs.length || meM y x) := by
  rw [List.length_append, List.length_singleton, meTo, meTo_app evs y x _ (Nat.le_refl _)]
  unfold meB
  rw [evn_last]
  rfl
theorem meTo_same (evs : List Ev) (x x' : Ev) (h : x.worker = x'.worker ∧ x.node = x'.node ∧ x.epoch = x'.epoch ∧ x.round = x'.round ∧ x.value = x'.value) : ∀ k, meTo evs x k = meTo evs x' k := by
  intro k
  induction k with
  | zero => rfl
  | succ k ih =>
    rw [meTo, meTo, ih]
    unfold meB
    rw [h.1, h.2.1, h.2.2.1, h.2.2.2.1, h.2.2.2.2]
theorem ouTo_app (ns : List Nd) (evs : List Ev) (y : Ev) : ∀ k, k ≤ evs.length → ouTo ns (evs ++ [y]) k = ouTo ns evs k := by
  intro k
  induction k with
  | zero => intro _; rfl
  | succ k ih =>
    intro hk
    rw [ouTo, ouTo, ih (by omega)]
    unfold ouB
    rw [evn_app (by omega)]
theorem ouTo_snoc (ns : List Nd) (evs : List Ev) (y : Ev) : ouTo ns (evs ++ [y]) (evs ++ [y]).length = ouTo ns evs evs.length ++ (if (y.kind == 1) && ((qT ns y.node.toNat).kind == 7) then [rcOf y] else []) := by
  rw [List.length_append, List.length_singleton, ouTo, ouTo_app ns evs y _ (Nat.le_refl _)]
  unfold ouB
  rw [evn_last]
  split <;> simp
theorem nth_snoc_lt {xs : List Int} {v : Int} {k : Nat} (h : k < xs.length) : jD (xs ++ [v]) k = jD xs k := by simp [jD, List.getD, List.getElem?_append_left h]
theorem nth_snoc_last (xs : List Int) (v : Int) : jD (xs ++ [v]) xs.length = v := by simp [jD, List.getD]
theorem gsum_app (xs : List Int) (v q : Int) (g : Nat) : ∀ k, k ≤ xs.length → jG (xs ++ [v]) q g k = jG xs q g k ∧ gmetTo (xs ++ [v]) q g k = gmetTo xs q g k := by
  intro k
  induction k with
  | zero => intro _; exact ⟨rfl, rfl⟩
  | succ k ih =>
    intro hk
    obtain ⟨h1, h2⟩ := ih (by omega)
    rw [jG, jG, gmetTo, gmetTo, h1, h2, nth_snoc_lt (by omega)]
    exact ⟨rfl, rfl⟩
theorem gsum_snoc (xs : List Int) (v q : Int) (g : Nat) : jG (xs ++ [v]) q g (xs ++ [v]).length = (if v % q == g then wrap64 (jG xs q g xs.length + v) else jG xs q g xs.length) ∧ gmetTo (xs ++ [v]) q g (xs ++ [v]).length = (if v % q == g then true else gmetTo xs q g xs.length) := by
  obtain ⟨h1, h2⟩ := gsum_app xs v q g xs.length (Nat.le_refl _)
  rw [List.length_append, List.length_singleton, jG, gmetTo, h1, h2, nth_snoc_last]
  exact ⟨rfl, rfl⟩
theorem waitTo_nth {ms : List Ml} {w n : Int} : ∀ k i, i < (kJ ms w n k).length → ∃ z, z < k ∧ jD (kJ ms w n k) i = (z : Int) ∧ xK ms w n z = true ∧ (kJ ms w n z).length = i := by
  intro k
  induction k with
  | zero => intro i hi; simp [kJ] at hi
  | succ k ih =>
    intro i hi
    by_cases hb : xK ms w n k = true
    · rw [waitTo_yes hb] at hi ⊢
      by_cases h1 : i < (kJ ms w n k).length
      · obtain ⟨z, a, b, c, d⟩ := ih i h1
        exact ⟨z, by omega, by rw [nth_snoc_lt h1]; exact b, c, d⟩
      · have : i = (kJ ms w n k).length := by simp at hi; omega
        subst this
        exact ⟨k, by omega, nth_snoc_last _ _, hb, rfl⟩
    · rw [waitTo_no (by simpa using hb)] at hi ⊢
      obtain ⟨z, a, b, c, d⟩ := ih i hi
      exact ⟨z, by omega, b, c, d⟩
theorem mln_gone {ms : List Ml} {z j : Nat} (hz : z < ms.length) : xX (jP ms z) j = if j = z then { xX ms z with gone := true } else xX ms j := by
  unfold jP xX List.getD
  rw [List.getElem?_set]
  by_cases e : j = z
  · subst e; simp [hz]
  · rw [if_neg e, if_neg (fun h => e h.symm)]
theorem waitB_gone {ms : List Ml} {z j : Nat} {w n : Int} (hz : z < ms.length) : xK (jP ms z) w n j = (!decide (j = z) && xK ms w n j) := by
  unfold xK
  rw [mln_gone hz]
  by_cases e : j = z
  · rw [if_pos e]; simp [e]
  · rw [if_neg e]; simp [e]
theorem wL_len (ms : List Ml) (w n : Int) (k : Nat) : (wL ms w n k).length = (kJ ms w n k).length := by rw [← wL_eq, List.length_map]
theorem wL_goneA {ms : List Ml} {z : Nat} {w n : Int} (hz : z < ms.length) : ∀ k, k ≤ z → wL (jP ms z) w n k = wL ms w n k := by
  intro k
  induction k with
  | zero => intro _; rfl
  | succ k ih =>
    intro hk
    have e : ¬ k = z := by omega
    rw [wL, wL, waitB_gone hz, mln_gone hz, ih (by omega)]
    simp [e]
theorem waitTo_more {ms : List Ml} {z : Nat} {w n : Int} (hb : xK ms w n z = true) : ∀ d, (kJ ms w n z).length < (kJ ms w n (z + 1 + d)).length := by
  intro d
  induction d with
  | zero => rw [Nat.add_zero, waitTo_yes hb]; simp
  | succ d ih2 =>
    have : (kJ ms w n (z + 1 + d)).length ≤ (kJ ms w n (z + 1 + d + 1)).length := by
      conv => rhs; rw [kJ]
      split <;> simp
    rw [← Nat.add_assoc]; omega
theorem wL_goneS {ms : List Ml} {z : Nat} {w n : Int} (hz : z < ms.length) (hb : xK ms w n z = true) : ∀ d, wL (jP ms z) w n (z + 1 + d) = (wL ms w n (z + 1 + d)).eraseIdx (kJ ms w n z).length := by
  intro d
  induction d with
  | zero =>
    have e1 : wL (jP ms z) w n (z + 1) = wL (jP ms z) w n z := by rw [wL, waitB_gone hz]; simp
    have e2 : wL ms w n (z + 1) = wL ms w n z ++ [xJ (xX ms z)] := by rw [wL, if_pos hb]
    rw [Nat.add_zero, e1, e2, wL_goneA hz z (Nat.le_refl _), List.eraseIdx_append_of_length_le (by rw [wL_len]; omega), wL_len]
    simp
  | succ d ih =>
    have e : ¬ z + 1 + d = z := by omega
    rw [← Nat.add_assoc, wL, waitB_gone hz, mln_gone hz, ih, if_neg e]
    have e2 : wL ms w n (z + 1 + d + 1) = if xK ms w n (z + 1 + d) then wL ms w n (z + 1 + d) ++ [xJ (xX ms (z + 1 + d))] else wL ms w n (z + 1 + d) := by rw [wL]
    rw [e2]
    cases hq : xK ms w n (z + 1 + d) with
    | false => simp
    | true =>
      have h3 := waitTo_more hb d
      simp only [e, decide_false, Bool.not_false, Bool.and_true, if_true]
      rw [List.eraseIdx_append_of_lt_length (by rw [wL_len]; exact h3)]
theorem wL_goneO {ms : List Ml} {z : Nat} {w n : Int} (hz : z < ms.length) (hb : xK ms w n z = false) : ∀ k, wL (jP ms z) w n k = wL ms w n k := by
  intro k
  induction k with
  | zero => rfl
  | succ k ih =>
    rw [wL, wL, waitB_gone hz, mln_gone hz, ih]
    by_cases e : k = z
    · subst e; simp [hb]
    · simp [e]
theorem waitL_gone {ms : List Ml} {a n i z : Nat} (hi : i < (kJ ms a n ms.length).length) (hz : jD (kJ ms a n ms.length) i = (z : Int)) (b m : Nat) : jQ (jP ms z) b m = if b = a ∧ m = n then (jQ ms a n).eraseIdx i else jQ ms b m := by
  obtain ⟨z', h1, h2, h3, h4⟩ := waitTo_nth ms.length i hi
  have e : z = z' := by rw [h2] at hz; omega
  subst e
  rw [waitL_eq, waitL_eq, waitL_eq, xB]
  split
  · rename_i h
    obtain ⟨rfl, rfl⟩ := h
    have := wL_goneS h1 h3 (ms.length - z - 1)
    rw [show z + 1 + (ms.length - z - 1) = ms.length by omega, h4] at this
    exact this
  · rename_i h
    refine wL_goneO h1 ?_ _
    unfold xK at h3 ⊢
    simp only [Bool.and_eq_true, beq_iff_eq, Bool.not_eq_true'] at h3
    rw [h3.1.2, h3.2]
    rw [Bool.eq_false_iff]
    intro h5
    simp at h5
    exact h ⟨by omega, by omega⟩
structure Sim (ns : List Nd) (W : Nat) (p : PSt) (st : RSt) : Prop where
  ep : ∀ i n : Nat, p.ep i n = (qC st.opened i n 2 st.opened.length : Nat)
  cl : ∀ i n : Nat, p.cl i n = decide (0 < qC st.opened i n 3 st.opened.length)
  wt : ∀ i n : Nat, p.wt i n = jQ st.mails i n
  lb : ∀ i n : Nat, (qT ns n).kind = 5 → ∀ y : Gv, lbTo (p.lb i n) y (p.lb i n).length = meTo st.evs ⟨1, i, n, 0, y.node, y.epoch, y.value⟩ st.evs.length
  lbn : ∀ i n, (p.lb i n).length ≤ st.evs.length
  wn : ∀ i n e s : Nat, e < 6 → s < 4 → p.tl i n (e * 4 + s) = .bool ((qT ns n).kind == 6 && !((jU st.evs i n e s st.evs.length).length == 0))
  gs : ∀ i n e s g : Nat, (qT ns n).kind = 6 → e < 6 → s < 4 → g < 8 → p.tl i n (24 + e * 64 + s * 16 + g) = .int .i64 (jG (jU st.evs i n e s st.evs.length) (qT ns n).k g (jU st.evs i n e s st.evs.length).length) ∧ p.tl i n (24 + e * 64 + s * 16 + 8 + g) = .bool (gmetTo (jU st.evs i n e s st.evs.length) (qT ns n).k g (jU st.evs i n e s st.evs.length).length)
  tb : ∀ i, i < W → p.tb i = qD ns 4 W st.log st.told i st.log.length
  wy : ∀ i j, p.wy i j = if i < W ∧ j < W ∧ i ≠ j then (xU st.log j st.log.length).drop (st.told i j).toNat else []
  gv : p.gv = (kG st.opened st.opened.length : Nat)
  rc : p.rc = ouTo ns st.evs st.evs.length
structure Inv (ns : List Nd) (R W : Nat) (st : RSt) (k : Nat) : Prop where
  op : st.opened.length ≤ k
  lg : st.log.length ≤ k
  ev : st.evs.length ≤ k
  gv : kG st.opened st.opened.length ≤ 20
  ml : st.mails.length ≤ 64 * k
  ep : ∀ i n : Nat, qC st.opened i n 2 st.opened.length ≤ 5
  cg : ∀ i, i < st.log.length → CgOk ns.length R W (jF st.log i) ∧ (jF st.log i).pts.length ≤ 100
  mo : ∀ i, i < st.mails.length → ∃ a n e s : Nat, (xX st.mails i).worker = a ∧ a < W ∧ (xX st.mails i).node = n ∧ n < ns.length ∧ (qT ns n).kind ≠ 0 ∧ (xX st.mails i).epoch = e ∧ e < 6 ∧ (xX st.mails i).round = s ∧ s < R ∧ -9223372036854775808 ≤ (xX st.mails i).value ∧ (xX st.mails i).value ≤ 9223372036854775807
  eo : ∀ i, i < st.evs.length → (∃ n : Nat, (zH st.evs i).node = n ∧ n < ns.length) ∧ ∃ s : Nat, (zH st.evs i).round = s ∧ s < R
  tl : ∀ a b, a < W → b < W → ∃ t : Nat, st.told a b = t ∧ t ≤ zK st.log b st.log.length
theorem Inv.zero (ns : List Nd) (R W : Nat) : Inv ns R W rst0 0 :=
  ⟨by simp [rst0], by simp [rst0], by simp [rst0], by simp [rst0, kG], by simp [rst0], fun _ _ => by simp [rst0, qC], fun i hi => by simp [rst0] at hi, fun i hi => by simp [rst0] at hi, fun i hi => by simp [rst0] at hi, fun _ _ _ _ => ⟨0, rfl, Nat.zero_le _⟩⟩
theorem Inv.more {ns : List Nd} {R W : Nat} {st : RSt} {k : Nat} (h : Inv ns R W st k) : Inv ns R W st (k + 1) :=
  ⟨Nat.le_succ_of_le h.op, Nat.le_succ_of_le h.lg, Nat.le_succ_of_le h.ev, h.gv, by have := h.ml; omega, h.ep, h.cg, h.mo, h.eo, h.tl⟩
theorem Inv.wk {ns : List Nd} {R W : Nat} {st : RSt} {k : Nat} (h : Inv ns R W st k) : ∀ j, j < st.log.length → ∃ m : Nat, (jF st.log j).worker = m := fun j hj => by
  obtain ⟨m, e, _⟩ := (h.cg j hj).1.1
  exact ⟨m, e⟩
theorem psrcE_eq {ns : List Nd} {W : Nat} {p : PSt} {st : RSt} (h : Sim ns W p st) (w n : Int) : zR ns W p.cl w n = kS ns W st.opened w n := by
  unfold zR kS
  by_cases h1 : xZ W w = true
  · obtain ⟨i, rfl, hi⟩ := isWk_iff.1 h1
    by_cases h2 : kM ns.length n = true
    · obtain ⟨b1, b2⟩ := isNodeB_iff.1 h2
      obtain ⟨m, rfl⟩ := Int.eq_ofNat_of_zero_le b1
      have h3 : zJ ns.length W (i : Int) (m : Int) = true := placeB_iff.2 ⟨⟨by omega, by omega⟩, b1, b2⟩
      rw [h1, h2, h3]
      cases hk : ((qT ns (m : Int).toNat).kind == 0) <;> simp [h.cl]
    · have h3 : zJ ns.length W (i : Int) n = false := placeB_no fun h => h2 (isNodeB_iff.2 h.2)
      have h2' : kM ns.length n = false := by simpa using h2
      rw [h1, h2', h3]; rfl
  · have h3 : zJ ns.length W w n = false := placeB_no fun h => h1 (isWk_iff.2 ⟨w.toNat, by omega, by omega⟩)
    have h1' : xZ W w = false := by simpa using h1
    rw [h1', h3]; rfl
theorem pgiveE_eq {ns : List Nd} {W : Nat} {p : PSt} {st : RSt} (h : Sim ns W p st) (w n : Int) : pgiveE ns W p w n = giveE ns W st.opened w n := by
  unfold pgiveE giveE
  rw [psrcE_eq h]
  have : decide (20 ≤ p.gv) = decide (20 ≤ kG st.opened st.opened.length) := by
    rw [h.gv]
    exact decide_eq_decide.2 ⟨fun h => by omega, fun h => by omega⟩
  rw [this]
theorem padvE_eq {ns : List Nd} {W : Nat} {p : PSt} {st : RSt} (h : Sim ns W p st) (w n : Int) : padvE ns W p w n = advE ns W st.opened w n := by
  unfold padvE advE
  rw [psrcE_eq h]
  by_cases h0 : (kS ns W st.opened w n != 0) = true
  · rw [if_pos h0, if_pos h0]
  · rw [if_neg h0, if_neg h0]
    have h1 : zR ns W p.cl w n = 0 := by rw [psrcE_eq h]; simpa using h0
    obtain ⟨i, m, rfl, rfl, _, _⟩ := psrcE_zero h1
    have : decide (5 ≤ p.ep (i : Int).toNat (m : Int).toNat) = decide (5 ≤ qC st.opened (i : Int) (m : Int) 2 st.opened.length) := by
      simp only [h.ep, Int.toNat_natCast]
      exact decide_eq_decide.2 ⟨fun h => by omega, fun h => by omega⟩
    rw [this]
theorem Sim.change {ns : List Nd} {R W : Nat} {p p1 : PSt} {st st1 : RSt} {k i : Nat} {q : List Pt} (h : Sim ns W p st) (hi : Inv ns R W st k) (hiW : i < W) (hp : p1.tb = upd1 p.tb i (kU 4 (p.tb i) q q.length) ∧ p1.wy = vZ p.wy i q W) (hs : st1.log = st.log ++ [⟨i, q⟩] ∧ st1.told = st.told) :
    (∀ a, a < W → p1.tb a = qD ns 4 W st1.log st1.told a st1.log.length) ∧ ∀ a b, p1.wy a b = if a < W ∧ b < W ∧ a ≠ b then (xU st1.log b st1.log.length).drop (st1.told a b).toNat else [] := by
  refine ⟨fun a ha => ?_, fun a b => ?_⟩
  · rw [hp.1, hs.1, hs.2, tabLog_snoc ns 4 W st.log ⟨i, q⟩ st.told a i rfl (fun _ => by
      obtain ⟨t, e, ht⟩ := hi.tl a i ha hiW
      rw [e, seen_cn i _ (Nat.le_refl _) hi.wk]
      omega)]
    unfold upd1
    split
    · rename_i e; subst e; rw [h.tb a ha]
    · exact h.tb a ha
  · rw [hp.2, hs.1, hs.2, cgTo_snoc]
    unfold vZ
    rw [h.wy a b]
    by_cases e : a < W ∧ b < W ∧ a ≠ b
    · rw [if_pos e, if_pos e]
      obtain ⟨t, et, ht⟩ := hi.tl a b e.1 e.2.1
      by_cases e2 : b = i
      · subst e2
        rw [if_pos ⟨rfl, e.1, e.2.2⟩, if_pos (by simp), List.drop_append_of_le_length (by rw [cgTo_len, et]; simpa using ht)]
      · rw [if_neg (fun h => e2 h.1), if_neg (by simp; omega), List.append_nil]
    · rw [if_neg e, if_neg e, if_neg (fun h => e ⟨h.2.1, by omega, by omega⟩)]
end Go.Proofs.YtfemleimkbjehaaGreat
