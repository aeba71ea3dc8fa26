import Derived.Test.YtfemleimkbjehaaJ27
import Derived.Test.YtfemleimkbjehaaJ21
import Derived.Test.YtfemleimkbjehaaJ23
import Derived.Test.YtfemleimkbjehaaJ15
import Derived.Test.YtfemleimkbjehaaJ3
import Derived.Test.YtfemleimkbjehaaJ1
import Derived.Deep.WholeRow
set_option maxRecDepth 1000000
set_option maxHeartbeats 40000000
set_option linter.unusedVariables false
set_option linter.unusedSimpArgs false
namespace Go.Proofs.Ytfemleimkbjehaa
open Go.RowKit
theorem ptn_at {l : List Pt} {x : Pt} (h : x ∈ l) : ∃ i, i < l.length ∧ vU l i = x := by
  obtain ⟨i, hi, e⟩ := List.getElem_of_mem h
  refine ⟨i, hi, ?_⟩
  unfold vU List.getD
  rw [List.getElem?_eq_getElem hi]; exact e
theorem tmn_at {l : List Tm} {x : Tm} (h : x ∈ l) : ∃ i, i < l.length ∧ nB l i = x := by
  obtain ⟨i, hi, e⟩ := List.getElem_of_mem h
  refine ⟨i, hi, ?_⟩
  unfold nB List.getD
  rw [List.getElem?_eq_getElem hi]; exact e
theorem tmn_in {l : List Tm} {i : Nat} (h : i < l.length) : nB l i ∈ l := by
  unfold nB List.getD
  rw [List.getElem?_eq_getElem h]; exact List.getElem_mem h
theorem vS_in {T : Nat → Int} {n k e s : Nat} : ∀ m, s < m → T (jZ 4 n e s (kB k)) ≠ 0 → (⟨n, kB k, e, s, T (jZ 4 n e s (kB k))⟩ : Pt) ∈ vS T 4 n k e m
  | 0, h, _ => absurd h (Nat.not_lt_zero _)
  | m + 1, h, hn => by
    rw [vS]
    by_cases e1 : s = m
    · subst e1
      rw [if_neg (by simpa using hn)]
      exact List.mem_append.2 (.inr (by simp))
    · have := vS_in (T := T) (n := n) (k := k) (e := e) m (by omega) hn
      split
      · exact this
      · exact List.mem_append.2 (.inl this)
theorem vE_in {T : Nat → Int} {n k e : Nat} {x : Pt} : ∀ m, e < m → x ∈ vS T 4 n k e 4 → x ∈ vE T 4 n k m
  | 0, h, _ => absurd h (Nat.not_lt_zero _)
  | m + 1, h, hx => by
    rw [vE]
    by_cases e1 : e = m
    · subst e1; exact List.mem_append.2 (.inr hx)
    · exact List.mem_append.2 (.inl (vE_in m (by omega) hx))
theorem vK_in {T : Nat → Int} {n k : Nat} {x : Pt} : ∀ m, k < m → x ∈ vE T 4 n k 6 → x ∈ vK T 4 n m
  | 0, h, _ => absurd h (Nat.not_lt_zero _)
  | m + 1, h, hx => by
    rw [vK]
    by_cases e1 : k = m
    · subst e1; exact List.mem_append.2 (.inr hx)
    · exact List.mem_append.2 (.inl (vK_in m (by omega) hx))
theorem vN_in {T : Nat → Int} {n : Nat} {x : Pt} : ∀ m, n < m → x ∈ vK T 4 n 2 → x ∈ vN T 4 m
  | 0, h, _ => absurd h (Nat.not_lt_zero _)
  | m + 1, h, hx => by
    rw [vN]
    by_cases e1 : n = m
    · subst e1; exact List.mem_append.2 (.inr hx)
    · exact List.mem_append.2 (.inl (vN_in m (by omega) hx))
theorem spotN_spo (n e s : Nat) (o : Bool) : jZ 4 n e s o = xB n e s o := spotN_4 n e s o
theorem view_in {T : Nat → Int} {n e s : Nat} {o : Bool} (hn : n < 8) (h6 : e < 6) (h4 : s < 4) (h : T (xB n e s o) ≠ 0) : (⟨n, o, e, s, T (xB n e s o)⟩ : Pt) ∈ vN T 4 8 := by
  obtain ⟨k, hk, ho⟩ : ∃ k, k < 2 ∧ kB k = o := by
    cases o
    · exact ⟨0, by omega, rfl⟩
    · exact ⟨1, by omega, rfl⟩
  rw [← ho, ← spotN_spo] at h ⊢
  exact vN_in 8 hn (vK_in 2 hk (vE_in 6 h6 (vS_in 4 h4 h)))
theorem vS_out {T : Nat → Int} {n k e : Nat} {x : Pt} : ∀ m, x ∈ vS T 4 n k e m → ∃ s, s < m ∧ x = ⟨n, kB k, e, s, T (jZ 4 n e s (kB k))⟩
  | 0, h => by simp [vS] at h
  | m + 1, h => by
    rw [vS] at h
    split at h
    · obtain ⟨s, h1, h2⟩ := vS_out m h; exact ⟨s, by omega, h2⟩
    · rcases List.mem_append.1 h with h | h
      · obtain ⟨s, h1, h2⟩ := vS_out m h; exact ⟨s, by omega, h2⟩
      · simp at h; exact ⟨m, by omega, h⟩
theorem vE_out {T : Nat → Int} {n k : Nat} {x : Pt} : ∀ m, x ∈ vE T 4 n k m → ∃ e, e < m ∧ x ∈ vS T 4 n k e 4
  | 0, h => by simp [vE] at h
  | m + 1, h => by
    rw [vE] at h
    rcases List.mem_append.1 h with h | h
    · obtain ⟨s, h1, h2⟩ := vE_out m h; exact ⟨s, by omega, h2⟩
    · exact ⟨m, by omega, h⟩
theorem vK_out {T : Nat → Int} {n : Nat} {x : Pt} : ∀ m, x ∈ vK T 4 n m → ∃ k, k < m ∧ x ∈ vE T 4 n k 6
  | 0, h => by simp [vK] at h
  | m + 1, h => by
    rw [vK] at h
    rcases List.mem_append.1 h with h | h
    · obtain ⟨s, h1, h2⟩ := vK_out m h; exact ⟨s, by omega, h2⟩
    · exact ⟨m, by omega, h⟩
theorem vN_out {T : Nat → Int} {x : Pt} : ∀ m, x ∈ vN T 4 m → ∃ n, n < m ∧ x ∈ vK T 4 n 2
  | 0, h => by simp [vN] at h
  | m + 1, h => by
    rw [vN] at h
    rcases List.mem_append.1 h with h | h
    · obtain ⟨s, h1, h2⟩ := vN_out m h; exact ⟨s, by omega, h2⟩
    · exact ⟨m, by omega, h⟩
theorem view_out {T : Nat → Int} {x : Pt} (h : x ∈ vN T 4 8) : ∃ n e s o, n < 8 ∧ e < 6 ∧ s < 4 ∧ x = ⟨(n : Nat), o, (e : Nat), (s : Nat), T (xB n e s o)⟩ := by
  obtain ⟨n, h1, h⟩ := vN_out 8 h
  obtain ⟨k, _, h⟩ := vK_out 2 h
  obtain ⟨e, h3, h⟩ := vE_out 6 h
  obtain ⟨s, h4, h⟩ := vS_out 4 h
  exact ⟨n, e, s, kB k, h1, h3, h4, by rw [← spotN_spo]; exact h⟩
theorem comTo_in {ns : List Nd} {D : Nat → Nat → Int} {R y i : Nat} {ps : List Pt} (hb : comB ns D R ps y i = true) : ∀ k, i < k → (⟨(vU ps i).epoch, jN ns D (vU ps i).node.toNat (vU ps i).out (vU ps i).round.toNat y⟩ : Tm) ∈ yG ns D R ps y k
  | 0, h => absurd h (Nat.not_lt_zero _)
  | k + 1, h => by
    rw [yG]
    by_cases e1 : i = k
    · subst e1; rw [if_pos hb]; exact List.mem_append.2 (.inr (by simp))
    · have := comTo_in hb k (by omega)
      split
      · exact List.mem_append.2 (.inl this)
      · exact this
theorem dD {ns : List Nd} {D : Nat → Nat → Int} {R y : Nat} {ps : List Pt} {t : Tm} : ∀ k, t ∈ yG ns D R ps y k → ∃ i, i < k ∧ comB ns D R ps y i = true ∧ t = ⟨(vU ps i).epoch, jN ns D (vU ps i).node.toNat (vU ps i).out (vU ps i).round.toNat y⟩
  | 0, h => by simp [yG] at h
  | k + 1, h => by
    rw [yG] at h
    split at h
    · rename_i hb
      rcases List.mem_append.1 h with h | h
      · obtain ⟨i, h1, h2⟩ := dD k h; exact ⟨i, by omega, h2⟩
      · simp at h; exact ⟨k, by omega, hb, h⟩
    · obtain ⟨i, h1, h2⟩ := dD k h; exact ⟨i, by omega, h2⟩
theorem lstE_low {C : Nat → Nat → Bool} : ∀ m, yC C m < 4 → ∃ t ∈ wK C m, t.e < (m : Int) ∧ t.s = (yC C m : Nat)
  | 0, h => by simp [yC] at h
  | m + 1, h => by
    rw [wK]
    rw [yC] at h ⊢
    by_cases h1 : uZ (C m) (yC C m) < yC C m
    · rw [if_pos h1]
      refine ⟨⟨(m : Int), ((uZ (C m) (yC C m) : Nat) : Int)⟩, List.mem_append.2 (.inr (by simp)), ?_, rfl⟩
      show (m : Int) < ((m + 1 : Nat) : Int)
      omega
    · rw [if_neg h1]
      have h2 := nW (C m) (yC C m)
      have h3 : uZ (C m) (yC C m) = yC C m := by omega
      rw [h3] at h ⊢
      obtain ⟨t, t1, t2, t3⟩ := lstE_low m h
      exact ⟨t, t1, by omega, t3⟩
theorem lstE_mono {C : Nat → Nat → Bool} {t : Tm} {m : Nat} (h : t ∈ wK C m) : ∀ k, m ≤ k → t ∈ wK C k
  | 0, hk => by have : m = 0 := by omega
                subst this; exact h
  | k + 1, hk => by
    by_cases e1 : m = k + 1
    · subst e1; exact h
    · have := lstE_mono h k (by omega)
      rw [wK]
      split
      · exact List.mem_append.2 (.inl this)
      · exact this
theorem lstE_cover {C : Nat → Nat → Bool} {e s : Nat} (he : e < 6) (hs : s < 4) (h : C e s = true) : ∃ t ∈ wK C 6, t.e ≤ (e : Int) ∧ t.s ≤ (s : Int) := by
  have h1 : yC C (e + 1) ≤ s := by
    rw [yC]
    have h2 := nW (C e) (yC C e)
    by_cases h3 : s < uZ (C e) (yC C e)
    · have := fstS_no (C e) (yC C e) s h3
      rw [h] at this; cases this
    · omega
  obtain ⟨t, t1, t2, t3⟩ := lstE_low (C := C) (e + 1) (by omega)
  exact ⟨t, lstE_mono t1 6 (by omega), by omega, by omega⟩
theorem cV {C : Nat → Nat → Bool} {t : Tm} : ∀ m, t ∈ wK C m → ∃ e s, e < m ∧ s < 4 ∧ t = ⟨(e : Nat), (s : Nat)⟩ ∧ C e s = true
  | 0, h => by simp [wK] at h
  | m + 1, h => by
    rw [wK] at h
    split at h
    · rename_i h1
      rcases List.mem_append.1 h with h | h
      · obtain ⟨e, s, a, b⟩ := cV m h; exact ⟨e, s, by omega, b⟩
      · simp at h
        have := belE_le C m
        exact ⟨m, _, by omega, by omega, h, fstS_yes _ _ h1⟩
    · obtain ⟨e, s, a, b⟩ := cV m h; exact ⟨e, s, by omega, b⟩
theorem free_iff {fr : List Tm} {e s : Nat} : ∀ k, k ≤ fr.length → (zC fr e s k = true ↔ ∀ i, i < k → upB (nB fr i) e s = false)
  | 0, _ => ⟨fun _ i h => absurd h (Nat.not_lt_zero _), fun _ => rfl⟩
  | k + 1, hk => by
    rw [zC, Bool.and_eq_true, free_iff k (by omega), Bool.not_eq_true']
    refine ⟨fun ⟨h1, h2⟩ i hi => ?_, fun h => ⟨fun i hi => h i (by omega), h k (by omega)⟩⟩
    by_cases e1 : i = k
    · subst e1; exact h2
    · exact h1 i (by omega)
def frT (ns : List Nd) (D : Nat → Nat → Int) (R : Nat) (T : Nat → Int) (y : Nat) : List Tm := wK (inT (yG ns D R (vN T 4 8) y (vN T 4 8).length)) 6
theorem fr_free {ns : List Nd} {D : Nat → Nat → Int} {R : Nat} {T : Nat → Int} {y e s : Nat} (hR : R ≤ 4) (hs : s < R) : zC (frT ns D R T y) e s (frT ns D R T y).length = true ↔ ∀ k, k < 384 → Com ns D y e s k → T k ≤ 0 := by
  rw [free_iff _ (Nat.le_refl _)]
  constructor
  · intro h k hk hc
    refine Int.not_lt.1 fun hp => ?_
    obtain ⟨n, o, e', s', rfl, hn, h6, h4⟩ : ∃ n o e' s', k = xB n e' s' o ∧ n < 8 ∧ e' < 6 ∧ s' < 4 := by
      refine ⟨k / 48, decide (k / 24 % 2 = 1), k / 4 % 6, k % 4, ?_, by omega, by omega, by omega⟩
      unfold xB
      simp only [decide_eq_true_eq]
      split <;> omega
    rw [xV h6 h4] at hc
    obtain ⟨g1, g2, g3⟩ := hc
    obtain ⟨i, hi, ei⟩ := ptn_at (view_in hn h6 h4 (show T (xB n e' s' o) ≠ 0 by omega))
    have hb : comB ns D R (vN T 4 8) y i = true := by
      unfold comB
      rw [ei]
      simp only [Int.toNat_natCast, Bool.and_eq_true, decide_eq_true_eq]
      omega
    have hin := comTo_in hb _ hi
    rw [ei] at hin
    simp only [Int.toNat_natCast] at hin
    obtain ⟨j, hj, ej⟩ := tmn_at hin
    have hC : inT (yG ns D R (vN T 4 8) y (vN T 4 8).length) e' (jN ns D n o s' y).toNat = true := by
      rw [inT_iff]
      exact ⟨j, hj, by rw [ej], by rw [ej]; simp; omega⟩
    obtain ⟨t, t1, t2, t3⟩ := lstE_cover h6 (by omega) hC
    obtain ⟨x, hx, ex⟩ := tmn_at t1
    have := h x hx
    unfold frT at this
    rw [ex] at this
    unfold upB at this
    rw [Bool.and_eq_false_iff] at this
    simp only [decide_eq_false_iff_not] at this
    omega
  · intro h i hi
    cases hu : upB (nB (frT ns D R T y) i) e s with
    | false => rfl
    | true =>
      exfalso
      obtain ⟨e', s', g1, g2, g3, g4⟩ := cV 6 (tmn_in hi)
      unfold frT at hu
      rw [g3] at hu
      simp only [upB, Bool.and_eq_true, decide_eq_true_eq] at hu
      rw [inT_iff] at g4
      obtain ⟨j, hj, j1, j2⟩ := g4
      obtain ⟨x, hx, hb, ex⟩ := dD _ (tmn_in hj)
      obtain ⟨n, e2, s2, o, n1, n2, n3, n4⟩ := view_out (show vU (vN T 4 8) x ∈ vN T 4 8 by
        unfold vU List.getD
        rw [List.getElem?_eq_getElem hx]; exact List.getElem_mem hx)
      unfold comB at hb
      rw [n4] at hb ex
      simp only [Int.toNat_natCast, Bool.and_eq_true, decide_eq_true_eq] at hb ex
      rw [ex] at j1 j2
      simp only at j1 j2
      have := h (xB n e2 s2 o) (uQ n1 n2 n3) ((xV n2 n3).2 ⟨by omega, by omega, by omega⟩)
      omega
theorem pdo_work {ns : List Nd} {R W : Nat} {p : PSt} {a n i e s : Nat} {v : Int} : yJ ns R W p ⟨1, a, n, i, e, s, v⟩ = xQ ns R W (jJ p a n i) a n e s v := rfl
theorem pdo_note {ns : List Nd} {R W : Nat} {p : PSt} {a n e s : Nat} : yJ ns R W p ⟨2, a, n, 0, e, s, 0⟩ = yB ns W p a n e s := rfl
theorem pdo_tell {ns : List Nd} {R W : Nat} {p : PSt} {a x : Nat} : yJ ns R W p ⟨3, a, 0, x, 0, 0, 0⟩ = zF p a x := rfl
theorem PInv.msg {ns : List Nd} {R B : Nat} {p : PSt} (h : PInv ns R p B) {a n i : Nat} (hi : i < (p.wt a n).length) : ∃ (e s : Nat) (v : Int), vR (p.wt a n) i = ⟨(e : Int), (s : Int), v⟩ ∧ e < 6 ∧ s < R := by
  obtain ⟨e, s, h1, h2, h3, h4, _⟩ := h.wt a n _ (lZ hi)
  refine ⟨e, s, (vR (p.wt a n) i).value, ?_, h2, h4⟩
  rw [← h1, ← h3]
theorem PInv.six {ns : List Nd} {R B : Nat} {p : PSt} (h : PInv ns R p B) {a n k : Nat} (hk : k < 24) (hw : wnOf (p.tl a n) k = true) : (qV ns n).kind = 6 := by
  refine Classical.byContradiction fun hne => ?_
  have := h.w6 a n k hk hne
  unfold wnOf at hw
  rw [this] at hw
  cases hw
theorem act_stp {ns : List Nd} {D : Nat → Nat → Int} (hD : DOk ns D) {R W B : Nat} {p : PSt} {frs : Nat → Nat → List Tm} {y : Ev} (hp : PInv ns R p B) (h8 : ns.length ≤ 8) (hR : R ≤ 4) (hW : W ≤ 4) (hy : ActOk ns.length W p frs y) : Stp ns D W p (yJ ns R W p y) ∧ mea ns W (yJ ns R W p y) < mea ns W p := by
  rcases hy with ⟨a, n, i, h1, h2, h3, rfl⟩ | ⟨a, n, e, s, h1, h2, h3, h4, h5, _, rfl⟩ | ⟨a, x, h1, h2, h3, rfl⟩
  · obtain ⟨e, s, v, g1, g2, g3⟩ := hp.msg h3
    rw [g1, pdo_work]
    exact ⟨stp_work hD h1 h8 hR h2 h3 g1 g2 g3, mea_work hD h1 hW h8 hR h2 h3 g1 g2 g3⟩
  · rw [pdo_note]
    have hk := hp.six (by omega) h5
    exact ⟨stp_note hD h1 h8 h2 hk h3 h4 h5, mea_note hD h1 hW h8 h2 hk h3 h4 h5⟩
  · rw [pdo_tell]
    exact ⟨stp_tell h1 h2, mea_tell h1 h2 h3⟩
def lH (ns : List Nd) (D : Nat → Nat → Int) (R : Nat) (p : PSt) : Nat → Nat → List Tm := fun i n => frT ns D R (p.tb i) n
theorem pfrR_frT {ns : List Nd} {R W : Nat} {D : Nat → Nat → Int} {tb : Nat → Nat → Int} {i n : Nat} (hi : i < W) (hn : n < ns.length) : pfrR ns R W D tb i n = frT ns D R (tb i) n := by
  unfold pfrR frT
  rw [if_pos (by unfold mT jQ; simp; omega), Int.toNat_natCast, Int.toNat_natCast]
theorem note_zero {ns : List Nd} {D : Nat → Nat → Int} (hD : DOk ns D) {R W B : Nat} {p : PSt} {a n e s : Nat} (hK : KInv ns D W p) (hp : PInv ns R p B) (hB : B ≤ 100000000) (h8 : ns.length ≤ 8) (hR : R ≤ 4) (hW : W ≤ 4) (ha : a < W) (hn : n < ns.length) (h6 : e < 6) (h4 : s < R) (hw : wnOf (p.tl a n) (e * 4 + s) = true) (hf : zC (lH ns D R p a n) e s (lH ns D R p a n).length = true) :
    Zero ns D W (yB ns W p a n e s) n e s := by
  have h0 := free_zero hK hW ha hn (fun x y => ⟨Nat.le_trans (hp.few x y).1 hB, Nat.le_trans (hp.few x y).2.2 hB⟩) ((fr_free hR h4).1 hf)
  exact h0.stp hn (stp_note hD ha h8 hn (hp.six (by omega) hw) h6 (by omega) hw)
theorem Zero.quiet {ns : List Nd} {D : Nat → Nat → Int} {W y e s : Nat} {p : PSt} (h : Zero ns D W p y e s) (hy : y < 8) {i : Nat} (hi : i < W) {m : Gv} (hm : m ∈ p.wt i y) {e' s' : Nat} (he : m.node = e') (hs : m.epoch = s') (h6 : e' < 6) (h4 : s' < 4) : ¬ (e' ≤ e ∧ s' ≤ s) := by
  rintro ⟨g1, g2⟩
  have hz := h (xB y e' s' false) (uQ hy h6 h4) ((xV h6 h4).2 ⟨g1, by rw [mV, if_pos rfl]; omega, by rw [mV, if_pos rfl]; omega⟩)
  obtain ⟨a1, a2, a3, _, a5⟩ := spo_at (n := y) (o := false) h6 h4
  unfold pC at hz
  rw [if_pos (by rw [a5]; rfl)] at hz
  unfold tZ at hz
  rw [a1, a2, a3] at hz
  have := lM (f := fun i => tY (p.wt i y) e' s') (k := W) (fun _ _ => rG _ _ _) hi (msgC_mem hm he hs)
  omega
def vP (ns : List Nd) (W : Nat) : Nat → List Pt
  | 0 => []
  | k + 1 => if (qV ns k).kind == 0 then vP ns W k ++ [⟨k, true, 0, 0, W⟩] else vP ns W k
theorem begL_len (ns : List Nd) (W k : Nat) : (vP ns W k).length ≤ k := by
  induction k with
  | zero => simp [vP]
  | succ k ih => unfold vP; split <;> (try simp) <;> omega
theorem begL_ok {ns : List Nd} {W : Nat} (h8 : ns.length ≤ 8) : ∀ k, k ≤ ns.length → ∀ p ∈ vP ns W k, wP 8 4 p := by
  intro k
  induction k with
  | zero => intro _ p hp; simp [vP] at hp
  | succ k ih =>
    intro hk p hp
    unfold vP at hp
    split at hp
    · rcases List.mem_append.1 hp with h | h
      · exact ih (by omega) p h
      · simp at h
        subst h
        exact ⟨k, 0, 0, rfl, by omega, rfl, by omega, rfl, by omega⟩
    · exact ih (by omega) p hp
set_option maxRecDepth 100000 in
set_option maxHeartbeats 4000000 in
theorem pbeg_any (ns : List Nd) (ga : Option Addr) (gc W : Nat) (r : Int) (w : World) (hn : NodesAt w ga ns) (h8 : ns.length ≤ 8) (hW : W ≤ 4) :
    Calls Try.prog 108 #[.agg #[.slice ga ns.length gc, .int .i64 r], .int .i64 (W : Int)] w fun e w' => ∃ v, e = .returned (.agg #[v]) ∧ OwnP w w' v (vP ns W ns.length) ∧ Bw w w' := by
  go_enter Try.func108, Try.ntmps108
  go_wp2_with fail
  obtain ⟨w0, hw0⟩ : ∃ w0, ((w.alloc (.cells #[.slice ga ns.length gc, .int .i64 r] 24)).alloc (.cells #[.slice none 0 0] 183)).alloc (.cells #[.slice none 0 0] 183) = w0 := ⟨_, rfl⟩
  have hA := alloc3 w (.cells #[.slice ga ns.length gc, .int .i64 r] 24) (.cells #[.slice none 0 0] 183) (.cells #[.slice none 0 0] 183)
  rw [hw0] at hA
  rw [hw0]
  obtain ⟨hg0, hd0, hc0, hB0⟩ := hA
  clear hw0 hg0
  obtain ⟨gb, hgb⟩ : ∃ gb, w.heap.size = gb := ⟨_, rfl⟩
  rw [hgb] at hd0 hc0
  rw [hgb]
  obtain ⟨db, hdb⟩ : ∃ db, gb + 1 = db := ⟨_, rfl⟩
  obtain ⟨cb, hcb⟩ : ∃ cb, gb + 1 + 1 = cb := ⟨_, rfl⟩
  rw [hcb] at hc0
  rw [hdb] at hd0
  simp only [hcb]
  simp only [hdb]
  have hq : w.heap.size ≤ cb ∧ w.heap.size ≤ db ∧ db ≠ cb := by omega
  clear hgb hdb hcb
  go_loopw [11] (fun i wr => ∃ (k : Nat) (v : Value), k ≤ ns.length ∧ i = .int .i64 k ∧ wr.heap[db]? = some (.cells #[.slice none 0 0] 183 (0, 0)) ∧ wr.heap[cb]? = some (.cells #[v] 183 (0, 0)) ∧ OwnP w wr v (vP ns W k) ∧ Bw w wr) (fun i _ => ns.length - (intOf i).toNat)
  case atStart => exact ⟨0, _, Nat.zero_le _, rfl, hd0, hc0, OwnP.nil _ _, hB0⟩
  case round =>
    clear hd0 hc0 hB0
    obtain ⟨k, v, hk, rfl, hd, hc, ho, hB⟩ := hrel
    rename World => wr
    have hle := begL_len ns W k
    obtain ⟨va, vc, hve⟩ : ∃ va vc, v = .slice va (vP ns W k).length vc := ⟨_, _, qW ho⟩
    subst hve
    have dl := (Array.getElem?_eq_some_iff.1 hd).1
    have cl := (Array.getElem?_eq_some_iff.1 hc).1
    by_cases hlt : k < ns.length
    · obtain ⟨b, off, rfl, hb, hcn⟩ := (hn.below hB) k hlt
      obtain ⟨c0, c1, c2, c3, c4⟩ := hcn k hlt
      clear hcn
      have Hbl : Hid (vP ns W (k + 1) = if (qV ns k).kind == 0 then vP ns W k ++ [⟨k, true, 0, 0, W⟩] else vP ns W k) := qJ rfl
      have Hd := qJ hd
      have Hc := qJ hc
      cases hk0 : ((qV ns k).kind == 0) with
      | false =>
        have Hs : Hid (vP ns W (k + 1) = vP ns W k) := qJ (by rw [qK Hbl, hk0]; rfl)
        generalize vP ns W k = L at *
        generalize qV ns k = y at *
        clear hd hc
        go_wp2_with fail
        go_roundw
        case rel => exact ⟨k + 1, _, by omega, by go_num, (Below.block (show Bw wr _ from (by repeat first|exact br _|assumption|apply bd|apply bn|apply ba|refine bt ?_ (by assumption))) _ dl).trans (qK Hd), (Below.block (show Bw wr _ from (by repeat first|exact br _|assumption|apply bd|apply bn|apply ba|refine bt ?_ (by assumption))) _ cl).trans (qK Hc), by rw [qK Hs]; exact ho.bw (by repeat first|exact br _|assumption|apply bd|apply bn|apply ba|refine bt ?_ (by assumption)), (by repeat first|exact br _|assumption|apply bd|apply bn|apply ba|refine bt ?_ (by assumption))⟩
        case measure => simp [intOf]; omega
      | true =>
        have Hs : Hid (vP ns W (k + 1) = vP ns W k ++ [⟨k, true, 0, 0, W⟩]) := qJ (by rw [qK Hbl, hk0]; rfl)
        generalize vP ns W k = L at *
        generalize qV ns k = y at *
        have x0 := qQ (o := 0) hc rfl
        clear hd hc
        go_wp2_with fail
        go_region_law (first | (refine pF rfl _ _ _ 194 rfl _ 5 40 Try.infoPoint Try.underlying97 rfl (by decide) w.heap.size (.slice va L.length vc) L.length (qG L) rfl (ho.bw (by repeat first|exact br _|assumption|apply bd|apply bn|apply ba|refine bt ?_ (by assumption))) _ _ (Pt.cells ⟨k, true, 0, 0, W⟩) rfl rfl (pt_cells (qQ (qN _ _ (by simp)) rfl) (qQ (qN _ _ (by simp)) rfl) (qQ (qN _ _ (by simp)) rfl) (qQ (qN _ _ (by simp)) rfl) (qQ (qN _ _ (by simp)) rfl)) (pt_one _) (by omega) (by omega) (Bw.size (show Bw w _ from (by repeat first|exact br _|assumption|apply bd|apply bn|apply ba|refine bt ?_ (by assumption)))) ?_; intro g6 cap6 w6 ho6 hg6 hl6; have hc6 := qJ (kZ (ho.bw (show Bw wr _ from (by repeat first|exact br _|assumption|apply bd|apply bn|apply ba|refine bt ?_ (by assumption)))) hg6 ((Below.block (show Bw wr _ from (by repeat first|exact br _|assumption|apply bd|apply bn|apply ba|refine bt ?_ (by assumption))) _ cl).trans (qK Hc)) (.inl (by decide))); have hd6 := qJ (kZ (ho.bw (show Bw wr _ from (by repeat first|exact br _|assumption|apply bd|apply bn|apply ba|refine bt ?_ (by assumption)))) hg6 ((Below.block (show Bw wr _ from (by repeat first|exact br _|assumption|apply bd|apply bn|apply ba|refine bt ?_ (by assumption))) _ dl).trans (qK Hd)) (.inl (by decide))); have hB6 := tD (W := w) (ho.bw (show Bw wr _ from (by repeat first|exact br _|assumption|apply bd|apply bn|apply ba|refine bt ?_ (by assumption)))) hg6 (by repeat first|exact br _|assumption|apply bd|apply bn|apply ba|refine bt ?_ (by assumption)) (Nat.le_refl _); have z0 := qQ (o := 0) (qK hc6) rfl; have zf := qZ (o := 0) (qK hc6); have zl := (Array.getElem?_eq_some_iff.1 (qK hc6)).1) | (go_simp; go_at_call 137; refine (mM _ _ _ _ _).mono ?_; rintro e1 w1 ⟨rfl, hb1⟩; simp only [Pt.val]; have hx1 := (Below.block (show Bw wr w1 from (by repeat first|exact br _|assumption|apply bd|apply bn|apply ba|refine bt ?_ (by assumption))) _ cl).trans (qK Hc); have x1 := qQ (o := 0) hx1 rfl; have x1l := (Array.getElem?_eq_some_iff.1 hx1).1; clear hx1))
        all_goals (
          go_wp2_with fail
          go_roundw
          case rel =>
            refine ⟨k + 1, _, by omega, by go_num, ?_, (qY (qK hc6)).trans rfl, ?_, ?_⟩
            · exact (Below.heap_setCell w6 ⟨cb, 0, none⟩ _ db hq.2.2).trans (qK hd6)
            · rw [qK Hs]; exact kJ (qK hc6) (OwnP.snoc ho6) (by decide)
            · exact Bw.setCell hB6 hq.1 _
          case measure => simp [intOf]; omega)
    · have hkk : k = ns.length := by omega
      subst hkk
      have d0 := qQ (o := 0) hd rfl
      have df := qZ (o := 0) hd
      have x0 := qQ (o := 0) hc rfl
      have hds := qQ (o := 0) (qY (k := 0) (v := .slice va (vP ns W ns.length).length vc) hd) rfl
      have hos := kJ (k := 0) (u := .slice va (vP ns W ns.length).length vc) hd ho (by decide)
      clear hc hd ho
      go_wp2_with fail
      refine bodyPost_ret (v := .agg #[.slice va (vP ns W ns.length).length vc]) (by simp [results, Try.results108, go_sem, hds]) rfl ⟨_, rfl, hos, ?_⟩
      exact Bw.setCell hB hq.2.1 _
def zwA : List Value := (List.replicate 8 [Value.int .i64 0, Value.bool false]).flatten
theorem nH : zwA.length = 16 := rfl
def zwT : List Value := List.replicate 24 (Value.bool false) ++ (List.replicate 24 (List.replicate 8 (Value.int .i64 0) ++ List.replicate 8 (Value.bool false))).flatten
theorem zwT_len : zwT.length = 408 := by kernel_rfl
def zwH : List Value := zwA ++ (List.replicate 16 (Value.slice none 0 0) ++ (List.replicate 8 zwT).flatten)
theorem tP : zwH.length = 3296 := by simp [zwH, nH, zwT_len]
def zwL : List Value := zwH ++ (List.replicate 384 (Value.int .i64 0) ++ List.replicate 4 (Value.slice none 0 0))
theorem Try.infoWorker : (Try.prog.info? 162).map (fun i => (i.zero, i.size, i.bytes)) = some (some (.agg zwL.toArray), 3684, 17696) := by kernel_rfl
theorem zwL_len : zwL.length = 3684 := by simp only [zwL, List.length_append, List.length_replicate, tP]
theorem zwL_src : ∀ n, n < 8 → zwL[n * 2]? = some (.int .i64 0) ∧ zwL[n * 2 + 1]? = some (.bool false) := by
  intro n hn
  unfold zwL
  rw [List.getElem?_append_left (by rw [tP]; omega), List.getElem?_append_left (by rw [tP]; omega)]
  unfold zwH
  rw [List.getElem?_append_left (by rw [nH]; omega), List.getElem?_append_left (by rw [nH]; omega)]
  match n, hn with
  | 0, _ | 1, _ | 2, _ | 3, _ | 4, _ | 5, _ | 6, _ | 7, _ => exact ⟨rfl, rfl⟩
theorem zwL_wait : ∀ n, n < 16 → zwL[16 + n]? = some (.slice none 0 0) := by
  intro n hn
  unfold zwL
  rw [List.getElem?_append_left (by rw [tP]; omega)]
  unfold zwH
  rw [List.getElem?_append_right (by rw [nH]; omega), nH, List.getElem?_append_left (by rw [List.length_replicate]; omega), List.getElem?_replicate, if_pos (by omega)]
theorem flat_rep {α : Type} (l : List α) {c : Nat} (hl : l.length = c) : ∀ (k i o : Nat), i < k → o < c → (List.replicate k l).flatten[i * c + o]? = l[o]? := by
  intro k
  induction k with
  | zero => intro i o h; omega
  | succ k ih =>
    intro i o hi ho
    rw [List.replicate_succ', List.flatten_append]
    have hlen : (List.replicate k l).flatten.length = k * c := by simp [hl]
    by_cases e : i < k
    · have hlt : i * c + o < k * c := by
        have := Nat.mul_le_mul_right c (show i + 1 ≤ k from e)
        rw [Nat.add_mul] at this
        omega
      rw [List.getElem?_append_left (by rw [hlen]; exact hlt)]
      exact ih i o e ho
    · have : i = k := by omega
      subst this
      rw [List.getElem?_append_right (by rw [hlen]; omega), hlen, show i * c + o - i * c = o by omega]
      simp
theorem zwL_tal : ∀ n k, n < 8 → k < 408 → zwL[32 + n * 408 + k]? = some (zwT.getD k undef) := by
  intro n k hn hk
  unfold zwL
  rw [List.getElem?_append_left (by rw [tP]; omega)]
  unfold zwH
  rw [List.getElem?_append_right (by rw [nH]; omega), nH, List.getElem?_append_right (by rw [List.length_replicate]; omega), List.length_replicate, show 32 + n * 408 + k - 16 - 16 = n * 408 + k by omega, flat_rep zwT zwT_len 8 n k hn hk, List.getD, List.getElem?_eq_getElem (by rw [zwT_len]; exact hk)]
  rfl
theorem zwL_bel : ∀ k, k < 384 → zwL[3296 + k]? = some (.int .i64 0) := by
  intro n hn
  unfold zwL
  rw [List.getElem?_append_right (by rw [tP]; omega), tP, List.getElem?_append_left (by rw [List.length_replicate]; omega), List.getElem?_replicate, if_pos (by omega)]
theorem zwL_way : ∀ j, j < 4 → zwL[3680 + j]? = some (.slice none 0 0) := by
  intro n hn
  unfold zwL
  rw [List.getElem?_append_right (by rw [tP]; omega), tP, List.getElem?_append_right (by rw [List.length_replicate]; omega), List.length_replicate, List.getElem?_replicate, if_pos (by omega)]
theorem zwL_own : ∀ v ∈ zwL, Value.ownBlock v = none ∧ v.oneCell' = true := by
  intro v hv
  simp only [zwL, zwH, zwT, zwA, List.mem_append, List.mem_flatten, List.mem_replicate] at hv
  rcases hv with (⟨l, ⟨_, rfl⟩, hv⟩ | ⟨_, rfl⟩ | ⟨l, ⟨_, rfl⟩, hv⟩) | ⟨_, rfl⟩ | ⟨_, rfl⟩
  · simp at hv
    rcases hv with rfl | rfl <;> exact ⟨rfl, rfl⟩
  · exact ⟨rfl, rfl⟩
  · simp only [List.mem_append, List.mem_flatten, List.mem_replicate] at hv
    rcases hv with ⟨_, rfl⟩ | ⟨l, ⟨_, rfl⟩, hv⟩
    · exact ⟨rfl, rfl⟩
    · simp only [List.mem_append, List.mem_replicate] at hv
      rcases hv with ⟨_, rfl⟩ | ⟨_, rfl⟩ <;> exact ⟨rfl, rfl⟩
  · exact ⟨rfl, rfl⟩
  · exact ⟨rfl, rfl⟩
def wkL (T : Nat → Int) : List Value := (List.range 3684).map fun k => if 3296 ≤ k ∧ k < 3680 then .int .i64 (T (k - 3296)) else zwL.getD k undef
theorem wkL_len (T : Nat → Int) : (wkL T).length = 3684 := by rw [wkL, List.length_map, List.length_range]
theorem wkL_bel (T : Nat → Int) {k : Nat} (hk : k < 384) : (wkL T)[3296 + k]? = some (.int .i64 (T k)) := by
  unfold wkL
  rw [List.getElem?_map, List.getElem?_range (by omega)]
  simp [show 3296 + k < 3680 by omega]
theorem uS (T : Nat → Int) {k : Nat} (hk : k < 3296 ∨ 3680 ≤ k) : (wkL T)[k]? = zwL[k]? := by
  unfold wkL
  by_cases h : k < 3684
  · rw [List.getElem?_map, List.getElem?_range h, Option.map_some, if_neg (by omega), List.getD, List.getElem?_eq_getElem (by rw [zwL_len]; exact h)]
    rfl
  · rw [List.getElem?_eq_none (by simp; omega), List.getElem?_eq_none (by rw [zwL_len]; omega)]
theorem wkL_own (T : Nat → Int) : ∀ v ∈ wkL T, Value.ownBlock v = none ∧ v.oneCell' = true := by
  intro v hv
  simp only [wkL, List.mem_map, List.mem_range] at hv
  obtain ⟨k, hk, rfl⟩ := hv
  split
  · exact ⟨rfl, rfl⟩
  · rw [List.getD, List.getElem?_eq_getElem (by rw [zwL_len]; exact hk)]
    exact zwL_own _ (List.getElem_mem _)
theorem belIn_wkL {w : World} {b : Nat} {t : TypeId} {T : Nat → Int} (h : BelIn w b 3296 t zwL.toArray T) : w.heap[b]? = some (.cells (wkL T).toArray t (0, 0)) := by
  obtain ⟨arr, h1, h2, h3, h4⟩ := h
  have : arr = (wkL T).toArray := by
    apply Array.ext_getElem?
    intro k
    have e : (wkL T).toArray[k]? = (wkL T)[k]? := by simp
    rw [e]
    by_cases hk : k < 3296 ∨ 3296 + 384 ≤ k
    · have e2 : zwL.toArray[k]? = zwL[k]? := by simp
      rw [h3 k hk, e2, uS T (by omega)]
    · have := h4 (k - 3296) (by omega)
      rw [show 3296 + (k - 3296) = k by omega] at this
      rw [this]
      have h5 := wkL_bel T (k := k - 3296) (by omega)
      rw [show 3296 + (k - 3296) = k by omega] at h5
      exact h5.symm
  rw [← this]
  exact h1
def cS (T : Nat → Int) (k : Nat) : List Value := (List.replicate k (wkL T)).flatten
theorem rowL_succ (T : Nat → Int) (k : Nat) : cS T (k + 1) = cS T k ++ wkL T := by
  unfold cS
  rw [List.replicate_succ', List.flatten_append]
  simp
theorem rowL_get (T : Nat → Int) : ∀ (k i o : Nat), i < k → o < 3684 → (cS T k)[i * 3684 + o]? = (wkL T)[o]? := by
  intro k
  induction k with
  | zero => intro i o h; omega
  | succ k ih =>
    intro i o hi ho
    have hl : (cS T k).length = k * 3684 := by simp [cS, wkL_len]
    rw [rowL_succ]
    by_cases e : i < k
    · rw [List.getElem?_append_left (by rw [hl]; omega)]
      exact ih i o e ho
    · have : i = k := by omega
      subst this
      rw [List.getElem?_append_right (by rw [hl]; omega), hl, show i * 3684 + o - i * 3684 = o by omega]
theorem rowL_own (T : Nat → Int) (k : Nat) : ∀ v ∈ cS T k, Value.ownBlock v = none := by
  intro v hv
  simp only [cS, List.mem_flatten, List.mem_replicate] at hv
  obtain ⟨l, ⟨_, e⟩, hv⟩ := hv
  rw [e] at hv
  exact (wkL_own T v hv).1
def rP (T : Nat → Int) : PSt := ⟨fun _ _ => 0, fun _ _ => false, fun _ _ => [], fun _ _ => [], fun _ _ k => zwT.getD k undef, fun _ => T, fun _ _ => [], 0, []⟩
theorem PRow.first {w : World} {S : Nat → Prop} {warr : Array Value} {T : Nat → Int} {L W : Nat} (hL : L ≤ 8) (hs : W * 3684 ≤ warr.size) (ht : warr.toList.take (W * 3684) = cS T W) : PRow w S warr L W (rP T) := by
  have get : ∀ i o, i < W → o < 3684 → warr[i * 3684 + o]? = (wkL T)[o]? := by
    intro i o hi ho
    rw [← rowL_get T W i o hi ho, ← ht, List.getElem?_take_of_lt (by omega)]
    simp
  have nown : ∀ (p b : Nat) (v : Value), p < W * 3684 → warr[p]? = some v → v.ownBlock = some b → False := by
    intro p b v hp hv hb
    have h1 : (cS T W)[p]? = some v := by rw [← ht, List.getElem?_take_of_lt hp]; simpa using hv
    have := rowL_own T W v (List.mem_of_getElem? h1)
    rw [this] at hb
    cases hb
  refine ⟨hs, fun i n hi hn => ⟨?_, ?_⟩, fun i n hi hn => ?_, fun i n hi hn => ?_, fun i n hi hn k hk => ?_, fun i hi k hk => ?_, fun i j hi hj => ?_, fun p b v hp hv hb => (nown p b v hp hv hb).elim, fun p q b v u hp _ hv _ hb _ => (nown p b v hp hv hb).elim⟩
  · rw [get i (n * 2) hi (by omega), uS T (by omega)]; exact (zwL_src n (by omega)).1
  · rw [Nat.add_assoc, get i (n * 2 + 1) hi (by omega), uS T (by omega)]; exact (zwL_src n (by omega)).2
  · refine ⟨.slice none 0 0, ?_, World.ownsRow_nil _ _ _ _, by simp [Value.ownBlock]⟩
    rw [Nat.add_assoc, get i (16 + n) hi (by omega), uS T (by omega)]; exact zwL_wait n (by omega)
  · refine ⟨.slice none 0 0, ?_, World.ownsRow_nil _ _ _ _, by simp [Value.ownBlock]⟩
    rw [Nat.add_assoc, get i (24 + n) hi (by omega), uS T (by omega), show 24 + n = 16 + (24 - 16 + n) by omega]; exact zwL_wait _ (by omega)
  · rw [Nat.add_assoc, Nat.add_assoc, get i (32 + (n * 408 + k)) hi (by omega), uS T (by omega), ← Nat.add_assoc]; exact zwL_tal n k (by omega) hk
  · rw [Nat.add_assoc, get i (3296 + k) hi (by omega)]; exact wkL_bel T hk
  · refine ⟨.slice none 0 0, ?_, [], ⟨rfl, .inl ⟨rfl, rfl⟩⟩, by simp [Value.ownBlock], fun k hk => absurd hk (Nat.not_lt_zero k)⟩
    rw [Nat.add_assoc, get i (3680 + j) hi (by omega), uS T (by omega)]; exact zwL_way j hj
def zrun : Array Value := #[.slice none 0 0, .int .i64 0, .slice none 0 0, .slice none 0 0, .int .i64 0, .slice none 0 0]
theorem fold_get (l : List Value) : ∀ (k : Nat) (b : Array Value) (i : Nat), k + l.length ≤ b.size → ((l.zipIdx k).foldl (fun (cs : Array Value) (p : Value × Nat) => cs.setIfInBounds (0 + p.2) p.1) b)[i]? = if k ≤ i ∧ i < k + l.length then l[i - k]? else b[i]? := by
  induction l with
  | nil => intro k b i _; simp; omega
  | cons x l ih =>
    intro k b i hs
    rw [List.zipIdx_cons, List.foldl_cons, ih (k + 1) _ i (by simp at hs ⊢; omega)]
    simp only [List.length_cons] at hs ⊢
    by_cases h1 : k + 1 ≤ i ∧ i < k + 1 + l.length
    · rw [if_pos h1, if_pos (by omega), show i - k = (i - (k + 1)) + 1 by omega, List.getElem?_cons_succ]
    · rw [if_neg h1]
      by_cases h2 : i = k
      · subst h2
        rw [if_pos (by omega), Nat.zero_add, Array.getElem?_setIfInBounds_self_of_lt (by omega)]
        simp
      · rw [if_neg (by omega), Array.getElem?_setIfInBounds_ne (by omega)]
theorem fold_all (c b : Array Value) (h : b.size = c.size) : c.zipIdx.foldl (fun (cs : Array Value) (p : Value × Nat) => cs.setIfInBounds (0 + p.2) p.1) b = c := by
  rw [← Array.foldl_toList, Array.toList_zipIdx]
  apply Array.ext_getElem?
  intro i
  rw [fold_get c.toList 0 b i (by simp [h])]
  by_cases hi : i < c.size
  · rw [if_pos (by simpa using hi)]; simp
  · rw [if_neg (by simpa using hi), Array.getElem?_eq_none (by omega), Array.getElem?_eq_none (by omega)]
theorem run_build1 (w : World) (t e : TypeId) (n : Nat) (z : Value) (cells : Array Value) (hu : Try.prog.underlying t = some (.slice e)) (hz : ∀ w, (zeroValue e).run Try.prog w = .ok z w) (hi : (Try.prog.info? e).map (·.size) = some n) (hc : cells.size = n) (hn : 0 < n) (hm : n ≤ 100000) :
    (Instr.buildSlice t 1 #[(0, .agg cells)]).run Try.prog w = .ok (.slice (some ⟨w.heap.size, 0, none⟩) 1 1) (w.alloc (.cells cells e)) := by
  cases hq : Try.prog.info? e with
  | none => simp [hq] at hi
  | some i =>
    have hs : i.size = n := by simpa [hq] using hi
    have hf : ∀ b : Array Value, b.size = n → Instr.fill (fun k => some (k * n, n)) b [(0, .agg cells)] = some cells := by
      intro b hb
      have := fold_all cells b (by omega)
      simp only [Nat.zero_add] at this
      have hsz : cells.zipIdx.size = n := by simp [hc]
      simp only [hsz] at this
      simp [Instr.fill, Value.cells, hc, hb, this]
    have h24 : ¬ (1 * n > 2 ^ 24) := by have : (2 : Nat) ^ 24 = 16777216 := by decide
                                        omega
    have h0 : ¬ (1 * n = 0) := by omega
    have hfb := hf ((Array.range (1 * n)).map (z.cells[· % z.cells.size]!)) (by simp)
    have hsz : (sizeOf e).run Try.prog w = .ok n w := by simp [sizeOf, typeInfo, hq, hs]
    have hno : (newObj (.cells cells e)).run Try.prog w = .ok w.heap.size (w.alloc (.cells cells e)) := rfl
    simp only [Instr.buildSlice, Sem.run_bind, run_underlying hu, hsz, Result.andThen_ok, Sem.run_pure, if_neg h24, if_neg h0, hz, hfb, newRow, hno]
theorem buildL {ops : Array Oper} {rest : List Oper} {o : Oper} {a : Act} {Q : Exit → Act → World → Prop} (w : World) (hgd : o.guard = none) (x : Operand) (t e : TypeId) (ho : o.op = .buildSlice t 1 #[(0, x)]) (n : Nat) (z : Value) (cells : Array Value) (hx : a.eval x = .agg cells) (hu : Try.prog.underlying t = some (.slice e)) (hz : ∀ w, (zeroValue e).run Try.prog w = .ok z w) (hi : (Try.prog.info? e).map (·.size) = some n) (hc : cells.size = n) (hn : 0 < n) (hm : n ≤ 100000)
    (h : wpList Try.prog ops Q rest (a.put o.dst (.slice (some ⟨w.heap.size, 0, none⟩) 1 1)) (w.alloc (.cells cells e))) : wpList Try.prog ops Q (o :: rest) a w := by
  have hr := run_build1 w t e n z cells hu hz hi hc hn hm
  refine wpList_plain hgd fun _ hK => ?_
  unfold Oper.wp execOp
  simp only [ho, Sem.run_bind, Sem.run_pure, Result.andThen_ok, List.map_toArray, List.map_cons, List.map_nil, hx, hr]
  exact hK _ _ h
end Go.Proofs.Ytfemleimkbjehaa
