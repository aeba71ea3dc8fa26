import Derived.Test.YtfemleimkbjehaaJ26
set_option maxRecDepth 1000000
set_option maxHeartbeats 40000000
set_option linter.unusedVariables false
set_option linter.unusedSimpArgs false
namespace Go.Proofs.Ytfemleimkbjehaa
open Go.RowKit
structure DOk (ns : List Nd) (D : Nat → Nat → Int) : Prop where
  d0 : ∀ a x, a < ns.length → x < ns.length → qL (qV ns x) a = true → D a x = 0
  tri : ∀ a x y, a < ns.length → x < ns.length → y < ns.length → qL (qV ns x) a = true → 0 ≤ D x y → 0 ≤ D a y ∧ D a y ≤ D x y + uV ns x
  low : ∀ a x, a < ns.length → x < ns.length → qL (qV ns x) a = true → (qV ns a).kind ≠ 4 → cL ns a < cL ns x
def xB (n e s : Nat) (o : Bool) : Nat := 48 * n + (if o then 24 else 0) + 4 * e + s
theorem spo_at {n e s : Nat} {o : Bool} (h6 : e < 6) (h4 : s < 4) : xB n e s o / 48 = n ∧ xB n e s o / 4 % 6 = e ∧ xB n e s o % 4 = s ∧ decide (xB n e s o / 24 % 2 = 1) = o ∧ xB n e s o / 24 % 2 = (if o then 1 else 0) := by
  unfold xB
  cases o
  · simp only [Bool.false_eq_true, if_false]
    refine ⟨by omega, by omega, by omega, by simp; omega, by omega⟩
  · simp only [if_true]
    refine ⟨by omega, by omega, by omega, by simp; omega, by omega⟩
theorem uQ {n e s : Nat} {o : Bool} (hn : n < 8) (h6 : e < 6) (h4 : s < 4) : xB n e s o < 384 := by unfold xB; split <;> omega
theorem uH (ns : List Nd) {n e s : Nat} {o : Bool} (h6 : e < 6) (h4 : s < 4) : rkS ns (xB n e s o) = ((e * 4 + s) * 9 + cL ns n) * 2 + (if o then 1 else 0) := by
  obtain ⟨h1, h2, h3, _, h5⟩ := spo_at (n := n) (o := o) h6 h4
  unfold rkS; rw [h1, h2, h3, h5]
theorem xV {ns : List Nd} {D : Nat → Nat → Int} {y e0 s0 n e s : Nat} {o : Bool} (h6 : e < 6) (h4 : s < 4) : Com ns D y e0 s0 (xB n e s o) ↔ e ≤ e0 ∧ 0 ≤ jN ns D n o s y ∧ jN ns D n o s y ≤ s0 := by
  obtain ⟨h1, h2, h3, h4, _⟩ := spo_at (n := n) (o := o) h6 h4
  unfold Com; rw [h1, h2, h3, h4]
theorem topo_le {ns : List Nd} {n : Nat} (h : n < 8) : cL ns n ≤ 8 := by unfold cL; split <;> omega
theorem mV {ns : List Nd} {D : Nat → Nat → Int} {n s y : Nat} : jN ns D n false s y = if n = y then (s : Int) else if D n y < 0 then -1 else s + D n y + uV ns n := by
  unfold jN uV
  by_cases h : n = y
  · simp [h]
  · have h' : ¬ (n == y) = true := by simpa using h
    rw [if_neg h]
    simp only [Bool.not_false, Bool.true_and]
    rw [if_neg h']
    by_cases h2 : D n y < 0
    · simp [h2]
    · rw [if_neg (by simpa using h2), if_neg h2]
      by_cases h3 : (qV ns n).kind = 4
      · rw [if_pos (by simpa using h3), if_pos h3]; omega
      · rw [if_neg (by simpa using h3), if_neg h3]; omega
theorem cQ {ns : List Nd} {D : Nat → Nat → Int} {n s y : Nat} : jN ns D n true s y = if D n y < 0 then -1 else s + D n y := by
  unfold jN
  simp only [Bool.not_true, Bool.false_and, Bool.false_eq_true, if_false]
  by_cases h2 : D n y < 0
  · simp [h2]
  · rw [if_neg (by simpa using h2), if_neg h2]
theorem lead_work {ns : List Nd} {D : Nat → Nat → Int} (hD : DOk ns D) (h8 : ns.length ≤ 8) {n x e s s' : Nat} (hn : n < ns.length) (hx : x < ns.length) (ht : qL (qV ns x) n = true) (h6 : e < 6) (h4 : s < 4) (h4' : s' < 4) (hs : s' = if (qV ns n).kind = 4 then s + 1 else s) : gQ ns D (xB n e s false) (xB x e s' false) := by
  refine ⟨?_, fun y e0 s0 hy h => ?_⟩
  · rw [uH ns h6 h4, uH ns h6 h4']
    have := topo_le (ns := ns) (n := n) (by omega)
    by_cases hb : (qV ns n).kind = 4
    · rw [if_pos hb] at hs; subst hs; simp only [Bool.false_eq_true, if_false]; omega
    · rw [if_neg hb] at hs; subst hs
      have := hD.low n x hn hx ht hb
      simp only [Bool.false_eq_true, if_false]; omega
  · rw [xV h6 h4'] at h
    rw [xV h6 h4]
    obtain ⟨g1, g2, g3⟩ := h
    refine ⟨g1, ?_⟩
    have hb1 : (s' : Int) = s + uV ns n := by unfold uV; split at hs <;> simp_all
    have hbn := xR ns n
    have hbx := xR ns x
    rw [mV] at g2 g3 ⊢
    by_cases e1 : n = y
    · rw [if_pos e1]
      by_cases e2 : x = y
      · rw [if_pos e2] at g3; omega
      · rw [if_neg e2] at g2 g3
        split at g2
        · omega
        · rename_i h0; rw [if_neg h0] at g3; omega
    · rw [if_neg e1]
      by_cases e2 : x = y
      · subst e2
        rw [if_pos rfl] at g3
        have := hD.d0 n x hn hx ht
        rw [if_neg (by omega)]; omega
      · rw [if_neg e2] at g2 g3
        split at g2
        · omega
        · rename_i h0
          rw [if_neg h0] at g3
          have := hD.tri n x y hn hx hy ht (by omega)
          rw [if_neg (by omega)]; omega
theorem lead_sum {ns : List Nd} {D : Nat → Nat → Int} {n e s : Nat} (hk : (qV ns n).kind = 6) (h6 : e < 6) (h4 : s < 4) : gQ ns D (xB n e s false) (xB n e s true) := by
  refine ⟨?_, fun y e0 s0 hy h => ?_⟩
  · rw [uH ns h6 h4, uH ns h6 h4]; simp only [Bool.false_eq_true, if_false, if_true]; omega
  · rw [xV h6 h4] at h
    rw [xV h6 h4]
    obtain ⟨g1, g2, g3⟩ := h
    refine ⟨g1, ?_⟩
    rw [mV]
    rw [cQ] at g2 g3
    have hb : uV ns n = 0 := by unfold uV; rw [hk]; rfl
    split at g2
    · omega
    · rename_i h0
      rw [if_neg h0] at g3
      by_cases e1 : n = y
      · rw [if_pos e1]; omega
      · rw [if_neg e1, if_neg h0]; omega
theorem lead_out {ns : List Nd} {D : Nat → Nat → Int} (hD : DOk ns D) {n x e s : Nat} (hn : n < ns.length) (hx : x < ns.length) (ht : qL (qV ns x) n = true) (hk : (qV ns n).kind ≠ 4) (h6 : e < 6) (h4 : s < 4) : gQ ns D (xB n e s true) (xB x e s false) := by
  refine ⟨?_, fun y e0 s0 hy h => ?_⟩
  · rw [uH ns h6 h4, uH ns h6 h4]
    have := hD.low n x hn hx ht hk
    simp only [Bool.false_eq_true, if_false, if_true]; omega
  · rw [xV h6 h4] at h
    rw [xV h6 h4]
    obtain ⟨g1, g2, g3⟩ := h
    refine ⟨g1, ?_⟩
    rw [cQ]
    rw [mV] at g2 g3
    have hbx := xR ns x
    by_cases e2 : x = y
    · subst e2
      rw [if_pos rfl] at g3
      have := hD.d0 n x hn hx ht
      rw [if_neg (by omega)]; omega
    · rw [if_neg e2] at g2 g3
      split at g2
      · omega
      · rename_i h0
        rw [if_neg h0] at g3
        have := hD.tri n x y hn hx hy ht (by omega)
        rw [if_neg (by omega)]; omega
theorem lead_adv {ns : List Nd} {D : Nat → Nat → Int} {m e : Nat} (h6 : e + 1 < 6) (hm : m < 8) : gQ ns D (xB m e 0 true) (xB m (e + 1) 0 true) := by
  refine ⟨?_, fun y e0 s0 hy h => ?_⟩
  · rw [uH ns (by omega) (by omega), uH ns h6 (by omega)]; omega
  · rw [xV h6 (by omega)] at h
    rw [xV (by omega) (by omega)]
    exact ⟨by omega, h.2⟩
theorem yL (n e s : Nat) (o : Bool) (c : Int) : rY 4 ⟨(n : Int), o, (e : Int), (s : Int), c⟩ = xB n e s o := pK n o e s c
theorem put_pos {ns : List Nd} {n : Int} {m : Gv} {e s : Nat} (he : m.node = e) (hs : m.epoch = s) {k : Nat} : ∀ K, 0 ≤ kX (jX ns n m K) k ∧ (0 < kX (jX ns n m K) k → ∃ x, x < K ∧ qL (qV ns x) n = true ∧ k = xB x e s false) := by
  intro K
  induction K with
  | zero => exact ⟨Int.le_refl _, fun h => absurd h (by simp [jX, kX])⟩
  | succ K ih =>
    rw [jX]
    split
    · rename_i ht
      rw [uC]
      simp only [kX, he, hs, yL]
      by_cases h : xB K e s false = k
      · rw [if_pos h]
        exact ⟨by omega, fun _ => ⟨K, by omega, ht, h.symm⟩⟩
      · rw [if_neg h]
        refine ⟨by omega, fun hp => ?_⟩
        obtain ⟨x, h1, h2, h3⟩ := ih.2 (by omega)
        exact ⟨x, by omega, h2, h3⟩
    · exact ⟨ih.1, fun hp => by obtain ⟨x, h1, h2, h3⟩ := ih.2 hp; exact ⟨x, by omega, h2, h3⟩⟩
theorem lead_ne {ns : List Nd} {D : Nat → Nat → Int} {k : Nat} : ¬ gQ ns D k k := fun h => Nat.lt_irrefl _ h.1
theorem fine_of {ns : List Nd} {D : Nat → Nat → Int} {op : Nat → Prop} {c : List Pt} {q : Nat} (hq : q < 384) (hc : ∀ k, 0 ≤ kX c k ∧ (0 < kX c k → gQ ns D q k)) {a : Pt} (ha : rY 4 a = q) (hn : a.count = -1) : FineG ns D op (a :: c) [] := by
  intro k _ hp
  have h0 := hc k
  simp only [kX, ha, hn] at hp
  refine ⟨q, hq, h0.2 (by split at hp <;> omega), .inl ?_⟩
  simp only [kX, ha, if_true, hn]
  have h1 := hc q
  by_cases h : 0 < kX c q
  · exact absurd (h1.2 h) lead_ne
  · omega
theorem fine_work {ns : List Nd} {D : Nat → Nat → Int} {op : Nat → Prop} (hD : DOk ns D) (h8 : ns.length ≤ 8) {R : Nat} (hR : R ≤ 4) {p : PSt} {i n e s : Nat} {v : Int} (hn : n < ns.length) (h6 : e < 6) (h4 : s < R) : FineG ns D op (⟨n, false, e, s, -1⟩ :: tK ns R p i n e s v) [] := by
  refine fine_of (q := xB n e s false) (uQ (by omega) h6 (by omega)) (fun k => ?_) (yL _ _ _ _ _) rfl
  by_cases h : (qV ns n).kind = 6
  · rw [fB h]
    split
    · exact ⟨Int.le_refl _, fun h => absurd h (by simp [kX])⟩
    · simp only [kX, yL]
      by_cases e1 : xB n e s true = k
      · rw [if_pos e1, ← e1]; exact ⟨by omega, fun _ => lead_sum h h6 (by omega)⟩
      · rw [if_neg e1]; exact ⟨by omega, fun h => by omega⟩
  · rw [fC h]
    split
    · rename_i hu
      obtain ⟨s', t1, t2, t3, t4⟩ := fD hR h4 hu
      have := put_pos (ns := ns) (n := (n : Int)) t1 t2 (k := k) ns.length
      refine ⟨this.1, fun hp => ?_⟩
      obtain ⟨x, h1, h2, h3⟩ := this.2 hp
      rw [h3]
      exact lead_work hD h8 hn h1 h2 h6 (by omega) (by omega) t4
    · exact ⟨Int.le_refl _, fun h => absurd h (by simp [kX])⟩
theorem fine_of2 {ns : List Nd} {D : Nat → Nat → Int} {op : Nat → Prop} {c : List Pt} {q : Nat} {f : Nat → Int} (hq : q < 384) (hc : ∀ k, kX c k = (if q = k then -1 else 0) + f k) (hf : ∀ k, 0 ≤ f k ∧ (0 < f k → gQ ns D q k)) : FineG ns D op c [] := by
  intro k _ hp
  have h0 := hf k
  rw [hc k] at hp
  refine ⟨q, hq, h0.2 (by split at hp <;> omega), .inl ?_⟩
  rw [hc q, if_pos rfl]
  have h1 := hf q
  by_cases h : 0 < f q
  · exact absurd (h1.2 h) lead_ne
  · omega
theorem note_cnt {ns : List Nd} {n e s : Nat} (l : List Int) {k : Nat} : ∀ K, 0 ≤ kX (nK ns n e s l K) k - (if xB n e s true = k then -1 else 0) ∧ (0 < kX (nK ns n e s l K) k - (if xB n e s true = k then -1 else 0) → ∃ x, x < ns.length ∧ qL (qV ns x) n = true ∧ k = xB x e s false) := by
  intro K
  induction K with
  | zero => simp only [nK, kX, yL]; exact ⟨by omega, fun h => by omega⟩
  | succ K ih =>
    have hp := put_pos (ns := ns) (n := (n : Int)) (m := ⟨e, s, kC l K⟩) rfl rfl (k := k) ns.length
    rw [nK, uC]
    refine ⟨by omega, fun h => ?_⟩
    by_cases h1 : 0 < kX (jX ns n ⟨e, s, kC l K⟩ ns.length) k
    · exact hp.2 h1
    · exact ih.2 (by omega)
theorem fine_note {ns : List Nd} {D : Nat → Nat → Int} {op : Nat → Prop} (hD : DOk ns D) (h8 : ns.length ≤ 8) {n e s : Nat} (hn : n < ns.length) (hk : (qV ns n).kind = 6) (h6 : e < 6) (h4 : s < 4) (l : List Int) (K : Nat) : FineG ns D op (nK ns n e s l K) [] := by
  refine fine_of2 (q := xB n e s true) (f := fun k => kX (nK ns n e s l K) k - (if xB n e s true = k then -1 else 0)) (uQ (by omega) h6 h4) (fun k => by omega) (fun k => ?_)
  have := note_cnt (ns := ns) (n := n) (e := e) (s := s) l (k := k) K
  refine ⟨this.1, fun h => ?_⟩
  obtain ⟨x, h1, h2, h3⟩ := this.2 h
  rw [h3]
  exact lead_out hD hn h1 h2 (by omega) h6 h4
def bD (ns : List Nd) (p : PSt) (j q : Nat) : Prop := q < 384 ∧ q / 24 % 2 = 1 ∧ kdN ns (q / 48) = 0 ∧ rM p j q = true
theorem opS_pos {ns : List Nd} {W j q : Nat} {p : PSt} (hj : j < W) (h : bD ns p j q) : 0 < pC ns W p q := by
  unfold pC rU
  rw [if_neg (by have := h.2.1; omega), if_pos h.2.2.1]
  refine lM (fun _ _ => ite_nn _) hj ?_
  simp only [h.2.2.2, if_true]; omega
theorem opS_spo {ns : List Nd} {p : PSt} {i m e : Nat} (h8 : ns.length ≤ 8) (hm : m < ns.length) (h6 : e < 6) (hk : (qV ns m).kind = 0) (hc : p.cl i m = false) (he : p.ep i m = e) : bD ns p i (xB m e 0 true) := by
  obtain ⟨h1, h2, h3, _, h5⟩ := spo_at (n := m) (s := 0) (o := true) h6 (by omega)
  refine ⟨uQ (by omega) h6 (by omega), by rw [h5]; rfl, by rw [h1]; exact (gY hm).trans hk, ?_⟩
  unfold rM
  rw [h1, h2, h3, hc, he]
  simp
theorem opS_eq {ns : List Nd} {p : PSt} {i q e : Nat} (h : bD ns p i q) (he : p.ep i (q / 48) = e) : q = xB (q / 48) e 0 true := by
  obtain ⟨h1, h2, h3, h4⟩ := h
  unfold rM at h4
  rw [he] at h4
  simp only [Bool.and_eq_true, decide_eq_true_eq] at h4
  have h5 := h4.2.1
  unfold xB
  simp only [if_true]
  omega
def Chg1 (ns : List Nd) (D : Nat → Nat → Int) (W : Nat) (p p' : PSt) : Prop :=
  ∃ (i : Nat) (c : List Pt) (q : PSt) (op0 : Nat → Prop), i < W ∧ p' = wU W q i c ∧ q.tb = p.tb ∧ q.wy = p.wy ∧ (∀ k, k < 384 → pC ns W p' k = pC ns W p k + kX c k) ∧ (∀ k, -1000 ≤ kX c k ∧ kX c k ≤ 1000) ∧
    FineG ns D op0 c [] ∧ (∀ k, op0 k → bD ns p i k ∧ bD ns p' i k) ∧ (∀ k, bD ns p i k → bD ns p' i k ∨ kX c k < 0) ∧ ∀ j k, j ≠ i → bD ns p j k → bD ns p' j k
def Stp (ns : List Nd) (D : Nat → Nat → Int) (W : Nat) (p p' : PSt) : Prop := Chg1 ns D W p p' ∨ ∃ i j, i < W ∧ j < W ∧ p' = zF p i j
structure KInv (ns : List Nd) (D : Nat → Nat → Int) (W : Nat) (p : PSt) : Prop where
  bel : Bel ns W p
  self : ∀ w, w < W → p.wy w w = []
  way : ∀ w j, w < W → j < W → w ≠ j → WayOk ns D (bD ns p j) (p.wy w j)
  few : ∀ w j, w < W → j < W → ∀ c ∈ p.wy w j, ∀ k, -1000 ≤ kX c k ∧ kX c k ≤ 1000
theorem FineG.mono {ns : List Nd} {D : Nat → Nat → Int} {op op' : Nat → Prop} {c : List Pt} {l : List (List Pt)} (h : FineG ns D op c l) (ho : ∀ q, op q → op' q) : FineG ns D op' c l := by
  intro k hk hp
  obtain ⟨q, h1, h2, h3⟩ := h k hk hp
  refine ⟨q, h1, h2, ?_⟩
  rcases h3 with h3 | h3 | h3
  · exact .inl h3
  · exact .inr (.inl (ho q h3))
  · exact .inr (.inr h3)
theorem KInv.stp {ns : List Nd} {D : Nat → Nat → Int} {W : Nat} {p p' : PSt} (h : KInv ns D W p) (hs : Stp ns D W p p') : KInv ns D W p' := by
  rcases hs with ⟨i, c, q, op0, hi, rfl, htb, hwy, ht, hbd, hf, ho, ho1, ho2⟩ | ⟨i, j, hi, hj, rfl⟩
  · have hw' : ∀ a b, (wU W q i c).wy a b = if b = i ∧ a < W ∧ a ≠ i then p.wy a b ++ [c] else p.wy a b := fun a b => by
      show jR q.wy i c W a b = _
      rw [hwy]; rfl
    refine ⟨h.bel.chg hi htb hwy ht, fun w hw => ?_, fun w j hw hj hne => ?_, fun w j hw hj d hd k => ?_⟩
    · rw [hw', if_neg (by omega)]; exact h.self w hw
    · rw [hw']
      by_cases e : j = i
      · subst e
        rw [if_pos ⟨rfl, hw, hne⟩]
        exact WayOk.snoc (hf.mono fun k hk => (ho k hk).2) ho1 (h.way w j hw hj hne)
      · rw [if_neg (fun hh => e hh.1)]
        exact (h.way w j hw hj hne).mono fun k hk => ho2 j k e hk
    · rw [hw'] at hd
      split at hd
      · rcases List.mem_append.1 hd with hd | hd
        · exact h.few w j hw hj d hd k
        · simp at hd; subst hd; exact hbd k
      · exact h.few w j hw hj d hd k
  · have hw' : ∀ a b, (zF p i j).wy a b = if a = i ∧ b = j then (p.wy i j).drop 1 else p.wy a b := fun a b => rfl
    refine ⟨h.bel.tell hj, fun w hw => ?_, fun w k hw hk hne => ?_, fun w k hw hk d hd x => ?_⟩
    · rw [hw']
      split
      · rename_i e; obtain ⟨rfl, rfl⟩ := e; rw [h.self w hw]; rfl
      · exact h.self w hw
    · rw [hw']
      split
      · rename_i e; obtain ⟨rfl, rfl⟩ := e; exact (h.way w k hw hk hne).drop
      · exact h.way w k hw hk hne
    · rw [hw'] at hd
      split at hd
      · rename_i e; obtain ⟨rfl, rfl⟩ := e; exact h.few w k hw hk d (List.mem_of_mem_drop hd) x
      · exact h.few w k hw hk d hd x
def Zero (ns : List Nd) (D : Nat → Nat → Int) (W : Nat) (p : PSt) (y e s : Nat) : Prop := ∀ k, k < 384 → Com ns D y e s k → pC ns W p k = 0
theorem Zero.stp {ns : List Nd} {D : Nat → Nat → Int} {W y e s : Nat} {p p' : PSt} (hy : y < ns.length) (h : Zero ns D W p y e s) (hs : Stp ns D W p p') : Zero ns D W p' y e s := by
  rcases hs with ⟨i, c, q, op0, hi, rfl, htb, hwy, ht, hbd, hf, ho, ho1, ho2⟩ | ⟨i, j, hi, hj, rfl⟩
  · intro k hk hc
    have h0 := h k hk hc
    have h1 := ht k hk
    have h2 := rW ns W (wU W q i c) k
    by_cases hp : 0 < kX c k
    · obtain ⟨a, a1, a2, a3⟩ := hf k hk hp
      have a4 := h a a1 (a2.2 y e s hy hc)
      rcases a3 with a3 | a3 | ⟨_, a3, _⟩
      · have := ht a a1
        have := rW ns W (wU W q i c) a
        omega
      · have := opS_pos hi (ho a a3).1; omega
      · simp at a3
    · omega
  · exact h
theorem wayC_bd {k : Nat} : ∀ {l : List (List Pt)}, (∀ c ∈ l, -1000 ≤ kX c k ∧ kX c k ≤ 1000) → -(1000 * (l.length : Int)) ≤ tS l k ∧ tS l k ≤ 1000 * (l.length : Int)
  | [], _ => by simp [tS]
  | d :: l, h => by
    have h1 := wayC_bd (l := l) (fun c hc => h c (by simp [hc]))
    have h2 := h d (by simp)
    simp only [tS, List.length_cons]; omega
theorem free_zero {ns : List Nd} {D : Nat → Nat → Int} {W w y e s : Nat} {p : PSt} (h : KInv ns D W p) (hW : W ≤ 4) (hw : w < W) (hy : y < ns.length) (hB : ∀ a b, (p.wt a b).length ≤ 100000000 ∧ (p.wy a b).length ≤ 100000000) (hb : ∀ k, k < 384 → Com ns D y e s k → p.tb w k ≤ 0) : Zero ns D W p y e s := by
  have htr : ∀ k, pC ns W p k ≤ 400000000 := by
    intro k
    have hW1 : (W : Int) * 100000000 ≤ 4 * 100000000 := Int.mul_le_mul_of_nonneg_right (by omega) (by omega)
    unfold pC rU tZ
    split
    · have := (mH (f := fun i => tY (p.wt i (k / 48)) (k / 4 % 6) (k % 4)) (B := 100000000) (k := W) (fun i hi => by
        have h1 := rG (p.wt i (k / 48)) (k / 4 % 6) (k % 4)
        have h2 := msgC_le (p.wt i (k / 48)) (k / 4 % 6) (k % 4)
        have h3 := (hB i (k / 48)).1
        omega)).2
      omega
    · split
      · have := (mH (f := fun i => if rM p i k then 1 else 0) (B := 100000000) (k := W) (fun i hi => by split <;> omega)).2
        omega
      · split
        · have := (mH (f := fun i => if wnOf (p.tl i (k / 48)) (k % 24) then 1 else 0) (B := 100000000) (k := W) (fun i hi => by split <;> omega)).2
          omega
        · omega
  have hwy : ∀ k, -400000000000 ≤ pV W p.wy w k ∧ pV W p.wy w k ≤ 400000000000 := by
    intro k
    have hW1 : (W : Int) * 100000000000 ≤ 4 * 100000000000 := Int.mul_le_mul_of_nonneg_right (by omega) (by omega)
    have := mH (f := fun j => tS (p.wy w j) k) (B := 100000000000) (k := W) (fun j hj => by
      have h1 := wayC_bd (k := k) (l := p.wy w j) (fun c hc => h.few w j hw hj c hc k)
      have h2 := (hB w j).2
      omega)
    unfold pV; omega
  refine sound (w := w) (wy := p.wy) (op := fun j => bD ns p j) (T := pC ns W p) (W := W) (D := D) (ns := ns) (P := Com ns D y e s) (rW ns W p) (fun j hj q _ ho => opS_pos hj ho) (fun j hj => ?_) (fun q k hl hc => hl.2 y e s hy hc) (fun k hk hc => ?_)
  · by_cases e1 : w = j
    · subst e1; rw [h.self w hw]; exact trivial
    · exact h.way w j hw hj e1
  · have h1 := hb k hk hc
    rw [h.bel w hw k hk, wrap_small (by have := hwy k; have := rW ns W p k; omega) (by have := hwy k; have := htr k; omega)] at h1
    exact h1
theorem bN {k : Nat} : ∀ {c : List Pt}, (∀ q ∈ c, -1 ≤ q.count ∧ q.count ≤ 1) → -(c.length : Int) ≤ kX c k ∧ kX c k ≤ c.length
  | [], _ => by simp [kX]
  | d :: l, h => by
    have h1 := bN (c := l) (k := k) (fun c hc => h c (by simp [hc]))
    have h2 := h d (by simp)
    simp only [kX, List.length_cons]
    split <;> omega
theorem put_one {ns : List Nd} {n : Int} {m : Gv} : ∀ K, ∀ q ∈ jX ns n m K, -1 ≤ q.count ∧ q.count ≤ 1 := by
  intro K
  induction K with
  | zero => intro q h; simp [jX] at h
  | succ K ih =>
    intro q h
    rw [jX] at h
    split at h
    · rcases List.mem_append.1 h with h | h
      · exact ih q h
      · simp at h; subst h; simp
    · exact ih q h
theorem note_one {ns : List Nd} {n e s : Nat} {l : List Int} : ∀ K, ∀ q ∈ nK ns n e s l K, -1 ≤ q.count ∧ q.count ≤ 1 := by
  intro K
  induction K with
  | zero => intro q h; simp [nK] at h; subst h; simp
  | succ K ih =>
    intro q h
    rw [nK] at h
    rcases List.mem_append.1 h with h | h
    · exact ih q h
    · exact put_one _ q h
theorem pwQ_bd {ns : List Nd} (h8 : ns.length ≤ 8) {R : Nat} {p : PSt} {i n e s : Nat} {v : Int} : (tK ns R p i n e s v).length ≤ 8 ∧ ∀ q ∈ tK ns R p i n e s v, -1 ≤ q.count ∧ q.count ≤ 1 := by
  by_cases h : (qV ns n).kind = 6
  · rw [fB h]
    split
    · simp
    · simp
  · rw [fC h]
    split
    · exact ⟨Nat.le_trans (wW _ _ _ _) h8, put_one _⟩
    · simp
theorem cU {ns : List Nd} {p p' : PSt} (h1 : p'.cl = p.cl) (h2 : p'.ep = p.ep) (j q : Nat) : bD ns p' j q ↔ bD ns p j q := by
  unfold bD rM; rw [h1, h2]
theorem stp_work {ns : List Nd} {D : Nat → Nat → Int} (hD : DOk ns D) {R W : Nat} {p : PSt} {i n j e s : Nat} {v : Int} (hi : i < W) (h8 : ns.length ≤ 8) (hR : R ≤ 4) (hn : n < ns.length) (hj : j < (p.wt i n).length) (hm : vR (p.wt i n) j = ⟨(e : Int), (s : Int), v⟩) (h6 : e < 6) (h4 : s < R) :
    Stp ns D W p (xQ ns R W (jJ p i n j) i n e s v) := by
  have ho : ∀ a k, bD ns (xQ ns R W (jJ p i n j) i n e s v) a k ↔ bD ns p a k := cU rfl rfl
  refine .inl ⟨i, _, hH ns R W (jJ p i n j) i n e s v, fun _ => False, hi, rfl, rfl, rfl, fun k hk => tru_work hi hn h8 hR hj hm h6 h4 hk, fun k => ?_, fine_work hD h8 hR hn h6 h4, fun _ h => h.elim, fun k h => .inl ((ho i k).2 h), fun a k _ h => (ho a k).2 h⟩
  have h1 := pwQ_bd (ns := ns) h8 (R := R) (p := jJ p i n j) (i := i) (n := n) (e := e) (s := s) (v := v)
  have := bN (k := k) h1.2
  simp only [kX]
  split <;> omega
theorem stp_note {ns : List Nd} {D : Nat → Nat → Int} (hD : DOk ns D) {W : Nat} {p : PSt} {i n e s : Nat} (hi : i < W) (h8 : ns.length ≤ 8) (hn : n < ns.length) (hk6 : (qV ns n).kind = 6) (h6 : e < 6) (h4 : s < 4) (hw : wnOf (p.tl i n) (e * 4 + s) = true) :
    Stp ns D W p (yB ns W p i n e s) := by
  have ho : ∀ a k, bD ns (yB ns W p i n e s) a k ↔ bD ns p a k := cU rfl rfl
  refine .inl ⟨i, _, { p with tl := kY p.tl i n (vX (p.tl i n) e s), wt := ntW ns W i n e s (xK (p.tl i n) e s) p.wt (xK (p.tl i n) e s).length }, fun _ => False, hi, rfl, rfl, rfl, fun k hk => tru_note hi hn h8 h6 h4 hk6 hw hk, fun k => ?_, fine_note hD h8 hn hk6 h6 h4 _ _, fun _ h => h.elim, fun k h => .inl ((ho i k).2 h), fun a k _ h => (ho a k).2 h⟩
  have h1 := bN (k := k) (note_one (ns := ns) (n := n) (e := e) (s := s) (l := xK (p.tl i n) e s) (xK (p.tl i n) e s).length)
  have h2 := bF ns n e s (xK (p.tl i n) e s) (xK (p.tl i n) e s).length
  have h3 := sumL_len (p.tl i n) e s
  have h4 : (xK (p.tl i n) e s).length * ns.length ≤ 8 * 8 := Nat.mul_le_mul h3 h8
  omega
theorem stp_give {ns : List Nd} {D : Nat → Nat → Int} (hD : DOk ns D) {W : Nat} {p : PSt} {i m e : Nat} {v : Int} (hi : i < W) (h8 : ns.length ≤ 8) (hm : m < ns.length) (hk0 : (qV ns m).kind = 0) (hc : p.cl i m = false) (he : p.ep i m = e) (h6 : e < 6) :
    Stp ns D W p (yV ns W p i m v) := by
  have ho : ∀ a k, bD ns (yV ns W p i m v) a k ↔ bD ns p a k := cU rfl rfl
  have hop := opS_spo (i := i) h8 hm h6 hk0 hc he
  refine .inl ⟨i, jX ns m ⟨p.ep i m, 0, v⟩ ns.length, { p with gv := p.gv + 1, wt := jB ns W i m ⟨p.ep i m, 0, v⟩ p.wt ns.length }, fun q => q = xB m e 0 true, hi, rfl, rfl, rfl, fun k hk => tru_give hi h8 he h6 hk, fun k => ?_, fun k hk hp => ?_, fun k h => ⟨h ▸ hop, (ho i k).2 (h ▸ hop)⟩, fun k h => .inl ((ho i k).2 h), fun a k _ h => (ho a k).2 h⟩
  · have h1 := bN (k := k) (put_one (ns := ns) (n := (m : Int)) (m := ⟨p.ep i m, 0, v⟩) ns.length)
    have := wW ns m ⟨p.ep i m, 0, v⟩ ns.length
    omega
  · obtain ⟨x, h1, h2, h3⟩ := (put_pos (ns := ns) (n := (m : Int)) (m := ⟨p.ep i m, 0, v⟩) (s := 0) he rfl (k := k) ns.length).2 hp
    refine ⟨xB m e 0 true, hop.1, ?_, .inr (.inl rfl)⟩
    rw [h3]
    exact lead_out hD hm h1 h2 (by omega) h6 (by omega)
theorem stp_adv {ns : List Nd} {D : Nat → Nat → Int} {W : Nat} {p : PSt} {i m e : Nat} (hi : i < W) (h8 : ns.length ≤ 8) (hm : m < ns.length) (hk0 : (qV ns m).kind = 0) (hc : p.cl i m = false) (he : p.ep i m = e) (h6 : e < 5) :
    Stp ns D W p (uT W p i m) := by
  have hsp : ∀ c : Int, rY 4 ⟨(m : Int), true, (e : Int), 0, c⟩ = xB m e 0 true := fun c => yL m e 0 true c
  have hsp2 : ∀ c : Int, rY 4 ⟨(m : Int), true, (e : Int) + 1, 0, c⟩ = xB m (e + 1) 0 true := fun c => yL m (e + 1) 0 true c
  have hoth : ∀ a k, ¬ (a = i ∧ k / 48 = m) → bD ns p a k → bD ns (uT W p i m) a k := by
    rintro a k hne ⟨h1, h2, h3, h4⟩
    refine ⟨h1, h2, h3, ?_⟩
    unfold rM at h4 ⊢
    show (!p.cl a (k / 48) && (decide (kY p.ep i m (p.ep i m + 1) a (k / 48) = _) && _)) = true
    unfold kY
    rw [if_neg hne]; exact h4
  refine .inl ⟨i, [⟨m, true, p.ep i m, 0, -1⟩, ⟨m, true, p.ep i m + 1, 0, 1⟩], { p with ep := kY p.ep i m (p.ep i m + 1) }, fun _ => False, hi, rfl, rfl, rfl, fun k hk => tru_adv hi hm hc he h6 hk0, fun k => ?_, ?_, fun _ h => h.elim, fun k h => ?_, fun a k hne h => hoth a k (fun hh => hne hh.1) h⟩
  · simp only [kX]; split <;> split <;> omega
  · rw [he]
    refine fine_of (q := xB m e 0 true) (uQ (by omega) (by omega) (by omega)) (fun k => ?_) (hsp _) rfl
    simp only [kX, hsp2]
    by_cases e1 : xB m (e + 1) 0 true = k
    · rw [if_pos e1, ← e1]; exact ⟨by omega, fun _ => lead_adv (by omega) (by omega)⟩
    · rw [if_neg e1]; exact ⟨by omega, fun h => by omega⟩
  · by_cases e1 : k / 48 = m
    · have h1 := opS_eq h (e := e) (by rw [e1]; exact he)
      refine .inr ?_
      rw [e1] at h1
      rw [h1, he]
      simp only [kX, hsp, hsp2, if_true]
      rw [if_neg (by unfold xB; simp; omega)]; omega
    · exact .inl (hoth i k (fun hh => e1 hh.2) h)
theorem stp_cls {ns : List Nd} {D : Nat → Nat → Int} {W : Nat} {p : PSt} {i m e : Nat} (hi : i < W) (h8 : ns.length ≤ 8) (hm : m < ns.length) (hk0 : (qV ns m).kind = 0) (hc : p.cl i m = false) (he : p.ep i m = e) (h6 : e < 6) :
    Stp ns D W p (xF W p i m) := by
  have hsp : ∀ c : Int, rY 4 ⟨(m : Int), true, (e : Int), 0, c⟩ = xB m e 0 true := fun c => yL m e 0 true c
  have hoth : ∀ a k, ¬ (a = i ∧ k / 48 = m) → bD ns p a k → bD ns (xF W p i m) a k := by
    rintro a k hne ⟨h1, h2, h3, h4⟩
    refine ⟨h1, h2, h3, ?_⟩
    unfold rM at h4 ⊢
    show (!(kY p.cl i m true a (k / 48)) && (decide (p.ep a (k / 48) = _) && _)) = true
    unfold kY
    rw [if_neg hne]; exact h4
  refine .inl ⟨i, [⟨m, true, p.ep i m, 0, -1⟩], { p with cl := kY p.cl i m true }, fun _ => False, hi, rfl, rfl, rfl, fun k hk => tru_cls hi hm hc he h6 hk0, fun k => ?_, ?_, fun _ h => h.elim, fun k h => ?_, fun a k hne h => hoth a k (fun hh => hne hh.1) h⟩
  · simp only [kX]; split <;> omega
  · rw [he]
    exact fine_of (q := xB m e 0 true) (uQ (by omega) (by omega) (by omega)) (fun k => ⟨Int.le_refl _, fun h => absurd h (by simp [kX])⟩) (hsp _) rfl
  · by_cases e1 : k / 48 = m
    · have h1 := opS_eq h (e := e) (by rw [e1]; exact he)
      refine .inr ?_
      rw [e1] at h1
      rw [h1, he]
      simp only [kX, hsp, if_true]; omega
    · exact .inl (hoth i k (fun hh => e1 hh.2) h)
theorem stp_tell {ns : List Nd} {D : Nat → Nat → Int} {W : Nat} {p : PSt} {i j : Nat} (hi : i < W) (hj : j < W) : Stp ns D W p (zF p i j) := .inr ⟨i, j, hi, hj, rfl⟩
def wgS (ns : List Nd) (k : Nat) : Int := ((100 ^ (434 - rkS ns k) : Nat) : Int)
theorem rkS_le {ns : List Nd} {k : Nat} (hk : k < 384) : rkS ns k ≤ 431 := by
  have := topo_le (ns := ns) (n := k / 48) (by omega)
  unfold rkS; omega
theorem wgS_pos {ns : List Nd} {k : Nat} (hk : k < 384) : 100 ≤ wgS ns k := by
  have := rkS_le (ns := ns) hk
  have h : 100 ^ 1 ≤ 100 ^ (434 - rkS ns k) := Nat.pow_le_pow_right (by omega) (by omega)
  unfold wgS; omega
theorem wgS_nn (ns : List Nd) (k : Nat) : 0 ≤ wgS ns k := Int.natCast_nonneg _
theorem wgS_lead {ns : List Nd} {D : Nat → Nat → Int} {q k : Nat} (hk : k < 384) (h : gQ ns D q k) : 100 * wgS ns k ≤ wgS ns q := by
  have h1 := rkS_le (ns := ns) hk
  have h2 := h.1
  have h3 : 100 ^ (434 - rkS ns k + 1) ≤ 100 ^ (434 - rkS ns q) := Nat.pow_le_pow_right (by omega) (by omega)
  rw [Nat.pow_succ] at h3
  unfold wgS; omega
def pot (ns : List Nd) : List Pt → Int
  | [] => 0
  | q :: c => q.count * wgS ns (rY 4 q) + pot ns c
theorem sum_cnt {ns : List Nd} : ∀ {c : List Pt}, (∀ q ∈ c, rY 4 q < 384) → qH (fun k => kX c k * wgS ns k) 384 = pot ns c
  | [], _ => by
    have : ∀ m, qH (fun k => kX [] k * wgS ns k) m = 0 := by
      intro m
      induction m with
      | zero => rfl
      | succ m ih => rw [qH, ih]; simp [kX]
    exact this 384
  | q :: c, h => by
    have h1 := sum_cnt (ns := ns) (c := c) (fun x hx => h x (by simp [hx]))
    rw [pot, ← h1, Int.add_comm]
    refine jH (h q (by simp)) fun k hk => ?_
    simp only [kX]
    by_cases e : rY 4 q = k
    · rw [if_pos e, if_pos e.symm, Int.add_mul, e]; omega
    · rw [if_neg e, if_neg (fun hh => e hh.symm), Int.zero_add]; omega
theorem sumTo_add {f g : Nat → Int} : ∀ k, qH (fun i => f i + g i) k = qH f k + qH g k
  | 0 => rfl
  | k + 1 => by rw [qH, qH, qH, sumTo_add k]; omega
def mea (ns : List Nd) (W : Nat) (p : PSt) : Int := qH (fun k => pC ns W p k * wgS ns k) 384 + qH (fun a => qH (fun b => ((p.wy a b).length : Int)) W) W
theorem mea_nonneg (ns : List Nd) (W : Nat) (p : PSt) : 0 ≤ mea ns W p := by
  have h1 := zP (f := fun k => pC ns W p k * wgS ns k) (k := 384) (fun k _ => Int.mul_nonneg (rW ns W p k) (wgS_nn ns k))
  have h2 := zP (f := fun a => qH (fun b => ((p.wy a b).length : Int)) W) (k := W) (fun a _ => zP fun b _ => by omega)
  unfold mea; omega
theorem way_more {W i : Nat} {wy : Nat → Nat → List (List Pt)} {c : List Pt} (hi : i < W) : ∀ m, m ≤ W → qH (fun a => qH (fun b => ((jR wy i c W a b).length : Int)) W) m ≤ qH (fun a => qH (fun b => ((wy a b).length : Int)) W) m + m
  | 0, _ => by simp [qH]
  | m + 1, h => by
    have ih := way_more hi (c := c) (wy := wy) m (by omega)
    rw [qH, qH]
    have : qH (fun b => ((jR wy i c W m b).length : Int)) W ≤ qH (fun b => ((wy m b).length : Int)) W + 1 := by
      by_cases e : m = i
      · have h0 : qH (fun b => ((jR wy i c W m b).length : Int)) W = qH (fun b => ((wy m b).length : Int)) W := kP fun b hb => by
          unfold jR; rw [if_neg (fun hh => hh.2.2 e)]
        omega
      · have := jH (f := fun b => ((wy m b).length : Int)) (g := fun b => ((jR wy i c W m b).length : Int)) (d := 1) hi (fun b hb => by
          unfold jR
          by_cases e2 : b = i
          · rw [if_pos ⟨e2, by omega, e⟩, if_pos e2, List.length_append]; simp
          · rw [if_neg (fun hh => e2 hh.1), if_neg e2]; omega)
        omega
    omega
theorem mea_chg {ns : List Nd} {W i : Nat} {p q : PSt} {c : List Pt} (hi : i < W) (hwy : q.wy = p.wy) (hc : ∀ x ∈ c, rY 4 x < 384) (ht : ∀ k, k < 384 → pC ns W (wU W q i c) k = pC ns W p k + kX c k) : mea ns W (wU W q i c) ≤ mea ns W p + pot ns c + W := by
  have h1 : qH (fun k => pC ns W (wU W q i c) k * wgS ns k) 384 = qH (fun k => pC ns W p k * wgS ns k) 384 + pot ns c := by
    rw [← sum_cnt (ns := ns) hc, ← sumTo_add]
    exact kP fun k hk => by rw [ht k hk, Int.add_mul]
  have h2 := way_more (c := c) (wy := p.wy) hi W (Nat.le_refl _)
  unfold mea
  rw [h1]
  show _ + qH (fun a => qH (fun b => ((jR q.wy i c W a b).length : Int)) W) W ≤ _
  rw [hwy]; omega
theorem mea_tell {ns : List Nd} {W i j : Nat} {p : PSt} (hi : i < W) (hj : j < W) (h : (p.wy i j).length ≠ 0) : mea ns W (zF p i j) < mea ns W p := by
  unfold mea
  have h1 : qH (fun k => pC ns W (zF p i j) k * wgS ns k) 384 = qH (fun k => pC ns W p k * wgS ns k) 384 := rfl
  rw [h1]
  have h2 : qH (fun a => qH (fun b => (((zF p i j).wy a b).length : Int)) W) W = qH (fun a => qH (fun b => ((p.wy a b).length : Int)) W) W + -1 := by
    refine jH hi fun a ha => ?_
    by_cases e : a = i
    · rw [if_pos e]
      refine jH hj fun b hb => ?_
      show ((kY p.wy i j ((p.wy i j).drop 1) a b).length : Int) = _
      unfold kY
      by_cases e2 : b = j
      · rw [if_pos ⟨e, e2⟩, if_pos e2, List.length_drop, e, e2]; omega
      · rw [if_neg (fun hh => e2 hh.2), if_neg e2]; omega
    · rw [if_neg e, Int.add_zero]
      refine kP fun b hb => ?_
      show ((kY p.wy i j ((p.wy i j).drop 1) a b).length : Int) = _
      unfold kY
      rw [if_neg (fun hh => e hh.1)]
  omega
theorem pot_led {ns : List Nd} {D : Nat → Nat → Int} {q : Nat} : ∀ {c : List Pt}, (∀ x ∈ c, x.count = 1 ∧ rY 4 x < 384 ∧ gQ ns D q (rY 4 x)) → 100 * pot ns c ≤ c.length * wgS ns q
  | [], _ => by simp [pot]
  | x :: c, h => by
    have ih := pot_led (c := c) (fun y hy => h y (by simp [hy]))
    obtain ⟨h1, h2, h3⟩ := h x (by simp)
    have h4 := wgS_lead h2 h3
    have h5 : ((x :: c).length : Int) * wgS ns q = c.length * wgS ns q + wgS ns q := by
      rw [List.length_cons, Int.natCast_add, Int.add_mul]; simp
    simp only [pot]
    rw [h1, h5]; omega
theorem pot_less {ns : List Nd} {D : Nat → Nat → Int} {q : Nat} {c : List Pt} {a : Pt} (hq : q < 384) (ha : rY 4 a = q) (hn : a.count = -1) (hc : ∀ x ∈ c, x.count = 1 ∧ rY 4 x < 384 ∧ gQ ns D q (rY 4 x)) (hl : c.length ≤ 64) : pot ns (a :: c) ≤ -36 := by
  have h1 := pot_led hc
  have h2 := wgS_pos (ns := ns) hq
  have h3 : (c.length : Int) * wgS ns q ≤ 64 * wgS ns q := Int.mul_le_mul_of_nonneg_right (by omega) (wgS_nn ns q)
  simp only [pot, ha, hn]; omega
theorem put_all {ns : List Nd} {n : Int} {m : Gv} {e s : Nat} (he : m.node = e) (hs : m.epoch = s) : ∀ K, ∀ q ∈ jX ns n m K, q.count = 1 ∧ ∃ x, x < K ∧ qL (qV ns x) n = true ∧ rY 4 q = xB x e s false := by
  intro K
  induction K with
  | zero => intro q h; simp [jX] at h
  | succ K ih =>
    intro q h
    rw [jX] at h
    split at h
    · rename_i ht
      rcases List.mem_append.1 h with h | h
      · obtain ⟨h1, x, h2, h3⟩ := ih q h; exact ⟨h1, x, by omega, h3⟩
      · simp at h; subst h
        exact ⟨rfl, K, by omega, ht, by rw [he, hs]; exact yL K e s false 1⟩
    · obtain ⟨h1, x, h2, h3⟩ := ih q h; exact ⟨h1, x, by omega, h3⟩
theorem mea_work {ns : List Nd} {D : Nat → Nat → Int} (hD : DOk ns D) {R W : Nat} {p : PSt} {i n j e s : Nat} {v : Int} (hi : i < W) (hW : W ≤ 4) (h8 : ns.length ≤ 8) (hR : R ≤ 4) (hn : n < ns.length) (hj : j < (p.wt i n).length) (hm : vR (p.wt i n) j = ⟨(e : Int), (s : Int), v⟩) (h6 : e < 6) (h4 : s < R) :
    mea ns W (xQ ns R W (jJ p i n j) i n e s v) < mea ns W p := by
  have hc : ∀ x ∈ tK ns R (jJ p i n j) i n e s v, x.count = 1 ∧ rY 4 x < 384 ∧ gQ ns D (xB n e s false) (rY 4 x) := by
    intro x hx
    by_cases h : (qV ns n).kind = 6
    · rw [fB h] at hx
      split at hx
      · simp at hx
      · simp at hx; subst hx
        rw [yL]
        exact ⟨rfl, uQ (by omega) h6 (by omega), lead_sum h h6 (by omega)⟩
    · rw [fC h] at hx
      split at hx
      · rename_i hu
        obtain ⟨s', t1, t2, t3, t4⟩ := fD hR h4 hu
        obtain ⟨h1, y, h2, h3, h5⟩ := put_all (ns := ns) (n := (n : Int)) t1 t2 ns.length x hx
        rw [h5]
        exact ⟨h1, uQ (by omega) h6 (by omega), lead_work hD h8 hn h2 h3 h6 (by omega) (by omega) t4⟩
      · simp at hx
  have hl := (pwQ_bd (ns := ns) h8 (R := R) (p := jJ p i n j) (i := i) (n := n) (e := e) (s := s) (v := v)).1
  have hp := pot_less (ns := ns) (D := D) (q := xB n e s false) (a := ⟨n, false, e, s, -1⟩) (uQ (by omega) h6 (by omega)) (yL _ _ _ _ _) rfl hc (by omega)
  have := mea_chg (ns := ns) (W := W) (i := i) (p := p) (q := hH ns R W (jJ p i n j) i n e s v) (c := ⟨n, false, e, s, -1⟩ :: tK ns R (jJ p i n j) i n e s v) hi rfl (fun x hx => by
    rcases List.mem_cons.1 hx with rfl | hx
    · rw [yL]; exact uQ (by omega) h6 (by omega)
    · exact (hc x hx).2.1) (fun k hk => tru_work hi hn h8 hR hj hm h6 h4 hk)
  show mea ns W (wU W _ i _) < _
  omega
theorem nt_form {ns : List Nd} {n e s : Nat} {l : List Int} : ∀ K, ∃ c, nK ns n e s l K = ⟨n, true, e, s, -1⟩ :: c ∧ ∀ q ∈ c, q.count = 1 ∧ ∃ x, x < ns.length ∧ qL (qV ns x) n = true ∧ rY 4 q = xB x e s false
  | 0 => ⟨[], rfl, fun q h => by simp at h⟩
  | K + 1 => by
    obtain ⟨c, h1, h2⟩ := nt_form (ns := ns) (n := n) (e := e) (s := s) (l := l) K
    refine ⟨c ++ jX ns n ⟨e, s, kC l K⟩ ns.length, by rw [nK, h1]; rfl, fun q h => ?_⟩
    rcases List.mem_append.1 h with h | h
    · exact h2 q h
    · exact put_all (ns := ns) (n := (n : Int)) (m := ⟨e, s, kC l K⟩) rfl rfl ns.length q h
theorem mea_note {ns : List Nd} {D : Nat → Nat → Int} (hD : DOk ns D) {W : Nat} {p : PSt} {i n e s : Nat} (hi : i < W) (hW : W ≤ 4) (h8 : ns.length ≤ 8) (hn : n < ns.length) (hk6 : (qV ns n).kind = 6) (h6 : e < 6) (h4 : s < 4) (hw : wnOf (p.tl i n) (e * 4 + s) = true) :
    mea ns W (yB ns W p i n e s) < mea ns W p := by
  obtain ⟨c, hc, hq⟩ := nt_form (ns := ns) (n := n) (e := e) (s := s) (l := xK (p.tl i n) e s) (xK (p.tl i n) e s).length
  have h2 := bF ns n e s (xK (p.tl i n) e s) (xK (p.tl i n) e s).length
  have h3 := sumL_len (p.tl i n) e s
  have h4' : (xK (p.tl i n) e s).length * ns.length ≤ 8 * 8 := Nat.mul_le_mul h3 h8
  rw [hc, List.length_cons] at h2
  have hc' : ∀ x ∈ c, x.count = 1 ∧ rY 4 x < 384 ∧ gQ ns D (xB n e s true) (rY 4 x) := by
    intro x hx
    obtain ⟨g1, y, g2, g3, g4⟩ := hq x hx
    rw [g4]
    exact ⟨g1, uQ (by omega) h6 h4, lead_out hD hn g2 g3 (by omega) h6 h4⟩
  have hp := pot_less (ns := ns) (D := D) (q := xB n e s true) (a := ⟨n, true, e, s, -1⟩) (uQ (by omega) h6 h4) (yL _ _ _ _ _) rfl hc' (by omega)
  have := mea_chg (ns := ns) (W := W) (i := i) (p := p) (q := { p with tl := kY p.tl i n (vX (p.tl i n) e s), wt := ntW ns W i n e s (xK (p.tl i n) e s) p.wt (xK (p.tl i n) e s).length }) (c := nK ns n e s (xK (p.tl i n) e s) (xK (p.tl i n) e s).length) hi rfl (fun x hx => by
    rw [hc] at hx
    rcases List.mem_cons.1 hx with rfl | hx
    · rw [yL]; exact uQ (by omega) h6 h4
    · exact (hc' x hx).2.1) (fun k hk => tru_note hi hn h8 h6 h4 hk6 hw hk)
  rw [hc] at this
  show mea ns W (wU W _ i _) < _
  rw [hc]
  omega
end Go.Proofs.Ytfemleimkbjehaa
