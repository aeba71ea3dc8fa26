import Derived.Test.YtfemleimkbjehaaJ25
set_option maxRecDepth 1000000
set_option maxHeartbeats 40000000
set_option linter.unusedVariables false
set_option linter.unusedSimpArgs false
namespace Go.Proofs.Ytfemleimkbjehaa
open Go.RowKit
structure DOk (ns : List Nd) (D : Nat → Nat → Int) : Prop where
  d0 : ∀ a x, a < ns.length → x < ns.length → qH (qV ns x) a = true → D a x = 0
  tri : ∀ a x y, a < ns.length → x < ns.length → y < ns.length → qH (qV ns x) a = true → 0 ≤ D x y → 0 ≤ D a y ∧ D a y ≤ D x y + uX ns x
  low : ∀ a x, a < ns.length → x < ns.length → qH (qV ns x) a = true → (qV ns a).kind ≠ 4 → cD ns a < cD ns x
def uK (n e s : Nat) (o : Bool) : Nat := 48 * n + (if o then 24 else 0) + 4 * e + s
theorem spo_at {n e s : Nat} {o : Bool} (h6 : e < 6) (h4 : s < 4) : uK n e s o / 48 = n ∧ uK n e s o / 4 % 6 = e ∧ uK n e s o % 4 = s ∧ decide (uK n e s o / 24 % 2 = 1) = o ∧ uK n e s o / 24 % 2 = (if o then 1 else 0) := by
  unfold uK
  cases o
  · simp only [Bool.false_eq_true, if_false]
    refine ⟨by omega, by omega, by omega, by simp; omega, by omega⟩
  · simp only [if_true]
    refine ⟨by omega, by omega, by omega, by simp; omega, by omega⟩
theorem uJ {n e s : Nat} {o : Bool} (hn : n < 8) (h6 : e < 6) (h4 : s < 4) : uK n e s o < 384 := by unfold uK; split <;> omega
theorem uC (ns : List Nd) {n e s : Nat} {o : Bool} (h6 : e < 6) (h4 : s < 4) : rkS ns (uK n e s o) = ((e * 4 + s) * 9 + cD ns n) * 2 + (if o then 1 else 0) := by
  obtain ⟨h1, h2, h3, _, h5⟩ := spo_at (n := n) (o := o) h6 h4
  unfold rkS; rw [h1, h2, h3, h5]
theorem xY {ns : List Nd} {D : Nat → Nat → Int} {y e0 s0 n e s : Nat} {o : Bool} (h6 : e < 6) (h4 : s < 4) : Com ns D y e0 s0 (uK n e s o) ↔ e ≤ e0 ∧ 0 ≤ jL ns D n o s y ∧ jL ns D n o s y ≤ s0 := by
  obtain ⟨h1, h2, h3, h4, _⟩ := spo_at (n := n) (o := o) h6 h4
  unfold Com; rw [h1, h2, h3, h4]
theorem topo_le {ns : List Nd} {n : Nat} (h : n < 8) : cD ns n ≤ 8 := by unfold cD; split <;> omega
theorem mW {ns : List Nd} {D : Nat → Nat → Int} {n s y : Nat} : jL ns D n false s y = if n = y then (s : Int) else if D n y < 0 then -1 else s + D n y + uX ns n := by
  unfold jL uX
  by_cases h : n = y
  · simp [h]
  · have h' : ¬ (n == y) = true := by simpa using h
    rw [if_neg h]
    simp only [Bool.not_false, Bool.true_and]
    rw [if_neg h']
    by_cases h2 : D n y < 0
    · simp [h2]
    · rw [if_neg (by simpa using h2), if_neg h2]
      by_cases h3 : (qV ns n).kind = 4
      · rw [if_pos (by simpa using h3), if_pos h3]; omega
      · rw [if_neg (by simpa using h3), if_neg h3]; omega
theorem cY {ns : List Nd} {D : Nat → Nat → Int} {n s y : Nat} : jL ns D n true s y = if D n y < 0 then -1 else s + D n y := by
  unfold jL
  simp only [Bool.not_true, Bool.false_and, Bool.false_eq_true, if_false]
  by_cases h2 : D n y < 0
  · simp [h2]
  · rw [if_neg (by simpa using h2), if_neg h2]
theorem lead_work {ns : List Nd} {D : Nat → Nat → Int} (hD : DOk ns D) (h8 : ns.length ≤ 8) {n x e s s' : Nat} (hn : n < ns.length) (hx : x < ns.length) (ht : qH (qV ns x) n = true) (h6 : e < 6) (h4 : s < 4) (h4' : s' < 4) (hs : s' = if (qV ns n).kind = 4 then s + 1 else s) : gU ns D (uK n e s false) (uK x e s' false) := by
  refine ⟨?_, fun y e0 s0 hy h => ?_⟩
  · rw [uC ns h6 h4, uC ns h6 h4']
    have := topo_le (ns := ns) (n := n) (by omega)
    by_cases hb : (qV ns n).kind = 4
    · rw [if_pos hb] at hs; subst hs; simp only [Bool.false_eq_true, if_false]; omega
    · rw [if_neg hb] at hs; subst hs
      have := hD.low n x hn hx ht hb
      simp only [Bool.false_eq_true, if_false]; omega
  · rw [xY h6 h4'] at h
    rw [xY h6 h4]
    obtain ⟨g1, g2, g3⟩ := h
    refine ⟨g1, ?_⟩
    have hb1 : (s' : Int) = s + uX ns n := by unfold uX; split at hs <;> simp_all
    have hbn := xR ns n
    have hbx := xR ns x
    rw [mW] at g2 g3 ⊢
    by_cases e1 : n = y
    · rw [if_pos e1]
      by_cases e2 : x = y
      · rw [if_pos e2] at g3; omega
      · rw [if_neg e2] at g2 g3
        split at g2
        · omega
        · rename_i h0; rw [if_neg h0] at g3; omega
    · rw [if_neg e1]
      by_cases e2 : x = y
      · subst e2
        rw [if_pos rfl] at g3
        have := hD.d0 n x hn hx ht
        rw [if_neg (by omega)]; omega
      · rw [if_neg e2] at g2 g3
        split at g2
        · omega
        · rename_i h0
          rw [if_neg h0] at g3
          have := hD.tri n x y hn hx hy ht (by omega)
          rw [if_neg (by omega)]; omega
theorem lead_sum {ns : List Nd} {D : Nat → Nat → Int} {n e s : Nat} (hk : (qV ns n).kind = 6) (h6 : e < 6) (h4 : s < 4) : gU ns D (uK n e s false) (uK n e s true) := by
  refine ⟨?_, fun y e0 s0 hy h => ?_⟩
  · rw [uC ns h6 h4, uC ns h6 h4]; simp only [Bool.false_eq_true, if_false, if_true]; omega
  · rw [xY h6 h4] at h
    rw [xY h6 h4]
    obtain ⟨g1, g2, g3⟩ := h
    refine ⟨g1, ?_⟩
    rw [mW]
    rw [cY] at g2 g3
    have hb : uX ns n = 0 := by unfold uX; rw [hk]; rfl
    split at g2
    · omega
    · rename_i h0
      rw [if_neg h0] at g3
      by_cases e1 : n = y
      · rw [if_pos e1]; omega
      · rw [if_neg e1, if_neg h0]; omega
theorem lead_out {ns : List Nd} {D : Nat → Nat → Int} (hD : DOk ns D) {n x e s : Nat} (hn : n < ns.length) (hx : x < ns.length) (ht : qH (qV ns x) n = true) (hk : (qV ns n).kind ≠ 4) (h6 : e < 6) (h4 : s < 4) : gU ns D (uK n e s true) (uK x e s false) := by
  refine ⟨?_, fun y e0 s0 hy h => ?_⟩
  · rw [uC ns h6 h4, uC ns h6 h4]
    have := hD.low n x hn hx ht hk
    simp only [Bool.false_eq_true, if_false, if_true]; omega
  · rw [xY h6 h4] at h
    rw [xY h6 h4]
    obtain ⟨g1, g2, g3⟩ := h
    refine ⟨g1, ?_⟩
    rw [cY]
    rw [mW] at g2 g3
    have hbx := xR ns x
    by_cases e2 : x = y
    · subst e2
      rw [if_pos rfl] at g3
      have := hD.d0 n x hn hx ht
      rw [if_neg (by omega)]; omega
    · rw [if_neg e2] at g2 g3
      split at g2
      · omega
      · rename_i h0
        rw [if_neg h0] at g3
        have := hD.tri n x y hn hx hy ht (by omega)
        rw [if_neg (by omega)]; omega
theorem lead_adv {ns : List Nd} {D : Nat → Nat → Int} {m e : Nat} (h6 : e + 1 < 6) (hm : m < 8) : gU ns D (uK m e 0 true) (uK m (e + 1) 0 true) := by
  refine ⟨?_, fun y e0 s0 hy h => ?_⟩
  · rw [uC ns (by omega) (by omega), uC ns h6 (by omega)]; omega
  · rw [xY h6 (by omega)] at h
    rw [xY (by omega) (by omega)]
    exact ⟨by omega, h.2⟩
theorem yH (n e s : Nat) (o : Bool) (c : Int) : rT 4 ⟨(n : Int), o, (e : Int), (s : Int), c⟩ = uK n e s o := pY n o e s c
theorem put_pos {ns : List Nd} {n : Int} {m : Gv} {e s : Nat} (he : m.node = e) (hs : m.epoch = s) {k : Nat} : ∀ K, 0 ≤ kX (jW ns n m K) k ∧ (0 < kX (jW ns n m K) k → ∃ x, x < K ∧ qH (qV ns x) n = true ∧ k = uK x e s false) := by
  intro K
  induction K with
  | zero => exact ⟨Int.le_refl _, fun h => absurd h (by simp [jW, kX])⟩
  | succ K ih =>
    rw [jW]
    split
    · rename_i ht
      rw [wJ]
      simp only [kX, he, hs, yH]
      by_cases h : uK K e s false = k
      · rw [if_pos h]
        exact ⟨by omega, fun _ => ⟨K, by omega, ht, h.symm⟩⟩
      · rw [if_neg h]
        refine ⟨by omega, fun hp => ?_⟩
        obtain ⟨x, h1, h2, h3⟩ := ih.2 (by omega)
        exact ⟨x, by omega, h2, h3⟩
    · exact ⟨ih.1, fun hp => by obtain ⟨x, h1, h2, h3⟩ := ih.2 hp; exact ⟨x, by omega, h2, h3⟩⟩
theorem lead_ne {ns : List Nd} {D : Nat → Nat → Int} {k : Nat} : ¬ gU ns D k k := fun h => Nat.lt_irrefl _ h.1
theorem fine_of {ns : List Nd} {D : Nat → Nat → Int} {op : Nat → Prop} {c : List Pt} {q : Nat} (hq : q < 384) (hc : ∀ k, 0 ≤ kX c k ∧ (0 < kX c k → gU ns D q k)) {a : Pt} (ha : rT 4 a = q) (hn : a.count = -1) : FineG ns D op (a :: c) [] := by
  intro k _ hp
  have h0 := hc k
  simp only [kX, ha, hn] at hp
  refine ⟨q, hq, h0.2 (by split at hp <;> omega), .inl ?_⟩
  simp only [kX, ha, if_true, hn]
  have h1 := hc q
  by_cases h : 0 < kX c q
  · exact absurd (h1.2 h) lead_ne
  · omega
theorem fine_work {ns : List Nd} {D : Nat → Nat → Int} {op : Nat → Prop} (hD : DOk ns D) (h8 : ns.length ≤ 8) {R : Nat} (hR : R ≤ 4) {p : PSt} {i n e s : Nat} {v : Int} (hn : n < ns.length) (h6 : e < 6) (h4 : s < R) : FineG ns D op (⟨n, false, e, s, -1⟩ :: tT ns R p i n e s v) [] := by
  refine fine_of (q := uK n e s false) (uJ (by omega) h6 (by omega)) (fun k => ?_) (yH _ _ _ _ _) rfl
  by_cases h : (qV ns n).kind = 6
  · rw [dV h]
    split
    · exact ⟨Int.le_refl _, fun h => absurd h (by simp [kX])⟩
    · simp only [kX, yH]
      by_cases e1 : uK n e s true = k
      · rw [if_pos e1, ← e1]; exact ⟨by omega, fun _ => lead_sum h h6 (by omega)⟩
      · rw [if_neg e1]; exact ⟨by omega, fun h => by omega⟩
  · rw [dZ h]
    split
    · rename_i hu
      obtain ⟨s', t1, t2, t3, t4⟩ := dJ hR h4 hu
      have := put_pos (ns := ns) (n := (n : Int)) t1 t2 (k := k) ns.length
      refine ⟨this.1, fun hp => ?_⟩
      obtain ⟨x, h1, h2, h3⟩ := this.2 hp
      rw [h3]
      exact lead_work hD h8 hn h1 h2 h6 (by omega) (by omega) t4
    · exact ⟨Int.le_refl _, fun h => absurd h (by simp [kX])⟩
theorem fine_of2 {ns : List Nd} {D : Nat → Nat → Int} {op : Nat → Prop} {c : List Pt} {q : Nat} {f : Nat → Int} (hq : q < 384) (hc : ∀ k, kX c k = (if q = k then -1 else 0) + f k) (hf : ∀ k, 0 ≤ f k ∧ (0 < f k → gU ns D q k)) : FineG ns D op c [] := by
  intro k _ hp
  have h0 := hf k
  rw [hc k] at hp
  refine ⟨q, hq, h0.2 (by split at hp <;> omega), .inl ?_⟩
  rw [hc q, if_pos rfl]
  have h1 := hf q
  by_cases h : 0 < f q
  · exact absurd (h1.2 h) lead_ne
  · omega
theorem note_cnt {ns : List Nd} {n e s : Nat} (l : List Int) {k : Nat} : ∀ K, 0 ≤ kX (nY ns n e s l K) k - (if uK n e s true = k then -1 else 0) ∧ (0 < kX (nY ns n e s l K) k - (if uK n e s true = k then -1 else 0) → ∃ x, x < ns.length ∧ qH (qV ns x) n = true ∧ k = uK x e s false) := by
  intro K
  induction K with
  | zero => simp only [nY, kX, yH]; exact ⟨by omega, fun h => by omega⟩
  | succ K ih =>
    have hp := put_pos (ns := ns) (n := (n : Int)) (m := ⟨e, s, jQ l K⟩) rfl rfl (k := k) ns.length
    rw [nY, wJ]
    refine ⟨by omega, fun h => ?_⟩
    by_cases h1 : 0 < kX (jW ns n ⟨e, s, jQ l K⟩ ns.length) k
    · exact hp.2 h1
    · exact ih.2 (by omega)
theorem fine_note {ns : List Nd} {D : Nat → Nat → Int} {op : Nat → Prop} (hD : DOk ns D) (h8 : ns.length ≤ 8) {n e s : Nat} (hn : n < ns.length) (hk : (qV ns n).kind = 6) (h6 : e < 6) (h4 : s < 4) (l : List Int) (K : Nat) : FineG ns D op (nY ns n e s l K) [] := by
  refine fine_of2 (q := uK n e s true) (f := fun k => kX (nY ns n e s l K) k - (if uK n e s true = k then -1 else 0)) (uJ (by omega) h6 h4) (fun k => by omega) (fun k => ?_)
  have := note_cnt (ns := ns) (n := n) (e := e) (s := s) l (k := k) K
  refine ⟨this.1, fun h => ?_⟩
  obtain ⟨x, h1, h2, h3⟩ := this.2 h
  rw [h3]
  exact lead_out hD hn h1 h2 (by omega) h6 h4
def opS (ns : List Nd) (p : PSt) (j q : Nat) : Prop := q < 384 ∧ q / 24 % 2 = 1 ∧ kdN ns (q / 48) = 0 ∧ tX p j q = true
theorem opS_pos {ns : List Nd} {W j q : Nat} {p : PSt} (hj : j < W) (h : opS ns p j q) : 0 < pU ns W p q := by
  unfold pU tU
  rw [if_neg (by have := h.2.1; omega), if_pos h.2.2.1]
  refine hJ (fun _ _ => ite_nn _) hj ?_
  simp only [h.2.2.2, if_true]; omega
theorem opS_spo {ns : List Nd} {p : PSt} {i m e : Nat} (h8 : ns.length ≤ 8) (hm : m < ns.length) (h6 : e < 6) (hk : (qV ns m).kind = 0) (hc : p.cl i m = false) (he : p.ep i m = e) : opS ns p i (uK m e 0 true) := by
  obtain ⟨h1, h2, h3, _, h5⟩ := spo_at (n := m) (s := 0) (o := true) h6 (by omega)
  refine ⟨uJ (by omega) h6 (by omega), by rw [h5]; rfl, by rw [h1]; exact (mM hm).trans hk, ?_⟩
  unfold tX
  rw [h1, h2, h3, hc, he]
  simp
theorem opS_eq {ns : List Nd} {p : PSt} {i q e : Nat} (h : opS ns p i q) (he : p.ep i (q / 48) = e) : q = uK (q / 48) e 0 true := by
  obtain ⟨h1, h2, h3, h4⟩ := h
  unfold tX at h4
  rw [he] at h4
  simp only [Bool.and_eq_true, decide_eq_true_eq] at h4
  have h5 := h4.2.1
  unfold uK
  simp only [if_true]
  omega
def Chg1 (ns : List Nd) (D : Nat → Nat → Int) (W : Nat) (p p' : PSt) : Prop :=
  ∃ (i : Nat) (c : List Pt) (q : PSt) (op0 : Nat → Prop), i < W ∧ p' = wP W q i c ∧ q.tb = p.tb ∧ q.wy = p.wy ∧ (∀ k, k < 384 → pU ns W p' k = pU ns W p k + kX c k) ∧ (∀ k, -1000 ≤ kX c k ∧ kX c k ≤ 1000) ∧
    FineG ns D op0 c [] ∧ (∀ k, op0 k → opS ns p i k ∧ opS ns p' i k) ∧ (∀ k, opS ns p i k → opS ns p' i k ∨ kX c k < 0) ∧ ∀ j k, j ≠ i → opS ns p j k → opS ns p' j k
def Stp (ns : List Nd) (D : Nat → Nat → Int) (W : Nat) (p p' : PSt) : Prop := Chg1 ns D W p p' ∨ ∃ i j, i < W ∧ j < W ∧ p' = zD p i j
structure KInv (ns : List Nd) (D : Nat → Nat → Int) (W : Nat) (p : PSt) : Prop where
  bel : Bel ns W p
  self : ∀ w, w < W → p.wy w w = []
  way : ∀ w j, w < W → j < W → w ≠ j → WayOk ns D (opS ns p j) (p.wy w j)
  few : ∀ w j, w < W → j < W → ∀ c ∈ p.wy w j, ∀ k, -1000 ≤ kX c k ∧ kX c k ≤ 1000
theorem FineG.mono {ns : List Nd} {D : Nat → Nat → Int} {op op' : Nat → Prop} {c : List Pt} {l : List (List Pt)} (h : FineG ns D op c l) (ho : ∀ q, op q → op' q) : FineG ns D op' c l := by
  intro k hk hp
  obtain ⟨q, h1, h2, h3⟩ := h k hk hp
  refine ⟨q, h1, h2, ?_⟩
  rcases h3 with h3 | h3 | h3
  · exact .inl h3
  · exact .inr (.inl (ho q h3))
  · exact .inr (.inr h3)
theorem KInv.stp {ns : List Nd} {D : Nat → Nat → Int} {W : Nat} {p p' : PSt} (h : KInv ns D W p) (hs : Stp ns D W p p') : KInv ns D W p' := by
  rcases hs with ⟨i, c, q, op0, hi, rfl, htb, hwy, ht, hbd, hf, ho, ho1, ho2⟩ | ⟨i, j, hi, hj, rfl⟩
  · have hw' : ∀ a b, (wP W q i c).wy a b = if b = i ∧ a < W ∧ a ≠ i then p.wy a b ++ [c] else p.wy a b := fun a b => by
      show jP q.wy i c W a b = _
      rw [hwy]; rfl
    refine ⟨h.bel.chg hi htb hwy ht, fun w hw => ?_, fun w j hw hj hne => ?_, fun w j hw hj d hd k => ?_⟩
    · rw [hw', if_neg (by omega)]; exact h.self w hw
    · rw [hw']
      by_cases e : j = i
      · subst e
        rw [if_pos ⟨rfl, hw, hne⟩]
        exact WayOk.snoc (hf.mono fun k hk => (ho k hk).2) ho1 (h.way w j hw hj hne)
      · rw [if_neg (fun hh => e hh.1)]
        exact (h.way w j hw hj hne).mono fun k hk => ho2 j k e hk
    · rw [hw'] at hd
      split at hd
      · rcases List.mem_append.1 hd with hd | hd
        · exact h.few w j hw hj d hd k
        · simp at hd; subst hd; exact hbd k
      · exact h.few w j hw hj d hd k
  · have hw' : ∀ a b, (zD p i j).wy a b = if a = i ∧ b = j then (p.wy i j).drop 1 else p.wy a b := fun a b => rfl
    refine ⟨h.bel.tell hj, fun w hw => ?_, fun w k hw hk hne => ?_, fun w k hw hk d hd x => ?_⟩
    · rw [hw']
      split
      · rename_i e; obtain ⟨rfl, rfl⟩ := e; rw [h.self w hw]; rfl
      · exact h.self w hw
    · rw [hw']
      split
      · rename_i e; obtain ⟨rfl, rfl⟩ := e; exact (h.way w k hw hk hne).drop
      · exact h.way w k hw hk hne
    · rw [hw'] at hd
      split at hd
      · rename_i e; obtain ⟨rfl, rfl⟩ := e; exact h.few w k hw hk d (List.mem_of_mem_drop hd) x
      · exact h.few w k hw hk d hd x
def Zero (ns : List Nd) (D : Nat → Nat → Int) (W : Nat) (p : PSt) (y e s : Nat) : Prop := ∀ k, k < 384 → Com ns D y e s k → pU ns W p k = 0
theorem Zero.stp {ns : List Nd} {D : Nat → Nat → Int} {W y e s : Nat} {p p' : PSt} (hy : y < ns.length) (h : Zero ns D W p y e s) (hs : Stp ns D W p p') : Zero ns D W p' y e s := by
  rcases hs with ⟨i, c, q, op0, hi, rfl, htb, hwy, ht, hbd, hf, ho, ho1, ho2⟩ | ⟨i, j, hi, hj, rfl⟩
  · intro k hk hc
    have h0 := h k hk hc
    have h1 := ht k hk
    have h2 := rR ns W (wP W q i c) k
    by_cases hp : 0 < kX c k
    · obtain ⟨a, a1, a2, a3⟩ := hf k hk hp
      have a4 := h a a1 (a2.2 y e s hy hc)
      rcases a3 with a3 | a3 | ⟨_, a3, _⟩
      · have := ht a a1
        have := rR ns W (wP W q i c) a
        omega
      · have := opS_pos hi (ho a a3).1; omega
      · simp at a3
    · omega
  · exact h
theorem wayC_bd {k : Nat} : ∀ {l : List (List Pt)}, (∀ c ∈ l, -1000 ≤ kX c k ∧ kX c k ≤ 1000) → -(1000 * (l.length : Int)) ≤ tL l k ∧ tL l k ≤ 1000 * (l.length : Int)
  | [], _ => by simp [tL]
  | d :: l, h => by
    have h1 := wayC_bd (l := l) (fun c hc => h c (by simp [hc]))
    have h2 := h d (by simp)
    simp only [tL, List.length_cons]; omega
theorem free_zero {ns : List Nd} {D : Nat → Nat → Int} {W w y e s : Nat} {p : PSt} (h : KInv ns D W p) (hW : W ≤ 4) (hw : w < W) (hy : y < ns.length) (hB : ∀ a b, (p.wt a b).length ≤ 100000000 ∧ (p.wy a b).length ≤ 100000000) (hb : ∀ k, k < 384 → Com ns D y e s k → p.tb w k ≤ 0) : Zero ns D W p y e s := by
  have htr : ∀ k, pU ns W p k ≤ 400000000 := by
    intro k
    have hW1 : (W : Int) * 100000000 ≤ 4 * 100000000 := Int.mul_le_mul_of_nonneg_right (by omega) (by omega)
    unfold pU tU wG
    split
    · have := (lK (f := fun i => wT (p.wt i (k / 48)) (k / 4 % 6) (k % 4)) (B := 100000000) (k := W) (fun i hi => by
        have h1 := rD (p.wt i (k / 48)) (k / 4 % 6) (k % 4)
        have h2 := msgC_le (p.wt i (k / 48)) (k / 4 % 6) (k % 4)
        have h3 := (hB i (k / 48)).1
        omega)).2
      omega
    · split
      · have := (lK (f := fun i => if tX p i k then 1 else 0) (B := 100000000) (k := W) (fun i hi => by split <;> omega)).2
        omega
      · split
        · have := (lK (f := fun i => if wnOf (p.tl i (k / 48)) (k % 24) then 1 else 0) (B := 100000000) (k := W) (fun i hi => by split <;> omega)).2
          omega
        · omega
  have hwy : ∀ k, -400000000000 ≤ rP W p.wy w k ∧ rP W p.wy w k ≤ 400000000000 := by
    intro k
    have hW1 : (W : Int) * 100000000000 ≤ 4 * 100000000000 := Int.mul_le_mul_of_nonneg_right (by omega) (by omega)
    have := lK (f := fun j => tL (p.wy w j) k) (B := 100000000000) (k := W) (fun j hj => by
      have h1 := wayC_bd (k := k) (l := p.wy w j) (fun c hc => h.few w j hw hj c hc k)
      have h2 := (hB w j).2
      omega)
    unfold rP; omega
  refine sound (w := w) (wy := p.wy) (op := fun j => opS ns p j) (T := pU ns W p) (W := W) (D := D) (ns := ns) (P := Com ns D y e s) (rR ns W p) (fun j hj q _ ho => opS_pos hj ho) (fun j hj => ?_) (fun q k hl hc => hl.2 y e s hy hc) (fun k hk hc => ?_)
  · by_cases e1 : w = j
    · subst e1; rw [h.self w hw]; exact trivial
    · exact h.way w j hw hj e1
  · have h1 := hb k hk hc
    rw [h.bel w hw k hk, wrap_small (by have := hwy k; have := rR ns W p k; omega) (by have := hwy k; have := htr k; omega)] at h1
    exact h1
theorem bF {k : Nat} : ∀ {c : List Pt}, (∀ q ∈ c, -1 ≤ q.count ∧ q.count ≤ 1) → -(c.length : Int) ≤ kX c k ∧ kX c k ≤ c.length
  | [], _ => by simp [kX]
  | d :: l, h => by
    have h1 := bF (c := l) (k := k) (fun c hc => h c (by simp [hc]))
    have h2 := h d (by simp)
    simp only [kX, List.length_cons]
    split <;> omega
theorem put_one {ns : List Nd} {n : Int} {m : Gv} : ∀ K, ∀ q ∈ jW ns n m K, -1 ≤ q.count ∧ q.count ≤ 1 := by
  intro K
  induction K with
  | zero => intro q h; simp [jW] at h
  | succ K ih =>
    intro q h
    rw [jW] at h
    split at h
    · rcases List.mem_append.1 h with h | h
      · exact ih q h
      · simp at h; subst h; simp
    · exact ih q h
theorem note_one {ns : List Nd} {n e s : Nat} {l : List Int} : ∀ K, ∀ q ∈ nY ns n e s l K, -1 ≤ q.count ∧ q.count ≤ 1 := by
  intro K
  induction K with
  | zero => intro q h; simp [nY] at h; subst h; simp
  | succ K ih =>
    intro q h
    rw [nY] at h
    rcases List.mem_append.1 h with h | h
    · exact ih q h
    · exact put_one _ q h
theorem pwQ_bd {ns : List Nd} (h8 : ns.length ≤ 8) {R : Nat} {p : PSt} {i n e s : Nat} {v : Int} : (tT ns R p i n e s v).length ≤ 8 ∧ ∀ q ∈ tT ns R p i n e s v, -1 ≤ q.count ∧ q.count ≤ 1 := by
  by_cases h : (qV ns n).kind = 6
  · rw [dV h]
    split
    · simp
    · simp
  · rw [dZ h]
    split
    · exact ⟨Nat.le_trans (wN _ _ _ _) h8, put_one _⟩
    · simp
theorem cR {ns : List Nd} {p p' : PSt} (h1 : p'.cl = p.cl) (h2 : p'.ep = p.ep) (j q : Nat) : opS ns p' j q ↔ opS ns p j q := by
  unfold opS tX; rw [h1, h2]
theorem stp_work {ns : List Nd} {D : Nat → Nat → Int} (hD : DOk ns D) {R W : Nat} {p : PSt} {i n j e s : Nat} {v : Int} (hi : i < W) (h8 : ns.length ≤ 8) (hR : R ≤ 4) (hn : n < ns.length) (hj : j < (p.wt i n).length) (hm : vR (p.wt i n) j = ⟨(e : Int), (s : Int), v⟩) (h6 : e < 6) (h4 : s < R) :
    Stp ns D W p (xK ns R W (jV p i n j) i n e s v) := by
  have ho : ∀ a k, opS ns (xK ns R W (jV p i n j) i n e s v) a k ↔ opS ns p a k := cR rfl rfl
  refine .inl ⟨i, _, gX ns R W (jV p i n j) i n e s v, fun _ => False, hi, rfl, rfl, rfl, fun k hk => tru_work hi hn h8 hR hj hm h6 h4 hk, fun k => ?_, fine_work hD h8 hR hn h6 h4, fun _ h => h.elim, fun k h => .inl ((ho i k).2 h), fun a k _ h => (ho a k).2 h⟩
  have h1 := pwQ_bd (ns := ns) h8 (R := R) (p := jV p i n j) (i := i) (n := n) (e := e) (s := s) (v := v)
  have := bF (k := k) h1.2
  simp only [kX]
  split <;> omega
theorem stp_note {ns : List Nd} {D : Nat → Nat → Int} (hD : DOk ns D) {W : Nat} {p : PSt} {i n e s : Nat} (hi : i < W) (h8 : ns.length ≤ 8) (hn : n < ns.length) (hk6 : (qV ns n).kind = 6) (h6 : e < 6) (h4 : s < 4) (hw : wnOf (p.tl i n) (e * 4 + s) = true) :
    Stp ns D W p (xQ ns W p i n e s) := by
  have ho : ∀ a k, opS ns (xQ ns W p i n e s) a k ↔ opS ns p a k := cR rfl rfl
  refine .inl ⟨i, _, { p with tl := kY p.tl i n (vX (p.tl i n) e s), wt := ntW ns W i n e s (xJ (p.tl i n) e s) p.wt (xJ (p.tl i n) e s).length }, fun _ => False, hi, rfl, rfl, rfl, fun k hk => tru_note hi hn h8 h6 h4 hk6 hw hk, fun k => ?_, fine_note hD h8 hn hk6 h6 h4 _ _, fun _ h => h.elim, fun k h => .inl ((ho i k).2 h), fun a k _ h => (ho a k).2 h⟩
  have h1 := bF (k := k) (note_one (ns := ns) (n := n) (e := e) (s := s) (l := xJ (p.tl i n) e s) (xJ (p.tl i n) e s).length)
  have h2 := ntP_len ns n e s (xJ (p.tl i n) e s) (xJ (p.tl i n) e s).length
  have h3 := sumL_len (p.tl i n) e s
  have h4 : (xJ (p.tl i n) e s).length * ns.length ≤ 8 * 8 := Nat.mul_le_mul h3 h8
  omega
theorem stp_give {ns : List Nd} {D : Nat → Nat → Int} (hD : DOk ns D) {W : Nat} {p : PSt} {i m e : Nat} {v : Int} (hi : i < W) (h8 : ns.length ≤ 8) (hm : m < ns.length) (hk0 : (qV ns m).kind = 0) (hc : p.cl i m = false) (he : p.ep i m = e) (h6 : e < 6) :
    Stp ns D W p (yV ns W p i m v) := by
  have ho : ∀ a k, opS ns (yV ns W p i m v) a k ↔ opS ns p a k := cR rfl rfl
  have hop := opS_spo (i := i) h8 hm h6 hk0 hc he
  refine .inl ⟨i, jW ns m ⟨p.ep i m, 0, v⟩ ns.length, { p with gv := p.gv + 1, wt := zQ ns W i m ⟨p.ep i m, 0, v⟩ p.wt ns.length }, fun q => q = uK m e 0 true, hi, rfl, rfl, rfl, fun k hk => tru_give hi h8 he h6 hk, fun k => ?_, fun k hk hp => ?_, fun k h => ⟨h ▸ hop, (ho i k).2 (h ▸ hop)⟩, fun k h => .inl ((ho i k).2 h), fun a k _ h => (ho a k).2 h⟩
  · have h1 := bF (k := k) (put_one (ns := ns) (n := (m : Int)) (m := ⟨p.ep i m, 0, v⟩) ns.length)
    have := wN ns m ⟨p.ep i m, 0, v⟩ ns.length
    omega
  · obtain ⟨x, h1, h2, h3⟩ := (put_pos (ns := ns) (n := (m : Int)) (m := ⟨p.ep i m, 0, v⟩) (s := 0) he rfl (k := k) ns.length).2 hp
    refine ⟨uK m e 0 true, hop.1, ?_, .inr (.inl rfl)⟩
    rw [h3]
    exact lead_out hD hm h1 h2 (by omega) h6 (by omega)
theorem stp_adv {ns : List Nd} {D : Nat → Nat → Int} {W : Nat} {p : PSt} {i m e : Nat} (hi : i < W) (h8 : ns.length ≤ 8) (hm : m < ns.length) (hk0 : (qV ns m).kind = 0) (hc : p.cl i m = false) (he : p.ep i m = e) (h6 : e < 5) :
    Stp ns D W p (uR W p i m) := by
  have hsp : ∀ c : Int, rT 4 ⟨(m : Int), true, (e : Int), 0, c⟩ = uK m e 0 true := fun c => yH m e 0 true c
  have hsp2 : ∀ c : Int, rT 4 ⟨(m : Int), true, (e : Int) + 1, 0, c⟩ = uK m (e + 1) 0 true := fun c => yH m (e + 1) 0 true c
  have hoth : ∀ a k, ¬ (a = i ∧ k / 48 = m) → opS ns p a k → opS ns (uR W p i m) a k := by
    rintro a k hne ⟨h1, h2, h3, h4⟩
    refine ⟨h1, h2, h3, ?_⟩
    unfold tX at h4 ⊢
    show (!p.cl a (k / 48) && (decide (kY p.ep i m (p.ep i m + 1) a (k / 48) = _) && _)) = true
    unfold kY
    rw [if_neg hne]; exact h4
  refine .inl ⟨i, [⟨m, true, p.ep i m, 0, -1⟩, ⟨m, true, p.ep i m + 1, 0, 1⟩], { p with ep := kY p.ep i m (p.ep i m + 1) }, fun _ => False, hi, rfl, rfl, rfl, fun k hk => tru_adv hi hm hc he h6 hk0, fun k => ?_, ?_, fun _ h => h.elim, fun k h => ?_, fun a k hne h => hoth a k (fun hh => hne hh.1) h⟩
  · simp only [kX]; split <;> split <;> omega
  · rw [he]
    refine fine_of (q := uK m e 0 true) (uJ (by omega) (by omega) (by omega)) (fun k => ?_) (hsp _) rfl
    simp only [kX, hsp2]
    by_cases e1 : uK m (e + 1) 0 true = k
    · rw [if_pos e1, ← e1]; exact ⟨by omega, fun _ => lead_adv (by omega) (by omega)⟩
    · rw [if_neg e1]; exact ⟨by omega, fun h => by omega⟩
  · by_cases e1 : k / 48 = m
    · have h1 := opS_eq h (e := e) (by rw [e1]; exact he)
      refine .inr ?_
      rw [e1] at h1
      rw [h1, he]
      simp only [kX, hsp, hsp2, if_true]
      rw [if_neg (by unfold uK; simp; omega)]; omega
    · exact .inl (hoth i k (fun hh => e1 hh.2) h)
theorem stp_cls {ns : List Nd} {D : Nat → Nat → Int} {W : Nat} {p : PSt} {i m e : Nat} (hi : i < W) (h8 : ns.length ≤ 8) (hm : m < ns.length) (hk0 : (qV ns m).kind = 0) (hc : p.cl i m = false) (he : p.ep i m = e) (h6 : e < 6) :
    Stp ns D W p (xC W p i m) := by
  have hsp : ∀ c : Int, rT 4 ⟨(m : Int), true, (e : Int), 0, c⟩ = uK m e 0 true := fun c => yH m e 0 true c
  have hoth : ∀ a k, ¬ (a = i ∧ k / 48 = m) → opS ns p a k → opS ns (xC W p i m) a k := by
    rintro a k hne ⟨h1, h2, h3, h4⟩
    refine ⟨h1, h2, h3, ?_⟩
    unfold tX at h4 ⊢
    show (!(kY p.cl i m true a (k / 48)) && (decide (p.ep a (k / 48) = _) && _)) = true
    unfold kY
    rw [if_neg hne]; exact h4
  refine .inl ⟨i, [⟨m, true, p.ep i m, 0, -1⟩], { p with cl := kY p.cl i m true }, fun _ => False, hi, rfl, rfl, rfl, fun k hk => tru_cls hi hm hc he h6 hk0, fun k => ?_, ?_, fun _ h => h.elim, fun k h => ?_, fun a k hne h => hoth a k (fun hh => hne hh.1) h⟩
  · simp only [kX]; split <;> omega
  · rw [he]
    exact fine_of (q := uK m e 0 true) (uJ (by omega) (by omega) (by omega)) (fun k => ⟨Int.le_refl _, fun h => absurd h (by simp [kX])⟩) (hsp _) rfl
  · by_cases e1 : k / 48 = m
    · have h1 := opS_eq h (e := e) (by rw [e1]; exact he)
      refine .inr ?_
      rw [e1] at h1
      rw [h1, he]
      simp only [kX, hsp, if_true]; omega
    · exact .inl (hoth i k (fun hh => e1 hh.2) h)
theorem stp_tell {ns : List Nd} {D : Nat → Nat → Int} {W : Nat} {p : PSt} {i j : Nat} (hi : i < W) (hj : j < W) : Stp ns D W p (zD p i j) := .inr ⟨i, j, hi, hj, rfl⟩
def wgS (ns : List Nd) (k : Nat) : Int := ((100 ^ (434 - rkS ns k) : Nat) : Int)
theorem rkS_le {ns : List Nd} {k : Nat} (hk : k < 384) : rkS ns k ≤ 431 := by
  have := topo_le (ns := ns) (n := k / 48) (by omega)
  unfold rkS; omega
theorem wgS_pos {ns : List Nd} {k : Nat} (hk : k < 384) : 100 ≤ wgS ns k := by
  have := rkS_le (ns := ns) hk
  have h : 100 ^ 1 ≤ 100 ^ (434 - rkS ns k) := Nat.pow_le_pow_right (by omega) (by omega)
  unfold wgS; omega
theorem wgS_nn (ns : List Nd) (k : Nat) : 0 ≤ wgS ns k := Int.natCast_nonneg _
theorem wgS_lead {ns : List Nd} {D : Nat → Nat → Int} {q k : Nat} (hk : k < 384) (h : gU ns D q k) : 100 * wgS ns k ≤ wgS ns q := by
  have h1 := rkS_le (ns := ns) hk
  have h2 := h.1
  have h3 : 100 ^ (434 - rkS ns k + 1) ≤ 100 ^ (434 - rkS ns q) := Nat.pow_le_pow_right (by omega) (by omega)
  rw [Nat.pow_succ] at h3
  unfold wgS; omega
def pot (ns : List Nd) : List Pt → Int
  | [] => 0
  | q :: c => q.count * wgS ns (rT 4 q) + pot ns c
theorem sum_cnt {ns : List Nd} : ∀ {c : List Pt}, (∀ q ∈ c, rT 4 q < 384) → qN (fun k => kX c k * wgS ns k) 384 = pot ns c
  | [], _ => by
    have : ∀ m, qN (fun k => kX [] k * wgS ns k) m = 0 := by
      intro m
      induction m with
      | zero => rfl
      | succ m ih => rw [qN, ih]; simp [kX]
    exact this 384
  | q :: c, h => by
    have h1 := sum_cnt (ns := ns) (c := c) (fun x hx => h x (by simp [hx]))
    rw [pot, ← h1, Int.add_comm]
    refine jG (h q (by simp)) fun k hk => ?_
    simp only [kX]
    by_cases e : rT 4 q = k
    · rw [if_pos e, if_pos e.symm, Int.add_mul, e]; omega
    · rw [if_neg e, if_neg (fun hh => e hh.symm), Int.zero_add]; omega
theorem sumTo_add {f g : Nat → Int} : ∀ k, qN (fun i => f i + g i) k = qN f k + qN g k
  | 0 => rfl
  | k + 1 => by rw [qN, qN, qN, sumTo_add k]; omega
def mea (ns : List Nd) (W : Nat) (p : PSt) : Int := qN (fun k => pU ns W p k * wgS ns k) 384 + qN (fun a => qN (fun b => ((p.wy a b).length : Int)) W) W
theorem mea_nonneg (ns : List Nd) (W : Nat) (p : PSt) : 0 ≤ mea ns W p := by
  have h1 := zP (f := fun k => pU ns W p k * wgS ns k) (k := 384) (fun k _ => Int.mul_nonneg (rR ns W p k) (wgS_nn ns k))
  have h2 := zP (f := fun a => qN (fun b => ((p.wy a b).length : Int)) W) (k := W) (fun a _ => zP fun b _ => by omega)
  unfold mea; omega
theorem way_more {W i : Nat} {wy : Nat → Nat → List (List Pt)} {c : List Pt} (hi : i < W) : ∀ m, m ≤ W → qN (fun a => qN (fun b => ((jP wy i c W a b).length : Int)) W) m ≤ qN (fun a => qN (fun b => ((wy a b).length : Int)) W) m + m
  | 0, _ => by simp [qN]
  | m + 1, h => by
    have ih := way_more hi (c := c) (wy := wy) m (by omega)
    rw [qN, qN]
    have : qN (fun b => ((jP wy i c W m b).length : Int)) W ≤ qN (fun b => ((wy m b).length : Int)) W + 1 := by
      by_cases e : m = i
      · have h0 : qN (fun b => ((jP wy i c W m b).length : Int)) W = qN (fun b => ((wy m b).length : Int)) W := kU fun b hb => by
          unfold jP; rw [if_neg (fun hh => hh.2.2 e)]
        omega
      · have := jG (f := fun b => ((wy m b).length : Int)) (g := fun b => ((jP wy i c W m b).length : Int)) (d := 1) hi (fun b hb => by
          unfold jP
          by_cases e2 : b = i
          · rw [if_pos ⟨e2, by omega, e⟩, if_pos e2, List.length_append]; simp
          · rw [if_neg (fun hh => e2 hh.1), if_neg e2]; omega)
        omega
    omega
theorem mea_chg {ns : List Nd} {W i : Nat} {p q : PSt} {c : List Pt} (hi : i < W) (hwy : q.wy = p.wy) (hc : ∀ x ∈ c, rT 4 x < 384) (ht : ∀ k, k < 384 → pU ns W (wP W q i c) k = pU ns W p k + kX c k) : mea ns W (wP W q i c) ≤ mea ns W p + pot ns c + W := by
  have h1 : qN (fun k => pU ns W (wP W q i c) k * wgS ns k) 384 = qN (fun k => pU ns W p k * wgS ns k) 384 + pot ns c := by
    rw [← sum_cnt (ns := ns) hc, ← sumTo_add]
    exact kU fun k hk => by rw [ht k hk, Int.add_mul]
  have h2 := way_more (c := c) (wy := p.wy) hi W (Nat.le_refl _)
  unfold mea
  rw [h1]
  show _ + qN (fun a => qN (fun b => ((jP q.wy i c W a b).length : Int)) W) W ≤ _
  rw [hwy]; omega
theorem mea_tell {ns : List Nd} {W i j : Nat} {p : PSt} (hi : i < W) (hj : j < W) (h : (p.wy i j).length ≠ 0) : mea ns W (zD p i j) < mea ns W p := by
  unfold mea
  have h1 : qN (fun k => pU ns W (zD p i j) k * wgS ns k) 384 = qN (fun k => pU ns W p k * wgS ns k) 384 := rfl
  rw [h1]
  have h2 : qN (fun a => qN (fun b => (((zD p i j).wy a b).length : Int)) W) W = qN (fun a => qN (fun b => ((p.wy a b).length : Int)) W) W + -1 := by
    refine jG hi fun a ha => ?_
    by_cases e : a = i
    · rw [if_pos e]
      refine jG hj fun b hb => ?_
      show ((kY p.wy i j ((p.wy i j).drop 1) a b).length : Int) = _
      unfold kY
      by_cases e2 : b = j
      · rw [if_pos ⟨e, e2⟩, if_pos e2, List.length_drop, e, e2]; omega
      · rw [if_neg (fun hh => e2 hh.2), if_neg e2]; omega
    · rw [if_neg e, Int.add_zero]
      refine kU fun b hb => ?_
      show ((kY p.wy i j ((p.wy i j).drop 1) a b).length : Int) = _
      unfold kY
      rw [if_neg (fun hh => e hh.1)]
  omega
theorem pot_led {ns : List Nd} {D : Nat → Nat → Int} {q : Nat} : ∀ {c : List Pt}, (∀ x ∈ c, x.count = 1 ∧ rT 4 x < 384 ∧ gU ns D q (rT 4 x)) → 100 * pot ns c ≤ c.length * wgS ns q
  | [], _ => by simp [pot]
  | x :: c, h => by
    have ih := pot_led (c := c) (fun y hy => h y (by simp [hy]))
    obtain ⟨h1, h2, h3⟩ := h x (by simp)
    have h4 := wgS_lead h2 h3
    have h5 : ((x :: c).length : Int) * wgS ns q = c.length * wgS ns q + wgS ns q := by
      rw [List.length_cons, Int.natCast_add, Int.add_mul]; simp
    simp only [pot]
    rw [h1, h5]; omega
theorem pot_less {ns : List Nd} {D : Nat → Nat → Int} {q : Nat} {c : List Pt} {a : Pt} (hq : q < 384) (ha : rT 4 a = q) (hn : a.count = -1) (hc : ∀ x ∈ c, x.count = 1 ∧ rT 4 x < 384 ∧ gU ns D q (rT 4 x)) (hl : c.length ≤ 64) : pot ns (a :: c) ≤ -36 := by
  have h1 := pot_led hc
  have h2 := wgS_pos (ns := ns) hq
  have h3 : (c.length : Int) * wgS ns q ≤ 64 * wgS ns q := Int.mul_le_mul_of_nonneg_right (by omega) (wgS_nn ns q)
  simp only [pot, ha, hn]; omega
theorem put_all {ns : List Nd} {n : Int} {m : Gv} {e s : Nat} (he : m.node = e) (hs : m.epoch = s) : ∀ K, ∀ q ∈ jW ns n m K, q.count = 1 ∧ ∃ x, x < K ∧ qH (qV ns x) n = true ∧ rT 4 q = uK x e s false := by
  intro K
  induction K with
  | zero => intro q h; simp [jW] at h
  | succ K ih =>
    intro q h
    rw [jW] at h
    split at h
    · rename_i ht
      rcases List.mem_append.1 h with h | h
      · obtain ⟨h1, x, h2, h3⟩ := ih q h; exact ⟨h1, x, by omega, h3⟩
      · simp at h; subst h
        exact ⟨rfl, K, by omega, ht, by rw [he, hs]; exact yH K e s false 1⟩
    · obtain ⟨h1, x, h2, h3⟩ := ih q h; exact ⟨h1, x, by omega, h3⟩
theorem mea_work {ns : List Nd} {D : Nat → Nat → Int} (hD : DOk ns D) {R W : Nat} {p : PSt} {i n j e s : Nat} {v : Int} (hi : i < W) (hW : W ≤ 4) (h8 : ns.length ≤ 8) (hR : R ≤ 4) (hn : n < ns.length) (hj : j < (p.wt i n).length) (hm : vR (p.wt i n) j = ⟨(e : Int), (s : Int), v⟩) (h6 : e < 6) (h4 : s < R) :
    mea ns W (xK ns R W (jV p i n j) i n e s v) < mea ns W p := by
  have hc : ∀ x ∈ tT ns R (jV p i n j) i n e s v, x.count = 1 ∧ rT 4 x < 384 ∧ gU ns D (uK n e s false) (rT 4 x) := by
    intro x hx
    by_cases h : (qV ns n).kind = 6
    · rw [dV h] at hx
      split at hx
      · simp at hx
      · simp at hx; subst hx
        rw [yH]
        exact ⟨rfl, uJ (by omega) h6 (by omega), lead_sum h h6 (by omega)⟩
    · rw [dZ h] at hx
      split at hx
      · rename_i hu
        obtain ⟨s', t1, t2, t3, t4⟩ := dJ hR h4 hu
        obtain ⟨h1, y, h2, h3, h5⟩ := put_all (ns := ns) (n := (n : Int)) t1 t2 ns.length x hx
        rw [h5]
        exact ⟨h1, uJ (by omega) h6 (by omega), lead_work hD h8 hn h2 h3 h6 (by omega) (by omega) t4⟩
      · simp at hx
  have hl := (pwQ_bd (ns := ns) h8 (R := R) (p := jV p i n j) (i := i) (n := n) (e := e) (s := s) (v := v)).1
  have hp := pot_less (ns := ns) (D := D) (q := uK n e s false) (a := ⟨n, false, e, s, -1⟩) (uJ (by omega) h6 (by omega)) (yH _ _ _ _ _) rfl hc (by omega)
  have := mea_chg (ns := ns) (W := W) (i := i) (p := p) (q := gX ns R W (jV p i n j) i n e s v) (c := ⟨n, false, e, s, -1⟩ :: tT ns R (jV p i n j) i n e s v) hi rfl (fun x hx => by
    rcases List.mem_cons.1 hx with rfl | hx
    · rw [yH]; exact uJ (by omega) h6 (by omega)
    · exact (hc x hx).2.1) (fun k hk => tru_work hi hn h8 hR hj hm h6 h4 hk)
  show mea ns W (wP W _ i _) < _
  omega
theorem nt_form {ns : List Nd} {n e s : Nat} {l : List Int} : ∀ K, ∃ c, nY ns n e s l K = ⟨n, true, e, s, -1⟩ :: c ∧ ∀ q ∈ c, q.count = 1 ∧ ∃ x, x < ns.length ∧ qH (qV ns x) n = true ∧ rT 4 q = uK x e s false
  | 0 => ⟨[], rfl, fun q h => by simp at h⟩
  | K + 1 => by
    obtain ⟨c, h1, h2⟩ := nt_form (ns := ns) (n := n) (e := e) (s := s) (l := l) K
    refine ⟨c ++ jW ns n ⟨e, s, jQ l K⟩ ns.length, by rw [nY, h1]; rfl, fun q h => ?_⟩
    rcases List.mem_append.1 h with h | h
    · exact h2 q h
    · exact put_all (ns := ns) (n := (n : Int)) (m := ⟨e, s, jQ l K⟩) rfl rfl ns.length q h
theorem mea_note {ns : List Nd} {D : Nat → Nat → Int} (hD : DOk ns D) {W : Nat} {p : PSt} {i n e s : Nat} (hi : i < W) (hW : W ≤ 4) (h8 : ns.length ≤ 8) (hn : n < ns.length) (hk6 : (qV ns n).kind = 6) (h6 : e < 6) (h4 : s < 4) (hw : wnOf (p.tl i n) (e * 4 + s) = true) :
    mea ns W (xQ ns W p i n e s) < mea ns W p := by
  obtain ⟨c, hc, hq⟩ := nt_form (ns := ns) (n := n) (e := e) (s := s) (l := xJ (p.tl i n) e s) (xJ (p.tl i n) e s).length
  have h2 := ntP_len ns n e s (xJ (p.tl i n) e s) (xJ (p.tl i n) e s).length
  have h3 := sumL_len (p.tl i n) e s
  have h4' : (xJ (p.tl i n) e s).length * ns.length ≤ 8 * 8 := Nat.mul_le_mul h3 h8
  rw [hc, List.length_cons] at h2
  have hc' : ∀ x ∈ c, x.count = 1 ∧ rT 4 x < 384 ∧ gU ns D (uK n e s true) (rT 4 x) := by
    intro x hx
    obtain ⟨g1, y, g2, g3, g4⟩ := hq x hx
    rw [g4]
    exact ⟨g1, uJ (by omega) h6 h4, lead_out hD hn g2 g3 (by omega) h6 h4⟩
  have hp := pot_less (ns := ns) (D := D) (q := uK n e s true) (a := ⟨n, true, e, s, -1⟩) (uJ (by omega) h6 h4) (yH _ _ _ _ _) rfl hc' (by omega)
  have := mea_chg (ns := ns) (W := W) (i := i) (p := p) (q := { p with tl := kY p.tl i n (vX (p.tl i n) e s), wt := ntW ns W i n e s (xJ (p.tl i n) e s) p.wt (xJ (p.tl i n) e s).length }) (c := nY ns n e s (xJ (p.tl i n) e s) (xJ (p.tl i n) e s).length) hi rfl (fun x hx => by
    rw [hc] at hx
    rcases List.mem_cons.1 hx with rfl | hx
    · rw [yH]; exact uJ (by omega) h6 h4
    · exact (hc' x hx).2.1) (fun k hk => tru_note hi hn h8 h6 h4 hk6 hw hk)
  rw [hc] at this
  show mea ns W (wP W _ i _) < _
  rw [hc]
  omega
end Go.Proofs.Ytfemleimkbjehaa
