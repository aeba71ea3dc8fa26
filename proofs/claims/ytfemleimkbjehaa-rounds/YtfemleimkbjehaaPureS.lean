import Derived.Test.YtfemleimkbjehaaPureR
namespace Go.Proofs.Ytfemleimkbjehaa
open Go.RowKit

/-- The graph with an Add in the place of the node n. -/
def turnL (o : List Nd) (n : Nat) : List Nd := turnTo o n o.length
theorem turnL_len (o : List Nd) (n : Nat) : (turnL o n).length = o.length := turnTo_len _ _ _
theorem turnL_nd {o : List Nd} {n j : Nat} (hj : j < o.length) : ndn (turnL o n) j = turn1 o n j := turnTo_nd o n _ j hj
theorem turn1_ne {o : List Nd} {n j : Nat} (h : j ≠ n) : turn1 o n j = ndn o j := by simp [turn1, h]
theorem turn1_eq (o : List Nd) (n : Nat) : turn1 o n n = ⟨1, (ndn o n).a, 0, 0, 0⟩ := by simp [turn1]
theorem turn_takes {o : List Nd} {n j : Nat} (h4 : (ndn o n).kind = 4) (z : Int) : takesB (turn1 o n j) z = takesB (ndn o j) z := by
  by_cases e : j = n
  · subst e; rw [turn1_eq]; simp [takesB, h4]
  · rw [turn1_ne e]
theorem turn_inputs {o : List Nd} {n j : Nat} (h4 : (ndn o n).kind = 4) : inputsL (turn1 o n j) = inputsL (ndn o j) := by
  by_cases e : j = n
  · subst e; rw [turn1_eq]; simp [inputsL, h4]
  · rw [turn1_ne e]
theorem turn_kind {o : List Nd} {n j : Nat} (h4 : (ndn o n).kind = 4) : ((turn1 o n j).kind = 7 ↔ (ndn o j).kind = 7) ∧ ((turn1 o n j).kind = 3 ↔ (ndn o j).kind = 3) ∧ ((ndn o j).kind ≠ 4 → (turn1 o n j).kind ≠ 4) ∧ (turn1 o n n).kind = 1 := by
  refine ⟨?_, ?_, ?_, by rw [turn1_eq]⟩
  · by_cases e : j = n
    · subst e; rw [turn1_eq]; simp [h4]
    · rw [turn1_ne e]
  · by_cases e : j = n
    · subst e; rw [turn1_eq]; simp [h4]
    · rw [turn1_ne e]
  · by_cases e : j = n
    · subst e; rw [turn1_eq]; simp [h4]
    · rw [turn1_ne e]; exact fun h => h
theorem turn_wf {o : List Nd} {r : Int} {n : Nat} (h : FitOk o r) (h4 : (ndn o n).kind = 4) : wfB (turnL o n) r = true := by
  have hw := h.wf
  have hl := wfB_len hw
  have hlen := turnL_len o n
  simp only [wfB, Bool.and_eq_true, decide_eq_true_eq] at hw
  have hmg : ∀ k, k ≤ o.length → mgTo (turnL o n) k = mgTo o k := by
    intro k hk
    induction k with
    | zero => rfl
    | succ k ih =>
      unfold mgTo
      rw [ih (by omega), turnL_nd (by omega)]
      have := (turn_kind (j := k) h4).2.1
      by_cases e : (ndn o k).kind = 3
      · simp [e, this.2 e]
      · have e' : ¬ (turn1 o n k).kind = 3 := fun h => e (this.1 h)
        simp [e, e']
  have hcb : ∀ z, cbtfB (turnL o n) z = cbtfB o z := by
    intro z
    unfold cbtfB
    rw [hlen]
    cases hz : isNodeB o.length z with
    | false => rfl
    | true =>
      obtain ⟨z0, z1⟩ := isNodeB_iff.1 hz
      rw [turnL_nd (by omega)]
      have := (turn_kind (j := z.toNat) h4).1
      by_cases e : (ndn o z.toNat).kind = 7
      · simp [e, this.2 e]
      · have e' : ((turn1 o n z.toNat).kind == 7) = false := by simpa using fun h => e (this.1 h)
        have e2 : ((ndn o z.toNat).kind == 7) = false := by simpa using e
        rw [e', e2]
  have hwt : wfTo (turnL o n) (turnL o n).length = true := by
    refine wfTo_all fun j hj => ?_
    rw [hlen] at hj
    have hj1 := wfTo_get hw.1.2 j hj
    rw [wfNode_eq] at hj1 ⊢
    simp only [Bool.and_eq_true] at hj1 ⊢
    rw [turnL_nd hj]
    refine ⟨?_, ?_⟩
    · by_cases e : j = n
      · subst e; rw [turn1_eq]; simp [preB]
      · rw [turn1_ne e]; exact hj1.1
    · have h2 := hj1.2
      unfold inB at h2 ⊢
      rw [turn_inputs h4]
      rw [List.all_eq_true] at h2 ⊢
      intro z hz
      rw [hcb]
      exact h2 z hz
  rw [wfB_good (by omega) (by omega) hw.1.1.1.2 hw.1.1.2, hwt, hlen, hmg _ (Nat.le_refl _)]
  simp
  exact hw.2

theorem cyc_no {ns : List Nd} {q : List Int} (ok : OrdOk ns q) (hall : ∀ k, k < ns.length → hasB q k = true) {l : List Int} (c : CycOk ns l) : False := by
  have step : ∀ i, i + 1 < l.length → rank q (nth l i) < rank q (nth l (i + 1)) := by
    intro i hi
    obtain ⟨h0, h1⟩ := c.node (i + 1) hi
    have ht := c.next i hi
    have hb := c.back (i + 1) hi
    have e : (((nth l (i + 1)).toNat : Nat) : Int) = nth l (i + 1) := Int.toNat_of_nonneg h0
    have := rank_lt ok (y := (nth l (i + 1)).toNat) (hall _ (by omega)) ht (by simpa using hb)
    rwa [e] at this
  have hle : ∀ i, i < l.length → rank q (nth l 0) ≤ rank q (nth l i) := by
    intro i
    induction i with
    | zero => intro _; exact Nat.le_refl _
    | succ i ih => intro hi; have := ih (by omega); have := step i hi; omega
  obtain ⟨h0, h1⟩ := c.node 0 c.pos
  have e : (((nth l 0).toNat : Nat) : Int) = nth l 0 := Int.toNat_of_nonneg h0
  have := rank_lt ok (y := (nth l 0).toNat) (hall _ (by omega)) c.first (by simpa using c.back 0 c.pos)
  rw [e] at this
  have := hle (l.length - 1) (by have := c.pos; omega)
  omega

/-- The node n lies on the cycle that the turned graph has. -/
theorem cyc_has {o : List Nd} {r : Int} {n : Nat} (h : FitOk o r) (_h4 : (ndn o n).kind = 4) {l : List Int} (c : CycOk (turnL o n) l) : (n : Int) ∈ l := by
  by_cases hn : (n : Int) ∈ l
  · exact hn
  · exfalso
    have hlen := turnL_len o n
    have hne : ∀ i, i < l.length → (nth l i).toNat ≠ n := by
      intro i hi e
      have h0 := (c.node i hi).1
      refine hn ?_
      rw [← e, Int.toNat_of_nonneg h0, nth_lt hi]
      exact List.getElem_mem hi
    have hnd : ∀ i, i < l.length → ndn (turnL o n) (nth l i).toNat = ndn o (nth l i).toNat := by
      intro i hi
      have := c.node i hi
      rw [hlen] at this
      rw [turnL_nd (by omega), turn1_ne (hne i hi)]
    have c' : CycOk o l := by
      refine ⟨c.pos, ?_, ?_, c.once, ?_, ?_⟩
      · intro i hi; have := c.node i hi; rw [hlen] at this; exact this
      · intro i hi; have := c.back i hi; rw [hnd i hi] at this; exact this
      · have := c.first; rw [hnd 0 c.pos] at this; exact this
      · intro i hi; have := c.next i hi; rw [hnd (i + 1) hi] at this; exact this
    exact cyc_no (ordTo_ok o o.length) (order_all (fit_order h)) c'

theorem chain_rank {o : List Nd} {n : Nat} (h4 : (ndn o n).kind = 4) {q : List Int} (ok : OrdOk (turnL o n) q) (hall : ∀ k, k < (turnL o n).length → hasB q k = true) (hn : n < o.length) :
    ∀ (ys : List Nat) (z : Int), Chain o z ys n → cost o ys = 0 → rank q z < rank q n := by
  intro ys
  have hlen := turnL_len o n
  induction ys with
  | nil =>
    intro z hc _
    refine rank_lt ok (hall n (by omega)) ?_ (by rw [turnL_nd hn]; have := (turn_kind (j := n) h4).2.2.2; omega)
    rw [turnL_nd hn, turn_takes h4]; exact hc
  | cons y ys ih =>
    rintro z ⟨c1, c2, c3⟩ hcost
    have hb := back1_bd o y
    have hcn := cost_nonneg o ys
    unfold cost at hcost
    have hy4 : (ndn o y).kind ≠ 4 := by
      intro e
      have : back1 o y = 1 := by simp [back1, e]
      omega
    refine Nat.lt_trans (rank_lt ok (hall y (by omega)) ?_ ?_) (ih y c3 (by omega))
    · rw [turnL_nd c1, turn_takes h4]; exact c2
    · rw [turnL_nd c1]; exact (turn_kind (j := y) h4).2.2.1 hy4
theorem turn_cyc {o : List Nd} {r : Int} {n : Nat} (h : FitOk o r) (hn : n < o.length) (h4 : (ndn o n).kind = 4) (h0 : leastB o n o.length n = 0) : checkE (turnL o n) r = 2 := by
  have hlt : (orderB (turnL o n)).length < (turnL o n).length := by
    by_cases e : (orderB (turnL o n)).length < (turnL o n).length
    · exact e
    · exfalso
      rcases leastB_min hn o.length (n : Int) with ⟨e1, _⟩ | ⟨_, ⟨ys, g1, _, g3⟩, _⟩
      · omega
      · exact absurd (chain_rank h4 (ordTo_ok (turnL o n) (turnL o n).length) (order_all e) hn ys n g1 (by omega)) (Nat.lt_irrefl _)
  unfold checkE
  rw [turn_wf h h4]
  simp [hlt]

theorem cyc_chain {o : List Nd} {n : Nat} (h4 : (ndn o n).kind = 4) {l : List Int} (c : CycOk (turnL o n) l) (hn : (n : Int) ∈ l) : ∃ ys, Chain o (n : Int) ys n ∧ cost o ys = 0 := by
  have hlen := turnL_len o n
  obtain ⟨i0, hi0, e0⟩ := List.getElem_of_mem hn
  rw [← nth_lt hi0] at e0
  have hpos := c.pos
  -- the node that lies j places behind
  have hnode : ∀ i, i < l.length → ∃ a : Nat, nth l i = a ∧ a < o.length := by
    intro i hi
    obtain ⟨a0, a1⟩ := c.node i hi
    rw [hlen] at a1
    exact ⟨(nth l i).toNat, by omega, by omega⟩
  have hstep : ∀ i, i < l.length → takesB (ndn o (nth l ((i + 1) % l.length)).toNat) (nth l i) = true := by
    intro i hi
    by_cases e : i + 1 < l.length
    · rw [Nat.mod_eq_of_lt e]
      have := c.next i e
      obtain ⟨a, ea, ha⟩ := hnode (i + 1) e
      rw [ea, Int.toNat_natCast] at this ⊢
      rw [turnL_nd ha, turn_takes h4] at this
      exact this
    · have e1 : i = l.length - 1 := by omega
      have e2 : (i + 1) % l.length = 0 := by rw [show i + 1 = l.length by omega]; exact Nat.mod_self _
      rw [e2, e1]
      have := c.first
      obtain ⟨a, ea, ha⟩ := hnode 0 hpos
      rw [ea, Int.toNat_natCast] at this ⊢
      rw [turnL_nd ha, turn_takes h4] at this
      exact this
  have hmod : ∀ j, (i0 + j) % l.length < l.length := fun j => Nat.mod_lt _ hpos
  have hsucc : ∀ j, ((i0 + j) % l.length + 1) % l.length = (i0 + (j + 1)) % l.length := fun j => by
    rw [Nat.add_mod ((i0 + j) % l.length), Nat.mod_mod, ← Nat.add_mod, Nat.add_assoc]
  have key : ∀ t, t + 1 ≤ l.length → ∃ ys, Chain o (n : Int) ys (nth l ((i0 + (t + 1)) % l.length)).toNat ∧ cost o ys = 0 := by
    intro t
    induction t with
    | zero =>
      intro _
      refine ⟨[], ?_, rfl⟩
      have := hstep ((i0 + 0) % l.length) (hmod 0)
      rw [hsucc 0] at this
      have e5 : nth l ((i0 + 0) % l.length) = n := by rw [Nat.add_zero i0, Nat.mod_eq_of_lt hi0, e0]
      rw [e5] at this
      exact this
    | succ t ih =>
      intro ht
      obtain ⟨ys, g1, g2⟩ := ih (by omega)
      obtain ⟨a, ea, ha⟩ := hnode _ (hmod (t + 1))
      rw [ea, Int.toNat_natCast] at g1
      refine ⟨ys ++ [a], chain_snoc.2 ⟨g1, ha, ?_⟩, ?_⟩
      · have := hstep ((i0 + (t + 1)) % l.length) (hmod (t + 1))
        rw [hsucc (t + 1), ea] at this
        exact this
      · rw [cost_snoc, g2]
        have hne : a ≠ n := by
          intro e
          subst e
          have e2 : nth l ((i0 + (t + 1)) % l.length) = nth l i0 := by rw [ea, e0]
          have hij : (i0 + (t + 1)) % l.length ≠ i0 := by
            intro e3
            by_cases hw : i0 + (t + 1) < l.length
            · rw [Nat.mod_eq_of_lt hw] at e3; omega
            · rw [Nat.mod_eq_sub_mod (by omega), Nat.mod_eq_of_lt (by omega)] at e3; omega
          rcases Nat.lt_or_gt_of_ne hij with hlt | hlt
          · have := c.once i0 hi0 _ hlt; rw [e2] at this; simp at this
          · have := c.once _ (hmod (t + 1)) i0 hlt; rw [e2] at this; simp at this
        have hb := c.back _ (hmod (t + 1))
        rw [ea, Int.toNat_natCast, turnL_nd ha, turn1_ne hne] at hb
        have : back1 o a = 0 := by simp at hb; simp [back1, hb]
        omega
  obtain ⟨ys, g1, g2⟩ := key (l.length - 1) (by omega)
  rw [show i0 + (l.length - 1 + 1) = i0 + l.length by omega, Nat.add_mod_right, Nat.mod_eq_of_lt hi0, e0, Int.toNat_natCast] at g1
  exact ⟨ys, g1, g2⟩
theorem turn_ok {o : List Nd} {r : Int} {n : Nat} (h : FitOk o r) (hn : n < o.length) (h4 : (ndn o n).kind = 4) (h0 : leastB o n o.length n ≠ 0) : checkE (turnL o n) r = 0 := by
  have hw := turn_wf h h4
  have hlt : ¬ (orderB (turnL o n)).length < (turnL o n).length := by
    intro hlt
    have c := (cycle_ok hw hlt).1
    obtain ⟨ys, g1, g2⟩ := cyc_chain h4 c (cyc_has h h4 c)
    obtain ⟨zs, z1, z2, z3⟩ := shorten hn _ _ (Nat.le_refl _) g1
    rcases leastB_min hn o.length (n : Int) with ⟨_, g⟩ | ⟨g0, _, g⟩
    · exact g zs z1 z2
    · have := g zs z1 z2
      omega
  unfold checkE
  rw [hw]
  simp [hlt]
end Go.Proofs.Ytfemleimkbjehaa
