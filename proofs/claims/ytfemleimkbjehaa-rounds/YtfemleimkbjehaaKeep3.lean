import Derived.Test.YtfemleimkbjehaaOwnN
import Derived.Test.YtfemleimkbjehaaKeep2
namespace Go.Proofs.Ytfemleimkbjehaa
open Go.RowKit

theorem ndn_app {o : List Nd} {x : Nd} {j : Nat} (h : j < o.length) : ndn (o ++ [x]) j = ndn o j := by
  rw [ndn_lt (by simp; omega), ndn_lt h, List.getElem_append_left h]
theorem ndn_last (o : List Nd) (x : Nd) : ndn (o ++ [x]) o.length = x := by
  rw [ndn_lt (by simp)]; simp
theorem mgTo_app {o : List Nd} {x : Nd} : ∀ k, k ≤ o.length → mgTo (o ++ [x]) k = mgTo o k := by
  intro k hk
  induction k with
  | zero => rfl
  | succ k ih => unfold mgTo; rw [ih (by omega), ndn_app (by omega)]

/-- What holds of the nodes whose kinds are made right, m Merges met. -/
structure Raw1 (o : List Nd) (m : Int) : Prop where
  kinds : ∀ j, j < o.length → 0 ≤ (ndn o j).kind ∧ (ndn o j).kind ≤ 7 ∧ (ndn o j).wf
  first : 0 < o.length → (ndn o 0).kind = 0
  some_ : (mgTo o o.length : Int) ≤ m
  few : mgTo o o.length ≤ 3
  lo : 0 ≤ m
  hi : m ≤ o.length
theorem Raw1.nil : Raw1 [] 0 := ⟨by intro j hj; simp at hj, by simp, by simp [mgTo], by simp [mgTo], by omega, by simp⟩
theorem Raw1.snoc {o : List Nd} {m m' : Int} {x : Nd} (h : Raw1 o m) (h0 : 0 ≤ x.kind) (h7 : x.kind ≤ 7) (hw : x.wf) (hf : o.length = 0 → x.kind = 0) (hm : m ≤ m') (hm' : m' ≤ m + 1) (h3 : x.kind = 3 → m' = m + 1 ∧ m' ≤ 3) : Raw1 (o ++ [x]) m' := by
  have hlen : (o ++ [x]).length = o.length + 1 := by simp
  have hmg : mgTo (o ++ [x]) (o ++ [x]).length = mgTo o o.length + (if x.kind == 3 then 1 else 0) := by
    rw [hlen, mgTo, mgTo_app _ (Nat.le_refl _), ndn_last]
  have hs := h.some_
  have hfw := h.few
  refine ⟨?_, ?_, ?_, ?_, ?_, ?_⟩
  · intro j hj
    rw [hlen] at hj
    by_cases e : j < o.length
    · rw [ndn_app e]; exact h.kinds j e
    · have : j = o.length := by omega
      subst this; rw [ndn_last]; exact ⟨h0, h7, hw⟩
  · intro _
    by_cases e : 0 < o.length
    · rw [ndn_app e]; exact h.first e
    · have e0 : o.length = 0 := by omega
      have : ndn (o ++ [x]) 0 = x := by have := ndn_last o x; rw [e0] at this; exact this
      rw [this]; exact hf e0
  · rw [hmg]
    by_cases e : x.kind = 3
    · have := h3 e; simp [e]; omega
    · simp [e]; omega
  · rw [hmg]
    by_cases e : x.kind = 3
    · have := h3 e; simp [e]; omega
    · simp [e]; omega
  · have := h.lo; omega
  · have := h.hi; rw [hlen]; omega

/-- The nodes made right one by one. -/
def Fits (ns1 o : List Nd) : Prop := ∀ j, j < o.length → FitNode ns1 j (ndn o j)
theorem Fits.snoc {ns1 o : List Nd} {y : Nd} (h : Fits ns1 o) (hy : FitNode ns1 o.length y) : Fits ns1 (o ++ [y]) := by
  intro j hj
  simp at hj
  by_cases e : j < o.length
  · rw [ndn_app e]; exact h j e
  · have : j = o.length := by omega
    subst this; rw [ndn_last]; exact hy

structure FitOk (o : List Nd) (r : Int) : Prop where
  wf : wfB o r = true
  zero : (ndn o 0).kind = 0
  low : ∀ j, j < o.length → (ndn o j).kind ≠ 4 → ∀ z ∈ inputsL (ndn o j), ∃ a : Nat, z = a ∧ a < o.length ∧ ((ndn o a).kind = 4 ∨ a < j)
theorem wfTo_all {ns : List Nd} {n : Nat} (h : ∀ k, k < n → wfNodeB ns (ndn ns k) = true) : wfTo ns n = true := by
  induction n with
  | zero => rfl
  | succ n ih => unfold wfTo; rw [ih (fun k hk => h k (by omega)), h n (by omega)]; rfl
theorem fit_ok {ns1 o : List Nd} {m r : Int} (h1 : Raw1 ns1 m) (h2 : Fits ns1 o) (hl : o.length = ns1.length) (hp : 1 ≤ ns1.length) (h8 : ns1.length ≤ 8) (hr1 : 1 ≤ r) (hr4 : r ≤ 4) : FitOk o r := by
  have hk : ∀ a, a < o.length → ((ndn o a).kind = 4 ↔ (ndn ns1 a).kind = 4) ∧ ((ndn o a).kind = 7 ↔ (ndn ns1 a).kind = 7) ∧ ((ndn o a).kind = 3 → (ndn ns1 a).kind = 3) := by
    intro a ha
    rcases (h2 a ha).kind with h | ⟨h, h'⟩ <;> omega
  have hmg : ∀ k, k ≤ o.length → mgTo o k ≤ mgTo ns1 k := by
    intro k hk'
    induction k with
    | zero => exact Nat.le_refl _
    | succ k ih =>
      have := ih (by omega)
      have h3 := (hk k (by omega)).2.2
      unfold mgTo
      by_cases e : (ndn o k).kind = 3
      · simp [e, h3 e]; omega
      · simp [e]; omega
  have hin : ∀ j, j < o.length → ∀ z ∈ inputsL (ndn o j), ∃ a : Nat, z = a ∧ a < o.length ∧ (ndn o a).kind ≠ 7 ∧ ((ndn o a).kind = 4 ∨ a < j ∨ (ndn o j).kind = 4) := by
    intro j hj z hz
    obtain ⟨a, rfl, ha, hc⟩ := (h2 j hj).inp z hz
    have ha' : a < o.length := by omega
    obtain ⟨k4, k7, _⟩ := hk a ha'
    obtain ⟨j4, _, _⟩ := hk j hj
    simp only [chB, Bool.and_eq_true, Bool.not_eq_true', Bool.or_eq_true, decide_eq_true_eq, beq_iff_eq, beq_eq_false_iff_ne] at hc
    refine ⟨a, rfl, ha', fun h => hc.1 (k7.1 h), ?_⟩
    rcases hc.2 with (h | h) | h
    · exact .inl (k4.2 h)
    · exact .inr (.inl h)
    · exact .inr (.inr (j4.2 h))
  refine ⟨?_, ?_, ?_⟩
  · have hwt : wfTo o o.length = true := by
      refine wfTo_all fun j hj => ?_
      rw [wfNode_eq, (h2 j hj).pre]
      simp only [Bool.true_and]
      unfold inB
      rw [List.all_eq_true]
      intro z hz
      obtain ⟨a, rfl, ha, h7, _⟩ := hin j hj z hz
      simp [cbtfB, isNodeB, ha, h7]
    have := hmg o.length (Nat.le_refl _)
    have h3 := h1.few
    rw [← hl] at h3
    rw [wfB_good (by omega) (by omega) hr1 hr4, hwt]
    simp
    omega
  · have h0 := h1.first (by omega)
    rcases (h2 0 (by omega)).kind with h | ⟨h, _⟩
    · rw [h]; exact h0
    · omega
  · intro j hj hj4 z hz
    obtain ⟨a, e, ha, _, h⟩ := hin j hj z hz
    refine ⟨a, e, ha, ?_⟩
    rcases h with h | h | h
    · exact .inl h
    · exact .inr h
    · exact absurd h hj4
end Go.Proofs.Ytfemleimkbjehaa
