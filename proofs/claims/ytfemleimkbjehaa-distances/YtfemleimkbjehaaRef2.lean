import Derived.Test.YtfemleimkbjehaaRef1
namespace Go.Proofs.Ytfemleimkbjehaa
open Go.RowKit

def preB (x : Nd) : Bool :=
  if x.kind == 0 then (x.a == 0) && (x.b == 0) && (x.k == 0) && (x.m == 0)
  else if x.kind == 1 then (x.b == 0) && (x.m == 0)
  else if x.kind == 2 then (x.b == 0) && decide (1 ≤ x.k) && decide (x.k ≤ 100) && decide (0 ≤ x.m) && decide (x.m < x.k)
  else if x.kind == 3 then (x.k == 0) && (x.m == 0) && !(x.a == x.b)
  else if x.kind == 4 then (x.b == 0) && (x.k == 0) && (x.m == 0)
  else if x.kind == 5 then (x.b == 0) && (x.k == 0) && (x.m == 0)
  else if x.kind == 6 then (x.b == 0) && (x.m == 0) && decide (1 ≤ x.k) && decide (x.k ≤ 8)
  else if x.kind == 7 then (x.b == 0) && (x.k == 0) && (x.m == 0)
  else false
def inB (ns : List Nd) (x : Nd) : Bool := (inputsL x).all (cbtfB ns)

theorem wfNode_eq (ns : List Nd) (x : Nd) : wfNodeB ns x = (preB x && inB ns x) := by
  obtain ⟨kind, a, b, k, m⟩ := x
  by_cases h0 : kind = 0
  · subst h0; rw [Bool.eq_iff_iff]; simp [wfNodeB, preB, inB, inputsL]; omega
  by_cases h3 : kind = 3
  · subst h3; rw [Bool.eq_iff_iff]; simp [wfNodeB, preB, inB, inputsL]
    constructor
    · rintro ⟨h1, h2, ⟨h4, h5⟩, h6⟩; exact ⟨⟨⟨h6, h2⟩, h5⟩, h1, h4⟩
    · rintro ⟨⟨⟨h6, h2⟩, h5⟩, h1, h4⟩; exact ⟨h1, h2, ⟨h4, h5⟩, h6⟩
  by_cases h1 : kind = 1
  · subst h1; rw [Bool.eq_iff_iff]; simp [wfNodeB, preB, inB, inputsL]
    constructor
    · rintro ⟨h1, h2, h3⟩; exact ⟨⟨h2, h3⟩, h1⟩
    · rintro ⟨⟨h2, h3⟩, h1⟩; exact ⟨h1, h2, h3⟩
  by_cases h2 : kind = 2
  · subst h2; rw [Bool.eq_iff_iff]; simp [wfNodeB, preB, inB, inputsL]
    constructor
    · rintro ⟨h1, h2, ⟨⟨h3, h4⟩, h5⟩, h6⟩; exact ⟨⟨⟨⟨⟨h2, h3⟩, h4⟩, h5⟩, h6⟩, h1⟩
    · rintro ⟨⟨⟨⟨⟨h2, h3⟩, h4⟩, h5⟩, h6⟩, h1⟩; exact ⟨h1, h2, ⟨⟨h3, h4⟩, h5⟩, h6⟩
  by_cases h6 : kind = 6
  · subst h6; rw [Bool.eq_iff_iff]; simp [wfNodeB, preB, inB, inputsL]
    constructor
    · rintro ⟨h1, h2, h3, h4, h5⟩; exact ⟨⟨⟨⟨h2, h3⟩, h4⟩, h5⟩, h1⟩
    · rintro ⟨⟨⟨⟨h2, h3⟩, h4⟩, h5⟩, h1⟩; exact ⟨h1, h2, h3, h4, h5⟩
  by_cases h4 : kind = 4
  · subst h4; rw [Bool.eq_iff_iff]; simp [wfNodeB, preB, inB, inputsL]
    constructor
    · rintro ⟨h1, h2, h3, h4⟩; exact ⟨⟨⟨h2, h4⟩, h3⟩, h1⟩
    · rintro ⟨⟨⟨h2, h4⟩, h3⟩, h1⟩; exact ⟨h1, h2, h3, h4⟩
  by_cases h5 : kind = 5
  · subst h5; rw [Bool.eq_iff_iff]; simp [wfNodeB, preB, inB, inputsL]
    constructor
    · rintro ⟨h1, h2, h3, h4⟩; exact ⟨⟨⟨h2, h4⟩, h3⟩, h1⟩
    · rintro ⟨⟨⟨h2, h4⟩, h3⟩, h1⟩; exact ⟨h1, h2, h3, h4⟩
  by_cases h7 : kind = 7
  · subst h7; rw [Bool.eq_iff_iff]; simp [wfNodeB, preB, inB, inputsL]
    constructor
    · rintro ⟨h1, h2, h3, h4⟩; exact ⟨⟨⟨h2, h4⟩, h3⟩, h1⟩
    · rintro ⟨⟨⟨h2, h4⟩, h3⟩, h1⟩; exact ⟨h1, h2, h3, h4⟩
  rw [Bool.eq_iff_iff]; simp [wfNodeB, preB, h0, h1, h2, h3, h4, h5, h6, h7]
theorem wfTo_pre {ns : List Nd} {k : Nat} (hk : k < ns.length) (h : preB (ndn ns k) = false) : wfTo ns ns.length = false :=
  wfTo_false (k := k + 1) (by unfold wfTo; rw [wfNode_eq, h]; simp) _ (by omega)
theorem wfTo_in {ns : List Nd} {k j : Nat} (hk : k < ns.length) (hj : j < (inputsL (ndn ns k)).length) (h : cbtfB ns (nth (inputsL (ndn ns k)) j) = false) : wfTo ns ns.length = false := by
  refine wfTo_false (k := k + 1) ?_ _ (by omega)
  have : inB ns (ndn ns k) = false := by
    cases e : inB ns (ndn ns k) with
    | false => rfl
    | true =>
      unfold inB at e
      rw [List.all_eq_true] at e
      have := e _ (List.getElem_mem hj)
      rw [← nth_lt hj, h] at this
      exact this.symm
  unfold wfTo; rw [wfNode_eq, this]; simp
theorem inB_no {ns : List Nd} {x : Nd} (h : ∃ j, j < (inputsL x).length ∧ cbtfB ns (nth (inputsL x) j) = false) : inB ns x = false := by
  obtain ⟨j, hj, hc⟩ := h
  cases e : inB ns x with
  | false => rfl
  | true =>
    unfold inB at e
    rw [List.all_eq_true] at e
    have := e _ (List.getElem_mem hj)
    rw [← nth_lt hj, hc] at this
    exact this.symm
theorem inB_all {ns : List Nd} {x : Nd} (h : ∀ j, j < (inputsL x).length → cbtfB ns (nth (inputsL x) j) = true) : inB ns x = true := by
  unfold inB
  rw [List.all_eq_true]
  intro n hn
  obtain ⟨j, hj, rfl⟩ := List.getElem_of_mem hn
  rw [← nth_lt hj]; exact h j hj
theorem cbtfB_false_lo {ns : List Nd} {n : Int} (h : n < 0) : cbtfB ns n = false := by simp [cbtfB, isNodeB]; intro; omega
theorem cbtfB_false_hi {ns : List Nd} {n : Int} (h : (ns.length : Int) ≤ n) : cbtfB ns n = false := by simp [cbtfB, isNodeB]; intro; omega
theorem cbtfB_mid {ns : List Nd} {n : Int} (h0 : 0 ≤ n) (h : n < (ns.length : Int)) : cbtfB ns n = !((ndn ns n.toNat).kind == 7) := by simp [cbtfB, isNodeB, h0, h]
theorem preB_out {x : Nd} (h : ¬ (0 ≤ x.kind ∧ x.kind ≤ 7)) : preB x = false := by
  have h0 : x.kind ≠ 0 := by omega
  have h1 : x.kind ≠ 1 := by omega
  have h2 : x.kind ≠ 2 := by omega
  have h3 : x.kind ≠ 3 := by omega
  have h4 : x.kind ≠ 4 := by omega
  have h5 : x.kind ≠ 5 := by omega
  have h6 : x.kind ≠ 6 := by omega
  have h7 : x.kind ≠ 7 := by omega
  simp [preB, h0, h1, h2, h3, h4, h5, h6, h7]
theorem preB_iff (x : Nd) : preB x = true ↔ ((x.kind = 0 ∧ x.a = 0 ∧ x.b = 0 ∧ x.k = 0 ∧ x.m = 0) ∨ (x.kind = 1 ∧ x.b = 0 ∧ x.m = 0) ∨ (x.kind = 2 ∧ x.b = 0 ∧ 1 ≤ x.k ∧ x.k ≤ 100 ∧ 0 ≤ x.m ∧ x.m < x.k) ∨
    (x.kind = 3 ∧ x.k = 0 ∧ x.m = 0 ∧ x.a ≠ x.b) ∨ (x.kind = 4 ∧ x.b = 0 ∧ x.k = 0 ∧ x.m = 0) ∨ (x.kind = 5 ∧ x.b = 0 ∧ x.k = 0 ∧ x.m = 0) ∨ (x.kind = 6 ∧ x.b = 0 ∧ x.m = 0 ∧ 1 ≤ x.k ∧ x.k ≤ 8) ∨ (x.kind = 7 ∧ x.b = 0 ∧ x.k = 0 ∧ x.m = 0)) := by
  by_cases hk : 0 ≤ x.kind ∧ x.kind ≤ 7
  · have h8 : x.kind = 0 ∨ x.kind = 1 ∨ x.kind = 2 ∨ x.kind = 3 ∨ x.kind = 4 ∨ x.kind = 5 ∨ x.kind = 6 ∨ x.kind = 7 := by omega
    rcases h8 with h | h | h | h | h | h | h | h <;> simp [preB, h] <;> omega
  · rw [preB_out hk]; constructor
    · intro h; cases h
    · omega

end Go.Proofs.Ytfemleimkbjehaa
