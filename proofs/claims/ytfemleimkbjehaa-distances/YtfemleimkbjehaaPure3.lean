import Derived.Test.YtfemleimkbjehaaPure2
namespace Go.Proofs.Ytfemleimkbjehaa
open Go.RowKit

/-- A node that the order leaves out. -/
def Out (ns : List Nd) (o : List Int) (z : Int) : Prop := 0 ≤ z ∧ z < ns.length ∧ hasB o z = false

theorem wfTo_get {ns : List Nd} {n : Nat} (h : wfTo ns n = true) : ∀ k, k < n → wfNodeB ns (ndn ns k) = true := by
  induction n with
  | zero => intro k hk; omega
  | succ n ih =>
    intro k hk
    unfold wfTo at h
    simp at h
    by_cases e : k = n
    · subst e; exact h.2
    · exact ih h.1 k (by omega)
theorem wf_input {ns : List Nd} {r : Int} (h : wfB ns r = true) {k : Nat} (hk : k < ns.length) {n : Int} (hn : n ∈ inputsL (ndn ns k)) : 0 ≤ n ∧ n < ns.length := by
  have h1 : wfTo ns ns.length = true := by simp [wfB] at h; exact h.1.2
  have h2 := wfTo_get h1 k hk
  rw [wfNode_eq] at h2
  simp only [Bool.and_eq_true] at h2
  have h3 := h2.2
  unfold inB at h3
  rw [List.all_eq_true] at h3
  have := h3 n hn
  simp [cbtfB] at this
  exact isNodeB_iff.1 this.1

/-- A step against the ways from a node that the order leaves out. -/
theorem ahead_out {ns : List Nd} {r : Int} (hw : wfB ns r = true) {o : List Int} (hf : Fix ns o) {z : Int} (hz : Out ns o z) :
    Out ns o (aheadB ns o z) ∧ takesB (ndn ns z.toNat) (aheadB ns o z) = true ∧ (ndn ns z.toNat).kind ≠ 4 := by
  obtain ⟨h0, h1, h2⟩ := hz
  obtain ⟨k, rfl⟩ := Int.eq_ofNat_of_zero_le h0
  rw [Int.toNat_natCast]
  have hk : k < ns.length := by omega
  have hi := @wf_input ns r hw k hk
  have hc : canFollowB o (ndn ns k) = false := by
    rcases hf k hk with h | h
    · rw [h2] at h; cases h
    · exact h
  have hnode : isNodeB ns.length (k : Int) = true := isNodeB_iff.2 ⟨h0, h1⟩
  unfold canFollowB at hc
  simp only [Bool.or_eq_false_iff] at hc
  obtain ⟨⟨hc0, hc4⟩, hc3⟩ := hc
  have k0 : (ndn ns k).kind ≠ 0 := by simpa using hc0
  have k4 : (ndn ns k).kind ≠ 4 := by simpa using hc4
  unfold aheadB
  rw [hnode, Int.toNat_natCast]
  simp only [if_true]
  by_cases e3 : (ndn ns k).kind = 3
  · have hin : inputsL (ndn ns k) = [(ndn ns k).a, (ndn ns k).b] := inputsL_3 e3
    simp only [e3, beq_self_eq_true, if_true] at hc3
    cases ha : hasB o (ndn ns k).a with
    | true =>
      rw [ha] at hc3
      simp only [Bool.true_and] at hc3
      simp only [e3, beq_self_eq_true, Bool.true_and, if_true]
      have hr := hi (n := (ndn ns k).b) (by rw [hin]; simp)
      exact ⟨⟨hr.1, hr.2, hc3⟩, by simp [takesB, e3], by omega⟩
    | false =>
      have hr := hi (n := (ndn ns k).a) (by rw [hin]; simp)
      simp only [Bool.and_false, Bool.false_eq_true, if_false]
      exact ⟨⟨hr.1, hr.2, ha⟩, by simp [takesB, e3], by omega⟩
  · have hb3 : ((ndn ns k).kind == 3) = false := by simpa using e3
    rw [hb3] at hc3 ⊢
    simp only [Bool.false_eq_true, if_false, Bool.false_and] at hc3 ⊢
    have hin : inputsL (ndn ns k) = [(ndn ns k).a] := inputsL_1 k0 e3
    have hr := hi (n := (ndn ns k).a) (by rw [hin]; simp)
    exact ⟨⟨hr.1, hr.2, hc3⟩, by simp [takesB, k0], k4⟩

theorem back_add (ns : List Nd) (o : List Int) (n : Int) (i j : Nat) : backB ns o n (i + j) = backB ns o (backB ns o n i) j := by
  induction j with
  | zero => rfl
  | succ j ih => rw [← Nat.add_assoc]; unfold backB; rw [ih]
theorem back_out {ns : List Nd} {r : Int} (hw : wfB ns r = true) {o : List Int} (hf : Fix ns o) {z : Int} (hz : Out ns o z) (k : Nat) : Out ns o (backB ns o z k) := by
  induction k with
  | zero => exact hz
  | succ k ih => unfold backB; exact (ahead_out hw hf ih).1
theorem first_out {ns : List Nd} {o : List Int} : ∀ f k, k + f = ns.length → (∃ j, k ≤ j ∧ j < ns.length ∧ hasB o j = false) → Out ns o (firstB o k f) := by
  intro f
  induction f with
  | zero => rintro k hk ⟨j, h1, h2, _⟩; omega
  | succ f ih =>
    rintro k hk ⟨j, h1, h2, h3⟩
    cases hh : hasB o k with
    | false => rw [firstB_hit hh]; exact ⟨by omega, by omega, hh⟩
    | true =>
      rw [firstB_skip hh]
      refine ih (k + 1) (by omega) ⟨j, ?_, h2, h3⟩
      by_cases e : j = k
      · subst e; rw [hh] at h3; cases h3
      · omega

/-- Among the first n + 1 of a row of numbers below n two are the same. -/
theorem pigeon (n : Nat) (x : Nat → Int) (h : ∀ i, 0 ≤ x i ∧ x i < n) : ∃ i j, i < j ∧ j ≤ n ∧ x i = x j := by
  by_cases hx : ∃ i j, i < j ∧ j ≤ n ∧ x i = x j
  · exact hx
  · have hn : ((List.range (n + 1)).map x).Nodup := by
      rw [List.nodup_iff_pairwise_ne, List.pairwise_map]
      refine List.Pairwise.imp_of_mem ?_ (List.pairwise_lt_range (n := n + 1))
      intro a b ha hb hab e
      rw [List.mem_range] at ha hb
      exact hx ⟨a, b, hab, by omega, e⟩
    have := nodup_le (ys := upto n) hn (by
      intro z hz
      rw [List.mem_map] at hz
      obtain ⟨i, _, rfl⟩ := hz
      exact mem_upto.2 (h i))
    rw [upto_len] at this
    simp at this
    exact absurd this (by omega)
theorem least_nat {p : Nat → Prop} (h : ∃ n, p n) : ∃ n, p n ∧ ∀ m, m < n → ¬ p m := by
  obtain ⟨n, hn⟩ := h
  induction n using Nat.strongRecOn with
  | _ n ih =>
    by_cases hx : ∃ m, m < n ∧ p m
    · obtain ⟨m, hm, hp⟩ := hx; exact ih m hm hp
    · exact ⟨n, hn, fun m hm hp => hx ⟨m, hm, hp⟩⟩
end Go.Proofs.Ytfemleimkbjehaa
