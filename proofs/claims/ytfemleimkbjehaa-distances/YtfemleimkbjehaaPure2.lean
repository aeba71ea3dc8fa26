import Derived.Test.YtfemleimkbjehaaPure1
namespace Go.Proofs.Ytfemleimkbjehaa
open Go.RowKit

theorem dB_zero {ns : List Nd} {x : Int} {f : Int → Int} {k : Nat} : dB ns x f k = 0 ↔ (k : Int) = x ∨ (f k = 0 ∧ (ndn ns k).kind ≠ 4) := by
  unfold dB
  split
  · simp [*]
  · rename_i h
    split
    · rename_i h1; constructor
      · intro h2; omega
      · rintro (h2 | ⟨_, h2⟩)
        · exact absurd h2 h
        · exact absurd h1.2 h2
    · rename_i h1; constructor
      · intro h2; exact .inr ⟨h2, fun h4 => h1 ⟨by omega, h4⟩⟩
      · rintro (h2 | ⟨h2, _⟩)
        · exact absurd h2 h
        · exact h2
theorem dB_lo {ns : List Nd} {x : Int} {f : Int → Int} {k : Nat} (hf : ∀ y, -1 ≤ f y) : -1 ≤ dB ns x f k := by
  have := hf k
  unfold dB; split
  · omega
  · split <;> omega
theorem stepB_zero {best d : Int} (h1 : -1 ≤ best) (_h2 : -1 ≤ d) : stepB best d = 0 ↔ d = 0 ∨ best = 0 := by
  unfold stepB; split <;> omega
theorem stepB_lo {best d : Int} (h1 : -1 ≤ best) : -1 ≤ stepB best d := by unfold stepB; split <;> omega
theorem leastTo_lo {ns : List Nd} {f : Int → Int} {n x : Int} (k : Nat) : -1 ≤ leastTo ns f n x k := by
  induction k with
  | zero => simp [leastTo]
  | succ k ih => unfold leastTo; split
                 · exact stepB_lo ih
                 · exact ih
theorem leastTo_zero {ns : List Nd} {f : Int → Int} {n x : Int} (hf : ∀ y, -1 ≤ f y) (K : Nat) : leastTo ns f n x K = 0 ↔ ∃ y, y < K ∧ takesB (ndn ns y) n = true ∧ dB ns x f y = 0 := by
  induction K with
  | zero => simp [leastTo]
  | succ K ih =>
    have step : (∃ y, y < K + 1 ∧ takesB (ndn ns y) n = true ∧ dB ns x f y = 0) ↔ (takesB (ndn ns K) n = true ∧ dB ns x f K = 0) ∨ ∃ y, y < K ∧ takesB (ndn ns y) n = true ∧ dB ns x f y = 0 := by
      constructor
      · rintro ⟨y, hy, h⟩
        by_cases e : y = K
        · subst e; exact .inl h
        · exact .inr ⟨y, by omega, h⟩
      · rintro (h | ⟨y, hy, h⟩)
        · exact ⟨K, by omega, h⟩
        · exact ⟨y, by omega, h⟩
    rw [step, ← ih]
    cases ht : takesB (ndn ns K) n with
    | false => rw [leastTo_skip ht]; simp
    | true => rw [leastTo_take ht, stepB_zero (leastTo_lo K) (dB_lo hf)]; simp
theorem leastB_lo (ns : List Nd) (x : Int) (s : Nat) : ∀ n, -1 ≤ leastB ns x s n := fun n => (leastB_bd ns x s n).1
theorem leastB_zero {ns : List Nd} {x n : Int} {s : Nat} : leastB ns x (s + 1) n = 0 ↔ ∃ y, y < ns.length ∧ takesB (ndn ns y) n = true ∧ ((y : Int) = x ∨ (leastB ns x s y = 0 ∧ (ndn ns y).kind ≠ 4)) := by
  rw [leastB, leastTo_zero (leastB_lo ns x s)]
  constructor
  · rintro ⟨y, hy, ht, hd⟩; exact ⟨y, hy, ht, dB_zero.1 hd⟩
  · rintro ⟨y, hy, ht, hd⟩; exact ⟨y, hy, ht, dB_zero.2 hd⟩
theorem leastB_mono {ns : List Nd} {x : Int} {s : Nat} : ∀ n, leastB ns x s n = 0 → leastB ns x (s + 1) n = 0 := by
  induction s with
  | zero => intro n h; simp [leastB] at h
  | succ s ih =>
    intro n h
    obtain ⟨y, hy, ht, hd⟩ := leastB_zero.1 h
    refine leastB_zero.2 ⟨y, hy, ht, ?_⟩
    rcases hd with hd | ⟨hd, h4⟩
    · exact .inl hd
    · exact .inr ⟨ih _ hd, h4⟩
theorem leastB_le {ns : List Nd} {x n : Int} {s t : Nat} (h : leastB ns x s n = 0) (hst : s ≤ t) : leastB ns x t n = 0 := by
  induction t with
  | zero => have : s = 0 := by omega
            subst this; exact h
  | succ t ih =>
    by_cases e : s = t + 1
    · subst e; exact h
    · exact leastB_mono _ (ih (by omega))

/-- The place of a node in the order. -/
def rank (o : List Int) (z : Int) : Nat := o.idxOf z
theorem rank_take {o : List Int} {z : Int} {i : Nat} (h : z ∈ o.take i) : rank o z < i := by
  unfold rank
  have h1 : List.idxOf z (o.take i) < (o.take i).length := List.idxOf_lt_length_iff.2 h
  have h2 : List.idxOf z o = List.idxOf z (o.take i) := by
    conv => lhs; rw [← List.take_append_drop i o]
    rw [List.idxOf_append, if_pos h]
  rw [h2]
  rw [List.length_take] at h1
  omega
theorem rank_lt {ns : List Nd} {o : List Int} (ok : OrdOk ns o) {y : Nat} {n : Int} (hy : hasB o y = true) (ht : takesB (ndn ns y) n = true) (h4 : (ndn ns y).kind ≠ 4) : rank o n < rank o y := by
  have hm := hasB_iff.1 hy
  have hr : rank o y < o.length := List.idxOf_lt_length_iff.2 hm
  have hb := ok.before (rank o y) hr
  have he : nth o (rank o y) = y := by rw [nth_lt hr]; exact List.getElem_idxOf hr
  rw [he, Int.toNat_natCast] at hb
  refine rank_take (hasB_iff.1 ?_)
  unfold takesB at ht
  unfold canFollowB at hb
  simp at ht hb
  rcases hb with (hb | hb) | hb
  · exact absurd hb ht.1
  · exact absurd hb h4
  · split at hb
    · rename_i h3
      rcases ht.2 with h | ⟨_, h⟩
      · rw [← h]; exact hb.1
      · rw [← h]; exact hb.2
    · rename_i h3
      rcases ht.2 with h | ⟨h, _⟩
      · rw [← h]; exact hb
      · exact absurd h h3
theorem least_rank {ns : List Nd} {o : List Int} (ok : OrdOk ns o) (hall : ∀ k, k < ns.length → hasB o k = true) {x : Nat} (h4 : (ndn ns x).kind ≠ 4) (s : Nat) : ∀ n, leastB ns x s n = 0 → rank o n < rank o x := by
  induction s with
  | zero => intro n h; simp [leastB] at h
  | succ s ih =>
    intro n h
    obtain ⟨y, hy, ht, hd⟩ := leastB_zero.1 h
    rcases hd with hd | ⟨hd, hy4⟩
    · have : y = x := by omega
      subst this
      exact rank_lt ok (hall _ hy) ht h4
    · exact Nat.lt_trans (rank_lt ok (hall _ hy) ht hy4) (ih _ hd)
theorem knotB_not {ns : List Nd} (h : ¬ (orderB ns).length < ns.length) : knotB ns = false := by
  refine knotB_no fun k hk => ?_
  cases hn : knotAt ns k with
  | false => rfl
  | true =>
    simp [knotAt] at hn
    exact absurd (least_rank (ordTo_ok ns ns.length) (order_all h) hn.2 ns.length _ hn.1) (Nat.lt_irrefl _)
end Go.Proofs.Ytfemleimkbjehaa
