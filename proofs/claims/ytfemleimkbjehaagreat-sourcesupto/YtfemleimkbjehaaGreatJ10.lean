import Derived.Test.YtfemleimkbjehaaGreatJ7
import Derived.Test.YtfemleimkbjehaaGreatJ9
namespace Go.Proofs.YtfemleimkbjehaaGreat
set_option linter.unusedVariables false
set_option linter.unusedSimpArgs false
open Go.RowKit

theorem hasB_iff {xs : List Int} {n : Int} : hasB xs n = true ↔ n ∈ xs := by simp [hasB]
theorem hasB_false {xs : List Int} {n : Int} : hasB xs n = false ↔ n ∉ xs := by rw [← Bool.not_eq_true, hasB_iff]

theorem nodup_le : ∀ {xs ys : List Int}, xs.Nodup → (∀ x ∈ xs, x ∈ ys) → xs.length ≤ ys.length := by
  intro xs
  induction xs with
  | nil => intro ys _ _; simp
  | cons x l ih =>
    intro ys hn hs
    have hx : x ∈ ys := hs x (by simp)
    have := ih (ys := ys.erase x) (List.nodup_cons.1 hn).2 (by
      intro y hy
      have hne : y ≠ x := by intro e; subst e; exact (List.nodup_cons.1 hn).1 hy
      exact (List.mem_erase_of_ne hne).2 (hs y (by simp [hy])))
    rw [List.length_erase_of_mem hx] at this
    have hpos : 0 < ys.length := List.length_pos_of_mem hx
    simp; omega

/-- The numbers from 0 on, n of them. -/
def upto (n : Nat) : List Int := (List.range n).map Int.ofNat
theorem mem_upto {n : Nat} {z : Int} : z ∈ upto n ↔ 0 ≤ z ∧ z < n := by
  unfold upto
  rw [List.mem_map]
  constructor
  · rintro ⟨k, hk, rfl⟩; rw [List.mem_range] at hk; simp; omega
  · rintro ⟨h0, h1⟩; exact ⟨z.toNat, List.mem_range.2 (by omega), by simp; omega⟩
theorem upto_len (n : Nat) : (upto n).length = n := by simp [upto]
theorem upto_nodup (n : Nat) : (upto n).Nodup := by
  unfold upto
  rw [List.nodup_iff_pairwise_ne] at *
  rw [List.pairwise_map]
  exact List.Pairwise.imp (fun h e => h (Int.ofNat.inj e)) (List.nodup_iff_pairwise_ne.1 List.nodup_range)

/-- What holds of an order at every stage of its making. -/
structure OrdOk (ns : List Nd) (o : List Int) : Prop where
  nodup : o.Nodup
  range : ∀ z ∈ o, 0 ≤ z ∧ z < ns.length
  before : ∀ i, i < o.length → canFollowB (o.take i) (ndn ns (nth o i).toNat) = true

theorem OrdOk.nil (ns : List Nd) : OrdOk ns [] := ⟨List.nodup_nil, by simp, by simp⟩
theorem OrdOk.snoc {ns : List Nd} {o : List Int} (h : OrdOk ns o) {k : Nat} (hk : k < ns.length) (h1 : hasB o k = false) (h2 : canFollowB o (ndn ns k) = true) : OrdOk ns (o ++ [(k : Int)]) := by
  refine ⟨?_, ?_, ?_⟩
  · rw [List.nodup_append]
    refine ⟨h.nodup, by simp, ?_⟩
    intro a ha b hb e
    simp at hb
    subst hb; subst e
    exact hasB_false.1 h1 ha
  · intro z hz
    rw [List.mem_append] at hz
    rcases hz with hz | hz
    · exact h.range z hz
    · simp at hz; subst hz; omega
  · intro i hi
    by_cases e : i < o.length
    · rw [List.take_append_of_le_length (by omega), nth_lt hi, List.getElem_append_left e, ← nth_lt e]
      exact h.before i e
    · simp at hi
      have : i = o.length := by omega
      subst this
      rw [nth_lt (by simp), List.take_left]
      simpa using h2
theorem passTo_ok {ns : List Nd} {o : List Int} (h : OrdOk ns o) : ∀ k, k ≤ ns.length → OrdOk ns (passTo ns o k) := by
  intro k hk
  induction k with
  | zero => exact h
  | succ k ih =>
    have ih := ih (by omega)
    cases h1 : hasB (passTo ns o k) k with
    | true => rw [passTo_has h1]; exact ih
    | false =>
      cases h2 : canFollowB (passTo ns o k) (ndn ns k) with
      | false => rw [passTo_not h2]; exact ih
      | true => rw [passTo_add h1 h2]; exact ih.snoc (by omega) h1 h2
theorem ordTo_ok (ns : List Nd) (p : Nat) : OrdOk ns (ordTo ns p) := by
  induction p with
  | zero => exact OrdOk.nil ns
  | succ p ih => unfold ordTo; exact passTo_ok ih _ (Nat.le_refl _)

/-- Nothing more can be placed. -/
def Fix (ns : List Nd) (o : List Int) : Prop := ∀ k, k < ns.length → hasB o k = true ∨ canFollowB o (ndn ns k) = false
theorem passTo_fix {ns : List Nd} {o : List Int} (h : Fix ns o) : ∀ k, k ≤ ns.length → passTo ns o k = o := by
  intro k hk
  induction k with
  | zero => rfl
  | succ k ih =>
    have ih := ih (by omega)
    rcases h k (by omega) with h1 | h1
    · rw [passTo_has (by rw [ih]; exact h1), ih]
    · rw [passTo_not (by rw [ih]; exact h1), ih]
theorem passTo_mono (ns : List Nd) (o : List Int) (k : Nat) : o.length ≤ (passTo ns o k).length := by
  induction k with
  | zero => exact Nat.le_refl _
  | succ k ih =>
    unfold passTo; split
    · simp; omega
    · exact ih
theorem passTo_same {ns : List Nd} {o : List Int} : ∀ k, (passTo ns o k).length = o.length → passTo ns o k = o ∧ ∀ j, j < k → hasB o j = true ∨ canFollowB o (ndn ns j) = false := by
  intro k
  induction k with
  | zero => intro _; exact ⟨rfl, by intro j hj; omega⟩
  | succ k ih =>
    intro hl
    have hm := passTo_mono ns o k
    cases h1 : hasB (passTo ns o k) k with
    | true =>
      rw [passTo_has h1] at hl ⊢
      obtain ⟨e, hj⟩ := ih hl
      refine ⟨e, fun j hjk => ?_⟩
      by_cases ej : j = k
      · subst ej; rw [e] at h1; exact .inl h1
      · exact hj j (by omega)
    | false =>
      cases h2 : canFollowB (passTo ns o k) (ndn ns k) with
      | false =>
        rw [passTo_not h2] at hl ⊢
        obtain ⟨e, hj⟩ := ih hl
        refine ⟨e, fun j hjk => ?_⟩
        by_cases ej : j = k
        · subst ej; rw [e] at h2; exact .inr h2
        · exact hj j (by omega)
      | true =>
        rw [passTo_add h1 h2] at hl
        simp at hl; omega
theorem ordTo_fix (ns : List Nd) (p : Nat) : p ≤ (ordTo ns p).length ∨ Fix ns (ordTo ns p) := by
  induction p with
  | zero => exact .inl (Nat.zero_le _)
  | succ p ih =>
    unfold ordTo
    have hm := passTo_mono ns (ordTo ns p) ns.length
    by_cases e : (passTo ns (ordTo ns p) ns.length).length = (ordTo ns p).length
    · obtain ⟨e1, hf⟩ := passTo_same _ e
      rw [e1]; exact .inr hf
    · rcases ih with ih | ih
      · exact .inl (by omega)
      · exact absurd (by rw [passTo_fix ih _ (Nat.le_refl _)]) e

theorem order_all {ns : List Nd} (h : ¬ (orderB ns).length < ns.length) : ∀ k, k < ns.length → hasB (orderB ns) k = true := by
  intro k hk
  cases hh : hasB (orderB ns) k with
  | true => rfl
  | false =>
    have ok := ordTo_ok ns ns.length
    have := nodup_le (xs := (k : Int) :: orderB ns) (ys := upto ns.length) (List.nodup_cons.2 ⟨hasB_false.1 hh, ok.nodup⟩) (by
      intro z hz
      rw [List.mem_cons] at hz
      rcases hz with rfl | hz
      · exact mem_upto.2 (by omega)
      · exact mem_upto.2 (ok.range z hz))
    rw [upto_len] at this
    simp at this
    omega
theorem order_some {ns : List Nd} (h : (orderB ns).length < ns.length) : ∃ k, k < ns.length ∧ hasB (orderB ns) k = false := by
  by_cases hx : ∃ k, k < ns.length ∧ hasB (orderB ns) k = false
  · exact hx
  · have := nodup_le (xs := upto ns.length) (ys := orderB ns) (upto_nodup _) (by
      intro z hz
      obtain ⟨h0, h1⟩ := mem_upto.1 hz
      cases hh : hasB (orderB ns) z with
      | true => exact hasB_iff.1 hh
      | false => exact absurd ⟨z.toNat, by omega, by rw [Int.toNat_of_nonneg h0]; exact hh⟩ hx)
    rw [upto_len] at this
    omega
theorem order_fix {ns : List Nd} (h : (orderB ns).length < ns.length) : Fix ns (orderB ns) := by
  rcases ordTo_fix ns ns.length with h1 | h1
  · unfold orderB at h; omega
  · exact h1
end Go.Proofs.YtfemleimkbjehaaGreat
namespace Go.Proofs.YtfemleimkbjehaaGreat
set_option linter.unusedVariables false
set_option linter.unusedSimpArgs false
open Go.RowKit

theorem dB_zero {ns : List Nd} {x : Int} {f : Int → Int} {k : Nat} : dB ns x f k = 0 ↔ (k : Int) = x ∨ (f k = 0 ∧ (ndn ns k).kind ≠ 4) := by
  unfold dB
  split
  · simp [*]
  · rename_i h
    split
    · rename_i h1; constructor
      · intro h2; omega
      · rintro (h2 | ⟨_, h2⟩)
        · exact absurd h2 h
        · exact absurd h1.2 h2
    · rename_i h1; constructor
      · intro h2; exact .inr ⟨h2, fun h4 => h1 ⟨by omega, h4⟩⟩
      · rintro (h2 | ⟨h2, _⟩)
        · exact absurd h2 h
        · exact h2
theorem dB_lo {ns : List Nd} {x : Int} {f : Int → Int} {k : Nat} (hf : ∀ y, -1 ≤ f y) : -1 ≤ dB ns x f k := by
  have := hf k
  unfold dB; split
  · omega
  · split <;> omega
theorem stepB_zero {best d : Int} (h1 : -1 ≤ best) (_h2 : -1 ≤ d) : stepB best d = 0 ↔ d = 0 ∨ best = 0 := by
  unfold stepB; split <;> omega
theorem stepB_lo {best d : Int} (h1 : -1 ≤ best) : -1 ≤ stepB best d := by unfold stepB; split <;> omega
theorem leastTo_lo {ns : List Nd} {f : Int → Int} {n x : Int} (k : Nat) : -1 ≤ leastTo ns f n x k := by
  induction k with
  | zero => simp [leastTo]
  | succ k ih => unfold leastTo; split
                 · exact stepB_lo ih
                 · exact ih
theorem leastTo_zero {ns : List Nd} {f : Int → Int} {n x : Int} (hf : ∀ y, -1 ≤ f y) (K : Nat) : leastTo ns f n x K = 0 ↔ ∃ y, y < K ∧ takesB (ndn ns y) n = true ∧ dB ns x f y = 0 := by
  induction K with
  | zero => simp [leastTo]
  | succ K ih =>
    have step : (∃ y, y < K + 1 ∧ takesB (ndn ns y) n = true ∧ dB ns x f y = 0) ↔ (takesB (ndn ns K) n = true ∧ dB ns x f K = 0) ∨ ∃ y, y < K ∧ takesB (ndn ns y) n = true ∧ dB ns x f y = 0 := by
      constructor
      · rintro ⟨y, hy, h⟩
        by_cases e : y = K
        · subst e; exact .inl h
        · exact .inr ⟨y, by omega, h⟩
      · rintro (h | ⟨y, hy, h⟩)
        · exact ⟨K, by omega, h⟩
        · exact ⟨y, by omega, h⟩
    rw [step, ← ih]
    cases ht : takesB (ndn ns K) n with
    | false => rw [leastTo_skip ht]; simp
    | true => rw [leastTo_take ht, stepB_zero (leastTo_lo K) (dB_lo hf)]; simp
theorem leastB_lo (ns : List Nd) (x : Int) (s : Nat) : ∀ n, -1 ≤ leastB ns x s n := fun n => (leastB_bd ns x s n).1
theorem leastB_zero {ns : List Nd} {x n : Int} {s : Nat} : leastB ns x (s + 1) n = 0 ↔ ∃ y, y < ns.length ∧ takesB (ndn ns y) n = true ∧ ((y : Int) = x ∨ (leastB ns x s y = 0 ∧ (ndn ns y).kind ≠ 4)) := by
  rw [leastB, leastTo_zero (leastB_lo ns x s)]
  constructor
  · rintro ⟨y, hy, ht, hd⟩; exact ⟨y, hy, ht, dB_zero.1 hd⟩
  · rintro ⟨y, hy, ht, hd⟩; exact ⟨y, hy, ht, dB_zero.2 hd⟩
theorem leastB_mono {ns : List Nd} {x : Int} {s : Nat} : ∀ n, leastB ns x s n = 0 → leastB ns x (s + 1) n = 0 := by
  induction s with
  | zero => intro n h; simp [leastB] at h
  | succ s ih =>
    intro n h
    obtain ⟨y, hy, ht, hd⟩ := leastB_zero.1 h
    refine leastB_zero.2 ⟨y, hy, ht, ?_⟩
    rcases hd with hd | ⟨hd, h4⟩
    · exact .inl hd
    · exact .inr ⟨ih _ hd, h4⟩
theorem leastB_le {ns : List Nd} {x n : Int} {s t : Nat} (h : leastB ns x s n = 0) (hst : s ≤ t) : leastB ns x t n = 0 := by
  induction t with
  | zero => have : s = 0 := by omega
            subst this; exact h
  | succ t ih =>
    by_cases e : s = t + 1
    · subst e; exact h
    · exact leastB_mono _ (ih (by omega))

/-- The place of a node in the order. -/
def rank (o : List Int) (z : Int) : Nat := o.idxOf z
theorem rank_take {o : List Int} {z : Int} {i : Nat} (h : z ∈ o.take i) : rank o z < i := by
  unfold rank
  have h1 : List.idxOf z (o.take i) < (o.take i).length := List.idxOf_lt_length_iff.2 h
  have h2 : List.idxOf z o = List.idxOf z (o.take i) := by
    conv => lhs; rw [← List.take_append_drop i o]
    rw [List.idxOf_append, if_pos h]
  rw [h2]
  rw [List.length_take] at h1
  omega
theorem rank_lt {ns : List Nd} {o : List Int} (ok : OrdOk ns o) {y : Nat} {n : Int} (hy : hasB o y = true) (ht : takesB (ndn ns y) n = true) (h4 : (ndn ns y).kind ≠ 4) : rank o n < rank o y := by
  have hm := hasB_iff.1 hy
  have hr : rank o y < o.length := List.idxOf_lt_length_iff.2 hm
  have hb := ok.before (rank o y) hr
  have he : nth o (rank o y) = y := by rw [nth_lt hr]; exact List.getElem_idxOf hr
  rw [he, Int.toNat_natCast] at hb
  refine rank_take (hasB_iff.1 ?_)
  unfold takesB at ht
  unfold canFollowB at hb
  simp at ht hb
  rcases hb with (hb | hb) | hb
  · exact absurd hb ht.1
  · exact absurd hb h4
  · split at hb
    · rename_i h3
      rcases ht.2 with h | ⟨_, h⟩
      · rw [← h]; exact hb.1
      · rw [← h]; exact hb.2
    · rename_i h3
      rcases ht.2 with h | ⟨h, _⟩
      · rw [← h]; exact hb
      · exact absurd h h3
theorem least_rank {ns : List Nd} {o : List Int} (ok : OrdOk ns o) (hall : ∀ k, k < ns.length → hasB o k = true) {x : Nat} (h4 : (ndn ns x).kind ≠ 4) (s : Nat) : ∀ n, leastB ns x s n = 0 → rank o n < rank o x := by
  induction s with
  | zero => intro n h; simp [leastB] at h
  | succ s ih =>
    intro n h
    obtain ⟨y, hy, ht, hd⟩ := leastB_zero.1 h
    rcases hd with hd | ⟨hd, hy4⟩
    · have : y = x := by omega
      subst this
      exact rank_lt ok (hall _ hy) ht h4
    · exact Nat.lt_trans (rank_lt ok (hall _ hy) ht hy4) (ih _ hd)
theorem knotB_not {ns : List Nd} (h : ¬ (orderB ns).length < ns.length) : knotB ns = false := by
  refine knotB_no fun k hk => ?_
  cases hn : knotAt ns k with
  | false => rfl
  | true =>
    simp [knotAt] at hn
    exact absurd (least_rank (ordTo_ok ns ns.length) (order_all h) hn.2 ns.length _ hn.1) (Nat.lt_irrefl _)
end Go.Proofs.YtfemleimkbjehaaGreat
namespace Go.Proofs.YtfemleimkbjehaaGreat
set_option linter.unusedVariables false
set_option linter.unusedSimpArgs false
open Go.RowKit

/-- A node that the order leaves out. -/
def Out (ns : List Nd) (o : List Int) (z : Int) : Prop := 0 ≤ z ∧ z < ns.length ∧ hasB o z = false

theorem wfTo_get {ns : List Nd} {n : Nat} (h : wfTo ns n = true) : ∀ k, k < n → wfNodeB ns (ndn ns k) = true := by
  induction n with
  | zero => intro k hk; omega
  | succ n ih =>
    intro k hk
    unfold wfTo at h
    simp at h
    by_cases e : k = n
    · subst e; exact h.2
    · exact ih h.1 k (by omega)
theorem wf_input {ns : List Nd} {r : Int} (h : wfB ns r = true) {k : Nat} (hk : k < ns.length) {n : Int} (hn : n ∈ inputsL (ndn ns k)) : 0 ≤ n ∧ n < ns.length := by
  have h1 : wfTo ns ns.length = true := by simp [wfB] at h; exact h.1.2
  have h2 := wfTo_get h1 k hk
  rw [wfNode_eq] at h2
  simp only [Bool.and_eq_true] at h2
  have h3 := h2.2
  unfold inB at h3
  rw [List.all_eq_true] at h3
  have := h3 n hn
  simp [cbtfB] at this
  exact isNodeB_iff.1 this.1

/-- A step against the ways from a node that the order leaves out. -/
theorem ahead_out {ns : List Nd} {r : Int} (hw : wfB ns r = true) {o : List Int} (hf : Fix ns o) {z : Int} (hz : Out ns o z) :
    Out ns o (aheadB ns o z) ∧ takesB (ndn ns z.toNat) (aheadB ns o z) = true ∧ (ndn ns z.toNat).kind ≠ 4 := by
  obtain ⟨h0, h1, h2⟩ := hz
  obtain ⟨k, rfl⟩ := Int.eq_ofNat_of_zero_le h0
  rw [Int.toNat_natCast]
  have hk : k < ns.length := by omega
  have hi := @wf_input ns r hw k hk
  have hc : canFollowB o (ndn ns k) = false := by
    rcases hf k hk with h | h
    · rw [h2] at h; cases h
    · exact h
  have hnode : isNodeB ns.length (k : Int) = true := isNodeB_iff.2 ⟨h0, h1⟩
  unfold canFollowB at hc
  simp only [Bool.or_eq_false_iff] at hc
  obtain ⟨⟨hc0, hc4⟩, hc3⟩ := hc
  have k0 : (ndn ns k).kind ≠ 0 := by simpa using hc0
  have k4 : (ndn ns k).kind ≠ 4 := by simpa using hc4
  unfold aheadB
  rw [hnode, Int.toNat_natCast]
  simp only [if_true]
  by_cases e3 : (ndn ns k).kind = 3
  · have hin : inputsL (ndn ns k) = [(ndn ns k).a, (ndn ns k).b] := inputsL_3 e3
    simp only [e3, beq_self_eq_true, if_true] at hc3
    cases ha : hasB o (ndn ns k).a with
    | true =>
      rw [ha] at hc3
      simp only [Bool.true_and] at hc3
      simp only [e3, beq_self_eq_true, Bool.true_and, if_true]
      have hr := hi (n := (ndn ns k).b) (by rw [hin]; simp)
      exact ⟨⟨hr.1, hr.2, hc3⟩, by simp [takesB, e3], by omega⟩
    | false =>
      have hr := hi (n := (ndn ns k).a) (by rw [hin]; simp)
      simp only [Bool.and_false, Bool.false_eq_true, if_false]
      exact ⟨⟨hr.1, hr.2, ha⟩, by simp [takesB, e3], by omega⟩
  · have hb3 : ((ndn ns k).kind == 3) = false := by simpa using e3
    rw [hb3] at hc3 ⊢
    simp only [Bool.false_eq_true, if_false, Bool.false_and] at hc3 ⊢
    have hin : inputsL (ndn ns k) = [(ndn ns k).a] := inputsL_1 k0 e3
    have hr := hi (n := (ndn ns k).a) (by rw [hin]; simp)
    exact ⟨⟨hr.1, hr.2, hc3⟩, by simp [takesB, k0], k4⟩

theorem back_add (ns : List Nd) (o : List Int) (n : Int) (i j : Nat) : backB ns o n (i + j) = backB ns o (backB ns o n i) j := by
  induction j with
  | zero => rfl
  | succ j ih => rw [← Nat.add_assoc]; unfold backB; rw [ih]
theorem back_out {ns : List Nd} {r : Int} (hw : wfB ns r = true) {o : List Int} (hf : Fix ns o) {z : Int} (hz : Out ns o z) (k : Nat) : Out ns o (backB ns o z k) := by
  induction k with
  | zero => exact hz
  | succ k ih => unfold backB; exact (ahead_out hw hf ih).1
theorem first_out {ns : List Nd} {o : List Int} : ∀ f k, k + f = ns.length → (∃ j, k ≤ j ∧ j < ns.length ∧ hasB o j = false) → Out ns o (firstB o k f) := by
  intro f
  induction f with
  | zero => rintro k hk ⟨j, h1, h2, _⟩; omega
  | succ f ih =>
    rintro k hk ⟨j, h1, h2, h3⟩
    cases hh : hasB o k with
    | false => rw [firstB_hit hh]; exact ⟨by omega, by omega, hh⟩
    | true =>
      rw [firstB_skip hh]
      refine ih (k + 1) (by omega) ⟨j, ?_, h2, h3⟩
      by_cases e : j = k
      · subst e; rw [hh] at h3; cases h3
      · omega

/-- Among the first n + 1 of a row of numbers below n two are the same. -/
theorem pigeon (n : Nat) (x : Nat → Int) (h : ∀ i, 0 ≤ x i ∧ x i < n) : ∃ i j, i < j ∧ j ≤ n ∧ x i = x j := by
  by_cases hx : ∃ i j, i < j ∧ j ≤ n ∧ x i = x j
  · exact hx
  · have hn : ((List.range (n + 1)).map x).Nodup := by
      rw [List.nodup_iff_pairwise_ne, List.pairwise_map]
      refine List.Pairwise.imp_of_mem ?_ (List.pairwise_lt_range (n := n + 1))
      intro a b ha hb hab e
      rw [List.mem_range] at ha hb
      exact hx ⟨a, b, hab, by omega, e⟩
    have := nodup_le (ys := upto n) hn (by
      intro z hz
      rw [List.mem_map] at hz
      obtain ⟨i, _, rfl⟩ := hz
      exact mem_upto.2 (h i))
    rw [upto_len] at this
    simp at this
    exact absurd this (by omega)
theorem least_nat {p : Nat → Prop} (h : ∃ n, p n) : ∃ n, p n ∧ ∀ m, m < n → ¬ p m := by
  obtain ⟨n, hn⟩ := h
  induction n using Nat.strongRecOn with
  | _ n ih =>
    by_cases hx : ∃ m, m < n ∧ p m
    · obtain ⟨m, hm, hp⟩ := hx; exact ih m hm hp
    · exact ⟨n, hn, fun m hm hp => hx ⟨m, hm, hp⟩⟩
end Go.Proofs.YtfemleimkbjehaaGreat
namespace Go.Proofs.YtfemleimkbjehaaGreat
set_option linter.unusedVariables false
set_option linter.unusedSimpArgs false
open Go.RowKit

/-- From s so many steps back, the furthest first. -/
def itl (ns : List Nd) (o : List Int) (s : Int) : Nat → List Int
  | 0 => [s]
  | j + 1 => backB ns o s (j + 1) :: itl ns o s j
theorem itl_len (ns : List Nd) (o : List Int) (s : Int) (j : Nat) : (itl ns o s j).length = j + 1 := by
  induction j with
  | zero => rfl
  | succ j ih => simp [itl, ih]
theorem itl_nth (ns : List Nd) (o : List Int) (s : Int) (j : Nat) : ∀ i, i ≤ j → nth (itl ns o s j) i = backB ns o s (j - i) := by
  induction j with
  | zero => intro i hi; have : i = 0 := by omega
            subst this; rfl
  | succ j ih =>
    intro i hi
    cases i with
    | zero => rfl
    | succ i =>
      have := ih i (by omega)
      rw [show j + 1 - (i + 1) = j - i by omega, ← this]
      rfl

theorem cycGo_itl {ns : List Nd} {o : List Int} {s : Int} {q : Nat} (hq : backB ns o s q = s) (hmin : ∀ m, 0 < m → m < q → backB ns o s m ≠ s) : ∀ f j, j + 1 ≤ q → q ≤ j + 1 + f → cycGo ns o s f (itl ns o s j) (backB ns o s (j + 1)) = itl ns o s (q - 1) := by
  intro f
  induction f with
  | zero => intro j h1 h2; have : q - 1 = j := by omega
            rw [this]; rfl
  | succ f ih =>
    intro j h1 h2
    by_cases e : j + 1 = q
    · rw [e, cycGo_stop (by rw [hq]; simp), ← e]; rfl
    · rw [cycGo_on (by simpa using hmin (j + 1) (by omega) (by omega))]
      exact ih (j + 1) (by omega) (by omega)

theorem least_back {ns : List Nd} {r : Int} (hw : wfB ns r = true) {o : List Int} (hf : Fix ns o) {s : Int} (hs : Out ns o s) : ∀ m, leastB ns s (m + 1) (backB ns o s (m + 1)) = 0 := by
  intro m
  induction m with
  | zero =>
    obtain ⟨_, ht, _⟩ := ahead_out hw hf hs
    exact leastB_zero.2 ⟨s.toNat, by have := hs.1; have := hs.2.1; omega, ht, .inl (by have := hs.1; omega)⟩
  | succ m ih =>
    have ho := back_out hw hf hs (m + 1)
    obtain ⟨_, ht, h4⟩ := ahead_out hw hf ho
    have e : (((backB ns o s (m + 1)).toNat : Nat) : Int) = backB ns o s (m + 1) := Int.toNat_of_nonneg ho.1
    refine leastB_zero.2 ⟨(backB ns o s (m + 1)).toNat, by have := ho.2.1; have := ho.1; omega, ht, .inr ⟨?_, h4⟩⟩
    rw [e]
    exact ih

theorem cycle_ok {ns : List Nd} {r : Int} (hw : wfB ns r = true) (h : (orderB ns).length < ns.length) :
    CycOk ns (cycB ns (orderB ns)) ∧ (cycB ns (orderB ns)).length ≤ ns.length ∧ knotB ns = true := by
  have hf := order_fix h
  obtain ⟨k, hk, hk2⟩ := order_some h
  have h0 : Out ns (orderB ns) (firstB (orderB ns) 0 ns.length) := first_out ns.length 0 (by omega) ⟨k, by omega, hk, hk2⟩
  have hs : Out ns (orderB ns) (cycS ns (orderB ns)) := back_out hw hf h0 ns.length
  unfold cycB
  obtain ⟨i, j, hij, hjn, hx⟩ := pigeon ns.length (fun i => backB ns (orderB ns) (firstB (orderB ns) 0 ns.length) i) (fun i => by have := back_out hw hf h0 i; exact ⟨this.1, this.2.1⟩)
  have hper : backB ns (orderB ns) (cycS ns (orderB ns)) (j - i) = cycS ns (orderB ns) := by
    unfold cycS
    rw [← back_add, show ns.length + (j - i) = j + (ns.length - i) by omega, back_add]
    have hx : backB ns (orderB ns) (firstB (orderB ns) 0 ns.length) i = backB ns (orderB ns) (firstB (orderB ns) 0 ns.length) j := hx
    rw [← hx, ← back_add, show i + (ns.length - i) = ns.length by omega]
  generalize cycS ns (orderB ns) = s at hs hper
  obtain ⟨q, ⟨hq0, hq⟩, hmin⟩ := least_nat (p := fun m => 0 < m ∧ backB ns (orderB ns) s m = s) ⟨j - i, by omega, hper⟩
  have hqn : q ≤ ns.length := by
    by_cases e : q ≤ j - i
    · omega
    · exact absurd ⟨by omega, hper⟩ (hmin (j - i) (by omega))
  have hmin' : ∀ m, 0 < m → m < q → backB ns (orderB ns) s m ≠ s := fun m h1 h2 e => hmin m h2 ⟨h1, e⟩
  have hgo := cycGo_itl hq hmin' (ns.length - 1) 0 (by omega) (by omega)
  have e1 : cycGo ns (orderB ns) s (ns.length - 1) [s] (aheadB ns (orderB ns) s) = itl ns (orderB ns) s (q - 1) := hgo
  rw [e1]
  have hlen := itl_len ns (orderB ns) s (q - 1)
  have hnth := itl_nth ns (orderB ns) s (q - 1)
  have hne : ∀ a b, a < b → b < q → backB ns (orderB ns) s a ≠ backB ns (orderB ns) s b := by
    intro a b hab hb e
    have e2 : backB ns (orderB ns) s (a + (q - b)) = s := by
      rw [back_add, e, ← back_add, show b + (q - b) = q by omega, hq]
    exact hmin' (a + (q - b)) (by omega) (by omega) e2
  refine ⟨⟨by omega, ?_, ?_, ?_, ?_, ?_⟩, by omega, ?_⟩
  · intro i hi
    rw [hnth i (by omega)]
    have := back_out hw hf hs (q - 1 - i)
    exact ⟨this.1, this.2.1⟩
  · intro i hi
    rw [hnth i (by omega)]
    have := (ahead_out hw hf (back_out hw hf hs (q - 1 - i))).2.2
    simpa using this
  · intro i hi j hj
    rw [hnth i (by omega), hnth j (by omega)]
    have := hne (q - 1 - i) (q - 1 - j) (by omega) (by omega)
    simpa using this.symm
  · rw [hnth 0 (by omega), hnth ((itl ns (orderB ns) s (q - 1)).length - 1) (by omega), hlen]
    have := (ahead_out hw hf (back_out hw hf hs (q - 1 - 0))).2.1
    have e3 : aheadB ns (orderB ns) (backB ns (orderB ns) s (q - 1 - 0)) = s := by
      have : backB ns (orderB ns) s ((q - 1 - 0) + 1) = s := by rw [show q - 1 - 0 + 1 = q by omega]; exact hq
      exact this
    rw [e3] at this
    rw [show q - 1 - (q - 1 + 1 - 1) = 0 by omega]
    exact this
  · intro i hi
    rw [hnth (i + 1) (by omega), hnth i (by omega)]
    have := (ahead_out hw hf (back_out hw hf hs (q - 1 - (i + 1)))).2.1
    rw [show q - 1 - i = q - 1 - (i + 1) + 1 by omega]
    exact this
  · have ht := least_back hw hf hs (q - 1)
    rw [show q - 1 + 1 = q by omega, hq] at ht
    have e : ((s.toNat : Nat) : Int) = s := Int.toNat_of_nonneg hs.1
    refine knotB_yes (k := s.toNat) (by have := hs.1; have := hs.2.1; omega) ?_
    unfold knotAt
    rw [e, leastB_le ht hqn]
    have := (ahead_out hw hf hs).2.2
    simp [this]

theorem refE_checkE (ns : List Nd) (r : Int) : refE ns r = checkE ns r := by
  unfold refE checkE
  cases hw : wfB ns r with
  | false => rfl
  | true =>
    by_cases h : (orderB ns).length < ns.length
    · simp [h, (cycle_ok hw h).2.2]
    · simp [h, knotB_not h]
theorem checkE_cyc {ns : List Nd} {r : Int} (h : checkE ns r = 2) : CycOk ns (cycB ns (orderB ns)) ∧ (cycB ns (orderB ns)).length ≤ 8 ∧ ns.length ≤ 8 := by
  unfold checkE at h
  split at h
  · rename_i hw
    split at h
    · rename_i ho
      have := cycle_ok hw ho
      have hl := wfB_len hw
      exact ⟨this.1, by omega, hl.2⟩
    · cases h
  · cases h
end Go.Proofs.YtfemleimkbjehaaGreat
namespace Go.Proofs.YtfemleimkbjehaaGreat
set_option linter.unusedVariables false
set_option linter.unusedSimpArgs false
open Go.RowKit

def badNs : List Nd := [⟨0, 0, 0, 0, 0⟩, ⟨3, 0, 4, 0, 0⟩, ⟨1, 1, 0, 1, 0⟩, ⟨2, 2, 0, 2, 0⟩, ⟨1, 3, 0, 0, 0⟩, ⟨6, 2, 0, 1, 0⟩, ⟨7, 5, 0, 0, 0⟩]

theorem bad_cells {w : World} {g : Nat} (h : ∀ j, j < exNs.length → NodeCells w g exNs j) : ∀ j, j < badNs.length →
    NodeCells (((((w.setCell ⟨g, 20, none⟩ (.int .i64 1)).setCell ⟨g, 21, none⟩ (.int .i64 3)).setCell ⟨g, 22, none⟩ (.int .i64 0)).setCell ⟨g, 23, none⟩ (.int .i64 0)).setCell ⟨g, 24, none⟩ (.int .i64 0)) g badNs j := by
  intro j hj
  have hj7 : j < 7 := hj
  by_cases e : j = 4
  · subst e
    obtain ⟨c0, c1, c2, c3, c4⟩ := h 4 (by decide)
    refine ⟨?_, ?_, ?_, ?_, ?_⟩
    · iterate 4 rw [cs_ne]
      · exact cs_eq c0
      all_goals omega
    · iterate 3 rw [cs_ne]
      · exact cs_eq (by rw [cs_ne]; exact c1; omega)
      all_goals omega
    · iterate 2 rw [cs_ne]
      · exact cs_eq (by iterate 2 rw [cs_ne]
                        · exact c2
                        all_goals omega)
      all_goals omega
    · rw [cs_ne]
      · exact cs_eq (by iterate 3 rw [cs_ne]
                        · exact c3
                        all_goals omega)
      all_goals omega
    · exact cs_eq (by iterate 4 rw [cs_ne]
                      · exact c4
                      all_goals omega)
  · have e2 : ndn badNs j = ndn exNs j := by
      match j, hj7, e with
      | 0, _, _ => rfl
      | 1, _, _ => rfl
      | 2, _, _ => rfl
      | 3, _, _ => rfl
      | 5, _, _ => rfl
      | 6, _, _ => rfl
    obtain ⟨c0, c1, c2, c3, c4⟩ := h j hj
    unfold NodeCells
    rw [e2]
    refine ⟨?_, ?_, ?_, ?_, ?_⟩
    · iterate 5 rw [cs_ne]
      · exact c0
      all_goals omega
    · iterate 5 rw [cs_ne]
      · exact c1
      all_goals omega
    · iterate 5 rw [cs_ne]
      · exact c2
      all_goals omega
    · iterate 5 rw [cs_ne]
      · exact c3
      all_goals omega
    · iterate 5 rw [cs_ne]
      · exact c4
      all_goals omega

end Go.Proofs.YtfemleimkbjehaaGreat
