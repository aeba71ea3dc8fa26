import Derived.Test.YtfemleimkbjehaaRef6
namespace Go.Proofs.Ytfemleimkbjehaa
open Go.RowKit

theorem hasB_iff {xs : List Int} {n : Int} : hasB xs n = true ↔ n ∈ xs := by simp [hasB]
theorem hasB_false {xs : List Int} {n : Int} : hasB xs n = false ↔ n ∉ xs := by rw [← Bool.not_eq_true, hasB_iff]

theorem nodup_le : ∀ {xs ys : List Int}, xs.Nodup → (∀ x ∈ xs, x ∈ ys) → xs.length ≤ ys.length := by
  intro xs
  induction xs with
  | nil => intro ys _ _; simp
  | cons x l ih =>
    intro ys hn hs
    have hx : x ∈ ys := hs x (by simp)
    have := ih (ys := ys.erase x) (List.nodup_cons.1 hn).2 (by
      intro y hy
      have hne : y ≠ x := by intro e; subst e; exact (List.nodup_cons.1 hn).1 hy
      exact (List.mem_erase_of_ne hne).2 (hs y (by simp [hy])))
    rw [List.length_erase_of_mem hx] at this
    have hpos : 0 < ys.length := List.length_pos_of_mem hx
    simp; omega

/-- The numbers from 0 on, n of them. -/
def upto (n : Nat) : List Int := (List.range n).map Int.ofNat
theorem mem_upto {n : Nat} {z : Int} : z ∈ upto n ↔ 0 ≤ z ∧ z < n := by
  unfold upto
  rw [List.mem_map]
  constructor
  · rintro ⟨k, hk, rfl⟩; rw [List.mem_range] at hk; simp; omega
  · rintro ⟨h0, h1⟩; exact ⟨z.toNat, List.mem_range.2 (by omega), by simp; omega⟩
theorem upto_len (n : Nat) : (upto n).length = n := by simp [upto]
theorem upto_nodup (n : Nat) : (upto n).Nodup := by
  unfold upto
  rw [List.nodup_iff_pairwise_ne] at *
  rw [List.pairwise_map]
  exact List.Pairwise.imp (fun h e => h (Int.ofNat.inj e)) (List.nodup_iff_pairwise_ne.1 List.nodup_range)

/-- What holds of an order at every stage of its making. -/
structure OrdOk (ns : List Nd) (o : List Int) : Prop where
  nodup : o.Nodup
  range : ∀ z ∈ o, 0 ≤ z ∧ z < ns.length
  before : ∀ i, i < o.length → canFollowB (o.take i) (ndn ns (nth o i).toNat) = true

theorem OrdOk.nil (ns : List Nd) : OrdOk ns [] := ⟨List.nodup_nil, by simp, by simp⟩
theorem OrdOk.snoc {ns : List Nd} {o : List Int} (h : OrdOk ns o) {k : Nat} (hk : k < ns.length) (h1 : hasB o k = false) (h2 : canFollowB o (ndn ns k) = true) : OrdOk ns (o ++ [(k : Int)]) := by
  refine ⟨?_, ?_, ?_⟩
  · rw [List.nodup_append]
    refine ⟨h.nodup, by simp, ?_⟩
    intro a ha b hb e
    simp at hb
    subst hb; subst e
    exact hasB_false.1 h1 ha
  · intro z hz
    rw [List.mem_append] at hz
    rcases hz with hz | hz
    · exact h.range z hz
    · simp at hz; subst hz; omega
  · intro i hi
    by_cases e : i < o.length
    · rw [List.take_append_of_le_length (by omega), nth_lt hi, List.getElem_append_left e, ← nth_lt e]
      exact h.before i e
    · simp at hi
      have : i = o.length := by omega
      subst this
      rw [nth_lt (by simp), List.take_left]
      simpa using h2
theorem passTo_ok {ns : List Nd} {o : List Int} (h : OrdOk ns o) : ∀ k, k ≤ ns.length → OrdOk ns (passTo ns o k) := by
  intro k hk
  induction k with
  | zero => exact h
  | succ k ih =>
    have ih := ih (by omega)
    cases h1 : hasB (passTo ns o k) k with
    | true => rw [passTo_has h1]; exact ih
    | false =>
      cases h2 : canFollowB (passTo ns o k) (ndn ns k) with
      | false => rw [passTo_not h2]; exact ih
      | true => rw [passTo_add h1 h2]; exact ih.snoc (by omega) h1 h2
theorem ordTo_ok (ns : List Nd) (p : Nat) : OrdOk ns (ordTo ns p) := by
  induction p with
  | zero => exact OrdOk.nil ns
  | succ p ih => unfold ordTo; exact passTo_ok ih _ (Nat.le_refl _)

/-- Nothing more can be placed. -/
def Fix (ns : List Nd) (o : List Int) : Prop := ∀ k, k < ns.length → hasB o k = true ∨ canFollowB o (ndn ns k) = false
theorem passTo_fix {ns : List Nd} {o : List Int} (h : Fix ns o) : ∀ k, k ≤ ns.length → passTo ns o k = o := by
  intro k hk
  induction k with
  | zero => rfl
  | succ k ih =>
    have ih := ih (by omega)
    rcases h k (by omega) with h1 | h1
    · rw [passTo_has (by rw [ih]; exact h1), ih]
    · rw [passTo_not (by rw [ih]; exact h1), ih]
theorem passTo_mono (ns : List Nd) (o : List Int) (k : Nat) : o.length ≤ (passTo ns o k).length := by
  induction k with
  | zero => exact Nat.le_refl _
  | succ k ih =>
    unfold passTo; split
    · simp; omega
    · exact ih
theorem passTo_same {ns : List Nd} {o : List Int} : ∀ k, (passTo ns o k).length = o.length → passTo ns o k = o ∧ ∀ j, j < k → hasB o j = true ∨ canFollowB o (ndn ns j) = false := by
  intro k
  induction k with
  | zero => intro _; exact ⟨rfl, by intro j hj; omega⟩
  | succ k ih =>
    intro hl
    have hm := passTo_mono ns o k
    cases h1 : hasB (passTo ns o k) k with
    | true =>
      rw [passTo_has h1] at hl ⊢
      obtain ⟨e, hj⟩ := ih hl
      refine ⟨e, fun j hjk => ?_⟩
      by_cases ej : j = k
      · subst ej; rw [e] at h1; exact .inl h1
      · exact hj j (by omega)
    | false =>
      cases h2 : canFollowB (passTo ns o k) (ndn ns k) with
      | false =>
        rw [passTo_not h2] at hl ⊢
        obtain ⟨e, hj⟩ := ih hl
        refine ⟨e, fun j hjk => ?_⟩
        by_cases ej : j = k
        · subst ej; rw [e] at h2; exact .inr h2
        · exact hj j (by omega)
      | true =>
        rw [passTo_add h1 h2] at hl
        simp at hl; omega
theorem ordTo_fix (ns : List Nd) (p : Nat) : p ≤ (ordTo ns p).length ∨ Fix ns (ordTo ns p) := by
  induction p with
  | zero => exact .inl (Nat.zero_le _)
  | succ p ih =>
    unfold ordTo
    have hm := passTo_mono ns (ordTo ns p) ns.length
    by_cases e : (passTo ns (ordTo ns p) ns.length).length = (ordTo ns p).length
    · obtain ⟨e1, hf⟩ := passTo_same _ e
      rw [e1]; exact .inr hf
    · rcases ih with ih | ih
      · exact .inl (by omega)
      · exact absurd (by rw [passTo_fix ih _ (Nat.le_refl _)]) e

theorem order_all {ns : List Nd} (h : ¬ (orderB ns).length < ns.length) : ∀ k, k < ns.length → hasB (orderB ns) k = true := by
  intro k hk
  cases hh : hasB (orderB ns) k with
  | true => rfl
  | false =>
    have ok := ordTo_ok ns ns.length
    have := nodup_le (xs := (k : Int) :: orderB ns) (ys := upto ns.length) (List.nodup_cons.2 ⟨hasB_false.1 hh, ok.nodup⟩) (by
      intro z hz
      rw [List.mem_cons] at hz
      rcases hz with rfl | hz
      · exact mem_upto.2 (by omega)
      · exact mem_upto.2 (ok.range z hz))
    rw [upto_len] at this
    simp at this
    omega
theorem order_some {ns : List Nd} (h : (orderB ns).length < ns.length) : ∃ k, k < ns.length ∧ hasB (orderB ns) k = false := by
  by_cases hx : ∃ k, k < ns.length ∧ hasB (orderB ns) k = false
  · exact hx
  · have := nodup_le (xs := upto ns.length) (ys := orderB ns) (upto_nodup _) (by
      intro z hz
      obtain ⟨h0, h1⟩ := mem_upto.1 hz
      cases hh : hasB (orderB ns) z with
      | true => exact hasB_iff.1 hh
      | false => exact absurd ⟨z.toNat, by omega, by rw [Int.toNat_of_nonneg h0]; exact hh⟩ hx)
    rw [upto_len] at this
    omega
theorem order_fix {ns : List Nd} (h : (orderB ns).length < ns.length) : Fix ns (orderB ns) := by
  rcases ordTo_fix ns ns.length with h1 | h1
  · unfold orderB at h; omega
  · exact h1
end Go.Proofs.Ytfemleimkbjehaa
