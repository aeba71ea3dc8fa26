import Derived.Test.YtfemleimkbjehaaPureD
import Derived.Test.YtfemleimkbjehaaKeep5
namespace Go.Proofs.Ytfemleimkbjehaa
open Go.RowKit

theorem fit_order {o : List Nd} {r : Int} (h : FitOk o r) : ¬ (orderB o).length < o.length := by
  intro hlt
  have hf := order_fix hlt
  obtain ⟨k, ⟨hk, hk2⟩, hmin⟩ := least_nat (p := fun k => k < o.length ∧ hasB (orderB o) k = false) (order_some hlt)
  have hout : Out o (orderB o) (k : Int) := ⟨by omega, by omega, hk2⟩
  obtain ⟨ho, ht, h4⟩ := ahead_out h.wf hf hout
  rw [Int.toNat_natCast] at ht h4
  rw [takesB_inputs] at ht
  obtain ⟨a, e, ha, hc⟩ := h.low k hk h4 _ (hasB_iff.1 ht)
  have h4a := (ahead_out h.wf hf ho).2.2
  rw [e, Int.toNat_natCast] at h4a
  rcases hc with hc | hc
  · exact h4a hc
  · exact hmin a hc ⟨ha, by have := ho.2.2; rw [e] at this; exact this⟩
theorem fit_check {o : List Nd} {r : Int} (h : FitOk o r) : checkE o r = 0 := by
  unfold checkE; rw [h.wf]; simp [fit_order h]

theorem chain_cut {ns : List Nd} {x y : Nat} {bs : List Nat} : ∀ {ps : List Nat} {n : Int}, Chain ns n (ps ++ y :: bs) x ↔ Chain ns n ps y ∧ y < ns.length ∧ Chain ns (y : Int) bs x := by
  intro ps
  induction ps with
  | nil => intro n; simp only [List.nil_append, Chain]; constructor
           · rintro ⟨h1, h2, h3⟩; exact ⟨h2, h1, h3⟩
           · rintro ⟨h2, h1, h3⟩; exact ⟨h1, h2, h3⟩
  | cons z ps ih => intro n; simp only [List.cons_append, Chain, ih]; constructor
                    · rintro ⟨h1, h2, h3, h4, h5⟩; exact ⟨⟨h1, h2, h3⟩, h4, h5⟩
                    · rintro ⟨⟨h1, h2, h3⟩, h4, h5⟩; exact ⟨h1, h2, h3, h4, h5⟩
theorem cost_app (ns : List Nd) (ps bs : List Nat) : cost ns (ps ++ bs) = cost ns ps + cost ns bs := by
  induction ps with
  | nil => simp [cost]
  | cons a ps ih => simp only [List.cons_append, cost, ih]; omega
theorem chain_lt {ns : List Nd} {x : Nat} : ∀ {ys : List Nat} {n : Int}, Chain ns n ys x → ∀ y ∈ ys, y < ns.length := by
  intro ys
  induction ys with
  | nil => intro n _ y hy; simp at hy
  | cons z ys ih =>
    rintro n ⟨h1, _, h3⟩ y hy
    simp at hy
    rcases hy with rfl | hy
    · exact h1
    · exact ih h3 y hy
theorem dup_split {ys : List Nat} (h : ¬ ys.Nodup) : ∃ y ps bs cs, ys = ps ++ y :: (bs ++ y :: cs) := by
  induction ys with
  | nil => exact absurd List.nodup_nil h
  | cons z ys ih =>
    by_cases hz : z ∈ ys
    · obtain ⟨bs, cs, rfl⟩ := List.append_of_mem hz
      exact ⟨z, [], bs, cs, rfl⟩
    · obtain ⟨y, ps, bs, cs, rfl⟩ := ih (fun hn => h (List.nodup_cons.2 ⟨hz, hn⟩))
      exact ⟨y, z :: ps, bs, cs, rfl⟩
theorem nodup_leN : ∀ {xs ys : List Nat}, xs.Nodup → (∀ x ∈ xs, x ∈ ys) → xs.length ≤ ys.length := by
  intro xs
  induction xs with
  | nil => intro ys _ _; simp
  | cons x l ih =>
    intro ys hn hs
    have hx : x ∈ ys := hs x (by simp)
    have := ih (ys := ys.erase x) (List.nodup_cons.1 hn).2 (by
      intro y hy
      have hne : y ≠ x := by intro e; subst e; exact (List.nodup_cons.1 hn).1 hy
      exact (List.mem_erase_of_ne hne).2 (hs y (by simp [hy])))
    rw [List.length_erase_of_mem hx] at this
    have hpos : 0 < ys.length := List.length_pos_of_mem hx
    simp; omega
/-- A way that is no longer than there are nodes, and has no more Backs. -/
theorem shorten {ns : List Nd} {x : Nat} (hx : x < ns.length) {n : Int} : ∀ (m : Nat) (ys : List Nat), ys.length ≤ m → Chain ns n ys x → ∃ zs, Chain ns n zs x ∧ zs.length + 1 ≤ ns.length ∧ cost ns zs ≤ cost ns ys := by
  intro m
  induction m with
  | zero =>
    intro ys hm hc
    have : ys = [] := List.eq_nil_of_length_eq_zero (by omega)
    subst this
    exact ⟨[], hc, by simp; omega, Int.le_refl _⟩
  | succ m ih =>
    intro ys hm hc
    by_cases hl : ys.length + 1 ≤ ns.length
    · exact ⟨ys, hc, hl, Int.le_refl _⟩
    · by_cases hxy : x ∈ ys
      · obtain ⟨ps, bs, rfl⟩ := List.append_of_mem hxy
        obtain ⟨c1, _, _⟩ := chain_cut.1 hc
        obtain ⟨zs, g1, g2, g3⟩ := ih ps (by simp at hm; omega) c1
        refine ⟨zs, g1, g2, ?_⟩
        rw [cost_app]
        have := cost_nonneg ns (x :: bs)
        omega
      · have hnd : ¬ ys.Nodup := by
          intro hn
          have := nodup_leN (xs := x :: ys) (ys := List.range ns.length) (List.nodup_cons.2 ⟨hxy, hn⟩) (by
            intro y hy
            rw [List.mem_range]
            simp at hy
            rcases hy with rfl | hy
            · exact hx
            · exact chain_lt hc y hy)
          simp at this
          omega
        obtain ⟨y, ps, bs, cs, rfl⟩ := dup_split hnd
        obtain ⟨c1, c2, c3⟩ := chain_cut.1 hc
        obtain ⟨_, _, c5⟩ := chain_cut.1 c3
        obtain ⟨zs, g1, g2, g3⟩ := ih (ps ++ y :: cs) (by simp at hm ⊢; omega) (chain_cut.2 ⟨c1, c2, c5⟩)
        refine ⟨zs, g1, g2, Int.le_trans g3 ?_⟩
        rw [cost_app, cost_app]
        simp only [cost]
        rw [cost_app]
        simp only [cost]
        have := cost_nonneg ns bs
        have := back1_bd ns y
        omega

/-- Over any node between it is at least ps far. -/
theorem triangle {ns : List Nd} {k x : Nat} {n : Int} (hk : k < ns.length) (hx : x < ns.length) (h1 : 0 ≤ leastB ns k ns.length n) (h2 : 0 ≤ leastB ns x ns.length k) :
    0 ≤ leastB ns x ns.length n ∧ leastB ns x ns.length n ≤ leastB ns k ns.length n + back1 ns k + leastB ns x ns.length k := by
  rcases leastB_min hk ns.length n with ⟨e, _⟩ | ⟨_, ⟨zs, z1, _, z3⟩, _⟩
  · omega
  rcases leastB_min hx ns.length (k : Int) with ⟨e, _⟩ | ⟨_, ⟨ys, y1, _, y3⟩, _⟩
  · omega
  have hc : Chain ns n (zs ++ k :: ys) x := chain_cut.2 ⟨z1, hk, y1⟩
  obtain ⟨us, u1, u2, u3⟩ := shorten hx _ _ (Nat.le_refl _) hc
  rcases leastB_min hx ns.length n with ⟨_, g⟩ | ⟨g0, _, g⟩
  · exact absurd u2 (g us u1)
  · refine ⟨g0, ?_⟩
    have := g us u1 u2
    rw [cost_app] at u3
    simp only [cost] at u3
    omega
theorem own_not {o : List Nd} {r : Int} (h : FitOk o r) {n : Nat} (_hn : n < o.length) (h4 : (ndn o n).kind ≠ 4) : leastB o n o.length n ≠ 0 := by
  intro e
  exact absurd (least_rank (ordTo_ok o o.length) (order_all (fit_order h)) h4 o.length _ e) (Nat.lt_irrefl _)
end Go.Proofs.Ytfemleimkbjehaa
