import Derived.Test.YtfemleimkbjehaaPure3
namespace Go.Proofs.Ytfemleimkbjehaa
open Go.RowKit

/-- From s so many steps back, the furthest first. -/
def itl (ns : List Nd) (o : List Int) (s : Int) : Nat → List Int
  | 0 => [s]
  | j + 1 => backB ns o s (j + 1) :: itl ns o s j
theorem itl_len (ns : List Nd) (o : List Int) (s : Int) (j : Nat) : (itl ns o s j).length = j + 1 := by
  induction j with
  | zero => rfl
  | succ j ih => simp [itl, ih]
theorem itl_nth (ns : List Nd) (o : List Int) (s : Int) (j : Nat) : ∀ i, i ≤ j → nth (itl ns o s j) i = backB ns o s (j - i) := by
  induction j with
  | zero => intro i hi; have : i = 0 := by omega
            subst this; rfl
  | succ j ih =>
    intro i hi
    cases i with
    | zero => rfl
    | succ i =>
      have := ih i (by omega)
      rw [show j + 1 - (i + 1) = j - i by omega, ← this]
      rfl

theorem cycGo_itl {ns : List Nd} {o : List Int} {s : Int} {q : Nat} (hq : backB ns o s q = s) (hmin : ∀ m, 0 < m → m < q → backB ns o s m ≠ s) : ∀ f j, j + 1 ≤ q → q ≤ j + 1 + f → cycGo ns o s f (itl ns o s j) (backB ns o s (j + 1)) = itl ns o s (q - 1) := by
  intro f
  induction f with
  | zero => intro j h1 h2; have : q - 1 = j := by omega
            rw [this]; rfl
  | succ f ih =>
    intro j h1 h2
    by_cases e : j + 1 = q
    · rw [e, cycGo_stop (by rw [hq]; simp), ← e]; rfl
    · rw [cycGo_on (by simpa using hmin (j + 1) (by omega) (by omega))]
      exact ih (j + 1) (by omega) (by omega)

theorem least_back {ns : List Nd} {r : Int} (hw : wfB ns r = true) {o : List Int} (hf : Fix ns o) {s : Int} (hs : Out ns o s) : ∀ m, leastB ns s (m + 1) (backB ns o s (m + 1)) = 0 := by
  intro m
  induction m with
  | zero =>
    obtain ⟨_, ht, _⟩ := ahead_out hw hf hs
    exact leastB_zero.2 ⟨s.toNat, by have := hs.1; have := hs.2.1; omega, ht, .inl (by have := hs.1; omega)⟩
  | succ m ih =>
    have ho := back_out hw hf hs (m + 1)
    obtain ⟨_, ht, h4⟩ := ahead_out hw hf ho
    have e : (((backB ns o s (m + 1)).toNat : Nat) : Int) = backB ns o s (m + 1) := Int.toNat_of_nonneg ho.1
    refine leastB_zero.2 ⟨(backB ns o s (m + 1)).toNat, by have := ho.2.1; have := ho.1; omega, ht, .inr ⟨?_, h4⟩⟩
    rw [e]
    exact ih

theorem cycle_ok {ns : List Nd} {r : Int} (hw : wfB ns r = true) (h : (orderB ns).length < ns.length) :
    CycOk ns (cycB ns (orderB ns)) ∧ (cycB ns (orderB ns)).length ≤ ns.length ∧ knotB ns = true := by
  have hf := order_fix h
  obtain ⟨k, hk, hk2⟩ := order_some h
  have h0 : Out ns (orderB ns) (firstB (orderB ns) 0 ns.length) := first_out ns.length 0 (by omega) ⟨k, by omega, hk, hk2⟩
  have hs : Out ns (orderB ns) (cycS ns (orderB ns)) := back_out hw hf h0 ns.length
  unfold cycB
  obtain ⟨i, j, hij, hjn, hx⟩ := pigeon ns.length (fun i => backB ns (orderB ns) (firstB (orderB ns) 0 ns.length) i) (fun i => by have := back_out hw hf h0 i; exact ⟨this.1, this.2.1⟩)
  have hper : backB ns (orderB ns) (cycS ns (orderB ns)) (j - i) = cycS ns (orderB ns) := by
    unfold cycS
    rw [← back_add, show ns.length + (j - i) = j + (ns.length - i) by omega, back_add]
    have hx : backB ns (orderB ns) (firstB (orderB ns) 0 ns.length) i = backB ns (orderB ns) (firstB (orderB ns) 0 ns.length) j := hx
    rw [← hx, ← back_add, show i + (ns.length - i) = ns.length by omega]
  generalize cycS ns (orderB ns) = s at hs hper
  obtain ⟨q, ⟨hq0, hq⟩, hmin⟩ := least_nat (p := fun m => 0 < m ∧ backB ns (orderB ns) s m = s) ⟨j - i, by omega, hper⟩
  have hqn : q ≤ ns.length := by
    by_cases e : q ≤ j - i
    · omega
    · exact absurd ⟨by omega, hper⟩ (hmin (j - i) (by omega))
  have hmin' : ∀ m, 0 < m → m < q → backB ns (orderB ns) s m ≠ s := fun m h1 h2 e => hmin m h2 ⟨h1, e⟩
  have hgo := cycGo_itl hq hmin' (ns.length - 1) 0 (by omega) (by omega)
  have e1 : cycGo ns (orderB ns) s (ns.length - 1) [s] (aheadB ns (orderB ns) s) = itl ns (orderB ns) s (q - 1) := hgo
  rw [e1]
  have hlen := itl_len ns (orderB ns) s (q - 1)
  have hnth := itl_nth ns (orderB ns) s (q - 1)
  have hne : ∀ a b, a < b → b < q → backB ns (orderB ns) s a ≠ backB ns (orderB ns) s b := by
    intro a b hab hb e
    have e2 : backB ns (orderB ns) s (a + (q - b)) = s := by
      rw [back_add, e, ← back_add, show b + (q - b) = q by omega, hq]
    exact hmin' (a + (q - b)) (by omega) (by omega) e2
  refine ⟨⟨by omega, ?_, ?_, ?_, ?_, ?_⟩, by omega, ?_⟩
  · intro i hi
    rw [hnth i (by omega)]
    have := back_out hw hf hs (q - 1 - i)
    exact ⟨this.1, this.2.1⟩
  · intro i hi
    rw [hnth i (by omega)]
    have := (ahead_out hw hf (back_out hw hf hs (q - 1 - i))).2.2
    simpa using this
  · intro i hi j hj
    rw [hnth i (by omega), hnth j (by omega)]
    have := hne (q - 1 - i) (q - 1 - j) (by omega) (by omega)
    simpa using this.symm
  · rw [hnth 0 (by omega), hnth ((itl ns (orderB ns) s (q - 1)).length - 1) (by omega), hlen]
    have := (ahead_out hw hf (back_out hw hf hs (q - 1 - 0))).2.1
    have e3 : aheadB ns (orderB ns) (backB ns (orderB ns) s (q - 1 - 0)) = s := by
      have : backB ns (orderB ns) s ((q - 1 - 0) + 1) = s := by rw [show q - 1 - 0 + 1 = q by omega]; exact hq
      exact this
    rw [e3] at this
    rw [show q - 1 - (q - 1 + 1 - 1) = 0 by omega]
    exact this
  · intro i hi
    rw [hnth (i + 1) (by omega), hnth i (by omega)]
    have := (ahead_out hw hf (back_out hw hf hs (q - 1 - (i + 1)))).2.1
    rw [show q - 1 - i = q - 1 - (i + 1) + 1 by omega]
    exact this
  · have ht := least_back hw hf hs (q - 1)
    rw [show q - 1 + 1 = q by omega, hq] at ht
    have e : ((s.toNat : Nat) : Int) = s := Int.toNat_of_nonneg hs.1
    refine knotB_yes (k := s.toNat) (by have := hs.1; have := hs.2.1; omega) ?_
    unfold knotAt
    rw [e, leastB_le ht hqn]
    have := (ahead_out hw hf hs).2.2
    simp [this]

theorem refE_checkE (ns : List Nd) (r : Int) : refE ns r = checkE ns r := by
  unfold refE checkE
  cases hw : wfB ns r with
  | false => rfl
  | true =>
    by_cases h : (orderB ns).length < ns.length
    · simp [h, (cycle_ok hw h).2.2]
    · simp [h, knotB_not h]
theorem checkE_cyc {ns : List Nd} {r : Int} (h : checkE ns r = 2) : CycOk ns (cycB ns (orderB ns)) ∧ (cycB ns (orderB ns)).length ≤ 8 ∧ ns.length ≤ 8 := by
  unfold checkE at h
  split at h
  · rename_i hw
    split at h
    · rename_i ho
      have := cycle_ok hw ho
      have hl := wfB_len hw
      exact ⟨this.1, by omega, hl.2⟩
    · cases h
  · cases h
end Go.Proofs.Ytfemleimkbjehaa
