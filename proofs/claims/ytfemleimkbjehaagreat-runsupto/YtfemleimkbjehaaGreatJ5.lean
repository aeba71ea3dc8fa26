import Derived.Test.YtfemleimkbjehaaGreatJ4
import Derived.Deep.RegionLaw
set_option maxRecDepth 1000000
set_option maxHeartbeats 40000000
set_option linter.unusedVariables false
set_option linter.unusedSimpArgs false
namespace Go.Proofs.YtfemleimkbjehaaGreat
open Go.RowKit
theorem dB_zero {ns : List Nd} {x : Int} {f : Int → Int} {k : Nat} : dB ns x f k = 0 ↔ (k : Int) = x ∨ (f k = 0 ∧ (qT ns k).kind ≠ 4) := by
  unfold dB
  split
  · simp [*]
  · rename_i h
    split
    · rename_i h1; constructor
      · intro h2; omega
      · rintro (h2 | ⟨_, h2⟩)
        · exact absurd h2 h
        · exact absurd h1.2 h2
    · rename_i h1; constructor
      · intro h2; exact .inr ⟨h2, fun h4 => h1 ⟨by omega, h4⟩⟩
      · rintro (h2 | ⟨h2, _⟩)
        · exact absurd h2 h
        · exact h2
theorem dB_lo {ns : List Nd} {x : Int} {f : Int → Int} {k : Nat} (hf : ∀ y, -1 ≤ f y) : -1 ≤ dB ns x f k := by
  have := hf k
  unfold dB; split
  · omega
  · split <;> omega
theorem stepB_zero {best d : Int} (h1 : -1 ≤ best) (_h2 : -1 ≤ d) : stepB best d = 0 ↔ d = 0 ∨ best = 0 := by
  unfold stepB; split <;> omega
theorem stepB_lo {best d : Int} (h1 : -1 ≤ best) : -1 ≤ stepB best d := by unfold stepB; split <;> omega
theorem leastTo_lo {ns : List Nd} {f : Int → Int} {n x : Int} (k : Nat) : -1 ≤ leastTo ns f n x k := by
  induction k with
  | zero => simp [leastTo]
  | succ k ih => unfold leastTo; split
                 · exact stepB_lo ih
                 · exact ih
theorem leastTo_zero {ns : List Nd} {f : Int → Int} {n x : Int} (hf : ∀ y, -1 ≤ f y) (K : Nat) : leastTo ns f n x K = 0 ↔ ∃ y, y < K ∧ kZ (qT ns y) n = true ∧ dB ns x f y = 0 := by
  induction K with
  | zero => simp [leastTo]
  | succ K ih =>
    have step : (∃ y, y < K + 1 ∧ kZ (qT ns y) n = true ∧ dB ns x f y = 0) ↔ (kZ (qT ns K) n = true ∧ dB ns x f K = 0) ∨ ∃ y, y < K ∧ kZ (qT ns y) n = true ∧ dB ns x f y = 0 := by
      constructor
      · rintro ⟨y, hy, h⟩
        by_cases e : y = K
        · subst e; exact .inl h
        · exact .inr ⟨y, by omega, h⟩
      · rintro (h | ⟨y, hy, h⟩)
        · exact ⟨K, by omega, h⟩
        · exact ⟨y, by omega, h⟩
    rw [step, ← ih]
    cases ht : kZ (qT ns K) n with
    | false => rw [leastTo_skip ht]; simp
    | true => rw [zY ht, stepB_zero (leastTo_lo K) (dB_lo hf)]; simp
theorem leastB_lo (ns : List Nd) (x : Int) (s : Nat) : ∀ n, -1 ≤ jJ ns x s n := fun n => (leastB_bd ns x s n).1
theorem leastB_zero {ns : List Nd} {x n : Int} {s : Nat} : jJ ns x (s + 1) n = 0 ↔ ∃ y, y < ns.length ∧ kZ (qT ns y) n = true ∧ ((y : Int) = x ∨ (jJ ns x s y = 0 ∧ (qT ns y).kind ≠ 4)) := by
  rw [jJ, leastTo_zero (leastB_lo ns x s)]
  constructor
  · rintro ⟨y, hy, ht, hd⟩; exact ⟨y, hy, ht, dB_zero.1 hd⟩
  · rintro ⟨y, hy, ht, hd⟩; exact ⟨y, hy, ht, dB_zero.2 hd⟩
theorem leastB_mono {ns : List Nd} {x : Int} {s : Nat} : ∀ n, jJ ns x s n = 0 → jJ ns x (s + 1) n = 0 := by
  induction s with
  | zero => intro n h; simp [jJ] at h
  | succ s ih =>
    intro n h
    obtain ⟨y, hy, ht, hd⟩ := leastB_zero.1 h
    refine leastB_zero.2 ⟨y, hy, ht, ?_⟩
    rcases hd with hd | ⟨hd, h4⟩
    · exact .inl hd
    · exact .inr ⟨ih _ hd, h4⟩
theorem leastB_le {ns : List Nd} {x n : Int} {s t : Nat} (h : jJ ns x s n = 0) (hst : s ≤ t) : jJ ns x t n = 0 := by
  induction t with
  | zero => have : s = 0 := by omega
            subst this; exact h
  | succ t ih =>
    by_cases e : s = t + 1
    · subst e; exact h
    · exact leastB_mono _ (ih (by omega))
def rank (o : List Int) (z : Int) : Nat := o.idxOf z
theorem rank_take {o : List Int} {z : Int} {i : Nat} (h : z ∈ o.take i) : rank o z < i := by
  unfold rank
  have h1 : List.idxOf z (o.take i) < (o.take i).length := List.idxOf_lt_length_iff.2 h
  have h2 : List.idxOf z o = List.idxOf z (o.take i) := by
    conv => lhs; rw [← List.take_append_drop i o]
    rw [List.idxOf_append, if_pos h]
  rw [h2]
  rw [List.length_take] at h1
  omega
theorem rank_lt {ns : List Nd} {o : List Int} (ok : OrdOk ns o) {y : Nat} {n : Int} (hy : vY o y = true) (ht : kZ (qT ns y) n = true) (h4 : (qT ns y).kind ≠ 4) : rank o n < rank o y := by
  have hm := hasB_iff.1 hy
  have hr : rank o y < o.length := List.idxOf_lt_length_iff.2 hm
  have hb := ok.before (rank o y) hr
  have he : jD o (rank o y) = y := by rw [zP hr]; exact List.getElem_idxOf hr
  rw [he, Int.toNat_natCast] at hb
  refine rank_take (hasB_iff.1 ?_)
  unfold kZ at ht
  unfold jK at hb
  simp at ht hb
  rcases hb with (hb | hb) | hb
  · exact absurd hb ht.1
  · exact absurd hb h4
  · split at hb
    · rename_i h3
      rcases ht.2 with h | ⟨_, h⟩
      · rw [← h]; exact hb.1
      · rw [← h]; exact hb.2
    · rename_i h3
      rcases ht.2 with h | ⟨h, _⟩
      · rw [← h]; exact hb
      · exact absurd h h3
theorem least_rank {ns : List Nd} {o : List Int} (ok : OrdOk ns o) (hall : ∀ k, k < ns.length → vY o k = true) {x : Nat} (h4 : (qT ns x).kind ≠ 4) (s : Nat) : ∀ n, jJ ns x s n = 0 → rank o n < rank o x := by
  induction s with
  | zero => intro n h; simp [jJ] at h
  | succ s ih =>
    intro n h
    obtain ⟨y, hy, ht, hd⟩ := leastB_zero.1 h
    rcases hd with hd | ⟨hd, hy4⟩
    · have : y = x := by omega
      subst this
      exact rank_lt ok (hall _ hy) ht h4
    · exact Nat.lt_trans (rank_lt ok (hall _ hy) ht hy4) (ih _ hd)
theorem knotB_not {ns : List Nd} (h : ¬ (kW ns).length < ns.length) : knotB ns = false := by
  refine knotB_no fun k hk => ?_
  cases hn : knotAt ns k with
  | false => rfl
  | true =>
    simp [knotAt] at hn
    exact absurd (least_rank (ordTo_ok ns ns.length) (order_all h) hn.2 ns.length _ hn.1) (Nat.lt_irrefl _)
def Out (ns : List Nd) (o : List Int) (z : Int) : Prop := 0 ≤ z ∧ z < ns.length ∧ vY o z = false
theorem wfTo_get {ns : List Nd} {n : Nat} (h : wfTo ns n = true) : ∀ k, k < n → kX ns (qT ns k) = true := by
  induction n with
  | zero => intro k hk; omega
  | succ n ih =>
    intro k hk
    unfold wfTo at h
    simp at h
    by_cases e : k = n
    · subst e; exact h.2
    · exact ih h.1 k (by omega)
theorem wf_input {ns : List Nd} {r : Int} (h : wfB ns r = true) {k : Nat} (hk : k < ns.length) {n : Int} (hn : n ∈ kT (qT ns k)) : 0 ≤ n ∧ n < ns.length := by
  have h1 : wfTo ns ns.length = true := by simp [wfB] at h; exact h.1.2
  have h2 := wfTo_get h1 k hk
  rw [vH] at h2
  simp only [Bool.and_eq_true] at h2
  have h3 := h2.2
  unfold inB at h3
  rw [List.all_eq_true] at h3
  have := h3 n hn
  simp [yW] at this
  exact isNodeB_iff.1 this.1
theorem ahead_out {ns : List Nd} {r : Int} (hw : wfB ns r = true) {o : List Int} (hf : Fix ns o) {z : Int} (hz : Out ns o z) :
    Out ns o (uQ ns o z) ∧ kZ (qT ns z.toNat) (uQ ns o z) = true ∧ (qT ns z.toNat).kind ≠ 4 := by
  obtain ⟨h0, h1, h2⟩ := hz
  obtain ⟨k, rfl⟩ := Int.eq_ofNat_of_zero_le h0
  rw [Int.toNat_natCast]
  have hk : k < ns.length := by omega
  have hi := @wf_input ns r hw k hk
  have hc : jK o (qT ns k) = false := by
    rcases hf k hk with h | h
    · rw [h2] at h; cases h
    · exact h
  have hnode : kM ns.length (k : Int) = true := isNodeB_iff.2 ⟨h0, h1⟩
  unfold jK at hc
  simp only [Bool.or_eq_false_iff] at hc
  obtain ⟨⟨hc0, hc4⟩, hc3⟩ := hc
  have k0 : (qT ns k).kind ≠ 0 := by simpa using hc0
  have k4 : (qT ns k).kind ≠ 4 := by simpa using hc4
  unfold uQ
  rw [hnode, Int.toNat_natCast]
  simp only [if_true]
  by_cases e3 : (qT ns k).kind = 3
  · have hin : kT (qT ns k) = [(qT ns k).a, (qT ns k).b] := inputsL_3 e3
    simp only [e3, beq_self_eq_true, if_true] at hc3
    cases ha : vY o (qT ns k).a with
    | true =>
      rw [ha] at hc3
      simp only [Bool.true_and] at hc3
      simp only [e3, beq_self_eq_true, Bool.true_and, if_true]
      have hr := hi (n := (qT ns k).b) (by rw [hin]; simp)
      exact ⟨⟨hr.1, hr.2, hc3⟩, by simp [kZ, e3], by omega⟩
    | false =>
      have hr := hi (n := (qT ns k).a) (by rw [hin]; simp)
      simp only [Bool.and_false, Bool.false_eq_true, if_false]
      exact ⟨⟨hr.1, hr.2, ha⟩, by simp [kZ, e3], by omega⟩
  · have hb3 : ((qT ns k).kind == 3) = false := by simpa using e3
    rw [hb3] at hc3 ⊢
    simp only [Bool.false_eq_true, if_false, Bool.false_and] at hc3 ⊢
    have hin : kT (qT ns k) = [(qT ns k).a] := inputsL_1 k0 e3
    have hr := hi (n := (qT ns k).a) (by rw [hin]; simp)
    exact ⟨⟨hr.1, hr.2, hc3⟩, by simp [kZ, k0], k4⟩
theorem back_add (ns : List Nd) (o : List Int) (n : Int) (i j : Nat) : zL ns o n (i + j) = zL ns o (zL ns o n i) j := by
  induction j with
  | zero => rfl
  | succ j ih => rw [← Nat.add_assoc]; unfold zL; rw [ih]
theorem back_out {ns : List Nd} {r : Int} (hw : wfB ns r = true) {o : List Int} (hf : Fix ns o) {z : Int} (hz : Out ns o z) (k : Nat) : Out ns o (zL ns o z k) := by
  induction k with
  | zero => exact hz
  | succ k ih => unfold zL; exact (ahead_out hw hf ih).1
theorem first_out {ns : List Nd} {o : List Int} : ∀ f k, k + f = ns.length → (∃ j, k ≤ j ∧ j < ns.length ∧ vY o j = false) → Out ns o (yQ o k f) := by
  intro f
  induction f with
  | zero => rintro k hk ⟨j, h1, h2, _⟩; omega
  | succ f ih =>
    rintro k hk ⟨j, h1, h2, h3⟩
    cases hh : vY o k with
    | false => rw [firstB_hit hh]; exact ⟨by omega, by omega, hh⟩
    | true =>
      rw [firstB_skip hh]
      refine ih (k + 1) (by omega) ⟨j, ?_, h2, h3⟩
      by_cases e : j = k
      · subst e; rw [hh] at h3; cases h3
      · omega
theorem pigeon (n : Nat) (x : Nat → Int) (h : ∀ i, 0 ≤ x i ∧ x i < n) : ∃ i j, i < j ∧ j ≤ n ∧ x i = x j := by
  by_cases hx : ∃ i j, i < j ∧ j ≤ n ∧ x i = x j
  · exact hx
  · have hn : ((List.range (n + 1)).map x).Nodup := by
      rw [List.nodup_iff_pairwise_ne, List.pairwise_map]
      refine List.Pairwise.imp_of_mem ?_ (List.pairwise_lt_range (n := n + 1))
      intro a b ha hb hab e
      rw [List.mem_range] at ha hb
      exact hx ⟨a, b, hab, by omega, e⟩
    have := nodup_le (ys := upto n) hn (by
      intro z hz
      rw [List.mem_map] at hz
      obtain ⟨i, _, rfl⟩ := hz
      exact mem_upto.2 (h i))
    rw [upto_len] at this
    simp at this
    exact absurd this (by omega)
theorem least_nat {p : Nat → Prop} (h : ∃ n, p n) : ∃ n, p n ∧ ∀ m, m < n → ¬ p m := by
  obtain ⟨n, hn⟩ := h
  induction n using Nat.strongRecOn with
  | _ n ih =>
    by_cases hx : ∃ m, m < n ∧ p m
    · obtain ⟨m, hm, hp⟩ := hx; exact ih m hm hp
    · exact ⟨n, hn, fun m hm hp => hx ⟨m, hm, hp⟩⟩
def itl (ns : List Nd) (o : List Int) (s : Int) : Nat → List Int
  | 0 => [s]
  | j + 1 => zL ns o s (j + 1) :: itl ns o s j
theorem itl_len (ns : List Nd) (o : List Int) (s : Int) (j : Nat) : (itl ns o s j).length = j + 1 := by
  induction j with
  | zero => rfl
  | succ j ih => simp [itl, ih]
theorem itl_nth (ns : List Nd) (o : List Int) (s : Int) (j : Nat) : ∀ i, i ≤ j → jD (itl ns o s j) i = zL ns o s (j - i) := by
  induction j with
  | zero => intro i hi; have : i = 0 := by omega
            subst this; rfl
  | succ j ih =>
    intro i hi
    cases i with
    | zero => rfl
    | succ i =>
      have := ih i (by omega)
      rw [show j + 1 - (i + 1) = j - i by omega, ← this]
      rfl
theorem cycGo_itl {ns : List Nd} {o : List Int} {s : Int} {q : Nat} (hq : zL ns o s q = s) (hmin : ∀ m, 0 < m → m < q → zL ns o s m ≠ s) : ∀ f j, j + 1 ≤ q → q ≤ j + 1 + f → cycGo ns o s f (itl ns o s j) (zL ns o s (j + 1)) = itl ns o s (q - 1) := by
  intro f
  induction f with
  | zero => intro j h1 h2; have : q - 1 = j := by omega
            rw [this]; rfl
  | succ f ih =>
    intro j h1 h2
    by_cases e : j + 1 = q
    · rw [e, cycGo_stop (by rw [hq]; simp), ← e]; rfl
    · rw [cycGo_on (by simpa using hmin (j + 1) (by omega) (by omega))]
      exact ih (j + 1) (by omega) (by omega)
theorem least_back {ns : List Nd} {r : Int} (hw : wfB ns r = true) {o : List Int} (hf : Fix ns o) {s : Int} (hs : Out ns o s) : ∀ m, jJ ns s (m + 1) (zL ns o s (m + 1)) = 0 := by
  intro m
  induction m with
  | zero =>
    obtain ⟨_, ht, _⟩ := ahead_out hw hf hs
    exact leastB_zero.2 ⟨s.toNat, by have := hs.1; have := hs.2.1; omega, ht, .inl (by have := hs.1; omega)⟩
  | succ m ih =>
    have ho := back_out hw hf hs (m + 1)
    obtain ⟨_, ht, h4⟩ := ahead_out hw hf ho
    have e : (((zL ns o s (m + 1)).toNat : Nat) : Int) = zL ns o s (m + 1) := Int.toNat_of_nonneg ho.1
    refine leastB_zero.2 ⟨(zL ns o s (m + 1)).toNat, by have := ho.2.1; have := ho.1; omega, ht, .inr ⟨?_, h4⟩⟩
    rw [e]
    exact ih
theorem cycle_ok {ns : List Nd} {r : Int} (hw : wfB ns r = true) (h : (kW ns).length < ns.length) :
    CycOk ns (cycB ns (kW ns)) ∧ (cycB ns (kW ns)).length ≤ ns.length ∧ knotB ns = true := by
  have hf := order_fix h
  obtain ⟨k, hk, hk2⟩ := order_some h
  have h0 : Out ns (kW ns) (yQ (kW ns) 0 ns.length) := first_out ns.length 0 (by omega) ⟨k, by omega, hk, hk2⟩
  have hs : Out ns (kW ns) (cycS ns (kW ns)) := back_out hw hf h0 ns.length
  unfold cycB
  obtain ⟨i, j, hij, hjn, hx⟩ := pigeon ns.length (fun i => zL ns (kW ns) (yQ (kW ns) 0 ns.length) i) (fun i => by have := back_out hw hf h0 i; exact ⟨this.1, this.2.1⟩)
  have hper : zL ns (kW ns) (cycS ns (kW ns)) (j - i) = cycS ns (kW ns) := by
    unfold cycS
    rw [← back_add, show ns.length + (j - i) = j + (ns.length - i) by omega, back_add]
    have hx : zL ns (kW ns) (yQ (kW ns) 0 ns.length) i = zL ns (kW ns) (yQ (kW ns) 0 ns.length) j := hx
    rw [← hx, ← back_add, show i + (ns.length - i) = ns.length by omega]
  generalize cycS ns (kW ns) = s at hs hper
  obtain ⟨q, ⟨hq0, hq⟩, hmin⟩ := least_nat (p := fun m => 0 < m ∧ zL ns (kW ns) s m = s) ⟨j - i, by omega, hper⟩
  have hqn : q ≤ ns.length := by
    by_cases e : q ≤ j - i
    · omega
    · exact absurd ⟨by omega, hper⟩ (hmin (j - i) (by omega))
  have hmin' : ∀ m, 0 < m → m < q → zL ns (kW ns) s m ≠ s := fun m h1 h2 e => hmin m h2 ⟨h1, e⟩
  have hgo := cycGo_itl hq hmin' (ns.length - 1) 0 (by omega) (by omega)
  have e1 : cycGo ns (kW ns) s (ns.length - 1) [s] (uQ ns (kW ns) s) = itl ns (kW ns) s (q - 1) := hgo
  rw [e1]
  have hlen := itl_len ns (kW ns) s (q - 1)
  have hnth := itl_nth ns (kW ns) s (q - 1)
  have hne : ∀ a b, a < b → b < q → zL ns (kW ns) s a ≠ zL ns (kW ns) s b := by
    intro a b hab hb e
    have e2 : zL ns (kW ns) s (a + (q - b)) = s := by
      rw [back_add, e, ← back_add, show b + (q - b) = q by omega, hq]
    exact hmin' (a + (q - b)) (by omega) (by omega) e2
  refine ⟨⟨by omega, ?_, ?_, ?_, ?_, ?_⟩, by omega, ?_⟩
  · intro i hi
    rw [hnth i (by omega)]
    have := back_out hw hf hs (q - 1 - i)
    exact ⟨this.1, this.2.1⟩
  · intro i hi
    rw [hnth i (by omega)]
    have := (ahead_out hw hf (back_out hw hf hs (q - 1 - i))).2.2
    simpa using this
  · intro i hi j hj
    rw [hnth i (by omega), hnth j (by omega)]
    have := hne (q - 1 - i) (q - 1 - j) (by omega) (by omega)
    simpa using this.symm
  · rw [hnth 0 (by omega), hnth ((itl ns (kW ns) s (q - 1)).length - 1) (by omega), hlen]
    have := (ahead_out hw hf (back_out hw hf hs (q - 1 - 0))).2.1
    have e3 : uQ ns (kW ns) (zL ns (kW ns) s (q - 1 - 0)) = s := by
      have : zL ns (kW ns) s ((q - 1 - 0) + 1) = s := by rw [show q - 1 - 0 + 1 = q by omega]; exact hq
      exact this
    rw [e3] at this
    rw [show q - 1 - (q - 1 + 1 - 1) = 0 by omega]
    exact this
  · intro i hi
    rw [hnth (i + 1) (by omega), hnth i (by omega)]
    have := (ahead_out hw hf (back_out hw hf hs (q - 1 - (i + 1)))).2.1
    rw [show q - 1 - i = q - 1 - (i + 1) + 1 by omega]
    exact this
  · have ht := least_back hw hf hs (q - 1)
    rw [show q - 1 + 1 = q by omega, hq] at ht
    have e : ((s.toNat : Nat) : Int) = s := Int.toNat_of_nonneg hs.1
    refine knotB_yes (k := s.toNat) (by have := hs.1; have := hs.2.1; omega) ?_
    unfold knotAt
    rw [e, leastB_le ht hqn]
    have := (ahead_out hw hf hs).2.2
    simp [this]
theorem refE_checkE (ns : List Nd) (r : Int) : refE ns r = zG ns r := by
  unfold refE zG
  cases hw : wfB ns r with
  | false => rfl
  | true =>
    by_cases h : (kW ns).length < ns.length
    · simp [h, (cycle_ok hw h).2.2]
    · simp [h, knotB_not h]
def jG (xs : List Int) (q : Int) (g : Nat) : Nat → Int
  | 0 => 0
  | k + 1 => if jD xs k % q == g then wrap64 (jG xs q g k + jD xs k) else jG xs q g k
def gmetTo (xs : List Int) (q : Int) (g : Nat) : Nat → Bool
  | 0 => false
  | k + 1 => if jD xs k % q == g then true else gmetTo xs q g k
def yM (xs : List Int) (q : Int) : Nat → List Int
  | 0 => []
  | m + 1 => if gmetTo xs q m xs.length then yM xs q m ++ [jG xs q m xs.length] else yM xs q m
theorem grpTo_len (xs : List Int) (q : Int) (m : Nat) : (yM xs q m).length ≤ m := by
  induction m with
  | zero => simp [yM]
  | succ m ih => unfold yM; split <;> (try simp) <;> omega
theorem grp_yes {xs : List Int} {q : Int} {m : Nat} (h : gmetTo xs q m xs.length = true) : yM xs q (m + 1) = yM xs q m ++ [jG xs q m xs.length] := by rw [yM, if_pos h]
theorem grp_no {xs : List Int} {q : Int} {m : Nat} (h : gmetTo xs q m xs.length = false) : yM xs q (m + 1) = yM xs q m := by rw [yM, h]; rfl
structure Grp (w : World) (B o : Nat) (S : Nat → Int) (M : Nat → Bool) : Prop where
  size : B < w.heap.size
  sum : ∀ g, g < 8 → w.cell? ⟨B, o + g, none⟩ = some (.int .i64 (S g))
  met : ∀ g, g < 8 → w.cell? ⟨B, o + 8 + g, none⟩ = some (.bool (M g))
  fr : ∀ g, w.frozen? ⟨B, g, none⟩ = false
theorem Grp.bw {w w' : World} {B o : Nat} {S : Nat → Int} {M : Nat → Bool} (h : Grp w B o S M) (hb : Bw w w') : Grp w' B o S M := by
  have h0 := h.size
  obtain ⟨q1, q2⟩ := qS hb
  exact ⟨Nat.lt_of_lt_of_le h0 hb.size, fun g hg => (q1 _ _ (by omega)).trans (h.sum g hg), fun g hg => (q1 _ _ (by omega)).trans (h.met g hg), fun g => (q2 _ _ (by omega)).trans (h.fr g)⟩
theorem gadd_any (v q : Int) (B o g : Nat) (S : Nat → Int) (M : Nat → Bool) (w : World) (h : Grp w B o S M) (hq1 : 1 ≤ q) (hq8 : q ≤ 8) (hg : v % q = g) (hg8 : g < 8) :
    Calls Tryz.prog 130 #[.pointer (some ⟨B, o, none⟩), .int .i64 v, .int .i64 q] w fun e w' => e = .returned (.tuple #[]) ∧ Bw ((w.setCell ⟨B, o + g, none⟩ (.int .i64 (wrap64 (S g + v)))).setCell ⟨B, o + 8 + g, none⟩ (.bool true)) w' := by
  have hs := h.sum g hg8
  have hm := h.met g hg8
  have hf := h.fr
  have hsz := h.size
  have Hg := qJ hg
  have hgi : (g : Int) < 8 := by omega
  clear h hg
  go_enter Tryz.func130, Tryz.ntmps130
  go_wp2_with (go_at_call 125; refine (vrest_any _ _ _ hq1 (by omega)).mono ?_; rintro e w' ⟨rfl, rfl⟩; rw [qK Hg])
  go_region
  go_wp2_with fail
  go_end0
  exact ⟨rfl, (by repeat first|exact br _|assumption|apply bd|apply bn|apply ba|refine bt ?_ (by assumption))⟩
def vQ (S : Nat → Int) (M : Nat → Bool) : Nat → List Int
  | 0 => []
  | m + 1 => if M m then vQ S M m ++ [S m] else vQ S M m
theorem grpOf_len (S : Nat → Int) (M : Nat → Bool) (m : Nat) : (vQ S M m).length ≤ m := by
  induction m with
  | zero => simp [vQ]
  | succ m ih => unfold vQ; split <;> (try simp) <;> omega
theorem grpOf_yes {S : Nat → Int} {M : Nat → Bool} {m : Nat} (h : M m = true) : vQ S M (m + 1) = vQ S M m ++ [S m] := by rw [vQ, if_pos h]
theorem grpOf_no {S : Nat → Int} {M : Nat → Bool} {m : Nat} (h : M m = false) : vQ S M (m + 1) = vQ S M m := by rw [vQ, h]; rfl
theorem grpTo_of (xs : List Int) (q : Int) (m : Nat) : yM xs q m = vQ (fun g => jG xs q g xs.length) (fun g => gmetTo xs q g xs.length) m := by
  induction m with
  | zero => rfl
  | succ m ih => rw [yM, vQ, ih]
theorem gsums_any (B o : Nat) (S : Nat → Int) (M : Nat → Bool) (w : World) (h : Grp w B o S M) :
    Calls Tryz.prog 129 #[.pointer (some ⟨B, o, none⟩)] w fun e w' => ∃ v, e = .returned v ∧ Own w w' v (vQ S M 8) ∧ Bw w w' := by
  have HG := qJ h
  have hsz := h.size
  clear h
  go_enter Tryz.func129, Tryz.ntmps129
  go_wp2_with fail
  go_loopw [3, 4] (fun v i wr => ∃ m : Nat, m ≤ 8 ∧ i = .int .i64 m ∧ Own w wr v (vQ S M m) ∧ Bw w wr) (fun _ i _ => 8 - (intOf i).toNat)
  case atStart => exact ⟨0, Nat.zero_le _, rfl, Own.nil _ _, (by repeat first|exact br _|assumption|apply bd|apply bn|apply ba|refine bt ?_ (by assumption))⟩
  case round =>
    obtain ⟨m, hm8, rfl, hown, hB2⟩ := hrel
    rename World => wr
    have hln := grpOf_len S M m
    by_cases hlt2 : m < 8
    · have hG2 := (qK HG).bw hB2
      have hs := hG2.sum m hlt2
      have hm := hG2.met m hlt2
      have hsz2 := hG2.size
      have hm1 : (m : Int) < 8 := by omega
      clear hG2
      have Hy := qJ (@grpOf_yes S M m)
      have Hn := qJ (@grpOf_no S M m)
      cases hmt : M m with
      | true =>
        rw [hmt] at hm
        go_wp2_with (at_builtin; refine app1 _ rfl _ _ rfl _ _ (vQ S M m) rfl (hown.bw (by repeat first|exact br _|assumption|apply bd|apply bn|apply ba|refine bt ?_ (by assumption))) _ _ (S m) rfl (by simp) (by omega) (by repeat first|exact br _|assumption|apply bd|apply bn|apply ba|refine bt ?_ (by assumption)) ?_; intro v' w2 hown1 hB3 hgr1)
        go_roundw
        case rel => exact ⟨m + 1, by omega, by go_num, by rw [(qK Hy) hmt]; exact hown1, hB3⟩
        case measure => simp [intOf]; omega
      | false =>
        rw [hmt] at hm
        go_wp2_with fail
        go_roundw
        case rel => exact ⟨m + 1, by omega, by go_num, by rw [(qK Hn) hmt]; exact hown, hB2⟩
        case measure => simp [intOf]; omega
    · have hmm : m = 8 := by omega
      subst hmm
      go_wp2_with fail
      go_ret
      exact ⟨_, rfl, hown, hB2⟩
theorem nth_mem {l : List Int} {k : Nat} (h : k < l.length) : jD l k ∈ l := by rw [zP h]; exact List.getElem_mem h
def addB (x : Nd) : Int := if x.kind == 1 then x.k else 0
structure Gv where
  node : Int
  epoch : Int
  value : Int
def vR (gv : List Gv) (k : Nat) : Gv := gv.getD k ⟨0, 0, 0⟩
theorem addend_any (x : Nd) (w : World) : Calls Tryz.prog 102 #[x.val] w fun e w' => e = .returned (.int .i64 (addB x)) ∧ Bw w w' := by
  unfold Nd.val
  cases h1 : (x.kind == 1) with
  | true =>
    have Ha : Hid (addB x = x.k) := qJ (by unfold addB; rw [if_pos h1])
    go_enter Tryz.func102, Tryz.ntmps102
    go_wp2
    go_ret
    exact ⟨qF (qK Ha).symm, (by repeat first|exact br _|assumption|apply bd|apply bn|apply ba|refine bt ?_ (by assumption))⟩
  | false =>
    have Ha : Hid (addB x = 0) := qJ (by unfold addB; rw [if_neg (by rw [h1]; decide)])
    go_enter Tryz.func102, Tryz.ntmps102
    go_wp2
    go_ret
    exact ⟨qF (qK Ha).symm, (by repeat first|exact br _|assumption|apply bd|apply bn|apply ba|refine bt ?_ (by assumption))⟩
def gcntTo (xs : List Int) (q : Int) (g : Nat) : Nat → Nat
  | 0 => 0
  | k + 1 => if jD xs k % q == g then gcntTo xs q g k + 1 else gcntTo xs q g k
theorem gcnt_le (xs : List Int) (q : Int) (g k : Nat) : gcntTo xs q g k ≤ k := by
  induction k with
  | zero => simp [gcntTo]
  | succ k ih => unfold gcntTo; split <;> omega
theorem gcnt_met (xs : List Int) (q : Int) (g k : Nat) : gmetTo xs q g k = decide (0 < gcntTo xs q g k) := by
  induction k with
  | zero => simp [gcntTo, gmetTo]
  | succ k ih => unfold gcntTo gmetTo; split
                 · simp
                 · exact ih
theorem gcnt_yes {xs : List Int} {q : Int} {g k : Nat} (h : (jD xs k % q == (g : Int)) = true) : gcntTo xs q g (k + 1) = gcntTo xs q g k + 1 ∧ jG xs q g (k + 1) = wrap64 (jG xs q g k + jD xs k) := by simp [gcntTo, jG, h]
theorem gcnt_no {xs : List Int} {q : Int} {g k : Nat} (h : (jD xs k % q == (g : Int)) = false) : gcntTo xs q g (k + 1) = gcntTo xs q g k ∧ jG xs q g (k + 1) = jG xs q g k := by simp [gcntTo, jG, h]
theorem groups_any (xs : List Int) (q : Int) (ad : Option Addr) (cap : Nat) (w : World) (hx : IntsAt w ad xs) (hl : xs.length ≤ 1000000) (hq1 : 1 ≤ q) (hq8 : q ≤ 8) :
    Calls Tryz.prog 75 #[.slice ad xs.length cap, .int .i64 q] w fun e w' => ∃ v, e = .returned v ∧ Own w w' v (yM xs q q.toNat) ∧ Bw w w' := by
  obtain ⟨qn, rfl⟩ := Int.eq_ofNat_of_zero_le (a := q) (by omega)
  rw [Int.toNat_natCast]
  have hq1' : 1 ≤ qn := by omega
  have hq8' : qn ≤ 8 := by omega
  go_enter Tryz.func75, Tryz.ntmps75
  go_wp2_with fail
  go_loopw [5, 6] (fun v i wr => ∃ m : Nat, m ≤ qn ∧ i = .int .i64 m ∧ Own w wr v (yM xs qn m) ∧ Bw w wr) (fun _ i _ => qn - (intOf i).toNat)
  case atStart => exact ⟨0, Nat.zero_le _, rfl, Own.nil _ _, Bw.refl _⟩
  case round =>
    obtain ⟨m, hm, rfl, hown, hB⟩ := hrel
    have hln := grpTo_len xs qn m
    by_cases hlt : m < qn
    · go_wp2_with fail
      rename World => w1
      go_loopw [7, 8, 9] (fun c s i wr => ∃ k : Nat, k ≤ xs.length ∧ c = .int .i64 (gcntTo xs qn m k) ∧ s = .int .i64 (jG xs qn m k) ∧ i = .int .i64 k ∧ wr = w1) (fun _ _ i _ => xs.length - (intOf i).toNat)
      case atStart => exact ⟨0, Nat.zero_le _, rfl, rfl, rfl, rfl⟩
      case round =>
        obtain ⟨k, hk, rfl, rfl, rfl, rfl⟩ := hrel
        have hcl := gcnt_le xs qn m k
        by_cases hlt2 : k < xs.length
        · obtain ⟨b, off, rfl, hb, hc⟩ := (hx.below hB) k hlt2
          have hc1 := hc k hlt2
          clear hc
          cases h1 : (jD xs k % (qn : Int) == (m : Int)) with
          | true =>
            obtain ⟨e1, e2⟩ := gcnt_yes h1
            have E1 := qJ e1
            have E2 := qJ e2
            clear e1 e2
            go_wp2_with (go_at_call 90; refine (rrest_any _ _ _ hq1 (by omega)).mono ?_; rintro e w' ⟨rfl, rfl⟩)
            go_roundw
            case rel => exact ⟨k + 1, by omega, by rw [qK E1]; go_num, by rw [qK E2], by go_num, by trivial⟩
            case measure => simp [intOf]; omega
          | false =>
            obtain ⟨e1, e2⟩ := gcnt_no h1
            have E1 := qJ e1
            have E2 := qJ e2
            clear e1 e2
            go_wp2_with (go_at_call 90; refine (rrest_any _ _ _ hq1 (by omega)).mono ?_; rintro e w' ⟨rfl, rfl⟩)
            go_roundw
            case rel => exact ⟨k + 1, by omega, by rw [qK E1], by rw [qK E2], by go_num, by trivial⟩
            case measure => simp [intOf]; omega
        · have hkk : k = xs.length := by omega
          subst hkk
          have Hy := qJ (@grp_yes xs qn m)
          have Hn := qJ (@grp_no xs qn m)
          have Hm := qJ (gcnt_met xs qn m xs.length)
          generalize gcntTo xs qn m xs.length = cn at *
          by_cases hc0 : 0 < cn
          · go_wp2_with (at_builtin; refine app1 _ rfl _ _ rfl _ _ (yM xs qn m) rfl (hown.bw (by repeat first|exact br _|assumption|apply bd|apply bn|apply ba|refine bt ?_ (by assumption))) _ _ (jG xs qn m xs.length) rfl (by simp) (by omega) (by repeat first|exact br _|assumption|apply bd|apply bn|apply ba|refine bt ?_ (by assumption)) ?_; intro v' w2 hown1 hB3 hgr1)
            go_roundw
            case rel => exact ⟨m + 1, by omega, by go_num, by rw [(qK Hy) (by rw [qK Hm]; simpa using hc0)]; exact hown1, hB3⟩
            case measure => simp [intOf]; omega
          · have hcz : cn = 0 := by omega
            subst hcz
            go_wp2_with fail
            go_roundw
            case rel => exact ⟨m + 1, by omega, by go_num, by rw [(qK Hn) (by rw [qK Hm]; rfl)]; exact hown, hB⟩
            case measure => simp [intOf]; omega
    · have hmm : m = qn := by omega
      subst hmm
      go_wp2_with fail
      go_ret
      exact ⟨_, rfl, hown, hB⟩
def RowAt (W w : World) (g L : Nat) (ls : Nat → List Int) : Prop :=
  ∃ arr : Array Value, w.heap[g]? = some (.cells arr 94 (0, 0)) ∧ arr.size = L ∧ ∀ j, j < L → ∃ v, arr[j]? = some v ∧ Own W w v (ls j)
def upd (ls : Nat → List Int) (j : Nat) (l : List Int) : Nat → List Int := fun i => if i = j then l else ls i
def GvAt (w : World) (ad : Option Addr) (gv : List Gv) : Prop :=
  ∀ i, i < gv.length → ∃ b off, ad = some ⟨b, off, none⟩ ∧ b < w.heap.size ∧ ∀ j, j < gv.length →
    w.cell? ⟨b, off + j * 3, none⟩ = some (.int .i64 (vR gv j).node) ∧ w.cell? ⟨b, off + j * 3 + 1, none⟩ = some (.int .i64 (vR gv j).epoch) ∧ w.cell? ⟨b, off + j * 3 + 2, none⟩ = some (.int .i64 (vR gv j).value)
theorem GvAt.below {w w' : World} {ad : Option Addr} {gv : List Gv} (h : GvAt w ad gv) (hb : Bw w w') : GvAt w' ad gv := by
  intro i hi
  obtain ⟨b, off, e, hlt, hc⟩ := h i hi
  refine ⟨b, off, e, Nat.lt_of_lt_of_le hlt hb.size, fun j hj => ?_⟩
  obtain ⟨c0, c1, c2⟩ := hc j hj
  exact ⟨((qS hb).1 _ _ hlt).trans c0, ((qS hb).1 _ _ hlt).trans c1, ((qS hb).1 _ _ hlt).trans c2⟩
def OwnN (W w : World) (v : Value) (ns : List Nd) : Prop := w.ownsRow W.heap.size 46 5 v ns.length (qL ns)
theorem run_appT (w : World) (t ty res : TypeId) (z : Value) (size bytes : Nat) (hinf : (Tryz.prog.info? ty).map (fun i => (i.zero, i.size, i.bytes)) = some (some z, size, bytes)) (hund : Tryz.prog.underlying t = some (.slice ty)) (hzs : z.cells.size = size) (hsz : 0 < size)
    (base : Nat) (v : Value) (n : Nat) (xs : List Value) (hown : w.ownsRow base ty size v n xs)
    (g c : Nat) (news : List Value) (hnl : news.length = size) (hc : ∀ j u, news[j]? = some u → w.cell? ⟨g, j, none⟩ = some u) (h1 : ∀ u ∈ news, u.oneCell' = true) (hl1 : n + 1 ≤ 1000000000) (hb : bytes ≤ 1000) (hB : base ≤ w.heap.size) :
    ∃ v' w', (Builtin.append_ #[t, t] res #[v, .slice (some ⟨g, 0, none⟩) 1 c]).run Tryz.prog w = .ok v' w' ∧ w'.ownsRow base ty size v' (n + 1) (xs ++ news) ∧ w.grownBy w' v.ownBlock := by
  obtain ⟨i0, hi, hz0, hz1, hz2⟩ := info_parts hinf
  have hbb : (n + 1) * bytes ≤ 1000000000 * 1000 := Nat.mul_le_mul hl1 hb
  obtain ⟨v', w', hr, h2, h3, _⟩ := run_append_keep (P := Tryz.prog) w base t res ty i0 z size bytes hund hi hz0 hz1 hz2 hzs hsz v n xs hown ⟨g, 0, none⟩ 1 c news (by omega) (by omega)
    (by intro j u hj
        refine add_cell ?_
        rw [Nat.zero_add]
        exact hc j u hj) h1 (by unfold maxLen; omega) (by omega) hB
  exact ⟨v', w', hr, h2, h3⟩
theorem appT {ops : Array Oper} {rest : List Oper} {o : Oper} {a : Act} {Q : Exit → Act → World → Prop} (w : World) (hgd : o.guard = none) (s y : Operand) (t ty : TypeId)
    (ho : o.op = .call { callee := .builtin .append, args := #[s, y], argTypes := #[t, t] }) (z : Value) (size bytes : Nat) (hinf : (Tryz.prog.info? ty).map (fun i => (i.zero, i.size, i.bytes)) = some (some z, size, bytes)) (hund : Tryz.prog.underlying t = some (.slice ty)) (hzs : z.cells.size = size) (hsz : 0 < size)
    (base : Nat) (v : Value) (n : Nat) (xs : List Value) (hs : a.eval s = v) (hown : w.ownsRow base ty size v n xs)
    (g c : Nat) (news : List Value) (hx : a.eval y = .slice (some ⟨g, 0, none⟩) 1 c) (hnl : news.length = size) (hc : ∀ j u, news[j]? = some u → w.cell? ⟨g, j, none⟩ = some u) (h1 : ∀ u ∈ news, u.oneCell' = true) (hl1 : n + 1 ≤ 1000000000) (hb : bytes ≤ 1000) (hB : base ≤ w.heap.size)
    (h : ∀ v' w', w'.ownsRow base ty size v' (n + 1) (xs ++ news) → w.grownBy w' v.ownBlock → wpList Tryz.prog ops Q rest (a.put o.dst v') w') : wpList Tryz.prog ops Q (o :: rest) a w := by
  obtain ⟨v', w', hr, h2, h3⟩ := run_appT w t ty o.type z size bytes hinf hund hzs hsz base v n xs hown g c news hnl hc h1 hl1 hb hB
  refine wpList_plain hgd fun _ hK => ?_
  unfold Oper.wp execOp
  simp only [ho, resolve, invoke, builtin, Sem.run_bind, Sem.run_pure, Result.andThen_ok, List.map_toArray, List.map_cons, List.map_nil, hs, hx, hr]
  exact hK _ _ (h v' w' h2 h3)
theorem qW {w w' : World} {v : Value} {base n size : Nat} {ty : TypeId} {xs : List Value} (hown : w.ownsRow base ty size v n xs) (hg : w.grownBy w' v.ownBlock) {b : Nat} {cur : Array Value} {ty' : TypeId} {fr : Nat × Nat} (hb : w.heap[b]? = some (.cells cur ty' fr)) (hne : ty' ≠ ty ∨ b < base) : w'.heap[b]? = some (.cells cur ty' fr) := by
  refine (hg.block b (Array.getElem?_eq_some_iff.1 hb).1 ?_).trans hb
  intro e
  rcases hown.2 with ⟨rfl, _⟩ | ⟨g, cap, cur', rfl, hbb, hgg, _⟩
  · simp [Value.ownBlock] at e
  · simp [Value.ownBlock] at e
    subst e
    rw [hgg] at hb
    simp only [Option.some.injEq, Obj.cells.injEq] at hb
    rcases hne with h | h
    · exact h hb.2.1.symm
    · omega
theorem kQ {w w' : World} {v u : Value} {base n size base' n' size' : Nat} {ty ty' : TypeId} {xs ys : List Value} (hown : w.ownsRow base ty size v n xs) (hg : w.grownBy w' v.ownBlock) (h : w.ownsRow base' ty' size' u n' ys) (hne : ty' ≠ ty) : w'.ownsRow base' ty' size' u n' ys := by
  obtain ⟨hl, h⟩ := h
  refine ⟨hl, ?_⟩
  rcases h with h | ⟨g, cap, cur, e1, hgb, hc, r⟩
  · exact .inl h
  · exact .inr ⟨g, cap, cur, e1, hgb, qW hown hg hc (.inl hne), r⟩
theorem Bw.grown {V w w' : World} {v : Value} {base n size : Nat} {ty : TypeId} {xs : List Value} (h : Bw V w) (hown : w.ownsRow base ty size v n xs) (hg : w.grownBy w' v.ownBlock) (hb : V.heap.size ≤ base) : Bw V w' :=
  Below.grown h hg h.size fun k hk => Nat.le_trans hb ((World.ownsRow.lt hown k hk).1)
theorem qM {w : World} {v : Value} {base base' n size : Nat} {ty : TypeId} {xs : List Value} (h : w.ownsRow base ty size v n xs) (hb : base' ≤ base) : w.ownsRow base' ty size v n xs := by
  obtain ⟨hl, h⟩ := h
  refine ⟨hl, ?_⟩
  rcases h with h | ⟨g, cap, cur, e1, hgb, r⟩
  · exact .inl h
  · exact .inr ⟨g, cap, cur, e1, Nat.le_trans hb hgb, r⟩
structure Ev where
  kind : Int
  worker : Int
  node : Int
  index : Int
  epoch : Int
  round : Int
  value : Int
def Ev.cells (x : Ev) : List Value := [.int .i64 x.kind, .int .i64 x.worker, .int .i64 x.node, .int .i64 x.index, .int .i64 x.epoch, .int .i64 x.round, .int .i64 x.value]
def Ev.val (x : Ev) : Value := .agg #[.int .i64 x.kind, .int .i64 x.worker, .int .i64 x.node, .int .i64 x.index, .int .i64 x.epoch, .int .i64 x.round, .int .i64 x.value]
def ev0 : Ev := ⟨0, 0, 0, 0, 0, 0, 0⟩
def zH (l : List Ev) (k : Nat) : Ev := l.getD k ev0
def kH (l : List Ev) : List Value := l.flatMap Ev.cells
def EvsAt (w : World) (ad : Option Addr) (l : List Ev) : Prop :=
  ∀ i, i < l.length → ∃ b off, ad = some ⟨b, off, none⟩ ∧ b < w.heap.size ∧ ∀ j, j < l.length →
    w.cell? ⟨b, off + j * 7, none⟩ = some (.int .i64 (zH l j).kind) ∧ w.cell? ⟨b, off + j * 7 + 1, none⟩ = some (.int .i64 (zH l j).worker) ∧ w.cell? ⟨b, off + j * 7 + 2, none⟩ = some (.int .i64 (zH l j).node) ∧ w.cell? ⟨b, off + j * 7 + 3, none⟩ = some (.int .i64 (zH l j).index) ∧
    w.cell? ⟨b, off + j * 7 + 4, none⟩ = some (.int .i64 (zH l j).epoch) ∧ w.cell? ⟨b, off + j * 7 + 5, none⟩ = some (.int .i64 (zH l j).round) ∧ w.cell? ⟨b, off + j * 7 + 6, none⟩ = some (.int .i64 (zH l j).value)
theorem EvsAt.below {w w' : World} {ad : Option Addr} {l : List Ev} (h : EvsAt w ad l) (hb : Bw w w') : EvsAt w' ad l := by
  intro i hi
  obtain ⟨b, off, e, hlt, hc⟩ := h i hi
  refine ⟨b, off, e, Nat.lt_of_lt_of_le hlt hb.size, fun j hj => ?_⟩
  obtain ⟨q, _⟩ := qS hb
  obtain ⟨c0, c1, c2, c3, c4, c5, c6⟩ := hc j hj
  exact ⟨(q _ _ hlt).trans c0, (q _ _ hlt).trans c1, (q _ _ hlt).trans c2, (q _ _ hlt).trans c3, (q _ _ hlt).trans c4, (q _ _ hlt).trans c5, (q _ _ hlt).trans c6⟩
theorem app1B {ops : Array Oper} {rest : List Oper} {o : Oper} {a : Act} {Q : Exit → Act → World → Prop} (w : World) (hgd : o.guard = none) (s x : Operand)
    (ho : o.op = .call { callee := .builtin .append, args := #[s, x], argTypes := #[94, 94] }) (W : World) (v : Value) (xs : List Int) (hs : a.eval s = v) (hown : Own W w v xs)
    (g c : Nat) (n : Int) (hx : a.eval x = .slice (some ⟨g, 0, none⟩) 1 c) (hc : w.cell? ⟨g, 0, none⟩ = some (.int .i64 n)) (hlen : xs.length + 1 ≤ 1000000000) (hB : Bw W w)
    (h : ∀ v' w', Own W w' v' (xs ++ [n]) → Bw W w' → w.grownBy w' v.ownBlock → wpList Tryz.prog ops Q rest (a.put o.dst v') w') : wpList Tryz.prog ops Q (o :: rest) a w := by
  obtain ⟨i0, hi, hz0, hz1, hz2⟩ := info_parts Tryz.infoInt
  refine wpList_append_own w hgd s x 94 ho W.heap.size 3 i0 (.int .i64 0) 1 8 Tryz.underlying94 hi hz0 hz1 hz2 rfl (by decide) v xs.length (xs.map (Value.int .i64)) hs hown ⟨g, 0, none⟩ 1 c [.int .i64 n] hx rfl ?_ ?_ ?_ ?_ hB.size ?_
  · intro j u hj
    match j, hj with
    | 0, hj => simp at hj; subst hj; simpa [Addr.add] using hc
  · intro u hu; simp at hu; subst hu; rfl
  · unfold maxLen; omega
  · omega
  · intro v' w' h1 h2 _
    refine h v' w' ?_ (Below.grown hB h2 hB.size fun k hk => (World.ownsRow.lt hown k hk).1) h2
    unfold Own
    simpa using h1
theorem yK {W w w' : World} {base n size : Nat} {ty : TypeId} {v : Value} {xs : List Value} (hown : w.ownsRow base ty size v n xs) (hg : w.grownBy w' v.ownBlock) (hB : Bw W w) (hb : W.heap.size ≤ base) : Bw W w' :=
  ⟨hg.os.trans (Below.os hB), hg.tape.trans (Below.tape hB), hg.output.trans (Below.output hB), Nat.le_trans (Below.size hB) hg.size, fun i hi => (hg.block i (Nat.lt_of_lt_of_le hi (Below.size hB)) (fun e => by have := (World.ownsRow.lt hown i e.symm).1; omega)).trans (Below.block hB i hi)⟩
end Go.Proofs.YtfemleimkbjehaaGreat
