import Derived.Test.YtfemleimkbjehaaGreatJ20
import Derived.Test.YtfemleimkbjehaaGreatJ8
import Derived.Test.YtfemleimkbjehaaGreatJ9
import Derived.Test.YtfemleimkbjehaaGreatJ10
namespace Go.Proofs.YtfemleimkbjehaaGreat
open Go.RowKit

def distE (ns : List Nd) (r n x : Int) : Int := if checkE ns r = 0 then (if isNodeB ns.length n && isNodeB ns.length x then 0 else 3) else checkE ns r
def distV (ns : List Nd) (r n x : Int) : Int := if distE ns r n x = 0 then nth (distL ns n (ns.length - 1)) x.toNat else 0
def rdistV (ns : List Nd) (r n x : Int) : Int := if distE ns r n x = 0 then leastB ns x ns.length n else 0

theorem distE_bad {ns : List Nd} {r n x : Int} (h : checkE ns r ≠ 0) : distE ns r n x = checkE ns r := by simp [distE, h]
theorem distE_arg {ns : List Nd} {r n x : Int} (h : checkE ns r = 0) (h2 : (isNodeB ns.length n && isNodeB ns.length x) = false) : distE ns r n x = 3 := by unfold distE; rw [if_pos h, h2]; rfl
theorem distE_ok {ns : List Nd} {r n x : Int} (h : checkE ns r = 0) (h1 : isNodeB ns.length n = true) (h2 : isNodeB ns.length x = true) : distE ns r n x = 0 := by unfold distE; rw [if_pos h, h1, h2]; rfl
theorem checkE_zero {ns : List Nd} {r : Int} (h : checkE ns r = 0) : 1 ≤ ns.length ∧ ns.length ≤ 8 := by
  unfold checkE at h
  split at h
  · rename_i hw; exact wfB_len hw
  · cases h

end Go.Proofs.YtfemleimkbjehaaGreat
namespace Go.Proofs.YtfemleimkbjehaaGreat
open Go.RowKit

theorem isNodeB_out {len : Nat} {n : Int} (h : n < 0 ∨ (len : Int) ≤ n) : isNodeB len n = false := by
  cases e : isNodeB len n with
  | false => rfl
  | true => have := isNodeB_iff.1 e; omega

theorem Handed.keep {w w' : World} {g : Nat} {ns : List Nd} (h : Handed w g ns) (hb : Bw w w') : Handed w' g ns :=
  ⟨Nat.lt_of_lt_of_le h.lt hb.size, fun j hj => NodeCells.bw (h.node j hj) h.lt hb, ⟨((bcell hb).1 _ _ h.lt).trans h.room.1, ((bcell hb).1 _ _ h.lt).trans h.room.2⟩, fun o => ((bcell hb).2 _ _ h.lt).trans (h.free o)⟩

end Go.Proofs.YtfemleimkbjehaaGreat
namespace Go.Proofs.YtfemleimkbjehaaGreat
open Go.RowKit

/-- A way from n over the nodes ys to x. -/
def Chain (ns : List Nd) : Int → List Nat → Nat → Prop
  | n, [], x => takesB (ndn ns x) n = true
  | n, y :: ys, x => y < ns.length ∧ takesB (ndn ns y) n = true ∧ Chain ns (y : Int) ys x
def back1 (ns : List Nd) (y : Nat) : Int := if (ndn ns y).kind = 4 then 1 else 0
/-- How many Backs lie on it. -/
def cost (ns : List Nd) : List Nat → Int
  | [] => 0
  | y :: ys => back1 ns y + cost ns ys
theorem back1_bd (ns : List Nd) (y : Nat) : 0 ≤ back1 ns y ∧ back1 ns y ≤ 1 := by unfold back1; split <;> omega
theorem cost_nonneg (ns : List Nd) (ys : List Nat) : 0 ≤ cost ns ys := by
  induction ys with
  | nil => exact Int.le_refl _
  | cons y ys ih => have := back1_bd ns y; unfold cost; omega
theorem cost_snoc (ns : List Nd) (ys : List Nat) (y : Nat) : cost ns (ys ++ [y]) = cost ns ys + back1 ns y := by
  induction ys with
  | nil => simp [cost]
  | cons z ys ih => simp only [List.cons_append, cost, ih]; omega
theorem chain_snoc {ns : List Nd} {x y : Nat} : ∀ {ys : List Nat} {n : Int}, Chain ns n (ys ++ [y]) x ↔ Chain ns n ys y ∧ y < ns.length ∧ takesB (ndn ns x) y = true := by
  intro ys
  induction ys with
  | nil => intro n; simp only [List.nil_append, Chain]; constructor
           · rintro ⟨h1, h2, h3⟩; exact ⟨h2, h1, h3⟩
           · rintro ⟨h2, h1, h3⟩; exact ⟨h1, h2, h3⟩
  | cons z ys ih => intro n; simp only [List.cons_append, Chain, ih]; constructor
                    · rintro ⟨h1, h2, h3, h4, h5⟩; exact ⟨⟨h1, h2, h3⟩, h4, h5⟩
                    · rintro ⟨⟨h1, h2, h3⟩, h4, h5⟩; exact ⟨h1, h2, h3, h4, h5⟩

/-- v is the least number of Backs on the ways of at most s steps; -1: there is none. -/
def IsMin (ns : List Nd) (n : Int) (x s : Nat) (v : Int) : Prop :=
  (v = -1 ∧ ∀ ys, Chain ns n ys x → ¬ ys.length + 1 ≤ s) ∨
  (0 ≤ v ∧ (∃ ys, Chain ns n ys x ∧ ys.length + 1 ≤ s ∧ cost ns ys = v) ∧ ∀ ys, Chain ns n ys x → ys.length + 1 ≤ s → v ≤ cost ns ys)
theorem IsMin.eq {ns : List Nd} {n : Int} {x s : Nat} {v u : Int} (h : IsMin ns n x s v) (k : IsMin ns n x s u) : v = u := by
  rcases h with ⟨e, h⟩ | ⟨h0, ⟨ys, h1, h2, h3⟩, h4⟩
  · rcases k with ⟨e', _⟩ | ⟨_, ⟨ys, k1, k2, _⟩, _⟩
    · omega
    · exact absurd k2 (h ys k1)
  · rcases k with ⟨_, k⟩ | ⟨_, ⟨zs, k1, k2, k3⟩, k4⟩
    · exact absurd h2 (k ys h1)
    · have := h4 zs k1 k2
      have := k4 ys h1 h2
      omega

theorem leastTo_min {ns : List Nd} {f : Int → Int} {n x : Int} (hf : ∀ y, -1 ≤ f y) (K : Nat) :
    (leastTo ns f n x K = -1 ∧ ∀ y, y < K → takesB (ndn ns y) n = true → dB ns x f y = -1) ∨
    (0 ≤ leastTo ns f n x K ∧ (∃ y, y < K ∧ takesB (ndn ns y) n = true ∧ dB ns x f y = leastTo ns f n x K) ∧ ∀ y, y < K → takesB (ndn ns y) n = true → 0 ≤ dB ns x f y → leastTo ns f n x K ≤ dB ns x f y) := by
  induction K with
  | zero => exact .inl ⟨rfl, fun y hy => absurd hy (Nat.not_lt_zero y)⟩
  | succ K ih =>
    cases ht : takesB (ndn ns K) n with
    | false =>
      rw [leastTo_skip ht]
      rcases ih with ⟨h1, h2⟩ | ⟨h1, ⟨y, h2, h3⟩, h4⟩
      · refine .inl ⟨h1, fun y hy hyt => ?_⟩
        by_cases e : y = K
        · subst e; rw [ht] at hyt; cases hyt
        · exact h2 y (by omega) hyt
      · refine .inr ⟨h1, ⟨y, by omega, h3⟩, fun y hy hyt => ?_⟩
        by_cases e : y = K
        · subst e; rw [ht] at hyt; cases hyt
        · exact h4 y (by omega) hyt
    | true =>
      rw [leastTo_take ht]
      have hd := dB_lo (ns := ns) (x := x) (k := K) hf
      rcases ih with ⟨h1, h2⟩ | ⟨h1, ⟨y, h2, h3, h5⟩, h4⟩
      · rw [h1]
        by_cases e0 : 0 ≤ dB ns x f K
        · rw [stepB_yes e0 (.inl (by omega))]
          refine .inr ⟨e0, ⟨K, by omega, ht, rfl⟩, fun y hy hyt hy0 => ?_⟩
          by_cases e : y = K
          · subst e; exact Int.le_refl _
          · have := h2 y (by omega) hyt; omega
        · rw [stepB_neg (by omega)]
          refine .inl ⟨rfl, fun y hy hyt => ?_⟩
          by_cases e : y = K
          · subst e; omega
          · exact h2 y (by omega) hyt
      · by_cases e0 : 0 ≤ dB ns x f K ∧ dB ns x f K < leastTo ns f n x K
        · rw [stepB_yes e0.1 (.inr e0.2)]
          refine .inr ⟨e0.1, ⟨K, by omega, ht, rfl⟩, fun y hy hyt hy0 => ?_⟩
          by_cases e : y = K
          · subst e; exact Int.le_refl _
          · have := h4 y (by omega) hyt hy0; omega
        · have es : stepB (leastTo ns f n x K) (dB ns x f K) = leastTo ns f n x K := by unfold stepB; rw [if_neg (by omega)]
          rw [es]
          refine .inr ⟨h1, ⟨y, by omega, h3, h5⟩, fun y hy hyt hy0 => ?_⟩
          by_cases e : y = K
          · subst e; omega
          · exact h4 y (by omega) hyt hy0

theorem dB_eq {ns : List Nd} {x y : Nat} {f : Int → Int} (h : y ≠ x) (h0 : 0 ≤ f y) : dB ns x f y = f y + back1 ns y := by
  have hne : ¬ (y : Int) = x := by omega
  unfold back1
  by_cases h4 : (ndn ns y).kind = 4
  · rw [dB_back hne h0 h4, if_pos h4]
  · rw [dB_not hne (fun h => h4 h.2), if_neg h4]; omega
theorem dB_neg {ns : List Nd} {x y : Nat} {f : Int → Int} (h : y ≠ x) (h0 : f y = -1) : dB ns x f y = -1 := by
  rw [dB_not (by omega) (fun h => by omega), h0]

theorem leastB_min {ns : List Nd} {x : Nat} (hx : x < ns.length) (s : Nat) : ∀ n : Int, IsMin ns n x s (leastB ns x s n) := by
  induction s with
  | zero => intro n; exact .inl ⟨rfl, fun ys _ h => by omega⟩
  | succ s ih =>
    intro n
    have hf := leastB_lo ns x s
    have hf1 : ∀ y : Nat, leastB ns x s y = -1 ∨ 0 ≤ leastB ns x s y := fun y => by have := hf y; omega
    unfold leastB
    rcases leastTo_min (ns := ns) (n := n) (x := (x : Int)) hf ns.length with ⟨h1, h2⟩ | ⟨h1, ⟨y, h2, h3, h5⟩, h4⟩
    · refine .inl ⟨h1, ?_⟩
      intro ys hc hl
      cases ys with
      | nil => have := h2 x hx hc; rw [dB_x rfl] at this; omega
      | cons y ys =>
        obtain ⟨c1, c2, c3⟩ := hc
        have hd := h2 y c1 c2
        by_cases e : y = x
        · subst e; rw [dB_x rfl] at hd; omega
        · rcases hf1 y with h | h
          · rcases ih (y : Int) with ⟨_, h6⟩ | ⟨h6, _⟩
            · simp at hl; exact h6 ys c3 (by omega)
            · omega
          · rw [dB_eq e h] at hd; have := back1_bd ns y; omega
    · refine .inr ⟨h1, ?_, ?_⟩
      · by_cases e : y = x
        · subst e
          rw [dB_x rfl] at h5
          exact ⟨[], h3, by simp, h5⟩
        · rcases hf1 y with h | h
          · rw [dB_neg e h] at h5; omega
          · rw [dB_eq e h] at h5
            rcases ih (y : Int) with ⟨h6, _⟩ | ⟨_, ⟨ys, g1, g2, g3⟩, _⟩
            · omega
            · exact ⟨y :: ys, ⟨h2, h3, g1⟩, by simp; omega, by unfold cost; omega⟩
      · intro ys hc hl
        cases ys with
        | nil => have := h4 x hx hc (by rw [dB_x rfl]; omega); rw [dB_x rfl] at this; exact this
        | cons z ys =>
          obtain ⟨c1, c2, c3⟩ := hc
          have hcz := cost_nonneg ns (z :: ys)
          by_cases e : z = x
          · subst e
            have := h4 z c1 c2 (by rw [dB_x rfl]; omega)
            rw [dB_x rfl] at this
            omega
          · rcases ih (z : Int) with ⟨_, h6⟩ | ⟨h6, _, g4⟩
            · simp at hl; exact absurd (by omega) (h6 ys c3)
            · have g := g4 ys c3 (by simp at hl; omega)
              have hb := back1_bd ns z
              have := h4 z c1 c2 (by rw [dB_eq e h6]; omega)
              rw [dB_eq e h6] at this
              unfold cost
              omega

theorem oneTo_nth (ns : List Nd) (n : Int) : ∀ k x, x < k → nth (oneTo ns n k) x = one1 ns n x := by
  intro k
  induction k with
  | zero => intro x hx; omega
  | succ k ih =>
    intro x hx
    rw [nth_lt (by rw [oneTo_len]; exact hx)]
    unfold oneTo
    by_cases e : x < k
    · rw [List.getElem_append_left (by rw [oneTo_len]; exact e), ← nth_lt (by rw [oneTo_len]; exact e)]
      exact ih x e
    · have hx' : x = (oneTo ns n k).length := by rw [oneTo_len]; omega
      have hk' : x = k := by omega
      subst hk'
      rw [List.getElem_append_right (by rw [oneTo_len]; exact Nat.le_refl _)]
      simp
theorem moreL_nth (ns : List Nd) (fr : List Int) : ∀ k x, x < k → nth (moreL ns fr k) x = moreTo ns fr x (nth fr x) fr.length := by
  intro k
  induction k with
  | zero => intro x hx; omega
  | succ k ih =>
    intro x hx
    rw [nth_lt (by rw [moreL_len]; exact hx)]
    unfold moreL
    by_cases e : x < k
    · rw [List.getElem_append_left (by rw [moreL_len]; exact e), ← nth_lt (by rw [moreL_len]; exact e)]
      exact ih x e
    · have hk' : x = k := by omega
      subst hk'
      rw [List.getElem_append_right (by rw [moreL_len]; exact Nat.le_refl _)]
      simp

theorem toY_eq (ns : List Nd) (fr : List Int) (y : Nat) : toY ns fr y = nth fr y + back1 ns y := by
  unfold toY back1; split <;> omega
theorem moreTo_min {ns : List Nd} {fr : List Int} {x : Nat} {d0 : Int} (hd : -1 ≤ d0) (hf : ∀ y, y < fr.length → -1 ≤ nth fr y) : ∀ K, K ≤ fr.length →
    (moreTo ns fr x d0 K = -1 ∧ d0 = -1 ∧ ∀ y, y < K → takesB (ndn ns x) y = true → nth fr y = -1) ∨
    (0 ≤ moreTo ns fr x d0 K ∧ (moreTo ns fr x d0 K = d0 ∨ ∃ y, y < K ∧ 0 ≤ nth fr y ∧ takesB (ndn ns x) y = true ∧ toY ns fr y = moreTo ns fr x d0 K) ∧ (0 ≤ d0 → moreTo ns fr x d0 K ≤ d0) ∧
      ∀ y, y < K → 0 ≤ nth fr y → takesB (ndn ns x) y = true → moreTo ns fr x d0 K ≤ toY ns fr y) := by
  intro K hK
  induction K with
  | zero =>
    by_cases e : 0 ≤ d0
    · exact .inr ⟨e, .inl rfl, fun _ => Int.le_refl _, fun y hy => absurd hy (Nat.not_lt_zero y)⟩
    · exact .inl ⟨by unfold moreTo; omega, by omega, fun y hy => absurd hy (Nat.not_lt_zero y)⟩
  | succ K ih =>
    have ih := ih (by omega)
    have hK0 := hf K (by omega)
    by_cases hs : nth fr K = -1 ∨ takesB (ndn ns x) K = false
    · rw [moreTo_skip hs]
      rcases ih with ⟨h1, h2, h3⟩ | ⟨h1, h2, h3, h4⟩
      · refine .inl ⟨h1, h2, fun y hy hyt => ?_⟩
        by_cases e : y = K
        · subst e
          rcases hs with hs | hs
          · exact hs
          · rw [hs] at hyt; cases hyt
        · exact h3 y (by omega) hyt
      · refine .inr ⟨h1, ?_, h3, fun y hy hy0 hyt => ?_⟩
        · rcases h2 with h2 | ⟨y, h2, h5⟩
          · exact .inl h2
          · exact .inr ⟨y, by omega, h5⟩
        · by_cases e : y = K
          · subst e
            rcases hs with hs | hs
            · omega
            · rw [hs] at hyt; cases hyt
          · exact h4 y (by omega) hy0 hyt
    · have hs1 : nth fr K ≠ -1 := fun h => hs (.inl h)
      have hs2 : takesB (ndn ns x) K = true := by
        cases h : takesB (ndn ns x) K with
        | true => rfl
        | false => exact absurd (.inr h) hs
      rw [moreTo_go hs1 hs2]
      have htY := toY_eq ns fr K
      have hb := back1_bd ns K
      rcases ih with ⟨h1, h2, h3⟩ | ⟨h1, h2, h3, h4⟩
      · rw [better_yes (.inl h1)]
        refine .inr ⟨by omega, .inr ⟨K, by omega, by omega, hs2, rfl⟩, fun h => by omega, fun y hy hy0 hyt => ?_⟩
        by_cases e : y = K
        · subst e; exact Int.le_refl _
        · have := h3 y (by omega) hyt; omega
      · by_cases e : toY ns fr K < moreTo ns fr x d0 K
        · rw [better_yes (.inr e)]
          clear h2
          refine .inr ⟨by omega, .inr ⟨K, by omega, by omega, hs2, rfl⟩, fun h => by have := h3 h; omega, fun y hy hy0 hyt => ?_⟩
          by_cases ey : y = K
          · subst ey; exact Int.le_refl _
          · have := h4 y (by omega) hy0 hyt; omega
        · rw [better_no (by clear h2; omega) (by clear h2; omega)]
          refine .inr ⟨h1, ?_, h3, fun y hy hy0 hyt => ?_⟩
          · rcases h2 with h2 | ⟨y, h2, h5⟩
            · exact .inl h2
            · exact .inr ⟨y, by omega, h5⟩
          · by_cases ey : y = K
            · subst ey; omega
            · exact h4 y (by omega) hy0 hyt

theorem distL_min {ns : List Nd} {n : Int} (s : Nat) : ∀ x, x < ns.length → IsMin ns n x (s + 1) (nth (distL ns n s) x) := by
  induction s with
  | zero =>
    intro x hx
    unfold distL
    rw [oneTo_nth ns n _ x hx]
    unfold one1
    cases ht : takesB (ndn ns x) n with
    | true => exact .inr ⟨by simp, ⟨[], ht, by simp, by simp [cost]⟩, fun ys _ _ => by simp; exact cost_nonneg ns ys⟩
    | false =>
      refine .inl ⟨by simp, fun ys hc hl => ?_⟩
      cases ys with
      | nil => unfold Chain at hc; rw [ht] at hc; cases hc
      | cons y ys => simp at hl
  | succ s ih =>
    intro x hx
    unfold distL
    have hlen := distL_len ns n s
    have hlow := distL_low ns n s
    rw [hlen, moreL_nth ns _ _ x hx]
    have hx1 := hlow x (by omega)
    rcases moreTo_min (ns := ns) (fr := distL ns n s) (x := x) (d0 := nth (distL ns n s) x) hx1.1 (fun y hy => (hlow y hy).1) _ (Nat.le_refl _) with ⟨h1, h2, h3⟩ | ⟨h1, h2, h3, h4⟩
    · refine .inl ⟨h1, fun ys hc hl => ?_⟩
      rcases ih x hx with ⟨_, g⟩ | ⟨g, _⟩
      · by_cases e : ys.length + 1 ≤ s + 1
        · exact g ys hc e
        · rcases List.eq_nil_or_concat ys with rfl | ⟨zs, y, rfl⟩
          · simp at e
          · rw [List.concat_eq_append] at hc hl
            obtain ⟨c1, c2, c3⟩ := chain_snoc.1 hc
            have := h3 y (by omega) c3
            rcases ih y c2 with ⟨_, k⟩ | ⟨k, _⟩
            · simp at hl; exact k zs c1 (by omega)
            · omega
      · omega
    · refine .inr ⟨h1, ?_, fun ys hc hl => ?_⟩
      · rcases h2 with h2 | ⟨y, g1, g2, g3, g4⟩
        · rcases ih x hx with ⟨g, _⟩ | ⟨_, ⟨ys, g1, g2, g3⟩, _⟩
          · omega
          · exact ⟨ys, g1, by omega, by omega⟩
        · rcases ih y (by omega) with ⟨k, _⟩ | ⟨_, ⟨zs, k1, k2, k3⟩, _⟩
          · omega
          · refine ⟨zs ++ [y], chain_snoc.2 ⟨k1, by omega, g3⟩, by simp; omega, ?_⟩
            rw [cost_snoc, k3, ← g4, toY_eq]
      · by_cases e : ys.length + 1 ≤ s + 1
        · rcases ih x hx with ⟨_, g⟩ | ⟨g0, _, g⟩
          · exact absurd e (g ys hc)
          · have := g ys hc e
            have := h3 g0
            omega
        · rcases List.eq_nil_or_concat ys with rfl | ⟨zs, y, rfl⟩
          · simp at e
          · rw [List.concat_eq_append] at hc hl ⊢
            obtain ⟨c1, c2, c3⟩ := chain_snoc.1 hc
            rcases ih y c2 with ⟨_, k⟩ | ⟨k0, _, k⟩
            · simp at hl; exact absurd (by omega) (k zs c1)
            · have := k zs c1 (by simp at hl; omega)
              have g := h4 y (by omega) k0 c3
              rw [toY_eq] at g
              rw [cost_snoc]
              omega

theorem dist_same (ns : List Nd) (r n x : Int) : rdistV ns r n x = distV ns r n x := by
  unfold rdistV distV
  by_cases h : distE ns r n x = 0
  · rw [if_pos h, if_pos h]
    unfold distE at h
    split at h
    · rename_i hc
      have h1 := (checkE_zero hc).1
      split at h
      · rename_i hnode
        simp only [Bool.and_eq_true] at hnode
        obtain ⟨x0, x1⟩ := isNodeB_iff.1 hnode.2
        obtain ⟨xi, rfl⟩ := Int.eq_ofNat_of_zero_le x0
        rw [Int.toNat_natCast]
        have a := leastB_min (ns := ns) (x := xi) (by omega) ns.length n
        have b := distL_min (ns := ns) (n := n) (ns.length - 1) xi (by omega)
        rw [show ns.length - 1 + 1 = ns.length by omega] at b
        exact a.eq b
      · cases h
    · rename_i hc; exact absurd h hc
  · rw [if_neg h, if_neg h]
end Go.Proofs.YtfemleimkbjehaaGreat
namespace Go.Proofs.YtfemleimkbjehaaGreat
open Go.RowKit

def distD (ns : List Nd) : Nat → Nat → Int := fun n x => nth (distL ns (n : Int) (ns.length - 1)) x
theorem distD_far {ns : List Nd} {n x : Nat} (h1 : 1 ≤ ns.length) (hx : x < ns.length) : distD ns n x = farD ns n x := by
  have a := distL_min (ns := ns) (n := (n : Int)) (ns.length - 1) x hx
  have b := leastB_min hx ns.length (n : Int)
  rw [show ns.length - 1 + 1 = ns.length by omega] at a
  exact a.eq b
theorem distRow (ns : List Nd) (n : Nat) : (distL ns (n : Int) (ns.length - 1)).map (Value.int .i64) = intRow ns.length (distD ns n) := by
  apply List.ext_getElem?
  intro j
  have hl := distL_len ns (n : Int) (ns.length - 1)
  unfold intRow distD
  by_cases hj : j < ns.length
  · simp [hj, nth, List.getD, List.getElem?_eq_getElem (show j < (distL ns (n : Int) (ns.length - 1)).length by omega)]
  · simp [hj, List.getElem?_eq_none (show (distL ns (n : Int) (ns.length - 1)).length ≤ j by omega)]
theorem TabB.setD {base : Nat} {w : World} {v : Value} {n m rb k : Nat} {f : Nat → Nat → Int} {arr : Array Value} {fr : Nat × Nat} {u : Value} (h : TabB base w v n m f) (hr : w.heap[rb]? = some (.cells arr 85 fr)) : TabB base (w.setCell ⟨rb, k, none⟩ u) v n m f :=
  h.map fun ty _ _ _ ht h => ownsRow_setT hr h (by rcases ht with rfl | rfl <;> decide)

set_option maxRecDepth 100000 in
set_option maxHeartbeats 4000000 in
theorem pdistOf_any (ns : List Nd) (ga : Option Addr) (gc : Nat) (r : Int) (w : World) (hn : NodesAt w ga ns) (h1 : 1 ≤ ns.length) (h8 : ns.length ≤ 8) :
    Calls Tryz.prog 50 #[.agg #[.slice ga ns.length gc, .int .i64 r]] w fun e w' => ∃ v, e = .returned (.agg #[v]) ∧ TabB w.heap.size w' v ns.length ns.length (distD ns) ∧ Bw w w' := by
  go_enter Tryz.func50, Tryz.ntmps50
  go_wp2_with fail
  obtain ⟨w0, hw0⟩ : ∃ w0, ((w.alloc (.cells #[.slice ga ns.length gc, .int .i64 r] 24)).alloc (.cells #[.slice none 0 0] 85)).alloc (.cells #[.slice none 0 0] 85) = w0 := ⟨_, rfl⟩
  rw [hw0]
  obtain ⟨hz0, hg0, hd1, hd2, hB0⟩ : w0.heap.size = w.heap.size + 1 + 1 + 1 ∧ w0.heap[w.heap.size]? = some (.cells #[.slice ga ns.length gc, .int .i64 r] 24 (0, 0)) ∧ w0.heap[w.heap.size + 1]? = some (.cells #[.slice none 0 0] 85 (0, 0)) ∧ w0.heap[w.heap.size + 1 + 1]? = some (.cells #[.slice none 0 0] 85 (0, 0)) ∧ Bw w w0 := by
    rw [← hw0]
    refine ⟨by simp, ?_, ?_, ?_, (by repeat (first | exact Bw.refl _ | assumption | refine Bw.drew ?_ | refine Bw.drewN ?_ _ | refine Bw.alloc ?_ _ | refine Bw.trans ?_ (by assumption)))⟩
    · exact (Below.block (show Bw (w.alloc (.cells #[.slice ga ns.length gc, .int .i64 r] 24)) _ from (by repeat (first | exact Bw.refl _ | assumption | refine Bw.drew ?_ | refine Bw.drewN ?_ _ | refine Bw.alloc ?_ _ | refine Bw.trans ?_ (by assumption)))) _ (by simp)).trans (heap_alloc_new w _)
    · have := (Below.block (show Bw ((w.alloc (.cells #[.slice ga ns.length gc, .int .i64 r] 24)).alloc (.cells #[.slice none 0 0] 85)) (((w.alloc (.cells #[.slice ga ns.length gc, .int .i64 r] 24)).alloc (.cells #[.slice none 0 0] 85)).alloc (.cells #[.slice none 0 0] 85)) from (by repeat (first | exact Bw.refl _ | assumption | refine Bw.drew ?_ | refine Bw.drewN ?_ _ | refine Bw.alloc ?_ _ | refine Bw.trans ?_ (by assumption)))) (w.heap.size + 1) (by simp)).trans (show _ = some (.cells #[.slice none 0 0] 85 (0, 0)) from by rw [show w.heap.size + 1 = (w.alloc (.cells #[.slice ga ns.length gc, .int .i64 r] 24)).heap.size by simp]; exact heap_alloc_new _ _)
      exact this
    · rw [show w.heap.size + 1 + 1 = ((w.alloc (.cells #[.slice ga ns.length gc, .int .i64 r] 24)).alloc (.cells #[.slice none 0 0] 85)).heap.size by simp]; exact heap_alloc_new _ _
  clear hw0
  obtain ⟨gb, hgb⟩ : ∃ gb, w.heap.size = gb := ⟨_, rfl⟩
  rw [hgb] at hg0 hd1 hd2 hz0
  rw [hgb]
  obtain ⟨db, hdb⟩ : ∃ db, gb + 1 = db := ⟨_, rfl⟩
  obtain ⟨ab, hab⟩ : ∃ ab, gb + 1 + 1 = ab := ⟨_, rfl⟩
  rw [hab] at hd2
  rw [hdb] at hd1
  simp only [hab]
  simp only [hdb]
  have hq1 : w.heap.size ≤ gb ∧ w.heap.size ≤ db ∧ w.heap.size ≤ ab ∧ db ≠ ab := by omega
  clear hgb hdb hab hz0
  go_loopw [9] (fun i wr => ∃ (k : Nat) (v : Value), k ≤ ns.length ∧ i = .int .i64 k ∧ wr.heap[gb]? = some (.cells #[.slice ga ns.length gc, .int .i64 r] 24 (0, 0)) ∧ wr.heap[db]? = some (.cells #[.slice none 0 0] 85 (0, 0)) ∧ wr.heap[ab]? = some (.cells #[v] 85 (0, 0)) ∧ TabB w.heap.size wr v k ns.length (distD ns) ∧ Bw w wr) (fun i _ => ns.length - (intOf i).toNat)
  case atStart => exact ⟨0, _, Nat.zero_le _, rfl, hg0, hd1, hd2, TabB.nil _ _ _ _, hB0⟩
  case round =>
    clear hg0 hd1 hd2 hB0
    obtain ⟨k, v, hk, rfl, hg, hd, ha, hT, hB⟩ := hrel
    rename World => wr
    have hv : ∃ va vc, v = .slice va k vc := by
      obtain ⟨vs, h, _⟩ := hT
      exact ⟨_, _, ownsRow_val h⟩
    obtain ⟨va, vc, rfl⟩ := hv
    have g0 := cell_of_block (o := 0) hg rfl
    have g1 := cell_of_block (o := 1) hg rfl
    have gl := (Array.getElem?_eq_some_iff.1 hg).1
    by_cases hlt : k < ns.length
    · obtain ⟨vs, ht1, ht2⟩ := hT
      have Hg := hide hg
      have Hd := hide hd
      have Ha := hide ha
      have Ht1 := hide ht1
      have Ht2 := hide ht2
      clear hg hd ha ht1 ht2
      go_wp2_with fail
      refine (distFrom_any ns _ _ _ _ _ (hn.below hB) h1 h8).mono ?_
      rintro e w1 ⟨u, rfl, hu, hb1⟩
      obtain ⟨ua, uc, hue, _, _⟩ := hu.form
      subst hue
      have Hu := hide (show w1.ownsRow w.heap.size 3 1 _ ns.length (intRow ns.length (distD ns k)) from by rw [← distRow]; have := ownsRow_weaken hu (Below.size hB); rw [distL_len] at this; exact this)
      clear hu
      have ha1 := (Below.block hb1 _ (Array.getElem?_eq_some_iff.1 (unhide Ha)).1).trans (unhide Ha)
      have a0 := cell_of_block (o := 0) ha1 rfl
      have al := (Array.getElem?_eq_some_iff.1 ha1).1
      have Ha1 := hide ha1
      clear ha1
      rw [distL_len]
      have hB1 := hB.trans hb1
      go_wp2_with (at_builtin; refine appL _ rfl _ _ _ 94 rfl _ 1 24 Tryz.infoIntsR Tryz.underlying81 rfl (by decide) w.heap.size _ k vs rfl (ownsRow_bw (unhide Ht1) fun g hg => Below.block (show Bw wr _ from (by repeat (first | exact Bw.refl _ | assumption | refine Bw.drew ?_ | refine Bw.drewN ?_ _ | refine Bw.alloc ?_ _ | refine Bw.trans ?_ (by assumption)))) g hg) _ _ [.slice ua ns.length uc] rfl rfl (cells1 (cell_of_block (alloc_at _ _ (by simp)) rfl)) (by simp [Value.oneCell']) (by omega) (by omega) (Bw.size (show Bw w _ from (by repeat (first | exact Bw.refl _ | assumption | refine Bw.drew ?_ | refine Bw.drewN ?_ _ | refine Bw.alloc ?_ _ | refine Bw.trans ?_ (by assumption))))) ?_; intro g' cap w8 ho8 hg8 hl8; have ha8 := hide (grown_block (ownsRow_bw (unhide Ht1) fun g hg => Below.block (show Bw wr _ from (by repeat (first | exact Bw.refl _ | assumption | refine Bw.drew ?_ | refine Bw.drewN ?_ _ | refine Bw.alloc ?_ _ | refine Bw.trans ?_ (by assumption)))) g hg) hg8 ((Below.block (show Bw w1 _ from (by repeat (first | exact Bw.refl _ | assumption | refine Bw.drew ?_ | refine Bw.drewN ?_ _ | refine Bw.alloc ?_ _ | refine Bw.trans ?_ (by assumption)))) _ (Array.getElem?_eq_some_iff.1 (unhide Ha1)).1).trans (unhide Ha1)) (.inl (by decide))); have q0 := cell_of_block (o := 0) (unhide ha8) rfl; have q0f := frozen_of_block (o := 0) (unhide ha8); have q0l := (Array.getElem?_eq_some_iff.1 (unhide ha8)).1)
      go_roundw
      case rel =>
        obtain ⟨wA, hwA⟩ : ∃ wA, w1.alloc (.cells #[.slice ua ns.length uc] 94) = wA := ⟨_, rfl⟩
        have hbA : Bw w1 wA := by rw [← hwA]; exact (by repeat (first | exact Bw.refl _ | assumption | refine Bw.drew ?_ | refine Bw.drewN ?_ _ | refine Bw.alloc ?_ _ | refine Bw.trans ?_ (by assumption)))
        rw [hwA] at hg8
        have hwrA : Bw wr wA := hb1.trans hbA
        have ht1A := ownsRow_bw (unhide Ht1) fun g hg => Below.block hwrA g hg
        have ht2A : ∀ i, i < k → ∃ u, vs[i]? = some u ∧ wA.ownsRow w.heap.size 3 1 u ns.length (intRow ns.length (distD ns i)) := fun i hi => by
          obtain ⟨u, e, h3⟩ := (unhide Ht2) i hi
          exact ⟨u, e, ownsRow_bw h3 fun g hg => Below.block hwrA g hg⟩
        have hg8' := grown_block ht1A hg8 ((Below.block hwrA _ (Array.getElem?_eq_some_iff.1 (unhide Hg)).1).trans (unhide Hg)) (.inl (by decide))
        have hd8 := grown_block ht1A hg8 ((Below.block hwrA _ (Array.getElem?_eq_some_iff.1 (unhide Hd)).1).trans (unhide Hd)) (.inl (by decide))
        have hT8 := TabB.add (f := distD ns) ht1A ht2A (ownsRow_bw (unhide Hu) fun g hg => Below.block hbA g hg) ho8 hg8
        refine ⟨k + 1, _, by omega, by go_num, ?_, ?_, ?_, hT8.setD (unhide ha8), ?_⟩
        · exact (Below.heap_setCell w8 ⟨ab, 0, none⟩ _ gb (fun e => by simp only at e; rw [e, unhide ha8] at hg8'; simp at hg8')).trans hg8'
        · exact (Below.heap_setCell w8 ⟨ab, 0, none⟩ _ db (fun e => hq1.2.2.2 e)).trans hd8
        · exact (heap_setCell_at (unhide ha8)).trans rfl
        · exact Chg.toBw (S := fun b => b = ab) (bw_own ht1A hg8 (hB1.trans hbA) (Nat.le_refl _)) (chg_set _ _ _ _) (fun x hx => hx ▸ hq1.2.2.1)
      case measure => simp [intOf]; omega
    · have hkk : k = ns.length := by omega
      subst hkk
      have d0 := cell_of_block (o := 0) hd rfl
      have df := frozen_of_block (o := 0) hd
      have dl := (Array.getElem?_eq_some_iff.1 hd).1
      have a0 := cell_of_block (o := 0) ha rfl
      have al := (Array.getElem?_eq_some_iff.1 ha).1
      have hTs := hT.setD (k := 0) (u := .slice va ns.length vc) hd
      have hds := cell_of_block (o := 0) (heap_setCell_at (k := 0) (v := .slice va ns.length vc) hd) rfl
      clear hT hg hd ha
      go_wp2_with fail
      refine bodyPost_ret (v := .agg #[.slice va ns.length vc]) (by simp [results, Tryz.results50, go_sem, hds]) rfl ⟨_, rfl, hTs, ?_⟩
      exact Chg.toBw (S := fun b => b = db) hB (chg_set _ _ _ _) (fun x hx => hx ▸ hq1.2.1)
end Go.Proofs.YtfemleimkbjehaaGreat
