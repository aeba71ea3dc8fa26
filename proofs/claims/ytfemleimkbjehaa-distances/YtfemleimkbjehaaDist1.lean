import Derived.Test.YtfemleimkbjehaaRef6
import Derived.Test.YtfemleimkbjehaaOwn2
namespace Go.Proofs.Ytfemleimkbjehaa
open Go.RowKit

def one1 (ns : List Nd) (n : Int) (k : Nat) : Int := if takesB (ndn ns k) n then 0 else -1
def oneTo (ns : List Nd) (n : Int) : Nat → List Int
  | 0 => []
  | k + 1 => oneTo ns n k ++ [one1 ns n k]
/-- The distance to x over one step more, the nodes ahead of k gone over. -/
def toY (ns : List Nd) (fr : List Int) (k : Nat) : Int := if (ndn ns k).kind = 4 then nth fr k + 1 else nth fr k
def better (d t : Int) : Int := if d = -1 ∨ t < d then t else d
def moreTo (ns : List Nd) (fr : List Int) (x : Nat) (d0 : Int) : Nat → Int
  | 0 => d0
  | k + 1 => if nth fr k = -1 ∨ takesB (ndn ns x) k = false then moreTo ns fr x d0 k else better (moreTo ns fr x d0 k) (toY ns fr k)
def moreL (ns : List Nd) (fr : List Int) : Nat → List Int
  | 0 => []
  | k + 1 => moreL ns fr k ++ [moreTo ns fr k (nth fr k) fr.length]
def distL (ns : List Nd) (n : Int) : Nat → List Int
  | 0 => oneTo ns n ns.length
  | s + 1 => moreL ns (distL ns n s) (distL ns n s).length

theorem oneTo_len (ns : List Nd) (n : Int) (k : Nat) : (oneTo ns n k).length = k := by
  induction k with
  | zero => rfl
  | succ k ih => simp [oneTo, ih]
theorem moreL_len (ns : List Nd) (fr : List Int) (k : Nat) : (moreL ns fr k).length = k := by
  induction k with
  | zero => rfl
  | succ k ih => simp [moreL, ih]
theorem distL_len (ns : List Nd) (n : Int) (s : Nat) : (distL ns n s).length = ns.length := by
  induction s with
  | zero => exact oneTo_len _ _ _
  | succ s ih => unfold distL; rw [moreL_len, ih]
theorem oneTo_yes {ns : List Nd} {n : Int} {k : Nat} (h : takesB (ndn ns k) n = true) : oneTo ns n (k + 1) = oneTo ns n k ++ [0] := by simp [oneTo, one1, h]
theorem oneTo_no {ns : List Nd} {n : Int} {k : Nat} (h : takesB (ndn ns k) n = false) : oneTo ns n (k + 1) = oneTo ns n k ++ [-1] := by simp [oneTo, one1, h]

set_option maxHeartbeats 1000000 in
theorem oneStep_any (ns : List Nd) (ga : Option Addr) (gc : Nat) (r n : Int) (w : World) (hn : NodesAt w ga ns) (hg : ns.length ≤ 8) :
    Calls Try.prog 100 #[.agg #[.slice ga ns.length gc, .int .i64 r], .int .i64 n] w fun e w' => ∃ v, e = .returned v ∧ Own w w' v (oneTo ns n ns.length) ∧ Bw w w' := by
  go_enter Try.func100, Try.ntmps100
  go_wp2
  go_loopw [5, 12] (fun v i wr => ∃ k : Nat, k ≤ ns.length ∧ i = .int .i64 k ∧ Own (w.alloc (.cells #[.slice ga ns.length gc, .int .i64 r] 24)) wr v (oneTo ns n k) ∧
      Bw (w.alloc (.cells #[.slice ga ns.length gc, .int .i64 r] 24)) wr)
    (fun _ i _ => ns.length - (intOf i).toNat)
  case atStart => exact ⟨0, Nat.zero_le _, rfl, Own.nil _ _, Bw.refl _⟩
  case round =>
    obtain ⟨k, hk, rfl, hown, hB⟩ := hrel
    obtain ⟨gcc, gff⟩ := bcell hB
    have gz : w.heap.size < wr.heap.size := by have := hB.size; simp at this; omega
    have hol := oneTo_len ns n k
    have Hol := hide hol
    clear hol
    by_cases hlt : k < ns.length
    · obtain ⟨b, off, rfl, hb, hc⟩ := hn k hlt
      obtain ⟨c0, c1, c2, c3, c4⟩ := hc k hlt
      clear hc
      cases ht : takesB (ndn ns k) n with
      | true =>
        have HT := hide ht
        clear ht
        go_wp2_with (first | (at_builtin; refine app1 _ rfl _ _ rfl _ _ (oneTo ns n k) rfl (hown.bw (by repeat (first | exact Bw.refl _ | assumption | refine Bw.drew ?_ | refine Bw.drewN ?_ _ | refine Bw.alloc ?_ _ | refine Bw.trans ?_ (by assumption)))) _ _ 0 rfl (by simp) (by have := unhide Hol; omega) (by repeat (first | exact Bw.refl _ | assumption | refine Bw.drew ?_ | refine Bw.drewN ?_ _ | refine Bw.alloc ?_ _ | refine Bw.trans ?_ (by assumption))) ?_; intro v' w1 hown1 hB1 hgr1) | (go_at_call 128; refine (takes_any (ndn ns k) _ _).mono ?_; rintro e w' ⟨rfl, hbl⟩; rw [unhide HT]; obtain ⟨hcc, hff⟩ := bcell hbl))
        go_roundw
        case rel => exact ⟨k + 1, by omega, by go_num, by rw [oneTo_yes (unhide HT)]; exact hown1, hB1⟩
        case measure => simp [intOf]; omega
      | false =>
        have HT := hide ht
        clear ht
        go_wp2_with (first | (at_builtin; refine app1 _ rfl _ _ rfl _ _ (oneTo ns n k) rfl (hown.bw (by repeat (first | exact Bw.refl _ | assumption | refine Bw.drew ?_ | refine Bw.drewN ?_ _ | refine Bw.alloc ?_ _ | refine Bw.trans ?_ (by assumption)))) _ _ (-1) rfl (by simp) (by have := unhide Hol; omega) (by repeat (first | exact Bw.refl _ | assumption | refine Bw.drew ?_ | refine Bw.drewN ?_ _ | refine Bw.alloc ?_ _ | refine Bw.trans ?_ (by assumption))) ?_; intro v' w1 hown1 hB1 hgr1) | (go_at_call 128; refine (takes_any (ndn ns k) _ _).mono ?_; rintro e w' ⟨rfl, hbl⟩; rw [unhide HT]; obtain ⟨hcc, hff⟩ := bcell hbl))
        go_roundw
        case rel => exact ⟨k + 1, by omega, by go_num, by rw [oneTo_no (unhide HT)]; exact hown1, hB1⟩
        case measure => simp [intOf]; omega
    · have hkk : k = ns.length := by omega
      subst hkk
      obtain ⟨la, lc, rfl, _, _⟩ := hown.form
      go_wp2
      go_ret
      exact ⟨_, rfl, hown.weaken (by repeat (first | exact Bw.refl _ | assumption | refine Bw.drew ?_ | refine Bw.drewN ?_ _ | refine Bw.alloc ?_ _ | refine Bw.trans ?_ (by assumption))), (by repeat (first | exact Bw.refl _ | assumption | refine Bw.drew ?_ | refine Bw.drewN ?_ _ | refine Bw.alloc ?_ _ | refine Bw.trans ?_ (by assumption)))⟩

theorem moreTo_skip {ns : List Nd} {fr : List Int} {x : Nat} {d0 : Int} {k : Nat} (h : nth fr k = -1 ∨ takesB (ndn ns x) k = false) : moreTo ns fr x d0 (k + 1) = moreTo ns fr x d0 k := by
  rw [moreTo, if_pos h]
theorem moreTo_go {ns : List Nd} {fr : List Int} {x : Nat} {d0 : Int} {k : Nat} (h1 : nth fr k ≠ -1) (h2 : takesB (ndn ns x) k = true) : moreTo ns fr x d0 (k + 1) = better (moreTo ns fr x d0 k) (toY ns fr k) := by
  rw [moreTo, if_neg (by rw [h2]; simp [h1])]
theorem better_yes {d t : Int} (h : d = -1 ∨ t < d) : better d t = t := by unfold better; rw [if_pos h]
theorem better_no {d t : Int} (h1 : d ≠ -1) (h2 : d ≤ t) : better d t = d := by unfold better; rw [if_neg (by omega)]
theorem toY_back {ns : List Nd} {fr : List Int} {k : Nat} (h : (ndn ns k).kind = 4) : toY ns fr k = nth fr k + 1 := by simp [toY, h]
theorem toY_not {ns : List Nd} {fr : List Int} {k : Nat} (h : (ndn ns k).kind ≠ 4) : toY ns fr k = nth fr k := by simp [toY, h]
/-- Numbers that are distances: none above c. -/
def Low (c : Int) (fr : List Int) : Prop := ∀ j, j < fr.length → -1 ≤ nth fr j ∧ nth fr j ≤ c
theorem moreTo_bd {ns : List Nd} {fr : List Int} {x : Nat} {d0 c : Int} (hf : Low c fr) (h1 : -1 ≤ d0) (h2 : d0 ≤ c + 1) : ∀ k, k ≤ fr.length → -1 ≤ moreTo ns fr x d0 k ∧ moreTo ns fr x d0 k ≤ c + 1 := by
  intro k hk
  induction k with
  | zero => exact ⟨h1, h2⟩
  | succ k ih =>
    have ih := ih (by omega)
    have := hf k (by omega)
    unfold moreTo
    split
    · exact ih
    · unfold better toY
      split <;> split <;> omega
theorem moreL_low {ns : List Nd} {fr : List Int} {c : Int} (hf : Low c fr) : ∀ k, k ≤ fr.length → Low (c + 1) (moreL ns fr k) := by
  intro k hk
  induction k with
  | zero => intro j hj; simp [moreL] at hj
  | succ k ih =>
    have ih := ih (by omega)
    intro j hj
    rw [moreL_len] at hj
    rw [nth_lt (by rw [moreL_len]; exact hj)]
    unfold moreL
    by_cases e : j < k
    · rw [List.getElem_append_left (by rw [moreL_len]; exact e), ← nth_lt (by rw [moreL_len]; exact e)]
      exact ih j (by rw [moreL_len]; exact e)
    · have : j = (moreL ns fr k).length := by rw [moreL_len]; omega
      subst this
      simp
      have hk2 := hf k (by omega)
      exact moreTo_bd hf (by omega) (by omega) _ (Nat.le_refl _)
theorem distL_low (ns : List Nd) (n : Int) (s : Nat) : Low s (distL ns n s) := by
  induction s with
  | zero =>
    have h : ∀ k, Low 0 (oneTo ns n k) := by
      intro k
      induction k with
      | zero => intro j hj; simp [oneTo] at hj
      | succ k ih =>
        intro j hj
        rw [oneTo_len] at hj
        rw [nth_lt (by rw [oneTo_len]; exact hj)]
        unfold oneTo
        by_cases e : j < k
        · rw [List.getElem_append_left (by rw [oneTo_len]; exact e), ← nth_lt (by rw [oneTo_len]; exact e)]
          exact ih j (by rw [oneTo_len]; exact e)
        · have : j = (oneTo ns n k).length := by rw [oneTo_len]; omega
          subst this
          simp [one1]
          split <;> omega
    exact h _
  | succ s ih =>
    unfold distL
    have := moreL_low (ns := ns) ih _ (Nat.le_refl _)
    intro j hj
    have := this j hj
    omega
end Go.Proofs.Ytfemleimkbjehaa
