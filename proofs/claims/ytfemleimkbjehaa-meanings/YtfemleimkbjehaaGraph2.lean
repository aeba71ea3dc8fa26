import Derived.Test.YtfemleimkbjehaaGraph1
namespace Go.Proofs.Ytfemleimkbjehaa
open Go.RowKit

theorem IntsAt.below {w w' : World} {ad : Option Addr} {xs : List Int} (h : IntsAt w ad xs) (hb : Bw w w') : IntsAt w' ad xs := by
  intro i hi
  obtain ⟨b, off, e, hlt, hc⟩ := h i hi
  exact ⟨b, off, e, Nat.lt_of_lt_of_le hlt hb.size, fun j hj => ((bcell hb).1 _ _ hlt).trans (hc j hj)⟩

def mgTo (ns : List Nd) : Nat → Nat
  | 0 => 0
  | k + 1 => mgTo ns k + (if (ndn ns k).kind == 3 then 1 else 0)
def wfTo (ns : List Nd) : Nat → Bool
  | 0 => true
  | k + 1 => wfTo ns k && wfNodeB ns (ndn ns k)
def wfB (ns : List Nd) (r : Int) : Bool :=
  decide (1 ≤ ns.length) && decide (ns.length ≤ 8) && decide (1 ≤ r) && decide (r ≤ 4) && wfTo ns ns.length && decide (mgTo ns ns.length ≤ 3)

theorem mgTo_le (ns : List Nd) (k : Nat) : mgTo ns k ≤ k := by
  induction k with
  | zero => simp [mgTo]
  | succ k ih => unfold mgTo; split <;> omega
theorem wfTo_false {ns : List Nd} {k : Nat} (h : wfTo ns k = false) : ∀ n, k ≤ n → wfTo ns n = false := by
  intro n hn
  induction n with
  | zero => have : k = 0 := by omega
            subst this; exact h
  | succ n ih =>
    by_cases e : k = n + 1
    · subst e; exact h
    · unfold wfTo; rw [ih (by omega)]; rfl
theorem mgTo_hit {ns : List Nd} {k : Nat} (h : ((ndn ns k).kind == 3) = true) : mgTo ns (k + 1) = mgTo ns k + 1 := by simp [mgTo, h]
theorem mgTo_miss {ns : List Nd} {k : Nat} (h : ((ndn ns k).kind == 3) = false) : mgTo ns (k + 1) = mgTo ns k := by simp [mgTo, h]

theorem wfB_bad {ns : List Nd} {r : Int} (h : ns.length < 1 ∨ 8 < ns.length ∨ r < 1 ∨ 4 < r) : wfB ns r = false := by
  cases hw : wfB ns r with
  | false => rfl
  | true => simp [wfB] at hw; omega
theorem wfB_good {ns : List Nd} {r : Int} (h1 : 1 ≤ ns.length) (h2 : ns.length ≤ 8) (h3 : 1 ≤ r) (h4 : r ≤ 4) : wfB ns r = (wfTo ns ns.length && decide (mgTo ns ns.length ≤ 3)) := by
  simp [wfB, h1, h2, h3, h4]

set_option maxHeartbeats 1000000 in
theorem wf_any (ns : List Nd) (ad : Option Addr) (cap : Nat) (r : Int) (w : World) (hn : NodesAt w ad ns) (hl : ns.length ≤ maxLen) :
    Calls Try.prog 66 #[.agg #[.slice ad ns.length cap, .int .i64 r]] w fun e w' => e = .returned (.bool (wfB ns r)) ∧ Bw w w' := by
  have hl2 := hl
  unfold maxLen at hl2
  by_cases hbad : ns.length < 1 ∨ 8 < ns.length ∨ r < 1 ∨ 4 < r
  · have HB := hide (wfB_bad hbad)
    rcases hbad with h1 | h2 | h3 | h4
    · go_enter Try.func66, Try.ntmps66
      go_wp2
      go_ret
      exact ⟨ret_bool (unhide HB).symm, (by repeat (first | exact Bw.refl _ | assumption | refine Bw.drew ?_ | refine Bw.drewN ?_ _ | refine Bw.alloc ?_ _ | refine Bw.trans ?_ (by assumption)))⟩
    · go_enter Try.func66, Try.ntmps66
      go_wp2
      go_ret
      exact ⟨ret_bool (unhide HB).symm, (by repeat (first | exact Bw.refl _ | assumption | refine Bw.drew ?_ | refine Bw.drewN ?_ _ | refine Bw.alloc ?_ _ | refine Bw.trans ?_ (by assumption)))⟩
    · go_enter Try.func66, Try.ntmps66
      go_wp2
      all_goals
        go_ret
        exact ⟨ret_bool (unhide HB).symm, (by repeat (first | exact Bw.refl _ | assumption | refine Bw.drew ?_ | refine Bw.drewN ?_ _ | refine Bw.alloc ?_ _ | refine Bw.trans ?_ (by assumption)))⟩
    · go_enter Try.func66, Try.ntmps66
      go_wp2
      all_goals
        go_ret
        exact ⟨ret_bool (unhide HB).symm, (by repeat (first | exact Bw.refl _ | assumption | refine Bw.drew ?_ | refine Bw.drewN ?_ _ | refine Bw.alloc ?_ _ | refine Bw.trans ?_ (by assumption)))⟩
  have h1 : 1 ≤ ns.length := by omega
  have h2 : ns.length ≤ 8 := by omega
  have h3 : 1 ≤ r := by omega
  have h4 : r ≤ 4 := by omega
  clear hbad
  have hfin := wfB_good h1 h2 h3 h4
  have HF := hide hfin
  clear hfin
  go_enter Try.func66, Try.ntmps66
  go_wp2
  go_loopw [3, 27] (fun m i wr => ∃ k : Nat, k ≤ ns.length ∧ i = .int .i64 k ∧ m = .int .i64 (mgTo ns k) ∧ wfTo ns k = true ∧
      Bw (w.alloc (.cells #[.slice ad ns.length cap, .int .i64 r] 24)) wr)
    (fun _ i _ => ns.length - (intOf i).toNat)
  case atStart => exact ⟨0, Nat.zero_le _, rfl, rfl, rfl, Bw.refl _⟩
  case round =>
    obtain ⟨k, hk, rfl, rfl, hwf, hB⟩ := hrel
    have Hwf := hide hwf
    clear hwf
    obtain ⟨gcc, gff⟩ := bcell hB
    have gz : w.heap.size < wr.heap.size := by have := hB.size; simp at this; omega
    have hm := mgTo_le ns k
    by_cases hlt : k < ns.length
    · obtain ⟨b, off, rfl, hb, hc⟩ := hn k hlt
      obtain ⟨c0, c1, c2, c3, c4⟩ := hc k hlt
      clear hc
      cases hwk : wfNodeB ns (ndn ns k) with
      | false =>
        have Hwk := hide hwk
        clear hwk
        go_wp2_with (go_at_call 93; refine (wfNode_any ns (ndn ns k) _ _ _ _ (hn.below (by repeat (first | exact Bw.refl _ | assumption | refine Bw.drew ?_ | refine Bw.drewN ?_ _ | refine Bw.alloc ?_ _ | refine Bw.trans ?_ (by assumption)))) hl).mono ?_; rintro e w' ⟨rfl, hbl⟩; rw [unhide Hwk]; obtain ⟨hcc, hff⟩ := bcell hbl)
        go_ret
        exact ⟨ret_bool (by rw [unhide HF, wfTo_false (k := k + 1) (by unfold wfTo; rw [unhide Hwk]; simp) _ (by omega)]; rfl), (by repeat (first | exact Bw.refl _ | assumption | refine Bw.drew ?_ | refine Bw.drewN ?_ _ | refine Bw.alloc ?_ _ | refine Bw.trans ?_ (by assumption)))⟩
      | true =>
        have Hwk := hide hwk
        clear hwk
        go_wp2_with (go_at_call 93; refine (wfNode_any ns (ndn ns k) _ _ _ _ (hn.below (by repeat (first | exact Bw.refl _ | assumption | refine Bw.drew ?_ | refine Bw.drewN ?_ _ | refine Bw.alloc ?_ _ | refine Bw.trans ?_ (by assumption)))) hl).mono ?_; rintro e w' ⟨rfl, hbl⟩; rw [unhide Hwk]; obtain ⟨hcc, hff⟩ := bcell hbl)
        · go_roundw
          case rel => exact ⟨k + 1, by omega, by go_num, by rw [mgTo_hit (by assumption)]; go_num, by unfold wfTo; rw [unhide Hwf, unhide Hwk]; rfl, (by repeat (first | exact Bw.refl _ | assumption | refine Bw.drew ?_ | refine Bw.drewN ?_ _ | refine Bw.alloc ?_ _ | refine Bw.trans ?_ (by assumption)))⟩
          case measure => simp [intOf]; omega
        · go_roundw
          case rel => exact ⟨k + 1, by omega, by go_num, by rw [mgTo_miss (by assumption)], by unfold wfTo; rw [unhide Hwf, unhide Hwk]; rfl, (by repeat (first | exact Bw.refl _ | assumption | refine Bw.drew ?_ | refine Bw.drewN ?_ _ | refine Bw.alloc ?_ _ | refine Bw.trans ?_ (by assumption)))⟩
          case measure => simp [intOf]; omega
    · have hkk : k = ns.length := by omega
      go_wp2
      go_ret
      exact ⟨ret_bool (by rw [unhide HF, ← hkk, unhide Hwf]; simp; omega), (by repeat (first | exact Bw.refl _ | assumption | refine Bw.drew ?_ | refine Bw.drewN ?_ _ | refine Bw.alloc ?_ _ | refine Bw.trans ?_ (by assumption)))⟩
end Go.Proofs.Ytfemleimkbjehaa
