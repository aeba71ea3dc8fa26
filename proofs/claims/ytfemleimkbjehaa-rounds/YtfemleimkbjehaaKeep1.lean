import Derived.Test.YtfemleimkbjehaaOwn3
namespace Go.Proofs.Ytfemleimkbjehaa
open Go.RowKit

def pickB (c n : Int) : Int := if c < 0 then (-(c + 1)) % n else c % n
theorem pickB_bd (c : Int) {n : Int} (h : 0 < n) : 0 ≤ pickB c n ∧ pickB c n < n := by
  unfold pickB
  split
  · exact ⟨Int.emod_nonneg _ (by omega), Int.emod_lt_of_pos _ h⟩
  · exact ⟨Int.emod_nonneg _ (by omega), Int.emod_lt_of_pos _ h⟩

theorem pick_neg {c n : Int} (h : c < 0) : -(c + 1).tmod n = (-(c + 1)) % n := by
  rw [← Int.neg_tmod, Int.tmod_eq_emod_of_nonneg (by omega)]

set_option maxHeartbeats 1000000 in
theorem pick_any (c n : Int) (w : World) (h1 : -9223372036854775808 ≤ c) (h2 : c ≤ 9223372036854775807) (hn : 0 < n) (hn2 : n ≤ 1000) :
    Calls Try.prog 16 #[.int .i64 c, .int .i64 n] w fun e w' => e = .returned (.int .i64 (pickB c n)) ∧ w' = w := by
  have hn0 : (n == 0) = false := by simp; omega
  have hnm : ¬ n = -1 := by omega
  by_cases hc : c < 0
  · have Hp : Hid (pickB c n = (-(c + 1)) % n) := hide (by unfold pickB; rw [if_pos hc])
    go_enter Try.func16, Try.ntmps16
    go_wp2
    go_ret
    exact ⟨ret_int (by rw [unhide Hp, ← pick_neg (by omega)]), rfl⟩
  · have Hp : Hid (pickB c n = c % n) := hide (by unfold pickB; rw [if_neg hc])
    go_enter Try.func16, Try.ntmps16
    go_wp2
    go_ret
    exact ⟨ret_int (by rw [unhide Hp]), rfl⟩

/-- May a node of the kind κ, the n-th, take from a? -/
def chB (ns : List Nd) (n : Nat) (a : Nat) : Bool := !((ndn ns a).kind == 7) && (((ndn ns a).kind == 4) || decide (a < n) || ((ndn ns n).kind == 4))
def chTo (ns : List Nd) (n : Nat) : Nat → List Int
  | 0 => []
  | k + 1 => if chB ns n k then chTo ns n k ++ [(k : Int)] else chTo ns n k
theorem chTo_len (ns : List Nd) (n k : Nat) : (chTo ns n k).length ≤ k := by
  induction k with
  | zero => simp [chTo]
  | succ k ih =>
    unfold chTo
    split
    · simp; omega
    · omega
theorem chTo_yes {ns : List Nd} {n k : Nat} (h : chB ns n k = true) : chTo ns n (k + 1) = chTo ns n k ++ [(k : Int)] := by simp [chTo, h]
theorem chTo_no {ns : List Nd} {n k : Nat} (h : chB ns n k = false) : chTo ns n (k + 1) = chTo ns n k := by simp [chTo, h]
theorem chTo_mem {ns : List Nd} {n : Nat} : ∀ k z, z ∈ chTo ns n k → ∃ a : Nat, z = a ∧ a < k ∧ chB ns n a = true := by
  intro k
  induction k with
  | zero => intro z hz; simp [chTo] at hz
  | succ k ih =>
    intro z hz
    cases h : chB ns n k with
    | true =>
      rw [chTo_yes h, List.mem_append] at hz
      rcases hz with hz | hz
      · obtain ⟨a, e, ha, hc⟩ := ih z hz; exact ⟨a, e, by omega, hc⟩
      · simp at hz; exact ⟨k, hz, by omega, h⟩
    | false => rw [chTo_no h] at hz; obtain ⟨a, e, ha, hc⟩ := ih z hz; exact ⟨a, e, by omega, hc⟩
theorem chTo_has {ns : List Nd} {n : Nat} : ∀ k a, a < k → chB ns n a = true → (a : Int) ∈ chTo ns n k := by
  intro k
  induction k with
  | zero => intro a ha; omega
  | succ k ih =>
    intro a ha hc
    by_cases e : a = k
    · subst e; rw [chTo_yes hc]; simp
    · have := ih a (by omega) hc
      cases h : chB ns n k with
      | true => rw [chTo_yes h]; simp [this]
      | false => rw [chTo_no h]; exact this
theorem chTo_nodup (ns : List Nd) (n k : Nat) : (chTo ns n k).Nodup := by
  induction k with
  | zero => simp [chTo]
  | succ k ih =>
    cases h : chB ns n k with
    | true =>
      rw [chTo_yes h, List.nodup_append]
      refine ⟨ih, by simp, ?_⟩
      intro a ha b hb e
      simp at hb
      obtain ⟨c, e2, hc, _⟩ := chTo_mem k a ha
      omega
    | false => rw [chTo_no h]; exact ih

set_option maxRecDepth 100000 in
set_option maxHeartbeats 2000000 in
theorem choices_any (ns : List Nd) (ga : Option Addr) (gc : Nat) (r : Int) (n : Nat) (w : World) (hn : NodesAt w ga ns) (hg : ns.length ≤ 8) (hnl : n < ns.length) :
    Calls Try.prog 73 #[.agg #[.slice ga ns.length gc, .int .i64 r], .int .i64 (n : Int)] w fun e w' => ∃ v, e = .returned v ∧ Own w w' v (chTo ns n ns.length) ∧ Bw w w' := by
  go_enter Try.func73, Try.ntmps73
  go_wp2
  go_loopw [5, 6] (fun v i wr => ∃ k : Nat, k ≤ ns.length ∧ i = .int .i64 k ∧ Own (w.alloc (.cells #[.slice ga ns.length gc, .int .i64 r] 24)) wr v (chTo ns n k) ∧ Bw (w.alloc (.cells #[.slice ga ns.length gc, .int .i64 r] 24)) wr) (fun _ i _ => ns.length - (intOf i).toNat)
  case atStart => exact ⟨0, Nat.zero_le _, rfl, Own.nil _ _, Bw.refl _⟩
  case round =>
    obtain ⟨k, hk, rfl, hown, hB⟩ := hrel
    obtain ⟨gcc, gff⟩ := bcell hB
    have gz : w.heap.size < wr.heap.size := by have := hB.size; simp at this; omega
    have hol := chTo_len ns n k
    by_cases hlt : k < ns.length
    · obtain ⟨b, off, rfl, hb, hc⟩ := hn k hlt
      obtain ⟨c0, _⟩ := hc k hlt
      obtain ⟨d0, _⟩ := hc n hnl
      clear hc
      have n1 : (0 : Int) ≤ (n : Int) := by omega
      have n2 : (n : Int) < (ns.length : Int) := by omega
      have Hy := hide (@chTo_yes ns n k)
      have Hn := hide (@chTo_no ns n k)
      cases e7 : ((ndn ns k).kind == 7) with
      | true =>
        have e7' : ((ndn ns k).kind != 7) = false := by simp [bne, e7]
        have Hs := hide ((unhide Hn) (by simp [chB, e7]))
        go_wp2_with fail
        go_roundw
        case rel => exact ⟨k + 1, by omega, by go_num, by rw [unhide Hs]; exact hown, hB⟩
        case measure => simp [intOf]; omega
      | false =>
        have e7' : ((ndn ns k).kind != 7) = true := by simp [bne, e7]
        cases hcc : chB ns n k with
        | true =>
          have Hs := hide ((unhide Hy) hcc)
          have hcd := hcc
          unfold chB at hcd
          rw [e7] at hcd
          have Hcd := hide hcd
          clear hcc hcd
          cases e4 : ((ndn ns k).kind == 4) with
          | true =>
            go_wp2_with (at_builtin; refine app1 _ rfl _ _ rfl _ _ (chTo ns n k) rfl (hown.bw (by repeat (first | exact Bw.refl _ | assumption | refine Bw.drew ?_ | refine Bw.drewN ?_ _ | refine Bw.alloc ?_ _ | refine Bw.trans ?_ (by assumption)))) _ _ (k : Int) rfl (by simp) (by omega) (by repeat (first | exact Bw.refl _ | assumption | refine Bw.drew ?_ | refine Bw.drewN ?_ _ | refine Bw.alloc ?_ _ | refine Bw.trans ?_ (by assumption))) ?_; intro v' w1 hown1 hB1 hgr1)
            go_roundw
            case rel => exact ⟨k + 1, by omega, by go_num, by rw [unhide Hs]; exact hown1, hB1⟩
            case measure => simp [intOf]; omega
          | false =>
            by_cases hkn : k < n
            · go_wp2_with (at_builtin; refine app1 _ rfl _ _ rfl _ _ (chTo ns n k) rfl (hown.bw (by repeat (first | exact Bw.refl _ | assumption | refine Bw.drew ?_ | refine Bw.drewN ?_ _ | refine Bw.alloc ?_ _ | refine Bw.trans ?_ (by assumption)))) _ _ (k : Int) rfl (by simp) (by omega) (by repeat (first | exact Bw.refl _ | assumption | refine Bw.drew ?_ | refine Bw.drewN ?_ _ | refine Bw.alloc ?_ _ | refine Bw.trans ?_ (by assumption))) ?_; intro v' w1 hown1 hB1 hgr1)
              go_roundw
              case rel => exact ⟨k + 1, by omega, by go_num, by rw [unhide Hs]; exact hown1, hB1⟩
              case measure => simp [intOf]; omega
            · have en4 : ((ndn ns n).kind == 4) = true := by have := unhide Hcd; rw [e4] at this; simp [hkn] at this; simp [this]
              have hd : decide (k < n) = false := by simpa using hkn
              go_wp2_with (at_builtin; refine app1 _ rfl _ _ rfl _ _ (chTo ns n k) rfl (hown.bw (by repeat (first | exact Bw.refl _ | assumption | refine Bw.drew ?_ | refine Bw.drewN ?_ _ | refine Bw.alloc ?_ _ | refine Bw.trans ?_ (by assumption)))) _ _ (k : Int) rfl (by simp) (by omega) (by repeat (first | exact Bw.refl _ | assumption | refine Bw.drew ?_ | refine Bw.drewN ?_ _ | refine Bw.alloc ?_ _ | refine Bw.trans ?_ (by assumption))) ?_; intro v' w1 hown1 hB1 hgr1)
              go_roundw
              case rel => exact ⟨k + 1, by omega, by go_num, by rw [unhide Hs]; exact hown1, hB1⟩
              case measure => simp [intOf]; omega
        | false =>
          have Hs := hide ((unhide Hn) hcc)
          unfold chB at hcc
          rw [e7] at hcc
          simp only [Bool.not_false, Bool.true_and, Bool.or_eq_false_iff] at hcc
          obtain ⟨⟨e4, hkn⟩, en4⟩ := hcc
          have hkn2 : ¬ k < n := by simpa using hkn
          go_wp2_with fail
          go_roundw
          case rel => exact ⟨k + 1, by omega, by go_num, by rw [unhide Hs]; exact hown, hB⟩
          case measure => simp [intOf]; omega
    · have hkk : k = ns.length := by omega
      subst hkk
      obtain ⟨la, lc, rfl, _, _⟩ := hown.form
      go_wp2
      go_ret
      exact ⟨_, rfl, hown.weaken (by repeat (first | exact Bw.refl _ | assumption | refine Bw.drew ?_ | refine Bw.drewN ?_ _ | refine Bw.alloc ?_ _ | refine Bw.trans ?_ (by assumption))), (by repeat (first | exact Bw.refl _ | assumption | refine Bw.drew ?_ | refine Bw.drewN ?_ _ | refine Bw.alloc ?_ _ | refine Bw.trans ?_ (by assumption)))⟩
end Go.Proofs.Ytfemleimkbjehaa
