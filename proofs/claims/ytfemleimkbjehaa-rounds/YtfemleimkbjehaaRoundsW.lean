import Derived.Test.YtfemleimkbjehaaKeep6
import Derived.Test.YtfemleimkbjehaaDist3
import Derived.Test.YtfemleimkbjehaaLaw5
namespace Go.Proofs.Ytfemleimkbjehaa
open Go.RowKit

theorem dist_fit {o : List Nd} {r : Int} (h : FitOk o r) (oa : Option Addr) (oc : Nat) (n x : Nat) (w : World) (hn : NodesAt w oa o) (hn1 : n < o.length) (hx1 : x < o.length) :
    Calls Try.prog 17 #[.agg #[.slice oa o.length oc, .int .i64 r], .int .i64 (n : Int), .int .i64 (x : Int)] w fun e w' => e = .returned (.tuple #[.int .i64 (leastB o x o.length n), .int .i64 0]) ∧ Bw w w' := by
  have hl := wfB_len h.wf
  have e0 : distE o r n x = 0 := distE_ok (fit_check h) (isNodeB_iff.2 ⟨by omega, by omega⟩) (isNodeB_iff.2 ⟨by omega, by omega⟩)
  refine (dist_any o oa oc r n x w hn (by unfold maxLen; omega)).mono ?_
  rintro e w' ⟨rfl, hb⟩
  rw [← dist_same, e0]
  unfold rdistV
  rw [if_pos e0]
  exact ⟨rfl, hb⟩

theorem check_fit {o : List Nd} {r : Int} (h : checkE o r = 0) (oa : Option Addr) (oc : Nat) (w : World) (hn : NodesAt w oa o) (hl : o.length ≤ 8) :
    Calls Try.prog 11 #[.agg #[.slice oa o.length oc, .int .i64 r]] w fun e w' => e = .returned (.tuple #[.int .i64 0, .slice none 0 0]) ∧ Bw w w' := by
  refine (check_any o oa oc r w hn (by unfold maxLen; omega)).mono ?_
  rintro e w' ⟨v, rfl, hL, hb⟩
  unfold CheckL at hL
  rw [h, if_neg (by decide)] at hL
  subst hL
  rw [h]
  exact ⟨rfl, hb⟩

theorem check_cyc {o : List Nd} {r : Int} (h : checkE o r = 2) (oa : Option Addr) (oc : Nat) (w : World) (hn : NodesAt w oa o) (hl : o.length ≤ 8) :
    Calls Try.prog 11 #[.agg #[.slice oa o.length oc, .int .i64 r]] w fun e w' => ∃ (l : List Int) (la : Option Addr) (lc : Nat), e = .returned (.tuple #[.int .i64 2, .slice la l.length lc]) ∧ CycOk o l ∧ l.length ≤ 8 ∧ IntsAt w' la l ∧ Bw w w' := by
  refine (check_any o oa oc r w hn (by unfold maxLen; omega)).mono ?_
  rintro e w' ⟨v, rfl, hL, hb⟩
  unfold CheckL at hL
  rw [if_pos h] at hL
  obtain ⟨c1, c2, _⟩ := checkE_cyc h
  obtain ⟨ad, lc, rfl, hx, _⟩ := hL.form
  rw [h]
  exact ⟨_, ad, lc, rfl, c1, c2, hx, hb⟩

set_option maxRecDepth 100000 in
set_option maxHeartbeats 4000000 in
theorem rounds_any (raw : List Nd) (ga : Option Addr) (gc : Nat) (r a b c : Int) (w : World) (hn : NodesAt w ga raw) (hgl : raw.length ≤ maxLen) (hwf : ∀ j, j < raw.length → (ndn raw j).wf) (ha : I64 a) (hb : I64 b) (hc : I64 c) :
    Calls Try.prog 5 #[.agg #[.slice ga raw.length gc, .int .i64 r], .int .i64 a, .int .i64 b, .int .i64 c] w fun e w' => e = .returned (.bool true) ∧ Bw w w' := by
  have hne := fun (w : World) (a : Option Addr) (n c : Nat) => run_neq_slice_nil_any (P := Try.prog) w 26 3 a n c 0 0 Try.underlying26
  have heq := fun (w : World) (a : Option Addr) (n c : Nat) => Lib.run_eql_slice_nil (P := Try.prog) w 26 3 a n c 0 0 Try.underlying26
  go_enter Try.func5, Try.ntmps5
  go_wp2_with fail
  refine (fit_any raw _ _ _ _ (hn.below (by repeat (first | exact Bw.refl _ | assumption | refine Bw.drew ?_ | refine Bw.drewN ?_ _ | refine Bw.alloc ?_ _ | refine Bw.trans ?_ (by assumption)))) hgl hwf).mono ?_
  rintro e w1 ⟨o, oa, oc, r', rfl, hF, hN, hB1⟩
  clear hn hwf hgl
  have hl := wfB_len hF.wf
  have hz1 : w.heap.size < w1.heap.size := (by have := hB1.size; (try simp at this); omega)
  go_wp2_with fail
  have hN1 : NodesAt (w1.alloc (.cells #[.slice oa o.length oc, .int .i64 r'] 24)) oa o := hN.below (by repeat (first | exact Bw.refl _ | assumption | refine Bw.drew ?_ | refine Bw.drewN ?_ _ | refine Bw.alloc ?_ _ | refine Bw.trans ?_ (by assumption)))
  refine (check_fit (fit_check hF) _ _ _ (hN.below (by repeat (first | exact Bw.refl _ | assumption | refine Bw.drew ?_ | refine Bw.drewN ?_ _ | refine Bw.alloc ?_ _ | refine Bw.trans ?_ (by assumption)))) hl.2).mono ?_
  rintro e w2 ⟨rfl, hB2⟩
  obtain ⟨n, hnE, hnl⟩ : ∃ n : Nat, pickB a o.length = n ∧ n < o.length := by
    have := pickB_bd a (n := o.length) (by omega)
    exact ⟨(pickB a o.length).toNat, by omega, by omega⟩
  obtain ⟨k, hkE, hkl⟩ : ∃ n : Nat, pickB b o.length = n ∧ n < o.length := by
    have := pickB_bd b (n := o.length) (by omega)
    exact ⟨(pickB b o.length).toNat, by omega, by omega⟩
  obtain ⟨x, hxE, hxl⟩ : ∃ n : Nat, pickB c o.length = n ∧ n < o.length := by
    have := pickB_bd c (n := o.length) (by omega)
    exact ⟨(pickB c o.length).toNat, by omega, by omega⟩
  obtain ⟨q1, q2⟩ := bcell hB2
  have hN2 : NodesAt w2 oa o := hN1.below (by repeat (first | exact Bw.refl _ | assumption | refine Bw.drew ?_ | refine Bw.drewN ?_ _ | refine Bw.alloc ?_ _ | refine Bw.trans ?_ (by assumption)))
  go_wp2_with fail
  refine (pick_any _ _ _ ha.1 ha.2 (by omega) (by omega)).mono ?_
  rintro e w' ⟨rfl, rfl⟩
  rw [hnE]
  go_wp2_with fail
  refine (pick_any _ _ _ hb.1 hb.2 (by omega) (by omega)).mono ?_
  rintro e w' ⟨rfl, rfl⟩
  rw [hkE]
  go_wp2_with fail
  refine (pick_any _ _ _ hc.1 hc.2 (by omega) (by omega)).mono ?_
  rintro e w' ⟨rfl, rfl⟩
  rw [hxE]
  clear hnE hkE hxE hN1
  rename_i w2
  have hC2 := hB2
  go_wp2_with fail
  refine (dist_fit hF _ _ n x _ hN2 (by omega) (by omega)).mono ?_
  rintro e w3 ⟨rfl, hB3⟩
  have hC3 : Bw (w1.alloc (.cells #[.slice oa o.length oc, .int .i64 r'] 24)) w3 := hC2.trans hB3
  have hN3 : NodesAt w3 oa o := hN2.below hB3
  clear q1 q2
  obtain ⟨q1, q2⟩ := bcell hC3
  clear hC2 hN2 hB3
  go_wp2_with fail
  refine (dist_fit hF _ _ n k _ hN3 (by omega) (by omega)).mono ?_
  rintro e w4 ⟨rfl, hB4⟩
  have hC4 : Bw (w1.alloc (.cells #[.slice oa o.length oc, .int .i64 r'] 24)) w4 := hC3.trans hB4
  have hN4 : NodesAt w4 oa o := hN3.below hB4
  clear q1 q2
  obtain ⟨q1, q2⟩ := bcell hC4
  clear hC3 hN3 hB4
  go_wp2_with fail
  refine (dist_fit hF _ _ k x _ hN4 (by omega) (by omega)).mono ?_
  rintro e w5 ⟨rfl, hB5⟩
  have hC5 : Bw (w1.alloc (.cells #[.slice oa o.length oc, .int .i64 r'] 24)) w5 := hC4.trans hB5
  have hN5 : NodesAt w5 oa o := hN4.below hB5
  clear q1 q2
  obtain ⟨q1, q2⟩ := bcell hC5
  clear hC4 hN4 hB5
  go_wp2_with fail
  refine (dist_fit hF _ _ n n _ hN5 (by omega) (by omega)).mono ?_
  rintro e w6 ⟨rfl, hB6⟩
  have hC6 : Bw (w1.alloc (.cells #[.slice oa o.length oc, .int .i64 r'] 24)) w6 := hC5.trans hB6
  have hN6 : NodesAt w6 oa o := hN5.below hB6
  clear q1 q2
  obtain ⟨q1, q2⟩ := bcell hC6
  clear hC5 hN5 hB6
  have b1 := leastB_bd o x o.length n
  have b2 := leastB_bd o k o.length n
  have b3 := leastB_bd o x o.length k
  have b4 := leastB_bd o n o.length n
  have HT := hide (triangle (n := (n : Int)) hkl hxl)
  have HO := hide (own_not hF hnl)
  have HO1 := hide (turn_ok hF hnl)
  have HO2 := hide (turn_cyc hF hnl)
  generalize leastB o x o.length n = far at *
  generalize leastB o k o.length n = one at *
  generalize leastB o x o.length k = two at *
  generalize leastB o n o.length n = own at *
  obtain ⟨gb, off, rfl, hgb, hcells⟩ := hN6 k hkl
  obtain ⟨ck0, _⟩ := hcells k hkl
  obtain ⟨cn0, _⟩ := hcells n hnl
  clear hcells
  have hg6 : w1.heap.size < w6.heap.size := (by have := hC6.size; (try simp at this); omega)
  have HK : Hid ((if (ndn o k).kind = 4 then (1 : Int) else 0) = back1 o k) := hide rfl
  by_cases hn4 : (ndn o n).kind = 4
  · have hn4b : ((ndn o n).kind != 4) = false := by simp [hn4]
    replace HO1 := hide ((unhide HO1) hn4)
    replace HO2 := hide ((unhide HO2) hn4)
    have Hlen := hide (turnL_len o n)
    have HC := hide (fun l => cyc_has (l := l) hF hn4)
    go_wp2_with fail
    all_goals first
      | (exfalso; have ht := unhide HT (by omega) (by omega); have hk := unhide HK; clear HT HK HO HO1 HO2; simp_all; omega)
      | skip
    all_goals
      refine (turned_any o _ _ _ n _ hN6 hl.2).mono ?_
      rintro e w7 ⟨ta, tc, rfl, hNt, hB7⟩
      have hNt' : NodesAt w7 ta (turnL o n) := hNt
      have hLt : (turnTo o n o.length).length = (turnL o n).length := rfl
      rw [hLt]
      clear hNt hLt
      generalize turnL o n = t at *
      by_cases ho : own = 0
      · have h2 := (unhide HO2) ho
        subst ho
        go_wp2_with fail
        refine (check_cyc h2 _ _ _ (hNt'.below (by repeat (first | exact Bw.refl _ | assumption | refine Bw.drew ?_ | refine Bw.drewN ?_ _ | refine Bw.alloc ?_ _ | refine Bw.trans ?_ (by assumption)))) (by rw [unhide Hlen]; exact hl.2)).mono ?_
        rintro e w8 ⟨l, la, lc, rfl, hcy, hl8, hx, hB8⟩
        obtain ⟨g1, g2⟩ := bcell hB8
        go_wp2_with fail
        refine (on_any t _ _ _ l _ _ n _ (hNt'.below (by repeat (first | exact Bw.refl _ | assumption | refine Bw.drew ?_ | refine Bw.drewN ?_ _ | refine Bw.alloc ?_ _ | refine Bw.trans ?_ (by assumption)))) hx (by rw [unhide Hlen]; exact hl.2) hl8 hcy (unhide HC l hcy)).mono ?_
        rintro e w9 ⟨rfl, hB9⟩
        go_wp2_with fail
        go_ret
        exact ⟨rfl, (by repeat (first | exact Bw.refl _ | assumption | refine Bw.drew ?_ | refine Bw.drewN ?_ _ | refine Bw.alloc ?_ _ | refine Bw.trans ?_ (by assumption)))⟩
      · have h1 := (unhide HO1) ho
        have hob : (own != 0) = true := by simp [ho]
        go_wp2_with fail
        refine (check_fit h1 _ _ _ (hNt'.below (by repeat (first | exact Bw.refl _ | assumption | refine Bw.drew ?_ | refine Bw.drewN ?_ _ | refine Bw.alloc ?_ _ | refine Bw.trans ?_ (by assumption)))) (by rw [unhide Hlen]; exact hl.2)).mono ?_
        rintro e w8 ⟨rfl, hB8⟩
        go_wp2_with fail
        go_ret
        exact ⟨rfl, (by repeat (first | exact Bw.refl _ | assumption | refine Bw.drew ?_ | refine Bw.drewN ?_ _ | refine Bw.alloc ?_ _ | refine Bw.trans ?_ (by assumption)))⟩
  · have hn4b : ((ndn o n).kind != 4) = true := by simp [hn4]
    have hob : (own != 0) = true := by simp [unhide HO hn4]
    go_wp2_with fail
    all_goals first
      | (exfalso; have ht := unhide HT (by omega) (by omega); have hk := unhide HK; clear HT HK HO HO1 HO2; simp_all; omega)
      | skip
    all_goals
      go_ret
      exact ⟨rfl, (by repeat (first | exact Bw.refl _ | assumption | refine Bw.drew ?_ | refine Bw.drewN ?_ _ | refine Bw.alloc ?_ _ | refine Bw.trans ?_ (by assumption)))⟩
end Go.Proofs.Ytfemleimkbjehaa
