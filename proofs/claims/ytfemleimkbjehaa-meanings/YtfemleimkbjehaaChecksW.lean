import Derived.Test.YtfemleimkbjehaaLaw6
import Derived.Test.YtfemleimkbjehaaPureA
namespace Go.Proofs.Ytfemleimkbjehaa
open Go.RowKit

theorem checked_any (ns : List Nd) (ga : Option Addr) (gc : Nat) (r : Int) (w : World) (hn : NodesAt w ga ns) (hl : ns.length * 40 ≤ 140737488351232) :
    Calls Try.prog 13 #[.agg #[.slice ga ns.length gc, .int .i64 r]] w fun e w' => e = .returned (.bool true) ∧ Bw w w' := by
  by_cases h2 : checkE ns r = 2
  · obtain ⟨a, b, c⟩ := checkE_cyc h2
    exact checked_cyc ns ga gc r w hn hl (refE_checkE ns r) h2 a b c
  · exact checked_not ns ga gc r w hn hl (refE_checkE ns r) h2

def badNs : List Nd := [⟨0, 0, 0, 0, 0⟩, ⟨3, 0, 4, 0, 0⟩, ⟨1, 1, 0, 1, 0⟩, ⟨2, 2, 0, 2, 0⟩, ⟨1, 3, 0, 0, 0⟩, ⟨6, 2, 0, 1, 0⟩, ⟨7, 5, 0, 0, 0⟩]

theorem bad_cells {w : World} {g : Nat} (h : ∀ j, j < exNs.length → NodeCells w g exNs j) : ∀ j, j < badNs.length →
    NodeCells (((((w.setCell ⟨g, 20, none⟩ (.int .i64 1)).setCell ⟨g, 21, none⟩ (.int .i64 3)).setCell ⟨g, 22, none⟩ (.int .i64 0)).setCell ⟨g, 23, none⟩ (.int .i64 0)).setCell ⟨g, 24, none⟩ (.int .i64 0)) g badNs j := by
  intro j hj
  have hj7 : j < 7 := hj
  by_cases e : j = 4
  · subst e
    obtain ⟨c0, c1, c2, c3, c4⟩ := h 4 (by decide)
    refine ⟨?_, ?_, ?_, ?_, ?_⟩
    · iterate 4 rw [cs_ne]
      · exact cs_eq c0
      all_goals omega
    · iterate 3 rw [cs_ne]
      · exact cs_eq (by rw [cs_ne]; exact c1; omega)
      all_goals omega
    · iterate 2 rw [cs_ne]
      · exact cs_eq (by iterate 2 rw [cs_ne]
                        · exact c2
                        all_goals omega)
      all_goals omega
    · rw [cs_ne]
      · exact cs_eq (by iterate 3 rw [cs_ne]
                        · exact c3
                        all_goals omega)
      all_goals omega
    · exact cs_eq (by iterate 4 rw [cs_ne]
                      · exact c4
                      all_goals omega)
  · have e2 : ndn badNs j = ndn exNs j := by
      match j, hj7, e with
      | 0, _, _ => rfl
      | 1, _, _ => rfl
      | 2, _, _ => rfl
      | 3, _, _ => rfl
      | 5, _, _ => rfl
      | 6, _, _ => rfl
    obtain ⟨c0, c1, c2, c3, c4⟩ := h j hj
    unfold NodeCells
    rw [e2]
    refine ⟨?_, ?_, ?_, ?_, ?_⟩
    · iterate 5 rw [cs_ne]
      · exact c0
      all_goals omega
    · iterate 5 rw [cs_ne]
      · exact c1
      all_goals omega
    · iterate 5 rw [cs_ne]
      · exact c2
      all_goals omega
    · iterate 5 rw [cs_ne]
      · exact c3
      all_goals omega
    · iterate 5 rw [cs_ne]
      · exact c4
      all_goals omega

theorem check_ex (ga : Option Addr) (gc : Nat) (w : World) (hn : NodesAt w ga exNs) :
    Calls Try.prog 11 #[.agg #[.slice ga 7 gc, .int .i64 3]] w fun e w' => ∃ v, e = .returned (.tuple #[.int .i64 0, v]) ∧ Bw w w' :=
  (check_any exNs ga gc 3 w hn (by unfold maxLen; decide)).mono (by
    rintro e w' ⟨v, rfl, _, hb⟩
    exact ⟨v, by rw [show checkE exNs 3 = 0 by kernel_rfl], hb⟩)
theorem checked_bad (ga : Option Addr) (gc : Nat) (w : World) (hn : NodesAt w ga badNs) :
    Calls Try.prog 13 #[.agg #[.slice ga 7 gc, .int .i64 3]] w fun e w' => e = .returned (.bool true) ∧ Bw w w' :=
  checked_any badNs ga gc 3 w hn (by decide)

set_option maxRecDepth 100000 in
set_option maxHeartbeats 2000000 in
theorem checks_any (ns : List Nd) (ga : Option Addr) (gc : Nat) (r : Int) (w : World) (hn : NodesAt w ga ns) (hl : ns.length * 40 ≤ 140737488351232) :
    Calls Try.prog 3 #[.agg #[.slice ga ns.length gc, .int .i64 r]] w fun e w' => e = .returned (.bool true) ∧ Bw w w' := by
  go_enter Try.func3, Try.ntmps3
  go_wp2_with fail
  refine (example_any _).mono ?_
  rintro e w1 ⟨g1, rfl, hg1, hb1, hB1⟩
  have hn1 := nodesAt_of_cells (Array.getElem?_eq_some_iff.1 hb1).1 (nodeCells_of_block hb1)
  clear hb1
  go_wp2_with fail
  refine (check_ex _ _ _ hn1).mono ?_
  rintro e w2 ⟨v, rfl, hB2⟩
  have hBa : Bw (w.alloc (.cells #[.slice ga ns.length gc, .int .i64 r] 24)) w2 := (by repeat (first | exact Bw.refl _ | assumption | refine Bw.drew ?_ | refine Bw.drewN ?_ _ | refine Bw.alloc ?_ _ | refine Bw.trans ?_ (by assumption)))
  obtain ⟨q1, q2⟩ := bcell hBa
  go_wp2_with fail
  refine (checked_any ns _ _ _ _ (hn.below (by repeat (first | exact Bw.refl _ | assumption | refine Bw.drew ?_ | refine Bw.drewN ?_ _ | refine Bw.alloc ?_ _ | refine Bw.trans ?_ (by assumption)))) hl).mono ?_
  rintro e w3 ⟨rfl, hB3⟩
  clear q1 q2
  go_wp2_with fail
  refine (example_any _).mono ?_
  rintro e w4 ⟨g4, rfl, hg4, hb4, hB4⟩
  have hfr : ∀ o, w4.frozen? ⟨g4, o, none⟩ = false := fun o => frozen_of_block hb4
  have hlt4 := (Array.getElem?_eq_some_iff.1 hb4).1
  have hcs := nodeCells_of_block hb4
  obtain ⟨c0, c1, c2, c3, c4⟩ := hcs 4 (by decide)
  clear hb4 hn1
  go_wp2_with fail
  refine (checked_bad _ _ _ ?_).mono ?_
  · exact NodesAt.below (nodesAt_of_cells (by simp; omega) (bad_cells hcs)) ((Bw.refl _).alloc _)
  rintro e w5 ⟨rfl, hB5⟩
  have hBw : Bw w w5 := by
    refine Bw.trans ?_ hB5
    refine Bw.alloc ?_ _
    have hz := hBa.size
    have hz3 := hB3.size
    simp at hz
    iterate 5 refine Bw.setCell ?_ (by simp only; omega) _
    exact (by repeat (first | exact Bw.refl _ | assumption | refine Bw.drew ?_ | refine Bw.drewN ?_ _ | refine Bw.alloc ?_ _ | refine Bw.trans ?_ (by assumption)))
  clear hB5 hcs c0 c1 c2 c3 c4 hfr hBa hB3 hB4 hB2 hB1
  go_wp2_with fail
  go_ret
  exact ⟨rfl, hBw⟩
end Go.Proofs.Ytfemleimkbjehaa
