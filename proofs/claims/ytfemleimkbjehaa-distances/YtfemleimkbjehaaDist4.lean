import Derived.Test.YtfemleimkbjehaaDist3
import Derived.Test.YtfemleimkbjehaaOwn3
import Derived.Test.YtfemleimkbjehaaPure4
namespace Go.Proofs.Ytfemleimkbjehaa
open Go.RowKit

theorem isNodeB_out {len : Nat} {n : Int} (h : n < 0 ∨ (len : Int) ≤ n) : isNodeB len n = false := by
  cases e : isNodeB len n with
  | false => rfl
  | true => have := isNodeB_iff.1 e; omega

set_option maxRecDepth 100000 in
set_option maxHeartbeats 4000000 in
theorem rdist_any (ns : List Nd) (ga : Option Addr) (gc : Nat) (r n x : Int) (w : World) (hn : NodesAt w ga ns) (hgl : ns.length ≤ maxLen) :
    Calls Try.prog 45 #[.agg #[.slice ga ns.length gc, .int .i64 r], .int .i64 n, .int .i64 x] w fun e w' => e = .returned (.tuple #[.int .i64 (rdistV ns r n x), .int .i64 (distE ns r n x)]) ∧ Bw w w' := by
  have hrc := refE_checkE ns r
  by_cases hE : checkE ns r = 0
  · obtain ⟨h1, h8⟩ := checkE_zero hE
    have HR := hide (hrc.trans hE)
    by_cases hbad : n < 0 ∨ (ns.length : Int) ≤ n ∨ x < 0 ∨ (ns.length : Int) ≤ x
    · have hA : (isNodeB ns.length n && isNodeB ns.length x) = false := by
        rcases hbad with h | h | h | h
        · rw [isNodeB_out (.inl h)]; rfl
        · rw [isNodeB_out (.inr h)]; rfl
        · rw [isNodeB_out (.inl h), Bool.and_false]
        · rw [isNodeB_out (.inr h), Bool.and_false]
      have he := distE_arg hE hA
      have Hv : Hid (rdistV ns r n x = 0) := hide (by simp [rdistV, he])
      have He := hide he
      clear he hE hA hrc
      by_cases b1 : n < 0
      · have d1 : decide (n < 0) = true := by simpa using b1
        clear hbad
        go_enter Try.func45, Try.ntmps45
        go_wp2_with (go_at_call 41; refine (rcheck_any ns _ _ _ _ (hn.below (by repeat (first | exact Bw.refl _ | assumption | refine Bw.drew ?_ | refine Bw.drewN ?_ _ | refine Bw.alloc ?_ _ | refine Bw.trans ?_ (by assumption)))) hgl).mono ?_; rintro e w' ⟨rfl, hbl⟩; rw [unhide HR]; obtain ⟨hcc, hff⟩ := bcell hbl; have hz0 : w.heap.size < w'.heap.size := (by have := hbl.size; (try simp at this); omega))
        all_goals
          go_ret2
          exact ⟨by rw [unhide Hv, unhide He]; rfl, (by repeat (first | exact Bw.refl _ | assumption | refine Bw.drew ?_ | refine Bw.drewN ?_ _ | refine Bw.alloc ?_ _ | refine Bw.trans ?_ (by assumption)))⟩
      · by_cases b2 : (ns.length : Int) ≤ n
        · clear hbad
          go_enter Try.func45, Try.ntmps45
          go_wp2_with (go_at_call 41; refine (rcheck_any ns _ _ _ _ (hn.below (by repeat (first | exact Bw.refl _ | assumption | refine Bw.drew ?_ | refine Bw.drewN ?_ _ | refine Bw.alloc ?_ _ | refine Bw.trans ?_ (by assumption)))) hgl).mono ?_; rintro e w' ⟨rfl, hbl⟩; rw [unhide HR]; obtain ⟨hcc, hff⟩ := bcell hbl; have hz0 : w.heap.size < w'.heap.size := (by have := hbl.size; (try simp at this); omega))
          all_goals
            go_ret2
            exact ⟨by rw [unhide Hv, unhide He]; rfl, (by repeat (first | exact Bw.refl _ | assumption | refine Bw.drew ?_ | refine Bw.drewN ?_ _ | refine Bw.alloc ?_ _ | refine Bw.trans ?_ (by assumption)))⟩
        · by_cases b3 : x < 0
          · clear hbad
            go_enter Try.func45, Try.ntmps45
            go_wp2_with (go_at_call 41; refine (rcheck_any ns _ _ _ _ (hn.below (by repeat (first | exact Bw.refl _ | assumption | refine Bw.drew ?_ | refine Bw.drewN ?_ _ | refine Bw.alloc ?_ _ | refine Bw.trans ?_ (by assumption)))) hgl).mono ?_; rintro e w' ⟨rfl, hbl⟩; rw [unhide HR]; obtain ⟨hcc, hff⟩ := bcell hbl; have hz0 : w.heap.size < w'.heap.size := (by have := hbl.size; (try simp at this); omega))
            all_goals
              go_ret2
              exact ⟨by rw [unhide Hv, unhide He]; rfl, (by repeat (first | exact Bw.refl _ | assumption | refine Bw.drew ?_ | refine Bw.drewN ?_ _ | refine Bw.alloc ?_ _ | refine Bw.trans ?_ (by assumption)))⟩
          · have b4 : (ns.length : Int) ≤ x := by omega
            clear hbad
            go_enter Try.func45, Try.ntmps45
            go_wp2_with (go_at_call 41; refine (rcheck_any ns _ _ _ _ (hn.below (by repeat (first | exact Bw.refl _ | assumption | refine Bw.drew ?_ | refine Bw.drewN ?_ _ | refine Bw.alloc ?_ _ | refine Bw.trans ?_ (by assumption)))) hgl).mono ?_; rintro e w' ⟨rfl, hbl⟩; rw [unhide HR]; obtain ⟨hcc, hff⟩ := bcell hbl; have hz0 : w.heap.size < w'.heap.size := (by have := hbl.size; (try simp at this); omega))
            all_goals
              go_ret2
              exact ⟨by rw [unhide Hv, unhide He]; rfl, (by repeat (first | exact Bw.refl _ | assumption | refine Bw.drew ?_ | refine Bw.drewN ?_ _ | refine Bw.alloc ?_ _ | refine Bw.trans ?_ (by assumption)))⟩
    · have n0 : 0 ≤ n := by omega
      have n1 : n < ns.length := by omega
      have x0 : 0 ≤ x := by omega
      have x1 : x < ns.length := by omega
      have he := distE_ok hE (isNodeB_iff.2 ⟨n0, n1⟩) (isNodeB_iff.2 ⟨x0, x1⟩)
      have Hv : Hid (rdistV ns r n x = leastB ns x ns.length n) := hide (by simp [rdistV, he])
      have He := hide he
      clear he hE hrc hbad
      go_enter Try.func45, Try.ntmps45
      go_wp2_with (first | (go_at_call 41; refine (rcheck_any ns _ _ _ _ (hn.below (by repeat (first | exact Bw.refl _ | assumption | refine Bw.drew ?_ | refine Bw.drewN ?_ _ | refine Bw.alloc ?_ _ | refine Bw.trans ?_ (by assumption)))) hgl).mono ?_; rintro e w' ⟨rfl, hbl⟩; rw [unhide HR]; obtain ⟨hcc, hff⟩ := bcell hbl; have hz0 : w.heap.size < w'.heap.size := (by have := hbl.size; (try simp at this); omega)) | (go_at_call 72; refine (far_any ns _ _ _ _ _ _ (hn.below (by repeat (first | exact Bw.refl _ | assumption | refine Bw.drew ?_ | refine Bw.drewN ?_ _ | refine Bw.alloc ?_ _ | refine Bw.trans ?_ (by assumption)))) h8).mono ?_; rintro e w' ⟨rfl, hbl⟩))
      go_ret2
      exact ⟨by rw [unhide Hv, unhide He]; rfl, (by repeat (first | exact Bw.refl _ | assumption | refine Bw.drew ?_ | refine Bw.drewN ?_ _ | refine Bw.alloc ?_ _ | refine Bw.trans ?_ (by assumption)))⟩
  · have he := distE_bad (n := n) (x := x) hE
    have Hv : Hid (rdistV ns r n x = 0) := hide (by simp [rdistV, he, hE])
    have He := hide he
    generalize hEE : checkE ns r = E at hE He hrc
    have HEE := hide hrc
    have hE2 : (E != 0) = true := by simpa using hE
    clear he hE hEE hrc
    go_enter Try.func45, Try.ntmps45
    go_wp2_with (go_at_call 41; refine (rcheck_any ns _ _ _ _ (hn.below (by repeat (first | exact Bw.refl _ | assumption | refine Bw.drew ?_ | refine Bw.drewN ?_ _ | refine Bw.alloc ?_ _ | refine Bw.trans ?_ (by assumption)))) hgl).mono ?_; rintro e w' ⟨rfl, hbl⟩; rw [unhide HEE]; obtain ⟨hcc, hff⟩ := bcell hbl; have hz0 : w.heap.size < w'.heap.size := (by have := hbl.size; (try simp at this); omega))
    go_ret2
    exact ⟨by rw [unhide Hv, unhide He]; rfl, (by repeat (first | exact Bw.refl _ | assumption | refine Bw.drew ?_ | refine Bw.drewN ?_ _ | refine Bw.alloc ?_ _ | refine Bw.trans ?_ (by assumption)))⟩

theorem Handed.keep {w w' : World} {g : Nat} {ns : List Nd} (h : Handed w g ns) (hb : Bw w w') : Handed w' g ns :=
  ⟨Nat.lt_of_lt_of_le h.lt hb.size, fun j hj => NodeCells.bw (h.node j hj) h.lt hb, ⟨((bcell hb).1 _ _ h.lt).trans h.room.1, ((bcell hb).1 _ _ h.lt).trans h.room.2⟩, fun o => ((bcell hb).2 _ _ h.lt).trans (h.free o)⟩

set_option maxRecDepth 100000 in
set_option maxHeartbeats 4000000 in
theorem distance_any (ns : List Nd) (ga : Option Addr) (gc : Nat) (r n x : Int) (w : World) (hn : NodesAt w ga ns) (hl : ns.length * 40 ≤ 140737488351232) (hV : rdistV ns r n x = distV ns r n x) :
    Calls Try.prog 14 #[.agg #[.slice ga ns.length gc, .int .i64 r], .int .i64 n, .int .i64 x] w fun e w' => e = .returned (.bool true) ∧ Bw w w' := by
  have hml : ns.length ≤ maxLen := by unfold maxLen; omega
  generalize hdv : distV ns r n x = V at hV
  have HV := hide hV
  have HD := hide hdv
  clear hV hdv
  go_enter Try.func14, Try.ntmps14
  go_wp2_with fail
  refine (handed_any ns _ _ _ _ (hn.below (by repeat (first | exact Bw.refl _ | assumption | refine Bw.drew ?_ | refine Bw.drewN ?_ _ | refine Bw.alloc ?_ _ | refine Bw.trans ?_ (by assumption)))) hl).mono ?_
  rintro e w1 ⟨g0, rfl, hg0, hh, hb1⟩
  obtain ⟨q1, q2⟩ := bcell hb1
  have hz1 : w.heap.size < w1.heap.size := (by have := hb1.size; (try simp at this); omega)
  go_wp2_with fail
  refine (dist_any ns _ _ _ _ _ _ (hh.at.below (by repeat (first | exact Bw.refl _ | assumption | refine Bw.drew ?_ | refine Bw.drewN ?_ _ | refine Bw.alloc ?_ _ | refine Bw.trans ?_ (by assumption)))) hml).mono ?_
  rintro e w2 ⟨rfl, hb2⟩
  rw [unhide HD]
  obtain ⟨q3, q4⟩ := bcell hb2
  have hz2 : w1.heap.size < w2.heap.size := (by have := hb2.size; (try simp at this); omega)
  go_wp2_with fail
  refine (still_any ns _ g0 _ _ _ w w2 hn (by repeat (first | exact Bw.refl _ | assumption | refine Bw.drew ?_ | refine Bw.drewN ?_ _ | refine Bw.alloc ?_ _ | refine Bw.trans ?_ (by assumption))) (by have := hg0; simp at this; omega) (hh.keep (by repeat (first | exact Bw.refl _ | assumption | refine Bw.drew ?_ | refine Bw.drewN ?_ _ | refine Bw.alloc ?_ _ | refine Bw.trans ?_ (by assumption)))) hl).mono ?_
  rintro e w3 ⟨rfl, hK⟩
  have hB3 : Bw (w.alloc (.cells #[.slice ga ns.length gc, .int .i64 r] 24)) w3 := Bw.kp (a := w2) (by repeat (first | exact Bw.refl _ | assumption | refine Bw.drew ?_ | refine Bw.drewN ?_ _ | refine Bw.alloc ?_ _ | refine Bw.trans ?_ (by assumption))) hg0 hK
  clear q1 q2 q3 q4 hz1 hz2 hK hb1 hb2 hh hg0
  obtain ⟨q1, q2⟩ := bcell hB3
  have hz1 : w.heap.size < w3.heap.size := (by have := hB3.size; (try simp at this); omega)
  go_wp2_with fail
  refine (rdist_any ns _ _ _ _ _ _ (hn.below (by repeat (first | exact Bw.refl _ | assumption | refine Bw.drew ?_ | refine Bw.drewN ?_ _ | refine Bw.alloc ?_ _ | refine Bw.trans ?_ (by assumption)))) hml).mono ?_
  rintro e w4 ⟨rfl, hb4⟩
  rw [unhide HV]
  go_wp2_with (go_at_call 44; refine (num_any _ _).mono ?_; rintro e w' ⟨rfl, rfl⟩)
  go_ret
  exact ⟨rfl, (by repeat (first | exact Bw.refl _ | assumption | refine Bw.drew ?_ | refine Bw.drewN ?_ _ | refine Bw.alloc ?_ _ | refine Bw.trans ?_ (by assumption)))⟩
end Go.Proofs.Ytfemleimkbjehaa
