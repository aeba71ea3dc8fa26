import Derived.Test.YtfemleimkbjehaaDistF
import Derived.Test.YtfemleimkbjehaaLaw4
namespace Go.Proofs.Ytfemleimkbjehaa
open Go.RowKit

def distE (ns : List Nd) (r n x : Int) : Int := if checkE ns r = 0 then (if isNodeB ns.length n && isNodeB ns.length x then 0 else 3) else checkE ns r
def distV (ns : List Nd) (r n x : Int) : Int := if distE ns r n x = 0 then nth (distL ns n (ns.length - 1)) x.toNat else 0
def rdistV (ns : List Nd) (r n x : Int) : Int := if distE ns r n x = 0 then leastB ns x ns.length n else 0

theorem distE_bad {ns : List Nd} {r n x : Int} (h : checkE ns r ≠ 0) : distE ns r n x = checkE ns r := by simp [distE, h]
theorem distE_arg {ns : List Nd} {r n x : Int} (h : checkE ns r = 0) (h2 : (isNodeB ns.length n && isNodeB ns.length x) = false) : distE ns r n x = 3 := by unfold distE; rw [if_pos h, h2]; rfl
theorem distE_ok {ns : List Nd} {r n x : Int} (h : checkE ns r = 0) (h1 : isNodeB ns.length n = true) (h2 : isNodeB ns.length x = true) : distE ns r n x = 0 := by unfold distE; rw [if_pos h, h1, h2]; rfl
theorem checkE_zero {ns : List Nd} {r : Int} (h : checkE ns r = 0) : 1 ≤ ns.length ∧ ns.length ≤ 8 := by
  unfold checkE at h
  split at h
  · rename_i hw; exact wfB_len hw
  · cases h

set_option maxRecDepth 100000 in
set_option maxHeartbeats 4000000 in
theorem gdist_any (ns : List Nd) (ga : Option Addr) (gc : Nat) (r n x : Int) (w : World) (hn : NodesAt w ga ns) (hgl : ns.length ≤ maxLen) :
    Calls Try.prog 47 #[.agg #[.slice ga ns.length gc, .int .i64 r], .int .i64 n, .int .i64 x] w fun e w' => e = .returned (.tuple #[.int .i64 (distV ns r n x), .int .i64 (distE ns r n x)]) ∧ Bw w w' := by
  by_cases hE : checkE ns r = 0
  · obtain ⟨h1, h8⟩ := checkE_zero hE
    cases hA : (isNodeB ns.length n && isNodeB ns.length x) with
    | false =>
      have he := distE_arg hE hA
      have HE := hide hE
      have Hv : Hid (distV ns r n x = 0) := hide (by simp [distV, he])
      have He := hide he
      clear he hE
      cases hA1 : isNodeB ns.length n with
      | false =>
        have HA1 := hide hA1
        clear hA hA1
        go_enter Try.func47, Try.ntmps47
        go_wp2_with (first | (go_at_call 38; refine (gcheck_any ns _ _ _ _ (hn.below (by repeat (first | exact Bw.refl _ | assumption | refine Bw.drew ?_ | refine Bw.drewN ?_ _ | refine Bw.alloc ?_ _ | refine Bw.trans ?_ (by assumption)))) hgl).mono ?_; rintro e w' ⟨v, rfl, _, hbl⟩; rw [unhide HE]; obtain ⟨hcc, hff⟩ := bcell hbl; have hz0 : w.heap.size < w'.heap.size := (by have := hbl.size; (try simp at this); omega)) | (go_at_call 74; refine (isNode_any _ _ _ _ _ _).mono ?_; rintro e w' ⟨rfl, hbl⟩; rw [unhide HA1]; obtain ⟨hcc, hff⟩ := bcell hbl; have hz0 : w.heap.size < w'.heap.size := (by have := hbl.size; (try simp at this); omega)))
        go_ret2
        exact ⟨by rw [unhide Hv, unhide He]; rfl, (by repeat (first | exact Bw.refl _ | assumption | refine Bw.drew ?_ | refine Bw.drewN ?_ _ | refine Bw.alloc ?_ _ | refine Bw.trans ?_ (by assumption)))⟩
      | true =>
        have HA1 := hide hA1
        have HA2 : Hid (isNodeB ns.length x = false) := hide (by rw [hA1] at hA; simpa using hA)
        clear hA hA1
        go_enter Try.func47, Try.ntmps47
        go_wp2_with (go_at_call 38; refine (gcheck_any ns _ _ _ _ (hn.below (by repeat (first | exact Bw.refl _ | assumption | refine Bw.drew ?_ | refine Bw.drewN ?_ _ | refine Bw.alloc ?_ _ | refine Bw.trans ?_ (by assumption)))) hgl).mono ?_; rintro e w' ⟨v, rfl, _, hbl⟩; rw [unhide HE]; obtain ⟨hcc, hff⟩ := bcell hbl; have hz0 : w.heap.size < w'.heap.size := (by have := hbl.size; (try simp at this); omega))
        refine (isNode_any _ _ _ _ _ _).mono ?_
        rintro e w' ⟨rfl, hbl⟩
        rw [unhide HA1]
        obtain ⟨hcc, hff⟩ := bcell hbl; have hz0 : w.heap.size < w'.heap.size := (by have := hbl.size; (try simp at this); omega)
        go_wp2_with fail
        refine (isNode_any _ _ _ _ _ _).mono ?_
        rintro e w' ⟨rfl, hbl⟩
        rw [unhide HA2]
        go_wp2_with fail
        go_ret2
        exact ⟨by rw [unhide Hv, unhide He]; rfl, (by repeat (first | exact Bw.refl _ | assumption | refine Bw.drew ?_ | refine Bw.drewN ?_ _ | refine Bw.alloc ?_ _ | refine Bw.trans ?_ (by assumption)))⟩
    | true =>
      simp only [Bool.and_eq_true] at hA
      obtain ⟨hA1, hA2⟩ := hA
      have he := distE_ok hE hA1 hA2
      have HE := hide hE
      have Hv : Hid (distV ns r n x = nth (distL ns n (ns.length - 1)) x.toNat) := hide (by simp [distV, he])
      have He := hide he
      have HA1 := hide hA1
      have HA2 := hide hA2
      obtain ⟨x0, x1⟩ := isNodeB_iff.1 hA2
      clear he hE hA1 hA2
      obtain ⟨xi, rfl⟩ := Int.eq_ofNat_of_zero_le x0
      rw [Int.toNat_natCast] at Hv
      go_enter Try.func47, Try.ntmps47
      go_wp2_with (go_at_call 38; refine (gcheck_any ns _ _ _ _ (hn.below (by repeat (first | exact Bw.refl _ | assumption | refine Bw.drew ?_ | refine Bw.drewN ?_ _ | refine Bw.alloc ?_ _ | refine Bw.trans ?_ (by assumption)))) hgl).mono ?_; rintro e w' ⟨v, rfl, _, hbl⟩; rw [unhide HE]; obtain ⟨hcc, hff⟩ := bcell hbl; have hz0 : w.heap.size < w'.heap.size := (by have := hbl.size; (try simp at this); omega))
      refine (isNode_any _ _ _ _ _ _).mono ?_
      rintro e w' ⟨rfl, hbl⟩
      rw [unhide HA1]
      obtain ⟨hcc, hff⟩ := bcell hbl; have hz0 : w.heap.size < w'.heap.size := (by have := hbl.size; (try simp at this); omega)
      go_wp2_with fail
      refine (isNode_any _ _ _ _ _ _).mono ?_
      rintro e w' ⟨rfl, hbl⟩
      rw [unhide HA2]
      obtain ⟨hcc, hff⟩ := bcell hbl; have hz0 : w.heap.size < w'.heap.size := (by have := hbl.size; (try simp at this); omega)
      go_wp2_with fail
      refine (distFrom_any ns _ _ _ _ _ (hn.below (by repeat (first | exact Bw.refl _ | assumption | refine Bw.drew ?_ | refine Bw.drewN ?_ _ | refine Bw.alloc ?_ _ | refine Bw.trans ?_ (by assumption)))) h1 h8).mono ?_
      rintro e w1 ⟨v, rfl, hown, hbl⟩
      obtain ⟨fa, fc, rfl, hfx, hfm⟩ := hown.form
      have Hdl := hide (distL_len ns n (ns.length - 1))
      obtain ⟨b, off, rfl, hb, hc⟩ := hfx xi (by have := unhide Hdl; omega)
      have hcx := hc xi (by have := unhide Hdl; omega)
      rw [unhide Hdl]
      clear hc
      go_wp2_with fail
      go_ret2
      exact ⟨by rw [unhide Hv, unhide He]; rfl, (by repeat (first | exact Bw.refl _ | assumption | refine Bw.drew ?_ | refine Bw.drewN ?_ _ | refine Bw.alloc ?_ _ | refine Bw.trans ?_ (by assumption)))⟩
  · have he := distE_bad (n := n) (x := x) hE
    have Hv : Hid (distV ns r n x = 0) := hide (by simp [distV, he, hE])
    have He := hide he
    generalize hEE : checkE ns r = E at hE He
    have HEE := hide hEE
    have hE2 : (E != 0) = true := by simpa using hE
    clear he hE hEE
    go_enter Try.func47, Try.ntmps47
    go_wp2_with (go_at_call 38; refine (gcheck_any ns _ _ _ _ (hn.below (by repeat (first | exact Bw.refl _ | assumption | refine Bw.drew ?_ | refine Bw.drewN ?_ _ | refine Bw.alloc ?_ _ | refine Bw.trans ?_ (by assumption)))) hgl).mono ?_; rintro e w' ⟨v, rfl, _, hbl⟩; rw [unhide HEE]; obtain ⟨hcc, hff⟩ := bcell hbl; have hz0 : w.heap.size < w'.heap.size := (by have := hbl.size; (try simp at this); omega))
    go_ret2
    exact ⟨by rw [unhide Hv, unhide He]; rfl, (by repeat (first | exact Bw.refl _ | assumption | refine Bw.drew ?_ | refine Bw.drewN ?_ _ | refine Bw.alloc ?_ _ | refine Bw.trans ?_ (by assumption)))⟩

set_option maxHeartbeats 1000000 in
theorem dist_any (ns : List Nd) (ga : Option Addr) (gc : Nat) (r n x : Int) (w : World) (hn : NodesAt w ga ns) (hgl : ns.length ≤ maxLen) :
    Calls Try.prog 17 #[.agg #[.slice ga ns.length gc, .int .i64 r], .int .i64 n, .int .i64 x] w fun e w' => e = .returned (.tuple #[.int .i64 (distV ns r n x), .int .i64 (distE ns r n x)]) ∧ Bw w w' := by
  go_enter Try.func17, Try.ntmps17
  go_wp2_with (go_at_call 47; refine (gdist_any ns _ _ _ _ _ _ (hn.below (by repeat (first | exact Bw.refl _ | assumption | refine Bw.drew ?_ | refine Bw.drewN ?_ _ | refine Bw.alloc ?_ _ | refine Bw.trans ?_ (by assumption)))) hgl).mono ?_; rintro e w' ⟨rfl, hbl⟩)
  go_ret2
  exact ⟨rfl, (by repeat (first | exact Bw.refl _ | assumption | refine Bw.drew ?_ | refine Bw.drewN ?_ _ | refine Bw.alloc ?_ _ | refine Bw.trans ?_ (by assumption)))⟩
end Go.Proofs.Ytfemleimkbjehaa
