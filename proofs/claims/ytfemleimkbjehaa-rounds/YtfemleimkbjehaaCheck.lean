import Derived.Test.YtfemleimkbjehaaCycle
namespace Go.Proofs.Ytfemleimkbjehaa
open Go.RowKit

def checkE (ns : List Nd) (r : Int) : Int := if wfB ns r then (if (orderB ns).length < ns.length then 2 else 0) else 1
/-- What Check answers besides its error. -/
def CheckL (w w' : World) (v : Value) (ns : List Nd) (r : Int) : Prop :=
  if checkE ns r = 2 then Own w w' v (cycB ns (orderB ns)) else v = .slice none 0 0

theorem CheckL.weaken {V W w' : World} {v : Value} {ns : List Nd} {r : Int} (h : CheckL W w' v ns r) (hb : Bw V W) : CheckL V w' v ns r := by
  unfold CheckL at h ⊢
  split
  · rename_i he; rw [if_pos he] at h; exact h.weaken hb
  · rename_i he; rw [if_neg he] at h; exact h

theorem wfB_len {ns : List Nd} {r : Int} (h : wfB ns r = true) : 1 ≤ ns.length ∧ ns.length ≤ 8 := by
  simp [wfB] at h; omega

set_option maxHeartbeats 1000000 in
theorem gcheck_any (ns : List Nd) (ga : Option Addr) (gc : Nat) (r : Int) (w : World) (hn : NodesAt w ga ns) (hgl : ns.length ≤ maxLen) :
    Calls Try.prog 38 #[.agg #[.slice ga ns.length gc, .int .i64 r]] w fun e w' => ∃ v, e = .returned (.tuple #[.int .i64 (checkE ns r), v]) ∧ CheckL w w' v ns r ∧ Bw w w' := by
  cases hwf : wfB ns r with
  | false =>
    have HW := hide hwf
    clear hwf
    go_enter Try.func38, Try.ntmps38
    go_wp2_with (go_at_call 66; refine (wf_any ns _ _ _ _ (hn.below (by repeat (first | exact Bw.refl _ | assumption | refine Bw.drew ?_ | refine Bw.drewN ?_ _ | refine Bw.alloc ?_ _ | refine Bw.trans ?_ (by assumption)))) hgl).mono ?_; rintro e w' ⟨rfl, hbl⟩; rw [unhide HW]; obtain ⟨hcc, hff⟩ := bcell hbl; have hz0 : w.heap.size < w'.heap.size := (by have := hbl.size; (try simp at this); omega))
    go_ret2
    have he : checkE ns r = 1 := by simp [checkE, unhide HW]
    exact ⟨_, by rw [he]; rfl, by unfold CheckL; rw [he]; simp, (by repeat (first | exact Bw.refl _ | assumption | refine Bw.drew ?_ | refine Bw.drewN ?_ _ | refine Bw.alloc ?_ _ | refine Bw.trans ?_ (by assumption)))⟩
  | true =>
    have HW := hide hwf
    obtain ⟨h1, h8⟩ := wfB_len hwf
    clear hwf
    by_cases hlt : (orderB ns).length < ns.length
    · have he : Hid (checkE ns r = 2) := hide (by simp [checkE, unhide HW, hlt])
      go_enter Try.func38, Try.ntmps38
      go_wp2_with (first | (go_at_call 66; refine (wf_any ns _ _ _ _ (hn.below (by repeat (first | exact Bw.refl _ | assumption | refine Bw.drew ?_ | refine Bw.drewN ?_ _ | refine Bw.alloc ?_ _ | refine Bw.trans ?_ (by assumption)))) hgl).mono ?_; rintro e w' ⟨rfl, hbl⟩; rw [unhide HW]; obtain ⟨hcc, hff⟩ := bcell hbl; have hz0 : w.heap.size < w'.heap.size := (by have := hbl.size; (try simp at this); omega)) | (go_at_call 67; refine (order_any ns _ _ _ _ (hn.below (by repeat (first | exact Bw.refl _ | assumption | refine Bw.drew ?_ | refine Bw.drewN ?_ _ | refine Bw.alloc ?_ _ | refine Bw.trans ?_ (by assumption)))) h8).mono ?_; rintro e w' ⟨v, rfl, hown, hbl⟩; obtain ⟨oa, oc, rfl, hox, hom⟩ := hown.form; obtain ⟨hcc, hff⟩ := bcell hbl; have hz0 : w.heap.size < w'.heap.size := (by have := hbl.size; (try simp at this); omega)) | (go_at_call 68; refine (cycle_any ns _ _ _ (orderB ns) _ _ _ (hn.below (by repeat (first | exact Bw.refl _ | assumption | refine Bw.drew ?_ | refine Bw.drewN ?_ _ | refine Bw.alloc ?_ _ | refine Bw.trans ?_ (by assumption)))) (hox.below (by repeat (first | exact Bw.refl _ | assumption | refine Bw.drew ?_ | refine Bw.drewN ?_ _ | refine Bw.alloc ?_ _ | refine Bw.trans ?_ (by assumption)))) hom h1 h8).mono ?_; rintro e w' ⟨v, rfl, hcy, hbl⟩))
      go_ret2
      exact ⟨_, by rw [unhide he]; rfl, by unfold CheckL; rw [unhide he]; simp; exact hcy.weaken (by repeat (first | exact Bw.refl _ | assumption | refine Bw.drew ?_ | refine Bw.drewN ?_ _ | refine Bw.alloc ?_ _ | refine Bw.trans ?_ (by assumption))), (by repeat (first | exact Bw.refl _ | assumption | refine Bw.drew ?_ | refine Bw.drewN ?_ _ | refine Bw.alloc ?_ _ | refine Bw.trans ?_ (by assumption)))⟩
    · have he : Hid (checkE ns r = 0) := hide (by simp [checkE, unhide HW, hlt])
      go_enter Try.func38, Try.ntmps38
      go_wp2_with (first | (go_at_call 66; refine (wf_any ns _ _ _ _ (hn.below (by repeat (first | exact Bw.refl _ | assumption | refine Bw.drew ?_ | refine Bw.drewN ?_ _ | refine Bw.alloc ?_ _ | refine Bw.trans ?_ (by assumption)))) hgl).mono ?_; rintro e w' ⟨rfl, hbl⟩; rw [unhide HW]; obtain ⟨hcc, hff⟩ := bcell hbl; have hz0 : w.heap.size < w'.heap.size := (by have := hbl.size; (try simp at this); omega)) | (go_at_call 67; refine (order_any ns _ _ _ _ (hn.below (by repeat (first | exact Bw.refl _ | assumption | refine Bw.drew ?_ | refine Bw.drewN ?_ _ | refine Bw.alloc ?_ _ | refine Bw.trans ?_ (by assumption)))) h8).mono ?_; rintro e w' ⟨v, rfl, hown, hbl⟩; obtain ⟨oa, oc, rfl, hox, hom⟩ := hown.form; obtain ⟨hcc, hff⟩ := bcell hbl; have hz0 : w.heap.size < w'.heap.size := (by have := hbl.size; (try simp at this); omega)))
      go_ret2
      exact ⟨_, by rw [unhide he]; rfl, by unfold CheckL; rw [unhide he]; simp, (by repeat (first | exact Bw.refl _ | assumption | refine Bw.drew ?_ | refine Bw.drewN ?_ _ | refine Bw.alloc ?_ _ | refine Bw.trans ?_ (by assumption)))⟩

set_option maxHeartbeats 1000000 in
theorem check_any (ns : List Nd) (ga : Option Addr) (gc : Nat) (r : Int) (w : World) (hn : NodesAt w ga ns) (hgl : ns.length ≤ maxLen) :
    Calls Try.prog 11 #[.agg #[.slice ga ns.length gc, .int .i64 r]] w fun e w' => ∃ v, e = .returned (.tuple #[.int .i64 (checkE ns r), v]) ∧ CheckL w w' v ns r ∧ Bw w w' := by
  go_enter Try.func11, Try.ntmps11
  go_wp2_with (go_at_call 38; refine (gcheck_any ns _ _ _ _ (hn.below (by repeat (first | exact Bw.refl _ | assumption | refine Bw.drew ?_ | refine Bw.drewN ?_ _ | refine Bw.alloc ?_ _ | refine Bw.trans ?_ (by assumption)))) hgl).mono ?_; rintro e w' ⟨v, rfl, hL, hbl⟩)
  go_ret2
  exact ⟨_, rfl, hL.weaken (by repeat (first | exact Bw.refl _ | assumption | refine Bw.drew ?_ | refine Bw.drewN ?_ _ | refine Bw.alloc ?_ _ | refine Bw.trans ?_ (by assumption))), (by repeat (first | exact Bw.refl _ | assumption | refine Bw.drew ?_ | refine Bw.drewN ?_ _ | refine Bw.alloc ?_ _ | refine Bw.trans ?_ (by assumption)))⟩
end Go.Proofs.Ytfemleimkbjehaa
