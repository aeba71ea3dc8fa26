import Derived.Test.YtfemleimkbjehaaRef4
namespace Go.Proofs.Ytfemleimkbjehaa
open Go.RowKit

set_option maxHeartbeats 1000000 in
theorem far_any (ns : List Nd) (ga : Option Addr) (gc : Nat) (r n x : Int) (w : World) (hn : NodesAt w ga ns) (hl : ns.length ≤ 8) :
    Calls Try.prog 72 #[.agg #[.slice ga ns.length gc, .int .i64 r], .int .i64 n, .int .i64 x] w fun e w' => e = .returned (.int .i64 (leastB ns x ns.length n)) ∧ Bw w w' := by
  go_enter Try.func72, Try.ntmps72
  go_wp2_with (go_at_call 99; refine (least_any ns _ _ _ _ hl ns.length _ _ _ (hn.below (by repeat (first | exact Bw.refl _ | assumption | refine Bw.drew ?_ | refine Bw.drewN ?_ _ | refine Bw.alloc ?_ _ | refine Bw.trans ?_ (by assumption)))) rfl hl).mono ?_; rintro e w' ⟨rfl, hbl⟩)
  go_ret
  exact ⟨rfl, (by repeat (first | exact Bw.refl _ | assumption | refine Bw.drew ?_ | refine Bw.drewN ?_ _ | refine Bw.alloc ?_ _ | refine Bw.trans ?_ (by assumption)))⟩

def knotAt (ns : List Nd) (k : Nat) : Bool := (leastB ns k ns.length k == 0) && !((ndn ns k).kind == 4)
def knotB (ns : List Nd) : Bool := (List.range ns.length).any (knotAt ns)
theorem knotB_yes {ns : List Nd} {k : Nat} (hk : k < ns.length) (h : knotAt ns k = true) : knotB ns = true := by
  unfold knotB; rw [List.any_eq_true]; exact ⟨k, List.mem_range.2 hk, h⟩
theorem knotB_no {ns : List Nd} (h : ∀ k, k < ns.length → knotAt ns k = false) : knotB ns = false := by
  unfold knotB; rw [List.any_eq_false]; intro k hk; rw [h k (List.mem_range.1 hk)]; simp

set_option maxHeartbeats 1000000 in
theorem knotted_any (ns : List Nd) (ga : Option Addr) (gc : Nat) (r : Int) (w : World) (hn : NodesAt w ga ns) (hl : ns.length ≤ 8) :
    Calls Try.prog 70 #[.agg #[.slice ga ns.length gc, .int .i64 r]] w fun e w' => e = .returned (.bool (knotB ns)) ∧ Bw w w' := by
  go_enter Try.func70, Try.ntmps70
  go_wp2_with fail
  go_loopw [3] (fun i wr => ∃ k : Nat, k ≤ ns.length ∧ i = .int .i64 k ∧ (∀ j, j < k → knotAt ns j = false) ∧ Bw (w.alloc (.cells #[.slice ga ns.length gc, .int .i64 r] 24)) wr) (fun i _ => ns.length - (intOf i).toNat)
  case atStart => exact ⟨0, Nat.zero_le _, rfl, fun j hj => absurd hj (Nat.not_lt_zero j), Bw.refl _⟩
  case round =>
    obtain ⟨k, hk, rfl, hno, hB⟩ := hrel
    have Hno := hide hno
    clear hno
    obtain ⟨gcc, gff⟩ := bcell hB
    have gz : w.heap.size < wr.heap.size := by have := hB.size; simp at this; omega
    by_cases hlt : k < ns.length
    · obtain ⟨b, off, rfl, hb, hc⟩ := hn k hlt
      obtain ⟨c0, c1, c2, c3, c4⟩ := hc k hlt
      clear hc
      have gzb : b < wr.heap.size := by omega
      generalize hfd : leastB ns k ns.length k = fd
      have Hfd := hide hfd
      clear hfd
      cases h0 : (fd == 0) with
      | false =>
        have Hk := hide (show knotAt ns k = false by unfold knotAt; rw [unhide Hfd, h0]; rfl)
        go_wp2_with (go_at_call 72; refine (far_any ns _ _ _ _ _ _ (hn.below (by repeat (first | exact Bw.refl _ | assumption | refine Bw.drew ?_ | refine Bw.drewN ?_ _ | refine Bw.alloc ?_ _ | refine Bw.trans ?_ (by assumption)))) hl).mono ?_; rintro e w' ⟨rfl, hbl⟩; rw [unhide Hfd]; obtain ⟨hcc, hff⟩ := bcell hbl; have hz0 : w.heap.size < w'.heap.size := (by have := hbl.size; (try simp at this); omega); have hzb : b < w'.heap.size := (by omega))
        go_roundw
        case rel => exact ⟨k + 1, by omega, by go_num, all_snoc (unhide Hno) (unhide Hk), (by repeat (first | exact Bw.refl _ | assumption | refine Bw.drew ?_ | refine Bw.drewN ?_ _ | refine Bw.alloc ?_ _ | refine Bw.trans ?_ (by assumption)))⟩
        case measure => simp [intOf]; omega
      | true =>
        cases h4 : ((ndn ns k).kind == 4) with
        | true =>
          have Hk := hide (show knotAt ns k = false by unfold knotAt; rw [h4]; simp)
          have h4' : ((ndn ns k).kind != 4) = false := by simp [bne, h4]
          go_wp2_with (go_at_call 72; refine (far_any ns _ _ _ _ _ _ (hn.below (by repeat (first | exact Bw.refl _ | assumption | refine Bw.drew ?_ | refine Bw.drewN ?_ _ | refine Bw.alloc ?_ _ | refine Bw.trans ?_ (by assumption)))) hl).mono ?_; rintro e w' ⟨rfl, hbl⟩; rw [unhide Hfd]; obtain ⟨hcc, hff⟩ := bcell hbl; have hz0 : w.heap.size < w'.heap.size := (by have := hbl.size; (try simp at this); omega); have hzb : b < w'.heap.size := (by omega))
          go_roundw
          case rel => exact ⟨k + 1, by omega, by go_num, all_snoc (unhide Hno) (unhide Hk), (by repeat (first | exact Bw.refl _ | assumption | refine Bw.drew ?_ | refine Bw.drewN ?_ _ | refine Bw.alloc ?_ _ | refine Bw.trans ?_ (by assumption)))⟩
          case measure => simp [intOf]; omega
        | false =>
          have Hk := hide (show knotAt ns k = true by unfold knotAt; rw [unhide Hfd, h0, h4]; rfl)
          have h4' : ((ndn ns k).kind != 4) = true := by simp [bne, h4]
          go_wp2_with (go_at_call 72; refine (far_any ns _ _ _ _ _ _ (hn.below (by repeat (first | exact Bw.refl _ | assumption | refine Bw.drew ?_ | refine Bw.drewN ?_ _ | refine Bw.alloc ?_ _ | refine Bw.trans ?_ (by assumption)))) hl).mono ?_; rintro e w' ⟨rfl, hbl⟩; rw [unhide Hfd]; obtain ⟨hcc, hff⟩ := bcell hbl; have hz0 : w.heap.size < w'.heap.size := (by have := hbl.size; (try simp at this); omega); have hzb : b < w'.heap.size := (by omega))
          go_ret
          exact ⟨ret_bool (knotB_yes hlt (unhide Hk)).symm, (by repeat (first | exact Bw.refl _ | assumption | refine Bw.drew ?_ | refine Bw.drewN ?_ _ | refine Bw.alloc ?_ _ | refine Bw.trans ?_ (by assumption)))⟩
    · go_wp2_with fail
      go_ret
      exact ⟨ret_bool (knotB_no fun j hj => (unhide Hno) j (by omega)).symm, (by repeat (first | exact Bw.refl _ | assumption | refine Bw.drew ?_ | refine Bw.drewN ?_ _ | refine Bw.alloc ?_ _ | refine Bw.trans ?_ (by assumption)))⟩

def refE (ns : List Nd) (r : Int) : Int := if wfB ns r then (if knotB ns then 2 else 0) else 1

set_option maxHeartbeats 1000000 in
theorem rcheck_any (ns : List Nd) (ga : Option Addr) (gc : Nat) (r : Int) (w : World) (hn : NodesAt w ga ns) (hgl : ns.length ≤ maxLen) :
    Calls Try.prog 41 #[.agg #[.slice ga ns.length gc, .int .i64 r]] w fun e w' => e = .returned (.int .i64 (refE ns r)) ∧ Bw w w' := by
  cases hwf : wfB ns r with
  | false =>
    have HW := hide hwf
    clear hwf
    go_enter Try.func41, Try.ntmps41
    go_wp2_with (go_at_call 69; refine (sound_any ns _ _ _ _ (hn.below (by repeat (first | exact Bw.refl _ | assumption | refine Bw.drew ?_ | refine Bw.drewN ?_ _ | refine Bw.alloc ?_ _ | refine Bw.trans ?_ (by assumption)))) hgl).mono ?_; rintro e w' ⟨rfl, hbl⟩; rw [unhide HW]; obtain ⟨hcc, hff⟩ := bcell hbl; have hz0 : w.heap.size < w'.heap.size := (by have := hbl.size; (try simp at this); omega))
    go_ret
    exact ⟨ret_int (by simp [refE, unhide HW]), (by repeat (first | exact Bw.refl _ | assumption | refine Bw.drew ?_ | refine Bw.drewN ?_ _ | refine Bw.alloc ?_ _ | refine Bw.trans ?_ (by assumption)))⟩
  | true =>
    have HW := hide hwf
    obtain ⟨h1, h8⟩ := wfB_len hwf
    clear hwf
    cases hkn : knotB ns with
    | true =>
      have HK := hide hkn
      clear hkn
      go_enter Try.func41, Try.ntmps41
      go_wp2_with (first | (go_at_call 69; refine (sound_any ns _ _ _ _ (hn.below (by repeat (first | exact Bw.refl _ | assumption | refine Bw.drew ?_ | refine Bw.drewN ?_ _ | refine Bw.alloc ?_ _ | refine Bw.trans ?_ (by assumption)))) hgl).mono ?_; rintro e w' ⟨rfl, hbl⟩; rw [unhide HW]; obtain ⟨hcc, hff⟩ := bcell hbl; have hz0 : w.heap.size < w'.heap.size := (by have := hbl.size; (try simp at this); omega)) | (go_at_call 70; refine (knotted_any ns _ _ _ _ (hn.below (by repeat (first | exact Bw.refl _ | assumption | refine Bw.drew ?_ | refine Bw.drewN ?_ _ | refine Bw.alloc ?_ _ | refine Bw.trans ?_ (by assumption)))) h8).mono ?_; rintro e w' ⟨rfl, hbl⟩; rw [unhide HK]))
      go_ret
      exact ⟨ret_int (by simp [refE, unhide HW, unhide HK]), (by repeat (first | exact Bw.refl _ | assumption | refine Bw.drew ?_ | refine Bw.drewN ?_ _ | refine Bw.alloc ?_ _ | refine Bw.trans ?_ (by assumption)))⟩
    | false =>
      have HK := hide hkn
      clear hkn
      go_enter Try.func41, Try.ntmps41
      go_wp2_with (first | (go_at_call 69; refine (sound_any ns _ _ _ _ (hn.below (by repeat (first | exact Bw.refl _ | assumption | refine Bw.drew ?_ | refine Bw.drewN ?_ _ | refine Bw.alloc ?_ _ | refine Bw.trans ?_ (by assumption)))) hgl).mono ?_; rintro e w' ⟨rfl, hbl⟩; rw [unhide HW]; obtain ⟨hcc, hff⟩ := bcell hbl; have hz0 : w.heap.size < w'.heap.size := (by have := hbl.size; (try simp at this); omega)) | (go_at_call 70; refine (knotted_any ns _ _ _ _ (hn.below (by repeat (first | exact Bw.refl _ | assumption | refine Bw.drew ?_ | refine Bw.drewN ?_ _ | refine Bw.alloc ?_ _ | refine Bw.trans ?_ (by assumption)))) h8).mono ?_; rintro e w' ⟨rfl, hbl⟩; rw [unhide HK]))
      go_ret
      exact ⟨ret_int (by simp [refE, unhide HW, unhide HK]), (by repeat (first | exact Bw.refl _ | assumption | refine Bw.drew ?_ | refine Bw.drewN ?_ _ | refine Bw.alloc ?_ _ | refine Bw.trans ?_ (by assumption)))⟩
end Go.Proofs.Ytfemleimkbjehaa
