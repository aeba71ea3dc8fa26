import Derived.Test.YtfemleimkbjehaaGraph2
namespace Go.Proofs.Ytfemleimkbjehaa
open Go.RowKit

def canFollowB (ord : List Int) (x : Nd) : Bool :=
  (x.kind == 0) || (x.kind == 4) || (if x.kind == 3 then hasB ord x.a && hasB ord x.b else hasB ord x.a)
def aheadB (ns : List Nd) (ord : List Int) (n : Int) : Int :=
  if isNodeB ns.length n then (if ((ndn ns n.toNat).kind == 3) && hasB ord (ndn ns n.toNat).a then (ndn ns n.toNat).b else (ndn ns n.toNat).a) else n
/-- The first from k on, of f more, that is not in the order. -/
def firstB (ord : List Int) : Nat → Nat → Int
  | _, 0 => 0
  | k, f + 1 => if hasB ord k then firstB ord (k + 1) f else k

set_option maxHeartbeats 1000000 in
theorem canFollow_any (ord : List Int) (x : Nd) (ad : Option Addr) (cap : Nat) (w : World) (hx : IntsAt w ad ord) (hl : ord.length ≤ maxLen) :
    Calls Try.prog 95 #[.slice ad ord.length cap, x.val] w fun e w' => e = .returned (.bool (canFollowB ord x)) ∧ Bw w w' := by
  unfold Nd.val
  cases ha : hasB ord x.a with
  | false =>
    have HA := hide ha
    clear ha
    go_enter Try.func95, Try.ntmps95
    go_wp2_with (go_at_call 94; refine (contains_any ord _ _ _ _ (hx.below (by repeat (first | exact Bw.refl _ | assumption | refine Bw.drew ?_ | refine Bw.drewN ?_ _ | refine Bw.alloc ?_ _ | refine Bw.trans ?_ (by assumption)))) hl).mono ?_; rintro e w' ⟨rfl, rfl⟩; try rw [unhide HA])
    all_goals
      go_ret
      exact ⟨ret_bool (by have := unhide HA; rw [Bool.eq_iff_iff]; simp_all [canFollowB]), (by repeat (first | exact Bw.refl _ | assumption | refine Bw.drew ?_ | refine Bw.drewN ?_ _ | refine Bw.alloc ?_ _ | refine Bw.trans ?_ (by assumption)))⟩
  | true =>
    have HA := hide ha
    clear ha
    go_enter Try.func95, Try.ntmps95
    go_wp2_with (go_at_call 94; refine (contains_any ord _ _ _ _ (hx.below (by repeat (first | exact Bw.refl _ | assumption | refine Bw.drew ?_ | refine Bw.drewN ?_ _ | refine Bw.alloc ?_ _ | refine Bw.trans ?_ (by assumption)))) hl).mono ?_; rintro e w' ⟨rfl, rfl⟩; try rw [unhide HA])
    all_goals
      go_ret
      exact ⟨ret_bool (by have := unhide HA; rw [Bool.eq_iff_iff]; simp_all [canFollowB]), (by repeat (first | exact Bw.refl _ | assumption | refine Bw.drew ?_ | refine Bw.drewN ?_ _ | refine Bw.alloc ?_ _ | refine Bw.trans ?_ (by assumption)))⟩

theorem firstB_hit {ord : List Int} {k f : Nat} (h : hasB ord k = false) : firstB ord k (f + 1) = k := by simp [firstB, h]
theorem firstB_skip {ord : List Int} {k f : Nat} (h : hasB ord k = true) : firstB ord k (f + 1) = firstB ord (k + 1) f := by simp [firstB, h]

set_option maxHeartbeats 1000000 in
theorem first_any (len : Nat) (ord : List Int) (ga : Option Addr) (gc : Nat) (r : Int) (ad : Option Addr) (cap : Nat) (w : World) (hx : IntsAt w ad ord) (hl : ord.length ≤ maxLen) (hg : len ≤ maxLen) :
    Calls Try.prog 96 #[.agg #[.slice ga len gc, .int .i64 r], .slice ad ord.length cap] w fun e w' => e = .returned (.int .i64 (firstB ord 0 len)) ∧ Bw w w' := by
  have hg2 := hg
  unfold maxLen at hg2
  go_enter Try.func96, Try.ntmps96
  go_wp2
  go_loop [5] (fun i => ∃ k : Nat, k ≤ len ∧ i = .int .i64 k ∧ firstB ord k (len - k) = firstB ord 0 len) (fun i => len - (intOf i).toNat)
  case atStart => exact ⟨0, Nat.zero_le _, rfl, rfl⟩
  case round =>
    obtain ⟨k, hk, rfl, hf⟩ := hrel
    have Hf := hide hf
    clear hf
    by_cases hlt : k < len
    · have e1 : len - k = (len - (k + 1)) + 1 := by omega
      rw [e1] at Hf
      clear e1
      cases hh : hasB ord k with
      | false =>
        have HH := hide hh
        clear hh
        go_wp2_with (go_at_call 94; refine (contains_any ord _ _ _ _ (hx.below (by repeat (first | exact Bw.refl _ | assumption | refine Bw.drew ?_ | refine Bw.drewN ?_ _ | refine Bw.alloc ?_ _ | refine Bw.trans ?_ (by assumption)))) hl).mono ?_; rintro e w' ⟨rfl, rfl⟩; rw [unhide HH])
        go_ret
        exact ⟨ret_int (by rw [← unhide Hf, firstB_hit (unhide HH)]), (by repeat (first | exact Bw.refl _ | assumption | refine Bw.drew ?_ | refine Bw.drewN ?_ _ | refine Bw.alloc ?_ _ | refine Bw.trans ?_ (by assumption)))⟩
      | true =>
        have HH := hide hh
        clear hh
        go_wp2_with (go_at_call 94; refine (contains_any ord _ _ _ _ (hx.below (by repeat (first | exact Bw.refl _ | assumption | refine Bw.drew ?_ | refine Bw.drewN ?_ _ | refine Bw.alloc ?_ _ | refine Bw.trans ?_ (by assumption)))) hl).mono ?_; rintro e w' ⟨rfl, rfl⟩; rw [unhide HH])
        go_round
        case rel => exact ⟨k + 1, by omega, by go_num, by rw [← unhide Hf, firstB_skip (unhide HH)]⟩
        case measure => simp [intOf]; omega
    · have e1 : len - k = 0 := by omega
      rw [e1] at Hf
      clear e1
      go_wp2
      go_ret
      exact ⟨ret_int (by rw [← unhide Hf]; rfl), (by repeat (first | exact Bw.refl _ | assumption | refine Bw.drew ?_ | refine Bw.drewN ?_ _ | refine Bw.alloc ?_ _ | refine Bw.trans ?_ (by assumption)))⟩

set_option maxHeartbeats 1000000 in
theorem ahead_any (ns : List Nd) (ga : Option Addr) (gc : Nat) (r : Int) (ord : List Int) (n : Int) (ad : Option Addr) (cap : Nat) (w : World) (hn : NodesAt w ga ns) (hx : IntsAt w ad ord) (hl : ord.length ≤ maxLen) (_hg : ns.length ≤ maxLen) :
    Calls Try.prog 97 #[.agg #[.slice ga ns.length gc, .int .i64 r], .slice ad ord.length cap, .int .i64 n] w fun e w' => e = .returned (.int .i64 (aheadB ns ord n)) ∧ Bw w w' := by
  cases hb : isNodeB ns.length n with
  | false =>
    have HB := hide hb
    clear hb
    go_enter Try.func97, Try.ntmps97
    go_wp2_with (go_at_call 74; refine (isNode_any _ _ _ _ _ _).mono ?_; rintro e w' ⟨rfl, hbl⟩; rw [unhide HB])
    go_ret
    exact ⟨ret_int (by simp [aheadB, unhide HB]), (by repeat (first | exact Bw.refl _ | assumption | refine Bw.drew ?_ | refine Bw.drewN ?_ _ | refine Bw.alloc ?_ _ | refine Bw.trans ?_ (by assumption)))⟩
  | true =>
    have HB := hide hb
    obtain ⟨h0, h1⟩ := isNodeB_iff.1 hb
    clear hb
    obtain ⟨i, rfl⟩ := Int.eq_ofNat_of_zero_le h0
    obtain ⟨b, off, rfl, hb, hc⟩ := hn i (by omega)
    obtain ⟨c0, c1, c2, c3, c4⟩ := hc i (by omega)
    clear hc
    go_enter Try.func97, Try.ntmps97
    go_wp2_with (first | (go_at_call 74; refine (isNode_any _ _ _ _ _ _).mono ?_; rintro e w' ⟨rfl, hbl⟩; rw [unhide HB]; obtain ⟨hcc, hff⟩ := bcell hbl; have hz0 : w.heap.size < w'.heap.size := (by have := hbl.size; (try simp at this); omega)) | (go_at_call 94; refine (contains_any ord _ _ _ _ (hx.below (by repeat (first | exact Bw.refl _ | assumption | refine Bw.drew ?_ | refine Bw.drewN ?_ _ | refine Bw.alloc ?_ _ | refine Bw.trans ?_ (by assumption)))) hl).mono ?_; rintro e w' ⟨rfl, rfl⟩))
    all_goals
      go_ret
      exact ⟨ret_int (by simp_all [aheadB, unhide HB]), (by repeat (first | exact Bw.refl _ | assumption | refine Bw.drew ?_ | refine Bw.drewN ?_ _ | refine Bw.alloc ?_ _ | refine Bw.trans ?_ (by assumption)))⟩
end Go.Proofs.Ytfemleimkbjehaa
