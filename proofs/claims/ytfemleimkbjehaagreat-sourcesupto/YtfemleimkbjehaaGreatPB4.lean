import Derived.Test.YtfemleimkbjehaaGreatJ21
import Derived.Test.YtfemleimkbjehaaGreatJ22
namespace Go.Proofs.YtfemleimkbjehaaGreat
open Go.RowKit

set_option maxRecDepth 100000 in
set_option maxHeartbeats 2000000 in
theorem pbetween_any (L : Nat) (D : Nat → Nat → Int) (n y : Nat) (da : Option Addr) (dc : Nat) (w : World) (hD : TabAt w da L L D) (hn : n < L) (hy : y < L) (hL : L ≤ 8) :
    Calls Tryz.prog 126 #[.agg #[.slice da L dc], .int .i64 (n : Int), .int .i64 (y : Int)] w fun en w' => en = .returned (.int .i64 (D n y)) ∧ Bw w w' := by
  obtain ⟨tb, toff, rfl, htb, tpb, tpo, tpc, td0, htpb, tdc⟩ := hD n hn
  have td1 := tdc y hy
  clear tdc
  have hj1 : (n : Int) < (L : Int) := by omega
  have hj2 : (y : Int) < (L : Int) := by omega
  have d1 : decide ((n : Int) < 0) = false := by simp
  have d2 : decide ((L : Int) ≤ (n : Int)) = false := by simp; omega
  have d3 : decide ((y : Int) < 0) = false := by simp
  have d4 : decide ((L : Int) ≤ (y : Int)) = false := by simp; omega
  go_enter Tryz.func126, Tryz.ntmps126
  go_wp2_with fail
  go_ret
  exact ⟨rfl, (by repeat (first | exact Bw.refl _ | assumption | refine Bw.drew ?_ | refine Bw.drewN ?_ _ | refine Bw.alloc ?_ _ | refine Bw.trans ?_ (by assumption)))⟩

set_option maxRecDepth 100000 in
set_option maxHeartbeats 4000000 in
theorem pfirst_any {ns : List Nd} {D : Nat → Nat → Int} {na da : Option Addr} {nc dc : Nat} (n e s y : Nat) (r : Int) (out : Bool) (ct : Int) (w : World) (hnd : NodesAt w na ns) (hdt : TabAt w da ns.length ns.length D) (h8 : ns.length ≤ 8) (hn : n < ns.length) (hy : y < ns.length) (hs : s < 4) (hD : D n y ≤ 1000) (hD1 : -1 ≤ D n y) :
    Calls Tryz.prog 117 #[.agg #[.slice na ns.length nc, .int .i64 r], .agg #[.slice da ns.length dc], .agg #[.int .i64 (n : Int), .bool out, .int .i64 (e : Int), .int .i64 (s : Int), .int .i64 ct], .int .i64 (y : Int)] w fun en w' => en = .returned (.int .i64 (comesI ns D n out s y)) ∧ Bw w w' := by
  have Hb := hide (fun (w' : World) (hB : Bw w w') => pbetween_any ns.length D n y da dc w' (hdt.below hB) hn hy h8)
  have Hk : Hid (∀ (w' : World), Bw w w' → Calls Tryz.prog 111 #[.agg #[.slice na ns.length nc, .int .i64 r], .int .i64 (n : Int), .int .i64 4] w' fun e w'' => e = .returned (.bool ((ndn ns n).kind == 4)) ∧ Bw w' w'') := hide (fun w' hB => by
    have := isOfKind_any ns na nc r (n : Int) 4 w' (hnd.below hB) (by unfold maxLen; omega)
    rw [show isNodeB ns.length (n : Int) = true from isNodeB_iff.2 ⟨by omega, by omega⟩, Int.toNat_natCast, Bool.true_and] at this
    exact this)
  have hny : ((n : Int) == (y : Int)) = (n == y) := by rw [Bool.eq_iff_iff]; simp; omega
  have Hc : Hid (comesI ns D n out s y = if !out && (n == y) then (s : Int) else if decide (D n y < 0) then -1 else if !out && ((ndn ns n).kind == 4) then s + (D n y + 1) else s + D n y) := hide rfl
  generalize ((ndn ns n).kind == 4) = kb at *
  by_cases hd : D n y < 0
  · have hdd : decide (D n y < 0) = true := by simpa using hd
    have hdm : D n y = -1 := by omega
    rw [hdm] at Hb
    cases out with
    | true =>
      have He : Hid (comesI ns D n true s y = -1) := hide (by rw [unhide Hc, hdd]; rfl)
      clear Hc hd hdm hdd
      go_enter Tryz.func117, Tryz.ntmps117
      go_wp2_with (go_at_call 126; refine ((unhide Hb) _ (by repeat (first | exact Bw.refl _ | assumption | refine Bw.drew ?_ | refine Bw.drewN ?_ _ | refine Bw.alloc ?_ _ | refine Bw.trans ?_ (by assumption)))).mono ?_; rintro en w' ⟨rfl, hbl⟩)
      go_ret
      exact ⟨ret_int (unhide He).symm, (by repeat (first | exact Bw.refl _ | assumption | refine Bw.drew ?_ | refine Bw.drewN ?_ _ | refine Bw.alloc ?_ _ | refine Bw.trans ?_ (by assumption)))⟩
    | false =>
      cases hxy : (n == y) with
      | true =>
        rw [hxy] at hny
        have He : Hid (comesI ns D n false s y = s) := hide (by rw [unhide Hc, hxy]; rfl)
        clear Hc hd hdm hdd
        go_enter Tryz.func117, Tryz.ntmps117
        go_wp2_with fail
        go_ret
        exact ⟨ret_int (unhide He).symm, (by repeat (first | exact Bw.refl _ | assumption | refine Bw.drew ?_ | refine Bw.drewN ?_ _ | refine Bw.alloc ?_ _ | refine Bw.trans ?_ (by assumption)))⟩
      | false =>
        rw [hxy] at hny
        have He : Hid (comesI ns D n false s y = -1) := hide (by rw [unhide Hc, hxy, hdd]; rfl)
        clear Hc hd hdm hdd
        go_enter Tryz.func117, Tryz.ntmps117
        go_wp2_with (go_at_call 126; refine ((unhide Hb) _ (by repeat (first | exact Bw.refl _ | assumption | refine Bw.drew ?_ | refine Bw.drewN ?_ _ | refine Bw.alloc ?_ _ | refine Bw.trans ?_ (by assumption)))).mono ?_; rintro en w' ⟨rfl, hbl⟩)
        go_ret
        exact ⟨ret_int (unhide He).symm, (by repeat (first | exact Bw.refl _ | assumption | refine Bw.drew ?_ | refine Bw.drewN ?_ _ | refine Bw.alloc ?_ _ | refine Bw.trans ?_ (by assumption)))⟩
  · have hdd : decide (D n y < 0) = false := by simpa using hd
    have hd0 : 0 ≤ D n y := by omega
    have hdm : (D n y == -1) = false := by simp; omega
    cases out with
    | true =>
      have He : Hid (comesI ns D n true s y = s + D n y) := hide (by rw [unhide Hc, hdd]; rfl)
      clear Hc hd hdd
      generalize D n y = dd at *
      go_enter Tryz.func117, Tryz.ntmps117
      go_wp2_with (go_at_call 126; refine ((unhide Hb) _ (by repeat (first | exact Bw.refl _ | assumption | refine Bw.drew ?_ | refine Bw.drewN ?_ _ | refine Bw.alloc ?_ _ | refine Bw.trans ?_ (by assumption)))).mono ?_; rintro en w' ⟨rfl, hbl⟩; obtain ⟨hcc, hff⟩ := bcell hbl; have hz0 : w.heap.size < w'.heap.size := (by have := hbl.size; (try simp at this); omega); have hz1 : w.heap.size + 1 < w'.heap.size := (by have := hbl.size; (try simp at this); omega); have hz2 : w.heap.size + 2 < w'.heap.size := (by have := hbl.size; (try simp at this); omega))
      go_ret
      exact ⟨ret_int (unhide He).symm, (by repeat (first | exact Bw.refl _ | assumption | refine Bw.drew ?_ | refine Bw.drewN ?_ _ | refine Bw.alloc ?_ _ | refine Bw.trans ?_ (by assumption)))⟩
    | false =>
      cases hxy : (n == y) with
      | true =>
        rw [hxy] at hny
        have He : Hid (comesI ns D n false s y = s) := hide (by rw [unhide Hc, hxy]; rfl)
        clear Hc hd hdd
        go_enter Tryz.func117, Tryz.ntmps117
        go_wp2_with fail
        go_ret
        exact ⟨ret_int (unhide He).symm, (by repeat (first | exact Bw.refl _ | assumption | refine Bw.drew ?_ | refine Bw.drewN ?_ _ | refine Bw.alloc ?_ _ | refine Bw.trans ?_ (by assumption)))⟩
      | false =>
        rw [hxy] at hny
        cases kb with
        | true =>
          have He : Hid (comesI ns D n false s y = s + (D n y + 1)) := hide (by rw [unhide Hc, hxy, hdd]; rfl)
          clear Hc hd hdd
          generalize D n y = dd at *
          go_enter Tryz.func117, Tryz.ntmps117
          go_wp2_with (first | (go_at_call 126; refine ((unhide Hb) _ (by repeat (first | exact Bw.refl _ | assumption | refine Bw.drew ?_ | refine Bw.drewN ?_ _ | refine Bw.alloc ?_ _ | refine Bw.trans ?_ (by assumption)))).mono ?_; rintro en w' ⟨rfl, hbl⟩; obtain ⟨hcc, hff⟩ := bcell hbl; have hz0 : w.heap.size < w'.heap.size := (by have := hbl.size; (try simp at this); omega); have hz1 : w.heap.size + 1 < w'.heap.size := (by have := hbl.size; (try simp at this); omega); have hz2 : w.heap.size + 2 < w'.heap.size := (by have := hbl.size; (try simp at this); omega)) | (go_at_call 111; refine ((unhide Hk) _ (by repeat (first | exact Bw.refl _ | assumption | refine Bw.drew ?_ | refine Bw.drewN ?_ _ | refine Bw.alloc ?_ _ | refine Bw.trans ?_ (by assumption)))).mono ?_; rintro en w2 ⟨rfl, hbl2⟩; obtain ⟨hcc2, hff2⟩ := bcell hbl2))
          go_ret
          exact ⟨ret_int (unhide He).symm, (by repeat (first | exact Bw.refl _ | assumption | refine Bw.drew ?_ | refine Bw.drewN ?_ _ | refine Bw.alloc ?_ _ | refine Bw.trans ?_ (by assumption)))⟩
        | false =>
          have He : Hid (comesI ns D n false s y = s + D n y) := hide (by rw [unhide Hc, hxy, hdd]; rfl)
          clear Hc hd hdd
          generalize D n y = dd at *
          go_enter Tryz.func117, Tryz.ntmps117
          go_wp2_with (first | (go_at_call 126; refine ((unhide Hb) _ (by repeat (first | exact Bw.refl _ | assumption | refine Bw.drew ?_ | refine Bw.drewN ?_ _ | refine Bw.alloc ?_ _ | refine Bw.trans ?_ (by assumption)))).mono ?_; rintro en w' ⟨rfl, hbl⟩; obtain ⟨hcc, hff⟩ := bcell hbl; have hz0 : w.heap.size < w'.heap.size := (by have := hbl.size; (try simp at this); omega); have hz1 : w.heap.size + 1 < w'.heap.size := (by have := hbl.size; (try simp at this); omega); have hz2 : w.heap.size + 2 < w'.heap.size := (by have := hbl.size; (try simp at this); omega)) | (go_at_call 111; refine ((unhide Hk) _ (by repeat (first | exact Bw.refl _ | assumption | refine Bw.drew ?_ | refine Bw.drewN ?_ _ | refine Bw.alloc ?_ _ | refine Bw.trans ?_ (by assumption)))).mono ?_; rintro en w2 ⟨rfl, hbl2⟩; obtain ⟨hcc2, hff2⟩ := bcell hbl2))
          go_ret
          exact ⟨ret_int (unhide He).symm, (by repeat (first | exact Bw.refl _ | assumption | refine Bw.drew ?_ | refine Bw.drewN ?_ _ | refine Bw.alloc ?_ _ | refine Bw.trans ?_ (by assumption)))⟩
end Go.Proofs.YtfemleimkbjehaaGreat
