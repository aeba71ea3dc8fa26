import Derived.Test.YtfemleimkbjehaaMean4
namespace Go.Proofs.Ytfemleimkbjehaa
open Go.RowKit

/-- May this be given? -/
def givB (ns : List Nd) (x : Gv) : Bool := (isNodeB ns.length x.node && ((ndn ns x.node.toNat).kind == 0)) && (decide (0 ≤ x.epoch) && decide (x.epoch ≤ 5))
def givTo (ns : List Nd) (gv : List Gv) : Nat → Bool
  | 0 => true
  | k + 1 => givTo ns gv k && givB ns (gvn gv k)
def meanE (ns : List Nd) (r : Int) (gv : List Gv) : Int := if checkE ns r != 0 then checkE ns r else if decide (20 < gv.length) then 5 else if givTo ns gv gv.length then 0 else 3
def meanL (ns : List Nd) (r : Int) (gv : List Gv) : List Nd := if meanE ns r gv == 0 then recN ns gv r.toNat ns.length else []
theorem givTo_false {ns : List Nd} {gv : List Gv} {k : Nat} (h : givB ns (gvn gv k) = false) : ∀ n, k < n → givTo ns gv n = false := by
  intro n
  induction n with
  | zero => intro h; omega
  | succ n ih =>
    intro hk
    rw [givTo]
    by_cases e : k = n
    · subst e; rw [h]; simp
    · rw [ih (by omega)]; rfl
theorem givTo_true {ns : List Nd} {gv : List Gv} : ∀ n, (∀ k, k < n → givB ns (gvn gv k) = true) → givTo ns gv n = true := by
  intro n
  induction n with
  | zero => intro _; rfl
  | succ n ih => intro h; rw [givTo, ih fun k hk => h k (by omega), h n (by omega)]; rfl
theorem good_of {ns : List Nd} {r : Int} (h : checkE ns r = 0) : Good ns r (orderB ns) ∧ ∃ R : Nat, r = R ∧ 1 ≤ R ∧ R ≤ 4 := by
  unfold checkE at h
  split at h
  · rename_i hw
    split at h
    · simp at h
    · rename_i hl
      refine ⟨⟨hw, ordTo_ok ns ns.length, order_all hl⟩, r.toNat, ?_⟩
      simp [wfB] at hw
      omega
  · simp at h

set_option maxHeartbeats 1000000 in
theorem isOfKind_any (ns : List Nd) (ga : Option Addr) (gc : Nat) (r n kd : Int) (w : World) (hn : NodesAt w ga ns) (_hgl : ns.length ≤ maxLen) :
    Calls Try.prog 129 #[.agg #[.slice ga ns.length gc, .int .i64 r], .int .i64 n, .int .i64 kd] w fun e w' => e = .returned (.bool (isNodeB ns.length n && ((ndn ns n.toNat).kind == kd))) ∧ Bw w w' := by
  cases h1 : isNodeB ns.length n with
  | false =>
    have H1 := hide h1
    clear h1
    go_enter Try.func129, Try.ntmps129
    go_wp2_with (go_at_call 74; refine (isNode_any _ _ _ _ _ _).mono ?_; rintro e w' ⟨rfl, hbl⟩; rw [unhide H1]; obtain ⟨hcc, hff⟩ := bcell hbl; have hz0 : w.heap.size < w'.heap.size := (by have := hbl.size; (try simp at this); omega))
    go_ret
    exact ⟨ret_bool (by simp), (by repeat (first | exact Bw.refl _ | assumption | refine Bw.drew ?_ | refine Bw.drewN ?_ _ | refine Bw.alloc ?_ _ | refine Bw.trans ?_ (by assumption)))⟩
  | true =>
    have H1 := hide h1
    obtain ⟨b1, b2⟩ := isNodeB_iff.1 h1
    obtain ⟨k, rfl⟩ := Int.eq_ofNat_of_zero_le b1
    have hk : k < ns.length := by omega
    clear h1 b1 b2
    obtain ⟨b, off, rfl, hb, hc⟩ := hn k hk
    have c0 := (hc k hk).1
    clear hc
    rw [Int.toNat_natCast]
    go_enter Try.func129, Try.ntmps129
    go_wp2_with (go_at_call 74; refine (isNode_any _ _ _ _ _ _).mono ?_; rintro e w' ⟨rfl, hbl⟩; rw [unhide H1]; obtain ⟨hcc, hff⟩ := bcell hbl; have hz0 : w.heap.size < w'.heap.size := (by have := hbl.size; (try simp at this); omega); have hzb : b < w'.heap.size := (by omega))
    go_ret
    exact ⟨ret_bool (by simp), (by repeat (first | exact Bw.refl _ | assumption | refine Bw.drew ?_ | refine Bw.drewN ?_ _ | refine Bw.alloc ?_ _ | refine Bw.trans ?_ (by assumption)))⟩

set_option maxHeartbeats 1000000 in
theorem canBeGiven_any (ns : List Nd) (ga : Option Addr) (gc : Nat) (r : Int) (x : Gv) (w : World) (hn : NodesAt w ga ns) (hgl : ns.length ≤ maxLen) :
    Calls Try.prog 102 #[.agg #[.slice ga ns.length gc, .int .i64 r], .agg #[.int .i64 x.node, .int .i64 x.epoch, .int .i64 x.value]] w fun e w' => e = .returned (.bool (givB ns x)) ∧ Bw w w' := by
  unfold givB
  cases h1 : (isNodeB ns.length x.node && ((ndn ns x.node.toNat).kind == 0)) with
  | false =>
    have H1 := hide h1
    clear h1
    go_enter Try.func102, Try.ntmps102
    go_wp2_with (go_at_call 129; refine (isOfKind_any ns _ _ _ _ 0 _ (hn.below (by repeat (first | exact Bw.refl _ | assumption | refine Bw.drew ?_ | refine Bw.drewN ?_ _ | refine Bw.alloc ?_ _ | refine Bw.trans ?_ (by assumption)))) hgl).mono ?_; rintro e w' ⟨rfl, hbl⟩; rw [unhide H1]; obtain ⟨hcc, hff⟩ := bcell hbl; have hz0 : w.heap.size < w'.heap.size := (by have := hbl.size; (try simp at this); omega); have hz1 : w.heap.size + 1 < w'.heap.size := (by have := hbl.size; (try simp at this); omega))
    go_ret
    exact ⟨ret_bool (by simp), (by repeat (first | exact Bw.refl _ | assumption | refine Bw.drew ?_ | refine Bw.drewN ?_ _ | refine Bw.alloc ?_ _ | refine Bw.trans ?_ (by assumption)))⟩
  | true =>
    have H1 := hide h1
    clear h1
    cases h2 : decide (0 ≤ x.epoch) with
    | false =>
      go_enter Try.func102, Try.ntmps102
      go_wp2_with (go_at_call 129; refine (isOfKind_any ns _ _ _ _ 0 _ (hn.below (by repeat (first | exact Bw.refl _ | assumption | refine Bw.drew ?_ | refine Bw.drewN ?_ _ | refine Bw.alloc ?_ _ | refine Bw.trans ?_ (by assumption)))) hgl).mono ?_; rintro e w' ⟨rfl, hbl⟩; rw [unhide H1]; obtain ⟨hcc, hff⟩ := bcell hbl; have hz0 : w.heap.size < w'.heap.size := (by have := hbl.size; (try simp at this); omega); have hz1 : w.heap.size + 1 < w'.heap.size := (by have := hbl.size; (try simp at this); omega))
      go_ret
      exact ⟨ret_bool (by simp), (by repeat (first | exact Bw.refl _ | assumption | refine Bw.drew ?_ | refine Bw.drewN ?_ _ | refine Bw.alloc ?_ _ | refine Bw.trans ?_ (by assumption)))⟩
    | true =>
      go_enter Try.func102, Try.ntmps102
      go_wp2_with (go_at_call 129; refine (isOfKind_any ns _ _ _ _ 0 _ (hn.below (by repeat (first | exact Bw.refl _ | assumption | refine Bw.drew ?_ | refine Bw.drewN ?_ _ | refine Bw.alloc ?_ _ | refine Bw.trans ?_ (by assumption)))) hgl).mono ?_; rintro e w' ⟨rfl, hbl⟩; rw [unhide H1]; obtain ⟨hcc, hff⟩ := bcell hbl; have hz0 : w.heap.size < w'.heap.size := (by have := hbl.size; (try simp at this); omega); have hz1 : w.heap.size + 1 < w'.heap.size := (by have := hbl.size; (try simp at this); omega))
      go_ret
      exact ⟨ret_bool (by simp), (by repeat (first | exact Bw.refl _ | assumption | refine Bw.drew ?_ | refine Bw.drewN ?_ _ | refine Bw.alloc ?_ _ | refine Bw.trans ?_ (by assumption)))⟩

theorem meanE_check {ns : List Nd} {r : Int} {gv : List Gv} (h : (checkE ns r != 0) = true) : meanE ns r gv = checkE ns r := by unfold meanE; rw [if_pos h]
theorem meanE_room {ns : List Nd} {r : Int} {gv : List Gv} (h : (checkE ns r != 0) = false) (h2 : 20 < gv.length) : meanE ns r gv = 5 := by unfold meanE; rw [if_neg (by rw [h]; decide), if_pos (by simpa using h2)]
theorem meanE_arg {ns : List Nd} {r : Int} {gv : List Gv} (h : (checkE ns r != 0) = false) (h2 : ¬ 20 < gv.length) (h3 : givTo ns gv gv.length = false) : meanE ns r gv = 3 := by unfold meanE; rw [if_neg (by rw [h]; decide), if_neg (by simpa using h2), if_neg (by rw [h3]; decide)]
theorem meanE_ok {ns : List Nd} {r : Int} {gv : List Gv} (h : (checkE ns r != 0) = false) (h2 : ¬ 20 < gv.length) (h3 : givTo ns gv gv.length = true) : meanE ns r gv = 0 := by unfold meanE; rw [if_neg (by rw [h]; decide), if_neg (by simpa using h2), if_pos h3]
theorem meanL_no {ns : List Nd} {r : Int} {gv : List Gv} (h : meanE ns r gv ≠ 0) : meanL ns r gv = [] := by unfold meanL; rw [if_neg (by simpa using h)]
theorem meanL_ok {ns : List Nd} {r : Int} {gv : List Gv} (h : meanE ns r gv = 0) : meanL ns r gv = recN ns gv r.toNat ns.length := by unfold meanL; rw [if_pos (by simp [h])]

/-- What Meaning answers. -/
def MeanOk (w w' : World) (e : Ending) (ns : List Nd) (r : Int) (gv : List Gv) : Prop := ∃ v, e = .returned (.tuple #[v, .int .i64 (meanE ns r gv)]) ∧ OwnR w w' v (meanL ns r gv) ∧ Bw w w'
theorem MeanOk.err {w w' : World} {ns : List Nd} {r c : Int} {gv : List Gv} (h : meanE ns r gv = c) (hc : c ≠ 0) (hb : Bw w w') : MeanOk w w' (.returned (.tuple #[.slice none 0 0, .int .i64 c])) ns r gv :=
  ⟨_, by rw [h], by rw [meanL_no (by rw [h]; exact hc)]; exact OwnR.nil _ _, hb⟩

set_option maxRecDepth 100000 in
set_option maxHeartbeats 2000000 in
theorem of_any (ns : List Nd) (ga va : Option Addr) (gc vc : Nat) (r : Int) (gv : List Gv) (w : World) (hn : NodesAt w ga ns) (hgl : ns.length ≤ maxLen) (hv : GvAt w va gv) (h64 : ∀ k, k < gv.length → I64 (gvn gv k).value) (hvl : gv.length ≤ maxLen) :
    Calls Try.prog 76 #[.agg #[.slice ga ns.length gc, .int .i64 r], .slice va gv.length vc] w fun e w' => MeanOk w w' e ns r gv := by
  have hvl' := hvl
  unfold maxLen at hvl'
  go_enter Try.func76, Try.ntmps76
  go_wp2_with fail
  refine (gcheck_any ns _ _ _ _ (hn.below (by repeat (first | exact Bw.refl _ | assumption | refine Bw.drew ?_ | refine Bw.drewN ?_ _ | refine Bw.alloc ?_ _ | refine Bw.trans ?_ (by assumption)))) hgl).mono ?_
  rintro en w1 ⟨v, rfl, _, hB1⟩
  obtain ⟨x0, x1⟩ : w1.cell? ⟨w.heap.size, 0, none⟩ = some (.slice ga ns.length gc) ∧ w1.cell? ⟨w.heap.size, 1, none⟩ = some (.int .i64 r) := by
    obtain ⟨q1, q2⟩ := bcell hB1
    exact ⟨(q1 _ _ (by simp)).trans (by simp), (q1 _ _ (by simp)).trans (by simp)⟩
  have gz1 : w.heap.size < w1.heap.size := by have := hB1.size; simp at this; omega
  have hBw1 : Bw w w1 := (by repeat (first | exact Bw.refl _ | assumption | refine Bw.drew ?_ | refine Bw.drewN ?_ _ | refine Bw.alloc ?_ _ | refine Bw.trans ?_ (by assumption)))
  clear hB1
  cases hc : (checkE ns r != 0) with
  | true =>
    have He := hide (meanE_check (gv := gv) hc)
    have Hne : Hid (checkE ns r ≠ 0) := hide (by simpa using hc)
    generalize checkE ns r = c at *
    go_wp2_with fail
    go_ret2
    exact MeanOk.err (unhide He) (unhide Hne) hBw1
  | false =>
    have Hc := hide hc
    have hc0 : checkE ns r = 0 := by simpa using hc
    obtain ⟨hG, R, rfl, hR1, hR4⟩ := good_of hc0
    rw [hc0]
    clear hc hc0
    by_cases h20 : 20 < gv.length
    · have He := hide (meanE_room (unhide Hc) h20)
      go_wp2_with fail
      go_ret2
      exact MeanOk.err (unhide He) (by decide) hBw1
    · go_wp2_with fail
      go_loopw [24] (fun i wr => ∃ k : Nat, k ≤ gv.length ∧ i = .int .i64 k ∧ (∀ j, j < k → givB ns (gvn gv j) = true) ∧ Bw w1 wr) (fun i _ => gv.length - (intOf i).toNat)
      case atStart => exact ⟨0, Nat.zero_le _, rfl, fun j hj => absurd hj (Nat.not_lt_zero j), Bw.refl _⟩
      case round =>
        obtain ⟨k, hk, rfl, hall, hB⟩ := hrel
        have Hall := hide hall
        clear hall
        have hBw : Bw w wr := (by repeat (first | exact Bw.refl _ | assumption | refine Bw.drew ?_ | refine Bw.drewN ?_ _ | refine Bw.alloc ?_ _ | refine Bw.trans ?_ (by assumption)))
        have x0' : wr.cell? ⟨w.heap.size, 0, none⟩ = some (.slice ga ns.length gc) := ((bcell hB).1 _ _ gz1).trans x0
        have x1' : wr.cell? ⟨w.heap.size, 1, none⟩ = some (.int .i64 (R : Int)) := ((bcell hB).1 _ _ gz1).trans x1
        have gz2 : w.heap.size < wr.heap.size := by have := hB.size; omega
        by_cases hlt : k < gv.length
        · obtain ⟨b, off, rfl, hb, hcc⟩ := (hv.below hBw) k hlt
          obtain ⟨c0, c1, c2⟩ := hcc k hlt
          clear hcc
          cases hg : givB ns (gvn gv k) with
          | false =>
            have He := hide (meanE_arg (unhide Hc) h20 (givTo_false hg _ hlt))
            have Hg := hide hg
            clear hg
            generalize gvn gv k = x at *
            go_wp2_with (go_at_call 102; refine (canBeGiven_any ns _ _ _ x _ (hn.below (by repeat (first | exact Bw.refl _ | assumption | refine Bw.drew ?_ | refine Bw.drewN ?_ _ | refine Bw.alloc ?_ _ | refine Bw.trans ?_ (by assumption)))) hgl).mono ?_; rintro e w2 ⟨rfl, hbl⟩; rw [unhide Hg])
            go_ret2
            exact MeanOk.err (unhide He) (by decide) (by repeat (first | exact Bw.refl _ | assumption | refine Bw.drew ?_ | refine Bw.drewN ?_ _ | refine Bw.alloc ?_ _ | refine Bw.trans ?_ (by assumption)))
          | true =>
            have Hall2 := hide (all_snoc (unhide Hall) hg)
            have Hg := hide hg
            clear hg
            generalize gvn gv k = x at *
            go_wp2_with (go_at_call 102; refine (canBeGiven_any ns _ _ _ x _ (hn.below (by repeat (first | exact Bw.refl _ | assumption | refine Bw.drew ?_ | refine Bw.drewN ?_ _ | refine Bw.alloc ?_ _ | refine Bw.trans ?_ (by assumption)))) hgl).mono ?_; rintro e w2 ⟨rfl, hbl⟩; rw [unhide Hg])
            go_roundw
            case rel => exact ⟨k + 1, by omega, by go_num, unhide Hall2, (by repeat (first | exact Bw.refl _ | assumption | refine Bw.drew ?_ | refine Bw.drewN ?_ _ | refine Bw.alloc ?_ _ | refine Bw.trans ?_ (by assumption)))⟩
            case measure => simp [intOf]; omega
        · have hkk : k = gv.length := by omega
          subst hkk
          have He := hide (meanE_ok (r := (R : Int)) (unhide Hc) h20 (givTo_true _ (unhide Hall)))
          go_wp2_with fail
          refine (moments_any hG ⟨by omega, h64⟩ ga va gc vc _ (hn.below (by repeat (first | exact Bw.refl _ | assumption | refine Bw.drew ?_ | refine Bw.drewN ?_ _ | refine Bw.alloc ?_ _ | refine Bw.trans ?_ (by assumption)))) (hv.below (by repeat (first | exact Bw.refl _ | assumption | refine Bw.drew ?_ | refine Bw.drewN ?_ _ | refine Bw.alloc ?_ _ | refine Bw.trans ?_ (by assumption)))) hR4).mono ?_
          rintro en w2 ⟨v2, ms, rfl, hM, hO, hB2⟩
          obtain ⟨ma, mc, rfl⟩ := hM.slice
          have y0' : w2.cell? ⟨w.heap.size, 0, none⟩ = some (.slice ga ns.length gc) := ((bcell hB2).1 _ _ gz2).trans x0'
          have y1' : w2.cell? ⟨w.heap.size, 1, none⟩ = some (.int .i64 (R : Int)) := ((bcell hB2).1 _ _ gz2).trans x1'
          have gz3 : w.heap.size < w2.heap.size := by have := hB2.size; omega
          go_wp2_with fail
          refine (records_any hG ⟨by omega, h64⟩ ga ma gc mc _ _ ms (hn.below (by repeat (first | exact Bw.refl _ | assumption | refine Bw.drew ?_ | refine Bw.drewN ?_ _ | refine Bw.alloc ?_ _ | refine Bw.trans ?_ (by assumption)))) hM hO hR4).mono ?_
          rintro en w3 ⟨v3, rfl, ho3, hB3⟩
          go_wp2_with fail
          go_ret2
          exact ⟨v3, by rw [unhide He]; rfl, by rw [meanL_ok (unhide He), Int.toNat_natCast]; exact ho3.weaken (by repeat (first | exact Bw.refl _ | assumption | refine Bw.drew ?_ | refine Bw.drewN ?_ _ | refine Bw.alloc ?_ _ | refine Bw.trans ?_ (by assumption))), (by repeat (first | exact Bw.refl _ | assumption | refine Bw.drew ?_ | refine Bw.drewN ?_ _ | refine Bw.alloc ?_ _ | refine Bw.trans ?_ (by assumption)))⟩

set_option maxHeartbeats 1000000 in
theorem meaning_any (ns : List Nd) (ga va : Option Addr) (gc vc : Nat) (r : Int) (gv : List Gv) (w : World) (hn : NodesAt w ga ns) (hgl : ns.length ≤ maxLen) (hv : GvAt w va gv) (h64 : ∀ k, k < gv.length → I64 (gvn gv k).value) (hvl : gv.length ≤ maxLen) :
    Calls Try.prog 48 #[.agg #[.slice ga ns.length gc, .int .i64 r], .slice va gv.length vc] w fun e w' => MeanOk w w' e ns r gv := by
  go_enter Try.func48, Try.ntmps48
  go_wp2_with (go_at_call 76; refine (of_any ns _ _ _ _ _ gv _ (hn.below (by repeat (first | exact Bw.refl _ | assumption | refine Bw.drew ?_ | refine Bw.drewN ?_ _ | refine Bw.alloc ?_ _ | refine Bw.trans ?_ (by assumption)))) hgl (hv.below (by repeat (first | exact Bw.refl _ | assumption | refine Bw.drew ?_ | refine Bw.drewN ?_ _ | refine Bw.alloc ?_ _ | refine Bw.trans ?_ (by assumption)))) h64 hvl).mono ?_; rintro e w' ⟨v, rfl, ho, hbl⟩)
  go_ret2
  exact ⟨_, rfl, ho.weaken (by repeat (first | exact Bw.refl _ | assumption | refine Bw.drew ?_ | refine Bw.drewN ?_ _ | refine Bw.alloc ?_ _ | refine Bw.trans ?_ (by assumption))), (by repeat (first | exact Bw.refl _ | assumption | refine Bw.drew ?_ | refine Bw.drewN ?_ _ | refine Bw.alloc ?_ _ | refine Bw.trans ?_ (by assumption)))⟩
end Go.Proofs.Ytfemleimkbjehaa
