import Derived.Test.YtfemleimkbjehaaGreatRef3
import Derived.Test.YtfemleimkbjehaaGreatJ0
namespace Go.Proofs.YtfemleimkbjehaaGreat
set_option linter.unusedVariables false
set_option linter.unusedSimpArgs false
open Go.RowKit

def stepB (best d : Int) : Int := if 0 ≤ d ∧ (best < 0 ∨ d < best) then d else best
def dB (ns : List Nd) (x : Int) (f : Int → Int) (k : Nat) : Int := if (k : Int) = x then 0 else if 0 ≤ f k ∧ (ndn ns k).kind = 4 then f k + 1 else f k
def leastTo (ns : List Nd) (f : Int → Int) (n x : Int) : Nat → Int
  | 0 => -1
  | k + 1 => if takesB (ndn ns k) n then stepB (leastTo ns f n x k) (dB ns x f k) else leastTo ns f n x k
def leastB (ns : List Nd) (x : Int) : Nat → Int → Int
  | 0, _ => -1
  | s + 1, n => leastTo ns (leastB ns x s) n x ns.length

theorem leastTo_skip {ns : List Nd} {f : Int → Int} {n x : Int} {k : Nat} (h : takesB (ndn ns k) n = false) : leastTo ns f n x (k + 1) = leastTo ns f n x k := by simp [leastTo, h]
theorem leastTo_take {ns : List Nd} {f : Int → Int} {n x : Int} {k : Nat} (h : takesB (ndn ns k) n = true) : leastTo ns f n x (k + 1) = stepB (leastTo ns f n x k) (dB ns x f k) := by simp [leastTo, h]
theorem stepB_bd {best d c : Int} (h1 : -1 ≤ best) (h2 : best ≤ c) (h4 : d ≤ c) : -1 ≤ stepB best d ∧ stepB best d ≤ c := by
  unfold stepB; split <;> omega
theorem leastTo_bd {ns : List Nd} {f : Int → Int} {n x : Int} {c : Int} (hc : 0 ≤ c) (hf : ∀ y, -1 ≤ f y ∧ f y ≤ c) (k : Nat) : -1 ≤ leastTo ns f n x k ∧ leastTo ns f n x k ≤ c + 1 := by
  induction k with
  | zero => simp [leastTo]; omega
  | succ k ih =>
    cases h : takesB (ndn ns k) n with
    | false => rw [leastTo_skip h]; exact ih
    | true =>
      rw [leastTo_take h]
      refine stepB_bd ih.1 ih.2 ?_
      have := hf k
      unfold dB; split
      · omega
      · split <;> omega
theorem leastB_bd (ns : List Nd) (x : Int) (s : Nat) : ∀ n, -1 ≤ leastB ns x s n ∧ leastB ns x s n ≤ s := by
  induction s with
  | zero => intro n; simp [leastB]
  | succ s ih => intro n; have := leastTo_bd (ns := ns) (n := n) (x := x) (c := s) (by omega) ih ns.length; unfold leastB; omega
theorem stepB_yes {best d : Int} (h0 : 0 ≤ d) (h : best < 0 ∨ d < best) : stepB best d = d := by simp [stepB, h0, h]
theorem stepB_neg {best d : Int} (h0 : d < 0) : stepB best d = best := by unfold stepB; rw [if_neg (by omega)]
theorem stepB_ge {best d : Int} (h1 : 0 ≤ best) (h2 : best ≤ d) : stepB best d = best := by unfold stepB; rw [if_neg (by omega)]
theorem dB_x {ns : List Nd} {x : Int} {f : Int → Int} {k : Nat} (h : (k : Int) = x) : dB ns x f k = 0 := by simp [dB, h]
theorem dB_back {ns : List Nd} {x : Int} {f : Int → Int} {k : Nat} (h : ¬ (k : Int) = x) (h0 : 0 ≤ f k) (h4 : (ndn ns k).kind = 4) : dB ns x f k = f k + 1 := by simp [dB, h, h0, h4]
theorem dB_not {ns : List Nd} {x : Int} {f : Int → Int} {k : Nat} (h : ¬ (k : Int) = x) (h4 : ¬ (0 ≤ f k ∧ (ndn ns k).kind = 4)) : dB ns x f k = f k := by unfold dB; rw [if_neg h, if_neg h4]

set_option maxRecDepth 100000 in
set_option maxHeartbeats 4000000 in
theorem least_any (ns : List Nd) (ga : Option Addr) (gc : Nat) (r x : Int) (hl : ns.length ≤ 8) (s : Nat) : ∀ (n st : Int) (w : World), NodesAt w ga ns → st = s → s ≤ 8 →
    Calls Tryz.prog 55 #[.agg #[.slice ga ns.length gc, .int .i64 r], .int .i64 n, .int .i64 x, .int .i64 st] w fun e w' => e = .returned (.int .i64 (leastB ns x s n)) ∧ Bw w w' := by
  induction s with
  | zero =>
    intro n st w hn hst _
    have hst0 : st ≤ 0 := by omega
    clear hst
    go_enter Tryz.func55, Tryz.ntmps55
    go_wp2_with fail
    go_loop [9, 10] (fun v i => i = .int .i64 0 ∧ v = .int .i64 (-1)) (fun _ _ => 0)
    case atStart => exact ⟨rfl, rfl⟩
    case round =>
      obtain ⟨rfl, rfl⟩ := hrel
      by_cases h0 : 0 < ns.length
      · go_wp2_with fail
        go_ret
        exact ⟨rfl, (by repeat (first | exact Bw.refl _ | assumption | refine Bw.drew ?_ | refine Bw.drewN ?_ _ | refine Bw.alloc ?_ _ | refine Bw.trans ?_ (by assumption)))⟩
      · go_wp2_with fail
        go_ret
        exact ⟨rfl, (by repeat (first | exact Bw.refl _ | assumption | refine Bw.drew ?_ | refine Bw.drewN ?_ _ | refine Bw.alloc ?_ _ | refine Bw.trans ?_ (by assumption)))⟩
  | succ s ih =>
    intro n st w hn hst hs
    have Hst := hide hst
    have hst1 : 0 < st := by omega
    have hst2 : st ≤ 8 := by omega
    clear hst
    have IH := hide ih
    clear ih
    have hsb := leastB_bd ns x s
    have HSB := hide hsb
    have htb := fun k => leastTo_bd (ns := ns) (n := n) (x := x) (c := s) (by omega) hsb k
    have HTB := hide htb
    clear hsb htb
    go_enter Tryz.func55, Tryz.ntmps55
    go_wp2_with fail
    go_loopw [9, 10] (fun v i wr => ∃ k : Nat, k ≤ ns.length ∧ i = .int .i64 k ∧ v = .int .i64 (leastTo ns (leastB ns x s) n x k) ∧ Bw (w.alloc (.cells #[.slice ga ns.length gc, .int .i64 r] 24)) wr) (fun _ i _ => ns.length - (intOf i).toNat)
    case atStart => exact ⟨0, Nat.zero_le _, rfl, rfl, Bw.refl _⟩
    case round =>
      obtain ⟨k, hk, rfl, rfl, hB⟩ := hrel
      obtain ⟨gcc, gff⟩ := bcell hB
      have gz : w.heap.size < wr.heap.size := by have := hB.size; simp at this; omega
      by_cases hlt : k < ns.length
      · obtain ⟨b, off, rfl, hb, hc⟩ := hn k hlt
        obtain ⟨c0, c1, c2, c3, c4⟩ := hc k hlt
        clear hc
        have gzb : b < wr.heap.size := by omega
        have hbd := (unhide HTB) k
        generalize hbst : leastTo ns (leastB ns x s) n x k = bst at hbd
        have Hbst := hide hbst
        clear hbst
        cases ht : takesB (ndn ns k) n with
        | false =>
          have HT := hide ht
          clear ht
          go_wp2_with (go_at_call 85; refine (rtakes_any (ndn ns k) _ _).mono ?_; rintro e w' ⟨rfl, hbl⟩; rw [unhide HT])
          go_roundw
          case rel => exact ⟨k + 1, by omega, by go_num, by rw [leastTo_skip (unhide HT), unhide Hbst], (by repeat (first | exact Bw.refl _ | assumption | refine Bw.drew ?_ | refine Bw.drewN ?_ _ | refine Bw.alloc ?_ _ | refine Bw.trans ?_ (by assumption)))⟩
          case measure => simp [intOf]; omega
        | true =>
          have HT := hide ht
          clear ht
          by_cases hkx : (k : Int) = x
          · have hkx1 : ((k : Int) != x) = false := by simp [hkx]
            have Hd := hide (dB_x (ns := ns) (f := leastB ns x s) hkx)
            clear hkx
            go_wp2_with (go_at_call 85; refine (rtakes_any (ndn ns k) _ _).mono ?_; rintro e w' ⟨rfl, hbl⟩; rw [unhide HT]; obtain ⟨hcc, hff⟩ := bcell hbl; have hz0 : w.heap.size < w'.heap.size := (by have := hbl.size; (try simp at this); omega); have hzb : b < w'.heap.size := (by omega))
            · go_roundw
              case rel => exact ⟨k + 1, by omega, by go_num, by rw [leastTo_take (unhide HT), unhide Hbst, unhide Hd, stepB_yes (by omega) (by omega)], (by repeat (first | exact Bw.refl _ | assumption | refine Bw.drew ?_ | refine Bw.drewN ?_ _ | refine Bw.alloc ?_ _ | refine Bw.trans ?_ (by assumption)))⟩
              case measure => simp [intOf]; omega
            · go_roundw
              case rel => exact ⟨k + 1, by omega, by go_num, by rw [leastTo_take (unhide HT), unhide Hbst, unhide Hd, stepB_ge (by omega) (by omega)], (by repeat (first | exact Bw.refl _ | assumption | refine Bw.drew ?_ | refine Bw.drewN ?_ _ | refine Bw.alloc ?_ _ | refine Bw.trans ?_ (by assumption)))⟩
              case measure => simp [intOf]; omega
            · go_roundw
              case rel => exact ⟨k + 1, by omega, by go_num, by rw [leastTo_take (unhide HT), unhide Hbst, unhide Hd, stepB_yes (by omega) (by omega)], (by repeat (first | exact Bw.refl _ | assumption | refine Bw.drew ?_ | refine Bw.drewN ?_ _ | refine Bw.alloc ?_ _ | refine Bw.trans ?_ (by assumption)))⟩
              case measure => simp [intOf]; omega
          · have hkx1 : ((k : Int) != x) = true := by simp [hkx]
            have hfb := (unhide HSB) k
            generalize hfd : leastB ns x s k = fd at hfb
            have Hfd := hide hfd
            by_cases hf0 : 0 ≤ fd
            · cases h4 : ((ndn ns k).kind == 4) with
              | true =>
                have Hd := hide (dB_back (ns := ns) (f := leastB ns x s) hkx (by rw [hfd]; exact hf0) (by simpa using h4))
                rw [hfd] at Hd
                clear hkx hfd
                go_wp2_with (first | (go_at_call 85; refine (rtakes_any (ndn ns k) _ _).mono ?_; rintro e w' ⟨rfl, hbl⟩; rw [unhide HT]; obtain ⟨hcc, hff⟩ := bcell hbl; have hz0 : w.heap.size < w'.heap.size := (by have := hbl.size; (try simp at this); omega); have hzb : b < w'.heap.size := (by omega)) | (go_at_call 55; refine ((unhide IH) _ _ _ (hn.below (by repeat (first | exact Bw.refl _ | assumption | refine Bw.drew ?_ | refine Bw.drewN ?_ _ | refine Bw.alloc ?_ _ | refine Bw.trans ?_ (by assumption)))) (by have := unhide Hst; omega) (by omega)).mono ?_; rintro e w' ⟨rfl, hbl⟩; rw [unhide Hfd]; obtain ⟨hcc, hff⟩ := bcell hbl; have hz0 : w.heap.size < w'.heap.size := (by have := hbl.size; (try simp at this); omega); have hzb : b < w'.heap.size := (by omega)))
                all_goals
                  go_roundw
                  · refine ⟨k + 1, by omega, by go_num, ?_, (by repeat (first | exact Bw.refl _ | assumption | refine Bw.drew ?_ | refine Bw.drewN ?_ _ | refine Bw.alloc ?_ _ | refine Bw.trans ?_ (by assumption)))⟩
                    rw [leastTo_take (unhide HT), unhide Hbst, unhide Hd]
                    first
                      | rw [stepB_yes (by omega) (by omega)]
                      | rw [stepB_ge (by omega) (by omega)]
                      | rw [stepB_neg (by omega)]
                  · simp [intOf]; omega
              | false =>
                have Hd := hide (dB_not (ns := ns) (f := leastB ns x s) hkx (by simp at h4; simp [h4]))
                rw [hfd] at Hd
                clear hkx hfd
                go_wp2_with (first | (go_at_call 85; refine (rtakes_any (ndn ns k) _ _).mono ?_; rintro e w' ⟨rfl, hbl⟩; rw [unhide HT]; obtain ⟨hcc, hff⟩ := bcell hbl; have hz0 : w.heap.size < w'.heap.size := (by have := hbl.size; (try simp at this); omega); have hzb : b < w'.heap.size := (by omega)) | (go_at_call 55; refine ((unhide IH) _ _ _ (hn.below (by repeat (first | exact Bw.refl _ | assumption | refine Bw.drew ?_ | refine Bw.drewN ?_ _ | refine Bw.alloc ?_ _ | refine Bw.trans ?_ (by assumption)))) (by have := unhide Hst; omega) (by omega)).mono ?_; rintro e w' ⟨rfl, hbl⟩; rw [unhide Hfd]; obtain ⟨hcc, hff⟩ := bcell hbl; have hz0 : w.heap.size < w'.heap.size := (by have := hbl.size; (try simp at this); omega); have hzb : b < w'.heap.size := (by omega)))
                all_goals
                  go_roundw
                  · refine ⟨k + 1, by omega, by go_num, ?_, (by repeat (first | exact Bw.refl _ | assumption | refine Bw.drew ?_ | refine Bw.drewN ?_ _ | refine Bw.alloc ?_ _ | refine Bw.trans ?_ (by assumption)))⟩
                    rw [leastTo_take (unhide HT), unhide Hbst, unhide Hd]
                    first
                      | rw [stepB_yes (by omega) (by omega)]
                      | rw [stepB_ge (by omega) (by omega)]
                      | rw [stepB_neg (by omega)]
                  · simp [intOf]; omega
            · have Hd := hide (dB_not (ns := ns) (f := leastB ns x s) hkx (by rw [hfd]; intro h; exact hf0 h.1))
              rw [hfd] at Hd
              have hf1 : decide (0 ≤ fd) = false := by simp; omega
              clear hkx hfd
              go_wp2_with (first | (go_at_call 85; refine (rtakes_any (ndn ns k) _ _).mono ?_; rintro e w' ⟨rfl, hbl⟩; rw [unhide HT]; obtain ⟨hcc, hff⟩ := bcell hbl; have hz0 : w.heap.size < w'.heap.size := (by have := hbl.size; (try simp at this); omega); have hzb : b < w'.heap.size := (by omega)) | (go_at_call 55; refine ((unhide IH) _ _ _ (hn.below (by repeat (first | exact Bw.refl _ | assumption | refine Bw.drew ?_ | refine Bw.drewN ?_ _ | refine Bw.alloc ?_ _ | refine Bw.trans ?_ (by assumption)))) (by have := unhide Hst; omega) (by omega)).mono ?_; rintro e w' ⟨rfl, hbl⟩; rw [unhide Hfd]; obtain ⟨hcc, hff⟩ := bcell hbl; have hz0 : w.heap.size < w'.heap.size := (by have := hbl.size; (try simp at this); omega); have hzb : b < w'.heap.size := (by omega)))
              all_goals
                go_roundw
                · refine ⟨k + 1, by omega, by go_num, ?_, (by repeat (first | exact Bw.refl _ | assumption | refine Bw.drew ?_ | refine Bw.drewN ?_ _ | refine Bw.alloc ?_ _ | refine Bw.trans ?_ (by assumption)))⟩
                  rw [leastTo_take (unhide HT), unhide Hbst, unhide Hd]
                  first
                    | rw [stepB_yes (by omega) (by omega)]
                    | rw [stepB_ge (by omega) (by omega)]
                    | rw [stepB_neg (by omega)]
                · simp [intOf]; omega
      · have hkk : k = ns.length := by omega
        subst hkk
        go_wp2_with fail
        go_ret
        exact ⟨rfl, (by repeat (first | exact Bw.refl _ | assumption | refine Bw.drew ?_ | refine Bw.drewN ?_ _ | refine Bw.alloc ?_ _ | refine Bw.trans ?_ (by assumption)))⟩
end Go.Proofs.YtfemleimkbjehaaGreat
namespace Go.Proofs.YtfemleimkbjehaaGreat
set_option linter.unusedVariables false
set_option linter.unusedSimpArgs false
open Go.RowKit

set_option maxHeartbeats 1000000 in
theorem far_any (ns : List Nd) (ga : Option Addr) (gc : Nat) (r n x : Int) (w : World) (hn : NodesAt w ga ns) (hl : ns.length ≤ 8) :
    Calls Tryz.prog 27 #[.agg #[.slice ga ns.length gc, .int .i64 r], .int .i64 n, .int .i64 x] w fun e w' => e = .returned (.int .i64 (leastB ns x ns.length n)) ∧ Bw w w' := by
  go_enter Tryz.func27, Tryz.ntmps27
  go_wp2_with (go_at_call 55; refine (least_any ns _ _ _ _ hl ns.length _ _ _ (hn.below (by repeat (first | exact Bw.refl _ | assumption | refine Bw.drew ?_ | refine Bw.drewN ?_ _ | refine Bw.alloc ?_ _ | refine Bw.trans ?_ (by assumption)))) rfl hl).mono ?_; rintro e w' ⟨rfl, hbl⟩)
  go_ret
  exact ⟨rfl, (by repeat (first | exact Bw.refl _ | assumption | refine Bw.drew ?_ | refine Bw.drewN ?_ _ | refine Bw.alloc ?_ _ | refine Bw.trans ?_ (by assumption)))⟩

def knotAt (ns : List Nd) (k : Nat) : Bool := (leastB ns k ns.length k == 0) && !((ndn ns k).kind == 4)
def knotB (ns : List Nd) : Bool := (List.range ns.length).any (knotAt ns)
theorem knotB_yes {ns : List Nd} {k : Nat} (hk : k < ns.length) (h : knotAt ns k = true) : knotB ns = true := by
  unfold knotB; rw [List.any_eq_true]; exact ⟨k, List.mem_range.2 hk, h⟩
theorem knotB_no {ns : List Nd} (h : ∀ k, k < ns.length → knotAt ns k = false) : knotB ns = false := by
  unfold knotB; rw [List.any_eq_false]; intro k hk; rw [h k (List.mem_range.1 hk)]; simp

set_option maxHeartbeats 1000000 in
theorem knotted_any (ns : List Nd) (ga : Option Addr) (gc : Nat) (r : Int) (w : World) (hn : NodesAt w ga ns) (hl : ns.length ≤ 8) :
    Calls Tryz.prog 54 #[.agg #[.slice ga ns.length gc, .int .i64 r]] w fun e w' => e = .returned (.bool (knotB ns)) ∧ Bw w w' := by
  go_enter Tryz.func54, Tryz.ntmps54
  go_wp2_with fail
  go_loopw [3] (fun i wr => ∃ k : Nat, k ≤ ns.length ∧ i = .int .i64 k ∧ (∀ j, j < k → knotAt ns j = false) ∧ Bw (w.alloc (.cells #[.slice ga ns.length gc, .int .i64 r] 24)) wr) (fun i _ => ns.length - (intOf i).toNat)
  case atStart => exact ⟨0, Nat.zero_le _, rfl, fun j hj => absurd hj (Nat.not_lt_zero j), Bw.refl _⟩
  case round =>
    obtain ⟨k, hk, rfl, hno, hB⟩ := hrel
    have Hno := hide hno
    clear hno
    obtain ⟨gcc, gff⟩ := bcell hB
    have gz : w.heap.size < wr.heap.size := by have := hB.size; simp at this; omega
    by_cases hlt : k < ns.length
    · obtain ⟨b, off, rfl, hb, hc⟩ := hn k hlt
      obtain ⟨c0, c1, c2, c3, c4⟩ := hc k hlt
      clear hc
      have gzb : b < wr.heap.size := by omega
      generalize hfd : leastB ns k ns.length k = fd
      have Hfd := hide hfd
      clear hfd
      cases h0 : (fd == 0) with
      | false =>
        have Hk := hide (show knotAt ns k = false by unfold knotAt; rw [unhide Hfd, h0]; rfl)
        go_wp2_with (go_at_call 27; refine (far_any ns _ _ _ _ _ _ (hn.below (by repeat (first | exact Bw.refl _ | assumption | refine Bw.drew ?_ | refine Bw.drewN ?_ _ | refine Bw.alloc ?_ _ | refine Bw.trans ?_ (by assumption)))) hl).mono ?_; rintro e w' ⟨rfl, hbl⟩; rw [unhide Hfd]; obtain ⟨hcc, hff⟩ := bcell hbl; have hz0 : w.heap.size < w'.heap.size := (by have := hbl.size; (try simp at this); omega); have hzb : b < w'.heap.size := (by omega))
        go_roundw
        case rel => exact ⟨k + 1, by omega, by go_num, all_snoc (unhide Hno) (unhide Hk), (by repeat (first | exact Bw.refl _ | assumption | refine Bw.drew ?_ | refine Bw.drewN ?_ _ | refine Bw.alloc ?_ _ | refine Bw.trans ?_ (by assumption)))⟩
        case measure => simp [intOf]; omega
      | true =>
        cases h4 : ((ndn ns k).kind == 4) with
        | true =>
          have Hk := hide (show knotAt ns k = false by unfold knotAt; rw [h4]; simp)
          have h4' : ((ndn ns k).kind != 4) = false := by simp [bne, h4]
          go_wp2_with (go_at_call 27; refine (far_any ns _ _ _ _ _ _ (hn.below (by repeat (first | exact Bw.refl _ | assumption | refine Bw.drew ?_ | refine Bw.drewN ?_ _ | refine Bw.alloc ?_ _ | refine Bw.trans ?_ (by assumption)))) hl).mono ?_; rintro e w' ⟨rfl, hbl⟩; rw [unhide Hfd]; obtain ⟨hcc, hff⟩ := bcell hbl; have hz0 : w.heap.size < w'.heap.size := (by have := hbl.size; (try simp at this); omega); have hzb : b < w'.heap.size := (by omega))
          go_roundw
          case rel => exact ⟨k + 1, by omega, by go_num, all_snoc (unhide Hno) (unhide Hk), (by repeat (first | exact Bw.refl _ | assumption | refine Bw.drew ?_ | refine Bw.drewN ?_ _ | refine Bw.alloc ?_ _ | refine Bw.trans ?_ (by assumption)))⟩
          case measure => simp [intOf]; omega
        | false =>
          have Hk := hide (show knotAt ns k = true by unfold knotAt; rw [unhide Hfd, h0, h4]; rfl)
          have h4' : ((ndn ns k).kind != 4) = true := by simp [bne, h4]
          go_wp2_with (go_at_call 27; refine (far_any ns _ _ _ _ _ _ (hn.below (by repeat (first | exact Bw.refl _ | assumption | refine Bw.drew ?_ | refine Bw.drewN ?_ _ | refine Bw.alloc ?_ _ | refine Bw.trans ?_ (by assumption)))) hl).mono ?_; rintro e w' ⟨rfl, hbl⟩; rw [unhide Hfd]; obtain ⟨hcc, hff⟩ := bcell hbl; have hz0 : w.heap.size < w'.heap.size := (by have := hbl.size; (try simp at this); omega); have hzb : b < w'.heap.size := (by omega))
          go_ret
          exact ⟨ret_bool (knotB_yes hlt (unhide Hk)).symm, (by repeat (first | exact Bw.refl _ | assumption | refine Bw.drew ?_ | refine Bw.drewN ?_ _ | refine Bw.alloc ?_ _ | refine Bw.trans ?_ (by assumption)))⟩
    · go_wp2_with fail
      go_ret
      exact ⟨ret_bool (knotB_no fun j hj => (unhide Hno) j (by omega)).symm, (by repeat (first | exact Bw.refl _ | assumption | refine Bw.drew ?_ | refine Bw.drewN ?_ _ | refine Bw.alloc ?_ _ | refine Bw.trans ?_ (by assumption)))⟩

def refE (ns : List Nd) (r : Int) : Int := if wfB ns r then (if knotB ns then 2 else 0) else 1

set_option maxHeartbeats 1000000 in
theorem rcheck_any (ns : List Nd) (ga : Option Addr) (gc : Nat) (r : Int) (w : World) (hn : NodesAt w ga ns) (hgl : ns.length ≤ maxLen) :
    Calls Tryz.prog 26 #[.agg #[.slice ga ns.length gc, .int .i64 r]] w fun e w' => e = .returned (.int .i64 (refE ns r)) ∧ Bw w w' := by
  cases hwf : wfB ns r with
  | false =>
    have HW := hide hwf
    clear hwf
    go_enter Tryz.func26, Tryz.ntmps26
    go_wp2_with (go_at_call 53; refine (sound_any ns _ _ _ _ (hn.below (by repeat (first | exact Bw.refl _ | assumption | refine Bw.drew ?_ | refine Bw.drewN ?_ _ | refine Bw.alloc ?_ _ | refine Bw.trans ?_ (by assumption)))) hgl).mono ?_; rintro e w' ⟨rfl, hbl⟩; rw [unhide HW]; obtain ⟨hcc, hff⟩ := bcell hbl; have hz0 : w.heap.size < w'.heap.size := (by have := hbl.size; (try simp at this); omega))
    go_ret
    exact ⟨ret_int (by simp [refE, unhide HW]), (by repeat (first | exact Bw.refl _ | assumption | refine Bw.drew ?_ | refine Bw.drewN ?_ _ | refine Bw.alloc ?_ _ | refine Bw.trans ?_ (by assumption)))⟩
  | true =>
    have HW := hide hwf
    obtain ⟨h1, h8⟩ := wfB_len hwf
    clear hwf
    cases hkn : knotB ns with
    | true =>
      have HK := hide hkn
      clear hkn
      go_enter Tryz.func26, Tryz.ntmps26
      go_wp2_with (first | (go_at_call 53; refine (sound_any ns _ _ _ _ (hn.below (by repeat (first | exact Bw.refl _ | assumption | refine Bw.drew ?_ | refine Bw.drewN ?_ _ | refine Bw.alloc ?_ _ | refine Bw.trans ?_ (by assumption)))) hgl).mono ?_; rintro e w' ⟨rfl, hbl⟩; rw [unhide HW]; obtain ⟨hcc, hff⟩ := bcell hbl; have hz0 : w.heap.size < w'.heap.size := (by have := hbl.size; (try simp at this); omega)) | (go_at_call 54; refine (knotted_any ns _ _ _ _ (hn.below (by repeat (first | exact Bw.refl _ | assumption | refine Bw.drew ?_ | refine Bw.drewN ?_ _ | refine Bw.alloc ?_ _ | refine Bw.trans ?_ (by assumption)))) h8).mono ?_; rintro e w' ⟨rfl, hbl⟩; rw [unhide HK]))
      go_ret
      exact ⟨ret_int (by simp [refE, unhide HW, unhide HK]), (by repeat (first | exact Bw.refl _ | assumption | refine Bw.drew ?_ | refine Bw.drewN ?_ _ | refine Bw.alloc ?_ _ | refine Bw.trans ?_ (by assumption)))⟩
    | false =>
      have HK := hide hkn
      clear hkn
      go_enter Tryz.func26, Tryz.ntmps26
      go_wp2_with (first | (go_at_call 53; refine (sound_any ns _ _ _ _ (hn.below (by repeat (first | exact Bw.refl _ | assumption | refine Bw.drew ?_ | refine Bw.drewN ?_ _ | refine Bw.alloc ?_ _ | refine Bw.trans ?_ (by assumption)))) hgl).mono ?_; rintro e w' ⟨rfl, hbl⟩; rw [unhide HW]; obtain ⟨hcc, hff⟩ := bcell hbl; have hz0 : w.heap.size < w'.heap.size := (by have := hbl.size; (try simp at this); omega)) | (go_at_call 54; refine (knotted_any ns _ _ _ _ (hn.below (by repeat (first | exact Bw.refl _ | assumption | refine Bw.drew ?_ | refine Bw.drewN ?_ _ | refine Bw.alloc ?_ _ | refine Bw.trans ?_ (by assumption)))) h8).mono ?_; rintro e w' ⟨rfl, hbl⟩; rw [unhide HK]))
      go_ret
      exact ⟨ret_int (by simp [refE, unhide HW, unhide HK]), (by repeat (first | exact Bw.refl _ | assumption | refine Bw.drew ?_ | refine Bw.drewN ?_ _ | refine Bw.alloc ?_ _ | refine Bw.trans ?_ (by assumption)))⟩
end Go.Proofs.YtfemleimkbjehaaGreat
namespace Go.Proofs.YtfemleimkbjehaaGreat
set_option linter.unusedVariables false
set_option linter.unusedSimpArgs false
open Go.RowKit

/-- What Check may tell as a cycle. -/
structure CycOk (ns : List Nd) (l : List Int) : Prop where
  pos : 0 < l.length
  node : ∀ i, i < l.length → 0 ≤ nth l i ∧ nth l i < ns.length
  back : ∀ i, i < l.length → ((ndn ns (nth l i).toNat).kind == 4) = false
  once : ∀ i, i < l.length → ∀ j, j < i → (nth l j == nth l i) = false
  first : takesB (ndn ns (nth l 0).toNat) (nth l (l.length - 1)) = true
  next : ∀ i, i + 1 < l.length → takesB (ndn ns (nth l (i + 1)).toNat) (nth l i) = true

end Go.Proofs.YtfemleimkbjehaaGreat
namespace Go.Proofs.YtfemleimkbjehaaGreat
set_option linter.unusedVariables false
set_option linter.unusedSimpArgs false
open Go.RowKit

theorem ownsRow_bw {w w' : World} {base size k : Nat} {e : TypeId} {u : Value} {ys : List Value} (h : w.ownsRow base e size u k ys) (hb : ∀ g, g < w.heap.size → w'.heap[g]? = w.heap[g]?) : w'.ownsRow base e size u k ys := by
  obtain ⟨hl, h⟩ := h
  refine ⟨hl, ?_⟩
  rcases h with h | ⟨g, cap, cur, e1, hg, hc, r⟩
  · exact .inl h
  · exact .inr ⟨g, cap, cur, e1, hg, (hb g (Array.getElem?_eq_some_iff.1 hc).1).trans hc, r⟩

/-- An append leaves every owned slice that is no longer than the one appended to as it was. -/
theorem run_append_keep {P : Program} (w : World) (base : Nat) (t ty e : TypeId) (i : TypeInfo) (z : Value) (size bytes : Nat) (ht : P.underlying t = some (.slice e)) (hi : P.info? e = some i) (hz : i.zero = some z)
    (hsize : i.size = size) (hby : i.bytes = bytes) (hzs : z.cells.size = size) (hsz : 0 < size)
    (v : Value) (n : Nat) (xs : List Value) (hown : w.ownsRow base e size v n xs)
    (a : Addr) (m c : Nat) (news : List Value) (hm : 0 < m) (hl : news.length = m * size) (hnews : ∀ j u, news[j]? = some u → w.cell? (a.add j) = some u) (h1 : ∀ u ∈ news, u.oneCell' = true)
    (h63 : n + m ≤ maxLen) (hbytes : (n + m) * bytes ≤ 140737488355328) (hbase : base ≤ w.heap.size) :
    ∃ v' w', (Builtin.append_ #[t, t] ty #[v, .slice (some a) m c]).run P w = .ok v' w' ∧ w'.ownsRow base e size v' (n + m) (xs ++ news) ∧ w.grownBy w' v.ownBlock ∧
      (∀ base' u k ys, w.ownsRow base' e size u k ys → k ≤ n → w'.ownsRow base' e size u k ys) := by
  obtain ⟨v', w', hr, h2, h3, _⟩ := run_append_own (P := P) w base t ty e i z size bytes ht hi hz hsize hby hzs hsz v n xs hown a m c news hl hnews h1 h63 hbytes hbase
  refine ⟨v', w', hr, h2, h3, ?_⟩
  subst hsize
  subst hby
  have hsmall : n + m ≤ 9223372036854775807 := by simp only [maxLen] at h63; omega
  intro base' u k ys hu hk
  rcases hown.2 with ⟨rfl, rfl⟩ | ⟨g, cap, cur, rfl, hbg, hg, hnc, hcm, hcs, htake⟩
  · have hr2 := run_append_nil (P := P) w t ty e i z ht hi hz a m c news hl hnews hm (by omega) (by simp only [Nat.zero_add] at hbytes; omega)
    rw [hr2] at hr
    simp only [Result.ok.injEq] at hr
    obtain ⟨_, rfl⟩ := hr
    exact ownsRow_bw hu fun g hg => Below.heap_alloc w.drew _ g hg
  · by_cases hroom : n + m ≤ cap
    · have hfit : n * i.size + news.length ≤ cur.size := by rw [hl, hcs, ← Nat.add_mul]; exact Nat.mul_le_mul_right _ hroom
      have hr2 := run_append_room (P := P) w t ty e i ht hi g n cap cur hg a m c news hl hnews h1 hroom hfit
      rw [hr2] at hr
      simp only [Result.ok.injEq] at hr
      obtain ⟨_, rfl⟩ := hr
      obtain ⟨hyl, hu⟩ := hu
      refine ⟨hyl, ?_⟩
      rcases hu with hu | ⟨g', cap', cur', e1, hb', hg', hk', hcm', hcs', ht'⟩
      · exact .inl hu
      · by_cases hgg : g' = g
        · subst hgg
          rw [hg] at hg'
          simp only [Option.some.injEq, Obj.cells.injEq, and_true] at hg'
          obtain ⟨rfl, _⟩ := hg'
          refine .inr ⟨g', cap', _, e1, hb', setRow_heap w g' cur _ e _ hg, hk', hcm', ?_, ?_⟩
          · simp only [List.size_toArray, List.length_append, List.length_take, List.length_drop, Array.length_toList]
            omega
          · have hle : k * i.size ≤ n * i.size := Nat.mul_le_mul_right _ hk
            rw [List.append_assoc, List.take_append_of_le_length (by rw [List.length_take, Array.length_toList]; omega), List.take_take, Nat.min_eq_left hle]
            exact ht'
        · exact .inr ⟨g', cap', cur', e1, hb', (setRow_other w g g' _ hgg).trans hg', hk', hcm', hcs', ht'⟩
    · have holds : ∀ j u, xs[j]? = some u → w.cell? ((⟨g, 0, none⟩ : Addr).add j) = some u := hown.cells (g := g) rfl
      have hr2 := run_append_grow (P := P) w t ty e i z ht hi hz ⟨g, 0, none⟩ n cap xs hown.1 holds a m c news hl hnews (by omega) (by omega) (growslice_fits (by omega) hbytes)
      rw [hr2] at hr
      simp only [Result.ok.injEq] at hr
      obtain ⟨_, rfl⟩ := hr
      exact ownsRow_bw hu fun g hg => Below.heap_alloc w.drew _ g hg

/-- 'append(v, n)' of one number, with what it leaves. -/
theorem app1k {ops : Array Oper} {rest : List Oper} {o : Oper} {a : Act} {Q : Exit → Act → World → Prop} (w : World) (hgd : o.guard = none) (s x : Operand)
    (ho : o.op = .call { callee := .builtin .append, args := #[s, x], argTypes := #[94, 94] }) (W : World) (v : Value) (xs : List Int) (hs : a.eval s = v) (hown : Own W w v xs)
    (g c : Nat) (n : Int) (hx : a.eval x = .slice (some ⟨g, 0, none⟩) 1 c) (hc : w.cell? ⟨g, 0, none⟩ = some (.int .i64 n)) (hlen : xs.length + 1 ≤ 1000000) (hB : Bw W w)
    (h : ∀ v' w', Own W w' v' (xs ++ [n]) → Bw W w' → (∀ V u ys, Own V w u ys → ys.length ≤ xs.length → Own V w' u ys) → wpList Tryz.prog ops Q rest (a.put o.dst v') w') : wpList Tryz.prog ops Q (o :: rest) a w := by
  obtain ⟨i0, hi, hz0, hz1, hz2⟩ := info_parts Tryz.infoInt
  obtain ⟨v', w', hr, h2, h3, h4⟩ := run_append_keep (P := Tryz.prog) w W.heap.size 94 o.type 3 i0 (.int .i64 0) 1 8 Tryz.underlying94 hi hz0 hz1 hz2 rfl (by decide) v xs.length (xs.map (Value.int .i64)) hown ⟨g, 0, none⟩ 1 c [.int .i64 n] (by omega) rfl
    (by intro j u hj
        match j, hj with
        | 0, hj => simp at hj; subst hj; simpa [Addr.add] using hc)
    (by intro u hu; simp at hu; subst hu; rfl) (by unfold maxLen; omega) (by omega) hB.size
  refine wpList_plain hgd fun _ hK => ?_
  unfold Oper.wp execOp
  simp only [ho, resolve, invoke, builtin, Sem.run_bind, Sem.run_pure, Result.andThen_ok, List.map_toArray, List.map_cons, List.map_nil, hs, hx, hr]
  refine hK _ _ (h v' w' (by unfold Own; simpa using h2) (Below.grown hB h3 hB.size fun k hk => (World.ownsRow.lt hown k hk).1) fun V u ys hu hle => h4 _ _ _ _ hu hle)
end Go.Proofs.YtfemleimkbjehaaGreat
