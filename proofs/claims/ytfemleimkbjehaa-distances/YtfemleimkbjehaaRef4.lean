import Derived.Test.YtfemleimkbjehaaRef3
namespace Go.Proofs.Ytfemleimkbjehaa
open Go.RowKit

def stepB (best d : Int) : Int := if 0 ≤ d ∧ (best < 0 ∨ d < best) then d else best
def dB (ns : List Nd) (x : Int) (f : Int → Int) (k : Nat) : Int := if (k : Int) = x then 0 else if 0 ≤ f k ∧ (ndn ns k).kind = 4 then f k + 1 else f k
def leastTo (ns : List Nd) (f : Int → Int) (n x : Int) : Nat → Int
  | 0 => -1
  | k + 1 => if takesB (ndn ns k) n then stepB (leastTo ns f n x k) (dB ns x f k) else leastTo ns f n x k
def leastB (ns : List Nd) (x : Int) : Nat → Int → Int
  | 0, _ => -1
  | s + 1, n => leastTo ns (leastB ns x s) n x ns.length

theorem leastTo_skip {ns : List Nd} {f : Int → Int} {n x : Int} {k : Nat} (h : takesB (ndn ns k) n = false) : leastTo ns f n x (k + 1) = leastTo ns f n x k := by simp [leastTo, h]
theorem leastTo_take {ns : List Nd} {f : Int → Int} {n x : Int} {k : Nat} (h : takesB (ndn ns k) n = true) : leastTo ns f n x (k + 1) = stepB (leastTo ns f n x k) (dB ns x f k) := by simp [leastTo, h]
theorem stepB_bd {best d c : Int} (h1 : -1 ≤ best) (h2 : best ≤ c) (h4 : d ≤ c) : -1 ≤ stepB best d ∧ stepB best d ≤ c := by
  unfold stepB; split <;> omega
theorem leastTo_bd {ns : List Nd} {f : Int → Int} {n x : Int} {c : Int} (hc : 0 ≤ c) (hf : ∀ y, -1 ≤ f y ∧ f y ≤ c) (k : Nat) : -1 ≤ leastTo ns f n x k ∧ leastTo ns f n x k ≤ c + 1 := by
  induction k with
  | zero => simp [leastTo]; omega
  | succ k ih =>
    cases h : takesB (ndn ns k) n with
    | false => rw [leastTo_skip h]; exact ih
    | true =>
      rw [leastTo_take h]
      refine stepB_bd ih.1 ih.2 ?_
      have := hf k
      unfold dB; split
      · omega
      · split <;> omega
theorem leastB_bd (ns : List Nd) (x : Int) (s : Nat) : ∀ n, -1 ≤ leastB ns x s n ∧ leastB ns x s n ≤ s := by
  induction s with
  | zero => intro n; simp [leastB]
  | succ s ih => intro n; have := leastTo_bd (ns := ns) (n := n) (x := x) (c := s) (by omega) ih ns.length; unfold leastB; omega
theorem stepB_yes {best d : Int} (h0 : 0 ≤ d) (h : best < 0 ∨ d < best) : stepB best d = d := by simp [stepB, h0, h]
theorem stepB_neg {best d : Int} (h0 : d < 0) : stepB best d = best := by unfold stepB; rw [if_neg (by omega)]
theorem stepB_ge {best d : Int} (h1 : 0 ≤ best) (h2 : best ≤ d) : stepB best d = best := by unfold stepB; rw [if_neg (by omega)]
theorem dB_x {ns : List Nd} {x : Int} {f : Int → Int} {k : Nat} (h : (k : Int) = x) : dB ns x f k = 0 := by simp [dB, h]
theorem dB_back {ns : List Nd} {x : Int} {f : Int → Int} {k : Nat} (h : ¬ (k : Int) = x) (h0 : 0 ≤ f k) (h4 : (ndn ns k).kind = 4) : dB ns x f k = f k + 1 := by simp [dB, h, h0, h4]
theorem dB_not {ns : List Nd} {x : Int} {f : Int → Int} {k : Nat} (h : ¬ (k : Int) = x) (h4 : ¬ (0 ≤ f k ∧ (ndn ns k).kind = 4)) : dB ns x f k = f k := by unfold dB; rw [if_neg h, if_neg h4]

set_option maxRecDepth 100000 in
set_option maxHeartbeats 4000000 in
theorem least_any (ns : List Nd) (ga : Option Addr) (gc : Nat) (r x : Int) (hl : ns.length ≤ 8) (s : Nat) : ∀ (n st : Int) (w : World), NodesAt w ga ns → st = s → s ≤ 8 →
    Calls Try.prog 99 #[.agg #[.slice ga ns.length gc, .int .i64 r], .int .i64 n, .int .i64 x, .int .i64 st] w fun e w' => e = .returned (.int .i64 (leastB ns x s n)) ∧ Bw w w' := by
  induction s with
  | zero =>
    intro n st w hn hst _
    have hst0 : st ≤ 0 := by omega
    clear hst
    go_enter Try.func99, Try.ntmps99
    go_wp2_with fail
    go_loop [9, 10] (fun v i => i = .int .i64 0 ∧ v = .int .i64 (-1)) (fun _ _ => 0)
    case atStart => exact ⟨rfl, rfl⟩
    case round =>
      obtain ⟨rfl, rfl⟩ := hrel
      by_cases h0 : 0 < ns.length
      · go_wp2_with fail
        go_ret
        exact ⟨rfl, (by repeat (first | exact Bw.refl _ | assumption | refine Bw.drew ?_ | refine Bw.drewN ?_ _ | refine Bw.alloc ?_ _ | refine Bw.trans ?_ (by assumption)))⟩
      · go_wp2_with fail
        go_ret
        exact ⟨rfl, (by repeat (first | exact Bw.refl _ | assumption | refine Bw.drew ?_ | refine Bw.drewN ?_ _ | refine Bw.alloc ?_ _ | refine Bw.trans ?_ (by assumption)))⟩
  | succ s ih =>
    intro n st w hn hst hs
    have Hst := hide hst
    have hst1 : 0 < st := by omega
    have hst2 : st ≤ 8 := by omega
    clear hst
    have IH := hide ih
    clear ih
    have hsb := leastB_bd ns x s
    have HSB := hide hsb
    have htb := fun k => leastTo_bd (ns := ns) (n := n) (x := x) (c := s) (by omega) hsb k
    have HTB := hide htb
    clear hsb htb
    go_enter Try.func99, Try.ntmps99
    go_wp2_with fail
    go_loopw [9, 10] (fun v i wr => ∃ k : Nat, k ≤ ns.length ∧ i = .int .i64 k ∧ v = .int .i64 (leastTo ns (leastB ns x s) n x k) ∧ Bw (w.alloc (.cells #[.slice ga ns.length gc, .int .i64 r] 24)) wr) (fun _ i _ => ns.length - (intOf i).toNat)
    case atStart => exact ⟨0, Nat.zero_le _, rfl, rfl, Bw.refl _⟩
    case round =>
      obtain ⟨k, hk, rfl, rfl, hB⟩ := hrel
      obtain ⟨gcc, gff⟩ := bcell hB
      have gz : w.heap.size < wr.heap.size := by have := hB.size; simp at this; omega
      by_cases hlt : k < ns.length
      · obtain ⟨b, off, rfl, hb, hc⟩ := hn k hlt
        obtain ⟨c0, c1, c2, c3, c4⟩ := hc k hlt
        clear hc
        have gzb : b < wr.heap.size := by omega
        have hbd := (unhide HTB) k
        generalize hbst : leastTo ns (leastB ns x s) n x k = bst at hbd
        have Hbst := hide hbst
        clear hbst
        cases ht : takesB (ndn ns k) n with
        | false =>
          have HT := hide ht
          clear ht
          go_wp2_with (go_at_call 71; refine (rtakes_any (ndn ns k) _ _).mono ?_; rintro e w' ⟨rfl, hbl⟩; rw [unhide HT])
          go_roundw
          case rel => exact ⟨k + 1, by omega, by go_num, by rw [leastTo_skip (unhide HT), unhide Hbst], (by repeat (first | exact Bw.refl _ | assumption | refine Bw.drew ?_ | refine Bw.drewN ?_ _ | refine Bw.alloc ?_ _ | refine Bw.trans ?_ (by assumption)))⟩
          case measure => simp [intOf]; omega
        | true =>
          have HT := hide ht
          clear ht
          by_cases hkx : (k : Int) = x
          · have hkx1 : ((k : Int) != x) = false := by simp [hkx]
            have Hd := hide (dB_x (ns := ns) (f := leastB ns x s) hkx)
            clear hkx
            go_wp2_with (go_at_call 71; refine (rtakes_any (ndn ns k) _ _).mono ?_; rintro e w' ⟨rfl, hbl⟩; rw [unhide HT]; obtain ⟨hcc, hff⟩ := bcell hbl; have hz0 : w.heap.size < w'.heap.size := (by have := hbl.size; (try simp at this); omega); have hzb : b < w'.heap.size := (by omega))
            · go_roundw
              case rel => exact ⟨k + 1, by omega, by go_num, by rw [leastTo_take (unhide HT), unhide Hbst, unhide Hd, stepB_yes (by omega) (by omega)], (by repeat (first | exact Bw.refl _ | assumption | refine Bw.drew ?_ | refine Bw.drewN ?_ _ | refine Bw.alloc ?_ _ | refine Bw.trans ?_ (by assumption)))⟩
              case measure => simp [intOf]; omega
            · go_roundw
              case rel => exact ⟨k + 1, by omega, by go_num, by rw [leastTo_take (unhide HT), unhide Hbst, unhide Hd, stepB_ge (by omega) (by omega)], (by repeat (first | exact Bw.refl _ | assumption | refine Bw.drew ?_ | refine Bw.drewN ?_ _ | refine Bw.alloc ?_ _ | refine Bw.trans ?_ (by assumption)))⟩
              case measure => simp [intOf]; omega
            · go_roundw
              case rel => exact ⟨k + 1, by omega, by go_num, by rw [leastTo_take (unhide HT), unhide Hbst, unhide Hd, stepB_yes (by omega) (by omega)], (by repeat (first | exact Bw.refl _ | assumption | refine Bw.drew ?_ | refine Bw.drewN ?_ _ | refine Bw.alloc ?_ _ | refine Bw.trans ?_ (by assumption)))⟩
              case measure => simp [intOf]; omega
          · have hkx1 : ((k : Int) != x) = true := by simp [hkx]
            have hfb := (unhide HSB) k
            generalize hfd : leastB ns x s k = fd at hfb
            have Hfd := hide hfd
            by_cases hf0 : 0 ≤ fd
            · cases h4 : ((ndn ns k).kind == 4) with
              | true =>
                have Hd := hide (dB_back (ns := ns) (f := leastB ns x s) hkx (by rw [hfd]; exact hf0) (by simpa using h4))
                rw [hfd] at Hd
                clear hkx hfd
                go_wp2_with (first | (go_at_call 71; refine (rtakes_any (ndn ns k) _ _).mono ?_; rintro e w' ⟨rfl, hbl⟩; rw [unhide HT]; obtain ⟨hcc, hff⟩ := bcell hbl; have hz0 : w.heap.size < w'.heap.size := (by have := hbl.size; (try simp at this); omega); have hzb : b < w'.heap.size := (by omega)) | (go_at_call 99; refine ((unhide IH) _ _ _ (hn.below (by repeat (first | exact Bw.refl _ | assumption | refine Bw.drew ?_ | refine Bw.drewN ?_ _ | refine Bw.alloc ?_ _ | refine Bw.trans ?_ (by assumption)))) (by have := unhide Hst; omega) (by omega)).mono ?_; rintro e w' ⟨rfl, hbl⟩; rw [unhide Hfd]; obtain ⟨hcc, hff⟩ := bcell hbl; have hz0 : w.heap.size < w'.heap.size := (by have := hbl.size; (try simp at this); omega); have hzb : b < w'.heap.size := (by omega)))
                all_goals
                  go_roundw
                  · refine ⟨k + 1, by omega, by go_num, ?_, (by repeat (first | exact Bw.refl _ | assumption | refine Bw.drew ?_ | refine Bw.drewN ?_ _ | refine Bw.alloc ?_ _ | refine Bw.trans ?_ (by assumption)))⟩
                    rw [leastTo_take (unhide HT), unhide Hbst, unhide Hd]
                    first
                      | rw [stepB_yes (by omega) (by omega)]
                      | rw [stepB_ge (by omega) (by omega)]
                      | rw [stepB_neg (by omega)]
                  · simp [intOf]; omega
              | false =>
                have Hd := hide (dB_not (ns := ns) (f := leastB ns x s) hkx (by simp at h4; simp [h4]))
                rw [hfd] at Hd
                clear hkx hfd
                go_wp2_with (first | (go_at_call 71; refine (rtakes_any (ndn ns k) _ _).mono ?_; rintro e w' ⟨rfl, hbl⟩; rw [unhide HT]; obtain ⟨hcc, hff⟩ := bcell hbl; have hz0 : w.heap.size < w'.heap.size := (by have := hbl.size; (try simp at this); omega); have hzb : b < w'.heap.size := (by omega)) | (go_at_call 99; refine ((unhide IH) _ _ _ (hn.below (by repeat (first | exact Bw.refl _ | assumption | refine Bw.drew ?_ | refine Bw.drewN ?_ _ | refine Bw.alloc ?_ _ | refine Bw.trans ?_ (by assumption)))) (by have := unhide Hst; omega) (by omega)).mono ?_; rintro e w' ⟨rfl, hbl⟩; rw [unhide Hfd]; obtain ⟨hcc, hff⟩ := bcell hbl; have hz0 : w.heap.size < w'.heap.size := (by have := hbl.size; (try simp at this); omega); have hzb : b < w'.heap.size := (by omega)))
                all_goals
                  go_roundw
                  · refine ⟨k + 1, by omega, by go_num, ?_, (by repeat (first | exact Bw.refl _ | assumption | refine Bw.drew ?_ | refine Bw.drewN ?_ _ | refine Bw.alloc ?_ _ | refine Bw.trans ?_ (by assumption)))⟩
                    rw [leastTo_take (unhide HT), unhide Hbst, unhide Hd]
                    first
                      | rw [stepB_yes (by omega) (by omega)]
                      | rw [stepB_ge (by omega) (by omega)]
                      | rw [stepB_neg (by omega)]
                  · simp [intOf]; omega
            · have Hd := hide (dB_not (ns := ns) (f := leastB ns x s) hkx (by rw [hfd]; intro h; exact hf0 h.1))
              rw [hfd] at Hd
              have hf1 : decide (0 ≤ fd) = false := by simp; omega
              clear hkx hfd
              go_wp2_with (first | (go_at_call 71; refine (rtakes_any (ndn ns k) _ _).mono ?_; rintro e w' ⟨rfl, hbl⟩; rw [unhide HT]; obtain ⟨hcc, hff⟩ := bcell hbl; have hz0 : w.heap.size < w'.heap.size := (by have := hbl.size; (try simp at this); omega); have hzb : b < w'.heap.size := (by omega)) | (go_at_call 99; refine ((unhide IH) _ _ _ (hn.below (by repeat (first | exact Bw.refl _ | assumption | refine Bw.drew ?_ | refine Bw.drewN ?_ _ | refine Bw.alloc ?_ _ | refine Bw.trans ?_ (by assumption)))) (by have := unhide Hst; omega) (by omega)).mono ?_; rintro e w' ⟨rfl, hbl⟩; rw [unhide Hfd]; obtain ⟨hcc, hff⟩ := bcell hbl; have hz0 : w.heap.size < w'.heap.size := (by have := hbl.size; (try simp at this); omega); have hzb : b < w'.heap.size := (by omega)))
              all_goals
                go_roundw
                · refine ⟨k + 1, by omega, by go_num, ?_, (by repeat (first | exact Bw.refl _ | assumption | refine Bw.drew ?_ | refine Bw.drewN ?_ _ | refine Bw.alloc ?_ _ | refine Bw.trans ?_ (by assumption)))⟩
                  rw [leastTo_take (unhide HT), unhide Hbst, unhide Hd]
                  first
                    | rw [stepB_yes (by omega) (by omega)]
                    | rw [stepB_ge (by omega) (by omega)]
                    | rw [stepB_neg (by omega)]
                · simp [intOf]; omega
      · have hkk : k = ns.length := by omega
        subst hkk
        go_wp2_with fail
        go_ret
        exact ⟨rfl, (by repeat (first | exact Bw.refl _ | assumption | refine Bw.drew ?_ | refine Bw.drewN ?_ _ | refine Bw.alloc ?_ _ | refine Bw.trans ?_ (by assumption)))⟩
end Go.Proofs.Ytfemleimkbjehaa
