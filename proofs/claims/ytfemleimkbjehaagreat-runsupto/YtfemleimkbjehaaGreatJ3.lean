import Derived.Test.YtfemleimkbjehaaGreatJ2
import Derived.Test.YtfemleimkbjehaaGreatJ0
set_option maxRecDepth 1000000
set_option maxHeartbeats 40000000
set_option linter.unusedVariables false
set_option linter.unusedSimpArgs false
namespace Go.Proofs.YtfemleimkbjehaaGreat
open Go.RowKit
def stepB (best d : Int) : Int := if 0 ≤ d ∧ (best < 0 ∨ d < best) then d else best
def dB (ns : List Nd) (x : Int) (f : Int → Int) (k : Nat) : Int := if (k : Int) = x then 0 else if 0 ≤ f k ∧ (qT ns k).kind = 4 then f k + 1 else f k
def leastTo (ns : List Nd) (f : Int → Int) (n x : Int) : Nat → Int
  | 0 => -1
  | k + 1 => if kZ (qT ns k) n then stepB (leastTo ns f n x k) (dB ns x f k) else leastTo ns f n x k
def jJ (ns : List Nd) (x : Int) : Nat → Int → Int
  | 0, _ => -1
  | s + 1, n => leastTo ns (jJ ns x s) n x ns.length
theorem leastTo_skip {ns : List Nd} {f : Int → Int} {n x : Int} {k : Nat} (h : kZ (qT ns k) n = false) : leastTo ns f n x (k + 1) = leastTo ns f n x k := by simp [leastTo, h]
theorem zY {ns : List Nd} {f : Int → Int} {n x : Int} {k : Nat} (h : kZ (qT ns k) n = true) : leastTo ns f n x (k + 1) = stepB (leastTo ns f n x k) (dB ns x f k) := by simp [leastTo, h]
theorem stepB_bd {best d c : Int} (h1 : -1 ≤ best) (h2 : best ≤ c) (h4 : d ≤ c) : -1 ≤ stepB best d ∧ stepB best d ≤ c := by
  unfold stepB; split <;> omega
theorem leastTo_bd {ns : List Nd} {f : Int → Int} {n x : Int} {c : Int} (hc : 0 ≤ c) (hf : ∀ y, -1 ≤ f y ∧ f y ≤ c) (k : Nat) : -1 ≤ leastTo ns f n x k ∧ leastTo ns f n x k ≤ c + 1 := by
  induction k with
  | zero => simp [leastTo]; omega
  | succ k ih =>
    cases h : kZ (qT ns k) n with
    | false => rw [leastTo_skip h]; exact ih
    | true =>
      rw [zY h]
      refine stepB_bd ih.1 ih.2 ?_
      have := hf k
      unfold dB; split
      · omega
      · split <;> omega
theorem leastB_bd (ns : List Nd) (x : Int) (s : Nat) : ∀ n, -1 ≤ jJ ns x s n ∧ jJ ns x s n ≤ s := by
  induction s with
  | zero => intro n; simp [jJ]
  | succ s ih => intro n; have := leastTo_bd (ns := ns) (n := n) (x := x) (c := s) (by omega) ih ns.length; unfold jJ; omega
theorem stepB_yes {best d : Int} (h0 : 0 ≤ d) (h : best < 0 ∨ d < best) : stepB best d = d := by simp [stepB, h0, h]
theorem stepB_neg {best d : Int} (h0 : d < 0) : stepB best d = best := by unfold stepB; rw [if_neg (by omega)]
theorem stepB_ge {best d : Int} (h1 : 0 ≤ best) (h2 : best ≤ d) : stepB best d = best := by unfold stepB; rw [if_neg (by omega)]
theorem dB_x {ns : List Nd} {x : Int} {f : Int → Int} {k : Nat} (h : (k : Int) = x) : dB ns x f k = 0 := by simp [dB, h]
theorem dB_back {ns : List Nd} {x : Int} {f : Int → Int} {k : Nat} (h : ¬ (k : Int) = x) (h0 : 0 ≤ f k) (h4 : (qT ns k).kind = 4) : dB ns x f k = f k + 1 := by simp [dB, h, h0, h4]
theorem dB_not {ns : List Nd} {x : Int} {f : Int → Int} {k : Nat} (h : ¬ (k : Int) = x) (h4 : ¬ (0 ≤ f k ∧ (qT ns k).kind = 4)) : dB ns x f k = f k := by unfold dB; rw [if_neg h, if_neg h4]
theorem least_any (ns : List Nd) (ga : Option Addr) (gc : Nat) (r x : Int) (hl : ns.length ≤ 8) (s : Nat) : ∀ (n st : Int) (w : World), NodesAt w ga ns → st = s → s ≤ 8 →
    Calls Tryz.prog 55 #[.agg #[.slice ga ns.length gc, .int .i64 r], .int .i64 n, .int .i64 x, .int .i64 st] w fun e w' => e = .returned (.int .i64 (jJ ns x s n)) ∧ Bw w w' := by
  induction s with
  | zero =>
    intro n st w hn hst _
    have hst0 : st ≤ 0 := by omega
    clear hst
    go_enter Tryz.func55, Tryz.ntmps55
    go_wp2_with fail
    go_loop [9, 10] (fun v i => i = .int .i64 0 ∧ v = .int .i64 (-1)) (fun _ _ => 0)
    case atStart => exact ⟨rfl, rfl⟩
    case round =>
      obtain ⟨rfl, rfl⟩ := hrel
      by_cases h0 : 0 < ns.length
      · go_wp2_with fail
        go_ret
        exact ⟨rfl, (by repeat first|exact br _|assumption|apply bd|apply bn|apply ba|refine bt ?_ (by assumption))⟩
      · go_wp2_with fail
        go_ret
        exact ⟨rfl, (by repeat first|exact br _|assumption|apply bd|apply bn|apply ba|refine bt ?_ (by assumption))⟩
  | succ s ih =>
    intro n st w hn hst hs
    have Hst := qJ hst
    have hst1 : 0 < st := by omega
    have hst2 : st ≤ 8 := by omega
    clear hst
    have IH := qJ ih
    clear ih
    have hsb := leastB_bd ns x s
    have HSB := qJ hsb
    have htb := fun k => leastTo_bd (ns := ns) (n := n) (x := x) (c := s) (by omega) hsb k
    have HTB := qJ htb
    clear hsb htb
    go_enter Tryz.func55, Tryz.ntmps55
    go_wp2_with fail
    go_loopw [9, 10] (fun v i wr => ∃ k : Nat, k ≤ ns.length ∧ i = .int .i64 k ∧ v = .int .i64 (leastTo ns (jJ ns x s) n x k) ∧ Bw (w.alloc (.cells #[.slice ga ns.length gc, .int .i64 r] 24)) wr) (fun _ i _ => ns.length - (intOf i).toNat)
    case atStart => exact ⟨0, Nat.zero_le _, rfl, rfl, Bw.refl _⟩
    case round =>
      obtain ⟨k, hk, rfl, rfl, hB⟩ := hrel
      obtain ⟨gcc, gff⟩ := qS hB
      have gz : w.heap.size < wr.heap.size := by have := hB.size; simp at this; omega
      by_cases hlt : k < ns.length
      · obtain ⟨b, off, rfl, hb, hc⟩ := hn k hlt
        obtain ⟨c0, c1, c2, c3, c4⟩ := hc k hlt
        clear hc
        have gzb : b < wr.heap.size := by omega
        have hbd := (qK HTB) k
        generalize hbst : leastTo ns (jJ ns x s) n x k = bst at hbd
        have Hbst := qJ hbst
        clear hbst
        cases ht : kZ (qT ns k) n with
        | false =>
          have HT := qJ ht
          clear ht
          go_wp2_with (go_at_call 85; refine (yD (qT ns k) _ _).mono ?_; rintro e w' ⟨rfl, hbl⟩; rw [qK HT])
          go_roundw
          case rel => exact ⟨k + 1, by omega, by go_num, by rw [leastTo_skip (qK HT), qK Hbst], (by repeat first|exact br _|assumption|apply bd|apply bn|apply ba|refine bt ?_ (by assumption))⟩
          case measure => simp [intOf]; omega
        | true =>
          have HT := qJ ht
          clear ht
          by_cases hkx : (k : Int) = x
          · have hkx1 : ((k : Int) != x) = false := by simp [hkx]
            have Hd := qJ (dB_x (ns := ns) (f := jJ ns x s) hkx)
            clear hkx
            go_wp2_with (go_at_call 85; refine (yD (qT ns k) _ _).mono ?_; rintro e w' ⟨rfl, hbl⟩; rw [qK HT]; obtain ⟨hcc, hff⟩ := qS hbl; have hz0 : w.heap.size < w'.heap.size := (by have := hbl.size; (try simp at this); omega); have hzb : b < w'.heap.size := (by omega))
            · go_roundw
              case rel => exact ⟨k + 1, by omega, by go_num, by rw [zY (qK HT), qK Hbst, qK Hd, stepB_yes (by omega) (by omega)], (by repeat first|exact br _|assumption|apply bd|apply bn|apply ba|refine bt ?_ (by assumption))⟩
              case measure => simp [intOf]; omega
            · go_roundw
              case rel => exact ⟨k + 1, by omega, by go_num, by rw [zY (qK HT), qK Hbst, qK Hd, stepB_ge (by omega) (by omega)], (by repeat first|exact br _|assumption|apply bd|apply bn|apply ba|refine bt ?_ (by assumption))⟩
              case measure => simp [intOf]; omega
            · go_roundw
              case rel => exact ⟨k + 1, by omega, by go_num, by rw [zY (qK HT), qK Hbst, qK Hd, stepB_yes (by omega) (by omega)], (by repeat first|exact br _|assumption|apply bd|apply bn|apply ba|refine bt ?_ (by assumption))⟩
              case measure => simp [intOf]; omega
          · have hkx1 : ((k : Int) != x) = true := by simp [hkx]
            have hfb := (qK HSB) k
            generalize hfd : jJ ns x s k = fd at hfb
            have Hfd := qJ hfd
            by_cases hf0 : 0 ≤ fd
            · cases h4 : ((qT ns k).kind == 4) with
              | true =>
                have Hd := qJ (dB_back (ns := ns) (f := jJ ns x s) hkx (by rw [hfd]; exact hf0) (by simpa using h4))
                rw [hfd] at Hd
                clear hkx hfd
                go_wp2_with (first | (go_at_call 85; refine (yD (qT ns k) _ _).mono ?_; rintro e w' ⟨rfl, hbl⟩; rw [qK HT]; obtain ⟨hcc, hff⟩ := qS hbl; have hz0 : w.heap.size < w'.heap.size := (by have := hbl.size; (try simp at this); omega); have hzb : b < w'.heap.size := (by omega)) | (go_at_call 55; refine ((qK IH) _ _ _ (hn.below (by repeat first|exact br _|assumption|apply bd|apply bn|apply ba|refine bt ?_ (by assumption))) (by have := qK Hst; omega) (by omega)).mono ?_; rintro e w' ⟨rfl, hbl⟩; rw [qK Hfd]; obtain ⟨hcc, hff⟩ := qS hbl; have hz0 : w.heap.size < w'.heap.size := (by have := hbl.size; (try simp at this); omega); have hzb : b < w'.heap.size := (by omega)))
                all_goals
                  go_roundw
                  · refine ⟨k + 1, by omega, by go_num, ?_, (by repeat first|exact br _|assumption|apply bd|apply bn|apply ba|refine bt ?_ (by assumption))⟩
                    rw [zY (qK HT), qK Hbst, qK Hd]
                    first
                      | rw [stepB_yes (by omega) (by omega)]
                      | rw [stepB_ge (by omega) (by omega)]
                      | rw [stepB_neg (by omega)]
                  · simp [intOf]; omega
              | false =>
                have Hd := qJ (dB_not (ns := ns) (f := jJ ns x s) hkx (by simp at h4; simp [h4]))
                rw [hfd] at Hd
                clear hkx hfd
                go_wp2_with (first | (go_at_call 85; refine (yD (qT ns k) _ _).mono ?_; rintro e w' ⟨rfl, hbl⟩; rw [qK HT]; obtain ⟨hcc, hff⟩ := qS hbl; have hz0 : w.heap.size < w'.heap.size := (by have := hbl.size; (try simp at this); omega); have hzb : b < w'.heap.size := (by omega)) | (go_at_call 55; refine ((qK IH) _ _ _ (hn.below (by repeat first|exact br _|assumption|apply bd|apply bn|apply ba|refine bt ?_ (by assumption))) (by have := qK Hst; omega) (by omega)).mono ?_; rintro e w' ⟨rfl, hbl⟩; rw [qK Hfd]; obtain ⟨hcc, hff⟩ := qS hbl; have hz0 : w.heap.size < w'.heap.size := (by have := hbl.size; (try simp at this); omega); have hzb : b < w'.heap.size := (by omega)))
                all_goals
                  go_roundw
                  · refine ⟨k + 1, by omega, by go_num, ?_, (by repeat first|exact br _|assumption|apply bd|apply bn|apply ba|refine bt ?_ (by assumption))⟩
                    rw [zY (qK HT), qK Hbst, qK Hd]
                    first
                      | rw [stepB_yes (by omega) (by omega)]
                      | rw [stepB_ge (by omega) (by omega)]
                      | rw [stepB_neg (by omega)]
                  · simp [intOf]; omega
            · have Hd := qJ (dB_not (ns := ns) (f := jJ ns x s) hkx (by rw [hfd]; intro h; exact hf0 h.1))
              rw [hfd] at Hd
              have hf1 : decide (0 ≤ fd) = false := by simp; omega
              clear hkx hfd
              go_wp2_with (first | (go_at_call 85; refine (yD (qT ns k) _ _).mono ?_; rintro e w' ⟨rfl, hbl⟩; rw [qK HT]; obtain ⟨hcc, hff⟩ := qS hbl; have hz0 : w.heap.size < w'.heap.size := (by have := hbl.size; (try simp at this); omega); have hzb : b < w'.heap.size := (by omega)) | (go_at_call 55; refine ((qK IH) _ _ _ (hn.below (by repeat first|exact br _|assumption|apply bd|apply bn|apply ba|refine bt ?_ (by assumption))) (by have := qK Hst; omega) (by omega)).mono ?_; rintro e w' ⟨rfl, hbl⟩; rw [qK Hfd]; obtain ⟨hcc, hff⟩ := qS hbl; have hz0 : w.heap.size < w'.heap.size := (by have := hbl.size; (try simp at this); omega); have hzb : b < w'.heap.size := (by omega)))
              all_goals
                go_roundw
                · refine ⟨k + 1, by omega, by go_num, ?_, (by repeat first|exact br _|assumption|apply bd|apply bn|apply ba|refine bt ?_ (by assumption))⟩
                  rw [zY (qK HT), qK Hbst, qK Hd]
                  first
                    | rw [stepB_yes (by omega) (by omega)]
                    | rw [stepB_ge (by omega) (by omega)]
                    | rw [stepB_neg (by omega)]
                · simp [intOf]; omega
      · have hkk : k = ns.length := by omega
        subst hkk
        go_wp2_with fail
        go_ret
        exact ⟨rfl, (by repeat first|exact br _|assumption|apply bd|apply bn|apply ba|refine bt ?_ (by assumption))⟩
theorem far_any (ns : List Nd) (ga : Option Addr) (gc : Nat) (r n x : Int) (w : World) (hn : NodesAt w ga ns) (hl : ns.length ≤ 8) :
    Calls Tryz.prog 27 #[.agg #[.slice ga ns.length gc, .int .i64 r], .int .i64 n, .int .i64 x] w fun e w' => e = .returned (.int .i64 (jJ ns x ns.length n)) ∧ Bw w w' := by
  go_enter Tryz.func27, Tryz.ntmps27
  go_wp2_with (go_at_call 55; refine (least_any ns _ _ _ _ hl ns.length _ _ _ (hn.below (by repeat first|exact br _|assumption|apply bd|apply bn|apply ba|refine bt ?_ (by assumption))) rfl hl).mono ?_; rintro e w' ⟨rfl, hbl⟩)
  go_ret
  exact ⟨rfl, (by repeat first|exact br _|assumption|apply bd|apply bn|apply ba|refine bt ?_ (by assumption))⟩
def knotAt (ns : List Nd) (k : Nat) : Bool := (jJ ns k ns.length k == 0) && !((qT ns k).kind == 4)
def knotB (ns : List Nd) : Bool := (List.range ns.length).any (knotAt ns)
theorem knotB_yes {ns : List Nd} {k : Nat} (hk : k < ns.length) (h : knotAt ns k = true) : knotB ns = true := by
  unfold knotB; rw [List.any_eq_true]; exact ⟨k, List.mem_range.2 hk, h⟩
theorem knotB_no {ns : List Nd} (h : ∀ k, k < ns.length → knotAt ns k = false) : knotB ns = false := by
  unfold knotB; rw [List.any_eq_false]; intro k hk; rw [h k (List.mem_range.1 hk)]; simp
theorem knotted_any (ns : List Nd) (ga : Option Addr) (gc : Nat) (r : Int) (w : World) (hn : NodesAt w ga ns) (hl : ns.length ≤ 8) :
    Calls Tryz.prog 54 #[.agg #[.slice ga ns.length gc, .int .i64 r]] w fun e w' => e = .returned (.bool (knotB ns)) ∧ Bw w w' := by
  go_enter Tryz.func54, Tryz.ntmps54
  go_wp2_with fail
  go_loopw [3] (fun i wr => ∃ k : Nat, k ≤ ns.length ∧ i = .int .i64 k ∧ (∀ j, j < k → knotAt ns j = false) ∧ Bw (w.alloc (.cells #[.slice ga ns.length gc, .int .i64 r] 24)) wr) (fun i _ => ns.length - (intOf i).toNat)
  case atStart => exact ⟨0, Nat.zero_le _, rfl, fun j hj => absurd hj (Nat.not_lt_zero j), Bw.refl _⟩
  case round =>
    obtain ⟨k, hk, rfl, hno, hB⟩ := hrel
    have Hno := qJ hno
    clear hno
    obtain ⟨gcc, gff⟩ := qS hB
    have gz : w.heap.size < wr.heap.size := by have := hB.size; simp at this; omega
    by_cases hlt : k < ns.length
    · obtain ⟨b, off, rfl, hb, hc⟩ := hn k hlt
      obtain ⟨c0, c1, c2, c3, c4⟩ := hc k hlt
      clear hc
      have gzb : b < wr.heap.size := by omega
      generalize hfd : jJ ns k ns.length k = fd
      have Hfd := qJ hfd
      clear hfd
      cases h0 : (fd == 0) with
      | false =>
        have Hk := qJ (show knotAt ns k = false by unfold knotAt; rw [qK Hfd, h0]; rfl)
        go_wp2_with (go_at_call 27; refine (far_any ns _ _ _ _ _ _ (hn.below (by repeat first|exact br _|assumption|apply bd|apply bn|apply ba|refine bt ?_ (by assumption))) hl).mono ?_; rintro e w' ⟨rfl, hbl⟩; rw [qK Hfd]; obtain ⟨hcc, hff⟩ := qS hbl; have hz0 : w.heap.size < w'.heap.size := (by have := hbl.size; (try simp at this); omega); have hzb : b < w'.heap.size := (by omega))
        go_roundw
        case rel => exact ⟨k + 1, by omega, by go_num, all_snoc (qK Hno) (qK Hk), (by repeat first|exact br _|assumption|apply bd|apply bn|apply ba|refine bt ?_ (by assumption))⟩
        case measure => simp [intOf]; omega
      | true =>
        cases h4 : ((qT ns k).kind == 4) with
        | true =>
          have Hk := qJ (show knotAt ns k = false by unfold knotAt; rw [h4]; simp)
          have h4' : ((qT ns k).kind != 4) = false := by simp [bne, h4]
          go_wp2_with (go_at_call 27; refine (far_any ns _ _ _ _ _ _ (hn.below (by repeat first|exact br _|assumption|apply bd|apply bn|apply ba|refine bt ?_ (by assumption))) hl).mono ?_; rintro e w' ⟨rfl, hbl⟩; rw [qK Hfd]; obtain ⟨hcc, hff⟩ := qS hbl; have hz0 : w.heap.size < w'.heap.size := (by have := hbl.size; (try simp at this); omega); have hzb : b < w'.heap.size := (by omega))
          go_roundw
          case rel => exact ⟨k + 1, by omega, by go_num, all_snoc (qK Hno) (qK Hk), (by repeat first|exact br _|assumption|apply bd|apply bn|apply ba|refine bt ?_ (by assumption))⟩
          case measure => simp [intOf]; omega
        | false =>
          have Hk := qJ (show knotAt ns k = true by unfold knotAt; rw [qK Hfd, h0, h4]; rfl)
          have h4' : ((qT ns k).kind != 4) = true := by simp [bne, h4]
          go_wp2_with (go_at_call 27; refine (far_any ns _ _ _ _ _ _ (hn.below (by repeat first|exact br _|assumption|apply bd|apply bn|apply ba|refine bt ?_ (by assumption))) hl).mono ?_; rintro e w' ⟨rfl, hbl⟩; rw [qK Hfd]; obtain ⟨hcc, hff⟩ := qS hbl; have hz0 : w.heap.size < w'.heap.size := (by have := hbl.size; (try simp at this); omega); have hzb : b < w'.heap.size := (by omega))
          go_ret
          exact ⟨ret_bool (knotB_yes hlt (qK Hk)).symm, (by repeat first|exact br _|assumption|apply bd|apply bn|apply ba|refine bt ?_ (by assumption))⟩
    · go_wp2_with fail
      go_ret
      exact ⟨ret_bool (knotB_no fun j hj => (qK Hno) j (by omega)).symm, (by repeat first|exact br _|assumption|apply bd|apply bn|apply ba|refine bt ?_ (by assumption))⟩
def refE (ns : List Nd) (r : Int) : Int := if wfB ns r then (if knotB ns then 2 else 0) else 1
theorem rcheck_any (ns : List Nd) (ga : Option Addr) (gc : Nat) (r : Int) (w : World) (hn : NodesAt w ga ns) (hgl : ns.length ≤ maxLen) :
    Calls Tryz.prog 26 #[.agg #[.slice ga ns.length gc, .int .i64 r]] w fun e w' => e = .returned (.int .i64 (refE ns r)) ∧ Bw w w' := by
  cases hwf : wfB ns r with
  | false =>
    have HW := qJ hwf
    clear hwf
    go_enter Tryz.func26, Tryz.ntmps26
    go_wp2_with (go_at_call 53; refine (sound_any ns _ _ _ _ (hn.below (by repeat first|exact br _|assumption|apply bd|apply bn|apply ba|refine bt ?_ (by assumption))) hgl).mono ?_; rintro e w' ⟨rfl, hbl⟩; rw [qK HW]; obtain ⟨hcc, hff⟩ := qS hbl; have hz0 : w.heap.size < w'.heap.size := (by have := hbl.size; (try simp at this); omega))
    go_ret
    exact ⟨qF (by simp [refE, qK HW]), (by repeat first|exact br _|assumption|apply bd|apply bn|apply ba|refine bt ?_ (by assumption))⟩
  | true =>
    have HW := qJ hwf
    obtain ⟨h1, h8⟩ := wfB_len hwf
    clear hwf
    cases hkn : knotB ns with
    | true =>
      have HK := qJ hkn
      clear hkn
      go_enter Tryz.func26, Tryz.ntmps26
      go_wp2_with (first | (go_at_call 53; refine (sound_any ns _ _ _ _ (hn.below (by repeat first|exact br _|assumption|apply bd|apply bn|apply ba|refine bt ?_ (by assumption))) hgl).mono ?_; rintro e w' ⟨rfl, hbl⟩; rw [qK HW]; obtain ⟨hcc, hff⟩ := qS hbl; have hz0 : w.heap.size < w'.heap.size := (by have := hbl.size; (try simp at this); omega)) | (go_at_call 54; refine (knotted_any ns _ _ _ _ (hn.below (by repeat first|exact br _|assumption|apply bd|apply bn|apply ba|refine bt ?_ (by assumption))) h8).mono ?_; rintro e w' ⟨rfl, hbl⟩; rw [qK HK]))
      go_ret
      exact ⟨qF (by simp [refE, qK HW, qK HK]), (by repeat first|exact br _|assumption|apply bd|apply bn|apply ba|refine bt ?_ (by assumption))⟩
    | false =>
      have HK := qJ hkn
      clear hkn
      go_enter Tryz.func26, Tryz.ntmps26
      go_wp2_with (first | (go_at_call 53; refine (sound_any ns _ _ _ _ (hn.below (by repeat first|exact br _|assumption|apply bd|apply bn|apply ba|refine bt ?_ (by assumption))) hgl).mono ?_; rintro e w' ⟨rfl, hbl⟩; rw [qK HW]; obtain ⟨hcc, hff⟩ := qS hbl; have hz0 : w.heap.size < w'.heap.size := (by have := hbl.size; (try simp at this); omega)) | (go_at_call 54; refine (knotted_any ns _ _ _ _ (hn.below (by repeat first|exact br _|assumption|apply bd|apply bn|apply ba|refine bt ?_ (by assumption))) h8).mono ?_; rintro e w' ⟨rfl, hbl⟩; rw [qK HK]))
      go_ret
      exact ⟨qF (by simp [refE, qK HW, qK HK]), (by repeat first|exact br _|assumption|apply bd|apply bn|apply ba|refine bt ?_ (by assumption))⟩
structure CycOk (ns : List Nd) (l : List Int) : Prop where
  pos : 0 < l.length
  node : ∀ i, i < l.length → 0 ≤ jD l i ∧ jD l i < ns.length
  back : ∀ i, i < l.length → ((qT ns (jD l i).toNat).kind == 4) = false
  once : ∀ i, i < l.length → ∀ j, j < i → (jD l j == jD l i) = false
  first : kZ (qT ns (jD l 0).toNat) (jD l (l.length - 1)) = true
  next : ∀ i, i + 1 < l.length → kZ (qT ns (jD l (i + 1)).toNat) (jD l i) = true
theorem qX {w w' : World} {base size k : Nat} {e : TypeId} {u : Value} {ys : List Value} (h : w.ownsRow base e size u k ys) (hb : ∀ g, g < w.heap.size → w'.heap[g]? = w.heap[g]?) : w'.ownsRow base e size u k ys := by
  obtain ⟨hl, h⟩ := h
  refine ⟨hl, ?_⟩
  rcases h with h | ⟨g, cap, cur, e1, hg, hc, r⟩
  · exact .inl h
  · exact .inr ⟨g, cap, cur, e1, hg, (hb g (Array.getElem?_eq_some_iff.1 hc).1).trans hc, r⟩
theorem run_append_keep {P : Program} (w : World) (base : Nat) (t ty e : TypeId) (i : TypeInfo) (z : Value) (size bytes : Nat) (ht : P.underlying t = some (.slice e)) (hi : P.info? e = some i) (hz : i.zero = some z)
    (hsize : i.size = size) (hby : i.bytes = bytes) (hzs : z.cells.size = size) (hsz : 0 < size)
    (v : Value) (n : Nat) (xs : List Value) (hown : w.ownsRow base e size v n xs)
    (a : Addr) (m c : Nat) (news : List Value) (hm : 0 < m) (hl : news.length = m * size) (hnews : ∀ j u, news[j]? = some u → w.cell? (a.add j) = some u) (h1 : ∀ u ∈ news, u.oneCell' = true)
    (h63 : n + m ≤ maxLen) (hbytes : (n + m) * bytes ≤ 140737488355328) (hbase : base ≤ w.heap.size) :
    ∃ v' w', (Builtin.append_ #[t, t] ty #[v, .slice (some a) m c]).run P w = .ok v' w' ∧ w'.ownsRow base e size v' (n + m) (xs ++ news) ∧ w.grownBy w' v.ownBlock ∧
      (∀ base' u k ys, w.ownsRow base' e size u k ys → k ≤ n → w'.ownsRow base' e size u k ys) := by
  obtain ⟨v', w', hr, h2, h3, _⟩ := run_append_own (P := P) w base t ty e i z size bytes ht hi hz hsize hby hzs hsz v n xs hown a m c news hl hnews h1 h63 hbytes hbase
  refine ⟨v', w', hr, h2, h3, ?_⟩
  subst hsize
  subst hby
  have hsmall : n + m ≤ 9223372036854775807 := by simp only [maxLen] at h63; omega
  intro base' u k ys hu hk
  rcases hown.2 with ⟨rfl, rfl⟩ | ⟨g, cap, cur, rfl, hbg, hg, hnc, hcm, hcs, htake⟩
  · have hr2 := run_append_nil (P := P) w t ty e i z ht hi hz a m c news hl hnews hm (by omega) (by simp only [Nat.zero_add] at hbytes; omega)
    rw [hr2] at hr
    simp only [Result.ok.injEq] at hr
    obtain ⟨_, rfl⟩ := hr
    exact qX hu fun g hg => Below.heap_alloc w.drew _ g hg
  · by_cases hroom : n + m ≤ cap
    · have hfit : n * i.size + news.length ≤ cur.size := by rw [hl, hcs, ← Nat.add_mul]; exact Nat.mul_le_mul_right _ hroom
      have hr2 := run_append_room (P := P) w t ty e i ht hi g n cap cur hg a m c news hl hnews h1 hroom hfit
      rw [hr2] at hr
      simp only [Result.ok.injEq] at hr
      obtain ⟨_, rfl⟩ := hr
      obtain ⟨hyl, hu⟩ := hu
      refine ⟨hyl, ?_⟩
      rcases hu with hu | ⟨g', cap', cur', e1, hb', hg', hk', hcm', hcs', ht'⟩
      · exact .inl hu
      · by_cases hgg : g' = g
        · subst hgg
          rw [hg] at hg'
          simp only [Option.some.injEq, Obj.cells.injEq, and_true] at hg'
          obtain ⟨rfl, _⟩ := hg'
          refine .inr ⟨g', cap', _, e1, hb', setRow_heap w g' cur _ e _ hg, hk', hcm', ?_, ?_⟩
          · simp only [List.size_toArray, List.length_append, List.length_take, List.length_drop, Array.length_toList]
            omega
          · have hle : k * i.size ≤ n * i.size := Nat.mul_le_mul_right _ hk
            rw [List.append_assoc, List.take_append_of_le_length (by rw [List.length_take, Array.length_toList]; omega), List.take_take, Nat.min_eq_left hle]
            exact ht'
        · exact .inr ⟨g', cap', cur', e1, hb', (setRow_other w g g' _ hgg).trans hg', hk', hcm', hcs', ht'⟩
    · have holds : ∀ j u, xs[j]? = some u → w.cell? ((⟨g, 0, none⟩ : Addr).add j) = some u := hown.cells (g := g) rfl
      have hr2 := run_append_grow (P := P) w t ty e i z ht hi hz ⟨g, 0, none⟩ n cap xs hown.1 holds a m c news hl hnews (by omega) (by omega) (growslice_fits (by omega) hbytes)
      rw [hr2] at hr
      simp only [Result.ok.injEq] at hr
      obtain ⟨_, rfl⟩ := hr
      exact qX hu fun g hg => Below.heap_alloc w.drew _ g hg
theorem Tryz.infoNode : (Tryz.prog.info? 46).map (fun i => (i.zero, i.size, i.bytes)) = some (some (.agg #[.int .i64 0, .int .i64 0, .int .i64 0, .int .i64 0, .int .i64 0]), 5, 40) := by kernel_rfl
def Nd.cells (x : Nd) : List Value := [.int .i64 x.kind, .int .i64 x.a, .int .i64 x.b, .int .i64 x.k, .int .i64 x.m]
def qL (ns : List Nd) : List Value := ns.flatMap Nd.cells
theorem zT (ns : List Nd) : (qL ns).length = ns.length * 5 := by
  induction ns with
  | nil => rfl
  | cons x l ih => simp only [qL, List.flatMap_cons, List.length_append] at ih ⊢; rw [ih]; simp [Nd.cells]; omega
theorem ndn_lt {ns : List Nd} {j : Nat} (h : j < ns.length) : qT ns j = ns[j] := getD_lt _ _ h
theorem kD (ns : List Nd) : ∀ (j : Nat), j < ns.length → ∀ f, f < 5 → (qL ns)[j * 5 + f]? = (Nd.cells (qT ns j))[f]? := by
  induction ns with
  | nil => intro j hj; simp at hj
  | cons x l ih =>
    intro j hj f hf
    cases j with
    | zero =>
      simp only [qL, List.flatMap_cons, Nat.zero_mul, Nat.zero_add]
      rw [List.getElem?_append_left (by simp [Nd.cells]; omega)]
      rfl
    | succ j =>
      simp only [qL, List.flatMap_cons]
      rw [List.getElem?_append_right (by simp [Nd.cells]; omega)]
      have := ih j (by simpa using hj) f hf
      simp only [qL] at this
      rw [show (j + 1) * 5 + f - (Nd.cells x).length = j * 5 + f by simp [Nd.cells]; omega, this]
      rfl
theorem nodeCells_one (ns : List Nd) : ∀ u ∈ qL ns, u.oneCell' = true := by
  intro u hu
  simp only [qL, List.mem_flatMap, Nd.cells] at hu
  obtain ⟨x, _, hu⟩ := hu
  simp at hu
  rcases hu with rfl | rfl | rfl | rfl | rfl <;> rfl
theorem nodeCells_src {w : World} {ns : List Nd} {b off : Nat} (hc : ∀ j, j < ns.length →
    w.cell? ⟨b, off + j * 5, none⟩ = some (.int .i64 (qT ns j).kind) ∧ w.cell? ⟨b, off + j * 5 + 1, none⟩ = some (.int .i64 (qT ns j).a) ∧
    w.cell? ⟨b, off + j * 5 + 2, none⟩ = some (.int .i64 (qT ns j).b) ∧ w.cell? ⟨b, off + j * 5 + 3, none⟩ = some (.int .i64 (qT ns j).k) ∧
    w.cell? ⟨b, off + j * 5 + 4, none⟩ = some (.int .i64 (qT ns j).m)) : ∀ p u, (qL ns)[p]? = some u → w.cell? ((⟨b, off, none⟩ : Addr).add p) = some u := by
  intro p u hp
  have hlt : p < ns.length * 5 := by
    by_cases h : p < ns.length * 5
    · exact h
    · rw [List.getElem?_eq_none (by rw [zT]; omega)] at hp; cases hp
  obtain ⟨j, f, hf, rfl⟩ : ∃ j f, f < 5 ∧ p = j * 5 + f := ⟨p / 5, p % 5, Nat.mod_lt _ (by omega), by omega⟩
  have hj : j < ns.length := by omega
  rw [kD ns j hj f hf] at hp
  obtain ⟨c0, c1, c2, c3, c4⟩ := hc j hj
  refine add_cell ?_
  rw [← Nat.add_assoc]
  match f, hf with
  | 0, _ => simp [Nd.cells] at hp; subst hp; exact c0
  | 1, _ => simp [Nd.cells] at hp; subst hp; exact c1
  | 2, _ => simp [Nd.cells] at hp; subst hp; exact c2
  | 3, _ => simp [Nd.cells] at hp; subst hp; exact c3
  | 4, _ => simp [Nd.cells] at hp; subst hp; exact c4
theorem run_copyN {P : Program} (w : World) (dT sT ty elem : TypeId) (i : TypeInfo) (hu : P.underlying dT = some (.slice elem)) (hi : P.info? elem = some i)
    (g dLen dCap : Nat) (sa : Option Addr) (sLen sCap : Nat) (cur : Array Value) (t : TypeId) (cs : List Value) (hg : w.heap[g]? = some (.cells cur t (0, 0)))
    (hle : sLen ≤ dLen) (hn : cs.length = sLen * i.size) (hsrc : 0 < sLen → ∃ a, sa = some a ∧ ∀ j v, cs[j]? = some v → w.cell? (a.add j) = some v) (hfit : cs.length ≤ cur.size) (h1 : ∀ v ∈ cs, v.oneCell' = true) :
    ∃ w', (Builtin.copy_ #[dT, sT] ty #[.slice (some ⟨g, 0, none⟩) dLen dCap, .slice sa sLen sCap]).run P w = .ok (goInt sLen) w' ∧
      w'.heap[g]? = some (.cells (cs ++ cur.toList.drop cs.length).toArray t (0, 0)) ∧ w.grownBy w' (some g) := by
  have hst := run_storeCells_at P g 0 t cs 0 cur w hg (by simpa using hfit) h1
  simp only [Nat.add_zero, Nat.zero_add, List.take_zero, List.nil_append] at hst
  have hmin : Nat.min sLen dLen = sLen := Nat.min_eq_left hle
  refine ⟨w.setRow g (cs ++ cur.toList.drop cs.length).toArray, ?_, setRow_heap w g cur _ t _ hg, ⟨rfl, rfl, rfl, by simp, fun k _ hk => setRow_other w g k _ (fun e => hk (by simp [e]))⟩⟩
  by_cases h0 : 0 < sLen
  · obtain ⟨a, rfl, hs⟩ := hsrc h0
    have hf := run_firstCells_some (P := P) w i.size sLen a sLen sCap cs hn hs
    simp [Builtin.copy_, run_underlying hu, sizeOf, typeInfo, hi, Builtin.lenOf, hmin, hf, hst]
  · have e0 : sLen = 0 := by omega
    subst e0
    have hc0 : cs = [] := List.eq_nil_of_length_eq_zero (by simpa using hn)
    subst hc0
    simp only [List.nil_append, List.length_nil, List.drop_zero] at hst ⊢
    cases sa with
    | none =>
      simp [Builtin.copy_, run_underlying hu, sizeOf, typeInfo, hi, Builtin.lenOf, Builtin.firstCells, storeCells, setRow_self w g cur t (0, 0) hg]
    | some a =>
      have hf := run_firstCells_some (P := P) w i.size 0 a 0 sCap [] (by simp) (by simp)
      simp [Builtin.copy_, run_underlying hu, sizeOf, typeInfo, hi, Builtin.lenOf, hf, storeCells, setRow_self w g cur t (0, 0) hg]
end Go.Proofs.YtfemleimkbjehaaGreat
