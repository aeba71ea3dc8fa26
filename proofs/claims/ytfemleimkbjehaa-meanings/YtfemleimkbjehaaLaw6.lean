import Derived.Test.YtfemleimkbjehaaLaw5
namespace Go.Proofs.Ytfemleimkbjehaa
open Go.RowKit

theorem nth_one : ∀ j, j < ([-77] : List Int).length → nth [-77] j = -77 := by
  intro j hj
  simp at hj
  subst hj
  rfl

set_option maxRecDepth 100000 in
set_option maxHeartbeats 4000000 in
theorem checked_not (ns : List Nd) (ga : Option Addr) (gc : Nat) (r : Int) (w : World) (hn : NodesAt w ga ns) (hl : ns.length * 40 ≤ 140737488351232)
    (hE : refE ns r = checkE ns r) (h2 : checkE ns r ≠ 2) :
    Calls Try.prog 13 #[.agg #[.slice ga ns.length gc, .int .i64 r]] w fun e w' => e = .returned (.bool true) ∧ Bw w w' := by
  have hml : ns.length ≤ maxLen := by unfold maxLen; omega
  have HE := hide hE
  have H2 := hide h2
  clear hE
  obtain ⟨i0, hi, hz0, hz1', hz2'⟩ := info_parts Try.infoInt
  have heq := fun (w : World) (a : Option Addr) (n c : Nat) => Lib.run_eql_slice_nil (P := Try.prog) w 26 3 a n c 0 0 Try.underlying26
  have hmk := fun w : World => run_make (P := Try.prog) w 26 3 i0 _ Try.underlying26 hi hz0 .i64 .i64 0 0 (by omega) (by omega) (by rw [hz2']; omega) (by omega)
  rw [hz1', Int.toNat_zero, Nat.zero_mul] at hmk
  generalize hEE : checkE ns r = E at h2
  have hE2 : (E == 2) = false := by simpa using h2
  have HEE := hide hEE
  clear hEE h2
  go_enter Try.func13, Try.ntmps13
  go_wp2_with fail
  refine (handed_any ns _ _ _ _ (hn.below (by repeat (first | exact Bw.refl _ | assumption | refine Bw.drew ?_ | refine Bw.drewN ?_ _ | refine Bw.alloc ?_ _ | refine Bw.trans ?_ (by assumption)))) hl).mono ?_
  rintro e w1 ⟨g0, rfl, hg0, hh, hb1⟩
  obtain ⟨q1, q2⟩ := bcell hb1
  have hz1 : w.heap.size < w1.heap.size := (by have := hb1.size; (try simp at this); omega)
  go_wp2_with fail
  refine (check_any ns _ _ _ _ (hh.at.below (by repeat (first | exact Bw.refl _ | assumption | refine Bw.drew ?_ | refine Bw.drewN ?_ _ | refine Bw.alloc ?_ _ | refine Bw.trans ?_ (by assumption)))) hml).mono ?_
  rintro e w2 ⟨v, rfl, hL, hb2⟩
  unfold CheckL at hL
  rw [if_neg (unhide H2)] at hL
  subst hL
  rw [unhide HEE]
  obtain ⟨q3, q4⟩ := bcell hb2
  have hz2 : w1.heap.size < w2.heap.size := (by have := hb2.size; (try simp at this); omega)
  go_wp2_with fail
  refine (still_any ns _ g0 _ _ _ w w2 hn (by repeat (first | exact Bw.refl _ | assumption | refine Bw.drew ?_ | refine Bw.drewN ?_ _ | refine Bw.alloc ?_ _ | refine Bw.trans ?_ (by assumption))) (by have := hg0; simp at this; omega) (hh.bw (by repeat (first | exact Bw.refl _ | assumption | refine Bw.drew ?_ | refine Bw.drewN ?_ _ | refine Bw.alloc ?_ _ | refine Bw.trans ?_ (by assumption)))) hl).mono ?_
  rintro e w3 ⟨rfl, hK⟩
  have hB3 : Bw (w.alloc (.cells #[.slice ga ns.length gc, .int .i64 r] 24)) w3 := Bw.kp (a := w2) (by repeat (first | exact Bw.refl _ | assumption | refine Bw.drew ?_ | refine Bw.drewN ?_ _ | refine Bw.alloc ?_ _ | refine Bw.trans ?_ (by assumption))) hg0 hK
  clear q1 q2 q3 q4 hz1 hz2 hK hb1 hb2 hh hg0
  obtain ⟨q1, q2⟩ := bcell hB3
  have hz1 : w.heap.size < w3.heap.size := (by have := hB3.size; (try simp at this); omega)
  go_wp2_with fail
  refine (rcheck_any ns _ _ _ _ (hn.below (by repeat (first | exact Bw.refl _ | assumption | refine Bw.drew ?_ | refine Bw.drewN ?_ _ | refine Bw.alloc ?_ _ | refine Bw.trans ?_ (by assumption)))) hml).mono ?_
  rintro e w4 ⟨rfl, hb4⟩
  rw [unhide HE, unhide HEE]
  have hB4 : Bw (w.alloc (.cells #[.slice ga ns.length gc, .int .i64 r] 24)) w4 := (by repeat (first | exact Bw.refl _ | assumption | refine Bw.drew ?_ | refine Bw.drewN ?_ _ | refine Bw.alloc ?_ _ | refine Bw.trans ?_ (by assumption)))
  clear q1 q2 hz1 hB3
  go_wp2_with fail
  obtain ⟨w6, hr, hg6, hgr6⟩ := run_copyN (P := Try.prog) (w4.alloc (.cells (madeCells #[.int .i64 0] 0) 3)) 26 26 3 3 i0 Try.underlying26 hi w4.heap.size 0 0 none 0 0 _ _ [] (alloc_at _ _ rfl) (Nat.le_refl _) (by simp)
    (by intro h; omega) (by simp) (by simp)
  rw [hr]
  have hB6 : Bw (w.alloc (.cells #[.slice ga ns.length gc, .int .i64 r] 24)) w6 := Bw.kp (a := w4.alloc (.cells (madeCells #[.int .i64 0] 0) 3)) (by repeat (first | exact Bw.refl _ | assumption | refine Bw.drew ?_ | refine Bw.drewN ?_ _ | refine Bw.alloc ?_ _ | refine Bw.trans ?_ (by assumption))) hB4.size hgr6
  clear hr hg6 hgr6 hB4 hmk heq hb4
  go_wp2_with fail
  go_loop [10] (fun i => i = .int .i64 0) (fun _ => 0)
  case atStart => exact rfl
  case round =>
    subst hrel
    go_wp2_with (first | (at_builtin; (refine app1k _ rfl (.tmp 52) (.tmp 53) rfl _ _ [] rfl (Own.nil (w.alloc (.cells #[.slice ga ns.length gc, .int .i64 r] 24)) _) _ _ (-77) rfl (by simp) (by simp) (by repeat (first | exact Bw.refl _ | assumption | refine Bw.drew ?_ | refine Bw.drewN ?_ _ | refine Bw.alloc ?_ _ | refine Bw.trans ?_ (by assumption))) ?_; intro v1 wa hb1 hBa hkp1; have hb1 : Own _ wa v1 [-77] := hb1; obtain ⟨a1, cp1, e1, _, _⟩ := hb1.form; have e1 : v1 = .slice a1 1 cp1 := e1; subst e1; clear hkp1)) | (at_builtin; (refine app1k _ rfl (.tmp 55) (.tmp 56) rfl _ _ [-77] rfl (hb1.bw (by repeat (first | exact Bw.refl _ | assumption | refine Bw.drew ?_ | refine Bw.drewN ?_ _ | refine Bw.alloc ?_ _ | refine Bw.trans ?_ (by assumption)))) _ _ (-77) rfl (by simp) (by simp) (by repeat (first | exact Bw.refl _ | assumption | refine Bw.drew ?_ | refine Bw.drewN ?_ _ | refine Bw.alloc ?_ _ | refine Bw.trans ?_ (by assumption))) ?_; intro v2 wb hb2 hBb hkp2; have hb12 := hkp2 _ _ _ (hb1.bw (by repeat (first | exact Bw.refl _ | assumption | refine Bw.drew ?_ | refine Bw.drewN ?_ _ | refine Bw.alloc ?_ _ | refine Bw.trans ?_ (by assumption)))) (Nat.le_refl _); obtain ⟨a2, cp2, e2, _, _⟩ := hb2.form; have e2 : v2 = .slice a2 2 cp2 := e2; subst e2; clear hkp2)) | (at_builtin; (refine app1k _ rfl (.tmp 58) (.tmp 59) rfl _ _ ([-77] ++ [-77]) rfl (hb2.bw (by repeat (first | exact Bw.refl _ | assumption | refine Bw.drew ?_ | refine Bw.drewN ?_ _ | refine Bw.alloc ?_ _ | refine Bw.trans ?_ (by assumption)))) _ _ (-77) rfl (by simp) (by simp) (by repeat (first | exact Bw.refl _ | assumption | refine Bw.drew ?_ | refine Bw.drewN ?_ _ | refine Bw.alloc ?_ _ | refine Bw.trans ?_ (by assumption))) ?_; intro v3 wc hb3 hBc hkp3; have hb13 := hkp3 _ _ _ (hb12.bw (by repeat (first | exact Bw.refl _ | assumption | refine Bw.drew ?_ | refine Bw.drewN ?_ _ | refine Bw.alloc ?_ _ | refine Bw.trans ?_ (by assumption)))) (by simp); have hb23 := hkp3 _ _ _ (hb2.bw (by repeat (first | exact Bw.refl _ | assumption | refine Bw.drew ?_ | refine Bw.drewN ?_ _ | refine Bw.alloc ?_ _ | refine Bw.trans ?_ (by assumption)))) (Nat.le_refl _); obtain ⟨a3, cp3, e3, _, _⟩ := hb3.form; have e3 : v3 = .slice a3 3 cp3 := e3; subst e3; clear hkp3 hb12; obtain ⟨q1, q2⟩ := bcell hBc; have hzc : w.heap.size < wc.heap.size := (by have := hBc.size; (try simp at this); omega))))
    refine (check_any ns _ _ _ _ (hn.below (by repeat (first | exact Bw.refl _ | assumption | refine Bw.drew ?_ | refine Bw.drewN ?_ _ | refine Bw.alloc ?_ _ | refine Bw.trans ?_ (by assumption)))) hml).mono ?_
    rintro e w7 ⟨v7, rfl, hL7, hb7⟩
    unfold CheckL at hL7
    rw [if_neg (unhide H2)] at hL7
    subst hL7
    rw [unhide HEE]
    have hm1 := (hb13.room nth_one).bw hb7
    have hm2 := (hb23.room (nth_snoc nth_one)).bw hb7
    have hm3 := (hb3.room (nth_snoc (nth_snoc nth_one))).bw hb7
    have hB7 : Bw (w.alloc (.cells #[.slice ga ns.length gc, .int .i64 r] 24)) w7 := (by repeat (first | exact Bw.refl _ | assumption | refine Bw.drew ?_ | refine Bw.drewN ?_ _ | refine Bw.alloc ?_ _ | refine Bw.trans ?_ (by assumption)))
    clear hb13 hb23 hb3 q1 q2 hzc hBc hBa hBb hb1 hb2 HE hl hi hz0
    go_wp2_with fail
    refine (same_any [] _ _ _ _ _ (fun i hi => absurd hi (Nat.not_lt_zero i)) (fun i hi => absurd hi (Nat.not_lt_zero i)) (Nat.zero_le _)).mono ?_
    rintro e w8 ⟨rfl, hb8⟩
    have hm1 := hm1.bw hb8
    have hm2 := hm2.bw hb8
    have hm3 := hm3.bw hb8
    have hB8 : Bw (w.alloc (.cells #[.slice ga ns.length gc, .int .i64 r] 24)) w8 := (by repeat (first | exact Bw.refl _ | assumption | refine Bw.drew ?_ | refine Bw.drewN ?_ _ | refine Bw.alloc ?_ _ | refine Bw.trans ?_ (by assumption)))
    clear hb8 hb7 hB7
    go_wp2_with fail
    go_loop [8, 17] (fun v i => ∃ k : Nat, k ≤ 3 ∧ i = .int .i64 k ∧ v = .bool true) (fun _ i => 3 - (intOf i).toNat)
    case atStart => exact ⟨0, Nat.zero_le _, rfl, rfl⟩
    case round =>
      obtain ⟨k, hk, rfl, rfl⟩ := hrel
      by_cases hk3 : k < 3
      · obtain ⟨b3, o3, rfl, _, d3⟩ := hm3 k (by omega)
        have hd0 : decide ((0 : Int) ≤ (k : Int)) = true := by simp
        by_cases hk2 : k < 2
        · obtain ⟨b2, o2, rfl, _, d2⟩ := hm2 k (by omega)
          by_cases hk1 : k < 1
          · obtain ⟨b1, o1, rfl, _, d1⟩ := hm1 k (by omega)
            go_wp2_with fail
            go_round
            case rel => exact ⟨k + 1, by omega, by go_num, rfl⟩
            case measure => simp [intOf]; omega
          · have hd1 : decide (1 ≤ k) = true := by simp; omega
            go_wp2_with fail
            go_round
            case rel => exact ⟨k + 1, by omega, by go_num, rfl⟩
            case measure => simp [intOf]; omega
        · have hd1 : decide (1 ≤ k) = true := by simp; omega
          have hd2 : decide (2 ≤ k) = true := by simp; omega
          go_wp2_with fail
          go_round
          case rel => exact ⟨k + 1, by omega, by go_num, rfl⟩
          case measure => simp [intOf]; omega
      · go_wp2_with (go_at_call 44; refine (num_any _ _).mono ?_; rintro e w' ⟨rfl, rfl⟩)
        go_ret
        exact ⟨rfl, (by repeat (first | exact Bw.refl _ | assumption | refine Bw.drew ?_ | refine Bw.drewN ?_ _ | refine Bw.alloc ?_ _ | refine Bw.trans ?_ (by assumption)))⟩
end Go.Proofs.Ytfemleimkbjehaa
