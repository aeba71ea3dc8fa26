import Derived.Test.YtfemleimkbjehaaOwn3
namespace Go.Proofs.Ytfemleimkbjehaa
open Go.RowKit

theorem Handed.bw {w w' : World} {g : Nat} {ns : List Nd} (h : Handed w g ns) (hb : Bw w w') : Handed w' g ns :=
  ⟨Nat.lt_of_lt_of_le h.lt hb.size, fun j hj => NodeCells.bw (h.node j hj) h.lt hb, ⟨((bcell hb).1 _ _ h.lt).trans h.room.1, ((bcell hb).1 _ _ h.lt).trans h.room.2⟩, fun o => ((bcell hb).2 _ _ h.lt).trans (h.free o)⟩

set_option maxRecDepth 100000 in
set_option maxHeartbeats 4000000 in
theorem checked_cyc (ns : List Nd) (ga : Option Addr) (gc : Nat) (r : Int) (w : World) (hn : NodesAt w ga ns) (hl : ns.length * 40 ≤ 140737488351232)
    (hE : refE ns r = checkE ns r) (h2 : checkE ns r = 2) (hok : CycOk ns (cycB ns (orderB ns))) (hlen : (cycB ns (orderB ns)).length ≤ 8) (hn8 : ns.length ≤ 8) :
    Calls Try.prog 13 #[.agg #[.slice ga ns.length gc, .int .i64 r]] w fun e w' => e = .returned (.bool true) ∧ Bw w w' := by
  have hml : ns.length ≤ maxLen := by unfold maxLen; omega
  have HE := hide hE
  clear hE
  obtain ⟨i0, hi, hz0, hz1', hz2'⟩ := info_parts Try.infoInt
  have heq := fun (w : World) (a : Option Addr) (n c : Nat) => Lib.run_eql_slice_nil (P := Try.prog) w 26 3 a n c 0 0 Try.underlying26
  have H2 := hide h2
  clear h2
  generalize hL : cycB ns (orderB ns) = L at hok hlen
  have HL := hide hL
  clear hL
  go_enter Try.func13, Try.ntmps13
  go_wp2_with fail
  refine (handed_any ns _ _ _ _ (hn.below (by repeat (first | exact Bw.refl _ | assumption | refine Bw.drew ?_ | refine Bw.drewN ?_ _ | refine Bw.alloc ?_ _ | refine Bw.trans ?_ (by assumption)))) hl).mono ?_
  rintro e w1 ⟨g0, rfl, hg0, hh, hb1⟩
  obtain ⟨q1, q2⟩ := bcell hb1
  have hz1 : w.heap.size < w1.heap.size := (by have := hb1.size; (try simp at this); omega)
  go_wp2_with fail
  refine (check_any ns _ _ _ _ (hh.at.below (by repeat (first | exact Bw.refl _ | assumption | refine Bw.drew ?_ | refine Bw.drewN ?_ _ | refine Bw.alloc ?_ _ | refine Bw.trans ?_ (by assumption)))) hml).mono ?_
  rintro e w2 ⟨v, rfl, hL, hb2⟩
  unfold CheckL at hL
  rw [if_pos (unhide H2), unhide HL] at hL
  rw [unhide H2]
  obtain ⟨q3, q4⟩ := bcell hb2
  have hz2 : w1.heap.size < w2.heap.size := (by have := hb2.size; (try simp at this); omega)
  go_wp2_with fail
  refine (still_any ns _ g0 _ _ _ w w2 hn (by repeat (first | exact Bw.refl _ | assumption | refine Bw.drew ?_ | refine Bw.drewN ?_ _ | refine Bw.alloc ?_ _ | refine Bw.trans ?_ (by assumption))) (by have := hg0; simp at this; omega) (hh.bw (by repeat (first | exact Bw.refl _ | assumption | refine Bw.drew ?_ | refine Bw.drewN ?_ _ | refine Bw.alloc ?_ _ | refine Bw.trans ?_ (by assumption)))) hl).mono ?_
  rintro e w3 ⟨rfl, hK⟩
  have hB3 : Bw (w.alloc (.cells #[.slice ga ns.length gc, .int .i64 r] 24)) w3 := Bw.kp (a := w2) (by repeat (first | exact Bw.refl _ | assumption | refine Bw.drew ?_ | refine Bw.drewN ?_ _ | refine Bw.alloc ?_ _ | refine Bw.trans ?_ (by assumption))) hg0 hK
  have hown : Own (w.alloc (.cells #[.slice ga ns.length gc, .int .i64 r] 24)) w3 v L := (hL.kp (by have := hh.lt; simp; omega) hK).weaken (by repeat (first | exact Bw.refl _ | assumption | refine Bw.drew ?_ | refine Bw.drewN ?_ _ | refine Bw.alloc ?_ _ | refine Bw.trans ?_ (by assumption)))
  clear hL q1 q2 q3 q4 hz1 hz2 hK hb1 hb2 hh hg0
  obtain ⟨q1, q2⟩ := bcell hB3
  have hz1 : w.heap.size < w3.heap.size := (by have := hB3.size; (try simp at this); omega)
  go_wp2_with fail
  refine (rcheck_any ns _ _ _ _ (hn.below (by repeat (first | exact Bw.refl _ | assumption | refine Bw.drew ?_ | refine Bw.drewN ?_ _ | refine Bw.alloc ?_ _ | refine Bw.trans ?_ (by assumption)))) hml).mono ?_
  rintro e w4 ⟨rfl, hb4⟩
  rw [unhide HE, unhide H2]
  have hB4 : Bw (w.alloc (.cells #[.slice ga ns.length gc, .int .i64 r] 24)) w4 := (by repeat (first | exact Bw.refl _ | assumption | refine Bw.drew ?_ | refine Bw.drewN ?_ _ | refine Bw.alloc ?_ _ | refine Bw.trans ?_ (by assumption)))
  have hown4 := hown.bw hb4
  clear q1 q2 hz1 hB3 hown
  obtain ⟨q1, q2⟩ := bcell hB4
  have hz1 : w.heap.size < w4.heap.size := (by have := hB4.size; (try simp at this); omega)
  obtain ⟨lb, lc, rfl, hlb, hlb2, _⟩ := hown4.pos hok.pos
  have hx : IntsAt w4 (some ⟨lb, 0, none⟩) L := by
    obtain ⟨ad', lc', e', hx', _⟩ := hown4.form
    simp at e'
    obtain ⟨rfl, _⟩ := e'
    exact hx'
  go_wp2_with fail
  refine (cycok_any ns _ _ _ L _ _ _ (hn.below (by repeat (first | exact Bw.refl _ | assumption | refine Bw.drew ?_ | refine Bw.drewN ?_ _ | refine Bw.alloc ?_ _ | refine Bw.trans ?_ (by assumption)))) hx hn8 hlen hok).mono ?_
  rintro e w5 ⟨rfl, hb5⟩
  have hB5 : Bw (w.alloc (.cells #[.slice ga ns.length gc, .int .i64 r] 24)) w5 := (by repeat (first | exact Bw.refl _ | assumption | refine Bw.drew ?_ | refine Bw.drewN ?_ _ | refine Bw.alloc ?_ _ | refine Bw.trans ?_ (by assumption)))
  have hown5 := hown4.bw hb5
  have hx5 := hx.below hb5
  clear q1 q2 hz1 hB4 hown4 hx
  have hmk := fun w : World => run_make (P := Try.prog) w 26 3 i0 _ Try.underlying26 hi hz0 .i64 .i64 (L.length : Int) (L.length : Int) (by omega) (by omega) (by rw [hz2']; omega) (by omega)
  rw [hz1', Int.toNat_natCast, Nat.mul_one] at hmk
  go_wp2_with fail
  obtain ⟨w6, hr, hg6, hgr6⟩ := run_copyN (P := Try.prog) (w5.alloc (.cells (madeCells #[.int .i64 0] L.length) 3)) 26 26 3 3 i0 Try.underlying26 hi w5.heap.size L.length L.length (some ⟨lb, 0, none⟩) L.length lc _ _ (L.map (Value.int .i64)) (alloc_at _ _ rfl) (Nat.le_refl _) (by rw [hz1']; simp)
    (by intro _
        obtain ⟨b, off, e, hb, hc⟩ := (hx5.below (w' := w5.alloc (.cells (madeCells #[.int .i64 0] L.length) 3)) (by repeat (first | exact Bw.refl _ | assumption | refine Bw.drew ?_ | refine Bw.drewN ?_ _ | refine Bw.alloc ?_ _ | refine Bw.trans ?_ (by assumption)))) 0 hok.pos
        exact ⟨_, e, ints_src hc⟩) (by simp [size_madeCells]) (by intro u hu; simp at hu; obtain ⟨n, _, rfl⟩ := hu; rfl)
  rw [hr]
  have hwas : Own w5 w6 (.slice (some ⟨w5.heap.size, 0, none⟩) L.length L.length) L := own_copied hg6 (by unfold maxLen; omega)
  have hB6 : Bw (w.alloc (.cells #[.slice ga ns.length gc, .int .i64 r] 24)) w6 := Bw.kp (a := w5.alloc (.cells (madeCells #[.int .i64 0] L.length) 3)) (by repeat (first | exact Bw.refl _ | assumption | refine Bw.drew ?_ | refine Bw.drewN ?_ _ | refine Bw.alloc ?_ _ | refine Bw.trans ?_ (by assumption))) hB5.size hgr6
  have hown6 : Own (w.alloc (.cells #[.slice ga ns.length gc, .int .i64 r] 24)) w6 (.slice (some ⟨lb, 0, none⟩) L.length lc) L := hown5.new ((Bw.refl _).alloc _) (Nat.le_refl _) hgr6
  have hlb5 : lb < w5.heap.size := Nat.lt_of_lt_of_le hlb2 hb5.size
  clear hr hg6 hgr6 hown5 hx5 hB5 hmk heq hb4
  go_wp2_with fail
  go_loopw [10] (fun i wr => ∃ k : Nat, k ≤ L.length ∧ i = .int .i64 k ∧ Own (w.alloc (.cells #[.slice ga ns.length gc, .int .i64 r] 24)) wr (.slice (some ⟨lb, 0, none⟩) L.length lc) (roomed L k) ∧ Own w5 wr (.slice (some ⟨w5.heap.size, 0, none⟩) L.length L.length) L ∧ Bw (w.alloc (.cells #[.slice ga ns.length gc, .int .i64 r] 24)) wr) (fun i _ => L.length - (intOf i).toNat)
  case atStart => exact ⟨0, Nat.zero_le _, rfl, hown6, hwas, hB6⟩
  case round =>
    clear hown6 hwas hB6
    obtain ⟨k, hk, rfl, hown, hwas, hB⟩ := hrel
    have hrl := roomed_len hk
    by_cases hlt : k < L.length
    · obtain ⟨g', cap', e', _, _, hfr, hcl⟩ := hown.pos (by omega)
      simp at e'
      obtain ⟨rfl, he', rfl⟩ := e'
      have hc1 := hcl k (by omega)
      have Hrl := hide hrl
      clear hcl he' hrl
      go_wp2_with fail
      go_roundw
      case rel => exact ⟨k + 1, by omega, by go_num, by rw [← roomed_set hlt]; have h := hown; rw [← unhide Hrl] at h ⊢; exact h.set (-77) (by have := unhide Hrl; omega), hwas.setOther hlb5, hB.setCell hlb _⟩
      case measure => simp [intOf]; omega
    · have hkk : k = L.length := by omega
      subst hkk
      rw [roomed_all] at hown
      clear hrl
      have hrp : (List.replicate L.length (-77 : Int)).length = L.length := by simp
      have Hrp := hide hrp
      generalize hR : List.replicate L.length (-77 : Int) = R at hown Hrp
      have HR := hide hR
      clear hR hrp
      go_wp2_with (first | (at_builtin; (refine app1k _ rfl (.tmp 52) (.tmp 53) rfl _ _ R rfl (hown.bw (by repeat (first | exact Bw.refl _ | assumption | refine Bw.drew ?_ | refine Bw.drewN ?_ _ | refine Bw.alloc ?_ _ | refine Bw.trans ?_ (by assumption)))) _ _ (-77) rfl (by simp) (by have := unhide Hrp; omega) (by repeat (first | exact Bw.refl _ | assumption | refine Bw.drew ?_ | refine Bw.drewN ?_ _ | refine Bw.alloc ?_ _ | refine Bw.trans ?_ (by assumption))) ?_; intro v1 wa hb1 hBa hkp1; have hl1 := hkp1 _ _ _ (hown.bw (by repeat (first | exact Bw.refl _ | assumption | refine Bw.drew ?_ | refine Bw.drewN ?_ _ | refine Bw.alloc ?_ _ | refine Bw.trans ?_ (by assumption)))) (Nat.le_refl _); have hw1 := hkp1 _ _ _ (hwas.bw (by repeat (first | exact Bw.refl _ | assumption | refine Bw.drew ?_ | refine Bw.drewN ?_ _ | refine Bw.alloc ?_ _ | refine Bw.trans ?_ (by assumption)))) (by have := unhide Hrp; omega); obtain ⟨a1, cp1, rfl, _, _⟩ := hb1.form; rw [len_snoc] at hb1; clear hkp1)) | (at_builtin; (refine app1k _ rfl (.tmp 55) (.tmp 56) rfl _ _ (R ++ [-77]) rfl (hb1.bw (by repeat (first | exact Bw.refl _ | assumption | refine Bw.drew ?_ | refine Bw.drewN ?_ _ | refine Bw.alloc ?_ _ | refine Bw.trans ?_ (by assumption)))) _ _ (-77) rfl (by simp) (by rw [len_snoc]; have := unhide Hrp; omega) (by repeat (first | exact Bw.refl _ | assumption | refine Bw.drew ?_ | refine Bw.drewN ?_ _ | refine Bw.alloc ?_ _ | refine Bw.trans ?_ (by assumption))) ?_; intro v2 wb hb2 hBb hkp2; have hl2 := hkp2 _ _ _ (hl1.bw (by repeat (first | exact Bw.refl _ | assumption | refine Bw.drew ?_ | refine Bw.drewN ?_ _ | refine Bw.alloc ?_ _ | refine Bw.trans ?_ (by assumption)))) (by rw [len_snoc]; have := unhide Hrp; omega); have hw2 := hkp2 _ _ _ (hw1.bw (by repeat (first | exact Bw.refl _ | assumption | refine Bw.drew ?_ | refine Bw.drewN ?_ _ | refine Bw.alloc ?_ _ | refine Bw.trans ?_ (by assumption)))) (by rw [len_snoc]; have := unhide Hrp; omega); have hb12 := hkp2 _ _ _ (hb1.bw (by repeat (first | exact Bw.refl _ | assumption | refine Bw.drew ?_ | refine Bw.drewN ?_ _ | refine Bw.alloc ?_ _ | refine Bw.trans ?_ (by assumption)))) (Nat.le_refl _); obtain ⟨a2, cp2, rfl, _, _⟩ := hb2.form; rw [len_snoc, len_snoc] at hb2; clear hkp2 hl1 hw1)) | (at_builtin; (refine app1k _ rfl (.tmp 58) (.tmp 59) rfl _ _ (R ++ [-77] ++ [-77]) rfl (hb2.bw (by repeat (first | exact Bw.refl _ | assumption | refine Bw.drew ?_ | refine Bw.drewN ?_ _ | refine Bw.alloc ?_ _ | refine Bw.trans ?_ (by assumption)))) _ _ (-77) rfl (by simp) (by (repeat rw [len_snoc]); have := unhide Hrp; omega) (by repeat (first | exact Bw.refl _ | assumption | refine Bw.drew ?_ | refine Bw.drewN ?_ _ | refine Bw.alloc ?_ _ | refine Bw.trans ?_ (by assumption))) ?_; intro v3 wc hb3 hBc hkp3; have hl3 := hkp3 _ _ _ (hl2.bw (by repeat (first | exact Bw.refl _ | assumption | refine Bw.drew ?_ | refine Bw.drewN ?_ _ | refine Bw.alloc ?_ _ | refine Bw.trans ?_ (by assumption)))) (by (repeat rw [len_snoc]); have := unhide Hrp; omega); have hw3 := hkp3 _ _ _ (hw2.bw (by repeat (first | exact Bw.refl _ | assumption | refine Bw.drew ?_ | refine Bw.drewN ?_ _ | refine Bw.alloc ?_ _ | refine Bw.trans ?_ (by assumption)))) (by (repeat rw [len_snoc]); have := unhide Hrp; omega); have hb13 := hkp3 _ _ _ (hb12.bw (by repeat (first | exact Bw.refl _ | assumption | refine Bw.drew ?_ | refine Bw.drewN ?_ _ | refine Bw.alloc ?_ _ | refine Bw.trans ?_ (by assumption)))) (by (repeat rw [len_snoc]); have := unhide Hrp; omega); have hb23 := hkp3 _ _ _ (hb2.bw (by repeat (first | exact Bw.refl _ | assumption | refine Bw.drew ?_ | refine Bw.drewN ?_ _ | refine Bw.alloc ?_ _ | refine Bw.trans ?_ (by assumption)))) (Nat.le_refl _); obtain ⟨a3, cp3, rfl, _, _⟩ := hb3.form; rw [len_snoc, len_snoc, len_snoc] at hb3; clear hkp3 hl2 hw2 hb12; obtain ⟨q1, q2⟩ := bcell hBc; have hzc : w.heap.size < wc.heap.size := (by have := hBc.size; (try simp at this); omega))))
      refine (check_any ns _ _ _ _ (hn.below (by repeat (first | exact Bw.refl _ | assumption | refine Bw.drew ?_ | refine Bw.drewN ?_ _ | refine Bw.alloc ?_ _ | refine Bw.trans ?_ (by assumption)))) hml).mono ?_
      rintro e w7 ⟨v7, rfl, hL7, hb7⟩
      unfold CheckL at hL7
      rw [if_pos (unhide H2), unhide HL] at hL7
      rw [unhide H2]
      obtain ⟨ma, mc, rfl, hmx, _⟩ := hL7.form
      have hwx := ((hw3.bw hb7).ints).1
      have hRr : ∀ j, j < R.length → nth R j = -77 := by
        intro j hj
        rw [← unhide HR] at hj ⊢
        exact nth_replicate (by simpa using hj)
      have hm0 := (hl3.room hRr).bw hb7
      have hm1 := (hb13.room (nth_snoc hRr)).bw hb7
      have hm2 := (hb23.room (nth_snoc (nth_snoc hRr))).bw hb7
      have hm3 := (hb3.room (nth_snoc (nth_snoc (nth_snoc hRr)))).bw hb7
      have hr1 : R.length ≤ L.length := by have := unhide Hrp; omega
      have hr2 : L.length ≤ R.length := by have := unhide Hrp; omega
      have hB7 : Bw (w.alloc (.cells #[.slice ga ns.length gc, .int .i64 r] 24)) w7 := (by repeat (first | exact Bw.refl _ | assumption | refine Bw.drew ?_ | refine Bw.drewN ?_ _ | refine Bw.alloc ?_ _ | refine Bw.trans ?_ (by assumption)))
      clear hL7 hRr hl3 hb13 hb23 hb3 hw3 q1 q2 hzc hBc hBa hBb hB hown hwas hb1 hb2 hok hlb hlb2 hlb5 hb5 HE hk hlt hl hi hz0
      go_wp2_with fail
      refine (same_any L _ _ _ _ _ hmx hwx (by unfold maxLen; omega)).mono ?_
      rintro e w8 ⟨rfl, hb8⟩
      have hm0 := hm0.bw hb8
      have hm1 := hm1.bw hb8
      have hm2 := hm2.bw hb8
      have hm3 := hm3.bw hb8
      have hB8 : Bw (w.alloc (.cells #[.slice ga ns.length gc, .int .i64 r] 24)) w8 := (by repeat (first | exact Bw.refl _ | assumption | refine Bw.drew ?_ | refine Bw.drewN ?_ _ | refine Bw.alloc ?_ _ | refine Bw.trans ?_ (by assumption)))
      clear hb8 hb7 hB7 hmx hwx
      go_wp2_with fail
      go_loop [8, 17] (fun v i => ∃ k : Nat, k ≤ R.length + 3 ∧ i = .int .i64 k ∧ v = .bool true) (fun _ i => R.length + 3 - (intOf i).toNat)
      case atStart => exact ⟨0, Nat.zero_le _, rfl, rfl⟩
      case round =>
        obtain ⟨k, hk, rfl, rfl⟩ := hrel
        by_cases hk3 : k < R.length + 3
        · obtain ⟨b3, o3, rfl, _, d3⟩ := hm3 k (by omega)
          by_cases hk2 : k < R.length + 2
          · obtain ⟨b2, o2, rfl, _, d2⟩ := hm2 k (by omega)
            by_cases hk1 : k < R.length + 1
            · obtain ⟨b1, o1, rfl, _, d1⟩ := hm1 k (by omega)
              by_cases hk0 : k < R.length
              · obtain ⟨b0, o0, e0, _, d0⟩ := hm0 k (by omega)
                simp at e0
                obtain ⟨rfl, rfl⟩ := e0
                rw [Nat.zero_add] at d0
                go_wp2_with fail
                go_round
                case rel => exact ⟨k + 1, by omega, by go_num, rfl⟩
                case measure => simp [intOf]; omega
              · have hd0 : decide (L.length ≤ k) = true := by simp; omega
                go_wp2_with fail
                go_round
                case rel => exact ⟨k + 1, by omega, by go_num, rfl⟩
                case measure => simp [intOf]; omega
            · have hd0 : decide (L.length ≤ k) = true := by simp; omega
              have hd1 : decide (R.length + 1 ≤ k) = true := by simp; omega
              go_wp2_with fail
              go_round
              case rel => exact ⟨k + 1, by omega, by go_num, rfl⟩
              case measure => simp [intOf]; omega
          · have hd0 : decide (L.length ≤ k) = true := by simp; omega
            have hd1 : decide (R.length + 1 ≤ k) = true := by simp; omega
            have hd2 : decide (R.length + 2 ≤ k) = true := by simp; omega
            go_wp2_with fail
            go_round
            case rel => exact ⟨k + 1, by omega, by go_num, rfl⟩
            case measure => simp [intOf]; omega
        · go_wp2_with (go_at_call 44; refine (num_any _ _).mono ?_; rintro e w' ⟨rfl, rfl⟩)
          go_ret
          exact ⟨rfl, (by repeat (first | exact Bw.refl _ | assumption | refine Bw.drew ?_ | refine Bw.drewN ?_ _ | refine Bw.alloc ?_ _ | refine Bw.trans ?_ (by assumption)))⟩
end Go.Proofs.Ytfemleimkbjehaa
