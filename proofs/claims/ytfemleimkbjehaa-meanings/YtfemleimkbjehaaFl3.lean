import Derived.Test.YtfemleimkbjehaaFl2
namespace Go.Proofs.Ytfemleimkbjehaa
open Go.RowKit

theorem intsAt_one {w : World} {g : Nat} {v : Int} (h : w.cell? ⟨g, 0, none⟩ = some (.int .i64 v)) (hlt : g < w.heap.size) : IntsAt w (some ⟨g, 0, none⟩) [v] := by
  intro i hi
  refine ⟨g, 0, rfl, hlt, fun j hj => ?_⟩
  simp at hj
  subst hj
  simpa [nth] using h
theorem wrap64_left (n : Int) : IntKind.i64.wrap n = wrap64 n := by unfold wrap64; rw [IntKind.wrap_i64]
theorem come_nil (x : Nd) : comeL x (fun _ => []) = [] := by simp [comeL]
theorem put_src {ns : List Nd} {gv : List Gv} {e s n : Nat} {c p : Nat → List Int} (h : ((ndn ns n).kind == 0) = true) : putL ns gv e s n c p = srcTo gv n e s gv.length := by unfold putL; rw [if_pos h]; rfl
theorem put_back {ns : List Nd} {gv : List Gv} {e s n : Nat} {c p : Nat → List Int} (h : ((ndn ns n).kind == 0) = false) (h4 : ((ndn ns n).kind == 4) = true) : putL ns gv e s n c p = comeL (ndn ns n) p := by unfold putL; rw [h, h4]; rfl
theorem put_sum {ns : List Nd} {gv : List Gv} {e s n : Nat} {c p : Nat → List Int} (h : ((ndn ns n).kind == 0) = false) (h4 : ((ndn ns n).kind == 4) = false) (h6 : ((ndn ns n).kind == 6) = true) : putL ns gv e s n c p = grpTo (comeL (ndn ns n) c) (ndn ns n).k (ndn ns n).k.toNat := by unfold putL nodeL; rw [h, h4, h6]; rfl
theorem put_else {ns : List Nd} {gv : List Gv} {e s n : Nat} {c p : Nat → List Int} (h : ((ndn ns n).kind == 0) = false) (h4 : ((ndn ns n).kind == 4) = false) (h6 : ((ndn ns n).kind == 6) = false) : putL ns gv e s n c p = refTo (ndn ns n) (comeL (ndn ns n) c) (comeL (ndn ns n) c).length := by unfold putL nodeL; rw [h, h4, h6]; rfl

set_option maxRecDepth 100000 in
set_option maxHeartbeats 4000000 in
theorem puts_any (ns : List Nd) (ga va : Option Addr) (gc vc R : Nat) (r : Int) (gv : List Gv) (W w : World) (fb ob oc : Nat) (tb tc : Nat → Nat) (rb : Nat → Nat → Nat) (F : Nat → Nat → Nat → List Int) (n e s : Nat) (hn : NodesAt w ga ns) (hv : GvAt w va gv) (hgl : gv.length ≤ 20) (hl : ns.length ≤ 8) (hF : FlowAt W w fb ob ns.length R oc tb tc rb F) (hnl : n < ns.length) (he : e < 6) (hs : s < R) (hR : R ≤ 4)
    (hin : ∀ z ∈ inputsL (ndn ns n), ∃ a : Nat, z = a ∧ a < ns.length ∧ ∀ s', s' < R → (F e s' a).length ≤ 100000) (h2 : (ndn ns n).kind = 2 → 1 ≤ (ndn ns n).k ∧ (ndn ns n).k ≤ 100) (h6 : (ndn ns n).kind = 6 → 1 ≤ (ndn ns n).k ∧ (ndn ns n).k ≤ 8) :
    Calls Try.prog 105 #[.pointer (some ⟨fb, 0, none⟩), .agg #[.slice ga ns.length gc, .int .i64 r], .slice va gv.length vc, .int .i64 (n : Int), .int .i64 (e : Int), .int .i64 (s : Int)] w fun en w' => ∃ v, en = .returned v ∧ Own w w' v (putL ns gv e s n (F e s) (prevS (F e) s)) ∧ Bw w w' := by
  have hcome := fun s' hs' w' hb => come_any ns ga gc R r W w' fb ob oc tb tc rb F n e s' (hn.below hb) hl (hF.bw hb) hnl he hs' hR (fun z hz => by obtain ⟨a, ea, ha, h⟩ := hin z hz; exact ⟨a, ea, ha, h s' hs'⟩)
  have Hcome := hide hcome
  have Hlen : Hid (∀ s', s' < R → (comeL (ndn ns n) (fun a => F e s' a)).length ≤ 200000) := hide (fun s' hs' => by
    rw [← comeTo_all]
    have h1 := comeTo_len (x := ndn ns n) (cur := fun a => F e s' a) (fun z hz => by obtain ⟨a, rfl, _, h⟩ := hin z hz; exact h s' hs') _ (Nat.le_refl _)
    have h2 := inputsL_two (ndn ns n)
    have h3 : (inputsL (ndn ns n)).length * 100000 ≤ 2 * 100000 := Nat.mul_le_mul_right _ h2
    omega)
  clear hcome hF hin
  have hn' := hn
  obtain ⟨b, off, rfl, hb, hc⟩ := hn n hnl
  obtain ⟨c0, c1, c2, c3, c4⟩ := hc n hnl
  clear hc hn
  cases k0 : ((ndn ns n).kind == 0) with
  | true =>
    have Hp := hide (put_src (gv := gv) (e := e) (s := s) (c := F e s) (p := prevS (F e) s) k0)
    generalize ndn ns n = x at *
    go_enter Try.func105, Try.ntmps105
    go_wp2_with fail
    clear Hcome Hlen
    obtain ⟨W0, hW0⟩ : ∃ W0, ((w.alloc (.cells #[.slice (some ⟨b, off, none⟩) ns.length gc, .int .i64 r] 24)).alloc (.cells #[.int .i64 x.kind, .int .i64 x.a, .int .i64 x.b, .int .i64 x.k, .int .i64 x.m] 32)) = W0 := ⟨_, rfl⟩
    rw [hW0]
    have hB0 : Bw w W0 := by rw [← hW0]; exact (by repeat (first | exact Bw.refl _ | assumption | refine Bw.drew ?_ | refine Bw.drewN ?_ _ | refine Bw.alloc ?_ _ | refine Bw.trans ?_ (by assumption)))
    clear hW0 c0 c1 c2 c3 c4
    go_loopw [13, 15] (fun v i wr => ∃ k : Nat, k ≤ gv.length ∧ i = .int .i64 k ∧ Own W0 wr v (srcTo gv n e s k) ∧ Bw W0 wr) (fun _ i _ => gv.length - (intOf i).toNat)
    case atStart => exact ⟨0, Nat.zero_le _, rfl, Own.nil _ _, Bw.refl _⟩
    case round =>
      obtain ⟨k, hk, rfl, hown, hB⟩ := hrel
      have hln := srcTo_len gv n e s k
      by_cases hlt : k < gv.length
      · obtain ⟨b2, off2, rfl, hb2, hc⟩ := (hv.below (hB0.trans hB)) k hlt
        obtain ⟨d0, d1, d2⟩ := hc k hlt
        clear hc
        have Hy := hide (@srcTo_yes gv n e s k)
        have Hn := hide (@srcTo_no gv n e s k)
        have Hsb : Hid (srcB gv n e s k = (((s : Int) == 0) && ((gvn gv k).node == (n : Int)) && ((gvn gv k).epoch == (e : Int)))) := hide (by unfold srcB; congr 2; rw [Bool.eq_iff_iff]; simp)
        generalize gvn gv k = gk at *
        generalize hsb : srcB gv n e s k = sb at Hsb Hy Hn
        clear hsb
        cases h3 : ((s : Int) == 0) with
        | false =>
          rw [h3] at Hsb
          have Hs := hide ((unhide Hn) (by rw [unhide Hsb]; simp))
          go_wp2_with fail
          go_roundw
          case rel => exact ⟨k + 1, by omega, by go_num, by rw [unhide Hs]; exact hown.bw (by repeat (first | exact Bw.refl _ | assumption | refine Bw.drew ?_ | refine Bw.drewN ?_ _ | refine Bw.alloc ?_ _ | refine Bw.trans ?_ (by assumption))), (by repeat (first | exact Bw.refl _ | assumption | refine Bw.drew ?_ | refine Bw.drewN ?_ _ | refine Bw.alloc ?_ _ | refine Bw.trans ?_ (by assumption)))⟩
          case measure => simp [intOf]; omega
        | true =>
          cases h1 : (gk.node == (n : Int)) with
          | false =>
            rw [h1] at Hsb
            have Hs := hide ((unhide Hn) (by rw [unhide Hsb]; simp))
            go_wp2_with fail
            go_roundw
            case rel => exact ⟨k + 1, by omega, by go_num, by rw [unhide Hs]; exact hown.bw (by repeat (first | exact Bw.refl _ | assumption | refine Bw.drew ?_ | refine Bw.drewN ?_ _ | refine Bw.alloc ?_ _ | refine Bw.trans ?_ (by assumption))), (by repeat (first | exact Bw.refl _ | assumption | refine Bw.drew ?_ | refine Bw.drewN ?_ _ | refine Bw.alloc ?_ _ | refine Bw.trans ?_ (by assumption)))⟩
            case measure => simp [intOf]; omega
          | true =>
            cases h2 : (gk.epoch == (e : Int)) with
            | false =>
              rw [h2] at Hsb
              have Hs := hide ((unhide Hn) (by rw [unhide Hsb]; simp))
              go_wp2_with fail
              go_roundw
              case rel => exact ⟨k + 1, by omega, by go_num, by rw [unhide Hs]; exact hown.bw (by repeat (first | exact Bw.refl _ | assumption | refine Bw.drew ?_ | refine Bw.drewN ?_ _ | refine Bw.alloc ?_ _ | refine Bw.trans ?_ (by assumption))), (by repeat (first | exact Bw.refl _ | assumption | refine Bw.drew ?_ | refine Bw.drewN ?_ _ | refine Bw.alloc ?_ _ | refine Bw.trans ?_ (by assumption)))⟩
              case measure => simp [intOf]; omega
            | true =>
              rw [h1, h2, h3] at Hsb
              have Hs := hide ((unhide Hy) (by rw [unhide Hsb]; rfl))
              go_wp2_with (at_builtin; refine app1 _ rfl _ _ rfl _ _ (srcTo gv n e s k) rfl (hown.bw (by repeat (first | exact Bw.refl _ | assumption | refine Bw.drew ?_ | refine Bw.drewN ?_ _ | refine Bw.alloc ?_ _ | refine Bw.trans ?_ (by assumption)))) _ _ gk.value rfl (by simp) (by omega) (by repeat (first | exact Bw.refl _ | assumption | refine Bw.drew ?_ | refine Bw.drewN ?_ _ | refine Bw.alloc ?_ _ | refine Bw.trans ?_ (by assumption))) ?_; intro v' w1 hown1 hB1 hgr1)
              go_roundw
              case rel => exact ⟨k + 1, by omega, by go_num, by rw [unhide Hs]; exact hown1, hB1⟩
              case measure => simp [intOf]; omega
      · have hkk : k = gv.length := by omega
        subst hkk
        go_wp2_with fail
        go_ret
        exact ⟨_, rfl, by rw [unhide Hp]; exact hown.weaken hB0, hB0.trans hB⟩
  | false =>
    cases k4 : ((ndn ns n).kind == 4) with
    | true =>
      have Hp := hide (put_back (gv := gv) (e := e) (s := s) (c := F e s) (p := prevS (F e) s) k0 k4)
      cases s with
      | zero =>
        generalize ndn ns n = x at *
        go_enter Try.func105, Try.ntmps105
        go_wp2_with fail
        go_ret
        exact ⟨_, rfl, by rw [unhide Hp, show prevS (F e) 0 = fun _ => [] from rfl, come_nil]; exact Own.nil _ _, (by repeat (first | exact Bw.refl _ | assumption | refine Bw.drew ?_ | refine Bw.drewN ?_ _ | refine Bw.alloc ?_ _ | refine Bw.trans ?_ (by assumption)))⟩
      | succ s' =>
        have hs1 : (((s' + 1 : Nat) : Int) == 0) = false := by simp; omega
        have hs2 : ((s' + 1 : Nat) : Int) - 1 = (s' : Int) := by omega
        generalize ndn ns n = x at *
        go_enter Try.func105, Try.ntmps105
        go_wp2_with fail
        refine ((unhide Hcome) s' (by omega) _ (by repeat (first | exact Bw.refl _ | assumption | refine Bw.drew ?_ | refine Bw.drewN ?_ _ | refine Bw.alloc ?_ _ | refine Bw.trans ?_ (by assumption)))).mono ?_
        rintro en w1 ⟨v, rfl, ho, hB⟩
        go_wp2_with fail
        go_ret
        exact ⟨_, rfl, by rw [unhide Hp]; exact ho.weaken (by repeat (first | exact Bw.refl _ | assumption | refine Bw.drew ?_ | refine Bw.drewN ?_ _ | refine Bw.alloc ?_ _ | refine Bw.trans ?_ (by assumption))), (by repeat (first | exact Bw.refl _ | assumption | refine Bw.drew ?_ | refine Bw.drewN ?_ _ | refine Bw.alloc ?_ _ | refine Bw.trans ?_ (by assumption)))⟩
    | false =>
      cases k6 : ((ndn ns n).kind == 6) with
      | true =>
        have Hp := hide (put_sum (gv := gv) (e := e) (s := s) (c := F e s) (p := prevS (F e) s) k0 k4 k6)
        obtain ⟨q1, q2⟩ := h6 (by simpa using k6)
        generalize ndn ns n = x at *
        go_enter Try.func105, Try.ntmps105
        go_wp2_with fail
        refine ((unhide Hcome) s hs _ (by repeat (first | exact Bw.refl _ | assumption | refine Bw.drew ?_ | refine Bw.drewN ?_ _ | refine Bw.alloc ?_ _ | refine Bw.trans ?_ (by assumption)))).mono ?_
        rintro en w1 ⟨v, rfl, ho, hB⟩
        obtain ⟨la, lc, rfl, hlc⟩ := ho.slice
        have hx := ho.ints.1
        have HLe := hide ((unhide Hlen) s hs)
        have x0 : w1.cell? ⟨w.heap.size + 1, 0, none⟩ = some (.int .i64 x.kind) := ((bcell hB).1 _ _ (by simp)).trans (by simp)
        have x3 : w1.cell? ⟨w.heap.size + 1, 3, none⟩ = some (.int .i64 x.k) := ((bcell hB).1 _ _ (by simp)).trans (by simp)
        have gz : w.heap.size + 1 < w1.heap.size := by have := hB.size; simp at this; omega
        have hBw : Bw w w1 := (by repeat (first | exact Bw.refl _ | assumption | refine Bw.drew ?_ | refine Bw.drewN ?_ _ | refine Bw.alloc ?_ _ | refine Bw.trans ?_ (by assumption)))
        clear hB
        go_wp2_with fail
        refine (groups_any _ x.k la lc _ hx (Nat.le_trans (unhide HLe) (by omega)) q1 q2).mono ?_
        rintro en w2 ⟨v2, rfl, ho2, hB2⟩
        go_wp2_with fail
        go_ret
        exact ⟨_, rfl, by rw [unhide Hp]; exact ho2.weaken (by repeat (first | exact Bw.refl _ | assumption | refine Bw.drew ?_ | refine Bw.drewN ?_ _ | refine Bw.alloc ?_ _ | refine Bw.trans ?_ (by assumption))), (by repeat (first | exact Bw.refl _ | assumption | refine Bw.drew ?_ | refine Bw.drewN ?_ _ | refine Bw.alloc ?_ _ | refine Bw.trans ?_ (by assumption)))⟩
      | false =>
        have Hp := hide (put_else (gv := gv) (e := e) (s := s) (c := F e s) (p := prevS (F e) s) k0 k4 k6)
        generalize ndn ns n = x at *
        go_enter Try.func105, Try.ntmps105
        go_wp2_with fail
        refine ((unhide Hcome) s hs _ (by repeat (first | exact Bw.refl _ | assumption | refine Bw.drew ?_ | refine Bw.drewN ?_ _ | refine Bw.alloc ?_ _ | refine Bw.trans ?_ (by assumption)))).mono ?_
        rintro en w1 ⟨v, rfl, ho, hB⟩
        obtain ⟨la, lc, rfl, hlc⟩ := ho.slice
        have hx := ho.ints.1
        have HLe := hide ((unhide Hlen) s hs)
        obtain ⟨x0, x1, x2, x3, x4⟩ : w1.cell? ⟨w.heap.size + 1, 0, none⟩ = some (.int .i64 x.kind) ∧ w1.cell? ⟨w.heap.size + 1, 1, none⟩ = some (.int .i64 x.a) ∧ w1.cell? ⟨w.heap.size + 1, 2, none⟩ = some (.int .i64 x.b) ∧ w1.cell? ⟨w.heap.size + 1, 3, none⟩ = some (.int .i64 x.k) ∧ w1.cell? ⟨w.heap.size + 1, 4, none⟩ = some (.int .i64 x.m) := by
          obtain ⟨gcc, _⟩ := bcell hB
          exact ⟨(gcc _ _ (by simp)).trans (by simp), (gcc _ _ (by simp)).trans (by simp), (gcc _ _ (by simp)).trans (by simp), (gcc _ _ (by simp)).trans (by simp), (gcc _ _ (by simp)).trans (by simp)⟩
        have gz : w.heap.size + 1 < w1.heap.size := by have := hB.size; simp at this; omega
        have hBw : Bw w w1 := (by repeat (first | exact Bw.refl _ | assumption | refine Bw.drew ?_ | refine Bw.drewN ?_ _ | refine Bw.alloc ?_ _ | refine Bw.trans ?_ (by assumption)))
        clear hB
        have Hp2 : Hid (putL ns gv e s n (F e s) (prevS (F e) s) = refTo x (comeL x (fun a => F e s a)) (comeL x (fun a => F e s a)).length) := Hp
        clear Hp
        generalize comeL x (fun a => F e s a) = l at *
        clear Hcome Hlen ho hv
        go_wp2_with fail
        clear c0 c1 c2 c3 c4
        go_loopw [13, 17] (fun v i wr => ∃ k : Nat, k ≤ l.length ∧ i = .int .i64 k ∧ Own w1 wr v (refTo x l k) ∧ Bw w1 wr) (fun _ i _ => l.length - (intOf i).toNat)
        case atStart => exact ⟨0, Nat.zero_le _, rfl, Own.nil _ _, Bw.refl _⟩
        case round =>
          obtain ⟨i, hi, rfl, hown, hB⟩ := hrel
          have hln := refTo_len x l i
          have hll : l.length ≤ 1000000 := Nat.le_trans (unhide HLe) (by omega)
          have hll2 : i ≤ 200000 := Nat.le_trans hi (unhide HLe)
          have hx2 := hx.below hB
          by_cases hlt : i < l.length
          · obtain ⟨y0, y1, y2, y3, y4⟩ : wr.cell? ⟨w.heap.size + 1, 0, none⟩ = some (.int .i64 x.kind) ∧ wr.cell? ⟨w.heap.size + 1, 1, none⟩ = some (.int .i64 x.a) ∧ wr.cell? ⟨w.heap.size + 1, 2, none⟩ = some (.int .i64 x.b) ∧ wr.cell? ⟨w.heap.size + 1, 3, none⟩ = some (.int .i64 x.k) ∧ wr.cell? ⟨w.heap.size + 1, 4, none⟩ = some (.int .i64 x.m) := by
              obtain ⟨gcc, _⟩ := bcell hB
              exact ⟨(gcc _ _ gz).trans x0, (gcc _ _ gz).trans x1, (gcc _ _ gz).trans x2, (gcc _ _ gz).trans x3, (gcc _ _ gz).trans x4⟩
            have gz2 : w.heap.size + 1 < wr.heap.size := by have := hB.size; omega
            clear x0 x1 x2 x3 x4
            obtain ⟨b5, off5, rfl, hb5, hc5⟩ := hx2 i hlt
            have d0 := hc5 i hlt
            clear hc5
            have hj1 : (0 : Int) ≤ (i : Int) := by omega
            have hj2 : (i : Int) < (l.length : Int) := by omega
            have Hy := hide (@refTo_yes x l i)
            have Hn := hide (@refTo_no x l i)
            have Hsk : Hid (skipB x l i = (((x.kind == 5) && hasB (l.take i) (nth l i)) || ((x.kind == 2) && (nth l i % x.k != x.m)))) := hide rfl
            generalize nth l i = xv at *
            generalize hsb : skipB x l i = sb at Hsk Hy Hn
            clear hsb
            cases k5 : (x.kind == 5) with
            | true =>
              have k2 : (x.kind == 2) = false := by simp at k5 ⊢; omega
              cases hh : hasB (l.take i) xv with
              | true =>
                have Hh := hide hh
                have Hs := hide ((unhide Hy) (by rw [unhide Hsk, k5, hh]; rfl))
                clear hh Hy Hn Hsk
                go_wp2_with (go_at_call 134; refine (has_any l _ i _ _ _ hx2 (by omega) hll).mono ?_; rintro e w2 ⟨rfl, rfl⟩; rw [unhide Hh])
                go_quiet (fail)
                go_wp2_with fail
                go_roundw
                case rel => exact ⟨i + 1, by omega, by go_num, by rw [unhide Hs]; exact hown.bw (by repeat (first | exact Bw.refl _ | assumption | refine Bw.drew ?_ | refine Bw.drewN ?_ _ | refine Bw.alloc ?_ _ | refine Bw.trans ?_ (by assumption))), (by repeat (first | exact Bw.refl _ | assumption | refine Bw.drew ?_ | refine Bw.drewN ?_ _ | refine Bw.alloc ?_ _ | refine Bw.trans ?_ (by assumption)))⟩
                case measure => simp [intOf]; omega
              | false =>
                have Hh := hide hh
                have Hs := hide ((unhide Hn) (by rw [unhide Hsk, k5, k2, hh]; rfl))
                clear hh Hy Hn Hsk
                go_wp2_with (go_at_call 134; refine (has_any l _ i _ _ _ hx2 (by omega) hll).mono ?_; rintro e w2 ⟨rfl, rfl⟩; rw [unhide Hh])
                go_quiet (fail)
                go_wp2_with fail
                go_region_law (first | (refine stepA rfl _ _ rfl w1 _ (refTo x l i) rfl (hown.bw (by repeat (first | exact Bw.refl _ | assumption | refine Bw.drew ?_ | refine Bw.drewN ?_ _ | refine Bw.alloc ?_ _ | refine Bw.trans ?_ (by assumption)))) _ _ [wrap64 (xv + addB x)] rfl (intsAt_one (by first | (simp; done) | (simp; exact wrap64_left _)) (by simp)) (by rw [List.length_singleton]; omega) (by repeat (first | exact Bw.refl _ | assumption | refine Bw.drew ?_ | refine Bw.drewN ?_ _ | refine Bw.alloc ?_ _ | refine Bw.trans ?_ (by assumption))) ?_; intro v' w4 ho4 hB4) | (go_simp; go_at_call 136; refine (addend_any x _).mono ?_; rintro e w3 ⟨rfl, hB3⟩; have d1 : w3.cell? ⟨b5, off5 + i, none⟩ = some (.int .i64 xv) := ((bcell hB3).1 _ _ (by simpa using hb5)).trans (by simpa using d0)))
                all_goals go_wp2_with fail
                all_goals go_roundw
                all_goals first | exact ⟨i + 1, by omega, by go_num, by rw [unhide Hs]; exact ho4, hB4⟩ | (simp [intOf]; omega)
            | false =>
              cases k2 : (x.kind == 2) with
              | true =>
                obtain ⟨b1, b2'⟩ := h2 (by simpa using k2)
                have b2 : x.k ≤ 1000 := by omega
                cases hr : (xv % x.k != x.m) with
                | true =>
                  have Hs := hide ((unhide Hy) (by rw [unhide Hsk, k5, k2, hr]; rfl))
                  clear Hy Hn Hsk
                  go_wp2_with (go_at_call 134; refine (has_any l _ i _ _ _ hx2 (by omega) hll).mono ?_; rintro e w2 ⟨rfl, rfl⟩)
                  go_quiet ((go_at_call 135; refine Calls.quiet_of_same (rrest_any _ _ _ b1 b2)))
                  go_wp2_with fail
                  go_roundw
                  case rel => exact ⟨i + 1, by omega, by go_num, by rw [unhide Hs]; exact hown.bw (by repeat (first | exact Bw.refl _ | assumption | refine Bw.drew ?_ | refine Bw.drewN ?_ _ | refine Bw.alloc ?_ _ | refine Bw.trans ?_ (by assumption))), (by repeat (first | exact Bw.refl _ | assumption | refine Bw.drew ?_ | refine Bw.drewN ?_ _ | refine Bw.alloc ?_ _ | refine Bw.trans ?_ (by assumption)))⟩
                  case measure => simp [intOf]; omega
                | false =>
                  have Hs := hide ((unhide Hn) (by rw [unhide Hsk, k5, k2, hr]; rfl))
                  clear Hy Hn Hsk
                  go_wp2_with (go_at_call 134; refine (has_any l _ i _ _ _ hx2 (by omega) hll).mono ?_; rintro e w2 ⟨rfl, rfl⟩)
                  go_quiet ((go_at_call 135; refine Calls.quiet_of_same (rrest_any _ _ _ b1 b2)))
                  go_wp2_with fail
                  go_region_law (first | (refine stepA rfl _ _ rfl w1 _ (refTo x l i) rfl (hown.bw (by repeat (first | exact Bw.refl _ | assumption | refine Bw.drew ?_ | refine Bw.drewN ?_ _ | refine Bw.alloc ?_ _ | refine Bw.trans ?_ (by assumption)))) _ _ [wrap64 (xv + addB x)] rfl (intsAt_one (by first | (simp; done) | (simp; exact wrap64_left _)) (by simp)) (by rw [List.length_singleton]; omega) (by repeat (first | exact Bw.refl _ | assumption | refine Bw.drew ?_ | refine Bw.drewN ?_ _ | refine Bw.alloc ?_ _ | refine Bw.trans ?_ (by assumption))) ?_; intro v' w4 ho4 hB4) | (go_simp; go_at_call 136; refine (addend_any x _).mono ?_; rintro e w3 ⟨rfl, hB3⟩; have d1 : w3.cell? ⟨b5, off5 + i, none⟩ = some (.int .i64 xv) := ((bcell hB3).1 _ _ (by simpa using hb5)).trans (by simpa using d0)))
                  all_goals go_wp2_with fail
                  all_goals go_roundw
                  all_goals first | exact ⟨i + 1, by omega, by go_num, by rw [unhide Hs]; exact ho4, hB4⟩ | (simp [intOf]; omega)
              | false =>
                have Hs := hide ((unhide Hn) (by rw [unhide Hsk, k5, k2]; rfl))
                clear Hy Hn Hsk
                go_wp2_with (go_at_call 134; refine (has_any l _ i _ _ _ hx2 (by omega) hll).mono ?_; rintro e w2 ⟨rfl, rfl⟩)
                go_quiet (fail)
                go_wp2_with fail
                go_region_law (first | (refine stepA rfl _ _ rfl w1 _ (refTo x l i) rfl (hown.bw (by repeat (first | exact Bw.refl _ | assumption | refine Bw.drew ?_ | refine Bw.drewN ?_ _ | refine Bw.alloc ?_ _ | refine Bw.trans ?_ (by assumption)))) _ _ [wrap64 (xv + addB x)] rfl (intsAt_one (by first | (simp; done) | (simp; exact wrap64_left _)) (by simp)) (by rw [List.length_singleton]; omega) (by repeat (first | exact Bw.refl _ | assumption | refine Bw.drew ?_ | refine Bw.drewN ?_ _ | refine Bw.alloc ?_ _ | refine Bw.trans ?_ (by assumption))) ?_; intro v' w4 ho4 hB4) | (go_simp; go_at_call 136; refine (addend_any x _).mono ?_; rintro e w3 ⟨rfl, hB3⟩; have d1 : w3.cell? ⟨b5, off5 + i, none⟩ = some (.int .i64 xv) := ((bcell hB3).1 _ _ (by simpa using hb5)).trans (by simpa using d0)))
                all_goals go_wp2_with fail
                all_goals go_roundw
                all_goals first | exact ⟨i + 1, by omega, by go_num, by rw [unhide Hs]; exact ho4, hB4⟩ | (simp [intOf]; omega)
          · have hkk : i = l.length := by omega
            subst hkk
            go_wp2_with fail
            go_ret
            exact ⟨_, rfl, by rw [unhide Hp2]; exact hown.weaken hBw, hBw.trans hB⟩
end Go.Proofs.Ytfemleimkbjehaa
