import Derived.Test.YtfemleimkbjehaaGreatJ43
import Derived.Test.YtfemleimkbjehaaGreatLW3
import Derived.Test.YtfemleimkbjehaaGreatJ21
namespace Go.Proofs.YtfemleimkbjehaaGreat
set_option linter.unusedVariables false
set_option linter.unusedSimpArgs false
open Go.RowKit

def viewA (ns : List Nd) (R W : Nat) (st : RSt) (w : Int) : List Pt := if isWk W w then vN (tabLog ns R W st.log st.told w.toNat st.log.length) R ns.length else []
theorem Inv.rel {ns : List Nd} {R W : Nat} {st : RSt} {k : Nat} (h : Inv ns R W st k) (h8 : ns.length ≤ 8) (hR : 1 ≤ R ∧ R ≤ 4) (i : Nat) : TabRel ns.length R (tabLog ns 4 W st.log st.told i st.log.length) (tabLog ns R W st.log st.told i st.log.length) := TabRel.log h8 hR (fun j hj => (h.cg j hj).1) _ (Nat.le_refl _)
theorem pviewR_eq {ns : List Nd} {R W : Nat} {st : RSt} {k : Nat} (h : Inv ns R W st k) (h8 : ns.length ≤ 8) (hR : 1 ≤ R ∧ R ≤ 4) (lim : Nat) (w : Int) : pviewR W (pstOf ns W st lim).tb w = viewA ns R W st w := by
  unfold pviewR viewA
  split
  · exact view_eq (h.rel h8 hR _) h8 hR.2
  · rfl
theorem viewA_len {ns : List Nd} {R W : Nat} (st : RSt) (w : Int) (h8 : ns.length ≤ 8) (hR : R ≤ 4) : (viewA ns R W st w).length ≤ 1000 := by
  unfold viewA
  split
  · have h1 := vN_len (tabLog ns R W st.log st.told w.toNat st.log.length) R ns.length
    have h2 : ns.length * (2 * (6 * R)) ≤ 8 * (2 * (6 * 4)) := Nat.mul_le_mul h8 (by omega)
    omega
  · simp
theorem dview {w : World} {K Sp Sr : Nat → Prop} {lb pb rb : Nat} {xp : PX} {xr : RX} {x : LX} {cnt : Int} {l : LL} {ns : List Nd} {R W : Nat} {st : RSt} {lim k : Nat} (ok oa ob oc oh : Int) (h : Duo w K Sp Sr lb pb rb xp xr x cnt l ns R W st lim k) (hk : k ≤ 200000) :
    Calls Tryz.prog 19 #[.pointer (some ⟨lb, 0, none⟩), .agg #[.int .i64 ok, .int .i64 oa, .int .i64 ob, .int .i64 oc, .int .i64 oh]] w fun e w' => e = .returned (.bool true) ∧ Duo.After w w' (uni K Sp Sr) lb ns R W (k + 1) := by
  have hi := h.inv
  have hkm := h.km
  have hct := h.ct
  obtain ⟨s1, s2, s3, s4, s5, s6⟩ := h.po.small
  have hlen := viewA_len (W := W) st oa s1 s2
  refine (lview_any ok oa ob oc oh (viewA ns R W st oa) (pviewE W oa) w h.lw (fun w' hb => ?_) (fun w' hb => ?_) (by omega) (by omega) ⟨hct.1, by omega⟩).mono ?_
  · refine (pView_any oa w' (h.po.bw hb)).mono ?_
    rintro e w'' ⟨v, rfl, ho, hb2⟩
    rw [pviewR_eq hi s1 ⟨s5, s2⟩] at ho
    exact ⟨v, rfl, ho, hb2⟩
  · cases hw : isWk W oa with
    | false =>
      refine (rview_bad oa w' (h.ro.bw hb).read hw).mono ?_
      rintro e w'' ⟨rfl, hb2⟩
      refine ⟨_, by unfold pviewE; rw [hw]; rfl, ?_, hb2⟩
      unfold viewA
      rw [hw]
      exact OwnP.nil _ _
    | true =>
      obtain ⟨i, rfl, hiW⟩ := isWk_iff.1 hw
      refine (rview_any i w' (h.ro.bw hb).read hiW s6 (fun j hj => ⟨(hi.cg j hj).1, by have := (hi.cg j hj).2; omega⟩)).mono ?_
      rintro e w'' ⟨v, rfl, ho, hb2⟩
      refine ⟨v, by unfold pviewE; rw [hw]; rfl, ?_, hb2⟩
      unfold viewA
      rw [hw, if_pos rfl, Int.toNat_natCast]
      exact ho
  · rintro e w' ⟨rfl, x', m', hL, hm, hC⟩
    exact ⟨rfl, h.looked hL hC ⟨by simp only; omega, by simp only; omega, by simp only; omega, by simp only; omega⟩⟩
theorem comTo_ok {ns : List Nd} {D : Nat → Nat → Int} {R L : Nat} {ps : List Pt} {y : Nat} (hok : ∀ p ∈ ps, PtOk L R p) : ∀ k, k ≤ ps.length → TmsOk R (comTo ns D R ps y k) := by
  intro k
  induction k with
  | zero => intro _ i hi; simp [comTo] at hi
  | succ k ih =>
    intro hk i hi
    by_cases hb : comB ns D R ps y k = true
    · rw [comTo_yes hb] at hi ⊢
      by_cases h1 : i < (comTo ns D R ps y k).length
      · have : tmn (comTo ns D R ps y k ++ [⟨(ptn ps k).epoch, comesI ns D (ptn ps k).node.toNat (ptn ps k).out (ptn ps k).round.toNat y⟩]) i = tmn (comTo ns D R ps y k) i := by simp [tmn, List.getD, List.getElem?_append_left h1]
        rw [this]
        exact ih (by omega) i h1
      · have h2 : i = (comTo ns D R ps y k).length := by simp at hi; omega
        subst h2
        have : tmn (comTo ns D R ps y k ++ [⟨(ptn ps k).epoch, comesI ns D (ptn ps k).node.toNat (ptn ps k).out (ptn ps k).round.toNat y⟩]) (comTo ns D R ps y k).length = ⟨(ptn ps k).epoch, comesI ns D (ptn ps k).node.toNat (ptn ps k).out (ptn ps k).round.toNat y⟩ := by simp [tmn, List.getD]
        rw [this]
        obtain ⟨n, e, s, q1, q2, q3, q4, q5, q6⟩ := hok _ (ptn_mem (show k < ps.length by omega))
        unfold comB at hb
        simp only [Bool.and_eq_true, decide_eq_true_eq] at hb
        exact ⟨e, (comesI ns D (ptn ps k).node.toNat (ptn ps k).out (ptn ps k).round.toNat y).toNat, q3, q4, by simp only; omega, by omega⟩
    · rw [comTo_no (by simpa using hb)] at hi ⊢
      exact ih (by omega) i hi
def frA (ns : List Nd) (R W : Nat) (st : RSt) (w n : Int) : List Tm := if placeB ns.length W w n then frE (comTo ns (farD ns) R (vN (tabLog ns R W st.log st.told w.toNat st.log.length) R ns.length) n.toNat (vN (tabLog ns R W st.log st.told w.toNat st.log.length) R ns.length).length) R 6 else []
theorem pfrR_eq {ns : List Nd} {R W : Nat} {st : RSt} {k : Nat} (h : Inv ns R W st k) (h8 : ns.length ≤ 8) (hR : 1 ≤ R ∧ R ≤ 4) (lim : Nat) (w n : Int) : pfrR ns R W (farD ns) (pstOf ns W st lim).tb w n = frA ns R W st w n := by
  unfold pfrR frA
  rw [place_eq]
  split
  · have hv : vN ((pstOf ns W st lim).tb w.toNat) 4 8 = vN (tabLog ns R W st.log st.told w.toNat st.log.length) R ns.length := view_eq (h.rel h8 hR _) h8 hR.2
    rw [hv]
    exact frontier_eq (comTo_ok (L := ns.length) (vN_ok _ R ns.length) _ (Nat.le_refl _)) hR.2 6
  · rfl
theorem frA_len {ns : List Nd} {R W : Nat} (st : RSt) (w n : Int) (hR : R ≤ 4) : (frA ns R W st w n).length ≤ 1000 := by
  unfold frA
  split
  · have := frE_len (comTo ns (farD ns) R (vN (tabLog ns R W st.log st.told w.toNat st.log.length) R ns.length) n.toNat (vN (tabLog ns R W st.log st.told w.toNat st.log.length) R ns.length).length) R 6
    omega
  · simp
theorem dfrontier {w : World} {K Sp Sr : Nat → Prop} {lb pb rb : Nat} {xp : PX} {xr : RX} {x : LX} {cnt : Int} {l : LL} {ns : List Nd} {R W : Nat} {st : RSt} {lim k : Nat} (ok oa ob oc oh : Int) (h : Duo w K Sp Sr lb pb rb xp xr x cnt l ns R W st lim k) (hk : k ≤ 200000) :
    Calls Tryz.prog 20 #[.pointer (some ⟨lb, 0, none⟩), .agg #[.int .i64 ok, .int .i64 oa, .int .i64 ob, .int .i64 oc, .int .i64 oh]] w fun e w' => e = .returned (.bool true) ∧ Duo.After w w' (uni K Sp Sr) lb ns R W (k + 1) := by
  have hi := h.inv
  have hkm := h.km
  have hct := h.ct
  obtain ⟨s1, s2, s3, s4, s5, s6⟩ := h.po.small
  have hlen := frA_len (W := W) (ns := ns) st oa ob s2
  have hD := fun a b => farD_bd ns s1 a b
  refine (lfrontier_any ok oa ob oc oh (frA ns R W st oa ob) (pwaitE ns.length W oa ob) w h.lw (fun w' hb => ?_) (fun w' hb => ?_) (by omega) (by omega) ⟨hct.1, by omega⟩).mono ?_
  · refine (pFrontier_any oa ob w' (h.po.bw hb) (fun a b => (hD a b).2) (fun a b => (hD a b).1) (fun i _ p hp => ?_)).mono ?_
    · have hv : vN ((pstOf ns W st lim).tb i) 4 8 = vN (tabLog ns R W st.log st.told i st.log.length) R ns.length := view_eq (hi.rel s1 ⟨s5, s2⟩ i) s1 s2
      rw [hv] at hp
      exact vN_ok _ R ns.length p hp
    · rintro e w'' ⟨v, rfl, ho, hb2⟩
      rw [pfrR_eq hi s1 ⟨s5, s2⟩] at ho
      exact ⟨v, rfl, ho, hb2⟩
  · cases hp : placeB ns.length W oa ob with
    | false =>
      refine (rfrontier_bad oa ob w' (h.ro.bw hb).read hp).mono ?_
      rintro e w'' ⟨rfl, hb2⟩
      refine ⟨_, by unfold pwaitE; rw [place_eq, hp]; rfl, ?_, hb2⟩
      unfold frA
      rw [hp]
      exact OwnT.nil _ _
    | true =>
      obtain ⟨⟨a1, a2⟩, a3, a4⟩ := placeB_iff.1 hp
      obtain ⟨i, rfl⟩ := Int.eq_ofNat_of_zero_le a1
      obtain ⟨m, rfl⟩ := Int.eq_ofNat_of_zero_le a3
      refine (rfrontier_any i m w' (h.ro.bw hb).read (by omega) (by omega) (fun j hj => ⟨(hi.cg j hj).1, by have := (hi.cg j hj).2; omega⟩) (fun a b => (hD a b).2)).mono ?_
      rintro e w'' ⟨v, rfl, ho, hb2⟩
      refine ⟨v, by unfold pwaitE; rw [place_eq, hp]; rfl, ?_, hb2⟩
      unfold frA
      rw [hp, if_pos rfl, Int.toNat_natCast, Int.toNat_natCast]
      exact ho
  · rintro e w' ⟨rfl, x', m', hL, hm, hC⟩
    exact ⟨rfl, h.looked hL hC ⟨by simp only; omega, by simp only; omega, by simp only; omega, by simp only; omega⟩⟩
end Go.Proofs.YtfemleimkbjehaaGreat
namespace Go.Proofs.YtfemleimkbjehaaGreat
set_option linter.unusedVariables false
set_option linter.unusedSimpArgs false
open Go.RowKit

theorem Duo.bw {w w' : World} {K Sp Sr : Nat → Prop} {lb pb rb : Nat} {xp : PX} {xr : RX} {x : LX} {cnt : Int} {l : LL} {ns : List Nd} {R W : Nat} {st : RSt} {lim k : Nat} (h : Duo w K Sp Sr lb pb rb xp xr x cnt l ns R W st lim k) (hb : Bw w w') : Duo w' K Sp Sr lb pb rb xp xr x cnt l ns R W st lim k :=
  ⟨h.lw.bw hb, h.po.bw hb, h.ro.bw hb, h.inv, h.kp, h.kr, h.pr, h.lm, h.ct, h.km⟩
theorem Duo.frame {w w' : World} {T : Nat → Prop} {K Sp Sr : Nat → Prop} {lb pb rb : Nat} {xp : PX} {xr : RX} {x : LX} {cnt : Int} {l : LL} {ns : List Nd} {R W : Nat} {st : RSt} {lim k : Nat} (h : Duo w K Sp Sr lb pb rb xp xr x cnt l ns R W st lim k) (hc : Chg T w w') (hd : ∀ b, uni K Sp Sr b → ¬ T b) : Duo w' K Sp Sr lb pb rb xp xr x cnt l ns R W st lim k :=
  ⟨h.lw.other hc fun b hb => hd b (.inl hb), h.po.other hc fun b hb => hd b (.inr (.inl hb)), h.ro.other hc fun b hb => hd b (.inr (.inr hb)), h.inv, h.kp, h.kr, h.pr, h.lm, h.ct, h.km⟩
theorem Duo.more {w : World} {K Sp Sr : Nat → Prop} {lb pb rb : Nat} {xp : PX} {xr : RX} {x : LX} {cnt : Int} {l : LL} {ns : List Nd} {R W : Nat} {st : RSt} {lim k : Nat} (h : Duo w K Sp Sr lb pb rb xp xr x cnt l ns R W st lim k) : Duo w K Sp Sr lb pb rb xp xr x cnt l ns R W st lim (k + 1) :=
  ⟨h.lw, h.po, h.ro, h.inv.more, h.kp, h.kr, h.pr, by have := h.lm; omega, ⟨h.ct.1, by have := h.ct.2; omega⟩, by have := h.km; omega⟩
theorem Duo.lt {w : World} {K Sp Sr : Nat → Prop} {lb pb rb : Nat} {xp : PX} {xr : RX} {x : LX} {cnt : Int} {l : LL} {ns : List Nd} {R W : Nat} {st : RSt} {lim k : Nat} (h : Duo w K Sp Sr lb pb rb xp xr x cnt l ns R W st lim k) : ∀ b, uni K Sp Sr b → b < w.heap.size := fun b hb => by
  rcases hb with hb | hb | hb
  · exact h.lw.klt b hb
  · exact h.po.slt b hb
  · exact h.ro.slt b hb
theorem Duo.After.ofBw {w w0 w' : World} {U : Nat → Prop} {lb : Nat} {ns : List Nd} {R W k : Nat} (hb : Bw w w0) (h : Duo.After w0 w' U lb ns R W k) : Duo.After w w' U lb ns R W k := by
  obtain ⟨K, Sp, Sr, pb, rb, xp, xr, x, cnt, l, st, lim, hD, hC, hU⟩ := h
  have hz := hb.size
  exact ⟨K, Sp, Sr, pb, rb, xp, xr, x, cnt, l, st, lim, hD, (Chg.bw (S := U) hb).trans hC (fun _ h => .inl h), fun b hb => (hU b hb).imp id fun h => by omega⟩

set_option maxRecDepth 100000 in
set_option maxHeartbeats 4000000 in
/-- One step of a script. -/
theorem dstep {w : World} {K Sp Sr : Nat → Prop} {lb pb rb : Nat} {xp : PX} {xr : RX} {x : LX} {cnt : Int} {l : LL} {ns : List Nd} {R W : Nat} {st : RSt} {lim k : Nat} (kd oa ob oc oh : Int) (h : Duo w K Sp Sr lb pb rb xp xr x cnt l ns R W st lim k) (h6 : ∀ k, k < ns.length → (ndn ns k).kind = 6 → 1 ≤ (ndn ns k).k ∧ (ndn ns k).k ≤ 8) (hk : k ≤ 200000) (hkd : kd ≤ 6) :
    Calls Tryz.prog 9 #[.pointer (some ⟨lb, 0, none⟩), .agg #[.int .i64 kd, .int .i64 oa, .int .i64 ob, .int .i64 oc, .int .i64 oh]] w fun e w' => e = .returned (.bool true) ∧ Duo.After w w' (uni K Sp Sr) lb ns R W (k + 1) := by
  have Hsame := hide (fun (w' : World) (hb : Bw w w') => (⟨K, Sp, Sr, pb, rb, xp, xr, x, cnt, l, st, lim, (h.bw hb).more, Chg.bw hb, fun _ h => .inl h⟩ : Duo.After w w' (uni K Sp Sr) lb ns R W (k + 1)))
  by_cases q1 : kd = 1
  · subst q1
    have H := hide (fun (w' : World) (hb : Bw w w') => dgive oa ob oc oh (h.bw hb) h6 hk)
    clear h h6
    go_enter Tryz.func9, Tryz.ntmps9
    go_wp2_with (go_at_call 17; refine ((unhide H) _ (by repeat (first | exact Bw.refl _ | assumption | refine Bw.drew ?_ | refine Bw.drewN ?_ _ | refine Bw.alloc ?_ _ | refine Bw.trans ?_ (by assumption)))).mono ?_; rintro e w1 ⟨rfl, hA⟩)
    go_ret
    exact ⟨rfl, hA.ofBw (by repeat (first | exact Bw.refl _ | assumption | refine Bw.drew ?_ | refine Bw.drewN ?_ _ | refine Bw.alloc ?_ _ | refine Bw.trans ?_ (by assumption)))⟩
  by_cases q2 : kd = 2
  · subst q2
    have H := hide (fun (w' : World) (hb : Bw w w') => dadvance oa ob oc oh (h.bw hb) hk)
    clear h h6
    go_enter Tryz.func9, Tryz.ntmps9
    go_wp2_with (go_at_call 17; refine ((unhide H) _ (by repeat (first | exact Bw.refl _ | assumption | refine Bw.drew ?_ | refine Bw.drewN ?_ _ | refine Bw.alloc ?_ _ | refine Bw.trans ?_ (by assumption)))).mono ?_; rintro e w1 ⟨rfl, hA⟩)
    go_ret
    exact ⟨rfl, hA.ofBw (by repeat (first | exact Bw.refl _ | assumption | refine Bw.drew ?_ | refine Bw.drewN ?_ _ | refine Bw.alloc ?_ _ | refine Bw.trans ?_ (by assumption)))⟩
  by_cases q3 : kd = 3
  · subst q3
    have H := hide (fun (w' : World) (hb : Bw w w') => dclose oa ob oc oh (h.bw hb) hk)
    clear h h6
    go_enter Tryz.func9, Tryz.ntmps9
    go_wp2_with (go_at_call 17; refine ((unhide H) _ (by repeat (first | exact Bw.refl _ | assumption | refine Bw.drew ?_ | refine Bw.drewN ?_ _ | refine Bw.alloc ?_ _ | refine Bw.trans ?_ (by assumption)))).mono ?_; rintro e w1 ⟨rfl, hA⟩)
    go_ret
    exact ⟨rfl, hA.ofBw (by repeat (first | exact Bw.refl _ | assumption | refine Bw.drew ?_ | refine Bw.drewN ?_ _ | refine Bw.alloc ?_ _ | refine Bw.trans ?_ (by assumption)))⟩
  by_cases q4 : kd = 4
  · subst q4
    have H := hide (fun (w' : World) (hb : Bw w w') => dwaiting 4 oa ob oc oh (h.bw hb) hk)
    clear h h6
    go_enter Tryz.func9, Tryz.ntmps9
    go_wp2_with (go_at_call 18; refine ((unhide H) _ (by repeat (first | exact Bw.refl _ | assumption | refine Bw.drew ?_ | refine Bw.drewN ?_ _ | refine Bw.alloc ?_ _ | refine Bw.trans ?_ (by assumption)))).mono ?_; rintro e w1 ⟨rfl, hA⟩)
    go_ret
    exact ⟨rfl, hA.ofBw (by repeat (first | exact Bw.refl _ | assumption | refine Bw.drew ?_ | refine Bw.drewN ?_ _ | refine Bw.alloc ?_ _ | refine Bw.trans ?_ (by assumption)))⟩
  by_cases q5 : kd = 5
  · subst q5
    have H := hide (fun (w' : World) (hb : Bw w w') => dview 5 oa ob oc oh (h.bw hb) hk)
    clear h h6
    go_enter Tryz.func9, Tryz.ntmps9
    go_wp2_with (go_at_call 19; refine ((unhide H) _ (by repeat (first | exact Bw.refl _ | assumption | refine Bw.drew ?_ | refine Bw.drewN ?_ _ | refine Bw.alloc ?_ _ | refine Bw.trans ?_ (by assumption)))).mono ?_; rintro e w1 ⟨rfl, hA⟩)
    go_ret
    exact ⟨rfl, hA.ofBw (by repeat (first | exact Bw.refl _ | assumption | refine Bw.drew ?_ | refine Bw.drewN ?_ _ | refine Bw.alloc ?_ _ | refine Bw.trans ?_ (by assumption)))⟩
  by_cases q6 : kd = 6
  · subst q6
    have H := hide (fun (w' : World) (hb : Bw w w') => dfrontier 6 oa ob oc oh (h.bw hb) hk)
    clear h h6
    go_enter Tryz.func9, Tryz.ntmps9
    go_wp2_with (go_at_call 20; refine ((unhide H) _ (by repeat (first | exact Bw.refl _ | assumption | refine Bw.drew ?_ | refine Bw.drewN ?_ _ | refine Bw.alloc ?_ _ | refine Bw.trans ?_ (by assumption)))).mono ?_; rintro e w1 ⟨rfl, hA⟩)
    go_ret
    exact ⟨rfl, hA.ofBw (by repeat (first | exact Bw.refl _ | assumption | refine Bw.drew ?_ | refine Bw.drewN ?_ _ | refine Bw.alloc ?_ _ | refine Bw.trans ?_ (by assumption)))⟩
  have z1 : (kd == 1) = false := by simpa using q1
  have z2 : (kd == 2) = false := by simpa using q2
  have z3 : (kd == 3) = false := by simpa using q3
  have z4 : (kd == 4) = false := by simpa using q4
  have z5 : (kd == 5) = false := by simpa using q5
  have z6 : (kd == 6) = false := by simpa using q6
  have z7 : (kd == 7) = false := by simp; omega
  have z8 : (kd == 8) = false := by simp; omega
  have z9 : (kd == 9) = false := by simp; omega
  clear h h6 q1 q2 q3 q4 q5 q6
  go_enter Tryz.func9, Tryz.ntmps9
  go_wp2_with fail
  go_ret
  exact ⟨rfl, (unhide Hsame) _ (by repeat (first | exact Bw.refl _ | assumption | refine Bw.drew ?_ | refine Bw.drewN ?_ _ | refine Bw.alloc ?_ _ | refine Bw.trans ?_ (by assumption)))⟩
end Go.Proofs.YtfemleimkbjehaaGreat
namespace Go.Proofs.YtfemleimkbjehaaGreat
set_option linter.unusedVariables false
set_option linter.unusedSimpArgs false
open Go.RowKit

theorem Duo.After.trans {w wr w1 : World} {U V : Nat → Prop} {lb : Nat} {ns : List Nd} {R W k : Nat} (hC : Chg U w wr) (hV : ∀ b, V b → U b ∨ w.heap.size ≤ b) (h : Duo.After wr w1 V lb ns R W k) : Duo.After w w1 U lb ns R W k := by
  obtain ⟨K, Sp, Sr, pb, rb, xp, xr, x, cnt, l, st, lim, hD, hC2, hU⟩ := h
  have hz := hC.size
  exact ⟨K, Sp, Sr, pb, rb, xp, xr, x, cnt, l, st, lim, hD, hC.trans hC2 hV, fun b hb => by
    rcases hU b hb with h1 | h1
    · exact hV b h1
    · exact .inr (by omega)⟩
theorem Duo.After.bw {w wr w1 : World} {U : Nat → Prop} {lb : Nat} {ns : List Nd} {R W k : Nat} (h : Duo.After w wr U lb ns R W k) (hb : Bw wr w1) : Duo.After w w1 U lb ns R W k := by
  obtain ⟨K, Sp, Sr, pb, rb, xp, xr, x, cnt, l, st, lim, hD, hC2, hU⟩ := h
  exact ⟨K, Sp, Sr, pb, rb, xp, xr, x, cnt, l, st, lim, hD.bw hb, hC2.trans (Chg.bw (S := U) hb) (fun _ h => .inl h), hU⟩

set_option maxRecDepth 100000 in
set_option maxHeartbeats 4000000 in
/-- At the end: what waits at every node of every worker, and every view. -/
theorem dends {w : World} {K Sp Sr : Nat → Prop} {lb pb rb : Nat} {xp : PX} {xr : RX} {x : LX} {cnt : Int} {l : LL} {ns : List Nd} {R W : Nat} {st : RSt} {lim k : Nat} (h : Duo w K Sp Sr lb pb rb xp xr x cnt l ns R W st lim k) (hk : k + 40 ≤ 200000) :
    Calls Tryz.prog 11 #[.pointer (some ⟨lb, 0, none⟩), .bool false] w fun e w' => e = .returned (.bool true) ∧ Duo.After w w' (uni K Sp Sr) lb ns R W (k + W * (ns.length + 1)) := by
  obtain ⟨s1, s2, s3, s4, s5, s6⟩ := h.po.small
  have H0 : Hid (Duo.After w w (uni K Sp Sr) lb ns R W (k + 0 * (ns.length + 1))) := hide ⟨K, Sp, Sr, pb, rb, xp, xr, x, cnt, l, st, lim, by rw [Nat.zero_mul]; exact h, Chg.refl _ _, fun _ h => .inl h⟩
  obtain ⟨U, hU⟩ : ∃ U, uni K Sp Sr = U := ⟨_, rfl⟩
  rw [hU] at H0
  rw [hU]
  clear h hU
  go_enter Tryz.func11, Tryz.ntmps11
  go_wp2_with fail
  go_loopw [6] (fun i wr => ∃ a : Nat, a ≤ W ∧ i = .int .i64 a ∧ Duo.After w wr U lb ns R W (k + a * (ns.length + 1))) (fun i _ => W - (intOf i).toNat)
  case atStart => exact ⟨0, Nat.zero_le _, rfl, unhide H0⟩
  case round =>
    clear H0
    obtain ⟨a, ha, rfl, K1, Sp1, Sr1, pb1, rb1, xp1, xr1, x1, cnt1, l1, st1, lim1, hD, hC, hU1⟩ := hrel
    rename World => wr
    have c1 := cell_of_block (o := 1) hD.lw.root rfl
    have cl := (Array.getElem?_eq_some_iff.1 hD.lw.root).1
    have c2 := hD.ro.read.c2
    have rl := hD.ro.read.lt
    by_cases hlt : a < W
    · have ha1 : (a : Int) < (W : Int) := by omega
      have hkb : a * (ns.length + 1) ≤ 3 * 9 := Nat.mul_le_mul (by omega) (by omega)
      have Hv := hide (fun (w' : World) (hb : Bw wr w') => dview 0 a 0 0 0 (hD.bw hb) (by omega))
      have HC := hide hC
      have HU1 := hide hU1
      clear hD hC hU1
      go_wp2_with (go_at_call 19; refine ((unhide Hv) _ (by repeat (first | exact Bw.refl _ | assumption | refine Bw.drew ?_ | refine Bw.drewN ?_ _ | refine Bw.alloc ?_ _ | refine Bw.trans ?_ (by assumption)))).mono ?_; rintro e w1 ⟨rfl, hA⟩)
      have HA := hide (show Duo.After w w1 U lb ns R W (k + a * (ns.length + 1) + 1 + 0) from (hA.ofBw (by repeat (first | exact Bw.refl _ | assumption | refine Bw.drew ?_ | refine Bw.drewN ?_ _ | refine Bw.alloc ?_ _ | refine Bw.trans ?_ (by assumption)))).trans (unhide HC) (unhide HU1))
      clear hA c1 cl c2 rl
      go_loopw [8] (fun j wi => ∃ b : Nat, b ≤ ns.length ∧ j = .int .i64 b ∧ Duo.After w wi U lb ns R W (k + a * (ns.length + 1) + 1 + b)) (fun j _ => ns.length - (intOf j).toNat)
      case atStart => exact ⟨0, Nat.zero_le _, rfl, unhide HA⟩
      case round =>
        clear HA
        obtain ⟨b, hb, rfl, K2, Sp2, Sr2, pb2, rb2, xp2, xr2, x2, cnt2, l2, st2, lim2, hD, hC, hU2⟩ := hrel
        rename World => wi
        have c1 := cell_of_block (o := 1) hD.lw.root rfl
        have cl := (Array.getElem?_eq_some_iff.1 hD.lw.root).1
        have c0 := hD.ro.read.c0
        have rl := hD.ro.read.lt
        by_cases hlt2 : b < ns.length
        · have hb1 : (b : Int) < (ns.length : Int) := by omega
          have Hw := hide (fun (w' : World) (hb : Bw wi w') => dwaiting 0 a b 0 0 (hD.bw hb) (by omega))
          have HC := hide hC
          have HU2 := hide hU2
          clear hD hC hU2
          go_wp2_with (go_at_call 18; refine ((unhide Hw) _ (by repeat (first | exact Bw.refl _ | assumption | refine Bw.drew ?_ | refine Bw.drewN ?_ _ | refine Bw.alloc ?_ _ | refine Bw.trans ?_ (by assumption)))).mono ?_; rintro e w2 ⟨rfl, hA⟩)
          go_roundw
          case rel => exact ⟨b + 1, by omega, by go_num, (hA.ofBw (by repeat (first | exact Bw.refl _ | assumption | refine Bw.drew ?_ | refine Bw.drewN ?_ _ | refine Bw.alloc ?_ _ | refine Bw.trans ?_ (by assumption)))).trans (unhide HC) (unhide HU2)⟩
          case measure => simp [intOf]; omega
        · have hbb : b = ns.length := by omega
          have HA := hide (show Duo.After w wi U lb ns R W (k + (a + 1) * (ns.length + 1)) from by
            rw [show k + (a + 1) * (ns.length + 1) = k + a * (ns.length + 1) + 1 + b by rw [hbb, Nat.add_mul]; omega]
            exact ⟨K2, Sp2, Sr2, pb2, rb2, xp2, xr2, x2, cnt2, l2, st2, lim2, hD, hC, hU2⟩)
          subst hbb
          clear hD hC hU2
          go_wp2_with fail
          go_roundw
          case rel => exact ⟨a + 1, by omega, by go_num, unhide HA⟩
          case measure => simp [intOf]; omega
    · have haa : a = W := by omega
      have HA := hide (show Duo.After w wr U lb ns R W (k + W * (ns.length + 1)) from by
        rw [show k + W * (ns.length + 1) = k + a * (ns.length + 1) by rw [haa]]
        exact ⟨K1, Sp1, Sr1, pb1, rb1, xp1, xr1, x1, cnt1, l1, st1, lim1, hD, hC, hU1⟩)
      have hn1 : ¬ (a : Int) < (W : Int) := by omega
      clear hD hC hU1 haa
      go_wp2_with fail
      go_ret
      exact ⟨rfl, unhide HA⟩
end Go.Proofs.YtfemleimkbjehaaGreat
namespace Go.Proofs.YtfemleimkbjehaaGreat
set_option linter.unusedVariables false
set_option linter.unusedSimpArgs false
open Go.RowKit

set_option maxRecDepth 100000 in
set_option maxHeartbeats 4000000 in
theorem lbegin_bad (ns : List Nd) (ga : Option Addr) (gc : Nat) (r wk : Int) (w : World) (hn : NodesAt w ga ns) (hl : ns.length * 40 ≤ 140737488351232) (hE : newE ns r wk ≠ 0) :
    Calls Tryz.prog 8 #[.agg #[.slice ga ns.length gc, .int .i64 r], .int .i64 wk] w fun e w' => e = .returned (.tuple #[.pointer none, .bool true]) ∧ Bw w w' := by
  have hml : ns.length ≤ maxLen := by unfold maxLen; omega
  go_enter Tryz.func8, Tryz.ntmps8
  go_wp2_with fail
  refine (handed_any ns _ _ _ _ (hn.below (by repeat (first | exact Bw.refl _ | assumption | refine Bw.drew ?_ | refine Bw.drewN ?_ _ | refine Bw.alloc ?_ _ | refine Bw.trans ?_ (by assumption)))) hl).mono ?_
  rintro e w1 ⟨g0, rfl, hg0, hh, hb1⟩
  obtain ⟨q1, q2⟩ := bcell hb1
  have hz1 : w.heap.size < w1.heap.size := (by have := hb1.size; (try simp at this); omega)
  go_wp2_with fail
  refine (pnew_bad ns _ _ _ _ _ (hh.at.below (by repeat (first | exact Bw.refl _ | assumption | refine Bw.drew ?_ | refine Bw.drewN ?_ _ | refine Bw.alloc ?_ _ | refine Bw.trans ?_ (by assumption)))) hml hE).mono ?_
  rintro e w2 ⟨rfl, hb2⟩
  obtain ⟨q3, q4⟩ := bcell hb2
  have hz2 : w1.heap.size < w2.heap.size := (by have := hb2.size; (try simp at this); omega)
  go_wp2_with fail
  refine (still_any ns _ g0 _ _ _ w w2 hn (by repeat (first | exact Bw.refl _ | assumption | refine Bw.drew ?_ | refine Bw.drewN ?_ _ | refine Bw.alloc ?_ _ | refine Bw.trans ?_ (by assumption))) (by have := hg0; simp at this; omega) (hh.keep (by repeat (first | exact Bw.refl _ | assumption | refine Bw.drew ?_ | refine Bw.drewN ?_ _ | refine Bw.alloc ?_ _ | refine Bw.trans ?_ (by assumption)))) hl).mono ?_
  rintro e w3 ⟨rfl, hK⟩
  have hB3 : Bw (w.alloc (.cells #[.slice ga ns.length gc, .int .i64 r] 24)) w3 := Bw.kp (a := w2) (by repeat (first | exact Bw.refl _ | assumption | refine Bw.drew ?_ | refine Bw.drewN ?_ _ | refine Bw.alloc ?_ _ | refine Bw.trans ?_ (by assumption))) hg0 hK
  clear q1 q2 q3 q4 hz1 hz2 hK hb1 hb2 hh hg0
  obtain ⟨q1, q2⟩ := bcell hB3
  have hz1 : w.heap.size < w3.heap.size := (by have := hB3.size; (try simp at this); omega)
  go_wp2_with fail
  refine (rnew_bad ns _ _ _ _ _ (hn.below (by repeat (first | exact Bw.refl _ | assumption | refine Bw.drew ?_ | refine Bw.drewN ?_ _ | refine Bw.alloc ?_ _ | refine Bw.trans ?_ (by assumption)))) hml hE).mono ?_
  rintro e w4 ⟨rfl, hb4⟩
  go_wp2_with (go_at_call 16; refine (num_any _ _).mono ?_; rintro e w' ⟨rfl, rfl⟩)
  go_ret2
  exact ⟨rfl, (by repeat (first | exact Bw.refl _ | assumption | refine Bw.drew ?_ | refine Bw.drewN ?_ _ | refine Bw.alloc ?_ _ | refine Bw.trans ?_ (by assumption)))⟩

set_option maxRecDepth 100000 in
set_option maxHeartbeats 4000000 in
theorem lbegin_ok (ns : List Nd) (ga : Option Addr) (gc : Nat) (R W : Nat) (w : World) (hn : NodesAt w ga ns) (hE : checkE ns R = 0) (h1 : 1 ≤ ns.length) (h8 : ns.length ≤ 8) (hW1 : 1 ≤ W) (hW4 : W ≤ 4) (hR1 : 1 ≤ R) (hR4 : R ≤ 4) :
    Calls Tryz.prog 8 #[.agg #[.slice ga ns.length gc, .int .i64 (R : Int)], .int .i64 (W : Int)] w fun e w' => ∃ lb pb rb xp xr x Sp Sr K, e = .returned (.tuple #[.pointer (some ⟨lb, 0, none⟩), .bool true]) ∧ LW w' K lb pb rb x 0 ⟨[], [], [], []⟩ ∧ POwn w' Sp pb xp ns R W (farD ns) (pst0 (begT ns W)) ∧ ROwn w' Sr rb xr ns R W (farD ns) rst0 ∧ (∀ b, K b → ¬ Sp b ∧ ¬ Sr b ∧ w.heap.size ≤ b) ∧ (∀ b, Sp b → ¬ Sr b ∧ w.heap.size ≤ b) ∧ (∀ b, Sr b → w.heap.size ≤ b) ∧ Bw w w' := by
  have hl : ns.length * 40 ≤ 140737488351232 := by omega
  have hrE : refE ns R = 0 := by rw [refE_checkE]; exact hE
  go_enter Tryz.func8, Tryz.ntmps8
  go_wp2_with fail
  refine (handed_any ns _ _ _ _ (hn.below (by repeat (first | exact Bw.refl _ | assumption | refine Bw.drew ?_ | refine Bw.drewN ?_ _ | refine Bw.alloc ?_ _ | refine Bw.trans ?_ (by assumption)))) hl).mono ?_
  rintro e w1 ⟨g0, rfl, hg0, hh, hb1⟩
  obtain ⟨q1, q2⟩ := bcell hb1
  have hz1 : w.heap.size < w1.heap.size := (by have := hb1.size; (try simp at this); omega)
  go_wp2_with fail
  refine (pnew_ok ns _ _ _ _ _ (hh.at.below (by repeat (first | exact Bw.refl _ | assumption | refine Bw.drew ?_ | refine Bw.drewN ?_ _ | refine Bw.alloc ?_ _ | refine Bw.trans ?_ (by assumption)))) hE h1 h8 hW1 hW4 hR1 hR4).mono ?_
  rintro e w2 ⟨pb, xp, rfl, hP, hb2⟩
  obtain ⟨q3, q4⟩ := bcell hb2
  have hz2 : w1.heap.size < w2.heap.size := (by have := hb2.size; (try simp at this); omega)
  go_wp2_with fail
  refine (still_any ns _ g0 _ _ _ w w2 hn (by repeat (first | exact Bw.refl _ | assumption | refine Bw.drew ?_ | refine Bw.drewN ?_ _ | refine Bw.alloc ?_ _ | refine Bw.trans ?_ (by assumption))) (by have := hg0; simp at this; omega) (hh.keep (by repeat (first | exact Bw.refl _ | assumption | refine Bw.drew ?_ | refine Bw.drewN ?_ _ | refine Bw.alloc ?_ _ | refine Bw.trans ?_ (by assumption)))) hl).mono ?_
  rintro e w3 ⟨rfl, hK⟩
  have hB3 : Bw (w.alloc (.cells #[.slice ga ns.length gc, .int .i64 (R : Int)] 24)) w3 := Bw.kp (a := w2) (by repeat (first | exact Bw.refl _ | assumption | refine Bw.drew ?_ | refine Bw.drewN ?_ _ | refine Bw.alloc ?_ _ | refine Bw.trans ?_ (by assumption))) hg0 hK
  have hgl := hh.lt
  have hP3 := hide (hP.frame hK.size (fun b hb hlt => hK.block b hlt (fun e => by simp only [Option.some.injEq] at e; have h1 := hb.1; simp at h1; omega)))
  have hz3 := hK.size
  have hgt : w1.heap.size + 1 ≤ w2.heap.size := hz2
  clear q1 q2 q3 q4 hz2 hK hb1 hb2 hh hg0 hP
  obtain ⟨q1, q2⟩ := bcell hB3
  have hz4 : w.heap.size < w3.heap.size := (by have := hB3.size; (try simp at this); omega)
  go_wp2_with fail
  refine (rnew_ok ns _ _ _ _ _ (hn.below (by repeat (first | exact Bw.refl _ | assumption | refine Bw.drew ?_ | refine Bw.drewN ?_ _ | refine Bw.alloc ?_ _ | refine Bw.trans ?_ (by assumption)))) hrE h1 h8 hR1 hR4 hW1 hW4).mono ?_
  rintro e w4 ⟨rb, xr, rfl, hR', hb4⟩
  have HR := hide hR'
  clear hR'
  go_wp2_with (go_at_call 16; refine (num_any _ _).mono ?_; rintro e w' ⟨rfl, rfl⟩)
  go_ret2
  have hb4' := hb4.size
  have hBF : Bw w' (w'.alloc (.cells #[.pointer (some ⟨pb, 0, none⟩), .pointer (some ⟨rb, 0, none⟩), .int .i64 0, .slice none 0 0, .slice none 0 0, .slice none 0 0, .slice none 0 0] 42)) := (by repeat (first | exact Bw.refl _ | assumption | refine Bw.drew ?_ | refine Bw.drewN ?_ _ | refine Bw.alloc ?_ _ | refine Bw.trans ?_ (by assumption)))
  have nl : ∀ {K : Nat → Prop} {w : World} {ty : TypeId} {sz : Nat}, OwnsIn K w ty sz (.slice none 0 0) 0 [] := ⟨World.ownsRow_nil _ _ _ _, by simp [Value.ownBlock]⟩
  have ne : ∀ {K : Nat → Prop} {w : World} {ty : TypeId} {X : Int → List Value} {sz : Nat}, EntsOk w K ty X sz [] := fun i hi => absurd hi (Nat.not_lt_zero i)
  refine ⟨w'.heap.size, pb, rb, xp, xr, ⟨.slice none 0 0, .slice none 0 0, .slice none 0 0, .slice none 0 0⟩, _, _, fun b => b = w'.heap.size, rfl, ?_, ((unhide hP3).bw hb4).bw hBF, (unhide HR).bw hBF, fun b hb => ?_, fun b hb => ?_, fun b hb => ?_, ?_⟩
  · exact ⟨heap_alloc_new w' _, rfl, fun b hb => by rw [hb]; simp, nl, nl, nl, nl, ne, ne, ne, ne, by simp⟩
  · refine ⟨fun h => ?_, fun h => ?_, ?_⟩
    · have := h.2; omega
    · have := h.2; omega
    · omega
  · refine ⟨fun h => ?_, ?_⟩
    · have h1 := h.1; have h2 := hb.2; omega
    · have h1 := hb.1; simp at h1; omega
  · have := hb.1; omega
  · exact (show Bw w w' from (by repeat (first | exact Bw.refl _ | assumption | refine Bw.drew ?_ | refine Bw.drewN ?_ _ | refine Bw.alloc ?_ _ | refine Bw.trans ?_ (by assumption)))).trans hBF
end Go.Proofs.YtfemleimkbjehaaGreat
