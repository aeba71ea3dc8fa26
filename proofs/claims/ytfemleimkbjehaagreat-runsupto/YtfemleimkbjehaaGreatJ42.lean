import Derived.Test.YtfemleimkbjehaaGreatJ38
import Derived.Test.YtfemleimkbjehaaGreatJ39
import Derived.Test.YtfemleimkbjehaaGreatAcH
import Derived.Test.YtfemleimkbjehaaGreatJ23
import Derived.Test.YtfemleimkbjehaaGreatJ11
set_option maxRecDepth 1000000
set_option maxHeartbeats 40000000
set_option linter.unusedVariables false
set_option linter.unusedSimpArgs false
namespace Go.Proofs.YtfemleimkbjehaaGreat
open Go.RowKit
theorem frA_len100 {ns : List Nd} {R W : Nat} (st : RSt) (w n : Int) (hR : R ≤ 4) : (frA ns R W st w n).length ≤ 100 := by
  unfold frA
  split
  · have := frE_len (jB ns (zU ns) R (vN (qD ns R W st.log st.told w.toNat st.log.length) R ns.length) n.toNat (vN (qD ns R W st.log st.told w.toNat st.log.length) R ns.length).length) R 6
    omega
  · simp
def frsA (ns : List Nd) (R W : Nat) (st : RSt) : Nat → Nat → List Tm := fun a b => frA ns R W st a b
def actL (ns : List Nd) (R W : Nat) (st : RSt) : List Ev := acts ns R W st (frsA ns R W st) W
theorem Duo.actL_eq {w : World} {K Sp Sr : Nat → Prop} {lb pb rb : Nat} {xp : PX} {xr : RX} {x : LX} {cnt : Int} {l : LL} {ns : List Nd} {R W : Nat} {st : RSt} {lim : PSt} {k : Nat} (h : Duo w K Sp Sr lb pb rb xp xr x cnt l ns R W st lim k) : kR ns.length W lim (frsA ns R W st) W = actL ns R W st := pacts_eq h.lm h.inv h.po.small.2.1 W (Nat.le_refl _)
theorem Duo.frOk {w : World} {K Sp Sr : Nat → Prop} {lb pb rb : Nat} {xp : PX} {xr : RX} {x : LX} {cnt : Int} {l : LL} {ns : List Nd} {R W : Nat} {st : RSt} {lim : PSt} {k : Nat} (h : Duo w K Sp Sr lb pb rb xp xr x cnt l ns R W st lim k) : FrOk Sp pb xp ns R W (zU ns) lim (frsA ns R W st) := by
  obtain ⟨s1, s2, s3, s4, s5, s6⟩ := h.po.small
  have hi := h.inv
  have hPI := h.lm.pinv hi s1 s2
  have hD := fun a b => farD_bd ns s1 a b
  refine ⟨fun i n => frA_len100 st i n s2, fun i n q _ _ hq => hPI.wn i n q hq, fun i n hiW hn w' hO => ?_⟩
  refine (pfront_any (i : Int) (n : Int) w' hO (fun a b => (hD a b).2) (fun a b => (hD a b).1) (fun i hiW p hp => ?_)).mono ?_
  · have hv : vN (lim.tb i) 4 8 = vN (qD ns R W st.log st.told i st.log.length) R ns.length := by
      rw [h.lm.tb i hiW]
      exact view_eq (hi.rel s1 ⟨s5, s2⟩ i) s1 s2
    rw [hv] at hp
    exact vN_ok _ R ns.length p hp
  · rintro e w'' ⟨v, rfl, ho, hb2⟩
    rw [pfrR_eq hi s1 ⟨s5, s2⟩ h.lm] at ho
    refine ⟨v, ?_, ho, hb2⟩
    have : zJ ns.length W (i : Int) (n : Int) = true := placeB_iff.2 ⟨⟨by omega, by omega⟩, by omega, by omega⟩
    unfold vC
    rw [place_eq, this]
    rfl
theorem Duo.racts {w : World} {K Sp Sr : Nat → Prop} {lb pb rb : Nat} {xp : PX} {xr : RX} {x : LX} {cnt : Int} {l : LL} {ns : List Nd} {R W : Nat} {st : RSt} {lim : PSt} {k : Nat} (h : Duo w K Sp Sr lb pb rb xp xr x cnt l ns R W st lim k) (hk : k ≤ 200000) (w' : World) (hO : ROwn w' Sr rb xr ns R W (zU ns) st) : Calls Tryz.prog 23 #[.pointer (some ⟨rb, 0, none⟩)] w' fun e w'' => ∃ v, e = .returned v ∧ OwnE w' w'' v (actL ns R W st) ∧ Bw w' w'' := by
  obtain ⟨s1, s2, s3, s4, s5, s6⟩ := h.po.small
  have hi := h.inv
  have hml := hi.ml
  have hD := fun a b => farD_bd ns s1 a b
  refine ractions_any (frsA ns R W st) w' hO.read (by omega) (fun a b => frA_len100 st a b s2) (fun a b ha hb w2 hR => ?_)
  refine (rfrontier_any a b w2 hR ha hb (fun j hj => ⟨(hi.cg j hj).1, by have := (hi.cg j hj).2; omega⟩) (fun a b => (hD a b).2)).mono ?_
  rintro e w3 ⟨v, rfl, ho, hb3⟩
  refine ⟨v, rfl, ?_, hb3⟩
  have : zJ ns.length W (a : Int) (b : Int) = true := placeB_iff.2 ⟨⟨by omega, by omega⟩, by omega, by omega⟩
  unfold frsA frA
  rw [this, if_pos rfl, Int.toNat_natCast, Int.toNat_natCast]
  exact ho
def doR (ns : List Nd) (R W : Nat) (st : RSt) (k : Int) : RSt := if actB (actL ns R W st) k then doS ns R W st (yV (actL ns R W st) k) else st
theorem Duo.rdo {w : World} {K Sp Sr : Nat → Prop} {lb pb rb : Nat} {xp : PX} {xr : RX} {x : LX} {cnt : Int} {l : LL} {ns : List Nd} {R W : Nat} {st : RSt} {lim : PSt} {k : Nat} (h : Duo w K Sp Sr lb pb rb xp xr x cnt l ns R W st lim k) (hko : ∀ n, n < ns.length → vD (qT ns n)) (hk : k ≤ 200000) (kk : Int) (w' : World) (hO : ROwn w' Sr rb xr ns R W (zU ns) st) : Calls Tryz.prog 48 #[.pointer (some ⟨rb, 0, none⟩), .int .i64 kk] w' fun e w'' => e = .returned (.tuple #[Ev.val (yV (actL ns R W st) kk), .int .i64 (doE (actL ns R W st) kk)]) ∧ ROwn.After w' w'' Sr rb ns R W (zU ns) (doR ns R W st kk) := by
  obtain ⟨s1, s2, s3, s4, s5, s6⟩ := h.po.small
  have hi := h.inv
  have hml := hi.ml
  have hev := hi.ev
  have hlg := hi.lg
  have hact : ∀ w2, Bw w' w2 → Calls Tryz.prog 23 #[.pointer (some ⟨rb, 0, none⟩)] w2 fun en w3 => ∃ v, en = .returned v ∧ OwnE w2 w3 v (actL ns R W st) ∧ Bw w2 w3 := fun w2 hb => h.racts hk w2 (hO.bw hb)
  have h6 : ∀ n, n < ns.length → (qT ns n).kind = 6 → 1 ≤ (qT ns n).k ∧ (qT ns n).k ≤ 8 := fun n hn => (hko n hn).2.1
  have h2 : ∀ n, n < ns.length → (qT ns n).kind = 2 → 1 ≤ (qT ns n).k ∧ (qT ns n).k ≤ 100 := fun n hn => (hko n hn).2.2
  unfold doE doR
  cases hb : actB (actL ns R W st) kk with
  | false =>
    rw [actA_none hb]
    have h1 := of_decide_eq_false hb
    exact rdo_none kk w' hO hact (by omega)
  | true =>
    have h1 := of_decide_eq_true hb
    obtain ⟨kn, rfl⟩ := Int.eq_ofNat_of_zero_le h1.1
    have hkl : kn < (actL ns R W st).length := by omega
    have hA : zH (actL ns R W st) kn = yV (actL ns R W st) (kn : Int) := by unfold yV; rw [if_pos h1, Int.toNat_natCast]
    have hm := actB_mem hb
    rw [← h.actL_eq] at hm
    rw [if_pos rfl, if_pos rfl]
    rcases pacts_mem W (Nat.le_refl _) hm with ⟨a, n, i, ha, hn, hil, hy⟩ | ⟨a, n, e, s, ha, hn, he, hs, hw, _, hy⟩ | ⟨a, y, ha, hx, hl, hy⟩
    · obtain ⟨z, e, s, v, hzl, hil2, hz, hmv, he, hs, hv1, hv2, h0, _, _⟩ := h.lm.mail hi hil
      rw [hmv] at hy
      simp only at hy
      rw [h.actL_eq] at hy
      rw [hy] at hA
      rw [hy]
      exact rdo_work (kn : Int) w' hO hact kn rfl hkl a n i e s z v hn (by omega) hil2 hz (by omega) (by omega) h6 h2 (by omega) hA
    · rw [h.lm.wnOf a n e s he hs] at hw
      simp only [Bool.and_eq_true, beq_iff_eq, Bool.not_eq_true', beq_eq_false_iff_ne] at hw
      obtain ⟨k1, k8⟩ := h6 n hn hw.1
      rw [h.actL_eq] at hy
      rw [hy] at hA
      rw [hy]
      exact rdo_note (kn : Int) w' hO hact kn rfl hkl a n e s hn k1 k8 (by omega) (by omega) (by omega) h6 (by omega) hA
    · rw [h.actL_eq] at hy
      rw [hy] at hA
      rw [hy]
      obtain ⟨t, et, ht⟩ := hi.tl a y ha hx
      have := cnTo_le st.log y st.log.length
      exact rdo_tell (kn : Int) w' hO hact kn rfl hkl a y t ha hx et (by omega) (by omega) hA
theorem Duo.pdo {w : World} {K Sp Sr : Nat → Prop} {lb pb rb : Nat} {xp : PX} {xr : RX} {x : LX} {cnt : Int} {l : LL} {ns : List Nd} {R W : Nat} {st : RSt} {lim : PSt} {k : Nat} (h : Duo w K Sp Sr lb pb rb xp xr x cnt l ns R W st lim k) (hko : ∀ n, n < ns.length → vD (qT ns n)) (hk : k ≤ 200000) (kk : Int) (hk9 : kk ≤ 9223372036854775807) (w' : World) (hO : POwn w' Sp pb xp ns R W (zU ns) lim) : Calls Tryz.prog 47 #[.pointer (some ⟨pb, 0, none⟩), .int .i64 kk] w' fun e w'' => e = .returned (.tuple #[Ev.val (yV (actL ns R W st) kk), .int .i64 (doE (actL ns R W st) kk)]) ∧ ∃ Sp' xp' p', POwn w'' Sp' pb xp' ns R W (zU ns) p' ∧ (Sim ns W p' (doR ns R W st kk) ∧ Inv ns R W (doR ns R W st kk) (k + 1)) ∧ Chg Sp w' w'' ∧ ∀ b, Sp' b → Sp b ∨ w'.heap.size ≤ b := by
  obtain ⟨s1, s2, s3, s4, s5, s6⟩ := h.po.small
  have hi := h.inv
  have hPI := h.lm.pinv hi s1 s2
  have := pdo_any (frsA ns R W st) kk w' hO h.frOk hPI (by omega) hko hk9
  rw [h.actL_eq] at this
  refine this.mono ?_
  rintro e w'' ⟨rfl, S', x', hP, hC, hS⟩
  refine ⟨rfl, S', x', _, hP, ?_, hC, hS⟩
  unfold doP doR
  cases hb : actB (actL ns R W st) kk with
  | false => exact ⟨h.lm, hi.more⟩
  | true =>
    rw [if_pos rfl, if_pos rfl]
    have hm := actB_mem hb
    rw [← h.actL_eq] at hm
    have hy := pacts_mem W (Nat.le_refl _) hm
    rw [h.actL_eq] at hy
    exact h.lm.does hi s6 s1 s5 s2 s3 hko hy
theorem Duo.bw' {w w' : World} {K Sp Sr : Nat → Prop} {lb pb rb : Nat} {xp : PX} {xr : RX} {x : LX} {cnt : Int} {l : LL} {ns : List Nd} {R W : Nat} {st : RSt} {lim : PSt} {k : Nat} (h : Duo w K Sp Sr lb pb rb xp xr x cnt l ns R W st lim k) (hb : Bw w w') : Duo w' K Sp Sr lb pb rb xp xr x cnt l ns R W st lim k :=
  ⟨h.lw.bw hb, h.po.bw hb, h.ro.bw hb, h.inv, h.kp, h.kr, h.pr, h.lm, h.ct, h.km⟩
theorem Duo.more' {w : World} {K Sp Sr : Nat → Prop} {lb pb rb : Nat} {xp : PX} {xr : RX} {x : LX} {cnt : Int} {l : LL} {ns : List Nd} {R W : Nat} {st : RSt} {lim : PSt} {k : Nat} (h : Duo w K Sp Sr lb pb rb xp xr x cnt l ns R W st lim k) : Duo w K Sp Sr lb pb rb xp xr x cnt l ns R W st lim (k + 1) :=
  ⟨h.lw, h.po, h.ro, h.inv.more, h.kp, h.kr, h.pr, h.lm, ⟨h.ct.1, by have := h.ct.2; omega⟩, by have := h.km; omega⟩
theorem ddoes {w : World} {K Sp Sr : Nat → Prop} {lb pb rb : Nat} {xp : PX} {xr : RX} {x : LX} {cnt : Int} {l : LL} {ns : List Nd} {R W : Nat} {st : RSt} {lim : PSt} {k : Nat} (ok oa ob oc oh : Int) (h : Duo w K Sp Sr lb pb rb xp xr x cnt l ns R W st lim k) (hko : ∀ n, n < ns.length → vD (qT ns n)) (ha1 : -9223372036854775808 ≤ oa) (ha2 : oa ≤ 9223372036854775807) (hk : k ≤ 200000) :
    Calls Tryz.prog 24 #[.pointer (some ⟨lb, 0, none⟩), .agg #[.int .i64 ok, .int .i64 oa, .int .i64 ob, .int .i64 oc, .int .i64 oh]] w fun e w' => e = .returned (.bool true) ∧ Duo.After w w' (uni K Sp Sr) lb ns R W (k + 1) := by
  obtain ⟨s1, s2, s3, s4, s5, s6⟩ := h.po.small
  have hml := h.inv.ml
  have hal : (actL ns R W st).length ≤ 1000000000 := by
    have h1 := acts_len (st := st) (frs := frsA ns R W st) s2 s1 s3 (by omega) W
    unfold actL
    omega
  refine (ldoes_any (Sp := Sp) (Sr := Sr) (Pp := fun kk a b => ∃ Sp' xp' p', POwn b Sp' pb xp' ns R W (zU ns) p' ∧ (Sim ns W p' (doR ns R W st kk) ∧ Inv ns R W (doR ns R W st kk) (k + 1)) ∧ ∀ c, Sp' c → Sp c ∨ a.heap.size ≤ c) (Pr := fun kk a b => ∃ Sr' xr', ROwn b Sr' rb xr' ns R W (zU ns) (doR ns R W st kk) ∧ ∀ c, Sr' c → Sr c ∨ a.heap.size ≤ c) ok oa ob oc oh (actL ns R W st) w h.lw ha1 ha2 hal (fun hs => h.kp lb h.lw.kroot hs) h.po.slt (fun w' hb => h.racts hk w' (h.ro.bw hb)) (fun kk w' _ hk9 hb => ?_) (fun kk a1 b1 w' _ _ h1 hc1 _ h2 => ?_) h.ro.slt (fun hs => h.kr lb h.lw.kroot hs)).mono ?_
  · refine (h.pdo hko hk kk hk9 w' (h.po.bw hb)).mono ?_
    rintro e w'' ⟨rfl, Sp', xp', p', h1, h2, h3, h4⟩
    exact ⟨rfl, h3, Sp', xp', p', h1, h2, h4⟩
  · refine (h.rdo hko hk kk w' (h.roAt h1 hc1 h2)).mono ?_
    rintro e w'' ⟨rfl, S', x', hR, hC, hS⟩
    exact ⟨rfl, hC, S', x', hR, hS⟩
  · rintro e w' ⟨rfl, hB | ⟨kk, a1, b1, a2, b2, _, h1, hc1, ⟨Sp', xp', p', hP, ⟨hsim, hinv⟩, hS⟩, h2, hc2, hr, h3⟩⟩
    · exact ⟨rfl, K, Sp, Sr, pb, rb, xp, xr, x, cnt, l, st, lim, (h.bw' hB).more', Chg.bw hB, fun _ h => .inl h⟩
    · have hA := h.both h1 hc1 ⟨Sp', xp', p', hP, hsim, hS⟩ h2 hc2 hr hinv
      obtain ⟨K', Sp2, Sr2, pb2, rb2, xp2, xr2, x2, cnt2, l2, st2, lim2, hD, hC2, hU⟩ := hA
      exact ⟨rfl, K', Sp2, Sr2, pb2, rb2, xp2, xr2, x2, cnt2, l2, st2, lim2, hD.bw' h3, hC2.trans (Chg.bw (S := uni K Sp Sr) h3) (fun _ h => .inl h), hU⟩
theorem douts {w : World} {K Sp Sr : Nat → Prop} {lb pb rb : Nat} {xp : PX} {xr : RX} {x : LX} {cnt : Int} {l : LL} {ns : List Nd} {R W : Nat} {st : RSt} {lim : PSt} {k : Nat} (h : Duo w K Sp Sr lb pb rb xp xr x cnt l ns R W st lim k) (hk : k ≤ 200000) :
    Calls Tryz.prog 21 #[.pointer (some ⟨lb, 0, none⟩)] w fun e w' => e = .returned (.bool true) ∧ Duo.After w w' (uni K Sp Sr) lb ns R W (k + 1) := by
  have hi := h.inv
  have hev := hi.ev
  have hkm := h.km
  have hct := h.ct
  have hol := ouTo_len ns st.evs st.evs.length
  refine (louts_any (ouTo ns st.evs st.evs.length) w h.lw (fun w' hb => ?_) (fun w' hb => ?_) (by omega) (by omega) ⟨hct.1, by omega⟩).mono ?_
  · refine (pout_any' w' (h.po.bw hb)).mono ?_
    rintro e w'' ⟨v, rfl, ho, hb2⟩
    rw [h.lm.rc] at ho
    exact ⟨v, rfl, ho, hb2⟩
  · exact rout_any w' (h.ro.bw hb).read (fun i hiL _ => (hi.eo i hiL).1)
  · rintro e w' ⟨rfl, x', m', hL, hm, hC⟩
    exact ⟨rfl, h.looked hL hC ⟨by simp only; omega, by simp only; omega, by simp only; omega, by simp only; omega⟩⟩
theorem Duo.bw {w w' : World} {K Sp Sr : Nat → Prop} {lb pb rb : Nat} {xp : PX} {xr : RX} {x : LX} {cnt : Int} {l : LL} {ns : List Nd} {R W : Nat} {st : RSt} {lim : PSt} {k : Nat} (h : Duo w K Sp Sr lb pb rb xp xr x cnt l ns R W st lim k) (hb : Bw w w') : Duo w' K Sp Sr lb pb rb xp xr x cnt l ns R W st lim k :=
  ⟨h.lw.bw hb, h.po.bw hb, h.ro.bw hb, h.inv, h.kp, h.kr, h.pr, h.lm, h.ct, h.km⟩
theorem Duo.frame {w w' : World} {T : Nat → Prop} {K Sp Sr : Nat → Prop} {lb pb rb : Nat} {xp : PX} {xr : RX} {x : LX} {cnt : Int} {l : LL} {ns : List Nd} {R W : Nat} {st : RSt} {lim : PSt} {k : Nat} (h : Duo w K Sp Sr lb pb rb xp xr x cnt l ns R W st lim k) (hc : Chg T w w') (hd : ∀ b, uni K Sp Sr b → ¬ T b) : Duo w' K Sp Sr lb pb rb xp xr x cnt l ns R W st lim k :=
  ⟨h.lw.other hc fun b hb => hd b (.inl hb), h.po.other hc fun b hb => hd b (.inr (.inl hb)), h.ro.other hc fun b hb => hd b (.inr (.inr hb)), h.inv, h.kp, h.kr, h.pr, h.lm, h.ct, h.km⟩
theorem Duo.more {w : World} {K Sp Sr : Nat → Prop} {lb pb rb : Nat} {xp : PX} {xr : RX} {x : LX} {cnt : Int} {l : LL} {ns : List Nd} {R W : Nat} {st : RSt} {lim : PSt} {k : Nat} (h : Duo w K Sp Sr lb pb rb xp xr x cnt l ns R W st lim k) : Duo w K Sp Sr lb pb rb xp xr x cnt l ns R W st lim (k + 1) :=
  ⟨h.lw, h.po, h.ro, h.inv.more, h.kp, h.kr, h.pr, h.lm, ⟨h.ct.1, by have := h.ct.2; omega⟩, by have := h.km; omega⟩
theorem Duo.lt {w : World} {K Sp Sr : Nat → Prop} {lb pb rb : Nat} {xp : PX} {xr : RX} {x : LX} {cnt : Int} {l : LL} {ns : List Nd} {R W : Nat} {st : RSt} {lim : PSt} {k : Nat} (h : Duo w K Sp Sr lb pb rb xp xr x cnt l ns R W st lim k) : ∀ b, uni K Sp Sr b → b < w.heap.size := fun b hb => by
  rcases hb with hb | hb | hb
  · exact h.lw.klt b hb
  · exact h.po.slt b hb
  · exact h.ro.slt b hb
theorem Duo.After.ofBw {w w0 w' : World} {U : Nat → Prop} {lb : Nat} {ns : List Nd} {R W k : Nat} (hb : Bw w w0) (h : Duo.After w0 w' U lb ns R W k) : Duo.After w w' U lb ns R W k := by
  obtain ⟨K, Sp, Sr, pb, rb, xp, xr, x, cnt, l, st, lim, hD, hC, hU⟩ := h
  have hz := hb.size
  exact ⟨K, Sp, Sr, pb, rb, xp, xr, x, cnt, l, st, lim, hD, (Chg.bw (S := U) hb).trans hC (fun _ h => .inl h), fun b hb => (hU b hb).imp id fun h => by omega⟩
/-- One step of a script. -/
theorem dstep {w : World} {K Sp Sr : Nat → Prop} {lb pb rb : Nat} {xp : PX} {xr : RX} {x : LX} {cnt : Int} {l : LL} {ns : List Nd} {R W : Nat} {st : RSt} {lim : PSt} {k : Nat} (kd oa ob oc oh : Int) (h : Duo w K Sp Sr lb pb rb xp xr x cnt l ns R W st lim k) (h6 : ∀ n, n < ns.length → vD (qT ns n)) (ha1 : -9223372036854775808 ≤ oa) (ha2 : oa ≤ 9223372036854775807) (hc1 : -9223372036854775808 ≤ oc) (hc2 : oc ≤ 9223372036854775807) (hk : k ≤ 200000) :
    Calls Tryz.prog 9 #[.pointer (some ⟨lb, 0, none⟩), .agg #[.int .i64 kd, .int .i64 oa, .int .i64 ob, .int .i64 oc, .int .i64 oh]] w fun e w' => e = .returned (.bool true) ∧ Duo.After w w' (uni K Sp Sr) lb ns R W (k + 1) := by
  have Hsame := qJ (fun (w' : World) (hb : Bw w w') => (⟨K, Sp, Sr, pb, rb, xp, xr, x, cnt, l, st, lim, (h.bw hb).more, Chg.bw hb, fun _ h => .inl h⟩ : Duo.After w w' (uni K Sp Sr) lb ns R W (k + 1)))
  by_cases q1 : kd = 1
  · subst q1
    have H := qJ (fun (w' : World) (hb : Bw w w') => dgive oa ob oc oh (h.bw hb) h6 hc1 hc2 hk)
    clear h h6
    go_enter Tryz.func9, Tryz.ntmps9
    go_wp2_with (go_at_call 17; refine ((qK H) _ (by repeat first|exact br _|assumption|apply bd|apply bn|apply ba|refine bt ?_ (by assumption))).mono ?_; rintro e w1 ⟨rfl, hA⟩)
    go_ret
    exact ⟨rfl, hA.ofBw (by repeat first|exact br _|assumption|apply bd|apply bn|apply ba|refine bt ?_ (by assumption))⟩
  by_cases q2 : kd = 2
  · subst q2
    have H := qJ (fun (w' : World) (hb : Bw w w') => dadvance oa ob oc oh (h.bw hb) hk)
    clear h h6
    go_enter Tryz.func9, Tryz.ntmps9
    go_wp2_with (go_at_call 17; refine ((qK H) _ (by repeat first|exact br _|assumption|apply bd|apply bn|apply ba|refine bt ?_ (by assumption))).mono ?_; rintro e w1 ⟨rfl, hA⟩)
    go_ret
    exact ⟨rfl, hA.ofBw (by repeat first|exact br _|assumption|apply bd|apply bn|apply ba|refine bt ?_ (by assumption))⟩
  by_cases q3 : kd = 3
  · subst q3
    have H := qJ (fun (w' : World) (hb : Bw w w') => dclose oa ob oc oh (h.bw hb) hk)
    clear h h6
    go_enter Tryz.func9, Tryz.ntmps9
    go_wp2_with (go_at_call 17; refine ((qK H) _ (by repeat first|exact br _|assumption|apply bd|apply bn|apply ba|refine bt ?_ (by assumption))).mono ?_; rintro e w1 ⟨rfl, hA⟩)
    go_ret
    exact ⟨rfl, hA.ofBw (by repeat first|exact br _|assumption|apply bd|apply bn|apply ba|refine bt ?_ (by assumption))⟩
  by_cases q4 : kd = 4
  · subst q4
    have H := qJ (fun (w' : World) (hb : Bw w w') => dwaiting 4 oa ob oc oh (h.bw hb) hk)
    clear h h6
    go_enter Tryz.func9, Tryz.ntmps9
    go_wp2_with (go_at_call 18; refine ((qK H) _ (by repeat first|exact br _|assumption|apply bd|apply bn|apply ba|refine bt ?_ (by assumption))).mono ?_; rintro e w1 ⟨rfl, hA⟩)
    go_ret
    exact ⟨rfl, hA.ofBw (by repeat first|exact br _|assumption|apply bd|apply bn|apply ba|refine bt ?_ (by assumption))⟩
  by_cases q5 : kd = 5
  · subst q5
    have H := qJ (fun (w' : World) (hb : Bw w w') => dview 5 oa ob oc oh (h.bw hb) hk)
    clear h h6
    go_enter Tryz.func9, Tryz.ntmps9
    go_wp2_with (go_at_call 19; refine ((qK H) _ (by repeat first|exact br _|assumption|apply bd|apply bn|apply ba|refine bt ?_ (by assumption))).mono ?_; rintro e w1 ⟨rfl, hA⟩)
    go_ret
    exact ⟨rfl, hA.ofBw (by repeat first|exact br _|assumption|apply bd|apply bn|apply ba|refine bt ?_ (by assumption))⟩
  by_cases q6 : kd = 6
  · subst q6
    have H := qJ (fun (w' : World) (hb : Bw w w') => dfrontier 6 oa ob oc oh (h.bw hb) hk)
    clear h h6
    go_enter Tryz.func9, Tryz.ntmps9
    go_wp2_with (go_at_call 20; refine ((qK H) _ (by repeat first|exact br _|assumption|apply bd|apply bn|apply ba|refine bt ?_ (by assumption))).mono ?_; rintro e w1 ⟨rfl, hA⟩)
    go_ret
    exact ⟨rfl, hA.ofBw (by repeat first|exact br _|assumption|apply bd|apply bn|apply ba|refine bt ?_ (by assumption))⟩
  by_cases q7 : kd = 7
  · subst q7
    have H := qJ (fun (w' : World) (hb : Bw w w') => douts (h.bw hb) hk)
    clear h h6
    go_enter Tryz.func9, Tryz.ntmps9
    go_wp2_with (go_at_call 21; refine ((qK H) _ (by repeat first|exact br _|assumption|apply bd|apply bn|apply ba|refine bt ?_ (by assumption))).mono ?_; rintro e w1 ⟨rfl, hA⟩)
    go_ret
    exact ⟨rfl, hA.ofBw (by repeat first|exact br _|assumption|apply bd|apply bn|apply ba|refine bt ?_ (by assumption))⟩
  by_cases q8 : kd = 8
  · subst q8
    have Hp := qJ (fun (w' : World) (hb : Bw w w') => pact_any (frsA ns R W st) w' (h.po.bw hb) h.frOk)
    rw [h.actL_eq] at Hp
    have Hr := qJ (fun (w' : World) (hb : Bw w w') => h.racts hk w' (h.ro.bw hb))
    have c0 := qQ (o := 0) h.lw.root rfl
    have c1 := qQ (o := 1) h.lw.root rfl
    have cl := (Array.getElem?_eq_some_iff.1 h.lw.root).1
    generalize actL ns R W st = AL at *
    clear h h6
    go_enter Tryz.func9, Tryz.ntmps9
    go_wp2_with fail
    refine ((qK Hp) _ (by repeat first|exact br _|assumption|apply bd|apply bn|apply ba|refine bt ?_ (by assumption))).mono ?_
    rintro e w1 ⟨rfl, hb1⟩
    have hB1 : Bw w w1 := (show Bw w (w.alloc (.cells #[.int .i64 8, .int .i64 oa, .int .i64 ob, .int .i64 oc, .int .i64 oh] 31)) from (by repeat first|exact br _|assumption|apply bd|apply bn|apply ba|refine bt ?_ (by assumption))).trans hb1
    have d1 := ((qS hB1).1 _ 1 cl).trans c1
    have dl := Nat.lt_of_lt_of_le cl hB1.size
    go_wp2_with fail
    refine ((qK Hr) _ (hB1.trans (by repeat first|exact br _|assumption|apply bd|apply bn|apply ba|refine bt ?_ (by assumption)))).mono ?_
    rintro e w2 ⟨v2, rfl, ho2, hb2⟩
    obtain ⟨a2, c2, hve⟩ := ho2.val
    subst hve
    clear ho2
    go_wp2_with fail
    go_ret
    exact ⟨ret_bool (by simp), (qK Hsame) _ (hB1.trans hb2)⟩
  by_cases q9 : kd = 9
  · subst q9
    have H := qJ (fun (w' : World) (hb : Bw w w') => ddoes 9 oa ob oc oh (h.bw hb) h6 ha1 ha2 hk)
    clear h h6
    go_enter Tryz.func9, Tryz.ntmps9
    go_wp2_with (go_at_call 24; refine ((qK H) _ (by repeat first|exact br _|assumption|apply bd|apply bn|apply ba|refine bt ?_ (by assumption))).mono ?_; rintro e w1 ⟨rfl, hA⟩)
    go_ret
    exact ⟨rfl, hA.ofBw (by repeat first|exact br _|assumption|apply bd|apply bn|apply ba|refine bt ?_ (by assumption))⟩
  have z1 : (kd == 1) = false := by simpa using q1
  have z2 : (kd == 2) = false := by simpa using q2
  have z3 : (kd == 3) = false := by simpa using q3
  have z4 : (kd == 4) = false := by simpa using q4
  have z5 : (kd == 5) = false := by simpa using q5
  have z6 : (kd == 6) = false := by simpa using q6
  have z7 : (kd == 7) = false := by simpa using q7
  have z8 : (kd == 8) = false := by simpa using q8
  have z9 : (kd == 9) = false := by simpa using q9
  clear h h6 q1 q2 q3 q4 q5 q6 q7 q8 q9
  go_enter Tryz.func9, Tryz.ntmps9
  go_wp2_with fail
  go_ret
  exact ⟨rfl, (qK Hsame) _ (by repeat first|exact br _|assumption|apply bd|apply bn|apply ba|refine bt ?_ (by assumption))⟩
theorem Duo.After.trans {w wr w1 : World} {U V : Nat → Prop} {lb : Nat} {ns : List Nd} {R W k : Nat} (hC : Chg U w wr) (hV : ∀ b, V b → U b ∨ w.heap.size ≤ b) (h : Duo.After wr w1 V lb ns R W k) : Duo.After w w1 U lb ns R W k := by
  obtain ⟨K, Sp, Sr, pb, rb, xp, xr, x, cnt, l, st, lim, hD, hC2, hU⟩ := h
  have hz := hC.size
  exact ⟨K, Sp, Sr, pb, rb, xp, xr, x, cnt, l, st, lim, hD, hC.trans hC2 hV, fun b hb => by
    rcases hU b hb with h1 | h1
    · exact hV b h1
    · exact .inr (by omega)⟩
/-- At the end: what waits at every node of every worker, and every view. -/
theorem dends {w : World} {K Sp Sr : Nat → Prop} {lb pb rb : Nat} {xp : PX} {xr : RX} {x : LX} {cnt : Int} {l : LL} {ns : List Nd} {R W : Nat} {st : RSt} {lim : PSt} {k : Nat} (h : Duo w K Sp Sr lb pb rb xp xr x cnt l ns R W st lim k) (hk : k + 40 ≤ 200000) :
    Calls Tryz.prog 11 #[.pointer (some ⟨lb, 0, none⟩), .bool true] w fun e w' => e = .returned (.bool true) ∧ Duo.After w w' (uni K Sp Sr) lb ns R W (k + 1 + W * (ns.length + 1)) := by
  obtain ⟨s1, s2, s3, s4, s5, s6⟩ := h.po.small
  have Ho := qJ (fun (w' : World) (hb : Bw w w') => douts (h.bw hb) (by omega))
  obtain ⟨U, hU⟩ : ∃ U, uni K Sp Sr = U := ⟨_, rfl⟩
  rw [hU] at Ho
  rw [hU]
  clear h hU
  go_enter Tryz.func11, Tryz.ntmps11
  go_wp2_with fail
  refine ((qK Ho) _ (Bw.refl _)).mono ?_
  rintro e w0 ⟨rfl, hA0⟩
  have H0 : Hid (Duo.After w w0 U lb ns R W (k + 1 + 0 * (ns.length + 1))) := qJ (by rw [Nat.zero_mul]; exact hA0)
  clear hA0 Ho
  go_wp2_with fail
  go_loopw [6] (fun i wr => ∃ a : Nat, a ≤ W ∧ i = .int .i64 a ∧ Duo.After w wr U lb ns R W (k + 1 + a * (ns.length + 1))) (fun i _ => W - (intOf i).toNat)
  case atStart => exact ⟨0, Nat.zero_le _, rfl, qK H0⟩
  case round =>
    clear H0
    obtain ⟨a, ha, rfl, K1, Sp1, Sr1, pb1, rb1, xp1, xr1, x1, cnt1, l1, st1, lim1, hD, hC, hU1⟩ := hrel
    rename World => wr
    have c1 := qQ (o := 1) hD.lw.root rfl
    have cl := (Array.getElem?_eq_some_iff.1 hD.lw.root).1
    have c2 := hD.ro.read.c2
    have rl := hD.ro.read.lt
    by_cases hlt : a < W
    · have ha1 : (a : Int) < (W : Int) := by omega
      have hkb : a * (ns.length + 1) ≤ 3 * 9 := Nat.mul_le_mul (by omega) (by omega)
      have Hv := qJ (fun (w' : World) (hb : Bw wr w') => dview 0 a 0 0 0 (hD.bw hb) (by omega))
      have HC := qJ hC
      have HU1 := qJ hU1
      clear hD hC hU1
      go_wp2_with (go_at_call 19; refine ((qK Hv) _ (by repeat first|exact br _|assumption|apply bd|apply bn|apply ba|refine bt ?_ (by assumption))).mono ?_; rintro e w1 ⟨rfl, hA⟩)
      have HA := qJ (show Duo.After w w1 U lb ns R W (k + 1 + a * (ns.length + 1) + 1 + 0) from (hA.ofBw (by repeat first|exact br _|assumption|apply bd|apply bn|apply ba|refine bt ?_ (by assumption))).trans (qK HC) (qK HU1))
      clear hA c1 cl c2 rl
      go_loopw [8] (fun j wi => ∃ b : Nat, b ≤ ns.length ∧ j = .int .i64 b ∧ Duo.After w wi U lb ns R W (k + 1 + a * (ns.length + 1) + 1 + b)) (fun j _ => ns.length - (intOf j).toNat)
      case atStart => exact ⟨0, Nat.zero_le _, rfl, qK HA⟩
      case round =>
        clear HA
        obtain ⟨b, hb, rfl, K2, Sp2, Sr2, pb2, rb2, xp2, xr2, x2, cnt2, l2, st2, lim2, hD, hC, hU2⟩ := hrel
        rename World => wi
        have c1 := qQ (o := 1) hD.lw.root rfl
        have cl := (Array.getElem?_eq_some_iff.1 hD.lw.root).1
        have c0 := hD.ro.read.c0
        have rl := hD.ro.read.lt
        by_cases hlt2 : b < ns.length
        · have hb1 : (b : Int) < (ns.length : Int) := by omega
          have Hw := qJ (fun (w' : World) (hb : Bw wi w') => dwaiting 0 a b 0 0 (hD.bw hb) (by omega))
          have HC := qJ hC
          have HU2 := qJ hU2
          clear hD hC hU2
          go_wp2_with (go_at_call 18; refine ((qK Hw) _ (by repeat first|exact br _|assumption|apply bd|apply bn|apply ba|refine bt ?_ (by assumption))).mono ?_; rintro e w2 ⟨rfl, hA⟩)
          go_roundw
          case rel => exact ⟨b + 1, by omega, by go_num, (hA.ofBw (by repeat first|exact br _|assumption|apply bd|apply bn|apply ba|refine bt ?_ (by assumption))).trans (qK HC) (qK HU2)⟩
          case measure => simp [intOf]; omega
        · have hbb : b = ns.length := by omega
          have HA := qJ (show Duo.After w wi U lb ns R W (k + 1 + (a + 1) * (ns.length + 1)) from by
            rw [show k + 1 + (a + 1) * (ns.length + 1) = k + 1 + a * (ns.length + 1) + 1 + b by rw [hbb, Nat.add_mul]; omega]
            exact ⟨K2, Sp2, Sr2, pb2, rb2, xp2, xr2, x2, cnt2, l2, st2, lim2, hD, hC, hU2⟩)
          subst hbb
          clear hD hC hU2
          go_wp2_with fail
          go_roundw
          case rel => exact ⟨a + 1, by omega, by go_num, qK HA⟩
          case measure => simp [intOf]; omega
    · have haa : a = W := by omega
      have HA := qJ (show Duo.After w wr U lb ns R W (k + 1 + W * (ns.length + 1)) from by
        rw [show k + 1 + W * (ns.length + 1) = k + 1 + a * (ns.length + 1) by rw [haa]]
        exact ⟨K1, Sp1, Sr1, pb1, rb1, xp1, xr1, x1, cnt1, l1, st1, lim1, hD, hC, hU1⟩)
      have hn1 : ¬ (a : Int) < (W : Int) := by omega
      clear hD hC hU1 haa
      go_wp2_with fail
      go_ret
      exact ⟨rfl, qK HA⟩
theorem lbegin_bad (ns : List Nd) (ga : Option Addr) (gc : Nat) (r wk : Int) (w : World) (hn : NodesAt w ga ns) (hl : ns.length * 40 ≤ 140737488351232) (hE : newE ns r wk ≠ 0) :
    Calls Tryz.prog 8 #[.agg #[.slice ga ns.length gc, .int .i64 r], .int .i64 wk] w fun e w' => e = .returned (.tuple #[.pointer none, .bool true]) ∧ Bw w w' := by
  have hml : ns.length ≤ maxLen := by unfold maxLen; omega
  go_enter Tryz.func8, Tryz.ntmps8
  go_wp2_with fail
  refine (handed_any ns _ _ _ _ (hn.below (by repeat first|exact br _|assumption|apply bd|apply bn|apply ba|refine bt ?_ (by assumption))) hl).mono ?_
  rintro e w1 ⟨g0, rfl, hg0, hh, hb1⟩
  obtain ⟨q1, q2⟩ := qS hb1
  have hz1 : w.heap.size < w1.heap.size := (by have := hb1.size; (try simp at this); omega)
  go_wp2_with fail
  refine (pnew_bad ns _ _ _ _ _ (hh.at.below (by repeat first|exact br _|assumption|apply bd|apply bn|apply ba|refine bt ?_ (by assumption))) hml hE).mono ?_
  rintro e w2 ⟨rfl, hb2⟩
  obtain ⟨q3, q4⟩ := qS hb2
  have hz2 : w1.heap.size < w2.heap.size := (by have := hb2.size; (try simp at this); omega)
  go_wp2_with fail
  refine (still_any ns _ g0 _ _ _ w w2 hn (by repeat first|exact br _|assumption|apply bd|apply bn|apply ba|refine bt ?_ (by assumption)) (by have := hg0; simp at this; omega) (hh.keep (by repeat first|exact br _|assumption|apply bd|apply bn|apply ba|refine bt ?_ (by assumption))) hl).mono ?_
  rintro e w3 ⟨rfl, hK⟩
  have hB3 : Bw (w.alloc (.cells #[.slice ga ns.length gc, .int .i64 r] 24)) w3 := Bw.kp (a := w2) (by repeat first|exact br _|assumption|apply bd|apply bn|apply ba|refine bt ?_ (by assumption)) hg0 hK
  clear q1 q2 q3 q4 hz1 hz2 hK hb1 hb2 hh hg0
  obtain ⟨q1, q2⟩ := qS hB3
  have hz1 : w.heap.size < w3.heap.size := (by have := hB3.size; (try simp at this); omega)
  go_wp2_with fail
  refine (rnew_bad ns _ _ _ _ _ (hn.below (by repeat first|exact br _|assumption|apply bd|apply bn|apply ba|refine bt ?_ (by assumption))) hml hE).mono ?_
  rintro e w4 ⟨rfl, hb4⟩
  go_wp2_with (go_at_call 16; refine (num_any _ _).mono ?_; rintro e w' ⟨rfl, rfl⟩)
  go_ret2
  exact ⟨rfl, (by repeat first|exact br _|assumption|apply bd|apply bn|apply ba|refine bt ?_ (by assumption))⟩
theorem lbegin_ok (ns : List Nd) (ga : Option Addr) (gc : Nat) (R W : Nat) (w : World) (hn : NodesAt w ga ns) (hE : zG ns R = 0) (h1 : 1 ≤ ns.length) (h8 : ns.length ≤ 8) (hW1 : 1 ≤ W) (hW4 : W ≤ 4) (hR1 : 1 ≤ R) (hR4 : R ≤ 4) :
    Calls Tryz.prog 8 #[.agg #[.slice ga ns.length gc, .int .i64 (R : Int)], .int .i64 (W : Int)] w fun e w' => ∃ lb pb rb xp xr x Sp Sr K, e = .returned (.tuple #[.pointer (some ⟨lb, 0, none⟩), .bool true]) ∧ LW w' K lb pb rb x 0 ⟨[], [], [], []⟩ ∧ POwn w' Sp pb xp ns R W (zU ns) (pst0 (begT ns W)) ∧ ROwn w' Sr rb xr ns R W (zU ns) rst0 ∧ (∀ b, K b → ¬ Sp b ∧ ¬ Sr b ∧ w.heap.size ≤ b) ∧ (∀ b, Sp b → ¬ Sr b ∧ w.heap.size ≤ b) ∧ (∀ b, Sr b → w.heap.size ≤ b) ∧ Bw w w' := by
  have hl : ns.length * 40 ≤ 140737488351232 := by omega
  have hrE : refE ns R = 0 := by rw [refE_checkE]; exact hE
  go_enter Tryz.func8, Tryz.ntmps8
  go_wp2_with fail
  refine (handed_any ns _ _ _ _ (hn.below (by repeat first|exact br _|assumption|apply bd|apply bn|apply ba|refine bt ?_ (by assumption))) hl).mono ?_
  rintro e w1 ⟨g0, rfl, hg0, hh, hb1⟩
  obtain ⟨q1, q2⟩ := qS hb1
  have hz1 : w.heap.size < w1.heap.size := (by have := hb1.size; (try simp at this); omega)
  go_wp2_with fail
  refine (pnew_ok ns _ _ _ _ _ (hh.at.below (by repeat first|exact br _|assumption|apply bd|apply bn|apply ba|refine bt ?_ (by assumption))) hE h1 h8 hW1 hW4 hR1 hR4).mono ?_
  rintro e w2 ⟨pb, xp, rfl, hP, hb2⟩
  obtain ⟨q3, q4⟩ := qS hb2
  have hz2 : w1.heap.size < w2.heap.size := (by have := hb2.size; (try simp at this); omega)
  go_wp2_with fail
  refine (still_any ns _ g0 _ _ _ w w2 hn (by repeat first|exact br _|assumption|apply bd|apply bn|apply ba|refine bt ?_ (by assumption)) (by have := hg0; simp at this; omega) (hh.keep (by repeat first|exact br _|assumption|apply bd|apply bn|apply ba|refine bt ?_ (by assumption))) hl).mono ?_
  rintro e w3 ⟨rfl, hK⟩
  have hB3 : Bw (w.alloc (.cells #[.slice ga ns.length gc, .int .i64 (R : Int)] 24)) w3 := Bw.kp (a := w2) (by repeat first|exact br _|assumption|apply bd|apply bn|apply ba|refine bt ?_ (by assumption)) hg0 hK
  have hgl := hh.lt
  have hP3 := qJ (hP.frame hK.size (fun b hb hlt => hK.block b hlt (fun e => by simp only [Option.some.injEq] at e; have h1 := hb.1; simp at h1; omega)))
  have hz3 := hK.size
  have hgt : w1.heap.size + 1 ≤ w2.heap.size := hz2
  clear q1 q2 q3 q4 hz2 hK hb1 hb2 hh hg0 hP
  obtain ⟨q1, q2⟩ := qS hB3
  have hz4 : w.heap.size < w3.heap.size := (by have := hB3.size; (try simp at this); omega)
  go_wp2_with fail
  refine (rnew_ok ns _ _ _ _ _ (hn.below (by repeat first|exact br _|assumption|apply bd|apply bn|apply ba|refine bt ?_ (by assumption))) hrE h1 h8 hR1 hR4 hW1 hW4).mono ?_
  rintro e w4 ⟨rb, xr, rfl, hR', hb4⟩
  have HR := qJ hR'
  clear hR'
  go_wp2_with (go_at_call 16; refine (num_any _ _).mono ?_; rintro e w' ⟨rfl, rfl⟩)
  go_ret2
  have hb4' := hb4.size
  have hBF : Bw w' (w'.alloc (.cells #[.pointer (some ⟨pb, 0, none⟩), .pointer (some ⟨rb, 0, none⟩), .int .i64 0, .slice none 0 0, .slice none 0 0, .slice none 0 0, .slice none 0 0] 42)) := (by repeat first|exact br _|assumption|apply bd|apply bn|apply ba|refine bt ?_ (by assumption))
  have nl : ∀ {K : Nat → Prop} {w : World} {ty : TypeId} {sz : Nat}, OwnsIn K w ty sz (.slice none 0 0) 0 [] := ⟨World.ownsRow_nil _ _ _ _, by simp [Value.ownBlock]⟩
  have ne : ∀ {K : Nat → Prop} {w : World} {ty : TypeId} {X : Int → List Value} {sz : Nat}, EntsOk w K ty X sz [] := fun i hi => absurd hi (Nat.not_lt_zero i)
  refine ⟨w'.heap.size, pb, rb, xp, xr, ⟨.slice none 0 0, .slice none 0 0, .slice none 0 0, .slice none 0 0⟩, _, _, fun b => b = w'.heap.size, rfl, ?_, ((qK hP3).bw hb4).bw hBF, (qK HR).bw hBF, fun b hb => ?_, fun b hb => ?_, fun b hb => ?_, ?_⟩
  · exact ⟨heap_alloc_new w' _, rfl, fun b hb => by rw [hb]; simp, nl, nl, nl, nl, ne, ne, ne, ne, by simp⟩
  · refine ⟨fun h => ?_, fun h => ?_, ?_⟩
    · have := h.2; omega
    · have := h.2; omega
    · omega
  · refine ⟨fun h => ?_, ?_⟩
    · have h1 := h.1; have h2 := hb.2; omega
    · have h1 := hb.1; simp at h1; omega
  · have := hb.1; omega
  · exact (show Bw w w' from (by repeat first|exact br _|assumption|apply bd|apply bn|apply ba|refine bt ?_ (by assumption))).trans hBF
theorem ptn_app {ps : List Pt} {p : Pt} {i : Nat} (hi : i < ps.length) : jN (ps ++ [p]) i = jN ps i := by simp [jN, List.getD, List.getElem?_append_left hi]
theorem ptn_last (ps : List Pt) (p : Pt) : jN (ps ++ [p]) ps.length = p := by simp [jN, List.getD]
theorem tabPts_app (R : Nat) (t : Nat → Int) (ps : List Pt) (p : Pt) : ∀ k, k ≤ ps.length → kU R t (ps ++ [p]) k = kU R t ps k := by
  intro k
  induction k with
  | zero => intro _; rfl
  | succ k ih => intro hk; rw [kU, kU, ih (by omega), ptn_app (by omega)]
theorem tabPts_snoc (R : Nat) (t : Nat → Int) (ps : List Pt) (p : Pt) : kU R t (ps ++ [p]) (ps ++ [p]).length = updT (kU R t ps ps.length) (spP R p) (wrap64 (kU R t ps ps.length (spP R p) + p.count)) := by
  rw [List.length_append, List.length_singleton, kU, tabPts_app R t ps p _ (Nat.le_refl _), ptn_last]
theorem tabSrc_far (ns : List Nd) (W : Nat) : ∀ k n, k ≤ n → zX ns 4 W k (kN 4 n 0 0 true) = 0 := by
  intro k
  induction k with
  | zero => intro n _; rfl
  | succ k ih =>
    intro n hn
    unfold zX
    split
    · rw [updT_ne _ _ (fun e => by have := spotN_inj (R := 4) ⟨by omega, by omega⟩ (by omega) (by omega) (by omega) (by omega) e; omega)]
      exact ih n (by omega)
    · exact ih n (by omega)
theorem begT_eq (ns : List Nd) (W : Nat) (hW : W ≤ 4) : ∀ k, kU 4 (fun _ => 0) (vF ns W k) (vF ns W k).length = zX ns 4 W k := by
  intro k
  induction k with
  | zero => rfl
  | succ k ih =>
    unfold vF zX
    split
    · rw [tabPts_snoc, ih]
      have e : spP 4 ⟨(k : Int), true, 0, 0, (W : Int)⟩ = kN 4 k 0 0 true := rfl
      rw [e, tabSrc_far ns W k k (Nat.le_refl _)]
      congr 1
      simp only
      unfold wrap64
      omega
    · exact ih
theorem zwT_bool : ∀ k, k < 24 → zwT.getD k undef = .bool false := by
  intro k hk
  unfold zwT
  rw [List.getD, List.getElem?_append_left (by simp; exact hk), List.getElem?_replicate, if_pos hk]
  rfl
theorem zwT_grp : ∀ e s g, e < 6 → s < 4 → g < 16 → zwT.getD (24 + e * 64 + s * 16 + g) undef = if g < 8 then .int .i64 0 else .bool false := by
  intro e s g he hs hg
  unfold zwT
  rw [List.getD, List.getElem?_append_right (by simp; omega), List.length_replicate, show 24 + e * 64 + s * 16 + g - 24 = (e * 4 + s) * 16 + g by omega, flat_rep _ (c := 16) (by simp) 24 (e * 4 + s) g (by omega) hg]
  by_cases h : g < 8
  · rw [if_pos h, List.getElem?_append_left (by simpa using h), List.getElem?_replicate, if_pos h]; rfl
  · rw [if_neg h, List.getElem?_append_right (by simp; omega), List.length_replicate, List.getElem?_replicate, if_pos (by omega)]; rfl
theorem Sim.begun (ns : List Nd) (W : Nat) (hW : W ≤ 4) : Sim ns W (pst0 (begT ns W)) rst0 := by
  refine ⟨fun _ _ => rfl, fun _ _ => rfl, fun _ _ => rfl, fun _ _ _ _ => rfl, fun _ _ => Nat.le_refl _, fun i n e s he hs => ?_, fun i n e s g h6 he hs hg => ⟨?_, ?_⟩, fun i hi => ?_, fun i j => ?_, rfl, rfl⟩
  · show zwT.getD (e * 4 + s) undef = _
    rw [zwT_bool _ (by omega)]
    simp [rst0, jU]
  · show zwT.getD (24 + e * 64 + s * 16 + g) undef = _
    rw [zwT_grp e s g he hs (by omega), if_pos hg]
    rfl
  · show zwT.getD (24 + e * 64 + s * 16 + 8 + g) undef = _
    rw [show 24 + e * 64 + s * 16 + 8 + g = 24 + e * 64 + s * 16 + (8 + g) by omega, zwT_grp e s (8 + g) he hs (by omega), if_neg (by omega)]
    rfl
  · show begT ns W = zX ns 4 W ns.length
    unfold begT
    exact begT_eq ns W hW _
  · show [] = _
    split
    · rfl
    · rfl
theorem Duo.begun {w : World} {K Sp Sr : Nat → Prop} {lb pb rb : Nat} {xp : PX} {xr : RX} {x : LX} {ns : List Nd} {R W : Nat} (hL : LW w K lb pb rb x 0 ⟨[], [], [], []⟩) (hP : POwn w Sp pb xp ns R W (zU ns) (pst0 (begT ns W))) (hR : ROwn w Sr rb xr ns R W (zU ns) rst0) (h1 : ∀ b, K b → ¬ Sp b ∧ ¬ Sr b) (h2 : ∀ b, Sp b → ¬ Sr b) : Duo w K Sp Sr lb pb rb xp xr x 0 ⟨[], [], [], []⟩ ns R W rst0 (pst0 (begT ns W)) 0 :=
  ⟨hL, hP, hR, Inv.zero ns R W, fun b hb => (h1 b hb).1, fun b hb => (h1 b hb).2, h2, Sim.begun ns W (by have := hP.small; omega), ⟨by omega, by omega⟩, by simp⟩
end Go.Proofs.YtfemleimkbjehaaGreat
