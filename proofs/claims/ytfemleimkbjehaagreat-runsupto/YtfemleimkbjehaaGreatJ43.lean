import Derived.Test.YtfemleimkbjehaaGreatJ42
import Derived.Test.YtfemleimkbjehaaGreatJ5
import Derived.Test.YtfemleimkbjehaaGreatJ3
import Derived.ProofKit
import Derived.SizedLaws
import Derived.Lib.SmallJoins
import Derived.Deep.Slices
import Derived.Test.YtfemleimkbjehaaGreatJ4
import Derived.Carry
import Derived.JoinedCond
import Derived.Deep.CondSized
set_option maxRecDepth 1000000
set_option maxHeartbeats 40000000
set_option linter.unusedVariables false
set_option linter.unusedSimpArgs false
namespace Go.Proofs.YtfemleimkbjehaaGreat
open Go.RowKit
structure OpR where
  kd : Int
  a : Int
  b : Int
  c : Int
  h : Int
def opn (l : List OpR) (k : Nat) : OpR := l.getD k ⟨0, 0, 0, 0, 0⟩
def OpsAt (w : World) (ad : Option Addr) (l : List OpR) : Prop :=
  ∀ i, i < l.length → ∃ b off, ad = some ⟨b, off, none⟩ ∧ b < w.heap.size ∧ ∀ j, j < l.length →
    w.cell? ⟨b, off + j * 5, none⟩ = some (.int .i64 (opn l j).kd) ∧ w.cell? ⟨b, off + j * 5 + 1, none⟩ = some (.int .i64 (opn l j).a) ∧ w.cell? ⟨b, off + j * 5 + 2, none⟩ = some (.int .i64 (opn l j).b) ∧
    w.cell? ⟨b, off + j * 5 + 3, none⟩ = some (.int .i64 (opn l j).c) ∧ w.cell? ⟨b, off + j * 5 + 4, none⟩ = some (.int .i64 (opn l j).h)
theorem OpsAt.below {w w' : World} {ad : Option Addr} {l : List OpR} (h : OpsAt w ad l) (hb : Bw w w') : OpsAt w' ad l := by
  intro i hi
  obtain ⟨b, off, e, hlt, hc⟩ := h i hi
  refine ⟨b, off, e, Nat.lt_of_lt_of_le hlt hb.size, fun j hj => ?_⟩
  obtain ⟨q, _⟩ := qS hb
  obtain ⟨c0, c1, c2, c3, c4⟩ := hc j hj
  exact ⟨(q _ _ hlt).trans c0, (q _ _ hlt).trans c1, (q _ _ hlt).trans c2, (q _ _ hlt).trans c3, (q _ _ hlt).trans c4⟩
theorem Duo.setCnt {w : World} {K Sp Sr : Nat → Prop} {lb pb rb : Nat} {xp : PX} {xr : RX} {x : LX} {cnt c : Int} {l : LL} {ns : List Nd} {R W : Nat} {st : RSt} {lim : PSt} {k : Nat} (h : Duo w K Sp Sr lb pb rb xp xr x cnt l ns R W st lim k) (hc : 0 ≤ c ∧ c ≤ 1048576) : Duo (w.setCell ⟨lb, 2, none⟩ (.int .i64 c)) K Sp Sr lb pb rb xp xr x c l ns R W st lim k :=
  ⟨h.lw.setCnt, h.po.other (qP _ _ _ _) (fun b hb e => h.kp lb h.lw.kroot (e ▸ hb)), h.ro.other (qP _ _ _ _) (fun b hb e => h.kr lb h.lw.kroot (e ▸ hb)), h.inv, h.kp, h.kr, h.pr, h.lm, ⟨hc.1, by omega⟩, h.km⟩
def Two (w wr : World) (l1 l2 : Nat) (ns : List Nd) (R W k : Nat) : Prop :=
  (∃ U1 U2 : Nat → Prop, (∃ K Sp Sr pb rb xp xr x cnt l st lim, Duo wr K Sp Sr l1 pb rb xp xr x cnt l ns R W st lim k ∧ U1 = uni K Sp Sr) ∧ (∃ K Sp Sr pb rb xp xr x cnt l st lim, Duo wr K Sp Sr l2 pb rb xp xr x cnt l ns R W st lim k ∧ U2 = uni K Sp Sr) ∧ (∀ b, U1 b → ¬ U2 b) ∧ (∀ b, U1 b → w.heap.size ≤ b) ∧ ∀ b, U2 b → w.heap.size ≤ b) ∧ Bw w wr
theorem Two.bw {w a b : World} {l1 l2 : Nat} {ns : List Nd} {R W k : Nat} (h : Two w a l1 l2 ns R W k) (hb : Bw a b) : Two w b l1 l2 ns R W k := by
  obtain ⟨⟨U1, U2, ⟨K, Sp, Sr, pb, rb, xp, xr, x, cnt, l, st, lim, hD, e1⟩, ⟨K', Sp', Sr', pb', rb', xp', xr', x', cnt', l', st', lim', hD', e2⟩, d, z1, z2⟩, hB⟩ := h
  exact ⟨⟨U1, U2, ⟨K, Sp, Sr, pb, rb, xp, xr, x, cnt, l, st, lim, hD.bw hb, e1⟩, ⟨K', Sp', Sr', pb', rb', xp', xr', x', cnt', l', st', lim', hD'.bw hb, e2⟩, d, z1, z2⟩, hB.trans hb⟩
theorem Two.more {w a : World} {l1 l2 : Nat} {ns : List Nd} {R W k : Nat} (h : Two w a l1 l2 ns R W k) : Two w a l1 l2 ns R W (k + 1) := by
  obtain ⟨⟨U1, U2, ⟨K, Sp, Sr, pb, rb, xp, xr, x, cnt, l, st, lim, hD, e1⟩, ⟨K', Sp', Sr', pb', rb', xp', xr', x', cnt', l', st', lim', hD', e2⟩, d, z1, z2⟩, hB⟩ := h
  exact ⟨⟨U1, U2, ⟨K, Sp, Sr, pb, rb, xp, xr, x, cnt, l, st, lim, hD.more, e1⟩, ⟨K', Sp', Sr', pb', rb', xp', xr', x', cnt', l', st', lim', hD'.more, e2⟩, d, z1, z2⟩, hB⟩
theorem Two.swap {w a : World} {l1 l2 : Nat} {ns : List Nd} {R W k : Nat} (h : Two w a l1 l2 ns R W k) : Two w a l2 l1 ns R W k := by
  obtain ⟨⟨U1, U2, h1, h2, d, z1, z2⟩, hB⟩ := h
  exact ⟨⟨U2, U1, h2, h1, fun b hb hc => d b hc hb, z2, z1⟩, hB⟩
theorem Two.first {w a : World} {l1 l2 : Nat} {ns : List Nd} {R W k : Nat} (h : Two w a l1 l2 ns R W k) : ∃ K Sp Sr pb rb xp xr x cnt l st lim, Duo a K Sp Sr l1 pb rb xp xr x cnt l ns R W st lim k ∧ ∀ w' d, Duo.After a w' (uni K Sp Sr) l1 ns R W (k + d) → Two w w' l1 l2 ns R W (k + d) := by
  obtain ⟨⟨U1, U2, ⟨K, Sp, Sr, pb, rb, xp, xr, x, cnt, l, st, lim, hD, e1⟩, ⟨K', Sp', Sr', pb', rb', xp', xr', x', cnt', l', st', lim', hD', e2⟩, dj, z1, z2⟩, hB⟩ := h
  refine ⟨K, Sp, Sr, pb, rb, xp, xr, x, cnt, l, st, lim, hD, fun w' d hA => ?_⟩
  obtain ⟨K2, Sp2, Sr2, pb2, rb2, xp2, xr2, x2, cnt2, l2', st2, lim2, hD2, hC, hU⟩ := hA
  subst e1
  have hz := hB.size
  have lt2 := hD'.lt
  have hBw : Bw w w' := Chg.toBw hB hC z1
  have hD3 := hD'.frame hC (fun b hb hc => dj b hc (e2 ▸ hb))
  have hup : ∀ n, Duo w' K' Sp' Sr' l2 pb' rb' xp' xr' x' cnt' l' ns R W st' lim' (k + n) := by
    intro n
    induction n with
    | zero => exact hD3
    | succ n ih => exact ih.more
  refine ⟨⟨uni K2 Sp2 Sr2, U2, ⟨K2, Sp2, Sr2, pb2, rb2, xp2, xr2, x2, cnt2, l2', st2, lim2, hD2, rfl⟩, ⟨K', Sp', Sr', pb', rb', xp', xr', x', cnt', l', st', lim', hup d, e2⟩, fun b hb hc => ?_, fun b hb => ?_, z2⟩, hBw⟩
  · rcases hU b hb with h1 | h1
    · exact dj b h1 hc
    · have := lt2 b (e2 ▸ hc); omega
  · rcases hU b hb with h1 | h1
    · exact z1 b h1
    · omega
theorem check_wf {ns : List Nd} {r : Int} (h : zG ns r = 0) : wfB ns r = true := by
  unfold zG at h
  split at h
  · assumption
  · simp at h
theorem wf_kind {ns : List Nd} {r : Int} (h : wfB ns r = true) {n : Nat} (hn : n < ns.length) : vD (qT ns n) := by
  have h1 : wfTo ns ns.length = true := by simp [wfB] at h; exact h.1.2
  have h2 := wfTo_get h1 n hn
  unfold kX at h2
  generalize qT ns n = y at h2 ⊢
  refine ⟨?_, fun h6 => ?_, fun h3 => ?_⟩
  · by_cases k0 : y.kind = 0
    · exact .inl k0
    by_cases k1 : y.kind = 1
    · exact .inr (.inl k1)
    by_cases k2 : y.kind = 2
    · exact .inr (.inr (.inl k2))
    by_cases k3 : y.kind = 3
    · exact .inr (.inr (.inr (.inl k3)))
    by_cases k4 : y.kind = 4
    · exact .inr (.inr (.inr (.inr (.inl k4))))
    by_cases k5 : y.kind = 5
    · exact .inr (.inr (.inr (.inr (.inr (.inl k5)))))
    by_cases k6 : y.kind = 6
    · exact .inr (.inr (.inr (.inr (.inr (.inr (.inl k6))))))
    by_cases k7 : y.kind = 7
    · exact .inr (.inr (.inr (.inr (.inr (.inr (.inr k7))))))
    simp [k0, k1, k2, k3, k4, k5, k6, k7] at h2
  · simp [h6] at h2
    omega
  · simp [h3] at h2
    omega
theorem newE_zero {ns : List Nd} {r wk : Int} (h : newE ns r wk = 0) : zG ns r = 0 ∧ ∃ R W : Nat, r = R ∧ wk = W ∧ 1 ≤ ns.length ∧ ns.length ≤ 8 ∧ 1 ≤ R ∧ R ≤ 4 ∧ 1 ≤ W ∧ W ≤ 4 := by
  unfold newE at h
  rw [refE_checkE] at h
  split at h
  · rename_i h1; simp at h1; exact absurd h h1
  · rename_i h1
    have hc : zG ns r = 0 := by simpa using h1
    have hw := check_wf hc
    simp [wfB] at hw
    split at h
    · cases h
    · rename_i h2
      simp at h2
      exact ⟨hc, r.toNat, wk.toNat, by omega, by omega, by omega, by omega, by omega, by omega, by omega, by omega⟩
theorem plays_bad (ns : List Nd) (ga sa : Option Addr) (gc sl sc : Nat) (r wk last : Int) (w : World) (hn : NodesAt w ga ns) (hl : ns.length * 40 ≤ 140737488351232) (hE : newE ns r wk ≠ 0) :
    Calls Tryz.prog 6 #[.agg #[.slice ga ns.length gc, .int .i64 r], .int .i64 wk, .slice sa sl sc, .int .i64 last] w fun e w' => e = .returned (.bool true) ∧ Bw w w' := by
  go_enter Tryz.func6, Tryz.ntmps6
  go_wp2_with fail
  refine (lbegin_bad ns _ _ _ _ _ (hn.below (by repeat first|exact br _|assumption|apply bd|apply bn|apply ba|refine bt ?_ (by assumption))) hl hE).mono ?_
  rintro e w1 ⟨rfl, hb1⟩
  go_wp2_with fail
  go_ret
  exact ⟨rfl, (by repeat first|exact br _|assumption|apply bd|apply bn|apply ba|refine bt ?_ (by assumption))⟩
theorem plays_ok (ns : List Nd) (ga sa : Option Addr) (gc sc : Nat) (R W : Nat) (ops : List OpR) (w : World) (hn : NodesAt w ga ns) (ho : OpsAt w sa ops) (hor : ∀ j, j < ops.length → -9223372036854775808 ≤ (opn ops j).a ∧ (opn ops j).a ≤ 9223372036854775807 ∧ -9223372036854775808 ≤ (opn ops j).c ∧ (opn ops j).c ≤ 9223372036854775807) (hol : ops.length ≤ 199000) (hE : zG ns R = 0) (h1 : 1 ≤ ns.length) (h8 : ns.length ≤ 8) (hW1 : 1 ≤ W) (hW4 : W ≤ 4) (hR1 : 1 ≤ R) (hR4 : R ≤ 4) :
    Calls Tryz.prog 6 #[.agg #[.slice ga ns.length gc, .int .i64 (R : Int)], .int .i64 (W : Int), .slice sa ops.length sc, .int .i64 9] w fun e w' => e = .returned (.bool true) ∧ Bw w w' := by
  have H6 : Hid (∀ n, n < ns.length → vD (qT ns n)) := qJ fun n hn => wf_kind (check_wf hE) hn
  have Hor := qJ hor
  clear hor
  go_enter Tryz.func6, Tryz.ntmps6
  go_wp2_with fail
  refine (lbegin_ok ns _ _ _ _ _ (hn.below (by repeat first|exact br _|assumption|apply bd|apply bn|apply ba|refine bt ?_ (by assumption))) hE h1 h8 hW1 hW4 hR1 hR4).mono ?_
  rintro e w1 ⟨lb, pb, rb, xp, xr, x, Sp, Sr, K, rfl, hL, hP, hR, d1, d2, d3, hb1⟩
  obtain ⟨q1, q2⟩ := qS hb1
  have hz1 : w.heap.size < w1.heap.size := (by have := hb1.size; (try simp at this); omega)
  go_wp2_with fail
  refine (lbegin_ok ns _ _ _ _ _ (hn.below (by repeat first|exact br _|assumption|apply bd|apply bn|apply ba|refine bt ?_ (by assumption))) hE h1 h8 hW1 hW4 hR1 hR4).mono ?_
  rintro e w2 ⟨lb2, pb2, rb2, xp2, xr2, x2, Sp2, Sr2, K2, rfl, hL2, hP2, hR2, e1, e2, e3, hb2⟩
  have hD1 := (Duo.begun hL hP hR (fun b hb => ⟨(d1 b hb).1, (d1 b hb).2.1⟩) (fun b hb => (d2 b hb).1)).bw hb2
  have hD2 := Duo.begun hL2 hP2 hR2 (fun b hb => ⟨(e1 b hb).1, (e1 b hb).2.1⟩) (fun b hb => (e2 b hb).1)
  have c2 := qQ (o := 2) hL2.root rfl
  have c2f := qZ (o := 2) hL2.root
  have cl := (Array.getElem?_eq_some_iff.1 hL2.root).1
  have hu1 : ∀ b, uni K Sp Sr b → w.heap.size ≤ b ∧ b < w1.heap.size := by
    intro b hb
    have hz : w.heap.size ≤ (w.alloc (.cells #[.slice ga ns.length gc, .int .i64 (R : Int)] 24)).heap.size := by simp
    rcases hb with h | h | h
    · exact ⟨Nat.le_trans hz (d1 b h).2.2, hL.klt b h⟩
    · exact ⟨Nat.le_trans hz (d2 b h).2, hP.slt b h⟩
    · exact ⟨Nat.le_trans hz (d3 b h), hR.slt b h⟩
  have hu2 : ∀ b, uni K2 Sp2 Sr2 b → w1.heap.size ≤ b := by
    intro b hb
    rcases hb with h | h | h
    · exact (e1 b h).2.2
    · exact (e2 b h).2
    · exact e3 b h
  have hD2' := hD2.setCnt (c := 1048576) ⟨by omega, by omega⟩
  have hBw : Bw w (w2.setCell ⟨lb2, 2, none⟩ (.int .i64 1048576)) := Bw.setCell (by repeat first|exact br _|assumption|apply bd|apply bn|apply ba|refine bt ?_ (by assumption)) (Nat.le_trans (Nat.le_of_lt hz1) (e1 lb2 hL2.kroot).2.2) _
  have HT : Hid (Two w (w2.setCell ⟨lb2, 2, none⟩ (.int .i64 1048576)) lb lb2 ns R W 0) := qJ
    ⟨⟨uni K Sp Sr, uni K2 Sp2 Sr2, ⟨K, Sp, Sr, pb, rb, xp, xr, x, 0, _, rst0, pst0 (begT ns W), hD1.frame (qP _ _ _ _) (fun b hb e => by have h1 := (hu1 b hb).2; have h2 := (e1 lb2 hL2.kroot).2.2; omega), rfl⟩, ⟨K2, Sp2, Sr2, pb2, rb2, xp2, xr2, x2, 1048576, _, rst0, pst0 (begT ns W), hD2', rfl⟩, fun b hb hc => by have h1 := (hu1 b hb).2; have h2 := hu2 b hc; omega, fun b hb => (hu1 b hb).1, fun b hb => Nat.le_trans (Nat.le_of_lt hz1) (hu2 b hb)⟩, hBw⟩
  clear hD1 hD2 hD2' hL hP hR hL2 hP2 hR2 d1 d2 d3 e1 e2 e3 hu1 hu2 hBw q1 q2
  go_wp2_with fail
  go_loopw [10, 12, 13, 14] (fun _ i _ _ wr => ∃ k : Nat, k ≤ ops.length ∧ i = .int .i64 k ∧ Two w wr lb lb2 ns R W k) (fun _ i _ _ _ => ops.length - (intOf i).toNat)
  case atStart => exact ⟨0, Nat.zero_le _, rfl, qK HT⟩
  case round =>
    clear HT c2 c2f cl
    obtain ⟨k, hk, rfl, hT⟩ := hrel
    rename World => wr
    have hB := hT.2
    by_cases hlt : k < ops.length
    · have hk1 : (k : Int) < (ops.length : Int) := by omega
      obtain ⟨ob, off, rfl, hob, hoc⟩ := (ho.below hB) k hlt
      obtain ⟨c0, c1, c2, c3, c4⟩ := hoc k hlt
      clear hoc
      obtain ⟨op, hop⟩ : ∃ op, opn ops k = op := ⟨_, rfl⟩
      rw [hop] at c0 c1 c2 c3 c4
      have hrg := (qK Hor) k hlt
      rw [hop] at hrg
      obtain ⟨kd, oa, ob1, oc, oh⟩ := op
      simp only at c0 c1 c2 c3 c4 hrg
      obtain ⟨ra1, ra2, rc1, rc2⟩ := hrg
      clear hop
      by_cases hkd : kd ≤ 9
      · have hg : ¬ (9 < kd) := by omega
        go_wp2_with fail
        · obtain ⟨K1, Sp1, Sr1, pb1, rb1, xp1, xr1, x1, cnt1, l1, st1, lim1, hD, hnext⟩ := hT.first
          have HN := qJ hnext
          refine (dstep kd oa ob1 oc oh hD (qK H6) ra1 ra2 rc1 rc2 (by omega)).mono ?_
          rintro e w3 ⟨rfl, hA⟩
          have hT3 := (qK HN) _ 1 hA
          clear hA HN hD hnext hT
          go_wp2_with fail
          obtain ⟨K1, Sp1, Sr1, pb1, rb1, xp1, xr1, x1, cnt1, l1, st1, lim1, hD, _⟩ := hT3.first
          refine (looks_any _ hD.lw).mono ?_
          rintro e w5 ⟨rfl, hb5⟩
          clear hD
          have hT5 := hT3.bw hb5
          clear hT3
          go_wp2_with fail
          obtain ⟨K1, Sp1, Sr1, pb1, rb1, xp1, xr1, x1, cnt1, l1, st1, lim1, hD, _⟩ := hT5.swap.first
          refine (looks_any _ hD.lw).mono ?_
          rintro e w6 ⟨rfl, hb6⟩
          clear hD
          have hT6 := hT5.bw hb6
          clear hT5
          go_wp2_with fail
          go_roundw
          case rel => exact ⟨k + 1, by omega, by go_num, hT6⟩
          case measure => simp [intOf]; omega
        · obtain ⟨K1, Sp1, Sr1, pb1, rb1, xp1, xr1, x1, cnt1, l1, st1, lim1, hD, hnext⟩ := hT.swap.first
          have HN := qJ hnext
          refine (dstep kd oa ob1 oc oh hD (qK H6) ra1 ra2 rc1 rc2 (by omega)).mono ?_
          rintro e w3 ⟨rfl, hA⟩
          have hT3 := ((qK HN) _ 1 hA).swap
          clear hA HN hD hnext hT
          go_wp2_with fail
          obtain ⟨K1, Sp1, Sr1, pb1, rb1, xp1, xr1, x1, cnt1, l1, st1, lim1, hD, _⟩ := hT3.first
          refine (looks_any _ hD.lw).mono ?_
          rintro e w5 ⟨rfl, hb5⟩
          clear hD
          have hT5 := hT3.bw hb5
          clear hT3
          go_wp2_with fail
          obtain ⟨K1, Sp1, Sr1, pb1, rb1, xp1, xr1, x1, cnt1, l1, st1, lim1, hD, _⟩ := hT5.swap.first
          refine (looks_any _ hD.lw).mono ?_
          rintro e w6 ⟨rfl, hb6⟩
          clear hD
          have hT6 := hT5.bw hb6
          clear hT5
          go_wp2_with fail
          go_roundw
          case rel => exact ⟨k + 1, by omega, by go_num, hT6⟩
          case measure => simp [intOf]; omega
      · have hg : 9 < kd := by omega
        have HM := qJ hT.more
        clear hT
        go_wp2_with fail
        go_roundw
        case rel => exact ⟨k + 1, by omega, by go_num, qK HM⟩
        case measure => simp [intOf]; omega
    · have hkk : k = ops.length := by omega
      have hk1 : ¬ (k : Int) < (ops.length : Int) := by omega
      have hWn : W * (ns.length + 1) ≤ 4 * 9 := Nat.mul_le_mul hW4 (by omega)
      obtain ⟨K1, Sp1, Sr1, pb1, rb1, xp1, xr1, x1, cnt1, l1, st1, lim1, hD, hnext⟩ := hT.first
      have HS := qJ (fun (w' : World) (hb : Bw wr w') => dends (hD.bw hb) (by omega))
      have HN := qJ hnext
      clear hD hnext hT
      go_wp2_with fail
      refine ((qK HS) _ (by repeat first|exact br _|assumption|apply bd|apply bn|apply ba|refine bt ?_ (by assumption))).mono ?_
      rintro e w3 ⟨rfl, hA⟩
      rw [Nat.add_assoc] at hA
      have hT3 := (qK HN) _ _ hA
      clear hA HS HN
      obtain ⟨K1, Sp1, Sr1, pb1, rb1, xp1, xr1, x1, cnt1, l1, st1, lim1, hD, hnext⟩ := hT3.swap.first
      have HS := qJ (fun (w' : World) (hb : Bw w3 w') => dends (hD.bw hb) (by omega))
      have HN := qJ hnext
      clear hD hnext hT3
      go_wp2_with fail
      refine ((qK HS) _ (by repeat first|exact br _|assumption|apply bd|apply bn|apply ba|refine bt ?_ (by assumption))).mono ?_
      rintro e w4 ⟨rfl, hA⟩
      rw [Nat.add_assoc _ 1 _] at hA
      have hT4 := ((qK HN) _ _ hA).swap
      clear hA HS HN
      obtain ⟨K1, Sp1, Sr1, pb1, rb1, xp1, xr1, x1, cnt1, l1, st1, lim1, hD, _⟩ := hT4.first
      go_wp2_with fail
      refine (looks_any _ hD.lw).mono ?_
      rintro e w5 ⟨rfl, hb5⟩
      clear hD
      have hT5 := hT4.bw hb5
      clear hT4
      obtain ⟨K1, Sp1, Sr1, pb1, rb1, xp1, xr1, x1, cnt1, l1, st1, lim1, hD, _⟩ := hT5.swap.first
      go_wp2_with fail
      refine (looks_any _ hD.lw).mono ?_
      rintro e w6 ⟨rfl, hb6⟩
      clear hD
      go_wp2_with fail
      go_ret
      exact ⟨rfl, hT5.2.trans hb6⟩
theorem plays_any (ns : List Nd) (ga sa : Option Addr) (gc sc : Nat) (r wk : Int) (ops : List OpR) (w : World) (hn : NodesAt w ga ns) (hl : ns.length * 40 ≤ 140737488351232) (ho : OpsAt w sa ops) (hor : ∀ j, j < ops.length → -9223372036854775808 ≤ (opn ops j).a ∧ (opn ops j).a ≤ 9223372036854775807 ∧ -9223372036854775808 ≤ (opn ops j).c ∧ (opn ops j).c ≤ 9223372036854775807) (hol : ops.length ≤ 199000) :
    Calls Tryz.prog 6 #[.agg #[.slice ga ns.length gc, .int .i64 r], .int .i64 wk, .slice sa ops.length sc, .int .i64 9] w fun e w' => e = .returned (.bool true) ∧ Bw w w' := by
  by_cases hE : newE ns r wk = 0
  · obtain ⟨hc, R, W, rfl, rfl, h1, h8, hR1, hR4, hW1, hW4⟩ := newE_zero hE
    exact plays_ok ns ga sa gc sc R W ops w hn ho hor hol hc h1 h8 hW1 hW4 hR1 hR4
  · exact plays_bad ns ga sa gc ops.length sc r wk 9 w hn hl hE
def exOps : List OpR := [⟨1, 0, 0, 1, 0⟩, ⟨9, 0, 0, 0, 0⟩, ⟨8, 0, 0, 0, 0⟩, ⟨9, 0, 0, 0, 0⟩, ⟨9, 1, 0, 0, 0⟩, ⟨7, 0, 0, 0, 0⟩]
theorem exOps_at {w : World} {g : Nat} (h : w.heap[g]? = some (.cells #[.int .i64 1, .int .i64 0, .int .i64 0, .int .i64 1, .int .i64 0, .int .i64 9, .int .i64 0, .int .i64 0, .int .i64 0, .int .i64 0, .int .i64 8, .int .i64 0, .int .i64 0, .int .i64 0, .int .i64 0, .int .i64 9, .int .i64 0, .int .i64 0, .int .i64 0, .int .i64 0, .int .i64 9, .int .i64 1, .int .i64 0, .int .i64 0, .int .i64 0, .int .i64 7, .int .i64 0, .int .i64 0, .int .i64 0, .int .i64 0] 31)) : OpsAt w (some ⟨g, 0, none⟩) exOps := by
  intro i _
  refine ⟨g, 0, rfl, (Array.getElem?_eq_some_iff.1 h).1, fun j hj => ?_⟩
  have hj6 : j < 6 := hj
  match j, hj6 with
  | 0, _ => exact ⟨qQ h rfl, qQ h rfl, qQ h rfl, qQ h rfl, qQ h rfl⟩
  | 1, _ => exact ⟨qQ h rfl, qQ h rfl, qQ h rfl, qQ h rfl, qQ h rfl⟩
  | 2, _ => exact ⟨qQ h rfl, qQ h rfl, qQ h rfl, qQ h rfl, qQ h rfl⟩
  | 3, _ => exact ⟨qQ h rfl, qQ h rfl, qQ h rfl, qQ h rfl, qQ h rfl⟩
  | 4, _ => exact ⟨qQ h rfl, qQ h rfl, qQ h rfl, qQ h rfl, qQ h rfl⟩
  | 5, _ => exact ⟨qQ h rfl, qQ h rfl, qQ h rfl, qQ h rfl, qQ h rfl⟩
theorem exOps_in : ∀ j, j < exOps.length → -9223372036854775808 ≤ (opn exOps j).a ∧ (opn exOps j).a ≤ 9223372036854775807 ∧ -9223372036854775808 ≤ (opn exOps j).c ∧ (opn exOps j).c ≤ 9223372036854775807 := by
  intro j hj
  have hj6 : j < 6 := hj
  match j, hj6 with
  | 0, _ => exact ⟨by decide, by decide, by decide, by decide⟩
  | 1, _ => exact ⟨by decide, by decide, by decide, by decide⟩
  | 2, _ => exact ⟨by decide, by decide, by decide, by decide⟩
  | 3, _ => exact ⟨by decide, by decide, by decide, by decide⟩
  | 4, _ => exact ⟨by decide, by decide, by decide, by decide⟩
  | 5, _ => exact ⟨by decide, by decide, by decide, by decide⟩
theorem plays_ex (ga sa : Option Addr) (w : World) (hn : NodesAt w ga exNs) (ho : OpsAt w sa exOps) :
    Calls Tryz.prog 6 #[.agg #[.slice ga 7 7, .int .i64 3], .int .i64 2, .slice sa 6 6, .int .i64 9] w fun e w' => e = .returned (.bool true) ∧ Bw w w' :=
  plays_any exNs ga sa 7 6 3 2 exOps w hn (by decide) ho exOps_in (by decide)
theorem runs_any (ns : List Nd) (ga sa : Option Addr) (gc sc : Nat) (r wk : Int) (ops : List OpR) (w : World) (hn : NodesAt w ga ns) (hl : ns.length * 40 ≤ 140737488351232) (ho : OpsAt w sa ops) (hor : ∀ j, j < ops.length → -9223372036854775808 ≤ (opn ops j).a ∧ (opn ops j).a ≤ 9223372036854775807 ∧ -9223372036854775808 ≤ (opn ops j).c ∧ (opn ops j).c ≤ 9223372036854775807) (hol : ops.length ≤ 199000) :
    Calls Tryz.prog 4 #[.agg #[.slice ga ns.length gc, .int .i64 r], .int .i64 wk, .slice sa ops.length sc] w fun e w' => e = .returned (.bool true) ∧ Bw w w' := by
  go_enter Tryz.func4, Tryz.ntmps4
  go_wp2_with fail
  refine (example_any _).mono ?_
  rintro e w1 ⟨g1, rfl, hg1, hb1, hB1⟩
  have hn1 := nodesAt_of_cells (Array.getElem?_eq_some_iff.1 hb1).1 (nodeCells_of_block hb1)
  have hB01 : Bw w w1 := (show Bw w _ from (by repeat first|exact br _|assumption|apply bd|apply bn|apply ba|refine bt ?_ (by assumption))).trans hB1
  have hbg := (Below.block hB1 w.heap.size (by simp)).trans (heap_alloc_new w _)
  have z0 := qQ (o := 0) hbg rfl
  have z1 := qQ (o := 1) hbg rfl
  have zl := (Array.getElem?_eq_some_iff.1 hbg).1
  clear hb1
  go_wp2_with fail
  refine (plays_ex _ _ _ (hn1.below (by repeat first|exact br _|assumption|apply bd|apply bn|apply ba|refine bt ?_ (by assumption))) (exOps_at (qY _ _ (by simp)))).mono ?_
  rintro e w2 ⟨rfl, hB2⟩
  have hB12 : Bw w1 w2 := (show Bw w1 _ from (by repeat first|exact br _|assumption|apply bd|apply bn|apply ba|refine bt ?_ (by assumption))).trans hB2
  have hbg2 := (Below.block hB12 _ zl).trans hbg
  have y0 := qQ (o := 0) hbg2 rfl
  have y1 := qQ (o := 1) hbg2 rfl
  have yl := (Array.getElem?_eq_some_iff.1 hbg2).1
  have hB02 := hB01.trans hB12
  clear z0 z1 zl hbg hbg2
  go_wp2_with fail
  refine (plays_any ns _ _ _ _ _ _ ops _ (hn.below (hB02.trans (by repeat first|exact br _|assumption|apply bd|apply bn|apply ba|refine bt ?_ (by assumption)))) hl (ho.below (hB02.trans (by repeat first|exact br _|assumption|apply bd|apply bn|apply ba|refine bt ?_ (by assumption)))) hor hol).mono ?_
  rintro e w3 ⟨rfl, hB3⟩
  go_wp2_with fail
  go_ret
  exact ⟨rfl, hB02.trans ((show Bw w2 _ from (by repeat first|exact br _|assumption|apply bd|apply bn|apply ba|refine bt ?_ (by assumption))).trans hB3)⟩
end Go.Proofs.YtfemleimkbjehaaGreat
namespace Go.Proofs.YtfemleimkbjehaaGreat
open Go.ChangeShapes Go.WideShapes Go.ChangeAt Go.RowKit Go.Joins Go.Deep
theorem Tryz.own : ownKnob Tryz.prog.godebug = none := by kernel_rfl
theorem Tryz.laidOut : laidOutB Tryz.prog = true := by kernel_rfl
theorem Tryz.cellsInt : Tryz.prog.cellsOf 3 = 1 := by kernel_rfl
theorem Tryz.cellsNode : Tryz.prog.cellsOf 46 = 5 := by kernel_rfl
theorem Tryz.cellsGraph : Tryz.prog.cellsOf 24 = 2 := by kernel_rfl
theorem Tryz.bytesNode : Tryz.prog.bytesOf 46 = 40 := by kernel_rfl
section
variable {H : Type} {enc : TypeId × Value → H} {w : World} {base : Nat} {spare : Nat → Bool} {held : Bool}
theorem yN {α β : Type} {f : α → Option β} {l : List α} {r : List β} (h : l.mapM f = some r) {i : Nat} {x : α} (hx : l[i]? = some x) : ∃ y, f x = some y := by
  have hlt : i < l.length := (List.getElem?_eq_some_iff.1 hx).1
  have hr := mapM_some_length h
  exact ⟨r[i]'(by omega), by rw [mapM_some_get h i x hx]; exact List.getElem?_eq_getElem _⟩
theorem list5 {α : Type} {l : List α} (h : l.length = 5) : ∃ a b c d e, l = [a, b, c, d, e] := by
  match l, h with
  | [a, b, c, d, e], _ => exact ⟨a, b, c, d, e, rfl⟩
theorem open_node {n : Nat} {cs : List Value} {y : DataW H × List MemPlace} (h : DataW.trod enc Tryz.prog w base spare held n 46 cs = some y) : ∃ x : Nd, cs = x.cells := by
  cases n with
  | zero => simp [DataW.trod] at h
  | succ n =>
    unfold DataW.trod at h
    rw [Tryz.underlying46] at h
    simp only at h
    rw [Tryz.cellsNode] at h
    split at h
    · rename_i hl
      obtain ⟨xs, hx, _⟩ := Option.map_eq_some_iff.1 h
      obtain ⟨c0, c1, c2, c3, c4, rfl⟩ := list5 hl
      obtain ⟨y0, e0⟩ := yN hx (i := 0) rfl
      obtain ⟨y1, e1⟩ := yN hx (i := 1) rfl
      obtain ⟨y2, e2⟩ := yN hx (i := 2) rfl
      obtain ⟨y3, e3⟩ := yN hx (i := 3) rfl
      obtain ⟨y4, e4⟩ := yN hx (i := 4) rfl
      obtain ⟨a0, f0, _⟩ := DataW.trod_int Tryz.underlying3 e0
      obtain ⟨a1, f1, _⟩ := DataW.trod_int Tryz.underlying3 e1
      obtain ⟨a2, f2, _⟩ := DataW.trod_int Tryz.underlying3 e2
      obtain ⟨a3, f3, _⟩ := DataW.trod_int Tryz.underlying3 e3
      obtain ⟨a4, f4, _⟩ := DataW.trod_int Tryz.underlying3 e4
      rw [Tryz.cellsInt] at f0 f1 f2 f3 f4
      simp at f0 f1 f2 f3 f4
      subst f0 f1 f2 f3 f4
      exact ⟨⟨a0, a1, a2, a3, a4⟩, rfl⟩
    · cases h
/-- A graph that came in, opened. -/
theorem open_graph {r : Reach} {b0 : Nat} {v : Value} {d : DataW H} {p : List MemPlace} (hv : Value.okWide Tryz.prog w r b0 24 v) (h : DataW.Trod enc Tryz.prog w base spare held 24 v d p) :
    ∃ (ga : Option Addr) (ns : List Nd) (gc : Nat) (rr : Int), v = .agg #[.slice ga ns.length gc, .int .i64 rr] ∧ NodesAt w ga ns ∧
      ∀ (ts : List TypeId) (ds : List (DataW H)) (j : Nat), (DataW.weightsEach Tryz.prog ts ds).all (· ≤ reachBytes) = true → ts[j]? = some 24 → ds[j]? = some d → ns.length * 40 ≤ 140737488351232 := by
  obtain ⟨c0, c1, y0, y1, m, rfl, rfl, rfl, hy0, hy1⟩ := open_agg2 Tryz.underlying24 (by kernel_rfl) Tryz.cellsGraph hv h
  obtain ⟨rr, e1, _, _⟩ := DataW.trod_int Tryz.underlying3 hy1
  simp at e1
  subst e1
  rcases open_slice Tryz.underlying22 hy0 with ⟨hcs, hx⟩ | ⟨a, len, cap, m, n, D, Pl, hcs, hb, hl, hm, hmm, hx, hel⟩
  · simp at hcs
    subst hcs
    exact ⟨none, [], 0, rr, rfl, fun i hi => absurd hi (Nat.not_lt_zero i), fun _ _ _ _ _ _ => by simp⟩
  · simp at hcs
    subst hcs
    have hlm : len ≤ m := by rw [hmm]; split <;> omega
    rw [Tryz.cellsNode] at hel
    haveI : Inhabited Nd := ⟨⟨0, 0, 0, 0, 0⟩⟩
    obtain ⟨X, hX⟩ := choose_lt (α := Nd) (n := len) (p := fun i x => w.cells? base (a.add (i * 5)) 5 = some x.cells) (fun i hi => by
      obtain ⟨cs', h1, h2⟩ := hel i (by omega)
      obtain ⟨x, rfl⟩ := open_node h2
      exact ⟨x, h1⟩)
    have hlen : ((List.range len).map X).length = len := by simp
    refine ⟨some a, (List.range len).map X, cap, rr, by rw [hlen], ?_, ?_⟩
    · intro i hi
      rw [hlen] at hi
      have hcell : ∀ j, j < len → ∀ f, f < 5 → w.cell? ((a.add (j * 5)).add f) = (X j).cells[f]? := fun j hj f hf => (World.cells?_some (hX j hj)).2.2 f hf
      obtain ⟨b, off, spot⟩ := a
      have hspot : spot = none := by
        have := hcell 0 (by omega) 0 (by omega)
        simp only [Nat.zero_mul] at this
        exact World.cell?_spot (a := ⟨b, off, spot⟩) (v := .int .i64 (X 0).kind) (by simpa [Addr.add, Nd.cells] using this)
      subst hspot
      have hnd : ∀ j, j < len → qT ((List.range len).map X) j = X j := by
        intro j hj
        rw [ndn_lt (by simpa using hj)]
        simp
      have hc2 : ∀ j, j < len → ∀ f, f < 5 → w.cell? ⟨b, off + j * 5 + f, none⟩ = (X j).cells[f]? := by
        intro j hj f hf
        have := hcell j hj f hf
        rw [Go.WideShapes.add_plain, Go.WideShapes.add_plain] at this
        exact this
      refine ⟨b, off, rfl, ?_, ?_⟩
      · have := hc2 i hi 0 (by omega)
        exact World.block_lt_of_cell? w ⟨b, off + i * 5 + 0, none⟩ (this.trans rfl)
      · intro j hj
        rw [hlen] at hj
        rw [hnd j hj]
        exact ⟨hc2 j hj 0 (by omega), hc2 j hj 1 (by omega), hc2 j hj 2 (by omega), hc2 j hj 3 (by omega), hc2 j hj 4 (by omega)⟩
    · intro ts ds j hw ht hd
      rw [hlen]
      have hmem := DataW.weights_mem_each (P := Tryz.prog) ht hd
      have : (len + (m - len)) * Tryz.prog.bytesOf 46 ∈ DataW.weightsEach Tryz.prog ts ds := by
        refine hmem _ ?_
        rw [hx]
        simp [DataW.weights, Tryz.underlying24, DataW.weightsEach, Tryz.underlying22]
      have hle := of_decide_eq_true (List.all_eq_true.1 hw _ this)
      rw [Tryz.bytesNode] at hle
      unfold reachBytes at hle
      omega
end
theorem lit64 {n : Int} (h : (Lit.int .i64 n).wf = true) : I64 n := by
  have h' : (decide ((-9223372036854775808 : Int) ≤ n) && decide (n ≤ 9223372036854775807)) = true := h
  simpa [I64] using h'
section
variable {H : Type} {enc : TypeId × Value → H} {w : World} {base : Nat} {spare : Nat → Bool} {held : Bool}
end
theorem bulk_one {H : Type} (d : DataW H) : 1 ≤ Rows.uptoBulk d := by
  cases d with
  | lit l => cases l <;> simp [Rows.uptoBulk]
  | _ => simp [Rows.uptoBulk]
theorem bulk_all {H : Type} (c : Nat) : ∀ (l : List (DataW H)), (∀ d ∈ l, c ≤ Rows.uptoBulk d) → c * l.length ≤ Rows.uptoBulkAll l := by
  intro l
  induction l with
  | nil => intro _; simp
  | cons x r ih =>
    intro h
    have h1 := h x (by simp)
    have h2 := ih fun d hd => h d (by simp [hd])
    simp only [Rows.uptoBulkAll, List.length_cons, Nat.mul_add, Nat.mul_one]
    omega
theorem bulk_mem {H : Type} {d : DataW H} : ∀ {l : List (DataW H)}, d ∈ l → Rows.uptoBulk d ≤ Rows.uptoBulkAll l := by
  intro l
  induction l with
  | nil => intro h; cases h
  | cons x r ih =>
    intro h
    simp only [Rows.uptoBulkAll]
    rcases List.mem_cons.1 h with e | e
    · subst e; omega
    · have := ih e; omega
def OpR.cells (x : OpR) : List Value := [.int .i64 x.kd, .int .i64 x.a, .int .i64 x.b, .int .i64 x.c, .int .i64 x.h]
theorem wf_i64 {n : Int} (h : (Lit.int .i64 n).wf = true) : -9223372036854775808 ≤ n ∧ n ≤ 9223372036854775807 := by
  exact lit64 h
theorem opn_lt {l : List OpR} {k : Nat} (h : k < l.length) : opn l k = l[k] := getD_lt _ _ h
theorem Tryz.cellsOp : Tryz.prog.cellsOf 31 = 5 := by kernel_rfl
section
variable {H : Type} {enc : TypeId × Value → H} {w : World} {base : Nat} {spare : Nat → Bool} {held : Bool}
theorem open_op {n : Nat} {cs : List Value} {y : DataW H × List MemPlace} (h : DataW.trod enc Tryz.prog w base spare held n 31 cs = some y) : ∃ x : OpR, cs = x.cells ∧ (-9223372036854775808 ≤ x.a ∧ x.a ≤ 9223372036854775807 ∧ -9223372036854775808 ≤ x.c ∧ x.c ≤ 9223372036854775807) ∧ 6 ≤ Rows.uptoBulk y.1 := by
  cases n with
  | zero => simp [DataW.trod] at h
  | succ n =>
    unfold DataW.trod at h
    rw [Tryz.underlying31] at h
    simp only at h
    rw [Tryz.cellsOp] at h
    split at h
    · rename_i hl
      obtain ⟨xs, hx, hy⟩ := Option.map_eq_some_iff.1 h
      have hxl := mapM_some_length hx
      obtain ⟨c0, c1, c2, c3, c4, rfl⟩ := list5 hl
      obtain ⟨y0, e0⟩ := yN hx (i := 0) rfl
      obtain ⟨y1, e1⟩ := yN hx (i := 1) rfl
      obtain ⟨y2, e2⟩ := yN hx (i := 2) rfl
      obtain ⟨y3, e3⟩ := yN hx (i := 3) rfl
      obtain ⟨y4, e4⟩ := yN hx (i := 4) rfl
      obtain ⟨a0, f0, _, g0⟩ := DataW.trod_int Tryz.underlying3 e0
      obtain ⟨a1, f1, _, g1⟩ := DataW.trod_int Tryz.underlying3 e1
      obtain ⟨a2, f2, _, g2⟩ := DataW.trod_int Tryz.underlying3 e2
      obtain ⟨a3, f3, _, g3⟩ := DataW.trod_int Tryz.underlying3 e3
      obtain ⟨a4, f4, _, g4⟩ := DataW.trod_int Tryz.underlying3 e4
      rw [Tryz.cellsInt] at f0 f1 f2 f3 f4
      simp at f0 f1 f2 f3 f4
      subst f0 f1 f2 f3 f4
      refine ⟨⟨a0, a1, a2, a3, a4⟩, rfl, ⟨(wf_i64 g1).1, (wf_i64 g1).2, (wf_i64 g3).1, (wf_i64 g3).2⟩, ?_⟩
      have h5 : xs.length = 5 := by simpa using hxl
      rw [← hy]
      have := bulk_all 1 (xs.map (·.1)) (fun d _ => bulk_one d)
      simp only [Rows.uptoBulk]
      simp at this ⊢
      omega
    · cases h
/-- A script that came in, opened. -/
theorem open_ops {r : Reach} {b0 : Nat} {v : Value} {d : DataW H} {p : List MemPlace} (hv : Value.okWide Tryz.prog w r b0 25 v) (h : DataW.Trod enc Tryz.prog w base spare held 25 v d p) :
    ∃ (va : Option Addr) (ops : List OpR) (vc : Nat), v = .slice va ops.length vc ∧ OpsAt w va ops ∧ (∀ j, j < ops.length → -9223372036854775808 ≤ (opn ops j).a ∧ (opn ops j).a ≤ 9223372036854775807 ∧ -9223372036854775808 ≤ (opn ops j).c ∧ (opn ops j).c ≤ 9223372036854775807) ∧ 6 * ops.length ≤ Rows.uptoBulk d := by
  obtain ⟨a0, l0, k0, rfl⟩ := okWide_slice Tryz.underlying25 hv
  obtain ⟨fuel, hf⟩ := h
  rcases open_slice Tryz.underlying25 hf with ⟨hcs, hx⟩ | ⟨a, len, cap, m, n, D, Pl, hcs, hb, hl, hm, hmm, hx, hel⟩
  · simp [Value.cells] at hcs
    obtain ⟨rfl, rfl, rfl⟩ := hcs
    exact ⟨none, [], 0, rfl, fun i hi => absurd hi (Nat.not_lt_zero i), fun i hi => absurd hi (Nat.not_lt_zero i), by simp⟩
  · simp [Value.cells] at hcs
    obtain ⟨rfl, rfl, rfl⟩ := hcs
    have hlm : l0 ≤ m := by rw [hmm]; split <;> omega
    rw [Tryz.cellsOp] at hel
    haveI : Inhabited OpR := ⟨⟨0, 0, 0, 0, 0⟩⟩
    obtain ⟨X, hX⟩ := choose_lt (α := OpR) (n := l0) (p := fun i x => w.cells? base (a.add (i * 5)) 5 = some x.cells ∧ (-9223372036854775808 ≤ x.a ∧ x.a ≤ 9223372036854775807 ∧ -9223372036854775808 ≤ x.c ∧ x.c ≤ 9223372036854775807)) (fun i hi => by
      obtain ⟨cs', h1, h2⟩ := hel i (by omega)
      obtain ⟨x, rfl, hr, hx⟩ := open_op h2
      exact ⟨x, h1, hr⟩)
    have hlen : ((List.range l0).map X).length = l0 := by simp
    refine ⟨some a, (List.range l0).map X, k0, by rw [hlen], ?_, fun j hj => ?_, ?_⟩
    · intro i hi
      rw [hlen] at hi
      have hcell : ∀ j, j < l0 → ∀ f, f < 5 → w.cell? ((a.add (j * 5)).add f) = (X j).cells[f]? := fun j hj f hf => (World.cells?_some (hX j hj).1).2.2 f hf
      obtain ⟨b, off, spot⟩ := a
      have hspot : spot = none := by
        have := hcell 0 (by omega) 0 (by omega)
        simp only [Nat.zero_mul] at this
        exact World.cell?_spot (a := ⟨b, off, spot⟩) (v := .int .i64 (X 0).kd) (by simpa [Addr.add, OpR.cells] using this)
      subst hspot
      have hnd : ∀ j, j < l0 → opn ((List.range l0).map X) j = X j := by
        intro j hj
        rw [opn_lt (by simpa using hj)]
        simp
      have hc2 : ∀ j, j < l0 → ∀ f, f < 5 → w.cell? ⟨b, off + j * 5 + f, none⟩ = (X j).cells[f]? := by
        intro j hj f hf
        have := hcell j hj f hf
        rw [Go.WideShapes.add_plain, Go.WideShapes.add_plain] at this
        exact this
      refine ⟨b, off, rfl, ?_, ?_⟩
      · have := hc2 i hi 0 (by omega)
        exact World.block_lt_of_cell? w ⟨b, off + i * 5 + 0, none⟩ (this.trans rfl)
      · intro j hj
        rw [hlen] at hj
        rw [hnd j hj]
        exact ⟨hc2 j hj 0 (by omega), hc2 j hj 1 (by omega), hc2 j hj 2 (by omega), hc2 j hj 3 (by omega), hc2 j hj 4 (by omega)⟩
    · rw [hlen] at hj
      rw [opn_lt (by simpa using hj)]
      simpa using (hX j hj).2
    · rw [hlen]
      simp only [Prod.mk.injEq] at hx
      rw [hx.1]
      have := bulk_all 6 ((List.range l0).map D) (fun d hd => by
        obtain ⟨i, hi, rfl⟩ := List.mem_map.1 hd
        obtain ⟨cs', _, h2⟩ := hel i (by have := List.mem_range.1 hi; omega)
        obtain ⟨_, _, _, h6⟩ := open_op h2
        exact h6)
      rw [List.length_map, List.length_range] at this
      simp only [Rows.uptoBulk]
      omega
end
theorem runs_lifted (os : Os) (started : os.Started) (H : Type) (enc : TypeId × Value → H) (F : Stop.Interp) :
    ReturnsInHanded {} Tryz.checked os 4 .any ((Rows.OpenSpec.upto Rows.runsSpec).pre6 enc Tryz.prog Tryz.f4 Rows.runsUptoRow.domain false) (((Rows.OpenSpec.upto Rows.runsSpec).at F).post enc Tryz.prog Tryz.f4 false true false false) := by
  refine returnsInHanded_of_cond_sized (C := Tryz.checked) (s := Rows.OpenSpec.upto Rows.runsSpec) (k := Rows.uptoSmall) rfl Tryz.own started (by kernel_rfl) Tryz.func4
    (OpenSpec.witness (enc := enc) (C := Tryz.checked) (s := Rows.OpenSpec.upto Rows.runsSpec) (k := Rows.uptoSmall) rfl false ⟨#[], #[.agg #[.slice none 0 0, .int .i64 0], .int .i64 0, .slice none 0 0], []⟩ 8 (by kernel_rfl) (by kernel_rfl) (by kernel_rfl)
      (x := ([.agg [.nil, .lit (.int .i64 0)], .lit (.int .i64 0), .nil], [], [])) (by kernel_rfl) rfl (by kernel_rfl)) ?_
  intro W base args ds gs before hval0 hW _ hk hsz0 _
  have hsz : (DataW.weightsEach Tryz.prog (Tryz.f4.params.toList ++ Rows.runsSpec.plain.varTypes Tryz.prog) (ds ++ gs)).all (· ≤ reachBytes) = true := hsz0
  clear hsz0
  have hval : ∀ (j : Nat) t v, Tryz.f4.params[j]? = some t → args[j]? = some v → Value.okWide Tryz.prog W .any base t v := hval0
  have hW' := hW
  obtain ⟨p, q, hA0, hV, rfl, _, _⟩ := hW
  have hA : DataW.TrodAll enc Tryz.prog W 0 (fun _ => true) true Tryz.f4.params.toList args.toList ds p := hA0
  rw [Tryz.params4] at hA hval hsz
  obtain ⟨v0, v1, v2, d0, d1, d2, p0, p1, p2, rfl, rfl, rfl, h0, h1, h2⟩ := trodAll_three hA
  obtain ⟨rfl, rfl⟩ := trodVars_none hV
  have h0k := h0
  have h2k := h2
  obtain ⟨n, rfl, rfl, rfl, wn⟩ := open_int Tryz.underlying3 (hval 1 3 v1 rfl rfl) h1
  obtain ⟨va, ops, vc, rfl, hops, hopr, hbulk⟩ := open_ops (hval 2 25 v2 rfl rfl) h2
  obtain ⟨ga, ns, gc, rr, rfl, hn, hsize⟩ := open_graph (hval 0 24 v0 rfl rfl) h0
  have hl := hsize _ _ 0 hsz rfl rfl
  have hol : ops.length ≤ 199000 := by
    have h3 : Rows.uptoBulkAll ([d0, DataW.lit (.int .i64 n), d2] ++ []) ≤ 1048576 := of_decide_eq_true hk
    have h4 : Rows.uptoBulk d2 ≤ Rows.uptoBulkAll ([d0, DataW.lit (.int .i64 n), d2] ++ []) := bulk_mem (by simp)
    omega
  clear hA0 hval0
  simp only [List.append_nil] at hW'
  have hlt : ∀ x ∈ p0, x.block < W.heap.size := fun x hx => by simpa using hW'.lt x (by simp [hx])
  have hlt2 : ∀ x ∈ p2, x.block < W.heap.size := fun x hx => by simpa using hW'.lt x (by simp [hx])
  refine (runs_any ns ga va gc vc rr n ops W hn hl hops hopr hol).mono fun e W' ⟨he, hb⟩ => ?_
  subst he
  refine ⟨_, rfl, _, _, _, [], p0 ++ p2, [], hW', ?_, ?_, rfl, Below.frame hb _, fun h => by cases h⟩
  · exact trodAll_mk1 (shut_bool Tryz.underlying4 true)
  · have := trodAll_mk3 (Below.trod Tryz.laidOut (by kernel_rfl) (of_decide_eq_true (by kernel_rfl)) h0k hb hlt) (shut_int (enc := enc) (w := W') (base := 0) (spare := fun b => decide (b < W.heap.size)) (held := true) Tryz.underlying3 wn) (Below.trod Tryz.laidOut (by kernel_rfl) (of_decide_eq_true (by kernel_rfl)) h2k hb hlt2)
    have this' : DataW.TrodAll enc Tryz.prog W' 0 (fun b => decide (b < W.heap.size)) true [24, 3, 25] [.agg #[.slice ga ns.length gc, .int .i64 rr], .int .i64 n, .slice va ops.length vc] [d0, .lit (.int .i64 n), d2] (p0 ++ p2) := by simpa using this
    exact this'
theorem runs_holds : Rows.RunsUptoSaid :=
  OpenClaim.holds_of_cond 4 Tryz.f4 rfl rfl rfl rfl rfl rfl rfl ⟨rfl, rfl, rfl, rfl, rfl⟩ rfl rfl rfl rfl rfl (by kernel_rfl) Tryz.func4 (by kernel_rfl)
    (of_decide_eq_true (by kernel_rfl)) (by unfold Func.isWrapper; rw [if_neg (of_decide_eq_false (by kernel_rfl))]; exact ⟨rfl, rfl⟩)
    (fun os started H enc _ F => runs_lifted os started H enc F)
end Go.Proofs.YtfemleimkbjehaaGreat
