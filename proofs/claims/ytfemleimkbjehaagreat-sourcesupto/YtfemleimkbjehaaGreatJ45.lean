import Derived.Test.YtfemleimkbjehaaGreatJ44
import Derived.Test.YtfemleimkbjehaaGreatJ10
import Derived.Test.YtfemleimkbjehaaGreatJ8
import Derived.ProofKit
import Derived.SizedLaws
import Derived.Lib.SmallJoins
import Derived.Deep.Slices
namespace Go.Proofs.YtfemleimkbjehaaGreat
set_option linter.unusedVariables false
set_option linter.unusedSimpArgs false
open Go.RowKit

theorem ptn_app {ps : List Pt} {p : Pt} {i : Nat} (hi : i < ps.length) : ptn (ps ++ [p]) i = ptn ps i := by simp [ptn, List.getD, List.getElem?_append_left hi]
theorem ptn_last (ps : List Pt) (p : Pt) : ptn (ps ++ [p]) ps.length = p := by simp [ptn, List.getD]
theorem tabPts_app (R : Nat) (t : Nat → Int) (ps : List Pt) (p : Pt) : ∀ k, k ≤ ps.length → tabPts R t (ps ++ [p]) k = tabPts R t ps k := by
  intro k
  induction k with
  | zero => intro _; rfl
  | succ k ih => intro hk; rw [tabPts, tabPts, ih (by omega), ptn_app (by omega)]
theorem tabPts_snoc (R : Nat) (t : Nat → Int) (ps : List Pt) (p : Pt) : tabPts R t (ps ++ [p]) (ps ++ [p]).length = updT (tabPts R t ps ps.length) (spP R p) (wrap64 (tabPts R t ps ps.length (spP R p) + p.count)) := by
  rw [List.length_append, List.length_singleton, tabPts, tabPts_app R t ps p _ (Nat.le_refl _), ptn_last]
theorem tabSrc_far (ns : List Nd) (W : Nat) : ∀ k n, k ≤ n → tabSrc ns 4 W k (spotN 4 n 0 0 true) = 0 := by
  intro k
  induction k with
  | zero => intro n _; rfl
  | succ k ih =>
    intro n hn
    unfold tabSrc
    split
    · rw [updT_ne _ _ (fun e => by have := spotN_inj (R := 4) ⟨by omega, by omega⟩ (by omega) (by omega) (by omega) (by omega) e; omega)]
      exact ih n (by omega)
    · exact ih n (by omega)
theorem begT_eq (ns : List Nd) (W : Nat) (hW : W ≤ 4) : ∀ k, tabPts 4 (fun _ => 0) (begL ns W k) (begL ns W k).length = tabSrc ns 4 W k := by
  intro k
  induction k with
  | zero => rfl
  | succ k ih =>
    unfold begL tabSrc
    split
    · rw [tabPts_snoc, ih]
      have e : spP 4 ⟨(k : Int), true, 0, 0, (W : Int)⟩ = spotN 4 k 0 0 true := rfl
      rw [e, tabSrc_far ns W k k (Nat.le_refl _)]
      congr 1
      simp only
      unfold wrap64
      omega
    · exact ih
/-- The program's run at its beginning is the reference's. -/
theorem POwn.begun {w : World} {S : Nat → Prop} {pb : Nat} {x : PX} {ns : List Nd} {R W : Nat} {D : Nat → Nat → Int} (h : POwn w S pb x ns R W D (pst0 (begT ns W))) : POwn w S pb x ns R W D (pstOf ns W rst0 0) := by
  have hW := h.small
  refine h.congr (fun i n _ _ => ⟨rfl, rfl, rfl⟩) (fun i _ k _ => ?_) rfl (Nat.le_refl _) ⟨fun i n => by simp [pstOf, rst0, waitL, waitTo], by simp [pstOf]⟩
  simp only [pstOf, pst0, rst0, tabLog, List.length_nil]
  unfold begT
  rw [begT_eq ns W (by omega)]
/-- Two runs in step, at their beginning. -/
theorem Duo.begun {w : World} {K Sp Sr : Nat → Prop} {lb pb rb : Nat} {xp : PX} {xr : RX} {x : LX} {ns : List Nd} {R W : Nat} (hL : LW w K lb pb rb x 0 ⟨[], [], [], []⟩) (hP : POwn w Sp pb xp ns R W (farD ns) (pst0 (begT ns W))) (hR : ROwn w Sr rb xr ns R W (farD ns) rst0) (h1 : ∀ b, K b → ¬ Sp b ∧ ¬ Sr b) (h2 : ∀ b, Sp b → ¬ Sr b) : Duo w K Sp Sr lb pb rb xp xr x 0 ⟨[], [], [], []⟩ ns R W rst0 0 0 :=
  ⟨hL, hP.begun, hR, Inv.zero ns R W, fun b hb => (h1 b hb).1, fun b hb => (h1 b hb).2, h2, by omega, ⟨by omega, by omega⟩, by simp⟩
end Go.Proofs.YtfemleimkbjehaaGreat
namespace Go.Proofs.YtfemleimkbjehaaGreat
set_option linter.unusedVariables false
set_option linter.unusedSimpArgs false
open Go.RowKit

/-- One step of a script. -/
structure OpR where
  kd : Int
  a : Int
  b : Int
  c : Int
  h : Int
def opn (l : List OpR) (k : Nat) : OpR := l.getD k ⟨0, 0, 0, 0, 0⟩
def OpsAt (w : World) (ad : Option Addr) (l : List OpR) : Prop :=
  ∀ i, i < l.length → ∃ b off, ad = some ⟨b, off, none⟩ ∧ b < w.heap.size ∧ ∀ j, j < l.length →
    w.cell? ⟨b, off + j * 5, none⟩ = some (.int .i64 (opn l j).kd) ∧ w.cell? ⟨b, off + j * 5 + 1, none⟩ = some (.int .i64 (opn l j).a) ∧ w.cell? ⟨b, off + j * 5 + 2, none⟩ = some (.int .i64 (opn l j).b) ∧
    w.cell? ⟨b, off + j * 5 + 3, none⟩ = some (.int .i64 (opn l j).c) ∧ w.cell? ⟨b, off + j * 5 + 4, none⟩ = some (.int .i64 (opn l j).h)
theorem OpsAt.below {w w' : World} {ad : Option Addr} {l : List OpR} (h : OpsAt w ad l) (hb : Bw w w') : OpsAt w' ad l := by
  intro i hi
  obtain ⟨b, off, e, hlt, hc⟩ := h i hi
  refine ⟨b, off, e, Nat.lt_of_lt_of_le hlt hb.size, fun j hj => ?_⟩
  obtain ⟨q, _⟩ := bcell hb
  obtain ⟨c0, c1, c2, c3, c4⟩ := hc j hj
  exact ⟨(q _ _ hlt).trans c0, (q _ _ hlt).trans c1, (q _ _ hlt).trans c2, (q _ _ hlt).trans c3, (q _ _ hlt).trans c4⟩
theorem Duo.setCnt {w : World} {K Sp Sr : Nat → Prop} {lb pb rb : Nat} {xp : PX} {xr : RX} {x : LX} {cnt c : Int} {l : LL} {ns : List Nd} {R W : Nat} {st : RSt} {lim k : Nat} (h : Duo w K Sp Sr lb pb rb xp xr x cnt l ns R W st lim k) (hc : 0 ≤ c ∧ c ≤ 1048576) : Duo (w.setCell ⟨lb, 2, none⟩ (.int .i64 c)) K Sp Sr lb pb rb xp xr x c l ns R W st lim k :=
  ⟨h.lw.setCnt, h.po.other (chg_set _ _ _ _) (fun b hb e => h.kp lb h.lw.kroot (e ▸ hb)), h.ro.other (chg_set _ _ _ _) (fun b hb e => h.kr lb h.lw.kroot (e ▸ hb)), h.inv, h.kp, h.kr, h.pr, h.lm, ⟨hc.1, by omega⟩, h.km⟩
/-- Two of them side by side, with nothing in common, both behind w. -/
def Two (w wr : World) (l1 l2 : Nat) (ns : List Nd) (R W k : Nat) : Prop :=
  (∃ U1 U2 : Nat → Prop, (∃ K Sp Sr pb rb xp xr x cnt l st lim, Duo wr K Sp Sr l1 pb rb xp xr x cnt l ns R W st lim k ∧ U1 = uni K Sp Sr) ∧ (∃ K Sp Sr pb rb xp xr x cnt l st lim, Duo wr K Sp Sr l2 pb rb xp xr x cnt l ns R W st lim k ∧ U2 = uni K Sp Sr) ∧ (∀ b, U1 b → ¬ U2 b) ∧ (∀ b, U1 b → w.heap.size ≤ b) ∧ ∀ b, U2 b → w.heap.size ≤ b) ∧ Bw w wr
theorem Two.bw {w a b : World} {l1 l2 : Nat} {ns : List Nd} {R W k : Nat} (h : Two w a l1 l2 ns R W k) (hb : Bw a b) : Two w b l1 l2 ns R W k := by
  obtain ⟨⟨U1, U2, ⟨K, Sp, Sr, pb, rb, xp, xr, x, cnt, l, st, lim, hD, e1⟩, ⟨K', Sp', Sr', pb', rb', xp', xr', x', cnt', l', st', lim', hD', e2⟩, d, z1, z2⟩, hB⟩ := h
  exact ⟨⟨U1, U2, ⟨K, Sp, Sr, pb, rb, xp, xr, x, cnt, l, st, lim, hD.bw hb, e1⟩, ⟨K', Sp', Sr', pb', rb', xp', xr', x', cnt', l', st', lim', hD'.bw hb, e2⟩, d, z1, z2⟩, hB.trans hb⟩
theorem Two.more {w a : World} {l1 l2 : Nat} {ns : List Nd} {R W k : Nat} (h : Two w a l1 l2 ns R W k) : Two w a l1 l2 ns R W (k + 1) := by
  obtain ⟨⟨U1, U2, ⟨K, Sp, Sr, pb, rb, xp, xr, x, cnt, l, st, lim, hD, e1⟩, ⟨K', Sp', Sr', pb', rb', xp', xr', x', cnt', l', st', lim', hD', e2⟩, d, z1, z2⟩, hB⟩ := h
  exact ⟨⟨U1, U2, ⟨K, Sp, Sr, pb, rb, xp, xr, x, cnt, l, st, lim, hD.more, e1⟩, ⟨K', Sp', Sr', pb', rb', xp', xr', x', cnt', l', st', lim', hD'.more, e2⟩, d, z1, z2⟩, hB⟩
theorem Two.upTo {w a : World} {l1 l2 : Nat} {ns : List Nd} {R W k : Nat} (h : Two w a l1 l2 ns R W k) : ∀ d, Two w a l1 l2 ns R W (k + d) := by
  intro d
  induction d with
  | zero => exact h
  | succ d ih => exact ih.more
theorem Two.swap {w a : World} {l1 l2 : Nat} {ns : List Nd} {R W k : Nat} (h : Two w a l1 l2 ns R W k) : Two w a l2 l1 ns R W k := by
  obtain ⟨⟨U1, U2, h1, h2, d, z1, z2⟩, hB⟩ := h
  exact ⟨⟨U2, U1, h2, h1, fun b hb hc => d b hc hb, z2, z1⟩, hB⟩
/-- What the first can do. -/
theorem Two.first {w a : World} {l1 l2 : Nat} {ns : List Nd} {R W k : Nat} (h : Two w a l1 l2 ns R W k) : ∃ K Sp Sr pb rb xp xr x cnt l st lim, Duo a K Sp Sr l1 pb rb xp xr x cnt l ns R W st lim k ∧ ∀ w' d, Duo.After a w' (uni K Sp Sr) l1 ns R W (k + d) → Two w w' l1 l2 ns R W (k + d) := by
  obtain ⟨⟨U1, U2, ⟨K, Sp, Sr, pb, rb, xp, xr, x, cnt, l, st, lim, hD, e1⟩, ⟨K', Sp', Sr', pb', rb', xp', xr', x', cnt', l', st', lim', hD', e2⟩, dj, z1, z2⟩, hB⟩ := h
  refine ⟨K, Sp, Sr, pb, rb, xp, xr, x, cnt, l, st, lim, hD, fun w' d hA => ?_⟩
  obtain ⟨K2, Sp2, Sr2, pb2, rb2, xp2, xr2, x2, cnt2, l2', st2, lim2, hD2, hC, hU⟩ := hA
  subst e1
  have hz := hB.size
  have lt2 := hD'.lt
  have hBw : Bw w w' := Chg.toBw hB hC z1
  have hD3 := hD'.frame hC (fun b hb hc => dj b hc (e2 ▸ hb))
  have hup : ∀ n, Duo w' K' Sp' Sr' l2 pb' rb' xp' xr' x' cnt' l' ns R W st' lim' (k + n) := by
    intro n
    induction n with
    | zero => exact hD3
    | succ n ih => exact ih.more
  refine ⟨⟨uni K2 Sp2 Sr2, U2, ⟨K2, Sp2, Sr2, pb2, rb2, xp2, xr2, x2, cnt2, l2', st2, lim2, hD2, rfl⟩, ⟨K', Sp', Sr', pb', rb', xp', xr', x', cnt', l', st', lim', hup d, e2⟩, fun b hb hc => ?_, fun b hb => ?_, z2⟩, hBw⟩
  · rcases hU b hb with h1 | h1
    · exact dj b h1 hc
    · have := lt2 b (e2 ▸ hc); omega
  · rcases hU b hb with h1 | h1
    · exact z1 b h1
    · omega
end Go.Proofs.YtfemleimkbjehaaGreat
namespace Go.Proofs.YtfemleimkbjehaaGreat
set_option linter.unusedVariables false
set_option linter.unusedSimpArgs false
open Go.RowKit

theorem check_wf {ns : List Nd} {r : Int} (h : checkE ns r = 0) : wfB ns r = true := by
  unfold checkE at h
  split at h
  · assumption
  · simp at h
theorem wf_sum {ns : List Nd} {r : Int} (h : wfB ns r = true) {k : Nat} (hk : k < ns.length) (h6 : (ndn ns k).kind = 6) : 1 ≤ (ndn ns k).k ∧ (ndn ns k).k ≤ 8 := by
  have h1 : wfTo ns ns.length = true := by simp [wfB] at h; exact h.1.2
  have h2 := wfTo_get h1 k hk
  unfold wfNodeB at h2
  simp [h6] at h2
  omega
theorem newE_zero {ns : List Nd} {r wk : Int} (h : newE ns r wk = 0) : checkE ns r = 0 ∧ ∃ R W : Nat, r = R ∧ wk = W ∧ 1 ≤ ns.length ∧ ns.length ≤ 8 ∧ 1 ≤ R ∧ R ≤ 4 ∧ 1 ≤ W ∧ W ≤ 4 := by
  unfold newE at h
  rw [refE_checkE] at h
  split at h
  · rename_i h1; simp at h1; exact absurd h h1
  · rename_i h1
    have hc : checkE ns r = 0 := by simpa using h1
    have hw := check_wf hc
    simp [wfB] at hw
    split at h
    · cases h
    · rename_i h2
      simp at h2
      exact ⟨hc, r.toNat, wk.toNat, by omega, by omega, by omega, by omega, by omega, by omega, by omega, by omega⟩

set_option maxRecDepth 100000 in
set_option maxHeartbeats 8000000 in
theorem plays_bad (ns : List Nd) (ga sa : Option Addr) (gc sl sc : Nat) (r wk last : Int) (w : World) (hn : NodesAt w ga ns) (hl : ns.length * 40 ≤ 140737488351232) (hE : newE ns r wk ≠ 0) :
    Calls Tryz.prog 6 #[.agg #[.slice ga ns.length gc, .int .i64 r], .int .i64 wk, .slice sa sl sc, .int .i64 last] w fun e w' => e = .returned (.bool true) ∧ Bw w w' := by
  go_enter Tryz.func6, Tryz.ntmps6
  go_wp2_with fail
  refine (lbegin_bad ns _ _ _ _ _ (hn.below (by repeat (first | exact Bw.refl _ | assumption | refine Bw.drew ?_ | refine Bw.drewN ?_ _ | refine Bw.alloc ?_ _ | refine Bw.trans ?_ (by assumption)))) hl hE).mono ?_
  rintro e w1 ⟨rfl, hb1⟩
  go_wp2_with fail
  go_ret
  exact ⟨rfl, (by repeat (first | exact Bw.refl _ | assumption | refine Bw.drew ?_ | refine Bw.drewN ?_ _ | refine Bw.alloc ?_ _ | refine Bw.trans ?_ (by assumption)))⟩

set_option maxRecDepth 100000 in
set_option maxHeartbeats 8000000 in
theorem plays_ok (ns : List Nd) (ga sa : Option Addr) (gc sc : Nat) (R W : Nat) (ops : List OpR) (w : World) (hn : NodesAt w ga ns) (ho : OpsAt w sa ops) (hol : ops.length ≤ 199000) (hE : checkE ns R = 0) (h1 : 1 ≤ ns.length) (h8 : ns.length ≤ 8) (hW1 : 1 ≤ W) (hW4 : W ≤ 4) (hR1 : 1 ≤ R) (hR4 : R ≤ 4) :
    Calls Tryz.prog 6 #[.agg #[.slice ga ns.length gc, .int .i64 (R : Int)], .int .i64 (W : Int), .slice sa ops.length sc, .int .i64 6] w fun e w' => e = .returned (.bool true) ∧ Bw w w' := by
  have H6 : Hid (∀ k, k < ns.length → (ndn ns k).kind = 6 → 1 ≤ (ndn ns k).k ∧ (ndn ns k).k ≤ 8) := hide fun k hk h6 => wf_sum (check_wf hE) hk h6
  go_enter Tryz.func6, Tryz.ntmps6
  go_wp2_with fail
  refine (lbegin_ok ns _ _ _ _ _ (hn.below (by repeat (first | exact Bw.refl _ | assumption | refine Bw.drew ?_ | refine Bw.drewN ?_ _ | refine Bw.alloc ?_ _ | refine Bw.trans ?_ (by assumption)))) hE h1 h8 hW1 hW4 hR1 hR4).mono ?_
  rintro e w1 ⟨lb, pb, rb, xp, xr, x, Sp, Sr, K, rfl, hL, hP, hR, d1, d2, d3, hb1⟩
  obtain ⟨q1, q2⟩ := bcell hb1
  have hz1 : w.heap.size < w1.heap.size := (by have := hb1.size; (try simp at this); omega)
  go_wp2_with fail
  refine (lbegin_ok ns _ _ _ _ _ (hn.below (by repeat (first | exact Bw.refl _ | assumption | refine Bw.drew ?_ | refine Bw.drewN ?_ _ | refine Bw.alloc ?_ _ | refine Bw.trans ?_ (by assumption)))) hE h1 h8 hW1 hW4 hR1 hR4).mono ?_
  rintro e w2 ⟨lb2, pb2, rb2, xp2, xr2, x2, Sp2, Sr2, K2, rfl, hL2, hP2, hR2, e1, e2, e3, hb2⟩
  have hD1 := (Duo.begun hL hP hR (fun b hb => ⟨(d1 b hb).1, (d1 b hb).2.1⟩) (fun b hb => (d2 b hb).1)).bw hb2
  have hD2 := Duo.begun hL2 hP2 hR2 (fun b hb => ⟨(e1 b hb).1, (e1 b hb).2.1⟩) (fun b hb => (e2 b hb).1)
  have c2 := cell_of_block (o := 2) hL2.root rfl
  have c2f := frozen_of_block (o := 2) hL2.root
  have cl := (Array.getElem?_eq_some_iff.1 hL2.root).1
  have hu1 : ∀ b, uni K Sp Sr b → w.heap.size ≤ b ∧ b < w1.heap.size := by
    intro b hb
    have hz : w.heap.size ≤ (w.alloc (.cells #[.slice ga ns.length gc, .int .i64 (R : Int)] 24)).heap.size := by simp
    rcases hb with h | h | h
    · exact ⟨Nat.le_trans hz (d1 b h).2.2, hL.klt b h⟩
    · exact ⟨Nat.le_trans hz (d2 b h).2, hP.slt b h⟩
    · exact ⟨Nat.le_trans hz (d3 b h), hR.slt b h⟩
  have hu2 : ∀ b, uni K2 Sp2 Sr2 b → w1.heap.size ≤ b := by
    intro b hb
    rcases hb with h | h | h
    · exact (e1 b h).2.2
    · exact (e2 b h).2
    · exact e3 b h
  have hD2' := hD2.setCnt (c := 1048576) ⟨by omega, by omega⟩
  have hBw : Bw w (w2.setCell ⟨lb2, 2, none⟩ (.int .i64 1048576)) := Bw.setCell (by repeat (first | exact Bw.refl _ | assumption | refine Bw.drew ?_ | refine Bw.drewN ?_ _ | refine Bw.alloc ?_ _ | refine Bw.trans ?_ (by assumption))) (Nat.le_trans (Nat.le_of_lt hz1) (e1 lb2 hL2.kroot).2.2) _
  have HT : Hid (Two w (w2.setCell ⟨lb2, 2, none⟩ (.int .i64 1048576)) lb lb2 ns R W 0) := hide
    ⟨⟨uni K Sp Sr, uni K2 Sp2 Sr2, ⟨K, Sp, Sr, pb, rb, xp, xr, x, 0, _, rst0, 0, hD1.frame (chg_set _ _ _ _) (fun b hb e => by have h1 := (hu1 b hb).2; have h2 := (e1 lb2 hL2.kroot).2.2; omega), rfl⟩, ⟨K2, Sp2, Sr2, pb2, rb2, xp2, xr2, x2, 1048576, _, rst0, 0, hD2', rfl⟩, fun b hb hc => by have h1 := (hu1 b hb).2; have h2 := hu2 b hc; omega, fun b hb => (hu1 b hb).1, fun b hb => Nat.le_trans (Nat.le_of_lt hz1) (hu2 b hb)⟩, hBw⟩
  clear hD1 hD2 hD2' hL hP hR hL2 hP2 hR2 d1 d2 d3 e1 e2 e3 hu1 hu2 hBw q1 q2
  go_wp2_with fail
  go_loopw [10, 12, 13, 14] (fun _ i _ _ wr => ∃ k : Nat, k ≤ ops.length ∧ i = .int .i64 k ∧ Two w wr lb lb2 ns R W k) (fun _ i _ _ _ => ops.length - (intOf i).toNat)
  case atStart => exact ⟨0, Nat.zero_le _, rfl, unhide HT⟩
  case round =>
    clear HT c2 c2f cl
    obtain ⟨k, hk, rfl, hT⟩ := hrel
    rename World => wr
    have hB := hT.2
    by_cases hlt : k < ops.length
    · have hk1 : (k : Int) < (ops.length : Int) := by omega
      obtain ⟨ob, off, rfl, hob, hoc⟩ := (ho.below hB) k hlt
      obtain ⟨c0, c1, c2, c3, c4⟩ := hoc k hlt
      clear hoc
      obtain ⟨op, hop⟩ : ∃ op, opn ops k = op := ⟨_, rfl⟩
      rw [hop] at c0 c1 c2 c3 c4
      obtain ⟨kd, oa, ob1, oc, oh⟩ := op
      simp only at c0 c1 c2 c3 c4
      clear hop
      by_cases hkd : kd ≤ 6
      · have hg : ¬ (6 < kd) := by omega
        go_wp2_with fail
        · obtain ⟨K1, Sp1, Sr1, pb1, rb1, xp1, xr1, x1, cnt1, l1, st1, lim1, hD, hnext⟩ := hT.first
          have HN := hide hnext
          refine (dstep kd oa ob1 oc oh hD (unhide H6) (by omega) hkd).mono ?_
          rintro e w3 ⟨rfl, hA⟩
          have hT3 := (unhide HN) _ 1 hA
          clear hA HN hD hnext hT
          go_wp2_with fail
          obtain ⟨K1, Sp1, Sr1, pb1, rb1, xp1, xr1, x1, cnt1, l1, st1, lim1, hD, _⟩ := hT3.first
          refine (looks_any _ hD.lw).mono ?_
          rintro e w5 ⟨rfl, hb5⟩
          clear hD
          have hT5 := hT3.bw hb5
          clear hT3
          go_wp2_with fail
          obtain ⟨K1, Sp1, Sr1, pb1, rb1, xp1, xr1, x1, cnt1, l1, st1, lim1, hD, _⟩ := hT5.swap.first
          refine (looks_any _ hD.lw).mono ?_
          rintro e w6 ⟨rfl, hb6⟩
          clear hD
          have hT6 := hT5.bw hb6
          clear hT5
          go_wp2_with fail
          go_roundw
          case rel => exact ⟨k + 1, by omega, by go_num, hT6⟩
          case measure => simp [intOf]; omega
        · obtain ⟨K1, Sp1, Sr1, pb1, rb1, xp1, xr1, x1, cnt1, l1, st1, lim1, hD, hnext⟩ := hT.swap.first
          have HN := hide hnext
          refine (dstep kd oa ob1 oc oh hD (unhide H6) (by omega) hkd).mono ?_
          rintro e w3 ⟨rfl, hA⟩
          have hT3 := ((unhide HN) _ 1 hA).swap
          clear hA HN hD hnext hT
          go_wp2_with fail
          obtain ⟨K1, Sp1, Sr1, pb1, rb1, xp1, xr1, x1, cnt1, l1, st1, lim1, hD, _⟩ := hT3.first
          refine (looks_any _ hD.lw).mono ?_
          rintro e w5 ⟨rfl, hb5⟩
          clear hD
          have hT5 := hT3.bw hb5
          clear hT3
          go_wp2_with fail
          obtain ⟨K1, Sp1, Sr1, pb1, rb1, xp1, xr1, x1, cnt1, l1, st1, lim1, hD, _⟩ := hT5.swap.first
          refine (looks_any _ hD.lw).mono ?_
          rintro e w6 ⟨rfl, hb6⟩
          clear hD
          have hT6 := hT5.bw hb6
          clear hT5
          go_wp2_with fail
          go_roundw
          case rel => exact ⟨k + 1, by omega, by go_num, hT6⟩
          case measure => simp [intOf]; omega
      · have hg : 6 < kd := by omega
        have HM := hide hT.more
        clear hT
        go_wp2_with fail
        go_roundw
        case rel => exact ⟨k + 1, by omega, by go_num, unhide HM⟩
        case measure => simp [intOf]; omega
    · have hkk : k = ops.length := by omega
      have hk1 : ¬ (k : Int) < (ops.length : Int) := by omega
      have hWn : W * (ns.length + 1) ≤ 4 * 9 := Nat.mul_le_mul hW4 (by omega)
      obtain ⟨K1, Sp1, Sr1, pb1, rb1, xp1, xr1, x1, cnt1, l1, st1, lim1, hD, hnext⟩ := hT.first
      have HS := hide (fun (w' : World) (hb : Bw wr w') => dends (hD.bw hb) (by omega))
      have HN := hide hnext
      clear hD hnext hT
      go_wp2_with fail
      refine ((unhide HS) _ (by repeat (first | exact Bw.refl _ | assumption | refine Bw.drew ?_ | refine Bw.drewN ?_ _ | refine Bw.alloc ?_ _ | refine Bw.trans ?_ (by assumption)))).mono ?_
      rintro e w3 ⟨rfl, hA⟩
      have hT3 := (unhide HN) _ _ hA
      clear hA HS HN
      obtain ⟨K1, Sp1, Sr1, pb1, rb1, xp1, xr1, x1, cnt1, l1, st1, lim1, hD, hnext⟩ := hT3.swap.first
      have HS := hide (fun (w' : World) (hb : Bw w3 w') => dends (hD.bw hb) (by omega))
      have HN := hide hnext
      clear hD hnext hT3
      go_wp2_with fail
      refine ((unhide HS) _ (by repeat (first | exact Bw.refl _ | assumption | refine Bw.drew ?_ | refine Bw.drewN ?_ _ | refine Bw.alloc ?_ _ | refine Bw.trans ?_ (by assumption)))).mono ?_
      rintro e w4 ⟨rfl, hA⟩
      have hT4 := ((unhide HN) _ _ hA).swap
      clear hA HS HN
      obtain ⟨K1, Sp1, Sr1, pb1, rb1, xp1, xr1, x1, cnt1, l1, st1, lim1, hD, _⟩ := hT4.first
      go_wp2_with fail
      refine (looks_any _ hD.lw).mono ?_
      rintro e w5 ⟨rfl, hb5⟩
      clear hD
      have hT5 := hT4.bw hb5
      clear hT4
      obtain ⟨K1, Sp1, Sr1, pb1, rb1, xp1, xr1, x1, cnt1, l1, st1, lim1, hD, _⟩ := hT5.swap.first
      go_wp2_with fail
      refine (looks_any _ hD.lw).mono ?_
      rintro e w6 ⟨rfl, hb6⟩
      clear hD
      go_wp2_with fail
      go_ret
      exact ⟨rfl, hT5.2.trans hb6⟩
end Go.Proofs.YtfemleimkbjehaaGreat
namespace Go.Proofs.YtfemleimkbjehaaGreat
set_option linter.unusedVariables false
set_option linter.unusedSimpArgs false
open Go.RowKit

theorem plays_any (ns : List Nd) (ga sa : Option Addr) (gc sc : Nat) (r wk : Int) (ops : List OpR) (w : World) (hn : NodesAt w ga ns) (hl : ns.length * 40 ≤ 140737488351232) (ho : OpsAt w sa ops) (hol : ops.length ≤ 199000) :
    Calls Tryz.prog 6 #[.agg #[.slice ga ns.length gc, .int .i64 r], .int .i64 wk, .slice sa ops.length sc, .int .i64 6] w fun e w' => e = .returned (.bool true) ∧ Bw w w' := by
  by_cases hE : newE ns r wk = 0
  · obtain ⟨hc, R, W, rfl, rfl, h1, h8, hR1, hR4, hW1, hW4⟩ := newE_zero hE
    exact plays_ok ns ga sa gc sc R W ops w hn ho hol hc h1 h8 hW1 hW4 hR1 hR4
  · exact plays_bad ns ga sa gc ops.length sc r wk 6 w hn hl hE
def exOps : List OpR := [⟨1, 0, 0, 1, 0⟩, ⟨1, 1, 0, 2, 0⟩, ⟨4, 0, 1, 0, 0⟩]
theorem exOps_at {w : World} {g : Nat} (h : w.heap[g]? = some (.cells #[.int .i64 1, .int .i64 0, .int .i64 0, .int .i64 1, .int .i64 0, .int .i64 1, .int .i64 1, .int .i64 0, .int .i64 2, .int .i64 0, .int .i64 4, .int .i64 0, .int .i64 1, .int .i64 0, .int .i64 0] 31)) : OpsAt w (some ⟨g, 0, none⟩) exOps := by
  intro i _
  refine ⟨g, 0, rfl, (Array.getElem?_eq_some_iff.1 h).1, fun j hj => ?_⟩
  have hj3 : j < 3 := hj
  match j, hj3 with
  | 0, _ => exact ⟨cell_of_block h rfl, cell_of_block h rfl, cell_of_block h rfl, cell_of_block h rfl, cell_of_block h rfl⟩
  | 1, _ => exact ⟨cell_of_block h rfl, cell_of_block h rfl, cell_of_block h rfl, cell_of_block h rfl, cell_of_block h rfl⟩
  | 2, _ => exact ⟨cell_of_block h rfl, cell_of_block h rfl, cell_of_block h rfl, cell_of_block h rfl, cell_of_block h rfl⟩
theorem plays_ex (ga sa : Option Addr) (w : World) (hn : NodesAt w ga exNs) (ho : OpsAt w sa exOps) :
    Calls Tryz.prog 6 #[.agg #[.slice ga 7 7, .int .i64 3], .int .i64 2, .slice sa 3 3, .int .i64 6] w fun e w' => e = .returned (.bool true) ∧ Bw w w' :=
  plays_any exNs ga sa 7 3 3 2 exOps w hn (by decide) ho (by decide)

set_option maxRecDepth 100000 in
set_option maxHeartbeats 2000000 in
theorem known_any (w : World) : Calls Tryz.prog 5 #[] w fun e w' => e = .returned (.bool true) ∧ Bw w w' := by
  go_enter Tryz.func5, Tryz.ntmps5
  go_wp2_with fail
  refine (example_any _).mono ?_
  rintro e w1 ⟨g1, rfl, hg1, hb1, hB1⟩
  have hn1 := nodesAt_of_cells (Array.getElem?_eq_some_iff.1 hb1).1 (nodeCells_of_block hb1)
  clear hb1
  go_wp2_with fail
  refine (plays_ex _ _ _ (hn1.below (by repeat (first | exact Bw.refl _ | assumption | refine Bw.drew ?_ | refine Bw.drewN ?_ _ | refine Bw.alloc ?_ _ | refine Bw.trans ?_ (by assumption)))) (exOps_at (alloc_at _ _ (by simp)))).mono ?_
  rintro e w2 ⟨rfl, hB2⟩
  go_wp2_with fail
  go_ret
  exact ⟨rfl, (by repeat (first | exact Bw.refl _ | assumption | refine Bw.drew ?_ | refine Bw.drewN ?_ _ | refine Bw.alloc ?_ _ | refine Bw.trans ?_ (by assumption)))⟩

set_option maxRecDepth 100000 in
set_option maxHeartbeats 2000000 in
theorem sources_any (ns : List Nd) (ga sa : Option Addr) (gc sc : Nat) (r wk : Int) (ops : List OpR) (w : World) (hn : NodesAt w ga ns) (hl : ns.length * 40 ≤ 140737488351232) (ho : OpsAt w sa ops) (hol : ops.length ≤ 199000) :
    Calls Tryz.prog 3 #[.agg #[.slice ga ns.length gc, .int .i64 r], .int .i64 wk, .slice sa ops.length sc] w fun e w' => e = .returned (.bool true) ∧ Bw w w' := by
  go_enter Tryz.func3, Tryz.ntmps3
  go_wp2_with fail
  refine (known_any _).mono ?_
  rintro e w1 ⟨rfl, hB1⟩
  obtain ⟨q1, q2⟩ := bcell hB1
  have hz1 : w.heap.size < w1.heap.size := (by have := hB1.size; (try simp at this); omega)
  go_wp2_with fail
  refine (plays_any ns _ _ _ _ _ _ ops _ (hn.below (by repeat (first | exact Bw.refl _ | assumption | refine Bw.drew ?_ | refine Bw.drewN ?_ _ | refine Bw.alloc ?_ _ | refine Bw.trans ?_ (by assumption)))) hl (ho.below (by repeat (first | exact Bw.refl _ | assumption | refine Bw.drew ?_ | refine Bw.drewN ?_ _ | refine Bw.alloc ?_ _ | refine Bw.trans ?_ (by assumption)))) hol).mono ?_
  rintro e w2 ⟨rfl, hB2⟩
  clear q1 q2
  go_wp2_with fail
  go_ret
  exact ⟨rfl, (by repeat (first | exact Bw.refl _ | assumption | refine Bw.drew ?_ | refine Bw.drewN ?_ _ | refine Bw.alloc ?_ _ | refine Bw.trans ?_ (by assumption)))⟩
end Go.Proofs.YtfemleimkbjehaaGreat
namespace Go.Proofs.YtfemleimkbjehaaGreat
set_option linter.unusedVariables false
set_option linter.unusedSimpArgs false
open Go.ChangeShapes Go.WideShapes Go.ChangeAt Go.RowKit Go.Joins Go.Deep

theorem Tryz.own : ownKnob Tryz.prog.godebug = none := by kernel_rfl
theorem Tryz.laidOut : laidOutB Tryz.prog = true := by kernel_rfl
theorem Tryz.cellsInt : Tryz.prog.cellsOf 3 = 1 := by kernel_rfl
theorem Tryz.cellsNode : Tryz.prog.cellsOf 46 = 5 := by kernel_rfl
theorem Tryz.cellsGraph : Tryz.prog.cellsOf 24 = 2 := by kernel_rfl
theorem Tryz.bytesNode : Tryz.prog.bytesOf 46 = 40 := by kernel_rfl

section
variable {H : Type} {enc : TypeId × Value → H} {w : World} {base : Nat} {spare : Nat → Bool} {held : Bool}

theorem get_some {α β : Type} {f : α → Option β} {l : List α} {r : List β} (h : l.mapM f = some r) {i : Nat} {x : α} (hx : l[i]? = some x) : ∃ y, f x = some y := by
  have hlt : i < l.length := (List.getElem?_eq_some_iff.1 hx).1
  have hr := mapM_some_length h
  exact ⟨r[i]'(by omega), by rw [mapM_some_get h i x hx]; exact List.getElem?_eq_getElem _⟩

theorem list5 {α : Type} {l : List α} (h : l.length = 5) : ∃ a b c d e, l = [a, b, c, d, e] := by
  match l, h with
  | [a, b, c, d, e], _ => exact ⟨a, b, c, d, e, rfl⟩

set_option maxRecDepth 100000 in
theorem open_node {n : Nat} {cs : List Value} {y : DataW H × List MemPlace} (h : DataW.trod enc Tryz.prog w base spare held n 46 cs = some y) : ∃ x : Nd, cs = x.cells := by
  cases n with
  | zero => simp [DataW.trod] at h
  | succ n =>
    unfold DataW.trod at h
    rw [Tryz.underlying46] at h
    simp only at h
    rw [Tryz.cellsNode] at h
    split at h
    · rename_i hl
      obtain ⟨xs, hx, _⟩ := Option.map_eq_some_iff.1 h
      obtain ⟨c0, c1, c2, c3, c4, rfl⟩ := list5 hl
      obtain ⟨y0, e0⟩ := get_some hx (i := 0) rfl
      obtain ⟨y1, e1⟩ := get_some hx (i := 1) rfl
      obtain ⟨y2, e2⟩ := get_some hx (i := 2) rfl
      obtain ⟨y3, e3⟩ := get_some hx (i := 3) rfl
      obtain ⟨y4, e4⟩ := get_some hx (i := 4) rfl
      obtain ⟨a0, f0, _⟩ := DataW.trod_int Tryz.underlying3 e0
      obtain ⟨a1, f1, _⟩ := DataW.trod_int Tryz.underlying3 e1
      obtain ⟨a2, f2, _⟩ := DataW.trod_int Tryz.underlying3 e2
      obtain ⟨a3, f3, _⟩ := DataW.trod_int Tryz.underlying3 e3
      obtain ⟨a4, f4, _⟩ := DataW.trod_int Tryz.underlying3 e4
      rw [Tryz.cellsInt] at f0 f1 f2 f3 f4
      simp at f0 f1 f2 f3 f4
      subst f0 f1 f2 f3 f4
      exact ⟨⟨a0, a1, a2, a3, a4⟩, rfl⟩
    · cases h

set_option maxRecDepth 100000 in
/-- A graph that came in, opened. -/
theorem open_graph {r : Reach} {b0 : Nat} {v : Value} {d : DataW H} {p : List MemPlace} (hv : Value.okWide Tryz.prog w r b0 24 v) (h : DataW.Trod enc Tryz.prog w base spare held 24 v d p) :
    ∃ (ga : Option Addr) (ns : List Nd) (gc : Nat) (rr : Int), v = .agg #[.slice ga ns.length gc, .int .i64 rr] ∧ NodesAt w ga ns ∧
      ∀ (ts : List TypeId) (ds : List (DataW H)) (j : Nat), (DataW.weightsEach Tryz.prog ts ds).all (· ≤ reachBytes) = true → ts[j]? = some 24 → ds[j]? = some d → ns.length * 40 ≤ 140737488351232 := by
  obtain ⟨c0, c1, y0, y1, m, rfl, rfl, rfl, hy0, hy1⟩ := open_agg2 Tryz.underlying24 (by kernel_rfl) Tryz.cellsGraph hv h
  obtain ⟨rr, e1, _, _⟩ := DataW.trod_int Tryz.underlying3 hy1
  simp at e1
  subst e1
  rcases open_slice Tryz.underlying22 hy0 with ⟨hcs, hx⟩ | ⟨a, len, cap, m, n, D, Pl, hcs, hb, hl, hm, hmm, hx, hel⟩
  · simp at hcs
    subst hcs
    exact ⟨none, [], 0, rr, rfl, fun i hi => absurd hi (Nat.not_lt_zero i), fun _ _ _ _ _ _ => by simp⟩
  · simp at hcs
    subst hcs
    have hlm : len ≤ m := by rw [hmm]; split <;> omega
    rw [Tryz.cellsNode] at hel
    haveI : Inhabited Nd := ⟨⟨0, 0, 0, 0, 0⟩⟩
    obtain ⟨X, hX⟩ := choose_lt (α := Nd) (n := len) (p := fun i x => w.cells? base (a.add (i * 5)) 5 = some x.cells) (fun i hi => by
      obtain ⟨cs', h1, h2⟩ := hel i (by omega)
      obtain ⟨x, rfl⟩ := open_node h2
      exact ⟨x, h1⟩)
    have hlen : ((List.range len).map X).length = len := by simp
    refine ⟨some a, (List.range len).map X, cap, rr, by rw [hlen], ?_, ?_⟩
    · intro i hi
      rw [hlen] at hi
      have hcell : ∀ j, j < len → ∀ f, f < 5 → w.cell? ((a.add (j * 5)).add f) = (X j).cells[f]? := fun j hj f hf => (World.cells?_some (hX j hj)).2.2 f hf
      obtain ⟨b, off, spot⟩ := a
      have hspot : spot = none := by
        have := hcell 0 (by omega) 0 (by omega)
        simp only [Nat.zero_mul] at this
        exact World.cell?_spot (a := ⟨b, off, spot⟩) (v := .int .i64 (X 0).kind) (by simpa [Addr.add, Nd.cells] using this)
      subst hspot
      have hnd : ∀ j, j < len → ndn ((List.range len).map X) j = X j := by
        intro j hj
        rw [ndn_lt (by simpa using hj)]
        simp
      have hc2 : ∀ j, j < len → ∀ f, f < 5 → w.cell? ⟨b, off + j * 5 + f, none⟩ = (X j).cells[f]? := by
        intro j hj f hf
        have := hcell j hj f hf
        rw [Go.WideShapes.add_plain, Go.WideShapes.add_plain] at this
        exact this
      refine ⟨b, off, rfl, ?_, ?_⟩
      · have := hc2 i hi 0 (by omega)
        exact World.block_lt_of_cell? w ⟨b, off + i * 5 + 0, none⟩ (this.trans rfl)
      · intro j hj
        rw [hlen] at hj
        rw [hnd j hj]
        exact ⟨hc2 j hj 0 (by omega), hc2 j hj 1 (by omega), hc2 j hj 2 (by omega), hc2 j hj 3 (by omega), hc2 j hj 4 (by omega)⟩
    · intro ts ds j hw ht hd
      rw [hlen]
      have hmem := DataW.weights_mem_each (P := Tryz.prog) ht hd
      have : (len + (m - len)) * Tryz.prog.bytesOf 46 ∈ DataW.weightsEach Tryz.prog ts ds := by
        refine hmem _ ?_
        rw [hx]
        simp [DataW.weights, Tryz.underlying24, DataW.weightsEach, Tryz.underlying22]
      have hle := of_decide_eq_true (List.all_eq_true.1 hw _ this)
      rw [Tryz.bytesNode] at hle
      unfold reachBytes at hle
      omega
end
end Go.Proofs.YtfemleimkbjehaaGreat
