import Derived.Test.YtfemleimkbjehaaGreatJ20
import Derived.Test.YtfemleimkbjehaaGreatJ21
import Derived.Test.YtfemleimkbjehaaGreatJ17
import Derived.Test.YtfemleimkbjehaaGreatJ12
import Derived.Laws.OwnMore
import Derived.Test.YtfemleimkbjehaaGreatJ13
namespace Go.Proofs.YtfemleimkbjehaaGreat
set_option linter.unusedVariables false
set_option linter.unusedSimpArgs false
open Go.RowKit

def distD (ns : List Nd) : Nat → Nat → Int := fun n x => nth (distL ns (n : Int) (ns.length - 1)) x
theorem distD_far {ns : List Nd} {n x : Nat} (h1 : 1 ≤ ns.length) (hx : x < ns.length) : distD ns n x = farD ns n x := by
  have a := distL_min (ns := ns) (n := (n : Int)) (ns.length - 1) x hx
  have b := leastB_min hx ns.length (n : Int)
  rw [show ns.length - 1 + 1 = ns.length by omega] at a
  exact a.eq b
theorem distRow (ns : List Nd) (n : Nat) : (distL ns (n : Int) (ns.length - 1)).map (Value.int .i64) = intRow ns.length (distD ns n) := by
  apply List.ext_getElem?
  intro j
  have hl := distL_len ns (n : Int) (ns.length - 1)
  unfold intRow distD
  by_cases hj : j < ns.length
  · simp [hj, nth, List.getD, List.getElem?_eq_getElem (show j < (distL ns (n : Int) (ns.length - 1)).length by omega)]
  · simp [hj, List.getElem?_eq_none (show (distL ns (n : Int) (ns.length - 1)).length ≤ j by omega)]
theorem TabB.setD {base : Nat} {w : World} {v : Value} {n m rb k : Nat} {f : Nat → Nat → Int} {arr : Array Value} {fr : Nat × Nat} {u : Value} (h : TabB base w v n m f) (hr : w.heap[rb]? = some (.cells arr 85 fr)) : TabB base (w.setCell ⟨rb, k, none⟩ u) v n m f :=
  h.map fun ty _ _ _ ht h => ownsRow_setT hr h (by rcases ht with rfl | rfl <;> decide)

set_option maxRecDepth 100000 in
set_option maxHeartbeats 4000000 in
theorem pdistOf_any (ns : List Nd) (ga : Option Addr) (gc : Nat) (r : Int) (w : World) (hn : NodesAt w ga ns) (h1 : 1 ≤ ns.length) (h8 : ns.length ≤ 8) :
    Calls Tryz.prog 50 #[.agg #[.slice ga ns.length gc, .int .i64 r]] w fun e w' => ∃ v, e = .returned (.agg #[v]) ∧ TabB w.heap.size w' v ns.length ns.length (distD ns) ∧ Bw w w' := by
  go_enter Tryz.func50, Tryz.ntmps50
  go_wp2_with fail
  obtain ⟨w0, hw0⟩ : ∃ w0, ((w.alloc (.cells #[.slice ga ns.length gc, .int .i64 r] 24)).alloc (.cells #[.slice none 0 0] 85)).alloc (.cells #[.slice none 0 0] 85) = w0 := ⟨_, rfl⟩
  rw [hw0]
  obtain ⟨hz0, hg0, hd1, hd2, hB0⟩ : w0.heap.size = w.heap.size + 1 + 1 + 1 ∧ w0.heap[w.heap.size]? = some (.cells #[.slice ga ns.length gc, .int .i64 r] 24 (0, 0)) ∧ w0.heap[w.heap.size + 1]? = some (.cells #[.slice none 0 0] 85 (0, 0)) ∧ w0.heap[w.heap.size + 1 + 1]? = some (.cells #[.slice none 0 0] 85 (0, 0)) ∧ Bw w w0 := by
    rw [← hw0]
    refine ⟨by simp, ?_, ?_, ?_, (by repeat (first | exact Bw.refl _ | assumption | refine Bw.drew ?_ | refine Bw.drewN ?_ _ | refine Bw.alloc ?_ _ | refine Bw.trans ?_ (by assumption)))⟩
    · exact (Below.block (show Bw (w.alloc (.cells #[.slice ga ns.length gc, .int .i64 r] 24)) _ from (by repeat (first | exact Bw.refl _ | assumption | refine Bw.drew ?_ | refine Bw.drewN ?_ _ | refine Bw.alloc ?_ _ | refine Bw.trans ?_ (by assumption)))) _ (by simp)).trans (heap_alloc_new w _)
    · have := (Below.block (show Bw ((w.alloc (.cells #[.slice ga ns.length gc, .int .i64 r] 24)).alloc (.cells #[.slice none 0 0] 85)) (((w.alloc (.cells #[.slice ga ns.length gc, .int .i64 r] 24)).alloc (.cells #[.slice none 0 0] 85)).alloc (.cells #[.slice none 0 0] 85)) from (by repeat (first | exact Bw.refl _ | assumption | refine Bw.drew ?_ | refine Bw.drewN ?_ _ | refine Bw.alloc ?_ _ | refine Bw.trans ?_ (by assumption)))) (w.heap.size + 1) (by simp)).trans (show _ = some (.cells #[.slice none 0 0] 85 (0, 0)) from by rw [show w.heap.size + 1 = (w.alloc (.cells #[.slice ga ns.length gc, .int .i64 r] 24)).heap.size by simp]; exact heap_alloc_new _ _)
      exact this
    · rw [show w.heap.size + 1 + 1 = ((w.alloc (.cells #[.slice ga ns.length gc, .int .i64 r] 24)).alloc (.cells #[.slice none 0 0] 85)).heap.size by simp]; exact heap_alloc_new _ _
  clear hw0
  obtain ⟨gb, hgb⟩ : ∃ gb, w.heap.size = gb := ⟨_, rfl⟩
  rw [hgb] at hg0 hd1 hd2 hz0
  rw [hgb]
  obtain ⟨db, hdb⟩ : ∃ db, gb + 1 = db := ⟨_, rfl⟩
  obtain ⟨ab, hab⟩ : ∃ ab, gb + 1 + 1 = ab := ⟨_, rfl⟩
  rw [hab] at hd2
  rw [hdb] at hd1
  simp only [hab]
  simp only [hdb]
  have hq1 : w.heap.size ≤ gb ∧ w.heap.size ≤ db ∧ w.heap.size ≤ ab ∧ db ≠ ab := by omega
  clear hgb hdb hab hz0
  go_loopw [9] (fun i wr => ∃ (k : Nat) (v : Value), k ≤ ns.length ∧ i = .int .i64 k ∧ wr.heap[gb]? = some (.cells #[.slice ga ns.length gc, .int .i64 r] 24 (0, 0)) ∧ wr.heap[db]? = some (.cells #[.slice none 0 0] 85 (0, 0)) ∧ wr.heap[ab]? = some (.cells #[v] 85 (0, 0)) ∧ TabB w.heap.size wr v k ns.length (distD ns) ∧ Bw w wr) (fun i _ => ns.length - (intOf i).toNat)
  case atStart => exact ⟨0, _, Nat.zero_le _, rfl, hg0, hd1, hd2, TabB.nil _ _ _ _, hB0⟩
  case round =>
    clear hg0 hd1 hd2 hB0
    obtain ⟨k, v, hk, rfl, hg, hd, ha, hT, hB⟩ := hrel
    rename World => wr
    have hv : ∃ va vc, v = .slice va k vc := by
      obtain ⟨vs, h, _⟩ := hT
      exact ⟨_, _, ownsRow_val h⟩
    obtain ⟨va, vc, rfl⟩ := hv
    have g0 := cell_of_block (o := 0) hg rfl
    have g1 := cell_of_block (o := 1) hg rfl
    have gl := (Array.getElem?_eq_some_iff.1 hg).1
    by_cases hlt : k < ns.length
    · obtain ⟨vs, ht1, ht2⟩ := hT
      have Hg := hide hg
      have Hd := hide hd
      have Ha := hide ha
      have Ht1 := hide ht1
      have Ht2 := hide ht2
      clear hg hd ha ht1 ht2
      go_wp2_with fail
      refine (distFrom_any ns _ _ _ _ _ (hn.below hB) h1 h8).mono ?_
      rintro e w1 ⟨u, rfl, hu, hb1⟩
      obtain ⟨ua, uc, hue, _, _⟩ := hu.form
      subst hue
      have Hu := hide (show w1.ownsRow w.heap.size 3 1 _ ns.length (intRow ns.length (distD ns k)) from by rw [← distRow]; have := ownsRow_weaken hu (Below.size hB); rw [distL_len] at this; exact this)
      clear hu
      have ha1 := (Below.block hb1 _ (Array.getElem?_eq_some_iff.1 (unhide Ha)).1).trans (unhide Ha)
      have a0 := cell_of_block (o := 0) ha1 rfl
      have al := (Array.getElem?_eq_some_iff.1 ha1).1
      have Ha1 := hide ha1
      clear ha1
      rw [distL_len]
      have hB1 := hB.trans hb1
      go_wp2_with (at_builtin; refine appL _ rfl _ _ _ 94 rfl _ 1 24 Tryz.infoIntsR Tryz.underlying81 rfl (by decide) w.heap.size _ k vs rfl (ownsRow_bw (unhide Ht1) fun g hg => Below.block (show Bw wr _ from (by repeat (first | exact Bw.refl _ | assumption | refine Bw.drew ?_ | refine Bw.drewN ?_ _ | refine Bw.alloc ?_ _ | refine Bw.trans ?_ (by assumption)))) g hg) _ _ [.slice ua ns.length uc] rfl rfl (cells1 (cell_of_block (alloc_at _ _ (by simp)) rfl)) (by simp [Value.oneCell']) (by omega) (by omega) (Bw.size (show Bw w _ from (by repeat (first | exact Bw.refl _ | assumption | refine Bw.drew ?_ | refine Bw.drewN ?_ _ | refine Bw.alloc ?_ _ | refine Bw.trans ?_ (by assumption))))) ?_; intro g' cap w8 ho8 hg8 hl8; have ha8 := hide (grown_block (ownsRow_bw (unhide Ht1) fun g hg => Below.block (show Bw wr _ from (by repeat (first | exact Bw.refl _ | assumption | refine Bw.drew ?_ | refine Bw.drewN ?_ _ | refine Bw.alloc ?_ _ | refine Bw.trans ?_ (by assumption)))) g hg) hg8 ((Below.block (show Bw w1 _ from (by repeat (first | exact Bw.refl _ | assumption | refine Bw.drew ?_ | refine Bw.drewN ?_ _ | refine Bw.alloc ?_ _ | refine Bw.trans ?_ (by assumption)))) _ (Array.getElem?_eq_some_iff.1 (unhide Ha1)).1).trans (unhide Ha1)) (.inl (by decide))); have q0 := cell_of_block (o := 0) (unhide ha8) rfl; have q0f := frozen_of_block (o := 0) (unhide ha8); have q0l := (Array.getElem?_eq_some_iff.1 (unhide ha8)).1)
      go_roundw
      case rel =>
        obtain ⟨wA, hwA⟩ : ∃ wA, w1.alloc (.cells #[.slice ua ns.length uc] 94) = wA := ⟨_, rfl⟩
        have hbA : Bw w1 wA := by rw [← hwA]; exact (by repeat (first | exact Bw.refl _ | assumption | refine Bw.drew ?_ | refine Bw.drewN ?_ _ | refine Bw.alloc ?_ _ | refine Bw.trans ?_ (by assumption)))
        rw [hwA] at hg8
        have hwrA : Bw wr wA := hb1.trans hbA
        have ht1A := ownsRow_bw (unhide Ht1) fun g hg => Below.block hwrA g hg
        have ht2A : ∀ i, i < k → ∃ u, vs[i]? = some u ∧ wA.ownsRow w.heap.size 3 1 u ns.length (intRow ns.length (distD ns i)) := fun i hi => by
          obtain ⟨u, e, h3⟩ := (unhide Ht2) i hi
          exact ⟨u, e, ownsRow_bw h3 fun g hg => Below.block hwrA g hg⟩
        have hg8' := grown_block ht1A hg8 ((Below.block hwrA _ (Array.getElem?_eq_some_iff.1 (unhide Hg)).1).trans (unhide Hg)) (.inl (by decide))
        have hd8 := grown_block ht1A hg8 ((Below.block hwrA _ (Array.getElem?_eq_some_iff.1 (unhide Hd)).1).trans (unhide Hd)) (.inl (by decide))
        have hT8 := TabB.add (f := distD ns) ht1A ht2A (ownsRow_bw (unhide Hu) fun g hg => Below.block hbA g hg) ho8 hg8
        refine ⟨k + 1, _, by omega, by go_num, ?_, ?_, ?_, hT8.setD (unhide ha8), ?_⟩
        · exact (Below.heap_setCell w8 ⟨ab, 0, none⟩ _ gb (fun e => by simp only at e; rw [e, unhide ha8] at hg8'; simp at hg8')).trans hg8'
        · exact (Below.heap_setCell w8 ⟨ab, 0, none⟩ _ db (fun e => hq1.2.2.2 e)).trans hd8
        · exact (heap_setCell_at (unhide ha8)).trans rfl
        · exact Chg.toBw (S := fun b => b = ab) (bw_own ht1A hg8 (hB1.trans hbA) (Nat.le_refl _)) (chg_set _ _ _ _) (fun x hx => hx ▸ hq1.2.2.1)
      case measure => simp [intOf]; omega
    · have hkk : k = ns.length := by omega
      subst hkk
      have d0 := cell_of_block (o := 0) hd rfl
      have df := frozen_of_block (o := 0) hd
      have dl := (Array.getElem?_eq_some_iff.1 hd).1
      have a0 := cell_of_block (o := 0) ha rfl
      have al := (Array.getElem?_eq_some_iff.1 ha).1
      have hTs := hT.setD (k := 0) (u := .slice va ns.length vc) hd
      have hds := cell_of_block (o := 0) (heap_setCell_at (k := 0) (v := .slice va ns.length vc) hd) rfl
      clear hT hg hd ha
      go_wp2_with fail
      refine bodyPost_ret (v := .agg #[.slice va ns.length vc]) (by simp [results, Tryz.results50, go_sem, hds]) rfl ⟨_, rfl, hTs, ?_⟩
      exact Chg.toBw (S := fun b => b = db) hB (chg_set _ _ _ _) (fun x hx => hx ▸ hq1.2.1)
end Go.Proofs.YtfemleimkbjehaaGreat
namespace Go.Proofs.YtfemleimkbjehaaGreat
set_option linter.unusedVariables false
set_option linter.unusedSimpArgs false
open Go.RowKit

/-- When a point's time can come to x (the round; -1: it cannot). -/
def comesI (ns : List Nd) (D : Nat → Nat → Int) (n : Nat) (out : Bool) (s x : Nat) : Int :=
  if !out && (n == x) then s else if decide (D n x < 0) then -1 else if !out && ((ndn ns n).kind == 4) then s + (D n x + 1) else s + D n x

set_option maxRecDepth 100000 in
set_option maxHeartbeats 2000000 in
theorem rcomes_any {rb : Nat} {x : RV} {ns : List Nd} {R W : Nat} {D : Nat → Nat → Int} {st : RSt} (n e s y : Nat) (out : Bool) (ct : Int) (w : World) (hR : RRead w rb x ns R W D st) (hn : n < ns.length) (hy : y < ns.length) (hs : s < R) (hD : D n y ≤ 1000) :
    Calls Tryz.prog 68 #[.pointer (some ⟨rb, 0, none⟩), .agg #[.int .i64 (n : Int), .bool out, .int .i64 (e : Int), .int .i64 (s : Int), .int .i64 ct], .int .i64 (y : Int)] w fun en w' => en = .returned (.int .i64 (comesI ns D n out s y)) ∧ Bw w w' := by
  obtain ⟨s1, s2, s3, s4, s5⟩ := hR.small
  have c0 := hR.c0
  have c8 := hR.c8
  have hlt0 := hR.lt
  obtain ⟨b, off, eb, hb, hc⟩ := hR.nodes n hn
  have k0 := (hc n hn).1
  rw [eb] at c0
  obtain ⟨tb, toff, te, htb, tpb, tpo, tpc, td0, htpb, tdc⟩ := hR.dist n hn
  have td1 := tdc y hy
  rw [te] at c8
  clear hc eb tdc te
  have hj1 : (n : Int) < (ns.length : Int) := by omega
  have hj2 : (y : Int) < (ns.length : Int) := by omega
  have Hc : Hid (comesI ns D n out s y = if !out && (n == y) then (s : Int) else if decide (D n y < 0) then -1 else if !out && ((ndn ns n).kind == 4) then s + (D n y + 1) else s + D n y) := hide rfl
  have hny : ((n : Int) == (y : Int)) = (n == y) := by rw [Bool.eq_iff_iff]; simp; omega
  by_cases hd : D n y < 0
  · have hdd : decide (D n y < 0) = true := by simpa using hd
    cases out with
    | true =>
      have He : Hid (comesI ns D n true s y = -1) := hide (by rw [unhide Hc, hdd]; rfl)
      clear Hc hd
      go_enter Tryz.func68, Tryz.ntmps68
      go_wp2_with fail
      go_quiet (fail)
      go_wp2_with fail
      go_ret
      exact ⟨ret_int (unhide He).symm, (by repeat (first | exact Bw.refl _ | assumption | refine Bw.drew ?_ | refine Bw.drewN ?_ _ | refine Bw.alloc ?_ _ | refine Bw.trans ?_ (by assumption)))⟩
    | false =>
      cases hxy : (n == y) with
      | true =>
        rw [hxy] at hny
        have He : Hid (comesI ns D n false s y = s) := hide (by rw [unhide Hc, hxy]; rfl)
        clear Hc hd
        go_enter Tryz.func68, Tryz.ntmps68
        go_wp2_with fail
        go_ret
        exact ⟨ret_int (unhide He).symm, (by repeat (first | exact Bw.refl _ | assumption | refine Bw.drew ?_ | refine Bw.drewN ?_ _ | refine Bw.alloc ?_ _ | refine Bw.trans ?_ (by assumption)))⟩
      | false =>
        rw [hxy] at hny
        have He : Hid (comesI ns D n false s y = -1) := hide (by rw [unhide Hc, hxy, hdd]; rfl)
        clear Hc hd
        go_enter Tryz.func68, Tryz.ntmps68
        go_wp2_with fail
        go_quiet (fail)
        go_wp2_with fail
        go_ret
        exact ⟨ret_int (unhide He).symm, (by repeat (first | exact Bw.refl _ | assumption | refine Bw.drew ?_ | refine Bw.drewN ?_ _ | refine Bw.alloc ?_ _ | refine Bw.trans ?_ (by assumption)))⟩
  · have hdd : decide (D n y < 0) = false := by simpa using hd
    have hd0 : 0 ≤ D n y := by omega
    cases out with
    | true =>
      have He : Hid (comesI ns D n true s y = s + D n y) := hide (by rw [unhide Hc, hdd]; rfl)
      clear Hc hd
      go_enter Tryz.func68, Tryz.ntmps68
      go_wp2_with fail
      go_quiet (fail)
      go_wp2_with fail
      go_quiet (fail)
      go_wp2_with fail
      go_ret
      exact ⟨ret_int (unhide He).symm, (by repeat (first | exact Bw.refl _ | assumption | refine Bw.drew ?_ | refine Bw.drewN ?_ _ | refine Bw.alloc ?_ _ | refine Bw.trans ?_ (by assumption)))⟩
    | false =>
      cases hxy : (n == y) with
      | true =>
        rw [hxy] at hny
        have He : Hid (comesI ns D n false s y = s) := hide (by rw [unhide Hc, hxy]; rfl)
        clear Hc hd
        go_enter Tryz.func68, Tryz.ntmps68
        go_wp2_with fail
        go_ret
        exact ⟨ret_int (unhide He).symm, (by repeat (first | exact Bw.refl _ | assumption | refine Bw.drew ?_ | refine Bw.drewN ?_ _ | refine Bw.alloc ?_ _ | refine Bw.trans ?_ (by assumption)))⟩
      | false =>
        rw [hxy] at hny
        cases k4 : ((ndn ns n).kind == 4) with
        | true =>
          have He : Hid (comesI ns D n false s y = s + (D n y + 1)) := hide (by rw [unhide Hc, hxy, hdd, k4]; rfl)
          clear Hc hd
          go_enter Tryz.func68, Tryz.ntmps68
          go_wp2_with fail
          go_quiet (fail)
          go_wp2_with fail
          go_quiet (fail)
          go_wp2_with fail
          go_ret
          exact ⟨ret_int (unhide He).symm, (by repeat (first | exact Bw.refl _ | assumption | refine Bw.drew ?_ | refine Bw.drewN ?_ _ | refine Bw.alloc ?_ _ | refine Bw.trans ?_ (by assumption)))⟩
        | false =>
          have He : Hid (comesI ns D n false s y = s + D n y) := hide (by rw [unhide Hc, hxy, hdd, k4]; rfl)
          clear Hc hd
          go_enter Tryz.func68, Tryz.ntmps68
          go_wp2_with fail
          go_quiet (fail)
          go_wp2_with fail
          go_quiet (fail)
          go_wp2_with fail
          go_ret
          exact ⟨ret_int (unhide He).symm, (by repeat (first | exact Bw.refl _ | assumption | refine Bw.drew ?_ | refine Bw.drewN ?_ _ | refine Bw.alloc ?_ _ | refine Bw.trans ?_ (by assumption)))⟩
end Go.Proofs.YtfemleimkbjehaaGreat
namespace Go.Proofs.YtfemleimkbjehaaGreat
set_option linter.unusedVariables false
set_option linter.unusedSimpArgs false
open Go.RowKit

/-- What is given may be given. -/
def GvOk (_ns : List Nd) (gv : List Gv) : Prop := gv.length ≤ 20 ∧ ∀ k, k < gv.length → I64 (gvn gv k).value

theorem come_64 {x : Nd} {f : Nat → List Int} (h : ∀ z ∈ inputsL x, I64L (f z.toNat)) : I64L (comeL x f) := by
  intro v hv
  unfold comeL at hv
  obtain ⟨z, hz, hv⟩ := List.mem_flatMap.1 hv
  exact h z hz v hv
theorem Good.val_64 {ns : List Nd} {r : Int} {q : List Int} (h : Good ns r q) {gv : List Gv} (hg : GvOk ns gv) (e : Nat) : ∀ s n, n < ns.length → I64L (valS ns gv e s n) := by
  intro s
  induction s with
  | zero =>
    intro n hn
    rw [h.val_fix gv e 0 hn]
    unfold putL
    split
    · exact srcTo_64 hg.2 _ _ _ _ (Nat.le_refl _)
    · split
      · refine come_64 fun z hz => ?_
        intro v hv; simp [prevS] at hv
      · exact nodeL_64 _ _
  | succ s ih =>
    intro n hn
    rw [h.val_fix gv e (s + 1) hn]
    unfold putL
    split
    · exact srcTo_64 hg.2 _ _ _ _ (Nat.le_refl _)
    · split
      · refine come_64 fun z hz => ?_
        obtain ⟨a, rfl, ha, _, _⟩ := h.inp hn hz
        exact ih a ha
      · exact nodeL_64 _ _
theorem Good.valD_bd {ns : List Nd} {r : Int} {q : List Int} (h : Good ns r q) {gv : List Gv} (hg : GvOk ns gv) (e s : Nat) {prev : Nat → List Int} (h2 : s = 0 → ∀ a, prev a = []) (h3 : ∀ s', s = s' + 1 → ∀ a, a < ns.length → (prev a).length ≤ bdB ns q s' a) :
    ∀ d n, n < ns.length → (valD ns gv e s prev d n).length ≤ bdB ns q s n := by
  intro d
  induction d with
  | zero => intro n _; simp [valD]
  | succ d ih => intro n hn; unfold valD; exact h.put_bd hg.1 hn ih h2 h3
theorem Good.val_bd {ns : List Nd} {r : Int} {q : List Int} (h : Good ns r q) {gv : List Gv} (hg : GvOk ns gv) (e : Nat) : ∀ s n, n < ns.length → (valS ns gv e s n).length ≤ bdB ns q s n := by
  intro s
  induction s with
  | zero => intro n hn; exact h.valD_bd hg e 0 (fun _ _ => rfl) (fun s' e => by omega) _ n hn
  | succ s ih => intro n hn; exact h.valD_bd hg e (s + 1) (fun e => by omega) (fun s' e a ha => by have : s' = s := by omega
                                                                                                   subst this; exact ih a ha) _ n hn
theorem Good.val_len {ns : List Nd} {r : Int} {q : List Int} (h : Good ns r q) {gv : List Gv} (hg : GvOk ns gv) (e : Nat) {s n : Nat} (hs : s ≤ 3) (hn : n < ns.length) : (valS ns gv e s n).length ≤ 81920 :=
  Nat.le_trans (h.val_bd hg e s n hn) (h.bd_le hs)
theorem flat_perm {l : List Int} {f g : Nat → List Int} (h : ∀ z ∈ l, (f z.toNat).Perm (g z.toNat)) : (l.flatMap fun z => f z.toNat).Perm (l.flatMap fun z => g z.toNat) := by
  induction l with
  | nil => simp
  | cons a t ih =>
    rw [List.flatMap_cons, List.flatMap_cons]
    exact (h a (by simp)).append (ih fun z hz => h z (by simp [hz]))
theorem come_perm {x : Nd} {f g : Nat → List Int} (h : ∀ z ∈ inputsL x, (f z.toNat).Perm (g z.toNat)) : (comeL x f).Perm (comeL x g) := flat_perm h

/-- One node of a round: what comes to it, and what it puts out. -/
theorem Good.step {ns : List Nd} {r : Int} {q : List Int} (h : Good ns r q) {gv : List Gv} (hg : GvOk ns gv) {e s n : Nat} (hs : s ≤ 3) (hn : n < ns.length) (h0 : (ndn ns n).kind ≠ 0) {F P : Nat → List Int}
    (hF : ∀ a, a < ns.length → rank q a < rank q n → (F a).Perm (valS ns gv e s a)) (hP : ∀ a, a < ns.length → (P a).Perm (prevS (valS ns gv e) s a)) :
    I64L (cameL (ndn ns n) F P) ∧ (cameL (ndn ns n) F P).length ≤ 200000 ∧ ∀ l : List Int, l.Perm (outL (ndn ns n) (cameL (ndn ns n) F P)) → l.Perm (valS ns gv e s n) := by
  have hin := fun z hz => h.inp hn (z := z) hz
  by_cases k4 : (ndn ns n).kind = 4
  · have k4b : ((ndn ns n).kind == 4) = true := by simp [k4]
    have k0b : ((ndn ns n).kind == 0) = false := by simp [k4]
    have hp : (comeL (ndn ns n) P).Perm (comeL (ndn ns n) (prevS (valS ns gv e) s)) := come_perm fun z hz => by
      obtain ⟨a, rfl, ha, _, _⟩ := hin z hz
      exact hP a ha
    have hv : valS ns gv e s n = comeL (ndn ns n) (prevS (valS ns gv e) s) := by
      rw [h.val_fix gv e s hn]; unfold putL; rw [k0b, k4b]; rfl
    have hc : cameL (ndn ns n) F P = comeL (ndn ns n) P := by unfold cameL; rw [k4b]; rfl
    rw [← hv] at hp
    rw [hc]
    refine ⟨fun v hv => h.val_64 hg e s n hn v (hp.mem_iff.1 hv), ?_, ?_⟩
    · rw [hp.length_eq]; have := h.val_len hg e hs hn; omega
    · intro l hl
      unfold outL at hl
      rw [k4b] at hl
      exact hl.trans hp
  · have k4b : ((ndn ns n).kind == 4) = false := by simp [k4]
    have k0b : ((ndn ns n).kind == 0) = false := by simp [h0]
    have hp : (comeL (ndn ns n) F).Perm (comeL (ndn ns n) (valS ns gv e s)) := come_perm fun z hz => by
      obtain ⟨a, rfl, ha, _, hr⟩ := hin z hz
      exact hF a ha (hr k4)
    have h64 : I64L (comeL (ndn ns n) (valS ns gv e s)) := come_64 fun z hz => by
      obtain ⟨a, rfl, ha, _, _⟩ := hin z hz
      exact h.val_64 hg e s a ha
    have hlen : (comeL (ndn ns n) (valS ns gv e s)).length ≤ 200000 := by
      by_cases k3 : (ndn ns n).kind = 3
      · have hil := inputs_3 k3
        obtain ⟨a, ea, ha, _, _⟩ := hin (ndn ns n).a (by rw [hil]; simp)
        obtain ⟨b, eb, hb, _, _⟩ := hin (ndn ns n).b (by rw [hil]; simp)
        unfold comeL
        rw [hil, ea, eb]
        have := h.val_len hg e hs ha
        have := h.val_len hg e hs hb
        simp
        omega
      · have hil := inputs_1 h0 k3
        obtain ⟨a, ea, ha, _, _⟩ := hin (ndn ns n).a (by rw [hil]; simp)
        unfold comeL
        rw [hil, ea]
        have := h.val_len hg e hs ha
        simp
        omega
    have hv : valS ns gv e s n = nodeL (ndn ns n) (comeL (ndn ns n) (valS ns gv e s)) := by
      rw [h.val_fix gv e s hn]; unfold putL; rw [k0b, k4b]; rfl
    have hc : cameL (ndn ns n) F P = comeL (ndn ns n) F := by unfold cameL; rw [k4b]; rfl
    have h64' : I64L (comeL (ndn ns n) F) := fun v hv => h64 v (hp.mem_iff.1 hv)
    rw [hc]
    refine ⟨h64', by rw [hp.length_eq]; exact hlen, ?_⟩
    intro l hl
    unfold outL at hl
    rw [k4b] at hl
    rw [hv]
    exact hl.trans (nodeL_perm hp h64')
theorem Good.src {ns : List Nd} {r : Int} {q : List Int} (h : Good ns r q) (gv : List Gv) (e s : Nat) {n : Nat} (hn : n < ns.length) (h0 : (ndn ns n).kind = 0) : valS ns gv e s n = srcL gv n e s := by
  rw [h.val_fix gv e s hn]; unfold putL; rw [if_pos (by simp [h0])]
theorem rank_at {q : List Int} (h : q.Nodup) {k n : Nat} (hk : k < q.length) (e : nth q k = n) : rank q n = k := by
  rw [nth_lt hk] at e
  rw [← e]
  unfold rank
  exact h.idxOf_getElem k hk
theorem Good.at_rank {ns : List Nd} {r : Int} {q : List Int} (h : Good ns r q) {n : Nat} (hn : n < ns.length) : nth q (rank q n) = n := by
  have h1 : rank q n < q.length := List.idxOf_lt_length_iff.2 (hasB_iff.1 (h.all n hn))
  rw [nth_lt h1]
  exact List.getElem_idxOf h1
theorem Good.qlen {ns : List Nd} {r : Int} {q : List Int} (h : Good ns r q) : q.length ≤ ns.length := by
  have := nodup_le (xs := q) (ys := upto ns.length) h.ok.nodup (fun z hz => mem_upto.2 (h.ok.range z hz))
  simpa [upto] using this
end Go.Proofs.YtfemleimkbjehaaGreat
namespace Go.Proofs.YtfemleimkbjehaaGreat
set_option linter.unusedVariables false
set_option linter.unusedSimpArgs false
open Go.RowKit

theorem Tryz.infoInts : (Tryz.prog.info? 94).map (fun i => (i.zero, i.size, i.bytes)) = some (some (.slice none 0 0), 1, 24) := by kernel_rfl

theorem rowAt_made {W w : World} {g L : Nat} (hg : g = w.heap.size) : RowAt W (w.alloc (.cells (madeCells #[.slice none 0 0] L) 94)) g L (fun _ => []) := by
  subst hg
  refine ⟨_, heap_alloc_new w _, by simp [size_madeCells], fun j hj => ⟨.slice none 0 0, ?_, Own.nil _ _⟩⟩
  rw [← Array.getElem?_toList, toList_madeCells_one]
  simp [hj]
theorem make_row (n : Nat) (hn : n ≤ 1000) : ∀ w : World, (Instr.makeSlice 81 (.int .i64 (n : Int)) (.int .i64 (n : Int))).run Tryz.prog w = .ok (.slice (some ⟨w.heap.size, 0, none⟩) n n) (w.alloc (.cells (madeCells #[.slice none 0 0] n) 94)) := by
  intro w
  obtain ⟨i0, hi, hz0, hz1, hz2⟩ := info_parts Tryz.infoInts
  have hmk := run_make (P := Tryz.prog) w 81 94 i0 _ Tryz.underlying81 hi hz0 .i64 .i64 (n : Int) (n : Int) (by omega) (by omega) (by rw [hz2]; omega) (by omega)
  rw [Int.toNat_natCast, hz1, Nat.mul_one] at hmk
  exact hmk

end Go.Proofs.YtfemleimkbjehaaGreat
namespace Go.Proofs.YtfemleimkbjehaaGreat
set_option linter.unusedVariables false
set_option linter.unusedSimpArgs false
open Go.RowKit

def timesIn (e : Nat) : Nat → List (Nat × Nat)
  | 0 => []
  | s + 1 => timesIn e s ++ [(e, s)]
def timesUp (R : Nat) : Nat → List (Nat × Nat)
  | 0 => []
  | e + 1 => timesUp R e ++ timesIn e R
theorem timesIn_len (e s : Nat) : (timesIn e s).length = s := by
  induction s with
  | zero => rfl
  | succ s ih => simp [timesIn, ih]
theorem timesUp_len (R e : Nat) : (timesUp R e).length = e * R := by
  induction e with
  | zero => simp [timesUp]
  | succ e ih => simp [timesUp, ih, timesIn_len, Nat.add_mul]
theorem timesIn_mem {e s : Nat} {t : Nat × Nat} (h : t ∈ timesIn e s) : t.1 = e ∧ t.2 < s := by
  induction s with
  | zero => simp [timesIn] at h
  | succ s ih =>
    rcases List.mem_append.1 h with h | h
    · obtain ⟨a, b⟩ := ih h; exact ⟨a, by omega⟩
    · simp at h; subst h; exact ⟨rfl, by simp⟩
theorem timesUp_mem {R e : Nat} {t : Nat × Nat} (h : t ∈ timesUp R e) : t.1 < e ∧ t.2 < R := by
  induction e with
  | zero => simp [timesUp] at h
  | succ e ih =>
    rcases List.mem_append.1 h with h | h
    · obtain ⟨a, b⟩ := ih h; exact ⟨by omega, b⟩
    · obtain ⟨a, b⟩ := timesIn_mem h; exact ⟨by omega, b⟩

def MosOk (ns : List Nd) (gv : List Gv) (ms : List Mo) (ts : List (Nat × Nat)) : Prop := ms.map (fun m => (m.e, m.s)) = ts ∧ ∀ m ∈ ms, ∀ n, n < ns.length → (m.F n).Perm (valS ns gv m.e m.s n)
theorem MosOk.snoc {ns : List Nd} {gv : List Gv} {ms : List Mo} {ts : List (Nat × Nat)} (h : MosOk ns gv ms ts) {e s g : Nat} {F : Nat → List Int} (hF : ∀ n, n < ns.length → (F n).Perm (valS ns gv e s n)) : MosOk ns gv (ms ++ [⟨e, s, g, F⟩]) (ts ++ [(e, s)]) := by
  refine ⟨by rw [List.map_append, h.1]; rfl, fun m hm => ?_⟩
  rcases List.mem_append.1 hm with hm | hm
  · exact h.2 m hm
  · simp at hm; subst hm; exact hF
theorem MosOk.len {ns : List Nd} {gv : List Gv} {ms : List Mo} {ts : List (Nat × Nat)} (h : MosOk ns gv ms ts) : ms.length = ts.length := by rw [← h.1]; simp
theorem cells3 {w : World} {g : Nat} {a b c : Value} (h0 : w.cell? ⟨g, 0, none⟩ = some a) (h1 : w.cell? ⟨g, 1, none⟩ = some b) (h2 : w.cell? ⟨g, 2, none⟩ = some c) : ∀ j u, [a, b, c][j]? = some u → w.cell? ⟨g, j, none⟩ = some u := by
  intro j u hj
  match j, hj with
  | 0, hj => simp at hj; subst hj; exact h0
  | 1, hj => simp at hj; subst hj; exact h1
  | 2, hj => simp at hj; subst hj; exact h2
theorem moCells_one (L : Nat) (m : Mo) : ∀ u ∈ moCells L m, u.oneCell' = true := by
  intro u hu
  simp [moCells] at hu
  rcases hu with rfl | rfl | rfl <;> rfl

end Go.Proofs.YtfemleimkbjehaaGreat
