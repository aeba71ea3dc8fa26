import Derived.Test.YtfemleimkbjehaaJ14
import Derived.Test.YtfemleimkbjehaaJ7
import Derived.Test.YtfemleimkbjehaaJ3
import Derived.Test.YtfemleimkbjehaaJ4
import Derived.Test.YtfemleimkbjehaaJ10
set_option maxRecDepth 1000000
set_option maxHeartbeats 40000000
set_option linter.unusedVariables false
set_option linter.unusedSimpArgs false
namespace Go.Proofs.Ytfemleimkbjehaa
open Go.RowKit
theorem PRow.gvAny {w : World} {S : Nat → Prop} {warr : Array Value} {L W : Nat} {st : PSt} (h : PRow w S warr L W st) (v : Int) : PRow w S warr L W { st with gv := v } := ⟨h.size, h.src, h.wait, h.letb, h.tal, h.bel, h.way, h.own, h.inj⟩
theorem POwn.setGv {w : World} {S : Nat → Prop} {pb : Nat} {x : PX} {ns : List Nd} {R W : Nat} {D : Nat → Nat → Int} {st : PSt} (h : POwn w S pb x ns R W D st) (v : Int) : POwn (w.setCell ⟨pb, 4, none⟩ (.int .i64 v)) S pb { x with rarr := x.rarr.setIfInBounds 4 (.int .i64 v) } ns R W D { st with gv := v } := by
  have hne : x.wb ≠ pb := fun e => by have h1 := h.work; rw [e, h.root] at h1; simp at h1
  have h4 : 4 < x.rarr.size := (Array.getElem?_eq_some_iff.1 h.r4).1
  have frO : ∀ (ty : TypeId) (sz : Nat) (u : Value) (m : Nat) (ys : List Value), ty ≠ 106 → OwnsIn S w ty sz u m ys → OwnsIn S (w.setCell ⟨pb, 4, none⟩ (.int .i64 v)) ty sz u m ys := fun ty sz u m ys ht ho => ho.set h.root ht
  exact ⟨qY h.root, (Array.getElem?_setIfInBounds_ne (by decide)).trans h.r0, (Array.getElem?_setIfInBounds_ne (by decide)).trans h.r1, (Array.getElem?_setIfInBounds_ne (by decide)).trans h.r2, (Array.getElem?_setIfInBounds_ne (by decide)).trans h.r3, Array.getElem?_setIfInBounds_self_of_lt h4, (Array.getElem?_setIfInBounds_ne (by decide)).trans h.r5, (Below.heap_setCell w ⟨pb, 4, none⟩ _ x.wb hne).trans h.work, h.sroot, h.swork, fun b hb => by simpa using h.slt b hb, frO _ _ _ _ _ (by decide) h.nodes, h.dist.map fun ty _ _ _ _ ht ho => frO _ _ _ _ _ (by rcases ht with rfl | rfl <;> decide) ho, frO _ _ _ _ _ (by decide) h.recs, (h.row.map (fun _ h => h) (fun ty _ _ _ _ ht ho => frO _ _ _ _ _ (by rcases ht with rfl | rfl <;> decide) ho) (fun b cur _ hb => Below.heap_setCell w ⟨pb, 4, none⟩ _ b (fun e => by simp only at e; rw [e, h.root] at hb; simp at hb))).gvAny v, h.small, h.few⟩
theorem After.of {w w1 w2 : World} {S S1 : Nat → Prop} {pb : Nat} {ns : List Nd} {R W : Nat} {D : Nat → Nat → Int} {st : PSt} (hC : Chg S w w1) (hS : ∀ b, S1 b → S b ∨ w.heap.size ≤ b) (h : POwn.After w1 w2 S1 pb ns R W D st) : POwn.After w w2 S pb ns R W D st := by
  obtain ⟨S2, x2, h1, h2, h3⟩ := h
  have hz := hC.size
  exact ⟨S2, x2, h1, hC.trans h2 hS, fun b hb => by
    rcases h3 b hb with h | h
    · exact hS b h
    · exact .inr (by omega)⟩
def yR (ns : List Nd) (W : Nat) (st : PSt) (w n : Int) : Int := if jP ns W st.cl w n != 0 then jP ns W st.cl w n else if decide (20 ≤ st.gv) then 5 else 0
def yV (ns : List Nd) (W : Nat) (st : PSt) (i m : Nat) (v : Int) : PSt := { st with gv := st.gv + 1, wt := jB ns W i m ⟨st.ep i m, 0, v⟩ st.wt ns.length, tb := pZ st.tb i (kT 4 (st.tb i) (jX ns m ⟨st.ep i m, 0, v⟩ ns.length) (jX ns m ⟨st.ep i m, 0, v⟩ ns.length).length), wy := jR st.wy i (jX ns m ⟨st.ep i m, 0, v⟩ ns.length) W }
def jD (ns : List Nd) (W : Nat) (st : PSt) (w n v : Int) : PSt := if yR ns W st w n == 0 then yV ns W st w.toNat n.toNat v else st
theorem putP_ok {ns : List Nd} {n : Int} {m : Gv} {e : Nat} (h8 : ns.length ≤ 8) (he : m.node = e) (h6 : e < 6) (hr : m.epoch = 0) : ∀ k, k ≤ ns.length → ∀ p ∈ jX ns n m k, wP 8 4 p := by
  intro k
  induction k with
  | zero => intro _ p hp; simp [jX] at hp
  | succ k ih =>
    intro hk p hp
    unfold jX at hp
    split at hp
    · rcases List.mem_append.1 hp with h | h
      · exact ih (by omega) p h
      · simp at h
        subst h
        exact ⟨k, e, 0, rfl, by omega, he, h6, by simpa using hr, by omega⟩
    · exact ih (by omega) p hp
theorem rJ {ns : List Nd} {W : Nat} {cl : Nat → Nat → Bool} {w n : Int} (h : jP ns W cl w n = 0) : ∃ i m : Nat, w = i ∧ n = m ∧ i < W ∧ m < ns.length := by
  unfold jP at h
  split at h
  · rename_i hb
    simp only [Bool.and_eq_true] at hb
    obtain ⟨h1, h2, _⟩ := hb
    obtain ⟨i, rfl, hi⟩ := isWk_iff.1 h1
    obtain ⟨b1, b2⟩ := isNodeB_iff.1 h2
    obtain ⟨m, rfl⟩ := Int.eq_ofNat_of_zero_le b1
    exact ⟨i, m, rfl, rfl, hi, by omega⟩
  · simp at h
set_option maxRecDepth 100000 in
set_option maxHeartbeats 4000000 in
theorem prgive_any {S : Nat → Prop} {pb : Nat} {x : PX} {ns : List Nd} {R W : Nat} {D : Nat → Nat → Int} {st : PSt} (wk n v : Int) (w : World) (hO : POwn w S pb x ns R W D st) (h6 : ∀ k, k < ns.length → (qV ns k).kind = 6 → 1 ≤ (qV ns k).k ∧ (qV ns k).k ≤ 8) (hf : ∀ a b, (st.wt a b).length ≤ 90000000) (hlim : ∀ a b, (st.wy a b).length + 1 ≤ 100000000) (hep : ∀ a b, ∃ k : Nat, st.ep a b = k ∧ k < 6) (hgv : 0 ≤ st.gv ∧ st.gv ≤ 1000) :
    Calls Try.prog 85 #[.pointer (some ⟨pb, 0, none⟩), .int .i64 wk, .int .i64 n, .int .i64 v] w fun e w' => e = .returned (.int .i64 (yR ns W st wk n)) ∧ POwn.After w w' S pb ns R W D (jD ns W st wk n v) := by
  have Hsrc := qJ (psrc_any wk n w hO)
  have HO := qJ hO
  cases hse : (jP ns W st.cl wk n != 0) with
  | true =>
    have He : Hid (yR ns W st wk n = jP ns W st.cl wk n) := qJ (by unfold yR; rw [if_pos hse])
    have Hne : Hid (jP ns W st.cl wk n ≠ 0) := qJ (by simpa using hse)
    have Hs : Hid (jD ns W st wk n v = st) := qJ (by unfold jD; rw [qK He, if_neg (by simpa using qK Hne)])
    generalize jP ns W st.cl wk n = se at *
    clear hO hep hf h6
    go_enter Try.func85, Try.ntmps85
    go_wp2_with (go_at_call 112; refine (qK Hsrc).mono ?_; rintro e w1 ⟨rfl, hb1⟩)
    go_ret
    exact ⟨kN (qK He).symm, by rw [qK Hs]; exact ⟨S, x, (qK HO).bw hb1, Chg.bw hb1, fun _ h => .inl h⟩⟩
  | false =>
    have hs0 : jP ns W st.cl wk n = 0 := by simpa using hse
    have HE : Hid (yR ns W st wk n = if decide (20 ≤ st.gv) then 5 else 0) := qJ (by unfold yR; rw [hse]; rfl)
    obtain ⟨i, m, rfl, rfl, hi, hm⟩ := rJ hs0
    rw [hs0] at Hsrc
    by_cases h20 : 20 ≤ st.gv
    · have hd20 : decide (20 ≤ st.gv) = true := by simpa using h20
      have He : Hid (yR ns W st i m = 5) := qJ (by rw [qK HE, hd20]; rfl)
      have Hs : Hid (jD ns W st i m v = st) := qJ (by unfold jD; rw [qK He]; rfl)
      clear hO hep hf h6 hse hs0 HE
      go_enter Try.func85, Try.ntmps85
      go_wp2_with (go_at_call 112; refine (qK Hsrc).mono ?_; rintro e w1 ⟨rfl, hb1⟩; have hO1 := (qK HO).bw hb1; have c4 := qQ (o := 4) hO1.root hO1.r4; have l0 := hO1.slt _ hO1.sroot; clear hO1)
      go_ret
      exact ⟨kN (qK He).symm, by rw [qK Hs]; exact ⟨S, x, (qK HO).bw hb1, Chg.bw hb1, fun _ h => .inl h⟩⟩
    · have hd20 : decide (20 ≤ st.gv) = false := by simpa using h20
      have He : Hid (yR ns W st i m = 0) := qJ (by rw [qK HE, hd20]; rfl)
      have Hs : Hid (jD ns W st i m v = yV ns W st i m v) := qJ (by unfold jD; rw [qK He]; rfl)
      have h8 := hO.small
      clear hO hse hs0 HE
      go_enter Try.func85, Try.ntmps85
      go_wp2_with (go_at_call 112; refine (qK Hsrc).mono ?_; rintro e w1 ⟨rfl, hb1⟩; have hO1 := (qK HO).bw hb1; have c4 := qQ (o := 4) hO1.root hO1.r4; have c4f := qZ (o := 4) hO1.root; have l0 := hO1.slt _ hO1.sroot; have HO2 := qJ (hO1.setGv (st.gv + 1)); clear hO1)
      obtain ⟨w2, hw2⟩ : ∃ w2, w1.setCell ⟨pb, 4, none⟩ (.int .i64 (st.gv + 1)) = w2 := ⟨_, rfl⟩
      have hC2 : Chg S w w2 := by rw [← hw2]; exact (Chg.bw (S := S) hb1).trans (qC _ _ _ _) (fun b h => .inl (h ▸ (qK HO).sroot))
      rw [hw2] at HO2
      rw [hw2]
      clear hw2 c4 c4f l0 Hsrc
      obtain ⟨ep, hepe, hep6⟩ := hep i m
      have Htm := qJ (tX i m w2 (qK HO2) hi hm)
      simp only [hepe] at Htm
      refine (qK Htm).mono ?_
      rintro e3 w3 ⟨rfl, hb3⟩
      go_wp2_with fail
      obtain ⟨w4, hw4, hb4⟩ : ∃ w4, w3.alloc (.cells #[.int .i64 (ep : Int), .int .i64 0] 75) = w4 ∧ Bw w3 (w3.alloc (.cells #[.int .i64 (ep : Int), .int .i64 0] 75)) := ⟨_, rfl, (by repeat first|exact br _|assumption|apply bd|apply bn|apply ba|refine bt ?_ (by assumption))⟩
      rw [hw4] at hb4
      rw [hw4]
      clear hw4
      have hb24 : Bw w2 w4 := hb3.trans hb4
      refine (rQ i (m : Int) (ep : Int) 0 v w4 ((qK HO2).bw hb24) hi h6 hf).mono ?_
      rintro e5 w5 ⟨u, rfl, hou, S5, x5, hO5, hC5, hS5⟩
      obtain ⟨ua, uc, hue⟩ : ∃ ua uc, u = .slice ua (jX ns m ⟨ep, 0, v⟩ ns.length).length uc := ⟨_, _, qW hou⟩
      subst hue
      have hC25 : Chg S w w5 := (hC2.trans (Chg.bw (S := S) hb24) (fun _ h => .inl h)).trans hC5 (fun _ h => .inl h)
      have hz2 := hC2.size
      have hz24 := hb24.size
      have hS25 : ∀ b, S5 b → S b ∨ w.heap.size ≤ b := fun b hb => by
        rcases hS5 b hb with h | h
        · exact .inl h
        · exact .inr (by omega)
      have hpl := wW ns (m : Int) ⟨ep, 0, v⟩ ns.length
      go_wp2_with fail
      refine (pL i (jX ns m ⟨ep, 0, v⟩ ns.length) ua uc w5 hO5 hi (vJ hou) (fun j hj => putP_ok h8.1 rfl hep6 rfl _ (Nat.le_refl _) _ (tU hj)) (by omega) hlim).mono ?_
      rintro e6 w6 ⟨rfl, hA6⟩
      have HA := qJ (After.of hC25 hS25 hA6)
      clear hA6 hO5
      go_wp2_with fail
      go_ret
      exact ⟨kN (qK He).symm, by rw [qK Hs]; unfold yV; rw [hepe]; exact qK HA⟩
theorem POwn.setEp {w : World} {S : Nat → Prop} {pb : Nat} {x : PX} {ns : List Nd} {R W : Nat} {D : Nat → Nat → Int} {st : PSt} (h : POwn w S pb x ns R W D st) {i m : Nat} (hi : i < W) (hm : m < ns.length) (v : Int) : POwn (w.setCell ⟨x.wb, i * 3684 + m * 2, none⟩ (.int .i64 v)) S pb { x with warr := x.warr.setIfInBounds (i * 3684 + m * 2) (.int .i64 v) } ns R W D { st with ep := kY st.ep i m v } :=
  h.setRow (qC _ _ _ _) (qY h.work) (h.row.setEp h.small.1 hi hm v) ⟨rfl, rfl⟩ h.few.1
theorem POwn.setCl {w : World} {S : Nat → Prop} {pb : Nat} {x : PX} {ns : List Nd} {R W : Nat} {D : Nat → Nat → Int} {st : PSt} (h : POwn w S pb x ns R W D st) {i m : Nat} (hi : i < W) (hm : m < ns.length) (v : Bool) : POwn (w.setCell ⟨x.wb, i * 3684 + m * 2 + 1, none⟩ (.bool v)) S pb { x with warr := x.warr.setIfInBounds (i * 3684 + m * 2 + 1) (.bool v) } ns R W D { st with cl := kY st.cl i m v } :=
  h.setRow (qC _ _ _ _) (qY h.work) (h.row.setCl h.small.1 hi hm v) ⟨rfl, rfl⟩ h.few.1
theorem cells5at {w : World} {g : Nat} {p : Pt} (h : w.heap[g]? = some (.cells #[.int .i64 p.node, .bool p.out, .int .i64 p.epoch, .int .i64 p.round, .int .i64 p.count] 194 (0, 0))) : CellsAt w (some ⟨g, 0, none⟩) 1 (qG [p]) := by
  intro _
  refine ⟨g, 0, rfl, fun j u hj => ?_⟩
  rw [Nat.zero_add]
  refine qQ h ?_
  have : qG [p] = Pt.cells p := by simp [qG]
  rw [this] at hj
  simpa [Pt.cells] using hj
theorem cells10at {w : World} {g : Nat} {p q : Pt} (h : w.heap[g]? = some (.cells #[.int .i64 p.node, .bool p.out, .int .i64 p.epoch, .int .i64 p.round, .int .i64 p.count, .int .i64 q.node, .bool q.out, .int .i64 q.epoch, .int .i64 q.round, .int .i64 q.count] 194 (0, 0))) : CellsAt w (some ⟨g, 0, none⟩) 2 (qG [p, q]) := by
  intro _
  refine ⟨g, 0, rfl, fun j u hj => ?_⟩
  rw [Nat.zero_add]
  refine qQ h ?_
  have : qG [p, q] = Pt.cells p ++ Pt.cells q := by simp [qG]
  rw [this] at hj
  simpa [Pt.cells] using hj
def xF (W : Nat) (st : PSt) (i m : Nat) : PSt := { st with cl := kY st.cl i m true, tb := pZ st.tb i (kT 4 (st.tb i) [⟨m, true, st.ep i m, 0, -1⟩] 1), wy := jR st.wy i [⟨m, true, st.ep i m, 0, -1⟩] W }
def yF (ns : List Nd) (W : Nat) (st : PSt) (w n : Int) : PSt := if jP ns W st.cl w n == 0 then xF W st w.toNat n.toNat else st
set_option maxRecDepth 100000 in
set_option maxHeartbeats 4000000 in
theorem prclose_any {S : Nat → Prop} {pb : Nat} {x : PX} {ns : List Nd} {R W : Nat} {D : Nat → Nat → Int} {st : PSt} (wk n : Int) (w : World) (hO : POwn w S pb x ns R W D st) (hlim : ∀ a b, (st.wy a b).length + 1 ≤ 100000000) (hep : ∀ a b, ∃ k : Nat, st.ep a b = k ∧ k < 6) :
    Calls Try.prog 111 #[.pointer (some ⟨pb, 0, none⟩), .int .i64 wk, .int .i64 n] w fun e w' => e = .returned (.int .i64 (jP ns W st.cl wk n)) ∧ POwn.After w w' S pb ns R W D (yF ns W st wk n) := by
  have Hsrc := qJ (psrc_any wk n w hO)
  have HO := qJ hO
  cases hse : (jP ns W st.cl wk n != 0) with
  | true =>
    have Hne : Hid (jP ns W st.cl wk n ≠ 0) := qJ (by simpa using hse)
    have Hs : Hid (yF ns W st wk n = st) := qJ (by unfold yF; rw [if_neg (by simpa using qK Hne)])
    generalize jP ns W st.cl wk n = se at *
    clear hO hep
    go_enter Try.func111, Try.ntmps111
    go_wp2_with (go_at_call 112; refine (qK Hsrc).mono ?_; rintro e w1 ⟨rfl, hb1⟩)
    go_ret
    exact ⟨rfl, by rw [qK Hs]; exact ⟨S, x, (qK HO).bw hb1, Chg.bw hb1, fun _ h => .inl h⟩⟩
  | false =>
    have hs0 : jP ns W st.cl wk n = 0 := by simpa using hse
    have Hs : Hid (yF ns W st wk n = xF W st wk.toNat n.toNat) := qJ (by unfold yF; rw [hs0]; rfl)
    obtain ⟨i, m, rfl, rfl, hi, hm⟩ := rJ hs0
    rw [Int.toNat_natCast, Int.toNat_natCast] at Hs
    rw [hs0] at Hsrc ⊢
    have h8 := hO.small
    have hi1 : (i : Int) < (W : Int) := by omega
    have hm8 : (m : Int) < 8 := by omega
    clear hO hse hs0
    go_enter Try.func111, Try.ntmps111
    go_wp2_with (go_at_call 112; refine (qK Hsrc).mono ?_; rintro e w1 ⟨rfl, hb1⟩; have hO1 := (qK HO).bw hb1; have c3 := qQ (o := 3) hO1.root hO1.r3; have l0 := hO1.slt _ hO1.sroot; have l1 := hO1.slt _ hO1.swork; have c4 := qQ (o := i * 3684 + m * 2 + 1) hO1.work (hO1.row.src i m hi hm).2; have c4f := qZ (o := i * 3684 + m * 2 + 1) hO1.work; have HO2 := qJ (hO1.setCl hi hm true); clear hO1)
    obtain ⟨w2, hw2⟩ : ∃ w2, w1.setCell ⟨x.wb, i * 3684 + m * 2 + 1, none⟩ (.bool true) = w2 := ⟨_, rfl⟩
    have hC2 : Chg S w w2 := by rw [← hw2]; exact (Chg.bw (S := S) hb1).trans (qC _ _ _ _) (fun b h => .inl (h ▸ (qK HO).swork))
    rw [hw2] at HO2
    rw [hw2]
    clear hw2 c3 c4 c4f l0 l1 Hsrc
    obtain ⟨ep, hepe, hep6⟩ := hep i m
    have Htm := qJ (tX i m w2 (qK HO2) hi hm)
    simp only [hepe] at Htm
    refine (qK Htm).mono ?_
    rintro e3 w3 ⟨rfl, hb3⟩
    go_wp2_with (go_at_call 137; refine (mM _ _ _ _ _).mono ?_; rintro e5 w5 ⟨rfl, hb5⟩; simp only [Pt.val])
    obtain ⟨w6, hw6⟩ : ∃ w6, w5.alloc (.cells #[.int .i64 (m : Int), .bool true, .int .i64 (ep : Int), .int .i64 0, .int .i64 (-1)] 194) = w6 := ⟨_, rfl⟩
    have hb6 : Bw w5 w6 := by rw [← hw6]; exact (by repeat first|exact br _|assumption|apply bd|apply bn|apply ba|refine bt ?_ (by assumption))
    have hp6 : w6.heap[w5.heap.size]? = some (.cells #[.int .i64 (m : Int), .bool true, .int .i64 (ep : Int), .int .i64 0, .int .i64 (-1)] 194 (0, 0)) := by rw [← hw6]; exact heap_alloc_new w5 _
    rw [hw6]
    clear hw6
    have hb26 : Bw w2 w6 := (show Bw w2 w5 from (by repeat first|exact br _|assumption|apply bd|apply bn|apply ba|refine bt ?_ (by assumption))).trans hb6
    refine (pL i [⟨m, true, ep, 0, -1⟩] _ _ w6 ((qK HO2).bw hb26) hi (cells5at (p := ⟨m, true, ep, 0, -1⟩) hp6) (fun j hj => ?_) (by simp) hlim).mono ?_
    · have : j = 0 := by simpa using hj
      subst this
      exact ⟨m, ep, 0, rfl, by omega, rfl, hep6, rfl, by omega⟩
    rintro e7 w7 ⟨rfl, hA7⟩
    have HA := qJ (After.of (hC2.trans (Chg.bw (S := S) hb26) (fun _ h => .inl h)) (fun _ h => .inl h) hA7)
    clear hA7
    go_wp2_with fail
    go_ret
    exact ⟨rfl, by rw [qK Hs]; unfold xF; rw [hepe]; exact qK HA⟩
theorem POwn.After.box {w w' : World} {S : Nat → Prop} {pb : Nat} {ns : List Nd} {R W : Nat} {D : Nat → Nat → Int} {st : PSt} (h : POwn.After w w' S pb ns R W D st) {g : Nat} {o : Obj} (hn : ¬ S g) (hb : w.heap[g]? = some o) : w'.heap[g]? = some o := by
  obtain ⟨_, _, _, hC, _⟩ := h
  exact (hC.block g (Array.getElem?_eq_some_iff.1 hb).1 hn).trans hb
def wV (ns : List Nd) (W : Nat) (st : PSt) (w n : Int) : Int := if jP ns W st.cl w n != 0 then jP ns W st.cl w n else if decide (5 ≤ st.ep w.toNat n.toNat) then 5 else 0
def uT (W : Nat) (st : PSt) (i m : Nat) : PSt := { st with ep := kY st.ep i m (st.ep i m + 1), tb := pZ st.tb i (kT 4 (st.tb i) [⟨m, true, st.ep i m, 0, -1⟩, ⟨m, true, st.ep i m + 1, 0, 1⟩] 2), wy := jR st.wy i [⟨m, true, st.ep i m, 0, -1⟩, ⟨m, true, st.ep i m + 1, 0, 1⟩] W }
def yZ (ns : List Nd) (W : Nat) (st : PSt) (w n : Int) : PSt := if wV ns W st w n == 0 then uT W st w.toNat n.toNat else st
set_option maxRecDepth 100000 in
set_option maxHeartbeats 4000000 in
theorem pradvance_any {S : Nat → Prop} {pb : Nat} {x : PX} {ns : List Nd} {R W : Nat} {D : Nat → Nat → Int} {st : PSt} (wk n : Int) (w : World) (hO : POwn w S pb x ns R W D st) (hlim : ∀ a b, (st.wy a b).length + 1 ≤ 100000000) (hep : ∀ a b, ∃ k : Nat, st.ep a b = k ∧ k < 6) :
    Calls Try.prog 110 #[.pointer (some ⟨pb, 0, none⟩), .int .i64 wk, .int .i64 n] w fun e w' => e = .returned (.int .i64 (wV ns W st wk n)) ∧ POwn.After w w' S pb ns R W D (yZ ns W st wk n) := by
  have Hsrc := qJ (psrc_any wk n w hO)
  have HO := qJ hO
  cases hse : (jP ns W st.cl wk n != 0) with
  | true =>
    have He : Hid (wV ns W st wk n = jP ns W st.cl wk n) := qJ (by unfold wV; rw [if_pos hse])
    have Hne : Hid (jP ns W st.cl wk n ≠ 0) := qJ (by simpa using hse)
    have Hs : Hid (yZ ns W st wk n = st) := qJ (by unfold yZ; rw [qK He, if_neg (by simpa using qK Hne)])
    generalize jP ns W st.cl wk n = se at *
    clear hO hep
    go_enter Try.func110, Try.ntmps110
    go_wp2_with (go_at_call 112; refine (qK Hsrc).mono ?_; rintro e w1 ⟨rfl, hb1⟩)
    go_ret
    exact ⟨kN (qK He).symm, by rw [qK Hs]; exact ⟨S, x, (qK HO).bw hb1, Chg.bw hb1, fun _ h => .inl h⟩⟩
  | false =>
    have hs0 : jP ns W st.cl wk n = 0 := by simpa using hse
    have HE : Hid (wV ns W st wk n = if decide (5 ≤ st.ep wk.toNat n.toNat) then 5 else 0) := qJ (by unfold wV; rw [hse]; rfl)
    obtain ⟨i, m, rfl, rfl, hi, hm⟩ := rJ hs0
    rw [Int.toNat_natCast, Int.toNat_natCast] at HE
    rw [hs0] at Hsrc
    have h8 := hO.small
    have hi1 : (i : Int) < (W : Int) := by omega
    have hm8 : (m : Int) < 8 := by omega
    obtain ⟨ep, hepe, hep6⟩ := hep i m
    have Htm := qJ (fun (w' : World) (h : Bw w w') => tX i m w' (hO.bw h) hi hm)
    simp only [hepe] at Htm HE
    clear hO hse hs0
    by_cases h5 : 5 ≤ ep
    · have hd5 : decide (5 ≤ (ep : Int)) = true := by simp; omega
      have He : Hid (wV ns W st i m = 5) := qJ (by rw [qK HE, hd5]; rfl)
      have Hs : Hid (yZ ns W st i m = st) := qJ (by unfold yZ; rw [qK He]; rfl)
      go_enter Try.func110, Try.ntmps110
      go_wp2_with (first | (go_at_call 112; refine (qK Hsrc).mono ?_; rintro e w1 ⟨rfl, hb1⟩) | (go_at_call 113; refine ((qK Htm) _ hb1).mono ?_; rintro e3 w3 ⟨rfl, hb3⟩))
      go_ret
      have hB : Bw w (w3.alloc (.cells #[.int .i64 (ep : Int), .int .i64 0] 75)) := (by repeat first|exact br _|assumption|apply bd|apply bn|apply ba|refine bt ?_ (by assumption))
      exact ⟨kN (qK He).symm, by rw [qK Hs]; exact ⟨S, x, (qK HO).bw hB, Chg.bw hB, fun _ h => .inl h⟩⟩
    · have hd5 : decide (5 ≤ (ep : Int)) = false := by simp; omega
      have h5' : ¬ (5 ≤ (ep : Int)) := by omega
      have He : Hid (wV ns W st i m = 0) := qJ (by rw [qK HE, hd5]; rfl)
      have Hs : Hid (yZ ns W st i m = uT W st i m) := qJ (by unfold yZ; rw [qK He]; rfl)
      go_enter Try.func110, Try.ntmps110
      go_wp2_with (first | (go_at_call 112; refine (qK Hsrc).mono ?_; rintro e w1 ⟨rfl, hb1⟩) | (go_at_call 113; refine ((qK Htm) _ hb1).mono ?_; rintro e3 w3 ⟨rfl, hb3⟩))
      obtain ⟨w4, hw4⟩ : ∃ w4, w3.alloc (.cells #[.int .i64 (ep : Int), .int .i64 0] 75) = w4 := ⟨_, rfl⟩
      have hb4 : Bw w3 w4 := by rw [← hw4]; exact (by repeat first|exact br _|assumption|apply bd|apply bn|apply ba|refine bt ?_ (by assumption))
      have hg4 : w4.heap[w3.heap.size]? = some (.cells #[.int .i64 (ep : Int), .int .i64 0] 75 (0, 0)) := by rw [← hw4]; exact heap_alloc_new w3 _
      rw [hw4]
      clear hw4
      have hB4 : Bw w w4 := (by repeat first|exact br _|assumption|apply bd|apply bn|apply ba|refine bt ?_ (by assumption))
      have hz3 : w.heap.size ≤ w3.heap.size := Bw.size (by repeat first|exact br _|assumption|apply bd|apply bn|apply ba|refine bt ?_ (by assumption))
      obtain ⟨gb, hgb⟩ : ∃ gb, w3.heap.size = gb := ⟨_, rfl⟩
      rw [hgb] at hg4 hz3
      rw [hgb]
      clear hgb
      have hnS : ∀ g, w.heap.size ≤ g → ¬ S g := fun g hg h => by have := (qK HO).slt _ h; omega
      have hO4 := (qK HO).bw hB4
      have c3 := qQ (o := 3) hO4.root hO4.r3
      have l0 := hO4.slt _ hO4.sroot
      have l1 := hO4.slt _ hO4.swork
      have c4 := qQ (o := i * 3684 + m * 2) hO4.work (hepe ▸ (hO4.row.src i m hi hm).1)
      have c4f := qZ (o := i * 3684 + m * 2) hO4.work
      have hpw : ¬ pb = x.wb := fun e => by have h1 := hO4.root; rw [e, hO4.work] at h1; simp at h1
      have hpw2 : ¬ x.wb = pb := fun e => hpw e.symm
      have HO5 := qJ (hO4.setEp hi hm (st.ep i m + 1))
      have hgw : ¬ gb = x.wb := fun e => hnS gb hz3 (e ▸ (qK HO).swork)
      clear hO4
      rw [hepe] at HO5
      go_region
      obtain ⟨w5, hw5⟩ : ∃ w5, (w4.setCell ⟨x.wb, i * 3684 + m * 2, none⟩ (.int .i64 ((ep : Int) + 1))).drew = w5 := ⟨_, rfl⟩
      have hbd : Bw (w4.setCell ⟨x.wb, i * 3684 + m * 2, none⟩ (.int .i64 ((ep : Int) + 1))) w5 := by rw [← hw5]; exact (by repeat first|exact br _|assumption|apply bd|apply bn|apply ba|refine bt ?_ (by assumption))
      have hC5 : Chg S w w5 := (((Chg.bw (S := S) hB4).trans (qC w4 x.wb (i * 3684 + m * 2) (.int .i64 ((ep : Int) + 1))) (fun b h => .inl (h ▸ (qK HO).swork)))).trans (Chg.bw (S := S) hbd) (fun _ h => .inl h)
      have hO5 := (qK HO5).bw hbd
      have hg5 : w5.heap[gb]? = some (.cells #[.int .i64 (ep : Int), .int .i64 0] 75 (0, 0)) := (Below.block hbd _ (by simpa using (Array.getElem?_eq_some_iff.1 hg4).1)).trans ((Below.heap_setCell w4 ⟨x.wb, i * 3684 + m * 2, none⟩ _ gb hgw).trans hg4)
      rw [hw5]
      clear hw5 HO5 c3 c4 c4f l0 l1 hg4 hbd
      have Htm5 := qJ (tX i m w5 hO5 hi hm)
      simp only [zZ] at Htm5
      have HO5 := qJ hO5
      have hz5 := hC5.size
      clear hO5
      go_wp2_with (go_at_call 113; refine (qK Htm5).mono ?_; rintro e6 w6 ⟨rfl, hb6⟩)
      obtain ⟨w7, hw7⟩ : ∃ w7, w6.alloc (.cells #[.int .i64 ((ep : Int) + 1), .int .i64 0] 75) = w7 := ⟨_, rfl⟩
      have hb7 : Bw w6 w7 := by rw [← hw7]; exact (by repeat first|exact br _|assumption|apply bd|apply bn|apply ba|refine bt ?_ (by assumption))
      have hn7 : w7.heap[w6.heap.size]? = some (.cells #[.int .i64 ((ep : Int) + 1), .int .i64 0] 75 (0, 0)) := by rw [← hw7]; exact heap_alloc_new w6 _
      rw [hw7]
      clear hw7
      have hB7 : Bw w5 w7 := hb6.trans hb7
      have hz6 := hb6.size
      obtain ⟨nb, hnb⟩ : ∃ nb, w6.heap.size = nb := ⟨_, rfl⟩
      rw [hnb] at hn7 hz6
      rw [hnb]
      clear hnb
      have hg7 := (Below.block hB7 _ (Array.getElem?_eq_some_iff.1 hg5).1).trans hg5
      have s0 := qQ (o := 0) hg7 rfl
      have s1 := qQ (o := 1) hg7 rfl
      have s2 := qQ (o := 0) hn7 rfl
      have s3 := qQ (o := 1) hn7 rfl
      have sl := (Array.getElem?_eq_some_iff.1 hg7).1
      have sm := (Array.getElem?_eq_some_iff.1 hn7).1
      have Hcs := qJ (fun (w' : World) (h : w'.heap[gb]? = some (.cells #[.int .i64 (ep : Int), .int .i64 0] 75 (0, 0)) ∧ w'.heap[nb]? = some (.cells #[.int .i64 ((ep : Int) + 1), .int .i64 0] 75 (0, 0))) => (⟨qQ (o := 0) h.1 rfl, qQ (o := 1) h.1 rfl, qQ (o := 0) h.2 rfl, qQ (o := 1) h.2 rfl⟩ : w'.cell? ⟨gb, 0, none⟩ = some (.int .i64 (ep : Int)) ∧ w'.cell? ⟨gb, 1, none⟩ = some (.int .i64 0) ∧ w'.cell? ⟨nb, 0, none⟩ = some (.int .i64 ((ep : Int) + 1)) ∧ w'.cell? ⟨nb, 1, none⟩ = some (.int .i64 0)))
      have Hbx := qJ (fun (w' : World) (h : Bw w7 w') => (⟨(Below.block h _ sl).trans hg7, (Below.block h _ sm).trans hn7⟩ : w'.heap[gb]? = some (.cells #[.int .i64 (ep : Int), .int .i64 0] 75 (0, 0)) ∧ w'.heap[nb]? = some (.cells #[.int .i64 ((ep : Int) + 1), .int .i64 0] 75 (0, 0))))
      have Hok : Hid (∀ j, j < [(⟨m, true, ep, 0, -1⟩ : Pt), ⟨m, true, (ep : Int) + 1, 0, 1⟩].length → wP 8 4 (vU [(⟨m, true, ep, 0, -1⟩ : Pt), ⟨m, true, (ep : Int) + 1, 0, 1⟩] j)) := qJ (fun j hj => by
        simp only [List.length_cons, List.length_nil] at hj
        match j, hj with
        | 0, _ => exact ⟨m, ep, 0, rfl, by omega, rfl, hep6, rfl, by omega⟩
        | 1, _ => exact ⟨m, ep + 1, 0, rfl, by omega, by simp [vU], by omega, rfl, by omega⟩)
      have hng := hnS gb hz3
      have hnn := hnS nb (by omega)
      have Hmk := qJ (fun (w' : World) (h : Bw w7 w') (g : Nat) (c : Nat) (hp : w'.heap[g]? = some (.cells #[.int .i64 (m : Int), .bool true, .int .i64 (ep : Int), .int .i64 0, .int .i64 (-1), .int .i64 (m : Int), .bool true, .int .i64 ((ep : Int) + 1), .int .i64 0, .int .i64 1] 194 (0, 0))) => pL i [(⟨m, true, ep, 0, -1⟩ : Pt), ⟨m, true, (ep : Int) + 1, 0, 1⟩] (some ⟨g, 0, none⟩) c w' ((qK HO5).bw (hB7.trans h)) hi (cells10at (p := ⟨m, true, ep, 0, -1⟩) (q := ⟨m, true, (ep : Int) + 1, 0, 1⟩) hp) (qK Hok) (by simp) hlim)
      clear hg7 hn7 hg5
      go_region_held3 (fun w' => w'.cell? ⟨gb, 0, none⟩ = some (.int .i64 (ep : Int)) ∧ w'.cell? ⟨gb, 1, none⟩ = some (.int .i64 0) ∧ w'.cell? ⟨nb, 0, none⟩ = some (.int .i64 ((ep : Int) + 1)) ∧ w'.cell? ⟨nb, 1, none⟩ = some (.int .i64 0)) (first | go_keep | exact (qK Hcs) _ hbx9 | exact (qK Hcs) _ ((qK Hbx) _ (by repeat first|exact br _|assumption|apply bd|apply bn|apply ba|refine bt ?_ (by assumption)))) ((first | (go_at_call 137; refine (mM _ _ _ _ _).mono ?_; rintro e8 w8 ⟨rfl, hb8⟩; simp only [Pt.val]) | (go_at_call 115; refine ((qK Hmk) _ (by repeat first|exact br _|assumption|apply bd|apply bn|apply ba|refine bt ?_ (by assumption)) _ _ (heap_alloc_new _ _)).mono ?_; rintro e9 w9 ⟨rfl, hA9⟩; have hbx9 := (⟨hA9.box hng ((qK Hbx) _ (by repeat first|exact br _|assumption|apply bd|apply bn|apply ba|refine bt ?_ (by assumption))).1, hA9.box hnn ((qK Hbx) _ (by repeat first|exact br _|assumption|apply bd|apply bn|apply ba|refine bt ?_ (by assumption))).2⟩ : w9.heap[gb]? = some (.cells #[.int .i64 (ep : Int), .int .i64 0] 75 (0, 0)) ∧ w9.heap[nb]? = some (.cells #[.int .i64 ((ep : Int) + 1), .int .i64 0] 75 (0, 0))))))
      all_goals (
        have HA := qJ (After.of (hC5.trans (Chg.bw (S := S) (hB7.trans (show Bw w7 _ from (by repeat first|exact br _|assumption|apply bd|apply bn|apply ba|refine bt ?_ (by assumption))))) (fun _ h => .inl h)) (fun _ h => .inl h) hA9)
        clear hA9
        go_wp2_with fail
        go_ret
        exact ⟨kN (qK He).symm, by rw [qK Hs]; unfold uT; rw [hepe]; exact qK HA⟩)
set_option maxHeartbeats 1000000 in
theorem pgive_any {S : Nat → Prop} {pb : Nat} {x : PX} {ns : List Nd} {R W : Nat} {D : Nat → Nat → Int} {st : PSt} (wk n v : Int) (w : World) (hO : POwn w S pb x ns R W D st) (h6 : ∀ k, k < ns.length → (qV ns k).kind = 6 → 1 ≤ (qV ns k).k ∧ (qV ns k).k ≤ 8) (hf : ∀ a b, (st.wt a b).length ≤ 90000000) (hlim : ∀ a b, (st.wy a b).length + 1 ≤ 100000000) (hep : ∀ a b, ∃ k : Nat, st.ep a b = k ∧ k < 6) (hgv : 0 ≤ st.gv ∧ st.gv ≤ 1000) :
    Calls Try.prog 59 #[.pointer (some ⟨pb, 0, none⟩), .int .i64 wk, .int .i64 n, .int .i64 v] w fun e w' => e = .returned (.int .i64 (yR ns W st wk n)) ∧ POwn.After w w' S pb ns R W D (jD ns W st wk n v) := by
  have H := qJ (prgive_any wk n v w hO h6 hf hlim hep hgv)
  clear hO hep h6 hf
  go_enter Try.func59, Try.ntmps59
  go_wp2_with (go_at_call 85; refine (qK H).mono ?_; rintro e w1 ⟨rfl, hA⟩)
  go_ret
  exact ⟨rfl, hA⟩
set_option maxHeartbeats 1000000 in
theorem padvance_any {S : Nat → Prop} {pb : Nat} {x : PX} {ns : List Nd} {R W : Nat} {D : Nat → Nat → Int} {st : PSt} (wk n : Int) (w : World) (hO : POwn w S pb x ns R W D st) (hlim : ∀ a b, (st.wy a b).length + 1 ≤ 100000000) (hep : ∀ a b, ∃ k : Nat, st.ep a b = k ∧ k < 6) :
    Calls Try.prog 83 #[.pointer (some ⟨pb, 0, none⟩), .int .i64 wk, .int .i64 n] w fun e w' => e = .returned (.int .i64 (wV ns W st wk n)) ∧ POwn.After w w' S pb ns R W D (yZ ns W st wk n) := by
  have H := qJ (pradvance_any wk n w hO hlim hep)
  clear hO hep
  go_enter Try.func83, Try.ntmps83
  go_wp2_with (go_at_call 110; refine (qK H).mono ?_; rintro e w1 ⟨rfl, hA⟩)
  go_ret
  exact ⟨rfl, hA⟩
set_option maxHeartbeats 1000000 in
theorem pclose_any {S : Nat → Prop} {pb : Nat} {x : PX} {ns : List Nd} {R W : Nat} {D : Nat → Nat → Int} {st : PSt} (wk n : Int) (w : World) (hO : POwn w S pb x ns R W D st) (hlim : ∀ a b, (st.wy a b).length + 1 ≤ 100000000) (hep : ∀ a b, ∃ k : Nat, st.ep a b = k ∧ k < 6) :
    Calls Try.prog 84 #[.pointer (some ⟨pb, 0, none⟩), .int .i64 wk, .int .i64 n] w fun e w' => e = .returned (.int .i64 (jP ns W st.cl wk n)) ∧ POwn.After w w' S pb ns R W D (yF ns W st wk n) := by
  have H := qJ (prclose_any wk n w hO hlim hep)
  clear hO hep
  go_enter Try.func84, Try.ntmps84
  go_wp2_with (go_at_call 111; refine (qK H).mono ?_; rintro e w1 ⟨rfl, hA⟩)
  go_ret
  exact ⟨rfl, hA⟩
def acB (evs : List Ev) (w n e s : Int) (i : Nat) : Bool := ((uJ evs i).worker == w) && (((uJ evs i).node == n) && (((uJ evs i).epoch == e) && ((uJ evs i).round == s)))
def jS (evs : List Ev) (w n e s : Int) : Nat → List Int
  | 0 => []
  | i + 1 => if acB evs w n e s i then (if (uJ evs i).kind == 1 then jS evs w n e s i ++ [(uJ evs i).value] else if (uJ evs i).kind == 2 then [] else jS evs w n e s i) else jS evs w n e s i
theorem acTo_no {evs : List Ev} {w n e s : Int} {i : Nat} (h : acB evs w n e s i = false) : jS evs w n e s (i + 1) = jS evs w n e s i := by rw [jS, h]; rfl
def meB (evs : List Ev) (x : Ev) (i : Nat) : Bool := ((uJ evs i).kind == 1) && (((uJ evs i).worker == x.worker) && (((uJ evs i).node == x.node) && (((uJ evs i).epoch == x.epoch) && (((uJ evs i).round == x.round) && ((uJ evs i).value == x.value)))))
def pP (evs : List Ev) (x : Ev) : Nat → Bool
  | 0 => false
  | i + 1 => pP evs x i || meB evs x i
theorem Try.infoRec : (Try.prog.info? 110).map (fun i => (i.zero, i.size, i.bytes)) = some (some (.agg #[.int .i64 0, .int .i64 0, .int .i64 0, .int .i64 0, .int .i64 0]), 5, 40) := by kernel_rfl
def rcOf (y : Ev) : Nd := ⟨y.node, y.worker, y.epoch, y.round, y.value⟩
def ouB (ns : List Nd) (evs : List Ev) (i : Nat) : Bool := ((uJ evs i).kind == 1) && ((qV ns (uJ evs i).node.toNat).kind == 7)
def nC (ns : List Nd) (evs : List Ev) : Nat → List Nd
  | 0 => []
  | i + 1 => if ouB ns evs i then nC ns evs i ++ [rcOf (uJ evs i)] else nC ns evs i
theorem ouTo_len (ns : List Nd) (evs : List Ev) (k : Nat) : (nC ns evs k).length ≤ k := by
  induction k with
  | zero => simp [nC]
  | succ k ih => unfold nC; split <;> (try simp) <;> omega
def OwnC (W w : World) (v : Value) (l : List Nd) : Prop := w.ownsRow W.heap.size 110 5 v l.length (qM l)
theorem nd_one' (x : Nd) : ∀ u ∈ x.cells, u.oneCell' = true := by
  intro u hu
  simp [Nd.cells] at hu
  rcases hu with rfl | rfl | rfl | rfl | rfl <;> rfl
theorem Try.infoEvent : (Try.prog.info? 120).map (fun i => (i.zero, i.size, i.bytes)) = some (some (.agg #[.int .i64 0, .int .i64 0, .int .i64 0, .int .i64 0, .int .i64 0, .int .i64 0, .int .i64 0]), 7, 56) := by kernel_rfl
def OwnE (W w : World) (v : Value) (l : List Ev) : Prop := w.ownsRow W.heap.size 120 7 v l.length (jG l)
theorem OwnE.val {W w : World} {v : Value} {l : List Ev} (h : OwnE W w v l) : ∃ a c, v = .slice a l.length c := ⟨_, _, qW h⟩
theorem OwnE.nil (W w : World) : OwnE W w (.slice none 0 0) [] := World.ownsRow_nil _ _ _ _
theorem OwnE.bw {W a b : World} {v : Value} {l : List Ev} (h : OwnE W a v l) (hb : Bw a b) : OwnE W b v l := qP h fun g hg => Below.block hb g hg
theorem evCells_snoc (l : List Ev) (x : Ev) : jG (l ++ [x]) = jG l ++ x.cells := by simp [jG]
theorem evCells_app (l m : List Ev) : jG (l ++ m) = jG l ++ jG m := by simp [jG]
theorem OwnE.snoc {W w : World} {v : Value} {l : List Ev} {x : Ev} (h : w.ownsRow W.heap.size 120 7 v (l.length + 1) (jG l ++ x.cells)) : OwnE W w v (l ++ [x]) := by
  unfold OwnE; rw [evCells_snoc, List.length_append]; exact h
theorem ev_one (x : Ev) : ∀ u ∈ x.cells, u.oneCell' = true := by
  intro u hu
  simp [Ev.cells] at hu
  rcases hu with rfl | rfl | rfl | rfl | rfl | rfl | rfl <;> rfl
theorem evs_one (l : List Ev) : ∀ u ∈ jG l, u.oneCell' = true := by
  intro u hu
  obtain ⟨x, _, h⟩ := List.mem_flatMap.1 hu
  exact ev_one x u h
theorem evCells_len (l : List Ev) : (jG l).length = l.length * 7 := by
  induction l with
  | nil => rfl
  | cons x l ih => simp only [jG, List.flatMap_cons, List.length_append, List.length_cons] at ih ⊢; rw [ih]; simp [Ev.cells]; omega
def zC (fr : List Tm) (e s : Nat) : Nat → Bool
  | 0 => true
  | i + 1 => zC fr e s i && !(upB (nB fr i) e s)
end Go.Proofs.Ytfemleimkbjehaa
