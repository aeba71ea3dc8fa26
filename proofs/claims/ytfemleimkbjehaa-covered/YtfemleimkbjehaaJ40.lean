import Derived.Test.YtfemleimkbjehaaYJ
import Derived.BigQuiet
import Derived.Test.YtfemleimkbjehaaJ6
import Derived.Test.YtfemleimkbjehaaJ34
set_option maxRecDepth 1000000
set_option maxHeartbeats 40000000
set_option linter.unusedVariables false
set_option linter.unusedSimpArgs false
namespace Go.Proofs.Ytfemleimkbjehaa
open Go.RowKit
theorem BAt.After.from {w w1 w2 : World} {U : Nat → Prop} {bb : Nat} {ns : List Nd} {R W : Nat} {gs : List Gv} {p : PSt} {st : RSt} (hb : Bw w w1) (h : BAt.After w1 w2 U bb ns R W gs p st) : BAt.After w w2 U bb ns R W gs p st := by
  obtain ⟨U', h1, h2, h3⟩ := h
  exact ⟨U', h1, (Chg.bw (S := U) hb).trans h2 (fun b h => .inl h), fun b hb' => (h3 b hb').imp id fun h => Nat.le_trans hb.size h⟩
theorem BAt.kept {w : World} {U : Nat → Prop} {bb : Nat} {ns : List Nd} {R W : Nat} {gs : List Gv} {p : PSt} {st : RSt} (h : BAt w U bb ns R W gs p st) : Kept ns R W gs p st := by
  obtain ⟨W0, T, S, pb, x, xp, h, _⟩ := h
  exact h.kept
theorem BAt.cells {w : World} {U : Nat → Prop} {bb : Nat} {ns : List Nd} {R W : Nat} {gs : List Gv} {p : PSt} {st : RSt} (h : BAt w U bb ns R W gs p st) :
    ∃ (na : Option Addr) (nc eb ec : Nat) (er : Nat → Nat), w.cell? ⟨bb, 1, none⟩ = some (.slice na ns.length nc) ∧ w.cell? ⟨bb, 2, none⟩ = some (.int .i64 (R : Int)) ∧ w.cell? ⟨bb, 3, none⟩ = some (.int .i64 (W : Int)) ∧ w.cell? ⟨bb, 4, none⟩ = some (.slice (some ⟨eb, 0, none⟩) W ec) ∧ w.cell? ⟨bb, 6, none⟩ = some (.int .i64 (st.opened.length : Int)) ∧ w.cell? ⟨bb, 7, none⟩ = some (.int .i64 (st.evs.length : Int)) ∧ bb < w.heap.size ∧ NodesAt w na ns ∧
      ∀ i n, i < W → n < ns.length → w.cell? ⟨eb, i, none⟩ = some (.slice (some ⟨er i, 0, none⟩) ns.length ns.length) ∧ w.cell? ⟨er i, n, none⟩ = some (.int .i64 (bep p i n)) ∧ eb < w.heap.size ∧ er i < w.heap.size := by
  obtain ⟨W0, T, S, pb, x, xp, h, _⟩ := h
  obtain ⟨c0, c1, c2, c3, c4, c5, c6, c7, c8, cl, _⟩ := h.bt.cells
  refine ⟨x.na, x.nc, x.eb, x.ec, x.er, c1, c2, c3, c4, c6, c7, cl, h.nodes.below h.base, fun i n hi hn => ?_⟩
  obtain ⟨f1, f2, f3, f4, _⟩ := h.bt.epAt hi hn
  exact ⟨f1, f2, f3, f4⟩
structure OpI where
  k : Int
  a : Int
  b : Int
  c : Int
def OpI.wf (o : OpI) : Prop := I64 o.k ∧ I64 o.a ∧ I64 o.b ∧ I64 o.c
set_option maxRecDepth 100000 in
set_option maxHeartbeats 8000000 in
theorem kstep_any {U : Nat → Prop} {bb : Nat} {ns : List Nd} {R W : Nat} {gs : List Gv} {p : PSt} {st : RSt} (g : GOk ns R W) (h0 : (qV ns 0).kind = 0) (o : OpI) (ho : o.wf) (w : World) (hB : BAt w U bb ns R W gs p st) :
    Calls Try.prog 28 #[.pointer (some ⟨bb, 0, none⟩), .agg #[.int .i64 o.k, .int .i64 o.a, .int .i64 o.b, .int .i64 o.c]] w fun e w' => e = .returned (.bool true) ∧ ∃ gs' p' st', BAt.After w w' U bb ns R W gs' p' st' ∧ Mv ns R W p p' := by
  obtain ⟨ok, oa, ob, oc⟩ := o
  obtain ⟨hok, hoa, hob, hoc⟩ := ho
  simp only at hok hoa hob hoc ⊢
  have hW := g.hW
  have hW1 := g.hW1
  obtain ⟨na, nc, eb, ec, er, c1, c2, c3, c4, c6, c7, cl, hnd, hep⟩ := hB.cells
  have HB := qJ hB
  obtain ⟨b1, b2⟩ := jX oa (n := (W : Int)) (by omega)
  obtain ⟨i, hi⟩ : ∃ i : Nat, jQ oa (W : Int) = i := ⟨(jQ oa W).toNat, by omega⟩
  have hiW : i < W := by omega
  clear hnd hep hB b1 b2
  go_enter Try.func28, Try.ntmps28
  go_wp2_with fail
  go_quiet ((go_at_call 16; refine Calls.quiet_of_same (hi ▸ xX oa (W : Int) _ hoa.1 hoa.2 (by omega) (by omega))))
  obtain ⟨w0, hw0, hB0⟩ : ∃ w0, (w.alloc (.cells #[.int .i64 ok, .int .i64 oa, .int .i64 ob, .int .i64 oc] 67)).drewN nq = w0 ∧ Bw w w0 := ⟨_, rfl, (by repeat first|exact br _|assumption|apply bd|apply bn|apply ba|refine bt ?_ (by assumption))⟩
  have hx0 : w0.heap[w.heap.size]? = some (.cells #[.int .i64 ok, .int .i64 oa, .int .i64 ob, .int .i64 oc] 67 (0, 0)) := by
    rw [← hw0]; exact heap_alloc_new w _
  rw [hw0]
  clear hw0
  have x2 := qQ (o := 2) hx0 rfl
  have xl := (Array.getElem?_eq_some_iff.1 hx0).1
  go_wp2_with fail
  refine (ksource_any ob w0 ((qK HB).bw hB0) g.h1 g.h8 h0 hob.1 hob.2).mono ?_
  rintro e1 w1 ⟨n, rfl, hn, hkn, hB1⟩
  have hx1 := (Below.block hB1 _ xl).trans hx0
  have z0 := qQ (o := 0) hx1 rfl
  have z1 := qQ (o := 1) hx1 rfl
  have z3 := qQ (o := 3) hx1 rfl
  have zl := (Array.getElem?_eq_some_iff.1 hx1).1
  have HB1 := qJ ((qK HB).bw (hB0.trans hB1))
  have HBw := qJ (hB0.trans hB1)
  have Hn := qJ hkn
  clear hx0 hx1 x2 hB0 hB1 hkn
  by_cases k1 : ok = 1
  · subst k1
    go_wp2_with (go_at_call 29; refine (kgive_any g i n oc _ (qK HB1) hiW hn (qK Hn) hoc).mono ?_; rintro e2 w2 ⟨rfl, gs', p', st', hA, hM, _⟩)
    go_ret
    exact ⟨rfl, gs', p', st', hA.from (qK HBw), hM⟩
  · by_cases k2 : ok = 2
    · subst k2
      go_wp2_with (go_at_call 57; refine (kadvance_any g i n _ (qK HB1) hiW hn (qK Hn)).mono ?_; rintro e2 w2 ⟨rfl, gs', p', st', hA, hM, _⟩)
      go_ret
      exact ⟨rfl, gs', p', st', hA.from (qK HBw), hM⟩
    · by_cases k3 : ok = 3
      · subst k3
        go_wp2_with (go_at_call 58; refine (kclose_any g i n _ (qK HB1) hiW hn (qK Hn)).mono ?_; rintro e2 w2 ⟨rfl, p', st', hA, hM, _⟩)
        go_ret
        exact ⟨rfl, gs, p', st', hA.from (qK HBw), hM⟩
      · have k1b : (ok == 1) = false := by simpa using k1
        have k2b : (ok == 2) = false := by simpa using k2
        have k3b : (ok == 3) = false := by simpa using k3
        go_wp2_with (go_at_call 37; refine (kact_any g oa _ (qK HB1) hoa.1 hoa.2).mono ?_; rintro e2 w2 ⟨rfl, p', st', hA, hM, _⟩)
        go_ret
        exact ⟨rfl, gs, p', st', hA.from (qK HBw), hM⟩
def opn (l : List OpI) (k : Nat) : OpI := l.getD k ⟨0, 0, 0, 0⟩
def OpsAt (w : World) (ad : Option Addr) (l : List OpI) : Prop := ∀ i, i < l.length → ∃ b off, ad = some ⟨b, off, none⟩ ∧ b < w.heap.size ∧ ∀ j, j < l.length → w.cell? ⟨b, off + j * 4, none⟩ = some (.int .i64 (opn l j).k) ∧ w.cell? ⟨b, off + j * 4 + 1, none⟩ = some (.int .i64 (opn l j).a) ∧ w.cell? ⟨b, off + j * 4 + 2, none⟩ = some (.int .i64 (opn l j).b) ∧ w.cell? ⟨b, off + j * 4 + 3, none⟩ = some (.int .i64 (opn l j).c)
theorem OpsAt.chg {w w' : World} {U : Nat → Prop} {ad : Option Addr} {l : List OpI} (h : OpsAt w ad l) (hc : Chg U w w') (hd : ∀ i, i < l.length → ∀ a, ad = some a → ¬ U a.block) : OpsAt w' ad l := by
  intro i hi
  obtain ⟨b, off, e, hb, hcc⟩ := h i hi
  have hbl := hc.block b hb (hd i hi ⟨b, off, none⟩ e)
  refine ⟨b, off, e, Nat.lt_of_lt_of_le hb hc.size, fun j hj => ?_⟩
  obtain ⟨c0, c1, c2, c3⟩ := hcc j hj
  exact ⟨(World.cell?_of_block (a := ⟨b, _, none⟩) hbl).trans c0, (World.cell?_of_block (a := ⟨b, _, none⟩) hbl).trans c1, (World.cell?_of_block (a := ⟨b, _, none⟩) hbl).trans c2, (World.cell?_of_block (a := ⟨b, _, none⟩) hbl).trans c3⟩
theorem BAt.After.then {w w1 w2 : World} {U U1 : Nat → Prop} {bb : Nat} {ns : List Nd} {R W : Nat} {gs' : List Gv} {p' : PSt} {st' : RSt} (hC : Chg U w w1) (hU : ∀ b, U1 b → U b ∨ w.heap.size ≤ b) (h : BAt.After w1 w2 U1 bb ns R W gs' p' st') : BAt.After w w2 U bb ns R W gs' p' st' := by
  obtain ⟨U2, q1, q2, q3⟩ := h
  refine ⟨U2, q1, hC.trans q2 hU, fun b hb => ?_⟩
  rcases q3 b hb with h | h
  · exact hU b h
  · exact .inr (Nat.le_trans hC.size h)
set_option maxRecDepth 100000 in
set_option maxHeartbeats 8000000 in
theorem kshut_any {U : Nat → Prop} {bb : Nat} {ns : List Nd} {R W : Nat} {gs : List Gv} {p : PSt} {st : RSt} (g : GOk ns R W) (w : World) (hB : BAt w U bb ns R W gs p st) :
    Calls Try.prog 34 #[.pointer (some ⟨bb, 0, none⟩)] w fun e w' => e = .returned (.bool true) ∧ ∃ p' st', BAt.After w w' U bb ns R W gs p' st' ∧ Mv ns R W p p' ∧ st'.evs = st.evs ∧ AllCl ns W p' := by
  have HB := qJ hB
  have hW4 := g.hW
  have hL8 := g.h8
  clear hB
  go_enter Try.func34, Try.ntmps34
  go_wp2_with fail
  go_loopw [3] (fun i wr => ∃ (k : Nat) (p' : PSt) (st' : RSt), k ≤ W ∧ i = .int .i64 k ∧ BAt.After w wr U bb ns R W gs p' st' ∧ Mv ns R W p p' ∧ st'.evs = st.evs ∧ ∀ a b, a < k → b < ns.length → (qV ns b).kind = 0 → p'.cl a b = true) (fun i _ => W - (intOf i).toNat)
  case atStart => exact ⟨0, p, st, Nat.zero_le _, rfl, (qK HB).same (Bw.refl _), Mv.refl _ _ _ _, rfl, fun a b h => absurd h (Nat.not_lt_zero _)⟩
  case round =>
    obtain ⟨k, p1, st1, hk, rfl, hA, hM, hev, hcl⟩ := hrel
    rename World => wr
    obtain ⟨U1, hB1, hC1, hU1⟩ := id hA
    obtain ⟨na, nc, eb, ec, er, c1, c2, c3, c4, c6, c7, cl, hnd, hep⟩ := hB1.cells
    have H1 := qJ (⟨hA, hM, hev, hcl⟩ : _ ∧ _ ∧ _ ∧ _)
    clear hA hM hev hcl hB1 hC1 hU1
    by_cases hlt : k < W
    · have hk1 : (k : Int) < (W : Int) := by omega
      clear c1 c2 c4 c6 c7 hnd hep
      go_wp2_with fail
      go_loopw [4] (fun i wi => ∃ (m : Nat) (p' : PSt) (st' : RSt), m ≤ ns.length ∧ i = .int .i64 m ∧ BAt.After w wi U bb ns R W gs p' st' ∧ Mv ns R W p p' ∧ st'.evs = st.evs ∧ (∀ a b, a < k → b < ns.length → (qV ns b).kind = 0 → p'.cl a b = true) ∧ ∀ b, b < m → (qV ns b).kind = 0 → p'.cl k b = true) (fun i _ => ns.length - (intOf i).toNat)
      case atStart =>
        obtain ⟨hA, hM, hev, hcl⟩ := qK H1
        exact ⟨0, p1, st1, Nat.zero_le _, rfl, hA, hM, hev, hcl, fun b h => absurd h (Nat.not_lt_zero _)⟩
      case round =>
        clear H1 c3 cl
        obtain ⟨m, p2, st2, hm, rfl, hA, hM, hev, hcl, hcm⟩ := hrel
        rename World => wi
        obtain ⟨U2, hB2, hC2, hU2⟩ := id hA
        obtain ⟨na, nc, eb, ec, er, c1, c2, c3, c4, c6, c7, cl, hnd, hep⟩ := hB2.cells
        have H2 := qJ (⟨hA, hM, hev, hcl, hcm⟩ : _ ∧ _ ∧ _ ∧ _ ∧ _)
        have H3 := qJ (⟨hB2, hC2, hU2⟩ : _ ∧ _ ∧ _)
        clear hA hM hev hcl hcm hC2 hU2
        by_cases hlt2 : m < ns.length
        · have hm1 : (m : Int) < (ns.length : Int) := by omega
          obtain ⟨b, off, rfl, hb, hc⟩ := hnd m hlt2
          obtain ⟨k0, _⟩ := hc m hlt2
          obtain ⟨f1, f2, f3, f4⟩ := hep k m hlt hlt2
          obtain ⟨e0, ee1, ee2, _⟩ := hB2.kept.ep6 k m
          have hbl := bep_lt (p := p2) (i := k) (n := m) ⟨e0, ee1, ee2⟩
          have Hbl := qJ hbl
          clear hc hnd hep hbl ee1 ee2 hB2
          by_cases hkd : (qV ns m).kind = 0
          · have hkb : ((qV ns m).kind == 0) = true := by simpa using hkd
            have Hkd := qJ hkd
            clear hkd
            by_cases hneg : bep p2 k m < 0
            · have hd : decide (0 ≤ bep p2 k m) = false := by simpa using hneg
              have Hneg := qJ hneg
              clear hneg
              go_wp2_with fail
              go_roundw
              case rel =>
                obtain ⟨hA, hM, hev, hcl, hcm⟩ := qK H2
                refine ⟨m + 1, p2, st2, by omega, by go_num, hA, hM, hev, hcl, fun b hb h => ?_⟩
                by_cases e : b = m
                · subst e; exact (qK Hbl).1.1 (qK Hneg)
                · exact hcm b (by omega) h
              case measure => simp [intOf]; omega
            · have hd : decide (0 ≤ bep p2 k m) = true := by simp; omega
              clear hneg
              go_wp2_with (go_at_call 58; refine (kclose_any g k m _ (qK H3).1 hlt hlt2 (qK Hkd)).mono ?_; rintro e2 w2 ⟨rfl, p3, st3, hA3, hM3, hev3, hcl3, hmono⟩)
              go_roundw
              case rel =>
                obtain ⟨hA, hM, hev, hcl, hcm⟩ := qK H2
                obtain ⟨hB2, hC2, hU2⟩ := qK H3
                refine ⟨m + 1, p3, st3, by omega, by go_num, BAt.After.then hC2 hU2 hA3, hM.trans hM3, hev3.trans hev, fun a b h1 h2 h3 => hmono a b (hcl a b h1 h2 h3), fun b hb h => ?_⟩
                by_cases e : b = m
                · subst e; exact hcl3
                · exact hmono k b (hcm b (by omega) h)
              case measure => simp [intOf]; omega
          · have hkb : ((qV ns m).kind == 0) = false := by simpa using hkd
            have Hkd := qJ hkd
            clear hkd
            go_wp2_with fail
            go_roundw
            case rel =>
              obtain ⟨hA, hM, hev, hcl, hcm⟩ := qK H2
              refine ⟨m + 1, p2, st2, by omega, by go_num, hA, hM, hev, hcl, fun b hb h => ?_⟩
              by_cases e : b = m
              · subst e; exact absurd h (qK Hkd)
              · exact hcm b (by omega) h
            case measure => simp [intOf]; omega
        · have hmm : m = ns.length := by omega
          subst hmm
          clear hnd hep hB2
          go_wp2_with fail
          go_roundw
          case rel =>
            obtain ⟨hA, hM, hev, hcl, hcm⟩ := qK H2
            refine ⟨k + 1, p2, st2, by omega, by go_num, hA, hM, hev, fun a b h1 h2 h3 => ?_⟩
            by_cases e : a = k
            · subst e; exact hcm b h2 h3
            · exact hcl a b (by omega) h2 h3
          case measure => simp [intOf]; omega
    · have hkk : k = W := by omega
      subst hkk
      clear hnd hep
      go_wp2_with fail
      go_ret
      obtain ⟨hA, hM, hev, hcl⟩ := qK H1
      exact ⟨rfl, p1, st1, hA, hM, hev, fun i n hi hn h => hcl i n hi hn h⟩
def onB (q : Int) (W : Nat) (l : List Int) (w : Nat) : Bool := l.any fun v => v % q % W == (w : Int)
theorem onB_snoc (q : Int) (W : Nat) (l : List Int) (v : Int) (w : Nat) : onB q W (l ++ [v]) w = (onB q W l w || (v % q % W == (w : Int))) := by unfold onB; simp
theorem spN_snoc {q : Int} {W : Nat} {l : List Int} {v : Int} {g : Nat} (hg : v % q % W = g) (hW : g < W) : spN q W (l ++ [v]) = spN q W l + if onB q W l g then 0 else 1 := by
  refine sumN_one hW fun w hw => ?_
  have h1 := onB_snoc q W l v w
  unfold onB at h1
  rw [h1, hg]
  by_cases e : w = g
  · subst e
    rw [if_pos rfl]
    unfold onB
    cases l.any fun v => v % q % W == (w : Int) <;> simp
  · rw [if_neg e]
    have : ((g : Int) == (w : Int)) = false := by simp; omega
    rw [this, Bool.or_false]; rfl
def G4 (w : World) (A : Nat) (M : Nat → Bool) : Prop := ∃ arr : Array Value, w.heap[A]? = some (.cells arr 142 (0, 0)) ∧ arr.size = 4 ∧ ∀ g, g < 4 → arr[g]? = some (.bool (M g))
theorem G4.get {w : World} {A : Nat} {M : Nat → Bool} (h : G4 w A M) {g : Nat} (hg : g < 4) : w.cell? ⟨A, g, none⟩ = some (.bool (M g)) ∧ A < w.heap.size ∧ w.frozen? ⟨A, g, none⟩ = false := by
  obtain ⟨a1, p1, _, p2⟩ := h
  exact ⟨qQ p1 (p2 g hg), (Array.getElem?_eq_some_iff.1 p1).1, qZ p1⟩
theorem G4.bw {w w' : World} {A : Nat} {M : Nat → Bool} (h : G4 w A M) (hb : Bw w w') : G4 w' A M := by
  obtain ⟨a1, p1, p2⟩ := h
  exact ⟨a1, (Below.block hb _ (Array.getElem?_eq_some_iff.1 p1).1).trans p1, p2⟩
theorem G4.set {w : World} {A : Nat} {M : Nat → Bool} (h : G4 w A M) {g : Nat} : G4 (w.setCell ⟨A, g, none⟩ (.bool true)) A (fun j => if j = g then true else M j) := by
  obtain ⟨a1, p1, p3, p2⟩ := h
  refine ⟨a1.setIfInBounds g (.bool true), ?_, by simpa using p3, fun j hj => ?_⟩
  · rw [setCell_eq_setRow w A g a1 142 (0, 0) _ p1]
    exact setRow_heap w A a1 _ _ _ p1
  · by_cases e : j = g
    · subst e; rw [Array.getElem?_setIfInBounds_self_of_lt (by omega)]; simp
    · rw [Array.getElem?_setIfInBounds_ne (by omega), p2 j hj]; simp [e]
theorem G4.congr {w : World} {A : Nat} {M M' : Nat → Bool} (h : G4 w A M) (h2 : ∀ g, g < 4 → M' g = M g) : G4 w A M' := by
  obtain ⟨a1, p1, p3, p2⟩ := h
  exact ⟨a1, p1, p3, fun g hg => by rw [h2 g hg]; exact p2 g hg⟩
theorem four (v : Value) : ∀ g, g < 4 → (#[v, v, v, v])[g]? = some v := by
  intro g hg
  match g, hg with
  | 0, _ | 1, _ | 2, _ | 3, _ => rfl
set_option maxRecDepth 100000 in
set_option maxHeartbeats 4000000 in
theorem kspread_any (x : Nd) (l : List Int) (ad : Option Addr) (cap W : Nat) (w : World) (hx : IntsAt w ad l) (hl : l.length ≤ 1000000) (hq1 : 1 ≤ x.k) (hq8 : x.k ≤ 8) (hW1 : 1 ≤ W) (hW4 : W ≤ 4) :
    Calls Try.prog 63 #[x.val, .slice ad l.length cap, .int .i64 (W : Int)] w fun e w' => e = .returned (.int .i64 (spN x.k W l : Nat)) ∧ Bw w w' := by
  obtain ⟨xk, xa, xb, xq, xm⟩ := x
  unfold Nd.val
  simp only at hq1 hq8 ⊢
  go_enter Try.func63, Try.ntmps63
  go_wp2_with fail
  obtain ⟨W0, hW0⟩ : ∃ W0, (w.alloc (.cells #[.int .i64 xk, .int .i64 xa, .int .i64 xb, .int .i64 xq, .int .i64 xm] 32)).alloc (.cells #[.bool false, .bool false, .bool false, .bool false] 142) = W0 := ⟨_, rfl⟩
  rw [hW0]
  obtain ⟨q1, q2, hBW⟩ := yY w (.cells #[.int .i64 xk, .int .i64 xa, .int .i64 xb, .int .i64 xq, .int .i64 xm] 32) (.cells #[.bool false, .bool false, .bool false, .bool false] 142)
  rw [hW0] at q1 q2 hBW
  clear hW0
  go_loopw [8, 9] (fun c i wr => ∃ k : Nat, k ≤ l.length ∧ i = .int .i64 k ∧ c = .int .i64 (spN xq W (l.take k) : Nat) ∧ G4 wr (w.heap.size + 1) (onB xq W (l.take k)) ∧ wr.heap[w.heap.size]? = some (.cells #[.int .i64 xk, .int .i64 xa, .int .i64 xb, .int .i64 xq, .int .i64 xm] 32 (0, 0)) ∧ Bw w wr) (fun _ i _ => l.length - (intOf i).toNat)
  case atStart =>
    refine ⟨0, Nat.zero_le _, rfl, ?_, ⟨_, q2, rfl, fun g hg => ?_⟩, q1, hBW⟩
    · rw [show spN xq W (l.take 0) = 0 from sumN_zero fun _ _ => rfl]; rfl
    · exact four _ g hg
  case round =>
    clear q1 q2 hBW
    obtain ⟨k, hkl, rfl, rfl, hG, hb, hB⟩ := hrel
    rename World => wr
    have c3 := qQ (o := 3) hb rfl
    have cl := (Array.getElem?_eq_some_iff.1 hb).1
    have hsp : spN xq W (l.take k) ≤ W * 1 := vX fun w _ => by split <;> omega
    by_cases hlt : k < l.length
    · obtain ⟨b, off, rfl, hbl, hc⟩ := hx k hlt
      have hc1 := ((qX hB).1 _ _ hbl).trans (hc k hlt)
      have hbl2 := Nat.lt_of_lt_of_le hbl hB.size
      clear hc
      have b1 := Int.emod_nonneg (jS l k) (b := xq) (by omega)
      have b2 := Int.emod_lt_of_pos (jS l k) (b := xq) (by omega)
      have e1 : (jS l k % xq).tmod (W : Int) = jS l k % xq % W := Int.tmod_eq_emod_of_nonneg b1
      obtain ⟨g, hg, hg4⟩ : ∃ g : Nat, jS l k % xq % W = g ∧ g < W := by
        have b1 := Int.emod_nonneg (jS l k % xq) (b := (W : Int)) (by omega)
        have b2 := Int.emod_lt_of_pos (jS l k % xq) (b := (W : Int)) (by omega)
        exact ⟨(jS l k % xq % W).toNat, by omega, by omega⟩
      rw [hg] at e1
      have Hsp := qJ (spN_snoc (l := l.take k) hg hg4)
      have Hon : Hid (∀ j, onB xq W (l.take (k + 1)) j = (onB xq W (l.take k) j || decide (j = g))) := qJ (fun j => by
        rw [take_nth hlt, onB_snoc, hg]; congr 1; rw [Bool.eq_iff_iff]; simp; omega)
      have Htk : Hid (l.take (k + 1) = l.take k ++ [jS l k]) := qJ (take_nth hlt)
      obtain ⟨g1, g2, g3⟩ := hG.get (g := g) (by omega)
      have Hks : Hid (onB xq W (l.take k) g = true → G4 wr (w.heap.size + 1) (onB xq W (l.take (k + 1)))) := qJ (fun ht => hG.congr (fun j _ => by
        rw [qK Hon]
        by_cases e : j = g
        · subst e; rw [ht]; rfl
        · simp [e]))
      have Hb := qJ hb
      have HG := qJ hG
      have hW0 : ((W : Int) == 0) = false := by simp; omega
      have hWm : ¬ (W : Int) = -1 := by omega
      have hg4' : (g : Int) < 4 := by omega
      clear hG hb
      generalize jS l k = u at *
      cases ht : onB xq W (l.take k) g with
      | true =>
        rw [ht] at g1 Hsp
        have HG2 := qJ ((qK Hks) ht)
        go_wp2_with fail
        go_quiet ((go_at_call 89; refine Calls.quiet_of_same (xU _ _ _ hq1 (by omega))))
        go_wp2_with fail
        go_roundw
        case rel => exact ⟨k + 1, by omega, by go_num, by rw [qK Htk, qK Hsp]; rfl, (qK HG2).bw (by repeat first|exact br _|assumption|apply bd|apply bn|apply ba|refine bt ?_ (by assumption)), (Below.block (show Bw wr (wr.drewN nq) from (by repeat first|exact br _|assumption|apply bd|apply bn|apply ba|refine bt ?_ (by assumption))) _ cl).trans (qK Hb), hB.trans (by repeat first|exact br _|assumption|apply bd|apply bn|apply ba|refine bt ?_ (by assumption))⟩
        case measure => simp [intOf]; omega
      | false =>
        rw [ht] at g1 Hsp
        go_wp2_with fail
        go_quiet ((go_at_call 89; refine Calls.quiet_of_same (xU _ _ _ hq1 (by omega))))
        have hBq : Bw wr (wr.drewN nq) := (by repeat first|exact br _|assumption|apply bd|apply bn|apply ba|refine bt ?_ (by assumption))
        have cl2 := Nat.lt_of_lt_of_le cl hBq.size
        have HG2 := qJ ((((qK HG).bw hBq).set (g := g)).congr (M' := onB xq W (l.take (k + 1))) (fun j _ => by
          rw [qK Hon]
          by_cases e : j = g
          · simp [e]
          · simp [e]))
        have Hbx := qJ ((Below.heap_setCell (wr.drewN nq) ⟨w.heap.size + 1, g, none⟩ (.bool true) w.heap.size (by simp only; omega)).trans ((Below.block hBq _ cl).trans (qK Hb)))
        go_wp2_with fail
        go_roundw
        case rel => exact ⟨k + 1, by omega, by go_num, by rw [qK Htk, qK Hsp]; rfl, qK HG2, qK Hbx, (hB.trans hBq).setCell (by simp only; omega) _⟩
        case measure => simp [intOf]; omega
    · have hkk : k = l.length := by omega
      subst hkk
      rw [List.take_length]
      clear hG hb
      go_wp2_with fail
      go_ret
      exact ⟨rfl, hB⟩
end Go.Proofs.Ytfemleimkbjehaa
