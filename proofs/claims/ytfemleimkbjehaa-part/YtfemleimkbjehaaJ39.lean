import Derived.Test.YtfemleimkbjehaaYJ
import Derived.BigQuiet
import Derived.Test.YtfemleimkbjehaaJ36
import Derived.Deep.CutBlock
import Derived.Test.YtfemleimkbjehaaYC
set_option maxRecDepth 1000000
set_option maxHeartbeats 40000000
set_option linter.unusedVariables false
set_option linter.unusedSimpArgs false
namespace Go.Proofs.Ytfemleimkbjehaa
open Go.RowKit
theorem BAt.After.from {w w1 w2 : World} {U : Nat → Prop} {bb : Nat} {ns : List Nd} {R W : Nat} {gs : List Gv} {p : PSt} {st : RSt} (hb : Bw w w1) (h : BAt.After w1 w2 U bb ns R W gs p st) : BAt.After w w2 U bb ns R W gs p st := by
  obtain ⟨U', h1, h2, h3⟩ := h
  exact ⟨U', h1, (Chg.bw (S := U) hb).trans h2 (fun b h => .inl h), fun b hb' => (h3 b hb').imp id fun h => Nat.le_trans hb.size h⟩
theorem BAt.After.to {w w1 w2 : World} {U : Nat → Prop} {bb : Nat} {ns : List Nd} {R W : Nat} {gs : List Gv} {p : PSt} {st : RSt} (h : BAt.After w w1 U bb ns R W gs p st) (hb : Bw w1 w2) : BAt.After w w2 U bb ns R W gs p st := by
  obtain ⟨U', h1, h2, h3⟩ := h
  exact ⟨U', h1.bw hb, h2.trans (Chg.bw (S := U) hb) (fun b h => .inl h), h3⟩
theorem BAt.kept {w : World} {U : Nat → Prop} {bb : Nat} {ns : List Nd} {R W : Nat} {gs : List Gv} {p : PSt} {st : RSt} (h : BAt w U bb ns R W gs p st) : Kept ns R W gs p st := by
  obtain ⟨W0, T, S, pb, x, xp, h, _⟩ := h
  exact h.kept
theorem BAt.cells {w : World} {U : Nat → Prop} {bb : Nat} {ns : List Nd} {R W : Nat} {gs : List Gv} {p : PSt} {st : RSt} (h : BAt w U bb ns R W gs p st) :
    ∃ (na : Option Addr) (nc eb ec : Nat) (er : Nat → Nat), w.cell? ⟨bb, 1, none⟩ = some (.slice na ns.length nc) ∧ w.cell? ⟨bb, 2, none⟩ = some (.int .i64 (R : Int)) ∧ w.cell? ⟨bb, 3, none⟩ = some (.int .i64 (W : Int)) ∧ w.cell? ⟨bb, 4, none⟩ = some (.slice (some ⟨eb, 0, none⟩) W ec) ∧ w.cell? ⟨bb, 6, none⟩ = some (.int .i64 (st.opened.length : Int)) ∧ w.cell? ⟨bb, 7, none⟩ = some (.int .i64 (st.evs.length : Int)) ∧ bb < w.heap.size ∧ NodesAt w na ns ∧
      ∀ i n, i < W → n < ns.length → w.cell? ⟨eb, i, none⟩ = some (.slice (some ⟨er i, 0, none⟩) ns.length ns.length) ∧ w.cell? ⟨er i, n, none⟩ = some (.int .i64 (rT p i n)) ∧ eb < w.heap.size ∧ er i < w.heap.size := by
  obtain ⟨W0, T, S, pb, x, xp, h, _⟩ := h
  obtain ⟨c0, c1, c2, c3, c4, c5, c6, c7, c8, cl, _⟩ := h.bt.cells
  refine ⟨x.na, x.nc, x.eb, x.ec, x.er, c1, c2, c3, c4, c6, c7, cl, h.nodes.below h.base, fun i n hi hn => ?_⟩
  obtain ⟨f1, f2, f3, f4, _⟩ := h.bt.epAt hi hn
  exact ⟨f1, f2, f3, f4⟩
structure OpI where
  k : Int
  a : Int
  b : Int
  c : Int
def OpI.wf (o : OpI) : Prop := mQ o.k ∧ mQ o.a ∧ mQ o.b ∧ mQ o.c
set_option maxRecDepth 100000 in
set_option maxHeartbeats 8000000 in
theorem kstep_any {U : Nat → Prop} {bb : Nat} {ns : List Nd} {R W : Nat} {gs : List Gv} {p : PSt} {st : RSt} (g : GOk ns R W) (h0 : (qV ns 0).kind = 0) (o : OpI) (ho : o.wf) (w : World) (hB : BAt w U bb ns R W gs p st) :
    Calls Try.prog 28 #[.pointer (some ⟨bb, 0, none⟩), .agg #[.int .i64 o.k, .int .i64 o.a, .int .i64 o.b, .int .i64 o.c]] w fun e w' => e = .returned (.bool true) ∧ ∃ gs' p' st', BAt.After w w' U bb ns R W gs' p' st' ∧ Mv ns R W p p' := by
  obtain ⟨ok, oa, ob, oc⟩ := o
  obtain ⟨hok, hoa, hob, hoc⟩ := ho
  simp only at hok hoa hob hoc ⊢
  have hW := g.hW
  have hW1 := g.hW1
  obtain ⟨na, nc, eb, ec, er, c1, c2, c3, c4, c6, c7, cl, hnd, hep⟩ := hB.cells
  have HB := qJ hB
  obtain ⟨b1, b2⟩ := jC oa (n := (W : Int)) (by omega)
  obtain ⟨i, hi⟩ : ∃ i : Nat, jT oa (W : Int) = i := ⟨(jT oa W).toNat, by omega⟩
  have hiW : i < W := by omega
  clear hnd hep hB b1 b2
  go_enter Try.func28, Try.ntmps28
  go_wp2_with fail
  go_quiet ((go_at_call 16; refine Calls.quiet_of_same (hi ▸ pS oa (W : Int) _ hoa.1 hoa.2 (by omega) (by omega))))
  obtain ⟨w0, hw0, hB0⟩ : ∃ w0, (w.alloc (.cells #[.int .i64 ok, .int .i64 oa, .int .i64 ob, .int .i64 oc] 67)).drewN nq = w0 ∧ Bw w w0 := ⟨_, rfl, (by repeat first|exact br _|assumption|apply bd|apply bn|apply ba|refine bt ?_ (by assumption))⟩
  have hx0 : w0.heap[w.heap.size]? = some (.cells #[.int .i64 ok, .int .i64 oa, .int .i64 ob, .int .i64 oc] 67 (0, 0)) := by
    rw [← hw0]; exact heap_alloc_new w _
  rw [hw0]
  clear hw0
  have x2 := qQ (o := 2) hx0 rfl
  have xl := (Array.getElem?_eq_some_iff.1 hx0).1
  go_wp2_with fail
  refine (ksource_any ob w0 ((qK HB).bw hB0) g.h1 g.h8 h0 hob.1 hob.2).mono ?_
  rintro e1 w1 ⟨n, rfl, hn, hkn, hB1⟩
  have hx1 := (Below.block hB1 _ xl).trans hx0
  have z0 := qQ (o := 0) hx1 rfl
  have z1 := qQ (o := 1) hx1 rfl
  have z3 := qQ (o := 3) hx1 rfl
  have zl := (Array.getElem?_eq_some_iff.1 hx1).1
  have HB1 := qJ ((qK HB).bw (hB0.trans hB1))
  have HBw := qJ (hB0.trans hB1)
  have Hn := qJ hkn
  clear hx0 hx1 x2 hB0 hB1 hkn
  by_cases k1 : ok = 1
  · subst k1
    go_wp2_with (go_at_call 29; refine (kgive_any g i n oc _ (qK HB1) hiW hn (qK Hn) hoc).mono ?_; rintro e2 w2 ⟨rfl, gs', p', st', hA, hM, _⟩)
    go_ret
    exact ⟨rfl, gs', p', st', hA.from (qK HBw), hM⟩
  · by_cases k2 : ok = 2
    · subst k2
      go_wp2_with (go_at_call 57; refine (kadvance_any g i n _ (qK HB1) hiW hn (qK Hn)).mono ?_; rintro e2 w2 ⟨rfl, gs', p', st', hA, hM, _⟩)
      go_ret
      exact ⟨rfl, gs', p', st', hA.from (qK HBw), hM⟩
    · by_cases k3 : ok = 3
      · subst k3
        go_wp2_with (go_at_call 58; refine (kclose_any g i n _ (qK HB1) hiW hn (qK Hn)).mono ?_; rintro e2 w2 ⟨rfl, p', st', hA, hM, _⟩)
        go_ret
        exact ⟨rfl, gs, p', st', hA.from (qK HBw), hM⟩
      · have k1b : (ok == 1) = false := by simpa using k1
        have k2b : (ok == 2) = false := by simpa using k2
        have k3b : (ok == 3) = false := by simpa using k3
        go_wp2_with (go_at_call 37; refine (kact_any g oa _ (qK HB1) hoa.1 hoa.2).mono ?_; rintro e2 w2 ⟨rfl, p', st', hA, hM, _⟩)
        go_ret
        exact ⟨rfl, gs, p', st', hA.from (qK HBw), hM⟩
def opn (l : List OpI) (k : Nat) : OpI := l.getD k ⟨0, 0, 0, 0⟩
def OpsAt (w : World) (ad : Option Addr) (l : List OpI) : Prop := ∀ i, i < l.length → ∃ b off, ad = some ⟨b, off, none⟩ ∧ b < w.heap.size ∧ ∀ j, j < l.length → w.cell? ⟨b, off + j * 4, none⟩ = some (.int .i64 (opn l j).k) ∧ w.cell? ⟨b, off + j * 4 + 1, none⟩ = some (.int .i64 (opn l j).a) ∧ w.cell? ⟨b, off + j * 4 + 2, none⟩ = some (.int .i64 (opn l j).b) ∧ w.cell? ⟨b, off + j * 4 + 3, none⟩ = some (.int .i64 (opn l j).c)
theorem OpsAt.chg {w w' : World} {U : Nat → Prop} {ad : Option Addr} {l : List OpI} (h : OpsAt w ad l) (hc : Chg U w w') (hd : ∀ i, i < l.length → ∀ a, ad = some a → ¬ U a.block) : OpsAt w' ad l := by
  intro i hi
  obtain ⟨b, off, e, hb, hcc⟩ := h i hi
  have hbl := hc.block b hb (hd i hi ⟨b, off, none⟩ e)
  refine ⟨b, off, e, Nat.lt_of_lt_of_le hb hc.size, fun j hj => ?_⟩
  obtain ⟨c0, c1, c2, c3⟩ := hcc j hj
  exact ⟨(World.cell?_of_block (a := ⟨b, _, none⟩) hbl).trans c0, (World.cell?_of_block (a := ⟨b, _, none⟩) hbl).trans c1, (World.cell?_of_block (a := ⟨b, _, none⟩) hbl).trans c2, (World.cell?_of_block (a := ⟨b, _, none⟩) hbl).trans c3⟩
theorem BAt.After.then {w w1 w2 : World} {U U1 : Nat → Prop} {bb : Nat} {ns : List Nd} {R W : Nat} {gs' : List Gv} {p' : PSt} {st' : RSt} (hC : Chg U w w1) (hU : ∀ b, U1 b → U b ∨ w.heap.size ≤ b) (h : BAt.After w1 w2 U1 bb ns R W gs' p' st') : BAt.After w w2 U bb ns R W gs' p' st' := by
  obtain ⟨U2, q1, q2, q3⟩ := h
  refine ⟨U2, q1, hC.trans q2 hU, fun b hb => ?_⟩
  rcases q3 b hb with h | h
  · exact hU b h
  · exact .inr (Nat.le_trans hC.size h)
set_option maxRecDepth 100000 in
set_option maxHeartbeats 8000000 in
theorem kshut_any {U : Nat → Prop} {bb : Nat} {ns : List Nd} {R W : Nat} {gs : List Gv} {p : PSt} {st : RSt} (g : GOk ns R W) (w : World) (hB : BAt w U bb ns R W gs p st) :
    Calls Try.prog 34 #[.pointer (some ⟨bb, 0, none⟩)] w fun e w' => e = .returned (.bool true) ∧ ∃ p' st', BAt.After w w' U bb ns R W gs p' st' ∧ Mv ns R W p p' ∧ st'.evs = st.evs ∧ gS ns W p' := by
  have HB := qJ hB
  have hW4 := g.hW
  have hL8 := g.h8
  clear hB
  go_enter Try.func34, Try.ntmps34
  go_wp2_with fail
  go_loopw [3] (fun i wr => ∃ (k : Nat) (p' : PSt) (st' : RSt), k ≤ W ∧ i = .int .i64 k ∧ BAt.After w wr U bb ns R W gs p' st' ∧ Mv ns R W p p' ∧ st'.evs = st.evs ∧ ∀ a b, a < k → b < ns.length → (qV ns b).kind = 0 → p'.cl a b = true) (fun i _ => W - (intOf i).toNat)
  case atStart => exact ⟨0, p, st, Nat.zero_le _, rfl, (qK HB).same (Bw.refl _), Mv.refl _ _ _ _, rfl, fun a b h => absurd h (Nat.not_lt_zero _)⟩
  case round =>
    obtain ⟨k, p1, st1, hk, rfl, hA, hM, hev, hcl⟩ := hrel
    rename World => wr
    obtain ⟨U1, hB1, hC1, hU1⟩ := id hA
    obtain ⟨na, nc, eb, ec, er, c1, c2, c3, c4, c6, c7, cl, hnd, hep⟩ := hB1.cells
    have H1 := qJ (⟨hA, hM, hev, hcl⟩ : _ ∧ _ ∧ _ ∧ _)
    clear hA hM hev hcl hB1 hC1 hU1
    by_cases hlt : k < W
    · have hk1 : (k : Int) < (W : Int) := by omega
      clear c1 c2 c4 c6 c7 hnd hep
      go_wp2_with fail
      go_loopw [4] (fun i wi => ∃ (m : Nat) (p' : PSt) (st' : RSt), m ≤ ns.length ∧ i = .int .i64 m ∧ BAt.After w wi U bb ns R W gs p' st' ∧ Mv ns R W p p' ∧ st'.evs = st.evs ∧ (∀ a b, a < k → b < ns.length → (qV ns b).kind = 0 → p'.cl a b = true) ∧ ∀ b, b < m → (qV ns b).kind = 0 → p'.cl k b = true) (fun i _ => ns.length - (intOf i).toNat)
      case atStart =>
        obtain ⟨hA, hM, hev, hcl⟩ := qK H1
        exact ⟨0, p1, st1, Nat.zero_le _, rfl, hA, hM, hev, hcl, fun b h => absurd h (Nat.not_lt_zero _)⟩
      case round =>
        clear H1 c3 cl
        obtain ⟨m, p2, st2, hm, rfl, hA, hM, hev, hcl, hcm⟩ := hrel
        rename World => wi
        obtain ⟨U2, hB2, hC2, hU2⟩ := id hA
        obtain ⟨na, nc, eb, ec, er, c1, c2, c3, c4, c6, c7, cl, hnd, hep⟩ := hB2.cells
        have H2 := qJ (⟨hA, hM, hev, hcl, hcm⟩ : _ ∧ _ ∧ _ ∧ _ ∧ _)
        have H3 := qJ (⟨hB2, hC2, hU2⟩ : _ ∧ _ ∧ _)
        clear hA hM hev hcl hcm hC2 hU2
        by_cases hlt2 : m < ns.length
        · have hm1 : (m : Int) < (ns.length : Int) := by omega
          obtain ⟨b, off, rfl, hb, hc⟩ := hnd m hlt2
          obtain ⟨k0, _⟩ := hc m hlt2
          obtain ⟨f1, f2, f3, f4⟩ := hep k m hlt hlt2
          obtain ⟨e0, ee1, ee2, _⟩ := hB2.kept.ep6 k m
          have hbl := bep_lt (p := p2) (i := k) (n := m) ⟨e0, ee1, ee2⟩
          have Hbl := qJ hbl
          clear hc hnd hep hbl ee1 ee2 hB2
          by_cases hkd : (qV ns m).kind = 0
          · have hkb : ((qV ns m).kind == 0) = true := by simpa using hkd
            have Hkd := qJ hkd
            clear hkd
            by_cases hneg : rT p2 k m < 0
            · have hd : decide (0 ≤ rT p2 k m) = false := by simpa using hneg
              have Hneg := qJ hneg
              clear hneg
              go_wp2_with fail
              go_roundw
              case rel =>
                obtain ⟨hA, hM, hev, hcl, hcm⟩ := qK H2
                refine ⟨m + 1, p2, st2, by omega, by go_num, hA, hM, hev, hcl, fun b hb h => ?_⟩
                by_cases e : b = m
                · subst e; exact (qK Hbl).1.1 (qK Hneg)
                · exact hcm b (by omega) h
              case measure => simp [intOf]; omega
            · have hd : decide (0 ≤ rT p2 k m) = true := by simp; omega
              clear hneg
              go_wp2_with (go_at_call 58; refine (kclose_any g k m _ (qK H3).1 hlt hlt2 (qK Hkd)).mono ?_; rintro e2 w2 ⟨rfl, p3, st3, hA3, hM3, hev3, hcl3, hmono⟩)
              go_roundw
              case rel =>
                obtain ⟨hA, hM, hev, hcl, hcm⟩ := qK H2
                obtain ⟨hB2, hC2, hU2⟩ := qK H3
                refine ⟨m + 1, p3, st3, by omega, by go_num, BAt.After.then hC2 hU2 hA3, hM.trans hM3, hev3.trans hev, fun a b h1 h2 h3 => hmono a b (hcl a b h1 h2 h3), fun b hb h => ?_⟩
                by_cases e : b = m
                · subst e; exact hcl3
                · exact hmono k b (hcm b (by omega) h)
              case measure => simp [intOf]; omega
          · have hkb : ((qV ns m).kind == 0) = false := by simpa using hkd
            have Hkd := qJ hkd
            clear hkd
            go_wp2_with fail
            go_roundw
            case rel =>
              obtain ⟨hA, hM, hev, hcl, hcm⟩ := qK H2
              refine ⟨m + 1, p2, st2, by omega, by go_num, hA, hM, hev, hcl, fun b hb h => ?_⟩
              by_cases e : b = m
              · subst e; exact absurd h (qK Hkd)
              · exact hcm b (by omega) h
            case measure => simp [intOf]; omega
        · have hmm : m = ns.length := by omega
          subst hmm
          clear hnd hep hB2
          go_wp2_with fail
          go_roundw
          case rel =>
            obtain ⟨hA, hM, hev, hcl, hcm⟩ := qK H2
            refine ⟨k + 1, p2, st2, by omega, by go_num, hA, hM, hev, fun a b h1 h2 h3 => ?_⟩
            by_cases e : a = k
            · subst e; exact hcm b h2 h3
            · exact hcl a b (by omega) h2 h3
          case measure => simp [intOf]; omega
    · have hkk : k = W := by omega
      subst hkk
      clear hnd hep
      go_wp2_with fail
      go_ret
      obtain ⟨hA, hM, hev, hcl⟩ := qK H1
      exact ⟨rfl, p1, st1, hA, hM, hev, fun i n hi hn h => hcl i n hi hn h⟩
theorem IntsAt.chg {w w' : World} {U : Nat → Prop} {ad : Option Addr} {l : List Int} (h : IntsAt w ad l) (hc : Chg U w w') (hd : ∀ i, i < l.length → ∀ a, ad = some a → ¬ U a.block) : IntsAt w' ad l := by
  intro i hi
  obtain ⟨b, off, e, hb, hcc⟩ := h i hi
  have hbl := hc.block b hb (hd i hi ⟨b, off, none⟩ e)
  exact ⟨b, off, e, Nat.lt_of_lt_of_le hb hc.size, fun j hj => (World.cell?_of_block (a := ⟨b, _, none⟩) hbl).trans (hcc j hj)⟩
theorem BAt.all {w : World} {U : Nat → Prop} {bb : Nat} {ns : List Nd} {R W : Nat} {gs : List Gv} {p : PSt} {st : RSt} (h : BAt w U bb ns R W gs p st) :
    ∃ (pb : Nat) (na va : Option Addr) (nc vc : Nat), w.cell? ⟨bb, 0, none⟩ = some (.pointer (some ⟨pb, 0, none⟩)) ∧ w.cell? ⟨bb, 1, none⟩ = some (.slice na ns.length nc) ∧ w.cell? ⟨bb, 2, none⟩ = some (.int .i64 (R : Int)) ∧ w.cell? ⟨bb, 3, none⟩ = some (.int .i64 (W : Int)) ∧ w.cell? ⟨bb, 5, none⟩ = some (.slice va gs.length vc) ∧ w.cell? ⟨bb, 6, none⟩ = some (.int .i64 (st.opened.length : Int)) ∧ w.cell? ⟨bb, 7, none⟩ = some (.int .i64 (st.evs.length : Int)) ∧ bb < w.heap.size ∧ NodesAt w na ns ∧ GvAt w va gs ∧ ∃ S xp, ∀ w', Bw w w' → POwn w' S pb xp ns R W (zQ ns) p := by
  obtain ⟨W0, T, S, pb, x, xp, h, _⟩ := h
  obtain ⟨c0, c1, c2, c3, c4, c5, c6, c7, c8, cl, _⟩ := h.bt.cells
  exact ⟨pb, x.na, yQ x.vg, x.nc, capV x.vg, c0, c1, c2, c3, c5.trans (congrArg some (qW h.bt.given.1)), c6, c7, cl, h.nodes.below h.base, fJ h.bt.given.1, S, xp, fun w' hb => h.run.bw hb⟩
theorem Kept.gvk {ns : List Nd} {R W : Nat} {gs : List Gv} {p : PSt} {st : RSt} (g : GOk ns R W) (h : Kept ns R W gs p st) : nD ns gs := by
  refine ⟨(h.small g).2.2.1, fun k hk => ?_⟩
  have hm : vR gs k ∈ gs := by
    unfold vR; rw [List.getD_eq_getElem?_getD, List.getElem?_eq_getElem hk]; exact List.getElem_mem hk
  exact (h.his.gi _ hm).2
theorem BAt.acts {w : World} {U : Nat → Prop} {bb : Nat} {ns : List Nd} {R W : Nat} {gs : List Gv} {p : PSt} {st : RSt} (g : GOk ns R W) (h : BAt w U bb ns R W gs p st) {pb : Nat} (c0 : w.cell? ⟨bb, 0, none⟩ = some (.pointer (some ⟨pb, 0, none⟩))) (w' : World) (hb : Bw w w') :
    Calls Try.prog 36 #[.pointer (some ⟨pb, 0, none⟩)] w' fun en w2 => en = .returned (.int .i64 ((jW ns R W p).length : Nat)) ∧ Bw w' w2 := by
  obtain ⟨W0, T, S, pb', x, xp, h, _⟩ := h
  obtain ⟨c0', _⟩ := h.bt.cells
  rw [c0'] at c0
  have e : pb' = pb := by injection c0 with c0; injection c0 with c0; injection c0 with c0; injection c0
  subst e
  exact pact_any (lH ns (zQ ns) R p) w' (h.run.bw hb) (h.kept.frOk g)
theorem BAt.acts_len {w : World} {U : Nat → Prop} {bb : Nat} {ns : List Nd} {R W : Nat} {gs : List Gv} {p : PSt} {st : RSt} (g : GOk ns R W) (h : BAt w U bb ns R W gs p st) : (jW ns R W p).length ≤ 4000000000 := by
  have hp := h.kept.pinv g
  have hlen := lX (L := ns.length) (W := W) (st := p) (frs := lH ns (zQ ns) R p) g.h8 g.hW (fun i n => by have := (hp.few i n).1; omega) W
  have hlen2 : W * 800000200 ≤ 4 * 800000200 := Nat.mul_le_mul_right _ g.hW
  have hacts : kW ns.length W p (lH ns (zQ ns) R p) W = jW ns R W p := rfl
  rw [hacts] at hlen
  omega
theorem BAt.outs {w : World} {U : Nat → Prop} {bb : Nat} {ns : List Nd} {R W : Nat} {gs : List Gv} {p : PSt} {st : RSt} (h : BAt w U bb ns R W gs p st) {pb : Nat} (c0 : w.cell? ⟨bb, 0, none⟩ = some (.pointer (some ⟨pb, 0, none⟩))) (w' : World) (hb : Bw w w') :
    Calls Try.prog 25 #[.pointer (some ⟨pb, 0, none⟩)] w' fun en w2 => ∃ v, en = .returned v ∧ OwnC w' w2 v p.rc ∧ Bw w' w2 := by
  obtain ⟨W0, T, S, pb', x, xp, h, _⟩ := h
  obtain ⟨c0', _⟩ := h.bt.cells
  rw [c0'] at c0
  have e : pb' = pb := by injection c0 with c0; injection c0 with c0; injection c0 with c0; injection c0
  subst e
  exact pout_any' w' (h.run.bw hb)
def tot (L R : Nat) (F : Nat → Nat → Nat → List Int) : Nat := qD (fun n => qD (fun e => qD (fun s => (F e s n).length) R) 6) L
theorem lN {f g : Nat → Nat} {j a b : Nat} : ∀ {k : Nat}, j < k → (∀ i, i < k → i ≠ j → f i = g i) → f j + a = g j + b → qD f k + a = qD g k + b
  | 0, h, _, _ => absurd h (Nat.not_lt_zero _)
  | k + 1, hj, h, he => by
    rw [qD, qD]
    by_cases e : j = k
    · subst e
      rw [kV (fun i hi => h i (by omega) (by omega))]; omega
    · have := lN (f := f) (g := g) (k := k) (by omega) (fun i hi hne => h i (by omega) hne) he
      have := h k (by omega) (by omega)
      omega
theorem tot_upd {L R e s n : Nat} (F : Nat → Nat → Nat → List Int) (l : List Int) (hn : n < L) (he : e < 6) (hs : s < R) : tot L R (wR F e s n l) + (F e s n).length = tot L R F + l.length := by
  unfold tot
  refine lN hn (fun i _ hi => ?_) (lN he (fun i _ hi => ?_) (lN hs (fun i _ hi => ?_) ?_))
  · exact kV fun a _ => kV fun b _ => by rw [jY _ _ (fun h => hi h.2.2)]
  · exact kV fun b _ => by rw [jY _ _ (fun h => hi h.1)]
  · rw [jY _ _ (fun h => hi h.2.1)]
  · rw [yY]; omega
theorem tot_zero {L R : Nat} {F : Nat → Nat → Nat → List Int} (h : ∀ e s n, e < 6 → s < R → n < L → F e s n = []) : tot L R F = 0 :=
  vC fun n hn => vC fun e he => vC fun s hs => by rw [h e s n he hs hn]; rfl
theorem tot_le {L R B : Nat} {F : Nat → Nat → Nat → List Int} (h : ∀ e s n, e < 6 → s < R → n < L → (F e s n).length ≤ B) : tot L R F ≤ L * (6 * (R * B)) :=
  zJ fun n hn => zJ fun e he => zJ fun s hs => h e s n he hs hn
def cB (l : List Int) (v : Int) : Nat → Int
  | 0 => -1
  | j + 1 => if kC l j == v then (j : Int) else cB l v j
theorem lastI_at (l : List Int) (v : Int) : ∀ k, (cB l v k = -1 ∧ ∀ j, j < k → kC l j ≠ v) ∨ ∃ j : Nat, cB l v k = j ∧ j < k ∧ kC l j = v
  | 0 => .inl ⟨rfl, fun j h => absurd h (Nat.not_lt_zero _)⟩
  | k + 1 => by
    rw [cB]
    cases h : kC l k == v with
    | true => exact .inr ⟨k, by simp, by omega, by simpa using h⟩
    | false =>
      rcases lastI_at l v k with ⟨h1, h2⟩ | ⟨j, h1, h2, h3⟩
      · refine .inl ⟨by simpa using h1, fun j hj => ?_⟩
        by_cases e : j = k
        · subst e; simpa using h
        · exact h2 j (by omega)
      · exact .inr ⟨j, by simpa using h1, by omega, h3⟩
def cutL (l : List Int) (j : Nat) : List Int := (l.set j (kC l (l.length - 1))).take (l.length - 1)
theorem set_perm : ∀ (l : List Int) (j : Nat) (a : Int), j < l.length → (a :: l).Perm (kC l j :: l.set j a)
  | [], j, _, h => absurd h (Nat.not_lt_zero _)
  | b :: t, 0, a, _ => List.Perm.swap _ _ _
  | b :: t, j + 1, a, h => by
    have ih := set_perm t j a (by simpa using h)
    have e : kC (b :: t) (j + 1) = kC t j := rfl
    rw [e, List.set_cons_succ]
    exact (List.Perm.swap _ _ _).trans ((ih.cons b).trans (List.Perm.swap _ _ _))
theorem cutL_len {l : List Int} {j : Nat} (h : j < l.length) : (cutL l j).length = l.length - 1 := by
  unfold cutL; rw [List.length_take, List.length_set]; omega
theorem cutL_perm {l : List Int} {j : Nat} (h : j < l.length) : l.Perm (kC l j :: cutL l j) := by
  obtain ⟨m, hm⟩ : ∃ m, l.length = m + 1 := ⟨l.length - 1, by omega⟩
  have hml : m < l.length := by omega
  have el : l = l.take m ++ [kC l m] := by
    rw [jL hml, List.take_append_getElem hml, List.take_of_length_le (by omega)]
  unfold cutL
  rw [show l.length - 1 = m by omega, List.take_set]
  have h1 : l.Perm (kC l m :: l.take m) := by
    have : (l.take m ++ [kC l m]).Perm (kC l m :: l.take m) := by
      have := List.perm_middle (a := kC l m) (l₁ := l.take m) (l₂ := [])
      rwa [List.append_nil] at this
    exact el ▸ (el ▸ this : l.Perm _)
  by_cases e : j = m
  · subst e
    rw [List.set_eq_of_length_le (by rw [List.length_take]; omega)]
    exact h1
  · have hj : j < (l.take m).length := by rw [List.length_take]; omega
    refine h1.trans ((set_perm (l.take m) j (kC l m) hj).trans ?_)
    have : kC (l.take m) j = kC l j := by rw [jL hj, jL h, List.getElem_take]
    rw [this]
def rD (ns : List Nd) (gs : List Gv) : Nat → Nat → Nat → List Int := fun e s n => if (qV ns n).kind == 7 then dT ns gs n e s else []
theorem sinkF_7 {ns : List Nd} {n : Nat} (gs : List Gv) (e s : Nat) (h : (qV ns n).kind = 7) : rD ns gs e s n = dT ns gs n e s := by unfold rD; rw [if_pos (by simpa using h)]
def LeftF (ns : List Nd) (R : Nat) (gs : List Gv) (rc : List Nd) (F : Nat → Nat → Nat → List Int) (i : Nat) : Prop := ∀ e s n, e < 6 → s < R → n < ns.length → (rcV (rc.take i) n e s ++ F e s n).Perm (rD ns gs e s n)
theorem LeftF.zero {ns : List Nd} {R : Nat} {gs : List Gv} {F : Nat → Nat → Nat → List Int} (rc : List Nd) (h : ∀ e s n, e < 6 → s < R → n < ns.length → F e s n = rD ns gs e s n) : LeftF ns R gs rc F 0 := fun e s n he hs hn => by
  rw [h e s n he hs hn, List.take_zero]; exact List.Perm.refl _
def OutsOk (ns : List Nd) (R W : Nat) (rc : List Nd) : Prop := ∀ x ∈ rc, ∃ (n a e s : Nat) (v : Int), x = ⟨n, a, e, s, v⟩ ∧ n < ns.length ∧ (qV ns n).kind = 7 ∧ a < W ∧ e < 6 ∧ s < R
def PartOk (ns : List Nd) (R : Nat) (gs : List Gv) (rc : List Nd) : Prop := ∀ e s n, e < 6 → s < R → n < ns.length → (qV ns n).kind = 7 → ∃ l, (rcV rc n e s ++ l).Perm (dT ns gs n e s)
theorem ndn_at {l : List Nd} {i : Nat} (h : i < l.length) : qV l i = l[i] := lJ _ _ h
theorem LeftF.has {ns : List Nd} {R : Nat} {gs : List Gv} {rc : List Nd} {F : Nat → Nat → Nat → List Int} {i n a e s : Nat} {v : Int} (h : LeftF ns R gs rc F i) (hp : PartOk ns R gs rc) (hi : i < rc.length) (hx : qV rc i = ⟨n, a, e, s, v⟩) (hn : n < ns.length) (hk : (qV ns n).kind = 7) (he : e < 6) (hs : s < R) : ∃ j : Nat, cB (F e s n) v (F e s n).length = j ∧ j < (F e s n).length ∧ kC (F e s n) j = v := by
  obtain ⟨l, hl⟩ := hp e s n he hs hn hk
  have h1 := h e s n he hs hn
  rw [sinkF_7 gs e s hk] at h1
  have er : rc = rc.take i ++ (⟨n, a, e, s, v⟩ :: rc.drop (i + 1)) := by
    rw [← hx, ndn_at hi]; simp
  have e2 : rcV rc n e s = rcV (rc.take i) n e s ++ (v :: rcV (rc.drop (i + 1)) n e s) := by
    have : rcV rc n e s = rcV (rc.take i ++ (⟨n, a, e, s, v⟩ :: rc.drop (i + 1))) n e s := by rw [← er]
    rw [this, bC]
    congr 1
    have : (⟨n, a, e, s, v⟩ :: rc.drop (i + 1) : List Nd) = [⟨n, a, e, s, v⟩] ++ rc.drop (i + 1) := rfl
    rw [this, bC, bB]
    have : rcF n e s ⟨n, a, e, s, v⟩ = true := by simp [rcF]
    rw [this]; rfl
  rw [e2, List.append_assoc] at hl
  have h3 := (List.perm_append_left_iff _).1 (h1.trans hl.symm)
  have hm : v ∈ F e s n := h3.mem_iff.2 (by simp)
  rcases lastI_at (F e s n) v (F e s n).length with ⟨_, h2⟩ | h2
  · obtain ⟨j, hj, ej⟩ := List.getElem_of_mem hm
    exact absurd (by rw [jL hj]; exact ej) (h2 j hj)
  · exact h2
theorem LeftF.step {ns : List Nd} {R : Nat} {gs : List Gv} {rc : List Nd} {F : Nat → Nat → Nat → List Int} {i n a e s j : Nat} {v : Int} (h : LeftF ns R gs rc F i) (hi : i < rc.length) (hx : qV rc i = ⟨n, a, e, s, v⟩) (hj : j < (F e s n).length) (hv : kC (F e s n) j = v) : LeftF ns R gs rc (wR F e s n (cutL (F e s n) j)) (i + 1) := by
  intro e' s' n' he hs hn
  have h1 := h e' s' n' he hs hn
  rw [List.take_succ_eq_append_getElem hi, ← ndn_at hi, hx, bC, bB]
  by_cases q : e' = e ∧ s' = s ∧ n' = n
  · obtain ⟨rfl, rfl, rfl⟩ := q
    have : rcF n' e' s' ⟨n', a, e', s', v⟩ = true := by simp [rcF]
    rw [this, yY, if_pos rfl, List.append_assoc]
    refine List.Perm.trans ?_ h1
    refine List.Perm.append_left _ ?_
    have := (cutL_perm hj).symm
    rw [hv] at this
    exact this
  · have : rcF n' e' s' ⟨n, a, e, s, v⟩ = false := by
      cases hb : rcF n' e' s' ⟨n, a, e, s, v⟩ with
      | false => rfl
      | true =>
        unfold rcF at hb
        simp at hb
        omega
    rw [this, jY _ _ q]
    simpa using h1
theorem LeftF.end {ns : List Nd} {R : Nat} {gs : List Gv} {rc : List Nd} {F : Nat → Nat → Nat → List Int} (h : LeftF ns R gs rc F rc.length) (hall : ∀ e s n, e < 6 → s < R → n < ns.length → (qV ns n).kind = 7 → (rcV rc n e s).Perm (dT ns gs n e s)) : tot ns.length R F = 0 := by
  refine tot_zero fun e s n he hs hn => ?_
  have h1 := (h e s n he hs hn).length_eq
  rw [List.take_length, List.length_append] at h1
  refine List.eq_nil_of_length_eq_zero ?_
  by_cases hk : (qV ns n).kind = 7
  · rw [sinkF_7 gs e s hk, ← (hall e s n he hs hn hk).length_eq] at h1; omega
  · have : rD ns gs e s n = [] := by unfold rD; rw [if_neg (by simpa using hk)]
    rw [this, List.length_nil] at h1; omega
structure RL (V w : World) (t : Tb) (L R : Nat) (lv : Nat → Nat → Nat → Value) (F : Nat → Nat → Nat → List Int) : Prop where
  tab : T4 w t.ob L R t.oc t.tb t.tc t.rb lv
  own : ∀ e s n, e < 6 → s < R → n < L → Own V w (lv e s n) (F e s n)
  sep : ∀ e s n e' s' n' b, e < 6 → s < R → n < L → e' < 6 → s' < R → n' < L → (lv e s n).ownBlock = some b → (lv e' s' n').ownBlock = some b → e' = e ∧ s' = s ∧ n' = n
  low : ∀ n e, n < L → e < 6 → V.heap.size ≤ t.rb n e
  base : Bw V w
theorem RL.bw {V w w' : World} {t : Tb} {L R : Nat} {lv : Nat → Nat → Nat → Value} {F : Nat → Nat → Nat → List Int} (h : RL V w t L R lv F) (hb : Bw w w') : RL V w' t L R lv F :=
  ⟨h.tab.bw hb, fun e s n he hs hn => (h.own e s n he hs hn).bw hb, h.sep, h.low, h.base.trans hb⟩
theorem RL.congr {V w : World} {t : Tb} {L R : Nat} {lv : Nat → Nat → Nat → Value} {F G : Nat → Nat → Nat → List Int} (h : RL V w t L R lv F) (hg : ∀ e s n, e < 6 → s < R → n < L → G e s n = F e s n) : RL V w t L R lv G :=
  ⟨h.tab, fun e s n he hs hn => by rw [hg e s n he hs hn]; exact h.own e s n he hs hn, h.sep, h.low, h.base⟩
theorem RL.start {V w : World} {t : Tb} {L R : Nat} (h : T4 w t.ob L R t.oc t.tb t.tc t.rb (fun _ _ _ => .slice none 0 0)) (hl : ∀ n e, n < L → e < 6 → V.heap.size ≤ t.rb n e) (hb : Bw V w) : RL V w t L R (fun _ _ _ => .slice none 0 0) (fun _ _ _ => []) :=
  ⟨h, fun _ _ _ _ _ _ => Own.nil _ _, fun _ _ _ _ _ _ b _ _ _ _ _ _ h => by simp [Value.ownBlock] at h, hl, hb⟩
theorem RL.row {V w : World} {t : Tb} {L R e s n : Nat} {lv : Nat → Nat → Nat → Value} {F : Nat → Nat → Nat → List Int} (h : RL V w t L R lv F) (hn : n < L) (he : e < 6) (hs : s < R) {v : Value} {l : List Int} (ho : Own V w v l) (hsep : ∀ e' s' n' b, e' < 6 → s' < R → n' < L → ¬ (e' = e ∧ s' = s ∧ n' = n) → v.ownBlock = some b → (lv e' s' n').ownBlock ≠ some b) : RL V (w.setCell ⟨t.rb n e, s, none⟩ v) t L R (updV lv e s n v) (wR F e s n l) := by
  obtain ⟨ar, hr, _⟩ := h.tab.rows n hn e he
  refine ⟨h.tab.set hn he v, fun e' s' n' he' hs' hn' => ?_, fun e1 s1 n1 e2 s2 n2 b p1 p2 p3 p4 p5 p6 q1 q2 => ?_, h.low, h.base.setCell (h.low n e hn he) _⟩
  · by_cases q : e' = e ∧ s' = s ∧ n' = n
    · obtain ⟨rfl, rfl, rfl⟩ := q
      rw [nM, yY]
      exact kJ hr ho (by decide)
    · rw [uK _ _ q, jY _ _ q]
      exact kJ hr (h.own e' s' n' he' hs' hn') (by decide)
  · by_cases a1 : e1 = e ∧ s1 = s ∧ n1 = n
    · by_cases a2 : e2 = e ∧ s2 = s ∧ n2 = n
      · omega
      · obtain ⟨rfl, rfl, rfl⟩ := a1
        rw [nM] at q1
        rw [uK _ _ a2] at q2
        exact absurd q2 (hsep e2 s2 n2 b p4 p5 p6 a2 q1)
    · rw [uK _ _ a1] at q1
      by_cases a2 : e2 = e ∧ s2 = s ∧ n2 = n
      · obtain ⟨rfl, rfl, rfl⟩ := a2
        rw [nM] at q2
        exact absurd q1 (hsep e1 s1 n1 b p1 p2 p3 a1 q2)
      · rw [uK _ _ a2] at q2
        exact h.sep e1 s1 n1 e2 s2 n2 b p1 p2 p3 p4 p5 p6 q1 q2
theorem RL.put {V w w2 : World} {t : Tb} {L R e s n : Nat} {lv : Nat → Nat → Nat → Value} {F : Nat → Nat → Nat → List Int} (h : RL V w t L R lv F) (hn : n < L) (he : e < 6) (hs : s < R) {v : Value} {l : List Int} (ho : Own w w2 v l) (hb : Bw w w2) : RL V (w2.setCell ⟨t.rb n e, s, none⟩ v) t L R (updV lv e s n v) (wR F e s n l) := by
  refine (h.bw hb).row hn he hs (ho.weaken h.base) fun e' s' n' b he' hs' hn' _ q1 q2 => ?_
  obtain ⟨cur, hc⟩ := zK (h.own e' s' n' he' hs' hn') q2
  have h1 := (Array.getElem?_eq_some_iff.1 hc).1
  obtain ⟨_, ⟨e1, _⟩ | ⟨g, cap, cur', e1, hg, _⟩⟩ := ho
  · rw [e1] at q1; simp [Value.ownBlock] at q1
  · rw [e1] at q1
    simp only [Value.ownBlock, Option.some.injEq] at q1
    omega
theorem own_cut {V w : World} {g m cap : Nat} {l : List Int} (h : Own V w (.slice (some ⟨g, 0, none⟩) (m + 1) cap) l) (hl : l.length = m + 1) : Own V w (.slice (some ⟨g, 0, none⟩) m cap) (l.take m) := by
  have hlt : (l.take m).length = m := by rw [List.length_take]; omega
  unfold Own at h ⊢
  rw [hlt]
  obtain ⟨_, ⟨e1, _⟩ | ⟨g', cap', cur, e1, hg, hc, h1, h2, h3, h4⟩⟩ := h
  · simp at e1
  · simp only [Value.slice.injEq, Option.some.injEq, Addr.mk.injEq, and_true] at e1
    obtain ⟨rfl, _, rfl⟩ := e1
    refine ⟨by simp; omega, .inr ⟨g, cap, cur, rfl, hg, hc, by omega, h2, h3, ?_⟩⟩
    have : (List.take m l).map (Value.int .i64) = (l.map (Value.int .i64)).take m := by rw [List.map_take]
    rw [this, ← h4, List.take_take, hl]
    congr 1; omega
theorem RL.leaf {V w : World} {t : Tb} {L R e s n g m cap j : Nat} {lv : Nat → Nat → Nat → Value} {F : Nat → Nat → Nat → List Int} (h : RL V w t L R lv F) (hn : n < L) (he : e < 6) (hs : s < R) (hv : lv e s n = .slice (some ⟨g, 0, none⟩) m cap) (hj : j < (F e s n).length) (x : Int) : RL V (w.setCell ⟨g, j, none⟩ (.int .i64 x)) t L R lv (wR F e s n ((F e s n).set j x)) := by
  have ho := h.own e s n he hs hn
  obtain ⟨cur, hc⟩ := zK ho (b := g) (by rw [hv]; rfl)
  have hm : m = (F e s n).length := by
    obtain ⟨_, _, e1, _⟩ := ho.slice
    rw [hv] at e1; injection e1
  refine ⟨h.tab.frame fun g' arr ty hty hg' => qU hc hg' (by rcases hty with e | e | e <;> rw [e] <;> decide), fun e' s' n' he' hs' hn' => ?_, h.sep, h.low, h.base.setCell ?_ _⟩
  · by_cases q : e' = e ∧ s' = s ∧ n' = n
    · obtain ⟨rfl, rfl, rfl⟩ := q
      rw [yY, hv]
      rw [hv, hm] at ho
      have := uL (u := .int .i64 x) (p := j) ho (by rw [List.length_map]; exact hj)
      unfold Own
      rw [List.length_set, List.map_set, hm]
      exact this
    · rw [jY _ _ q]
      refine kL (h.own e' s' n' he' hs' hn') fun b hb => ?_
      refine Below.heap_setCell w ⟨g, j, none⟩ _ b fun eq => ?_
      exact q (h.sep e s n e' s' n' b he hs hn he' hs' hn' (by rw [hv, eq]; rfl) hb)
  · obtain ⟨_, ⟨e1, _⟩ | ⟨g', cap', cur', e1, hg, _⟩⟩ := ho
    · rw [hv] at e1; simp at e1
    · rw [hv] at e1
      simp only [Value.slice.injEq, Option.some.injEq, Addr.mk.injEq, and_true] at e1
      obtain ⟨rfl, _⟩ := e1
      exact hg
theorem RL.cut {V w : World} {t : Tb} {L R e s n g m cap j : Nat} {lv : Nat → Nat → Nat → Value} {F : Nat → Nat → Nat → List Int} (h : RL V w t L R lv F) (hn : n < L) (he : e < 6) (hs : s < R) (hv : lv e s n = .slice (some ⟨g, 0, none⟩) (m + 1) cap) (hm : (F e s n).length = m + 1) (hj : j < m + 1) : RL V ((w.setCell ⟨g, j, none⟩ (.int .i64 (kC (F e s n) m))).setCell ⟨t.rb n e, s, none⟩ (.slice (some ⟨g, 0, none⟩) m cap)) t L R (updV lv e s n (.slice (some ⟨g, 0, none⟩) m cap)) (wR F e s n (cutL (F e s n) j)) := by
  have h1 := h.leaf hn he hs hv (j := j) (by omega) (kC (F e s n) m)
  have ho := h1.own e s n he hs hn
  rw [yY, hv] at ho
  have h2 := h1.row hn he hs (own_cut ho (by rw [List.length_set]; exact hm)) (fun e' s' n' b he' hs' hn' q q1 q2 => q (h.sep e s n e' s' n' b he hs hn he' hs' hn' (by rw [hv]; exact q1) q2))
  refine h2.congr fun e' s' n' he' hs' hn' => ?_
  by_cases q : e' = e ∧ s' = s ∧ n' = n
  · obtain ⟨rfl, rfl, rfl⟩ := q
    rw [yY, yY]
    unfold cutL
    rw [hm]; rfl
  · rw [jY _ _ q, jY _ _ q, jY _ _ q]
end Go.Proofs.Ytfemleimkbjehaa
