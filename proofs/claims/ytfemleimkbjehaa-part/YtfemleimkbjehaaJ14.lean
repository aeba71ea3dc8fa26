import Derived.Test.YtfemleimkbjehaaJ13
set_option maxRecDepth 1000000
set_option maxHeartbeats 40000000
set_option linter.unusedVariables false
set_option linter.unusedSimpArgs false
namespace Go.Proofs.Ytfemleimkbjehaa
open Go.RowKit
theorem POwn.mono {w : World} {S S' : Nat → Prop} {pb : Nat} {x : PX} {ns : List Nd} {R W : Nat} {D : Nat → Nat → Int} {st : PSt} (h : POwn w S pb x ns R W D st) (hS : ∀ b, S b → S' b) (hl : ∀ b, S' b → b < w.heap.size) : POwn w S' pb x ns R W D st :=
  ⟨h.root, h.r0, h.r1, h.r2, h.r3, h.r4, h.r5, h.work, hS _ h.sroot, hS _ h.swork, hl, h.nodes.mono hS, h.dist.map fun _ _ _ _ _ _ ho => ho.mono hS, h.recs.mono hS, h.row.map hS (fun _ _ _ _ _ _ ho => ho.mono hS) (fun _ _ _ _ => rfl), h.small, h.few⟩
theorem POwn.belIn {w : World} {S : Nat → Prop} {pb : Nat} {x : PX} {ns : List Nd} {R W : Nat} {D : Nat → Nat → Int} {st : PSt} (h : POwn w S pb x ns R W D st) {i : Nat} (hi : i < W) : BelIn w x.wb (i * 3684 + 3296) 162 x.warr (st.tb i) :=
  ⟨x.warr, h.work, rfl, fun _ _ => rfl, h.row.bel i hi⟩
theorem POwn.believed {w w' : World} {S : Nat → Prop} {pb : Nat} {x : PX} {ns : List Nd} {R W : Nat} {D : Nat → Nat → Int} {st : PSt} {T : Nat → Int} {i : Nat} (h : POwn w S pb x ns R W D st) (hi : i < W) (hb : BelIn w' x.wb (i * 3684 + 3296) 162 x.warr T) (hc : Chg (fun b => b = x.wb) w w') : ∃ arr', POwn w' S pb { x with warr := arr' } ns R W D { st with tb := pZ st.tb i T } := by
  obtain ⟨arr', h1, h2, h3, h4⟩ := hb
  exact ⟨arr', h.setRow hc h1 (h.row.setBel h.small.1 hi h2 h3 h4) ⟨rfl, rfl⟩ h.few.1⟩
theorem pW {wa w4 : World} {v : Value} {tv : TypeId} (hv : ∀ b, Value.ownBlock v = some b → ∃ cur, wa.heap[b]? = some (.cells cur tv (0, 0))) (hg : wa.grownBy w4 v.ownBlock) : ∀ (ty : TypeId), ty ≠ tv → ∀ (b : Nat) (cur : Array Value), wa.heap[b]? = some (.cells cur ty (0, 0)) → w4.heap[b]? = wa.heap[b]? := by
  intro ty ht b cur hc
  refine hg.block b (Array.getElem?_eq_some_iff.1 hc).1 (fun e => ?_)
  obtain ⟨cur', hc'⟩ := hv b e.symm
  rw [hc] at hc'
  simp only [Option.some.injEq, Obj.cells.injEq] at hc'
  exact ht hc'.2.1
theorem POwn.sent {w wa w4 : World} {S : Nat → Prop} {pb i j g' off c : Nat} {x : PX} {ns : List Nd} {R W : Nat} {D : Nat → Nat → Int} {st : PSt} {v u0 : Value} {vs : List Value} {ps : List Pt} (h : POwn w S pb x ns R W D st) (hi : i < W) (hj : j < 4) (hb : Bw w wa) (hq : x.warr[i * 3684 + 3680 + j]? = some v) (hw : rowO w 183 v (st.wy i j).length vs)
    (hvs : ∀ k, k < (st.wy i j).length → ∃ u, vs[k]? = some u ∧ OwnsIn S w 194 5 u ((st.wy i j).getD k []).length (qG ((st.wy i j).getD k []))) (hu0 : OwnsIn S w 194 5 u0 ps.length (qG ps))
    (ho : rowO w4 183 (.slice (some ⟨g', off, none⟩) ((st.wy i j).length + 1) c) ((st.wy i j).length + 1) (vs ++ [u0])) (hg : wa.grownBy w4 v.ownBlock) (hl : v.ownBlock = some g' ∨ g' = wa.heap.size) (hf : (st.wy i j).length + 1 ≤ 100000000) :
    w4.heap[x.wb]? = some (.cells x.warr 162 (0, 0)) ∧ POwn (w4.setCell ⟨x.wb, i * 3684 + 3680 + j, none⟩ (.slice (some ⟨g', off, none⟩) ((st.wy i j).length + 1) c)) (fun b => S b ∨ b = g') pb { x with warr := x.warr.setIfInBounds (i * 3684 + 3680 + j) (.slice (some ⟨g', off, none⟩) ((st.wy i j).length + 1) c) } ns R W D { st with wy := kY st.wy i j (st.wy i j ++ [ps]) } := by
  have hvb : ∀ b, Value.ownBlock v = some b → ∃ cur, wa.heap[b]? = some (.cells cur 183 (0, 0)) := fun b hbb => by
    obtain ⟨cur, hc⟩ := hw.blk hbb
    exact ⟨cur, (Below.block hb b (Array.getElem?_eq_some_iff.1 hc).1).trans hc⟩
  have hgp := pW hvb hg
  have hwa := (h.bw hb).work
  have hw4 : w4.heap[x.wb]? = some (.cells x.warr 162 (0, 0)) := (hgp _ (by decide) _ _ hwa).trans hwa
  have hgw : g' ≠ x.wb := by
    rcases hl with hl | hl
    · intro e
      obtain ⟨cur, hc⟩ := hvb g' hl
      rw [e, hwa] at hc
      simp only [Option.some.injEq, Obj.cells.injEq] at hc
      exact absurd hc.2.1 (by decide)
    · have := (Array.getElem?_eq_some_iff.1 hwa).1
      omega
  obtain ⟨cur4, hc4⟩ := ho.blk (b := g') rfl
  refine ⟨hw4, h.appRow hb 183 (.inr rfl) hg.size hgp (Array.getElem?_eq_some_iff.1 hc4).1 (fun hw4 => h.row.addWay h.small.1 hi hj h.work h.slt hb hq hgp hvs hu0 hw.1 ho hg hl hgw hw4) ⟨rfl, rfl⟩ (fun a b => ⟨(h.few.1 a b).1, (h.few.1 a b).2.1, ?_⟩)⟩
  simp only [kY]
  split
  · rw [List.length_append]; exact hf
  · exact (h.few.1 a b).2.2
def jR (wy : Nat → Nat → List (List Pt)) (i : Nat) (ps : List Pt) (k : Nat) : Nat → Nat → List (List Pt) := fun a b => if b = i ∧ a < k ∧ a ≠ i then wy a b ++ [ps] else wy a b
theorem wyAdd_zero (wy : Nat → Nat → List (List Pt)) (i : Nat) (ps : List Pt) : jR wy i ps 0 = wy := by
  funext a b; simp [jR]
theorem wyAdd_self (wy : Nat → Nat → List (List Pt)) (i : Nat) (ps : List Pt) : jR wy i ps (i + 1) = jR wy i ps i := by
  funext a b; unfold jR
  by_cases h : b = i ∧ a < i ∧ a ≠ i
  · rw [if_pos h, if_pos ⟨h.1, by omega, h.2.2⟩]
  · rw [if_neg h, if_neg (fun h2 => h ⟨h2.1, by omega, h2.2.2⟩)]
theorem wyAdd_next (wy : Nat → Nat → List (List Pt)) {i k : Nat} (ps : List Pt) (hk : k ≠ i) : jR wy i ps (k + 1) = kY (jR wy i ps k) k i (jR wy i ps k k i ++ [ps]) := by
  funext a b; unfold jR kY
  by_cases h : a = k ∧ b = i
  · obtain ⟨rfl, rfl⟩ := h
    rw [if_pos ⟨rfl, by omega, hk⟩, if_pos ⟨rfl, rfl⟩, if_neg (fun h2 => by omega)]
  · rw [if_neg h]
    show _ = (if b = i ∧ a < k ∧ a ≠ i then wy a b ++ [ps] else wy a b)
    by_cases h3 : b = i ∧ a < k ∧ a ≠ i
    · rw [if_pos h3, if_pos ⟨h3.1, by omega, h3.2.2⟩]
    · rw [if_neg h3, if_neg (fun h2 => h3 ⟨h2.1, by omega, h2.2.2⟩)]
theorem bS {S S' : Nat → Prop} {w wr wa w4 : World} {v u : Value} {g' wb q : Nat} (hC : Chg S w wr) (hS' : ∀ b, S' b → S b ∨ w.heap.size ≤ b) (hb : Bw wr wa) (hg : wa.grownBy w4 v.ownBlock) (hv : ∀ b, v.ownBlock = some b → S' b) (hwb : S' wb) (hl : v.ownBlock = some g' ∨ g' = wa.heap.size) :
    Chg S w (w4.setCell ⟨wb, q, none⟩ u) ∧ (∀ b, (S' b ∨ b = g') → S b ∨ w.heap.size ≤ b) ∧ ∀ (chb : Nat) (arr : Array Value) (t : TypeId), ¬ S' chb → wr.heap[chb]? = some (.cells arr t (0, 0)) → (w4.setCell ⟨wb, q, none⟩ u).heap[chb]? = some (.cells arr t (0, 0)) ∧ ¬ (S' chb ∨ chb = g') := by
  have hz := hC.size
  have hz2 := hb.size
  refine ⟨?_, fun b h => ?_, fun chb arr t hn hch => ⟨?_, ?_⟩⟩
  · have k1 : Chg S w wa := hC.trans (Chg.bw (S := S) hb) (fun _ h => .inl h)
    have k2 : Chg (fun b => v.ownBlock = some b) wa w4 := ⟨hg.os, hg.tape, hg.output, hg.size, fun i hi hn => hg.block i hi (fun e => hn e.symm)⟩
    exact (k1.trans k2 (fun b h => hS' b (hv b h))).trans (qC w4 wb q u) (fun b h => hS' b (h ▸ hwb))
  · rcases h with h | rfl
    · exact hS' b h
    · rcases hl with hl | hl
      · exact hS' _ (hv _ hl)
      · exact .inr (by omega)
  · have hlt := (Array.getElem?_eq_some_iff.1 hch).1
    refine (Below.heap_setCell w4 ⟨wb, q, none⟩ u chb (fun e => hn (e ▸ hwb))).trans ((hg.block chb (by omega) (fun e => hn (hv _ e.symm))).trans ((Below.block hb _ hlt).trans hch))
  · have hlt := (Array.getElem?_eq_some_iff.1 hch).1
    rintro (h | rfl)
    · exact hn h
    · rcases hl with hl | hl
      · exact hn (hv _ hl)
      · omega
set_option maxRecDepth 100000 in
set_option maxHeartbeats 4000000 in
theorem pL {S : Nat → Prop} {pb : Nat} {x : PX} {ns : List Nd} {R W : Nat} {D : Nat → Nat → Int} {st : PSt} (i : Nat) (ps : List Pt) (pa : Option Addr) (pc : Nat) (w : World) (hO : POwn w S pb x ns R W D st) (hi : i < W) (hps : CellsAt w pa ps.length (qG ps)) (hok : ∀ j, j < ps.length → wP 8 4 (vU ps j)) (hl : ps.length ≤ 1000) (hlim : ∀ a b, (st.wy a b).length + 1 ≤ 100000000) :
    Calls Try.prog 115 #[.pointer (some ⟨pb, 0, none⟩), .int .i64 (i : Int), .slice pa ps.length pc] w fun e w' => e = .returned (.tuple #[]) ∧ POwn.After w w' S pb ns R W D { st with tb := pZ st.tb i (kT 4 (st.tb i) ps ps.length), wy := jR st.wy i ps W } := by
  have h8 := hO.small
  have HO := qJ hO
  have Hc := qJ (pchangeOf_any ps pa pc w hps hl)
  clear hO hps
  go_enter Try.func115, Try.ntmps115
  go_wp2_with fail
  refine (qK Hc).mono ?_
  rintro e0 w1 ⟨v1, rfl, hov, hb1⟩
  obtain ⟨va, vc, hve⟩ : ∃ va vc, v1 = .slice va ps.length vc := ⟨_, _, qW hov⟩
  subst hve
  go_wp2_with fail
  obtain ⟨wA, hwA⟩ : ∃ wA, w1.alloc (.cells #[.slice va ps.length vc] 183) = wA := ⟨_, rfl⟩
  obtain ⟨hbA, hchA⟩ : Bw w1 wA ∧ wA.heap[w1.heap.size]? = some (.cells #[.slice va ps.length vc] 183 (0, 0)) := by
    rw [← hwA]; exact ⟨(by repeat first|exact br _|assumption|apply bd|apply bn|apply ba|refine bt ?_ (by assumption)), heap_alloc_new w1 _⟩
  rw [hwA]
  clear hwA
  have hz1 := hb1.size
  have hvlt : ∀ b, Value.ownBlock (.slice va ps.length vc) = some b → w.heap.size ≤ b ∧ b < w1.heap.size := fun b hb => World.ownsRow.lt hov b hb
  obtain ⟨chb, hchb⟩ : ∃ chb, w1.heap.size = chb := ⟨_, rfl⟩
  rw [hchb] at hchA hz1 hvlt
  rw [hchb]
  clear hchb
  have hBA : Bw w wA := hb1.trans hbA
  have hOA := (qK HO).bw hBA
  have hnS : ¬ S chb := fun h => by have := (qK HO).slt _ h; omega
  have c3 := qQ (o := 3) hOA.root hOA.r3
  have lt0 := hOA.slt _ hOA.sroot
  have lt1 := hOA.slt _ hOA.swork
  have ch0 := qQ (o := 0) hchA rfl
  have chl := (Array.getElem?_eq_some_iff.1 hchA).1
  have hi1 : (i : Int) < (W : Int) := by omega
  have Hbel := qJ (fun (w' : World) (h : Bw wA w') => nP x.wb (i * 3684 + 3296) 162 x.warr (st.tb i) ps va vc w' (lW (hov.bw (hbA.trans h))) hok hl (fun g off e => by
    intro e2
    subst e2
    have h1 := (qK HO).slt _ (qK HO).swork
    have h2 := (World.ownsRow.lt hov x.wb (by rw [e] at *; rfl)).1
    omega) ((hOA.bw h).belIn hi))
  have HOA := qJ hOA
  have HchA := qJ hchA
  clear hOA hchA Hc
  have hnw : ¬ chb = x.wb := fun e => hnS (e ▸ (qK HO).swork)
  go_region_held3 (fun w' => w'.cell? ⟨pb, 3, none⟩ = some (.slice (some ⟨x.wb, 0, none⟩) W x.wc) ∧ w'.cell? ⟨chb, 0, none⟩ = some (.slice va ps.length vc)) (go_keep) ((go_at_call 109; refine ((qK Hbel) _ (by repeat first|exact br _|assumption|apply bd|apply bn|apply ba|refine bt ?_ (by assumption))).mono ?_; rintro e2 w2 ⟨rfl, hb2, hC2⟩; have hO2 := qJ (((qK HOA).bw (show Bw wA wA.drew from (by repeat first|exact br _|assumption|apply bd|apply bn|apply ba|refine bt ?_ (by assumption)))).believed hi hb2 hC2); have hch2 := qJ ((hC2.block chb (by simpa using chl) hnw).trans (qK HchA)); have d3 := qQ (o := 3) (qK hO2).choose_spec.root (qK hO2).choose_spec.r3; have dch0 := qQ (o := 0) (qK hch2) rfl))
  obtain ⟨arr2, hO2⟩ := qK hO2
  have hC02 : Chg S w w2 := (Chg.bw (S := S) (hBA.trans (show Bw wA wA.drew from (by repeat first|exact br _|assumption|apply bd|apply bn|apply ba|refine bt ?_ (by assumption))))).trans hC2 (fun b h => .inl (h ▸ (qK HO).swork))
  have HO2 := qJ hO2
  have lt2 := hO2.slt _ hO2.sroot
  clear hO2
  obtain ⟨st1, hst1⟩ : ∃ st1 : PSt, { st with tb := pZ st.tb i (kT 4 (st.tb i) ps ps.length) } = st1 := ⟨_, rfl⟩
  rw [hst1] at HO2
  have Hlm : Hid (∀ a b, (st1.wy a b).length + 1 ≤ 100000000) := qJ (by rw [← hst1]; exact hlim)
  have Hgoal : Hid ({ st with tb := pZ st.tb i (kT 4 (st.tb i) ps ps.length), wy := jR st.wy i ps W } = { st1 with wy := jR st1.wy i ps W }) := qJ (by rw [← hst1])
  obtain ⟨S0, hS0⟩ : ∃ S0 : Nat → Prop, S0 = fun b => S b ∨ Value.ownBlock (.slice va ps.length vc) = some b := ⟨_, rfl⟩
  have HP0 : Hid (OwnsIn S0 w2 194 5 (.slice va ps.length vc) ps.length (qG ps)) := qJ ⟨kU (kL (hov.bw (hbA.trans (show Bw wA wA.drew from (by repeat first|exact br _|assumption|apply bd|apply bn|apply ba|refine bt ?_ (by assumption))))) fun b hb => hC2.block b (by have := (hvlt b hb).2; simpa using (by omega : b < wA.heap.size)) (fun e => by have h3 := (qK HO).slt _ (qK HO).swork; have h4 := (hvlt b hb).1; omega)) (Nat.zero_le _), fun b hb => by rw [hS0]; exact .inr hb⟩
  have HO3 := qJ (show POwn w2 S0 pb { x with warr := arr2 } ns R W D { st1 with wy := jR st1.wy i ps 0 } from by
    rw [wyAdd_zero]
    refine (qK HO2).mono (fun b hb => by rw [hS0]; exact .inl hb) (fun b hb => ?_)
    rw [hS0] at hb
    rcases hb with hb | hb
    · exact (qK HO2).slt b hb
    · have := (hvlt b hb).2; have h5 := hC2.size; have h6 : wA.heap.size ≤ wA.drew.heap.size := by simp
      omega)
  have hnS0 : ¬ S0 chb := by
    rw [hS0]
    rintro (h | h)
    · exact hnS h
    · have := (hvlt chb h).2; omega
  have hS0' : ∀ b, S0 b → S b ∨ w.heap.size ≤ b := by
    rw [hS0]
    rintro b (h | h)
    · exact .inl h
    · exact .inr (hvlt b h).1
  clear hst1 Hbel
  go_wp2_with fail
  go_loopw [25] (fun idx wr => ∃ (k : Nat) (S' : Nat → Prop) (x' : PX), k ≤ W ∧ idx = .int .i64 k ∧ POwn wr S' pb x' ns R W D { st1 with wy := jR st1.wy i ps k } ∧ OwnsIn S' wr 194 5 (.slice va ps.length vc) ps.length (qG ps) ∧ wr.heap[chb]? = some (.cells #[.slice va ps.length vc] 183 (0, 0)) ∧ Chg S w wr ∧ (∀ b, S' b → S b ∨ w.heap.size ≤ b) ∧ ¬ S' chb) (fun idx _ => W - (intOf idx).toNat)
  case atStart => exact ⟨0, S0, _, Nat.zero_le _, rfl, qK HO3, qK HP0, qK hch2, hC02, hS0', hnS0⟩
  case round =>
    clear hC02 d3 dch0 c3 lt0 lt1 ch0 chl lt2 HO3 HP0 hnS0 hS0'
    obtain ⟨k, S', x', hk, rfl, hOr, hPr, hch, hC, hS', hn'⟩ := hrel
    rename World => wr
    by_cases hlt : k < W
    · have hk1 : (k : Int) < (W : Int) := by omega
      by_cases hki : k = i
      · have hki2 : ((k : Int) != (i : Int)) = false := by simp; omega
        have hki3 : (k == i) = true := by simpa using hki
        subst hki
        have HOr := qJ (show POwn wr S' pb x' ns R W D { st1 with wy := jR st1.wy k ps (k + 1) } from by rw [wyAdd_self]; exact hOr)
        clear hOr
        go_wp2_with fail
        go_roundw
        case rel => exact ⟨k + 1, S', x', by omega, by go_num, qK HOr, hPr, hch, hC, hS', hn'⟩
        case measure => simp [intOf]; omega
      · have hki2 : ((k : Int) != (i : Int)) = true := by simp; omega
        have hki4 : ¬ (k : Int) = (i : Int) := by omega
        have c3 := qQ (o := 3) hOr.root hOr.r3
        have lt0 := hOr.slt _ hOr.sroot
        have lt1 := hOr.slt _ hOr.swork
        have ch0 := qQ (o := 0) hch rfl
        have chl := (Array.getElem?_eq_some_iff.1 hch).1
        obtain ⟨v, hq, vs, hv, hvS, hvP⟩ := hOr.row.way k i hlt (by omega)
        have hlim' : (jR st1.wy i ps k k i).length + 1 ≤ 100000000 := by
          unfold jR
          rw [if_neg (fun h => by omega)]
          exact (qK Hlm) k i
        have Hnx := qJ (wyAdd_next st1.wy ps hki)
        simp only at hv hvP
        obtain ⟨ya, yc, hye⟩ := hv.val
        subst hye
        have hone : ∀ u ∈ vs, Value.oneCell' u = true := by
          intro u hu
          obtain ⟨q, hql, hqe⟩ := List.getElem_of_mem hu
          obtain ⟨u', e', h4⟩ := hvP q (by rw [← hv.1]; exact hql)
          have : u' = u := by rw [List.getElem?_eq_getElem hql, hqe] at e'; exact (Option.some.inj e').symm
          rw [← this, qW h4.1]
          rfl
        have cq := qQ (o := k * 3684 + 3680 + i) hOr.work hq
        have hi4 : (i : Int) < 4 := by omega
        have HOr := qJ hOr
        have HPr := qJ hPr
        have HvP := qJ hvP
        have HvS := qJ hvS
        have Hch := qJ hch
        have Hv := qJ hv
        have Hq := qJ hq
        clear hOr hch hv hq hPr hvP hvS
        go_wp2_with fail
        go_region_law (refine stepO rfl _ _ rfl (.slice ya (jR st1.wy i ps k k i).length yc) (jR st1.wy i ps k k i).length vs rfl ((qK Hv).bw (by repeat first|exact br _|assumption|apply bd|apply bn|apply ba|refine bt ?_ (by assumption))) hone _ _ (.slice va ps.length vc) rfl (qQ (qN _ _ (by simp)) rfl) rfl (by omega) ?_; intro g' off cap w4 ho4 hg4 hl4; have Hs := qJ ((qK HOr).sent (ps := ps) hlt (show i < 4 by omega) (show Bw wr _ from (by repeat first|exact br _|assumption|apply bd|apply bn|apply ba|refine bt ?_ (by assumption))) (qK Hq) (qK Hv) (qK HvP) (qK HPr) ho4 hg4 hl4 hlim'); have q7 := qQ (qK Hs).1 (qK Hq); have q7f := qZ (o := k * 3684 + 3680 + i) (qK Hs).1; have q7l := (Array.getElem?_eq_some_iff.1 (qK Hs).1).1)
        all_goals (
          obtain ⟨hw4, hO5⟩ := qK Hs
          have Hx := qJ (bS (q := k * 3684 + 3680 + i) (u := .slice (some ⟨g', off, none⟩) ((jR st1.wy i ps k k i).length + 1) cap) hC hS' (show Bw wr _ from (by repeat first|exact br _|assumption|apply bd|apply bn|apply ba|refine bt ?_ (by assumption))) hg4 (qK HvS) (qK HOr).swork hl4)
          have HP5 := qJ (show OwnsIn (fun b => S' b ∨ b = g') _ 194 5 (.slice va ps.length vc) ps.length (qG ps) from lS (q := k * 3684 + 3680 + i) (v4 := .slice (some ⟨g', off, none⟩) ((jR st1.wy i ps k k i).length + 1) cap) (qK HOr).work (show Bw wr _ from (by repeat first|exact br _|assumption|apply bd|apply bn|apply ba|refine bt ?_ (by assumption))) hw4 (pW (fun b hb => by obtain ⟨cur, hc⟩ := (qK Hv).blk hb; exact ⟨cur, (Below.block (show Bw wr _ from (by repeat first|exact br _|assumption|apply bd|apply bn|apply ba|refine bt ?_ (by assumption))) b (Array.getElem?_eq_some_iff.1 hc).1).trans hc⟩) hg4 _ (by decide)) (qK HPr) (by decide))
          have HO5 := qJ hO5
          clear hO5 hw4 Hs q7 q7f q7l ho4 hg4 hl4
          go_wp2_with fail
          go_roundw
          case rel =>
            obtain ⟨x1, x2, x3⟩ := qK Hx
            obtain ⟨x4, x5⟩ := x3 chb _ _ hn' (qK Hch)
            exact ⟨k + 1, _, _, by omega, by go_num, by rw [qK Hnx]; exact qK HO5, qK HP5, x4, x1, x2, x5⟩
          case measure => simp [intOf]; omega)
    · have hkW : k = W := by omega
      have HOr := qJ (hkW ▸ hOr)
      have hl1 : decide ((k : Int) < (W : Int)) = false := by simp; omega
      clear hOr hkW
      go_wp2_with fail
      go_end0
      exact ⟨rfl, S', x', by rw [qK Hgoal]; exact qK HOr, hC, hS'⟩
def jB (ns : List Nd) (W : Nat) (w n : Int) (m : Gv) (wt : Nat → Nat → List Gv) : Nat → (Nat → Nat → List Gv)
  | 0 => wt
  | k + 1 => if qL (qV ns k) n then kY (jB ns W w n m wt k) (atI ns W w m.value k).toNat k (jB ns W w n m wt k (atI ns W w m.value k).toNat k ++ [m]) else jB ns W w n m wt k
theorem wtPut_len (ns : List Nd) (W : Nat) (w n : Int) (m : Gv) (wt : Nat → Nat → List Gv) (B : Nat) (h : ∀ i j, (wt i j).length ≤ B) : ∀ k i j, (jB ns W w n m wt k i j).length ≤ B + (if j < k then 1 else 0) := by
  intro k
  induction k with
  | zero => intro i j; simpa [jB] using h i j
  | succ k ih =>
    intro i j
    unfold jB
    split
    · unfold kY
      split
      · rename_i e
        have := ih (atI ns W w m.value k).toNat k
        rw [if_neg (by omega)] at this
        rw [List.length_append, e.2, if_pos (by omega)]
        simp
        omega
      · have := ih i j
        split <;> split at this <;> omega
    · have := ih i j
      split <;> split at this <;> omega
theorem atI_lt {ns : List Nd} {W : Nat} {i k : Nat} {v : Int} (hi : i < W) : 0 ≤ atI ns W (i : Int) v k ∧ atI ns W (i : Int) v k < W := by
  unfold atI
  split
  · exact ⟨Int.emod_nonneg _ (by omega), Int.emod_lt_of_pos _ (by omega)⟩
  · split
    · exact ⟨Int.emod_nonneg _ (by omega), Int.emod_lt_of_pos _ (by omega)⟩
    · omega
theorem POwn.waits {w wa w4 : World} {S : Nat → Prop} {pb i m g' c : Nat} {x : PX} {ns : List Nd} {R W : Nat} {D : Nat → Nat → Int} {st : PSt} {v : Value} {y : Gv} {ms : List Gv} (h : POwn w S pb x ns R W D st) (hms : st.wt i m = ms) (hi : i < W) (hm : m < ns.length) (hb : Bw w wa) (hq : x.warr[i * 3684 + 16 + m]? = some v) (hown : wa.ownsRow 0 117 3 v ms.length (qB ms))
    (ho : w4.ownsRow 0 117 3 (.slice (some ⟨g', 0, none⟩) (ms.length + 1) c) (ms.length + 1) (qB ms ++ y.cells)) (hg : wa.grownBy w4 v.ownBlock) (hl : v.ownBlock = some g' ∨ g' = wa.heap.size) (hf : ∀ a b, (kY st.wt i m (ms ++ [y]) a b).length ≤ 100000000) :
    POwn (w4.setCell ⟨x.wb, i * 3684 + 16 + m, none⟩ (.slice (some ⟨g', 0, none⟩) (ms.length + 1) c)) (fun b => S b ∨ b = g') pb { x with warr := x.warr.setIfInBounds (i * 3684 + 16 + m) (.slice (some ⟨g', 0, none⟩) (ms.length + 1) c) } ns R W D { st with wt := kY st.wt i m (ms ++ [y]) } := by
  subst hms
  have hgp := pW (fun b hbb => zK hown hbb) hg
  refine h.appRow hb 117 (.inl rfl) hg.size hgp (World.ownsRow.lt ho g' rfl).2 (fun hw4 => h.row.addMsg 16 h.small.1 hi hm (.inl rfl) h.work h.slt hb hq (hgp _ (by decide)) ho hg hl hw4 ⟨rfl, rfl, rfl, rfl, rfl⟩ (fun a b _ _ => ?_) (fun a b _ _ => ?_)) ⟨rfl, rfl⟩ (fun a b => ⟨hf a b, (h.few.1 a b).2⟩)
  · simp [kY]
  · rw [if_neg (fun h => by omega)]
theorem POwn.lets {w wa w4 : World} {S : Nat → Prop} {pb i m g' c : Nat} {x : PX} {ns : List Nd} {R W : Nat} {D : Nat → Nat → Int} {st : PSt} {v : Value} {y : Gv} {ms : List Gv} (h : POwn w S pb x ns R W D st) (hms : st.lb i m = ms) (hi : i < W) (hm : m < ns.length) (hb : Bw w wa) (hq : x.warr[i * 3684 + 24 + m]? = some v) (hown : wa.ownsRow 0 117 3 v ms.length (qB ms))
    (ho : w4.ownsRow 0 117 3 (.slice (some ⟨g', 0, none⟩) (ms.length + 1) c) (ms.length + 1) (qB ms ++ y.cells)) (hg : wa.grownBy w4 v.ownBlock) (hl : v.ownBlock = some g' ∨ g' = wa.heap.size) (hf : ms.length + 1 ≤ 100000000) :
    POwn (w4.setCell ⟨x.wb, i * 3684 + 24 + m, none⟩ (.slice (some ⟨g', 0, none⟩) (ms.length + 1) c)) (fun b => S b ∨ b = g') pb { x with warr := x.warr.setIfInBounds (i * 3684 + 24 + m) (.slice (some ⟨g', 0, none⟩) (ms.length + 1) c) } ns R W D { st with lb := kY st.lb i m (ms ++ [y]) } := by
  subst hms
  have hgp := pW (fun b hbb => zK hown hbb) hg
  refine h.appRow hb 117 (.inl rfl) hg.size hgp (World.ownsRow.lt ho g' rfl).2 (fun hw4 => h.row.addMsg 24 h.small.1 hi hm (.inr rfl) h.work h.slt hb hq (hgp _ (by decide)) ho hg hl hw4 ⟨rfl, rfl, rfl, rfl, rfl⟩ (fun a b _ _ => ?_) (fun a b _ _ => ?_)) ⟨rfl, rfl⟩ (fun a b => ⟨(h.few.1 a b).1, ?_, (h.few.1 a b).2.2⟩)
  · rw [if_neg (fun h => by omega)]
  · simp [kY]
  · simp only [kY]
    split
    · rw [List.length_append]; exact hf
    · exact (h.few.1 a b).2.1
set_option maxRecDepth 100000 in
set_option maxHeartbeats 4000000 in
theorem rQ {S : Nat → Prop} {pb : Nat} {x : PX} {ns : List Nd} {R W : Nat} {D : Nat → Nat → Int} {st : PSt} (i : Nat) (n e rr v : Int) (w : World) (hO : POwn w S pb x ns R W D st) (hi : i < W) (h6 : ∀ k, k < ns.length → (qV ns k).kind = 6 → 1 ≤ (qV ns k).k ∧ (qV ns k).k ≤ 8) (hf : ∀ a b, (st.wt a b).length ≤ 90000000) :
    Calls Try.prog 114 #[.pointer (some ⟨pb, 0, none⟩), .int .i64 (i : Int), .int .i64 n, .agg #[.int .i64 e, .int .i64 rr], .int .i64 v] w fun en w' => ∃ u, en = .returned u ∧ OwnP w w' u (jX ns n ⟨e, rr, v⟩ ns.length) ∧ POwn.After w w' S pb ns R W D { st with wt := jB ns W i n ⟨e, rr, v⟩ st.wt ns.length } := by
  have h8 := hO.small
  have HO := qJ hO
  obtain ⟨na, nc, hvn, hnd⟩ := hO.ns
  have c0 := qQ (o := 0) hO.root (hvn ▸ hO.r0)
  have lt0 := hO.slt _ hO.sroot
  clear hO
  go_enter Try.func114, Try.ntmps114
  go_wp2_with fail
  obtain ⟨w0, hw0⟩ : ∃ w0, (w.alloc (.cells #[.int .i64 e, .int .i64 rr] 75)).alloc (.cells #[.int .i64 e, .int .i64 rr, .int .i64 v] 117) = w0 := ⟨_, rfl⟩
  have hA := yU w (.cells #[.int .i64 e, .int .i64 rr] 75) (.cells #[.int .i64 e, .int .i64 rr, .int .i64 v] 117)
  rw [hw0] at hA
  rw [hw0]
  obtain ⟨ht0, hm0, hB0⟩ := hA
  clear hw0
  have hnt : ¬ S w.heap.size := fun h => by have := (qK HO).slt _ h; omega
  have hnm : ¬ S (w.heap.size + 1) := fun h => by have := (qK HO).slt _ h; omega
  obtain ⟨tb, htb⟩ : ∃ tb, w.heap.size = tb := ⟨_, rfl⟩
  rw [htb] at ht0 hm0 hnt hnm
  rw [htb]
  obtain ⟨mb, hmb⟩ : ∃ mb, tb + 1 = mb := ⟨_, rfl⟩
  rw [hmb] at hm0 hnm
  rw [hmb]
  clear htb hmb
  have hO0 := (qK HO).bw hB0
  have hC0 : Chg S w w0 := Chg.bw hB0
  have Hvn := qJ hvn
  have HO0 := qJ hO0
  clear hO0 hvn hnd c0 lt0
  go_loopw [12, 29] (fun u idx wr => ∃ (k : Nat) (S' : Nat → Prop) (x' : PX), k ≤ ns.length ∧ idx = .int .i64 k ∧ x'.vn = .slice na ns.length nc ∧ POwn wr S' pb x' ns R W D { st with wt := jB ns W i n ⟨e, rr, v⟩ st.wt k } ∧ wr.heap[tb]? = some (.cells #[.int .i64 e, .int .i64 rr] 75 (0, 0)) ∧ wr.heap[mb]? = some (.cells #[.int .i64 e, .int .i64 rr, .int .i64 v] 117 (0, 0)) ∧ ¬ S' tb ∧ ¬ S' mb ∧ Chg S w wr ∧ (∀ b, S' b → S b ∨ w.heap.size ≤ b) ∧ OwnP w wr u (jX ns n ⟨e, rr, v⟩ k) ∧ (∀ b, u.ownBlock = some b → ¬ S' b)) (fun _ idx _ => ns.length - (intOf idx).toNat)
  case atStart => exact ⟨0, S, x, Nat.zero_le _, rfl, qK Hvn, qK HO0, ht0, hm0, hnt, hnm, hC0, fun _ h => .inl h, OwnP.nil _ _, by simp [Value.ownBlock]⟩
  case round =>
    clear hC0 ht0 hm0 hnt hnm HO0 hB0
    obtain ⟨k, S', x', hk, rfl, hvn, hOr, ht, hm, hnt, hnm, hC, hS', hu, hnu⟩ := hrel
    rename World => wr
    have hz := hC.size
    have hpl := wW ns n ⟨e, rr, v⟩ k
    obtain ⟨ua, uc, hue⟩ : ∃ ua uc, u12 = .slice ua (jX ns n ⟨e, rr, v⟩ k).length uc := ⟨_, _, qW hu⟩
    subst hue
    by_cases hlt : k < ns.length
    · obtain ⟨b, off, eb, hb, hc⟩ := (show NodesAt wr na ns from by have := bK hOr.nodes.1; rw [hvn] at this; exact this) k hlt
      subst eb
      obtain ⟨d0, d1, d2, d3, d4⟩ := hc k hlt
      clear hc
      have HT := qJ (fun w => vB (qV ns k) n w)
      have Hwp : Hid (jB ns W i n ⟨e, rr, v⟩ st.wt (k + 1) = if qL (qV ns k) n then kY (jB ns W i n ⟨e, rr, v⟩ st.wt k) (atI ns W i v k).toNat k (jB ns W i n ⟨e, rr, v⟩ st.wt k (atI ns W i v k).toNat k ++ [⟨e, rr, v⟩]) else jB ns W i n ⟨e, rr, v⟩ st.wt k) := qJ rfl
      have Hpp : Hid (jX ns n ⟨e, rr, v⟩ (k + 1) = if qL (qV ns k) n then jX ns n ⟨e, rr, v⟩ k ++ [⟨k, false, e, rr, 1⟩] else jX ns n ⟨e, rr, v⟩ k) := qJ rfl
      have Hwl := qJ (wtPut_len ns W i n ⟨e, rr, v⟩ st.wt 90000000 hf)
      cases htk : qL (qV ns k) n with
      | false =>
        have HW : Hid (jB ns W i n ⟨e, rr, v⟩ st.wt (k + 1) = jB ns W i n ⟨e, rr, v⟩ st.wt k) := qJ (by rw [qK Hwp, htk]; rfl)
        have HP : Hid (jX ns n ⟨e, rr, v⟩ (k + 1) = jX ns n ⟨e, rr, v⟩ k) := qJ (by rw [qK Hpp, htk]; rfl)
        rw [htk] at HT
        have HOr := qJ hOr
        have Htb := qJ ht
        have Hmb := qJ hm
        have ltb := (Array.getElem?_eq_some_iff.1 ht).1
        have lmb := (Array.getElem?_eq_some_iff.1 hm).1
        generalize qV ns k = y at *
        clear htk hOr ht hm Hwp Hpp
        go_wp2_with (go_at_call 128; refine ((qK HT) _).mono ?_; rintro en w1 ⟨rfl, hb1⟩)
        go_roundw
        case rel =>
          have hB : Bw wr w1 := (by repeat first|exact br _|assumption|apply bd|apply bn|apply ba|refine bt ?_ (by assumption))
          exact ⟨k + 1, S', x', by omega, by go_num, hvn, by rw [qK HW]; exact (qK HOr).bw hB, (Below.block hB _ ltb).trans (qK Htb), (Below.block hB _ lmb).trans (qK Hmb), hnt, hnm, hC.trans (Chg.bw (S := S) hB) (fun _ h => .inl h), hS', by rw [qK HP]; exact hu.bw hB, hnu⟩
        case measure => simp [intOf]; omega
      | true =>
        obtain ⟨ha0, ha1⟩ := atI_lt (ns := ns) (k := k) (v := v) hi
        have h6k := h6 k hlt
        have Hat : Hid (atN (qV ns k) W (i : Int) v = atI ns W (i : Int) v k) := qJ rfl
        have HWk := qJ (fun (w' : World) (h : Bw wr w') => pworks_any (qV ns k) (i : Int) v w' (hOr.bw h) h6k)
        rw [qK Hat] at HWk
        obtain ⟨a, hae⟩ := Int.eq_ofNat_of_zero_le ha0
        rw [hae] at HWk Hwp ha1
        have ha : a < W := by omega
        rw [Int.toNat_natCast, htk, if_pos rfl] at Hwp
        rw [htk, if_pos rfl] at Hpp
        rw [htk] at HT
        clear Hat hae ha0 ha1
        obtain ⟨st1, hst1⟩ : ∃ st1 : PSt, { st with wt := jB ns W i n ⟨e, rr, v⟩ st.wt k } = st1 := ⟨_, rfl⟩
        have hwt : st1.wt = jB ns W i n ⟨e, rr, v⟩ st.wt k := by rw [← hst1]
        have Hst2 : Hid ({ st with wt := jB ns W i n ⟨e, rr, v⟩ st.wt (k + 1) } = { st1 with wt := kY st1.wt a k (st1.wt a k ++ [⟨e, rr, v⟩]) }) := qJ (by rw [← hst1, qK Hwp])
        have Hw1 : Hid (∀ p q, (kY st1.wt a k (st1.wt a k ++ [⟨e, rr, v⟩]) p q).length ≤ 100000000) := qJ (fun p q => by
          have h1 := (qK Hwl) (k + 1) p q
          rw [qK Hwp] at h1
          rw [hwt]
          split at h1 <;> omega)
        have hw1k : (st1.wt a k).length ≤ 95000000 := by
          have h1 := (qK Hwl) k a k
          rw [hwt]
          split at h1 <;> omega
        rw [hst1] at hOr
        obtain ⟨vq, hq, hvq⟩ := hOr.row.wait a k ha hlt
        obtain ⟨qa, qc, hqe⟩ : ∃ qa qc, vq = .slice qa (st1.wt a k).length qc := ⟨_, _, qW hvq.1⟩
        subst hqe
        have HOr := qJ hOr
        have Htb := qJ ht
        have Hmb := qJ hm
        have Hq := qJ hq
        have Hvq := qJ hvq
        have ltb := (Array.getElem?_eq_some_iff.1 ht).1
        have lmb := (Array.getElem?_eq_some_iff.1 hm).1
        have ha1 : (a : Int) < (W : Int) := by omega
        have hk8 : (k : Int) < 8 := by omega
        generalize jX ns n ⟨e, rr, v⟩ k = pk at *
        generalize qV ns k = y at *
        obtain ⟨ms, hms⟩ : ∃ ms, st1.wt a k = ms := ⟨_, rfl⟩
        rw [hms] at hw1k Hw1 Hst2 Hvq Hq
        have Hms := qJ hms
        try simp only [hms]
        clear hms hwt
        clear htk hOr ht hm Hwp hst1 h6k hq hvq Hwl
        go_wp2_with (first | (go_at_call 128; refine ((qK HT) _).mono ?_; rintro en w1 ⟨rfl, hb1⟩; have hB1 : Bw wr w1 := (by repeat first|exact br _|assumption|apply bd|apply bn|apply ba|refine bt ?_ (by assumption)); have hx1 := (Below.block hb1 wr.heap.size (by simp)).trans (heap_alloc_new wr _); have y0 := qQ (o := 0) hx1 rfl; have y1 := qQ (o := 1) hx1 rfl; have y2 := qQ (o := 2) hx1 rfl; have y3 := qQ (o := 3) hx1 rfl; have y4 := qQ (o := 4) hx1 rfl; have yl := (Array.getElem?_eq_some_iff.1 hx1).1; clear hx1) | (go_at_call 139; refine ((qK HWk) _ hB1).mono ?_; rintro en w2 ⟨rfl, hb2⟩; have hB2 : Bw wr w2 := hB1.trans hb2; have hO2 := (qK HOr).bw hB2; have p3 := qQ (o := 3) hO2.root hO2.r3; have l0 := hO2.slt _ hO2.sroot; have l1 := hO2.slt _ hO2.swork; have pq := qQ (o := a * 3684 + 16 + k) hO2.work (qK Hq); have hm2 := (Below.block hB2 _ lmb).trans (qK Hmb); have m0 := qQ (o := 0) hm2 rfl; have m1 := qQ (o := 1) hm2 rfl; have m2 := qQ (o := 2) hm2 rfl; have ml := (Array.getElem?_eq_some_iff.1 hm2).1; clear hO2 hm2))
        go_region_law (refine pF rfl _ _ _ 117 rfl _ 3 24 Try.infoMessage Try.underlying70 rfl (by decide) 0 (.slice qa ms.length qc) ms.length (qB ms) rfl (qP (qK Hvq).1 fun g hg => Below.block (show Bw wr _ from (by repeat first|exact br _|assumption|apply bd|apply bn|apply ba|refine bt ?_ (by assumption))) g hg) _ _ (Gv.cells ⟨e, rr, v⟩) rfl rfl (pT (qQ (qN _ _ (by simp)) rfl) (qQ (qN _ _ (by simp)) rfl) (qQ (qN _ _ (by simp)) rfl)) (cJ _) (by omega) (by omega) (Nat.zero_le _) ?_; intro g' cap w4 ho4 hg4 hl4; have q4 := kZ (qP (qK Hvq).1 fun g hg => Below.block (show Bw wr _ from (by repeat first|exact br _|assumption|apply bd|apply bn|apply ba|refine bt ?_ (by assumption))) g hg) hg4 ((qK HOr).bw (show Bw wr _ from (by repeat first|exact br _|assumption|apply bd|apply bn|apply ba|refine bt ?_ (by assumption)))).work (.inl (by decide)); have q7 := qQ q4 (qK Hq); have q7f := qZ (o := a * 3684 + 16 + k) q4; have q7l := (Array.getElem?_eq_some_iff.1 q4).1; clear q4)
        all_goals (
          obtain ⟨wB, hwB, hBB⟩ : ∃ wB, wB = (w2.alloc (.cells #[.int .i64 e, .int .i64 rr, .int .i64 v] 117)).drew ∧ Bw wr wB := ⟨_, rfl, (by repeat first|exact br _|assumption|apply bd|apply bn|apply ba|refine bt ?_ (by assumption))⟩
          rw [← hwB] at hg4 hl4
          have hvB := qP (qK Hvq).1 fun g hg => Below.block hBB g hg
          have hO5 := (qK HOr).waits (qK Hms) ha hlt hBB (qK Hq) hvB ho4 hg4 hl4 (qK Hw1)
          rw [← qK Hst2] at hO5
          have q4 := kZ hvB hg4 ((qK HOr).bw hBB).work (.inl (by decide))
          obtain ⟨x1, x2, x3⟩ := bS (q := a * 3684 + 16 + k) (u := .slice (some ⟨g', 0, none⟩) (ms.length + 1) cap) hC hS' hBB hg4 (qK Hvq).2 (qK HOr).swork hl4
          obtain ⟨t5, nt5⟩ := x3 tb _ _ hnt (qK Htb)
          obtain ⟨m5, nm5⟩ := x3 mb _ _ hnm (qK Hmb)
          have hu5 := kJ (k := a * 3684 + 16 + k) (u := .slice (some ⟨g', 0, none⟩) (ms.length + 1) cap) q4 (jU hvB hg4 (hu.bw hBB) (by decide)) (by decide)
          have nu5 : ∀ b, (Value.slice ua pk.length uc).ownBlock = some b → ¬ (S' b ∨ b = g') := fun b hb => by
            obtain ⟨cur, hcur⟩ := zK hu hb
            exact (x3 b _ _ (hnu b hb) hcur).2
          obtain ⟨w5, hw5⟩ : ∃ w5, w4.setCell ⟨x'.wb, a * 3684 + 16 + k, none⟩ (.slice (some ⟨g', 0, none⟩) (ms.length + 1) cap) = w5 := ⟨_, rfl⟩
          rw [hw5] at hO5 x1 t5 m5 hu5
          simp only [hw5]
          have z0 := qQ (o := 0) t5 rfl
          have z1 := qQ (o := 1) t5 rfl
          have zl := (Array.getElem?_eq_some_iff.1 t5).1
          have HO5 := qJ hO5
          have Ht5 := qJ t5
          have Hm5 := qJ m5
          have lm5 := (Array.getElem?_eq_some_iff.1 m5).1
          have hz5 := x1.size
          clear hO5 t5 m5 hw5 hwB hvB q4 x3 q7 q7f q7l ho4 hg4 hl4 m0 m1 m2 ml pq p3 l0 l1 hBB
          go_wp2_with (first | (go_at_call 140; refine (pin_any (k : Int) e rr 1 w5).mono ?_; rintro en w6 ⟨rfl, hb6⟩; simp only [Pt.val]) | (at_builtin; refine appL _ rfl _ _ _ 194 rfl _ 5 40 Try.infoPoint Try.underlying97 rfl (by decide) w.heap.size (.slice ua pk.length uc) pk.length (qG pk) rfl (qP hu5 fun g hg => Below.block (show Bw w5 _ from (by repeat first|exact br _|assumption|apply bd|apply bn|apply ba|refine bt ?_ (by assumption))) g hg) _ _ (Pt.cells ⟨k, false, e, rr, 1⟩) rfl rfl (pt_cells (qQ (qN _ _ (by simp)) rfl) (qQ (qN _ _ (by simp)) rfl) (qQ (qN _ _ (by simp)) rfl) (qQ (qN _ _ (by simp)) rfl) (qQ (qN _ _ (by simp)) rfl)) (pt_one _) (by omega) (by omega) (Nat.le_trans hz5 (Bw.size (show Bw w5 _ from (by repeat first|exact br _|assumption|apply bd|apply bn|apply ba|refine bt ?_ (by assumption))))) ?_; intro g6 cap6 w7 ho7 hg7 hl7))
          go_roundw
          case rel =>
            obtain ⟨wC, hwC, hBC⟩ : ∃ wC, wC = w6.alloc (.cells #[.int .i64 (k : Int), .bool false, .int .i64 e, .int .i64 rr, .int .i64 1] 194) ∧ Bw w5 wC := ⟨_, rfl, (by repeat first|exact br _|assumption|apply bd|apply bn|apply ba|refine bt ?_ (by assumption))⟩
            rw [← hwC] at hg7 hl7
            have huC := qP hu5 fun g hg => Below.block hBC g hg
            have hOC := (qK HO5).bw hBC
            refine ⟨k + 1, _, _, by omega, by go_num, ?_, hOC.frame hg7.size (fun b hb hl => hg7.block b hl (fun e => nu5 b e.symm hb)), kZ huC hg7 ((Below.block hBC _ zl).trans (qK Ht5)) (.inl (by decide)), kZ huC hg7 ((Below.block hBC _ lm5).trans (qK Hm5)) (.inl (by decide)), nt5, nm5, ?_, x2, ?_, ?_⟩
            · exact hvn
            · have k2 : Chg (fun b => (Value.slice ua pk.length uc).ownBlock = some b) wC w7 := ⟨hg7.os, hg7.tape, hg7.output, hg7.size, fun i hi hn => hg7.block i hi (fun e => hn e.symm)⟩
              exact (x1.trans (Chg.bw (S := S) hBC) (fun _ h => .inl h)).trans k2 (fun b hb => .inr (World.ownsRow.lt huC b hb).1)
            · rw [qK Hpp]; exact OwnP.snoc ho7
            · intro b hb
              simp only [Value.ownBlock, Option.some.injEq] at hb
              subst hb
              rcases hl7 with h | h
              · exact nu5 _ h
              · intro hs
                have h1 := (qK HO5).slt _ hs
                have h2 := hBC.size
                omega
          case measure => simp [intOf]; omega)
    · have hkk : k = ns.length := by omega
      subst hkk
      have HOr := qJ hOr
      clear hOr ht hm
      go_wp2_with fail
      go_ret
      exact ⟨_, rfl, hu, S', x', qK HOr, hC, hS'⟩
end Go.Proofs.Ytfemleimkbjehaa
