import Derived.Test.YtfemleimkbjehaaJ43
import Derived.Test.YtfemleimkbjehaaJ1
import Derived.ProofKit
import Derived.SizedLaws
import Derived.Lib.SmallJoins
import Derived.Deep.Slices
import Derived.Test.YtfemleimkbjehaaJ2
import Derived.Carry
import Derived.Test.YtfemleimkbjehaaJ40
set_option maxRecDepth 1000000
set_option maxHeartbeats 40000000
set_option linter.unusedVariables false
set_option linter.unusedSimpArgs false
namespace Go.Proofs.Ytfemleimkbjehaa
open Go.RowKit
theorem kms_len (l : List Tm) : (jM l).length = l.length * 2 := by
  induction l with
  | nil => rfl
  | cons a l ih => simp only [jM, List.flatMap_cons, List.length_append] at ih ⊢; rw [ih]; simp [Tm.cells]; omega
theorem kms_one (l : List Tm) : ∀ u ∈ jM l, u.oneCell' = true := by
  intro u hu
  obtain ⟨t, _, ht⟩ := List.mem_flatMap.1 hu
  simp [Tm.cells] at ht
  rcases ht with rfl | rfl <;> rfl
def CIn (V w : World) (bb : Nat) (ns : List Nd) (R W : Nat) (gs : List Gv) (p : PSt) (st : RSt) (n : Nat) (f : List Tm) (fa : Option Addr) : Prop := ∃ U, BAt w U bb ns R W gs p st ∧ (∀ b, U b → V.heap.size ≤ b) ∧ Bw V w ∧ TmsAt w fa f ∧ (∀ i, i < f.length → ∀ a, fa = some a → ¬ U a.block) ∧ Cov ns R W p n f ∧ f.length ≤ 6
theorem CIn.next {V w w' : World} {U : Nat → Prop} {bb n : Nat} {ns : List Nd} {R W : Nat} {gs' : List Gv} {p p' : PSt} {st' : RSt} {f : List Tm} {fa : Option Addr} (hn : n < ns.length) (hU : ∀ b, U b → V.heap.size ≤ b) (hb : Bw V w) (hf : TmsAt w fa f) (hd : ∀ i, i < f.length → ∀ a, fa = some a → ¬ U a.block) (hcv : Cov ns R W p n f) (h6 : f.length ≤ 6) (hM : Mv ns R W p p') (hA : BAt.After w w' U bb ns R W gs' p' st') : CIn V w' bb ns R W gs' p' st' n f fa := by
  obtain ⟨U', h1, h2, h3⟩ := hA
  refine ⟨U', h1, fun b hb' => (h3 b hb').elim (hU b) (fun h => Nat.le_trans hb.size h), Chg.toBw hb h2 hU, hf.chg h2 hd, fun i hi a e hu => ?_, hM.1 n f hn hcv, h6⟩
  rcases h3 _ hu with h4 | h4
  · exact hd i hi a e h4
  · obtain ⟨b, off, e2, hb2, _⟩ := hf i hi
    rw [e2] at e
    injection e with e
    subst e
    simp only at h4
    omega
theorem CIn.more {V w w' : World} {bb n : Nat} {ns : List Nd} {R W : Nat} {gs : List Gv} {p : PSt} {st : RSt} {f : List Tm} {fa : Option Addr} (h : CIn V w bb ns R W gs p st n f fa) (hb : Bw w w') : CIn V w' bb ns R W gs p st n f fa := by
  obtain ⟨U, h1, h2, h3, h4, h5, h6⟩ := h
  exact ⟨U, h1.bw hb, h2, h3.trans hb, h4.below hb, h5, h6⟩
theorem CIn.covers {V w : World} {bb n : Nat} {ns : List Nd} {R W : Nat} {gs : List Gv} {p : PSt} {st : RSt} {f : List Tm} {fa : Option Addr} (g : GOk ns R W) (hn : n < ns.length) (h : CIn V w bb ns R W gs p st n f fa) (fc : Nat) :
    Calls Try.prog 33 #[.pointer (some ⟨bb, 0, none⟩), .int .i64 (n : Int), .slice fa f.length fc] w fun e w' => e = .returned (.bool true) ∧ Bw w w' ∧ CIn V w' bb ns R W gs p st n f fa := by
  have h' := h
  obtain ⟨U, h1, h2, h3, h4, h5, h6, h7⟩ := h
  refine (kcovered_any g n f fa fc hn w h1 (by omega) h4 h6).mono ?_
  rintro e w' ⟨rfl, hb⟩
  exact ⟨rfl, hb, h'.more hb⟩
theorem CIn.steps {V w : World} {bb n : Nat} {ns : List Nd} {R W : Nat} {gs : List Gv} {p : PSt} {st : RSt} {f : List Tm} {fa : Option Addr} (g : GOk ns R W) (h0 : (qV ns 0).kind = 0) (hn : n < ns.length) (h : CIn V w bb ns R W gs p st n f fa) (o : OpI) (ho : o.wf) :
    Calls Try.prog 28 #[.pointer (some ⟨bb, 0, none⟩), .agg #[.int .i64 o.k, .int .i64 o.a, .int .i64 o.b, .int .i64 o.c]] w fun e w' => e = .returned (.bool true) ∧ ∃ gs' p' st', CIn V w' bb ns R W gs' p' st' n f fa := by
  obtain ⟨U, h1, h2, h3, h4, h5, h6, h7⟩ := h
  refine (kstep_any g h0 o ho w h1).mono ?_
  rintro e w' ⟨rfl, gs', p', st', hA, hM⟩
  exact ⟨rfl, gs', p', st', CIn.next hn h2 h3 h4 h5 h6 h7 hM hA⟩
theorem BIn.steps {V w : World} {bb : Nat} {ns : List Nd} {R W : Nat} {gs : List Gv} {p : PSt} {st : RSt} (g : GOk ns R W) (h0 : (qV ns 0).kind = 0) (h : BIn V w bb ns R W gs p st) (o : OpI) (ho : o.wf) :
    Calls Try.prog 28 #[.pointer (some ⟨bb, 0, none⟩), .agg #[.int .i64 o.k, .int .i64 o.a, .int .i64 o.b, .int .i64 o.c]] w fun e w' => e = .returned (.bool true) ∧ ∃ gs' p' st', BIn V w' bb ns R W gs' p' st' := by
  obtain ⟨U, h1, h2, h3⟩ := h
  refine (kstep_any g h0 o ho w h1).mono ?_
  rintro e w' ⟨rfl, gs', p', st', hA, hM⟩
  exact ⟨rfl, gs', p', st', BIn.next h2 h3 hA⟩
theorem wrap_range (z : Int) : -9223372036854775808 ≤ IntKind.i64.wrap z ∧ IntKind.i64.wrap z ≤ 9223372036854775807 := by
  rw [IntKind.wrap_i64]; omega
theorem CIn.ask {V w w2 w3 : World} {bb i n : Nat} {ns : List Nd} {R W : Nat} {gs : List Gv} {p : PSt} {st : RSt} {v : Value} (g : GOk ns R W) (hi : i < W) (hn : n < ns.length) (h : BIn V w bb ns R W gs p st) (hb : Bw w w2) (hb3 : Bw w2 w3) (ho : w3.ownsRow w2.heap.size 75 2 v (frsP ns (jV ns) R p i n).length (jM (frsP ns (jV ns) R p i n))) : CIn V w3 bb ns R W gs p st n (frsP ns (jV ns) R p i n) (vR v) := by
  obtain ⟨U, h1, h2, h3⟩ := h
  refine ⟨U, h1.bw (hb.trans hb3), h2, h3.trans (hb.trans hb3), tmsAt_of ho, fun j hj a e hu => ?_, h1.kept.cov g hi hn, frT_len _ _ _ _ _⟩
  have hlt := h1.lt _ hu
  obtain ⟨_, ⟨e1, e2⟩ | ⟨g', cap, cur, e1, hg, _⟩⟩ := ho
  · omega
  · rw [e1] at e
    simp only [vR, Option.some.injEq] at e
    subst e
    have := hb.size
    simp only at hlt
    omega
set_option maxRecDepth 100000 in
set_option maxHeartbeats 8000000 in
theorem kcov_any (raw : List Nd) (ga : Option Addr) (gc : Nat) (r wk : Int) (ops : List OpI) (sa : Option Addr) (sc : Nat) (ask wi ni : Int) (w : World) (hn : NodesAt w ga raw) (hgl : raw.length ≤ maxLen) (hwf : ∀ j, j < raw.length → (qV raw j).wf) (hwk : I64 wk) (ho : OpsAt w sa ops) (hol : ops.length ≤ 140737488355328) (how : ∀ j, j < ops.length → (opn ops j).wf) (hask : I64 ask) (hwi : I64 wi) (hni : I64 ni) :
    Calls Try.prog 10 #[.agg #[.slice ga raw.length gc, .int .i64 r], .int .i64 wk, .slice sa ops.length sc, .int .i64 ask, .int .i64 wi, .int .i64 ni] w fun e w' => e = .returned (.bool true) ∧ Bw w w' := by
  go_enter Try.func10, Try.ntmps10
  go_wp2_with fail
  refine (kopen_any raw _ _ _ _ _ (hn.below (by repeat first|exact br _|assumption|apply bd|apply bn|apply ba|refine bt ?_ (by assumption))) hgl hwf hwk).mono ?_
  rintro e1 w1 ⟨bb, ns, R, W, U, rfl, g, h0, hB1, hb1, hU1⟩
  have hUw : ∀ b, U b → w.heap.size ≤ b := fun b hb => Nat.le_trans (Bw.size (by repeat first|exact br _|assumption|apply bd|apply bn|apply ba|refine bt ?_ (by assumption))) (hU1 b hb)
  have hbw : Bw w w1 := Bw.trans (by repeat first|exact br _|assumption|apply bd|apply bn|apply ba|refine bt ?_ (by assumption)) hb1
  have Hg := qJ (⟨g, h0⟩ : _ ∧ _)
  have Hst : Hid (BIn w w1 bb ns R W [] (pst0 (begT ns W)) rst0) := qJ ⟨U, hB1, hUw, hbw⟩
  obtain ⟨pb, na, va, nc, vc, c0, c1, c2, c3, c5, c6, c7, cl, hnd, hgv, _⟩ := hB1.all
  have hW1 := g.hW1
  have hL1 := g.h1
  have hW4 := g.hW
  have hL8 := g.h8
  clear hn hgl hwf hB1 hb1 hU1 hUw hbw g h0 c0 c2 c5 c6 c7 hnd hgv
  have hw1 : IntKind.i64.wrap ((ops.length : Int) + 1) = (ops.length : Int) + 1 := by rw [IntKind.wrap_i64]; omega
  go_wp2_with fail
  refine (xX ask ((ops.length : Int) + 1) _ hask.1 hask.2 (by omega) (by omega)).mono ?_
  rintro e w' ⟨rfl, rfl⟩
  obtain ⟨a, ha, haL⟩ : ∃ a : Nat, jQ ask ((ops.length : Int) + 1) = a ∧ a ≤ ops.length := by
    have := jX ask (n := (ops.length : Int) + 1) (by omega)
    exact ⟨(jQ ask ((ops.length : Int) + 1)).toNat, by omega, by omega⟩
  rw [ha]
  clear ha hw1
  go_wp2_with fail
  refine (xX wi (W : Int) _ hwi.1 hwi.2 (by omega) (by omega)).mono ?_
  rintro e w' ⟨rfl, rfl⟩
  obtain ⟨i0, hi0, hiW⟩ : ∃ a : Nat, jQ wi (W : Int) = a ∧ a < W := by
    have := jX wi (n := (W : Int)) (by omega)
    exact ⟨(jQ wi (W : Int)).toNat, by omega, by omega⟩
  rw [hi0]
  clear hi0
  go_wp2_with fail
  refine (xX ni (ns.length : Int) _ hni.1 hni.2 (by omega) (by omega)).mono ?_
  rintro e w' ⟨rfl, rfl⟩
  obtain ⟨n0, hn0, hnL⟩ : ∃ a : Nat, jQ ni (ns.length : Int) = a ∧ a < ns.length := by
    have := jX ni (n := (ns.length : Int)) (by omega)
    exact ⟨(jQ ni (ns.length : Int)).toNat, by omega, by omega⟩
  rw [hn0]
  clear hn0 c1 c3 cl
  go_wp2_with fail
  go_loopw [16, 17] (fun fv i wr => ∃ (k : Nat) (gs : List Gv) (p : PSt) (st : RSt), k ≤ ops.length + 1 ∧ i = .int .i64 k ∧ ((k ≤ a ∧ fv = .slice none 0 0 ∧ BIn w wr bb ns R W gs p st) ∨ (a < k ∧ ∃ f fa fc, fv = .slice fa f.length fc ∧ CIn w wr bb ns R W gs p st n0 f fa))) (fun _ i _ => ops.length + 1 - (intOf i).toNat)
  case atStart => exact ⟨0, _, _, _, Nat.zero_le _, rfl, .inl ⟨Nat.zero_le _, rfl, qK Hst⟩⟩
  case round =>
    clear Hst
    obtain ⟨k, gs, p, st, hk, rfl, hcase⟩ := hrel
    rename World => wr
    by_cases hle : k ≤ ops.length
    · have hle1 : (k : Int) ≤ (ops.length : Int) := by omega
      have Hop : Hid (∀ w', Bw w w' → k < ops.length → ∃ b off, sa = some ⟨b, off, none⟩ ∧ b < w'.heap.size ∧ w'.cell? ⟨b, off + k * 4, none⟩ = some (.int .i64 (opn ops k).k) ∧ w'.cell? ⟨b, off + k * 4 + 1, none⟩ = some (.int .i64 (opn ops k).a) ∧ w'.cell? ⟨b, off + k * 4 + 2, none⟩ = some (.int .i64 (opn ops k).b) ∧ w'.cell? ⟨b, off + k * 4 + 3, none⟩ = some (.int .i64 (opn ops k).c)) := qJ (fun w' hb' hlt => by
        obtain ⟨b, off, e, hb2, hc2⟩ := (ho.below hb') k hlt
        exact ⟨b, off, e, hb2, hc2 k hlt⟩)
      rcases hcase with ⟨hka, rfl, hIn⟩ | ⟨hka, f, fa, fc, rfl, hC⟩
      · by_cases hkE : k = a
        · subst hkE
          have HIn := qJ hIn
          obtain ⟨U1, hB1, hU1, hb1⟩ := hIn
          obtain ⟨pb, na, va, nc, vc, c0, c1, c2, c3, c5, c6, c7, cl, hnd, hgv, _⟩ := hB1.all
          have Hfr := qJ (hB1.front (qK Hg).1 c0 hiW hnL wr (Bw.refl _))
          have hfl := frT_len ns (jV ns) R (p.tb i0) n0
          have hfl2 : (frsP ns (jV ns) R p i0 n0).length ≤ 6 := hfl
          clear hB1 hU1 hb1 c1 c2 c3 c5 c6 c7 hnd hgv hfl
          go_wp2_with fail
          refine (qK Hfr).mono ?_
          rintro e2 w2 ⟨v, rfl, hov, hB2⟩
          have hval := qU hov
          have hcells := vQ hov
          rw [hval]
          have HB2 := qJ hB2
          have Hask := qJ (fun (w3 : World) (v' : Value) (hb3 : Bw w2 w3) ho3 => CIn.ask (v := v') (qK Hg).1 hiW hnL (qK HIn) hB2 hb3 ho3)
          have Hcells := qJ hcells
          obtain ⟨f, hf⟩ : ∃ f, frsP ns (jV ns) R p i0 n0 = f := ⟨_, rfl⟩
          rw [hf] at Hask Hcells hfl2 ⊢
          clear hov hval hcells c0 cl Hfr hB2 hf
          go_wp2_with (at_builtin; refine appG w2 rfl _ _ _ 75 rfl _ 2 16 Try.infoTime Try.underlying78 rfl (by decide) w2.heap.size (.slice none 0 0) 0 [] rfl (World.ownsRow_nil _ _ _ _) _ f.length _ (jM f) rfl (kms_len _) (qK Hcells) (kms_one _) (by omega) (by omega) (Nat.le_refl _) ?_; intro v3 w3 hown3 hgr3 hl3; rw [Nat.zero_add, List.nil_append] at hown3; have hB3 := bw_grown hgr3; have HC3 := qJ ((qK Hask) w3 v3 hB3 hown3); obtain ⟨fa, fc, rfl⟩ : ∃ fa fc, v3 = .slice fa f.length fc := ⟨_, _, qU hown3⟩; simp only [vR] at HC3; clear hown3 hgr3 hl3)
          refine ((qK HC3).covers (qK Hg).1 hnL fc).mono ?_
          rintro e4 w4 ⟨rfl, hB4, hC4⟩
          have HC4 := qJ hC4
          clear hC4 HC3 Hask Hcells HIn
          by_cases hlt : k < ops.length
          · have hlt1 : (k : Int) < (ops.length : Int) := by omega
            obtain ⟨b, off, rfl, hb, z0, z1, z2, z3⟩ := (qK Hop) w4 (by obtain ⟨_, _, _, h, _⟩ := qK HC4; exact h) hlt
            have Hst := qJ ((qK HC4).steps (qK Hg).1 (qK Hg).2 hnL (opn ops k) (how k hlt))
            clear Hop
            generalize opn ops k = o at *
            go_wp2_with fail
            refine (qK Hst).mono ?_
            rintro e5 w5 ⟨rfl, gs5, p5, st5, hC5⟩
            have HC5 := qJ hC5
            clear hC5 Hst z0 z1 z2 z3 hb
            go_wp2_with fail
            go_roundw
            case rel => exact ⟨k + 1, _, _, _, by omega, by go_num, .inr ⟨by omega, f, fa, fc, rfl, qK HC5⟩⟩
            case measure => simp [intOf]; omega
          · have hlt1 : ¬ (k : Int) < (ops.length : Int) := by omega
            clear Hop
            go_wp2_with fail
            go_roundw
            case rel => exact ⟨k + 1, _, _, _, by omega, by go_num, .inr ⟨by omega, f, fa, fc, rfl, qK HC4⟩⟩
            case measure => simp [intOf]; omega
        · have hlt : k < ops.length := by omega
          have hlt1 : (k : Int) < (ops.length : Int) := by omega
          have hne : ((k : Int) == (a : Int)) = false := by simp; omega
          have hge : ¬ (a : Int) ≤ (k : Int) := by omega
          obtain ⟨b, off, rfl, hb, z0, z1, z2, z3⟩ := (qK Hop) wr (by obtain ⟨_, _, _, h⟩ := hIn; exact h) hlt
          have Hst := qJ (hIn.steps (qK Hg).1 (qK Hg).2 (opn ops k) (how k hlt))
          clear Hop hIn
          generalize opn ops k = o at *
          go_wp2_with fail
          refine (qK Hst).mono ?_
          rintro e5 w5 ⟨rfl, gs5, p5, st5, hC5⟩
          have HC5 := qJ hC5
          clear hC5 Hst z0 z1 z2 z3 hb
          go_wp2_with fail
          go_roundw
          case rel => exact ⟨k + 1, _, _, _, by omega, by go_num, .inl ⟨by omega, rfl, qK HC5⟩⟩
          case measure => simp [intOf]; omega
      · have hne : ((k : Int) == (a : Int)) = false := by simp; omega
        have hge : (a : Int) ≤ (k : Int) := by omega
        have hfl2 : f.length ≤ 6 := by obtain ⟨_, _, _, _, _, _, _, h⟩ := hC; exact h
        have HC := qJ (hC.covers (qK Hg).1 hnL fc)
        clear hC
        go_wp2_with fail
        refine (qK HC).mono ?_
        rintro e4 w4 ⟨rfl, hB4, hC4⟩
        have HC4 := qJ hC4
        clear hC4 HC
        by_cases hlt : k < ops.length
        · have hlt1 : (k : Int) < (ops.length : Int) := by omega
          obtain ⟨b, off, rfl, hb, z0, z1, z2, z3⟩ := (qK Hop) w4 (by obtain ⟨_, _, _, h, _⟩ := qK HC4; exact h) hlt
          have Hst := qJ ((qK HC4).steps (qK Hg).1 (qK Hg).2 hnL (opn ops k) (how k hlt))
          clear Hop
          generalize opn ops k = o at *
          go_wp2_with fail
          refine (qK Hst).mono ?_
          rintro e5 w5 ⟨rfl, gs5, p5, st5, hC5⟩
          have HC5 := qJ hC5
          clear hC5 Hst z0 z1 z2 z3 hb
          go_wp2_with fail
          go_roundw
          case rel => exact ⟨k + 1, _, _, _, by omega, by go_num, .inr ⟨by omega, f, fa, fc, rfl, qK HC5⟩⟩
          case measure => simp [intOf]; omega
        · have hlt1 : ¬ (k : Int) < (ops.length : Int) := by omega
          clear Hop
          go_wp2_with fail
          go_roundw
          case rel => exact ⟨k + 1, _, _, _, by omega, by go_num, .inr ⟨by omega, f, fa, fc, rfl, qK HC4⟩⟩
          case measure => simp [intOf]; omega
    · have hle1 : ¬ (k : Int) ≤ (ops.length : Int) := by omega
      obtain ⟨hka, f, fa, fc, rfl, hC⟩ : a < k ∧ ∃ f fa fc, _ = Value.slice fa f.length fc ∧ CIn w wr bb ns R W gs p st n0 f fa := by
        rcases hcase with ⟨h, _⟩ | h
        · omega
        · exact h
      obtain ⟨U0, hB0, hU0, hb0, hf0, hd0, hcv0, hf6⟩ := hC
      have Hsh := qJ (kshut_any (qK Hg).1 wr hB0)
      have HC0 := qJ (fun (w' : World) gs' p' st' hM hA => @CIn.next w wr w' U0 bb n0 ns R W gs' p p' st' f fa hnL hU0 hb0 hf0 hd0 hcv0 hf6 hM hA)
      clear hB0 hU0 hb0 hf0 hd0 hcv0
      go_wp2_with fail
      refine (qK Hsh).mono ?_
      rintro e1 w1 ⟨rfl, p1, st1, hA1, hM1, hev1, hcl1⟩
      have HC1 := qJ ((qK HC0) _ _ _ _ hM1 hA1)
      obtain ⟨U1, hB1, _⟩ := hA1
      obtain ⟨pb, na, va, nc, vc, c0, c1, c2, c3, c5, c6, c7, cl, hnd, hgv, _⟩ := hB1.all
      have Hfl := qJ (fun (w' : World) (hb : Bw w1 w') => hB1.flow (qK Hg).1 (qK Hg).2 hnd hgv nc vc w' hb)
      have Hln := qJ (hB1.leng (qK Hg).1 c1 c2 c3 c6 cl hnd)
      have Hcl1 := qJ hcl1
      clear Hsh HC0 c0 c3 c6 c7 hnd hgv hB1 hM1 hev1 hcl1
      go_wp2_with fail
      refine wp_region_held_drew (S := (fun w' => w'.cell? ⟨bb, 1, none⟩ = some (.slice na ns.length nc) ∧ w'.cell? ⟨bb, 2, none⟩ = some (.int .i64 (R : Int)) ∧ w'.cell? ⟨bb, 5, none⟩ = some (.slice va gs.length vc))) (by kernel_rfl) (by (try dsimp only); go_keep) (fun hHeld => ?_)
      refine wpAnyH_take (i := 0) (v := ?vv0) rfl (by kernel_rfl) (by kernel_rfl) (by kernel_rfl) (fun _ _ _ h => h) (Or.inl ⟨by rfl, ?hv0⟩) (by assumption) ?rv0; (case hv0 => intro w S; (try dsimp only at S); go_simp; try with_reducible rfl); try simp only [Act.put, qP, qN, qM]
      refine wpAnyH_take (i := 1) (v := ?vv1) rfl (by kernel_rfl) (by kernel_rfl) (by kernel_rfl) (fun _ _ _ h => h) (Or.inl ⟨by rfl, ?hv1⟩) (by assumption) ?rv1; (case hv1 => intro w S; (try dsimp only at S); go_simp; try with_reducible rfl); try simp only [Act.put, qP, qN, qM]
      refine wpAnyH_take (i := 2) (v := ?vv2) rfl (by kernel_rfl) (by kernel_rfl) (by kernel_rfl) (fun _ _ _ h => h) (Or.inl ⟨by rfl, ?hv2⟩) (by assumption) ?rv2; (case hv2 => intro w S; (try dsimp only at S); go_simp; try with_reducible rfl); try simp only [Act.put, qP, qN, qM]
      refine wpAnyH_take (i := 3) (v := ?vv3) rfl (by kernel_rfl) (by kernel_rfl) (by kernel_rfl) (fun _ _ _ h => h) (Or.inl ⟨by rfl, ?hv3⟩) (by assumption) ?rv3; (case hv3 => intro w S; (try dsimp only at S); go_simp; try with_reducible rfl); try simp only [Act.put, qP, qN, qM]
      refine wpAnyH_take (i := 4) (v := ?vv4) rfl (by kernel_rfl) (by kernel_rfl) (by kernel_rfl) (fun _ _ _ h => h) (Or.inl ⟨by rfl, ?hv4⟩) (by assumption) ?rv4; (case hv4 => intro w S; (try dsimp only at S); go_simp; try with_reducible rfl); try simp only [Act.put, qP, qN, qM]
      refine wpAnyH_take (i := 5) (v := ?vv5) rfl (by kernel_rfl) (by kernel_rfl) (by kernel_rfl) (fun _ _ _ h => h) (Or.inl ⟨by rfl, ?hv5⟩) (by assumption) ?rv5; (case hv5 => intro w S; (try dsimp only at S); go_simp; try with_reducible rfl); try simp only [Act.put, qP, qN, qM]
      refine wpAnyH_take (i := 6) (v := ?vv6) rfl (by kernel_rfl) (by kernel_rfl) (by kernel_rfl) (fun _ _ _ h => h) (Or.inl ⟨by rfl, ?hv6⟩) (by assumption) ?rv6; (case hv6 => intro w S; (try dsimp only at S); go_simp; try with_reducible rfl); try simp only [Act.put, qP, qN, qM]
      refine wpAnyH_take (i := 7) (v := ?vv7) rfl (by kernel_rfl) (by kernel_rfl) (by kernel_rfl) (fun _ _ _ h => h) (Or.inl ⟨by rfl, ?hv7⟩) (by assumption) ?rv7; (case hv7 => intro w S; (try dsimp only at S); go_simp; try with_reducible rfl); try simp only [Act.put, qP, qN, qM]
      refine wpAnyH_take (i := 8) (v := ?vv8) rfl (by kernel_rfl) (by kernel_rfl) (by kernel_rfl) (fun _ _ _ h => h) (Or.inl ⟨by rfl, ?hv8⟩) (by assumption) ?rv8; (case hv8 => intro w S; (try dsimp only at S); go_simp; try with_reducible rfl); try simp only [Act.put, qP, qN, qM]
      refine wpAnyH_ready (rs := [9]) (by kernel_rfl) (by simp) ?_
      refine AllReadyH.cons rfl (fun K hK => ?_) AllReadyH.nil
      go_simp
      go_at_call 27
      refine ((qK Hfl) _ (by repeat first|exact br _|assumption|apply bd|apply bn|apply ba|refine bt ?_ (by assumption))).mono ?_
      rintro e8 w8 ⟨I, O, FI, rfl, hT8, hF8, hB8⟩
      have hb8 := Bw.trans (show Bw w1 _ from (by repeat first|exact br _|assumption|apply bd|apply bn|apply ba|refine bt ?_ (by assumption))) hB8
      have t1 := ((qX hb8).1 _ 1 cl).trans c1
      have t2 := ((qX hb8).1 _ 2 cl).trans c2
      have t5 := ((qX hb8).1 _ 5 cl).trans c5
      (try go_wp2_with fail)
      refine hK.out _ _ (by (try dsimp only); go_keep) (fun hHeld => ?_)
      clear hK K
      try simp only [Act.put, qP, qN, qM]
      refine wpAnyH_ready (rs := [10]) (by kernel_rfl) (by simp) ?_
      refine AllReadyH.cons rfl (fun K hK => ?_) AllReadyH.nil
      go_simp
      go_at_call 35
      refine ((qK Hln) _ (Bw.trans hb8 (by repeat first|exact br _|assumption|apply bd|apply bn|apply ba|refine bt ?_ (by assumption))) I O FI _ (hT8.bw (by repeat first|exact br _|assumption|apply bd|apply bn|apply ba|refine bt ?_ (by assumption))) hF8).mono ?_
      rintro e9 w9 ⟨rfl, hB9⟩
      have hb9 := hb8.trans (Bw.trans (show Bw w8 _ from (by repeat first|exact br _|assumption|apply bd|apply bn|apply ba|refine bt ?_ (by assumption))) hB9)
      have t1 := ((qX hb9).1 _ 1 cl).trans c1
      have t2 := ((qX hb9).1 _ 2 cl).trans c2
      have t5 := ((qX hb9).1 _ 5 cl).trans c5
      (try go_wp2_with fail)
      refine hK.out _ _ (by (try dsimp only); go_keep) (fun hHeld => ?_)
      clear hK K
      try simp only [Act.put, qP, qN, qM]
      refine wpAnyH_take (i := 11) (v := ?vv11) rfl (by kernel_rfl) (by kernel_rfl) (by kernel_rfl) (fun _ _ _ h => h) (Or.inl ⟨by rfl, ?hv11⟩) (by assumption) ?rv11; (case hv11 => intro w S; (try dsimp only at S); go_simp; try with_reducible rfl); try simp only [Act.put, qP, qN, qM]
      refine wpAnyH_done (by kernel_rfl) ?_ _
      clear Hfl Hln t1 t2 t5 hT8 hF8 c1 c2 c5 cl
      obtain ⟨N, hN⟩ : ∃ N, lenN ns R W gs st1.opened.length = N := ⟨_, rfl⟩
      have HN := qJ hN
      rw [hN]
      clear hN
      go_wp2_with fail
      go_loopw [21] (fun i wr => ∃ (k : Nat) (p' : PSt) (st' : RSt), i = .int .i64 k ∧ CIn w wr bb ns R W gs p' st' n0 f fa ∧ AllCl ns W p' ∧ st'.opened = st1.opened ∧ st'.evs.length = st1.evs.length + k) (fun i _ => N - (st1.evs.length + (intOf i).toNat))
      case atStart => exact ⟨0, p1, st1, rfl, (qK HC1).more hb9, qK Hcl1, rfl, rfl⟩
      case round =>
        clear HC1 Hcl1 hb8 hB8 hB9 hb9
        obtain ⟨k, p2, st2, rfl, hC2, hcl2, hop2, hev2⟩ := hrel
        rename World => wx
        have HC2 := qJ hC2
        obtain ⟨U2, hB2, hU2, hb2, hf2, hd2, hcv2, _⟩ := hC2
        obtain ⟨pb, na, va, nc, vc, c0, c1, c2, c3, c5, c6, c7, cl, hnd, hgv, _⟩ := hB2.all
        have hlen := hB2.kept.len (qK Hg).1 hcl2
        rw [hop2, qK HN] at hlen
        obtain ⟨hle, hiff⟩ := hlen
        have hsm := (hB2.kept.small (qK Hg).1).2.1
        have hal := hB2.acts_len (qK Hg).1
        have Hac := qJ (hB2.acts (qK Hg).1 c0)
        have Hfx := qJ (fun (w' : World) gs' p' st' hM hA => @CIn.next w wx w' U2 bb n0 ns R W gs' p2 p' st' f fa hnL hU2 hb2 hf2 hd2 hcv2 hf6 hM hA)
        have H2 := qJ (⟨hcl2, hop2, hev2, hB2, hb2⟩ : _ ∧ _ ∧ _ ∧ _ ∧ _)
        have hkb : k ≤ 30000000 := by omega
        by_cases hlt : st2.evs.length < N
        · have hne : jF ns R W p2 ≠ [] := fun e => by have := hiff.1 e; omega
          have hpos : 0 < (jF ns R W p2).length := Nat.pos_of_ne_zero fun e => hne (List.eq_nil_of_length_eq_zero e)
          have hf1 : oneIf ns R W p2 = 1 := by unfold oneIf; rw [if_neg hne]
          have Hf := qJ hf1
          have hlt1 : (st2.evs.length : Int) < (N : Int) := by omega
          obtain ⟨na2, hna2⟩ : ∃ na2, (jF ns R W p2).length = na2 := ⟨_, rfl⟩
          rw [hna2] at hpos hal Hac
          have hn1 : ¬ (na2 : Int) < 1 := by omega
          have hwr := wrap_range (ask + (k : Int))
          have Hev := qJ hev2
          clear hne hf1 hna2 hiff hcl2 hop2 hev2 hU2 hb2 hf2 hd2 hcv2 hnd hgv c1 c2 c3 c5 c6 hle hB2
          go_wp2_with fail
          refine ((qK Hac) _ (Bw.refl _)).mono ?_
          rintro e3 w3 ⟨rfl, hB3⟩
          have hB23 := (qK H2).2.2.2.1.bw hB3
          have HB23 := qJ hB23
          clear Hac c0 c7 cl hB23
          obtain ⟨cv, hcv⟩ : ∃ cv, IntKind.i64.wrap (ask + (k : Int)) = cv := ⟨_, rfl⟩
          rw [hcv] at hwr
          go_wp2_with fail
          clear hcv
          refine (kact_any (qK Hg).1 cv _ (qK HB23) hwr.1 hwr.2).mono ?_
          rintro e4 w4 ⟨rfl, p4, st4, hA4, hM4, hop4, hcl4, hev4⟩
          have HC4 := qJ ((qK Hfx) _ _ _ _ hM4 (BAt.After.from hB3 hA4))
          clear hA4 HB23 Hfx hwr
          go_wp2_with fail
          refine ((qK HC4).covers (qK Hg).1 hnL fc).mono ?_
          rintro e5 w5 ⟨rfl, hB5, hC5⟩
          have HC5 := qJ hC5
          clear hC5 HC4
          go_wp2_with fail
          go_roundw
          case rel =>
            obtain ⟨hcl2, hop2, hev2, _, _⟩ := qK H2
            refine ⟨k + 1, p4, st4, by go_num, qK HC5, fun i n hi hn h => by rw [hcl4]; exact hcl2 i n hi hn h, hop4.trans hop2, ?_⟩
            have := qK Hf
            omega
          case measure =>
            have := qK Hev
            simp [intOf]; omega
        · have hlt1 : ¬ (st2.evs.length : Int) < (N : Int) := by omega
          clear hiff hcl2 hop2 hev2 hU2 hb2 hf2 hd2 hcv2 hnd hgv c1 c2 c3 c5 c6 hle hB2
          go_wp2_with fail
          go_ret
          exact ⟨rfl, (qK H2).2.2.2.2⟩
end Go.Proofs.Ytfemleimkbjehaa
namespace Go.Proofs.Ytfemleimkbjehaa
open Go.ChangeShapes Go.WideShapes Go.ChangeAt Go.RowKit Go.Joins Go.Deep
theorem Try.own : ownKnob Try.prog.godebug = none := by kernel_rfl
theorem Try.laidOut : laidOutB Try.prog = true := by kernel_rfl
theorem Try.cellsInt : Try.prog.cellsOf 3 = 1 := by kernel_rfl
theorem Try.cellsNode : Try.prog.cellsOf 32 = 5 := by kernel_rfl
theorem Try.cellsGraph : Try.prog.cellsOf 24 = 2 := by kernel_rfl
theorem Try.bytesNode : Try.prog.bytesOf 32 = 40 := by kernel_rfl
section
variable {H : Type} {enc : TypeId × Value → H} {w : World} {base : Nat} {spare : Nat → Bool} {held : Bool}
theorem xN {α β : Type} {f : α → Option β} {l : List α} {r : List β} (h : l.mapM f = some r) {i : Nat} {x : α} (hx : l[i]? = some x) : ∃ y, f x = some y := by
  have hlt : i < l.length := (List.getElem?_eq_some_iff.1 hx).1
  have hr := mapM_some_length h
  exact ⟨r[i]'(by omega), by rw [mapM_some_get h i x hx]; exact List.getElem?_eq_getElem _⟩
theorem list5 {α : Type} {l : List α} (h : l.length = 5) : ∃ a b c d e, l = [a, b, c, d, e] := by
  match l, h with
  | [a, b, c, d, e], _ => exact ⟨a, b, c, d, e, rfl⟩
end
theorem lit64 {n : Int} (h : (Lit.int .i64 n).wf = true) : I64 n := by
  have h' : (decide ((-9223372036854775808 : Int) ≤ n) && decide (n ≤ 9223372036854775807)) = true := h
  simpa [I64] using h'
section
variable {H : Type} {enc : TypeId × Value → H} {w : World} {base : Nat} {spare : Nat → Bool} {held : Bool}
set_option maxRecDepth 100000 in
theorem open_node_wf {n : Nat} {cs : List Value} {y : DataW H × List MemPlace} (h : DataW.trod enc Try.prog w base spare held n 32 cs = some y) : ∃ x : Nd, cs = x.cells ∧ x.wf := by
  cases n with
  | zero => simp [DataW.trod] at h
  | succ n =>
    unfold DataW.trod at h
    rw [Try.underlying32] at h
    simp only at h
    rw [Try.cellsNode] at h
    split at h
    · rename_i hl
      obtain ⟨xs, hx, _⟩ := Option.map_eq_some_iff.1 h
      obtain ⟨c0, c1, c2, c3, c4, rfl⟩ := list5 hl
      obtain ⟨y0, e0⟩ := xN hx (i := 0) rfl
      obtain ⟨y1, e1⟩ := xN hx (i := 1) rfl
      obtain ⟨y2, e2⟩ := xN hx (i := 2) rfl
      obtain ⟨y3, e3⟩ := xN hx (i := 3) rfl
      obtain ⟨y4, e4⟩ := xN hx (i := 4) rfl
      obtain ⟨a0, f0, _, g0⟩ := DataW.trod_int Try.underlying3 e0
      obtain ⟨a1, f1, _, g1⟩ := DataW.trod_int Try.underlying3 e1
      obtain ⟨a2, f2, _, g2⟩ := DataW.trod_int Try.underlying3 e2
      obtain ⟨a3, f3, _, g3⟩ := DataW.trod_int Try.underlying3 e3
      obtain ⟨a4, f4, _, g4⟩ := DataW.trod_int Try.underlying3 e4
      rw [Try.cellsInt] at f0 f1 f2 f3 f4
      simp at f0 f1 f2 f3 f4
      subst f0 f1 f2 f3 f4
      exact ⟨⟨a0, a1, a2, a3, a4⟩, rfl, lit64 g0, lit64 g1, lit64 g2, lit64 g3, lit64 g4⟩
    · cases h
set_option maxRecDepth 100000 in
/-- A graph that came in, opened. -/
theorem open_graph_wf {r : Reach} {b0 : Nat} {v : Value} {d : DataW H} {p : List MemPlace} (hv : Value.okWide Try.prog w r b0 24 v) (h : DataW.Trod enc Try.prog w base spare held 24 v d p) :
    ∃ (ga : Option Addr) (ns : List Nd) (gc : Nat) (rr : Int), v = .agg #[.slice ga ns.length gc, .int .i64 rr] ∧ NodesAt w ga ns ∧ (∀ j, j < ns.length → (qV ns j).wf) ∧
      ∀ (ts : List TypeId) (ds : List (DataW H)) (j : Nat), (DataW.weightsEach Try.prog ts ds).all (· ≤ reachBytes) = true → ts[j]? = some 24 → ds[j]? = some d → ns.length * 40 ≤ 140737488351232 := by
  obtain ⟨c0, c1, y0, y1, m, rfl, rfl, rfl, hy0, hy1⟩ := open_agg2 Try.underlying24 (by kernel_rfl) Try.cellsGraph hv h
  obtain ⟨rr, e1, _, _⟩ := DataW.trod_int Try.underlying3 hy1
  simp at e1
  subst e1
  rcases open_slice Try.underlying22 hy0 with ⟨hcs, hx⟩ | ⟨a, len, cap, m, n, D, Pl, hcs, hb, hl, hm, hmm, hx, hel⟩
  · simp at hcs
    subst hcs
    exact ⟨none, [], 0, rr, rfl, fun i hi => absurd hi (Nat.not_lt_zero i), fun i hi => absurd hi (Nat.not_lt_zero i), fun _ _ _ _ _ _ => by simp⟩
  · simp at hcs
    subst hcs
    have hlm : len ≤ m := by rw [hmm]; split <;> omega
    rw [Try.cellsNode] at hel
    haveI : Inhabited Nd := ⟨⟨0, 0, 0, 0, 0⟩⟩
    obtain ⟨X, hX⟩ := choose_lt (α := Nd) (n := len) (p := fun i x => w.cells? base (a.add (i * 5)) 5 = some x.cells ∧ x.wf) (fun i hi => by
      obtain ⟨cs', h1, h2⟩ := hel i (by omega)
      obtain ⟨x, rfl, hx⟩ := open_node_wf h2
      exact ⟨x, h1, hx⟩)
    have hlen : ((List.range len).map X).length = len := by simp
    refine ⟨some a, (List.range len).map X, cap, rr, by rw [hlen], ?_, ?_, ?_⟩
    · intro i hi
      rw [hlen] at hi
      have hcell : ∀ j, j < len → ∀ f, f < 5 → w.cell? ((a.add (j * 5)).add f) = (X j).cells[f]? := fun j hj f hf => (World.cells?_some (hX j hj).1).2.2 f hf
      obtain ⟨b, off, spot⟩ := a
      have hspot : spot = none := by
        have := hcell 0 (by omega) 0 (by omega)
        simp only [Nat.zero_mul] at this
        exact World.cell?_spot (a := ⟨b, off, spot⟩) (v := .int .i64 (X 0).kind) (by simpa [Addr.add, Nd.cells] using this)
      subst hspot
      have hnd : ∀ j, j < len → qV ((List.range len).map X) j = X j := by
        intro j hj
        rw [ndn_lt (by simpa using hj)]
        simp
      have hc2 : ∀ j, j < len → ∀ f, f < 5 → w.cell? ⟨b, off + j * 5 + f, none⟩ = (X j).cells[f]? := by
        intro j hj f hf
        have := hcell j hj f hf
        rw [Go.WideShapes.add_plain, Go.WideShapes.add_plain] at this
        exact this
      refine ⟨b, off, rfl, ?_, ?_⟩
      · have := hc2 i hi 0 (by omega)
        exact World.block_lt_of_cell? w ⟨b, off + i * 5 + 0, none⟩ (this.trans rfl)
      · intro j hj
        rw [hlen] at hj
        rw [hnd j hj]
        exact ⟨hc2 j hj 0 (by omega), hc2 j hj 1 (by omega), hc2 j hj 2 (by omega), hc2 j hj 3 (by omega), hc2 j hj 4 (by omega)⟩
    · intro j hj
      rw [hlen] at hj
      rw [ndn_lt (by simpa using hj)]
      simpa using (hX j hj).2
    · intro ts ds j hw ht hd
      rw [hlen]
      have hmem := DataW.weights_mem_each (P := Try.prog) ht hd
      have : (len + (m - len)) * Try.prog.bytesOf 32 ∈ DataW.weightsEach Try.prog ts ds := by
        refine hmem _ ?_
        rw [hx]
        simp [DataW.weights, Try.underlying24, DataW.weightsEach, Try.underlying22]
      have hle := of_decide_eq_true (List.all_eq_true.1 hw _ this)
      rw [Try.bytesNode] at hle
      unfold reachBytes at hle
      omega
end
def OpI.cells (x : OpI) : List Value := [.int .i64 x.k, .int .i64 x.a, .int .i64 x.b, .int .i64 x.c]
theorem opk_lt {l : List OpI} {k : Nat} (h : k < l.length) : opn l k = l[k] := getD_lt _ _ h
theorem Try.cellsOpK : Try.prog.cellsOf 67 = 4 := by kernel_rfl
theorem Try.bytesOpK : Try.prog.bytesOf 67 = 32 := by kernel_rfl
theorem list4 {α : Type} {l : List α} (h : l.length = 4) : ∃ a b c d, l = [a, b, c, d] := by
  match l, h with
  | [a, b, c, d], _ => exact ⟨a, b, c, d, rfl⟩
section
variable {H : Type} {enc : TypeId × Value → H} {P : Program} {w : World} {base : Nat} {spare : Nat → Bool} {held : Bool}
theorem trodAll_six {t0 t1 t2 t3 t4 t5 : TypeId} {args : Array Value} {ds : List (DataW H)} {ps : List MemPlace} (h : DataW.TrodAll enc P w base spare held [t0, t1, t2, t3, t4, t5] args.toList ds ps) :
    ∃ v0 v1 v2 v3 v4 v5 d0 d1 d2 d3 d4 d5 p0 p1 p2 p3 p4 p5, args = #[v0, v1, v2, v3, v4, v5] ∧ ds = [d0, d1, d2, d3, d4, d5] ∧ ps = p0 ++ (p1 ++ (p2 ++ (p3 ++ (p4 ++ p5)))) ∧ DataW.Trod enc P w base spare held t0 v0 d0 p0 ∧ DataW.Trod enc P w base spare held t1 v1 d1 p1 ∧ DataW.Trod enc P w base spare held t2 v2 d2 p2 ∧ DataW.Trod enc P w base spare held t3 v3 d3 p3 ∧ DataW.Trod enc P w base spare held t4 v4 d4 p4 ∧ DataW.Trod enc P w base spare held t5 v5 d5 p5 := by
  obtain ⟨v0, vs, d0, ds0, p0, q0, hargs, rfl, rfl, h0, hr0⟩ := trodAll_cons h
  obtain ⟨v1, vs1, d1, ds1, p1, q1, rfl, rfl, rfl, h1, hr1⟩ := trodAll_cons hr0
  obtain ⟨v2, vs2, d2, ds2, p2, q2, rfl, rfl, rfl, h2, hr2⟩ := trodAll_cons hr1
  obtain ⟨v3, vs3, d3, ds3, p3, q3, rfl, rfl, rfl, h3, hr3⟩ := trodAll_cons hr2
  obtain ⟨v4, vs4, d4, ds4, p4, q4, rfl, rfl, rfl, h4, hr4⟩ := trodAll_cons hr3
  obtain ⟨v5, vs5, d5, ds5, p5, q5, rfl, rfl, rfl, h5, hr5⟩ := trodAll_cons hr4
  obtain ⟨rfl, rfl, rfl⟩ := trodAll_nil hr5
  exact ⟨v0, v1, v2, v3, v4, v5, d0, d1, d2, d3, d4, d5, p0, p1, p2, p3, p4, p5, by cases args; simp_all, rfl, by simp, h0, h1, h2, h3, h4, h5⟩
theorem trodAll_mk6 {t0 t1 t2 t3 t4 t5 : TypeId} {v0 v1 v2 v3 v4 v5 : Value} {d0 d1 d2 d3 d4 d5 : DataW H} {p0 p1 p2 p3 p4 p5 : List MemPlace} (h0 : DataW.Trod enc P w base spare held t0 v0 d0 p0) (h1 : DataW.Trod enc P w base spare held t1 v1 d1 p1) (h2 : DataW.Trod enc P w base spare held t2 v2 d2 p2) (h3 : DataW.Trod enc P w base spare held t3 v3 d3 p3) (h4 : DataW.Trod enc P w base spare held t4 v4 d4 p4) (h5 : DataW.Trod enc P w base spare held t5 v5 d5 p5) : DataW.TrodAll enc P w base spare held [t0, t1, t2, t3, t4, t5] [v0, v1, v2, v3, v4, v5] [d0, d1, d2, d3, d4, d5] (p0 ++ (p1 ++ (p2 ++ (p3 ++ (p4 ++ p5))))) := ⟨p0, _, h0, ⟨p1, _, h1, trodAll_mk4 h2 h3 h4 h5, rfl⟩, rfl⟩
end
section
variable {H : Type} {enc : TypeId × Value → H} {w : World} {base : Nat} {spare : Nat → Bool} {held : Bool}
set_option maxRecDepth 100000 in
theorem open_opk {n : Nat} {cs : List Value} {y : DataW H × List MemPlace} (h : DataW.trod enc Try.prog w base spare held n 67 cs = some y) : ∃ x : OpI, cs = x.cells ∧ x.wf := by
  cases n with
  | zero => simp [DataW.trod] at h
  | succ n =>
    unfold DataW.trod at h
    rw [Try.underlying67] at h
    simp only at h
    rw [Try.cellsOpK] at h
    split at h
    · rename_i hl
      obtain ⟨xs, hx, _⟩ := Option.map_eq_some_iff.1 h
      obtain ⟨c0, c1, c2, c3, rfl⟩ := list4 hl
      obtain ⟨y0, e0⟩ := xN hx (i := 0) rfl
      obtain ⟨y1, e1⟩ := xN hx (i := 1) rfl
      obtain ⟨y2, e2⟩ := xN hx (i := 2) rfl
      obtain ⟨y3, e3⟩ := xN hx (i := 3) rfl
      obtain ⟨a0, f0, _, g0⟩ := DataW.trod_int Try.underlying3 e0
      obtain ⟨a1, f1, _, g1⟩ := DataW.trod_int Try.underlying3 e1
      obtain ⟨a2, f2, _, g2⟩ := DataW.trod_int Try.underlying3 e2
      obtain ⟨a3, f3, _, g3⟩ := DataW.trod_int Try.underlying3 e3
      rw [Try.cellsInt] at f0 f1 f2 f3
      simp at f0 f1 f2 f3
      subst f0 f1 f2 f3
      exact ⟨⟨a0, a1, a2, a3⟩, rfl, lit64 g0, lit64 g1, lit64 g2, lit64 g3⟩
    · cases h
set_option maxRecDepth 100000 in
/-- A script that came in, opened. -/
theorem open_opsk {r : Reach} {b0 : Nat} {v : Value} {d : DataW H} {p : List MemPlace} (hv : Value.okWide Try.prog w r b0 45 v) (h : DataW.Trod enc Try.prog w base spare held 45 v d p) :
    ∃ (va : Option Addr) (ops : List OpI) (vc : Nat), v = .slice va ops.length vc ∧ OpsAt w va ops ∧ (∀ j, j < ops.length → (opn ops j).wf) ∧
      ∀ (ts : List TypeId) (ds : List (DataW H)) (j : Nat), (DataW.weightsEach Try.prog ts ds).all (· ≤ reachBytes) = true → ts[j]? = some 45 → ds[j]? = some d → ops.length * 32 ≤ 140737488351232 := by
  obtain ⟨a0, l0, k0, rfl⟩ := okWide_slice Try.underlying45 hv
  obtain ⟨fuel, hf⟩ := h
  rcases open_slice Try.underlying45 hf with ⟨hcs, hx⟩ | ⟨a, len, cap, m, n, D, Pl, hcs, hb, hl, hm, hmm, hx, hel⟩
  · simp [Value.cells] at hcs
    obtain ⟨rfl, rfl, rfl⟩ := hcs
    exact ⟨none, [], 0, rfl, fun i hi => absurd hi (Nat.not_lt_zero i), fun i hi => absurd hi (Nat.not_lt_zero i), fun _ _ _ _ _ _ => by simp⟩
  · simp [Value.cells] at hcs
    obtain ⟨rfl, rfl, rfl⟩ := hcs
    have hlm : l0 ≤ m := by rw [hmm]; split <;> omega
    rw [Try.cellsOpK] at hel
    haveI : Inhabited OpI := ⟨⟨0, 0, 0, 0⟩⟩
    obtain ⟨X, hX⟩ := choose_lt (α := OpI) (n := l0) (p := fun i x => w.cells? base (a.add (i * 4)) 4 = some x.cells ∧ x.wf) (fun i hi => by
      obtain ⟨cs', h1, h2⟩ := hel i (by omega)
      obtain ⟨x, rfl, hx⟩ := open_opk h2
      exact ⟨x, h1, hx⟩)
    have hlen : ((List.range l0).map X).length = l0 := by simp
    have hnd : ∀ j, j < l0 → opn ((List.range l0).map X) j = X j := by
      intro j hj
      rw [opk_lt (by simpa using hj)]
      simp
    refine ⟨some a, (List.range l0).map X, k0, by rw [hlen], ?_, ?_, ?_⟩
    · intro i hi
      rw [hlen] at hi
      have hcell : ∀ j, j < l0 → ∀ f, f < 4 → w.cell? ((a.add (j * 4)).add f) = (X j).cells[f]? := fun j hj f hf => (World.cells?_some (hX j hj).1).2.2 f hf
      obtain ⟨b, off, spot⟩ := a
      have hspot : spot = none := by
        have := hcell 0 (by omega) 0 (by omega)
        simp only [Nat.zero_mul] at this
        exact World.cell?_spot (a := ⟨b, off, spot⟩) (v := .int .i64 (X 0).k) (by simpa [Addr.add, OpI.cells] using this)
      subst hspot
      have hc2 : ∀ j, j < l0 → ∀ f, f < 4 → w.cell? ⟨b, off + j * 4 + f, none⟩ = (X j).cells[f]? := by
        intro j hj f hf
        have := hcell j hj f hf
        rw [Go.WideShapes.add_plain, Go.WideShapes.add_plain] at this
        exact this
      refine ⟨b, off, rfl, ?_, ?_⟩
      · have := hc2 i hi 0 (by omega)
        exact World.block_lt_of_cell? w ⟨b, off + i * 4 + 0, none⟩ (this.trans rfl)
      · intro j hj
        rw [hlen] at hj
        rw [hnd j hj]
        exact ⟨hc2 j hj 0 (by omega), hc2 j hj 1 (by omega), hc2 j hj 2 (by omega), hc2 j hj 3 (by omega)⟩
    · intro j hj
      rw [hlen] at hj
      rw [hnd j hj]
      exact (hX j hj).2
    · intro ts ds j hw ht hd
      rw [hlen]
      simp only [Prod.mk.injEq] at hx
      have hmem := DataW.weights_mem_each (P := Try.prog) ht hd
      have : (l0 + (m - l0)) * Try.prog.bytesOf 67 ∈ DataW.weightsEach Try.prog ts ds := by
        refine hmem _ ?_
        rw [hx.1]
        simp [DataW.weights, Try.underlying45]
      have hle := of_decide_eq_true (List.all_eq_true.1 hw _ this)
      rw [Try.bytesOpK] at hle
      unfold reachBytes at hle
      omega
end
end Go.Proofs.Ytfemleimkbjehaa
