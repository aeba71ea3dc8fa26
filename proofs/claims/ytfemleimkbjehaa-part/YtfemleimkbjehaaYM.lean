import Derived.Test.YtfemleimkbjehaaJ40
import Derived.Deep.CutBlock
set_option maxRecDepth 1000000
set_option maxHeartbeats 40000000
set_option linter.unusedVariables false
set_option linter.unusedSimpArgs false
namespace Go.Proofs.Ytfemleimkbjehaa
open Go.RowKit
def Mid1 (W1 wx : World) (fb : Nat) (I O : Tb) (L R : Nat) : Prop :=
  wx.heap[fb]? = some (.cells #[I.val L, O.val L] 62 (0, 0)) ∧ W1.heap.size ≤ fb ∧ T4 wx I.ob L R I.oc I.tb I.tc I.rb (fun _ _ _ => .slice none 0 0) ∧ T4 wx O.ob L R O.oc O.tb O.tc O.rb (fun _ _ _ => .slice none 0 0) ∧ (∀ n e, n < L → e < 6 → W1.heap.size ≤ I.rb n e ∧ W1.heap.size ≤ O.rb n e) ∧ (∀ n e n' e', n < L → e < 6 → n' < L → e' < 6 → I.rb n e ≠ O.rb n' e') ∧ Bw W1 wx
theorem Mid1.mk' {W1 wA w8 wB w9 wx : World} {fb ob oc ob' oc' L R : Nat} {tb tc tb' tc' : Nat → Nat} {rb rb' : Nat → Nat → Nat} (hA : Bw W1 wA) (hB8 : Bw wA w8) (hB : Bw w8 wB) (hB9 : Bw wB w9) (hTI : T4 w8 ob L R oc tb tc rb (fun _ _ _ => .slice none 0 0)) (hlI : ∀ n e, n < L → e < 6 → wA.heap.size ≤ rb n e) (hTO : T4 w9 ob' L R oc' tb' tc' rb' (fun _ _ _ => .slice none 0 0)) (hlO : ∀ n e, n < L → e < 6 → wB.heap.size ≤ rb' n e)
    (key : ∀ (g : Nat) (arr : Array Value) (t : TypeId), (t = 108 ∨ t = 54 ∨ t = 26) → w9.heap[g]? = some (.cells arr t (0, 0)) → wx.heap[g]? = some (.cells arr t (0, 0))) (hx : wx.heap[fb]? = some (.cells #[.slice (some ⟨ob, 0, none⟩) L oc, .slice (some ⟨ob', 0, none⟩) L oc'] 62 (0, 0))) (hf : W1.heap.size ≤ fb) (hbx : Bw W1 wx) : Mid1 W1 wx fb ⟨ob, oc, tb, tc, rb⟩ ⟨ob', oc', tb', tc', rb'⟩ L R := by
  have z1 := hA.size
  have z2 := hB8.size
  have z3 := hB.size
  refine ⟨hx, hf, (hTI.bw (hB.trans hB9)).frame key, hTO.frame key, fun n e hn he => ⟨Nat.le_trans z1 (hlI n e hn he), ?_⟩, fun n e n' e' hn he hn' he' eq => ?_, hbx⟩
  · have := hlO n e hn he; simp only; omega
  · obtain ⟨a, r1, _⟩ := hTI.rows n hn e he
    have l1 := (Array.getElem?_eq_some_iff.1 r1).1
    have l2 := hlO n' e' hn' he'
    simp only at eq
    omega
theorem fU {w9 : World} {fb : Nat} {a b z0 z1 : Value} (hx : w9.heap[fb]? = some (.cells #[z0, z1] 62 (0, 0))) : ((w9.setCell ⟨fb, 0, none⟩ a).setCell ⟨fb, 1, none⟩ b).heap[fb]? = some (.cells #[a, b] 62 (0, 0)) ∧ (∀ (g : Nat) (arr : Array Value) (t : TypeId), (t = 108 ∨ t = 54 ∨ t = 26) → w9.heap[g]? = some (.cells arr t (0, 0)) → ((w9.setCell ⟨fb, 0, none⟩ a).setCell ⟨fb, 1, none⟩ b).heap[g]? = some (.cells arr t (0, 0))) := by
  have h1 := qY (k := 0) (v := a) hx
  refine ⟨(qY h1).trans (by simp), fun g arr t ht hg => ?_⟩
  have hne : t ≠ 62 := by rcases ht with e | e | e <;> rw [e] <;> decide
  exact qU h1 (qU hx hg hne) hne
structure GLp (W1 wr : World) (fb : Nat) (I O : Tb) (L R : Nat) (gs : List Gv) (k : Nat) (lv : Nat → Nat → Nat → Value) : Prop where
  fl : wr.heap[fb]? = some (.cells #[I.val L, O.val L] 62 (0, 0))
  tin : T4 wr I.ob L R I.oc I.tb I.tc I.rb (fun _ _ _ => .slice none 0 0)
  tou : T4 wr O.ob L R O.oc O.tb O.tc O.rb lv
  own : ∀ e s n, e < 6 → s < R → n < L → Own W1 wr (lv e s n) (zW gs n e s k)
  sep : ∀ e s n e' s' n' b, e < 6 → s < R → n < L → e' < 6 → s' < R → n' < L → (lv e s n).ownBlock = some b → (lv e' s' n').ownBlock = some b → e = e' ∧ s = s' ∧ n = n'
  bw : Bw W1 wr
theorem GLp.more {W1 wr w' : World} {fb : Nat} {I O : Tb} {L R : Nat} {gs : List Gv} {k : Nat} {lv : Nat → Nat → Nat → Value} (h : GLp W1 wr fb I O L R gs k lv) (hb : Bw wr w') : GLp W1 w' fb I O L R gs k lv :=
  ⟨(Below.block hb _ (Array.getElem?_eq_some_iff.1 h.fl).1).trans h.fl, h.tin.bw hb, h.tou.bw hb, fun e s n he hs hn => (h.own e s n he hs hn).bw hb, h.sep, h.bw.trans hb⟩
theorem GLp.grow {W1 wr w7 : World} {fb xb n e : Nat} {I O : Tb} {L R : Nat} {gs : List Gv} {k : Nat} {lv : Nat → Nat → Nat → Value} {arr : Array Value} (h : GLp W1 wr fb I O L R gs k lv) (hn : n < L) (he : e < 6) (hR : 0 < R) (hx : wr.heap[xb]? = some (.cells arr 44 (0, 0))) (hg : wr.grownBy w7 (lv e 0 n).ownBlock) :
    w7.heap[fb]? = some (.cells #[I.val L, O.val L] 62 (0, 0)) ∧ w7.heap[xb]? = some (.cells arr 44 (0, 0)) ∧ T4 w7 I.ob L R I.oc I.tb I.tc I.rb (fun _ _ _ => .slice none 0 0) ∧ T4 w7 O.ob L R O.oc O.tb O.tc O.rb lv := by
  have ho := h.own e 0 n he hR hn
  have key : ∀ (g : Nat) (arr : Array Value) (t : TypeId), t ≠ 3 → wr.heap[g]? = some (.cells arr t (0, 0)) → w7.heap[g]? = some (.cells arr t (0, 0)) := fun g arr t ht hg' => kZ ho hg hg' (.inl ht)
  exact ⟨key _ _ _ (by decide) h.fl, key _ _ _ (by decide) hx, h.tin.frame fun g arr t ht hg' => key g arr t (by rcases ht with e | e | e <;> rw [e] <;> decide) hg', h.tou.frame fun g arr t ht hg' => key g arr t (by rcases ht with e | e | e <;> rw [e] <;> decide) hg'⟩
theorem GLp.grew {W1 wr w7 : World} {fb xb n e : Nat} {v : Int} {I O : Tb} {L R : Nat} {gs : List Gv} {k : Nat} {lv : Nat → Nat → Nat → Value} (h : GLp W1 wr fb I O L R gs k lv) (hn : n < L) (he : e < 6) (hR : 0 < R) (hx : wr.heap[xb]? = some (.cells #[.int .i64 (n : Int), .int .i64 (e : Int), .int .i64 v] 44 (0, 0))) (hg : wr.grownBy w7 (lv e 0 n).ownBlock) :
    w7.cell? ⟨fb, 1, none⟩ = some (.slice (some ⟨O.ob, 0, none⟩) L O.oc) ∧ w7.cell? ⟨xb, 0, none⟩ = some (.int .i64 (n : Int)) ∧ w7.cell? ⟨xb, 1, none⟩ = some (.int .i64 (e : Int)) ∧ w7.cell? ⟨xb, 2, none⟩ = some (.int .i64 v) ∧ w7.cell? ⟨O.ob, n, none⟩ = some (.slice (some ⟨O.tb n, 0, none⟩) 6 (O.tc n)) ∧ w7.cell? ⟨O.tb n, e, none⟩ = some (.slice (some ⟨O.rb n e, 0, none⟩) R R) ∧ w7.cell? ⟨O.rb n e, 0, none⟩ = some (lv e 0 n) ∧ O.rb n e < w7.heap.size ∧ w7.frozen? ⟨O.rb n e, 0, none⟩ = false ∧
    ∀ u, (w7.setCell ⟨O.rb n e, 0, none⟩ u).cell? ⟨fb, 1, none⟩ = some (.slice (some ⟨O.ob, 0, none⟩) L O.oc) ∧ (w7.setCell ⟨O.rb n e, 0, none⟩ u).cell? ⟨xb, 0, none⟩ = some (.int .i64 (n : Int)) ∧ (w7.setCell ⟨O.rb n e, 0, none⟩ u).cell? ⟨xb, 1, none⟩ = some (.int .i64 (e : Int)) ∧ (w7.setCell ⟨O.rb n e, 0, none⟩ u).cell? ⟨xb, 2, none⟩ = some (.int .i64 v) ∧ (w7.setCell ⟨O.rb n e, 0, none⟩ u).cell? ⟨O.ob, n, none⟩ = some (.slice (some ⟨O.tb n, 0, none⟩) 6 (O.tc n)) ∧ (w7.setCell ⟨O.rb n e, 0, none⟩ u).cell? ⟨O.tb n, e, none⟩ = some (.slice (some ⟨O.rb n e, 0, none⟩) R R) := by
  obtain ⟨g1, g2, _, g4⟩ := h.grow hn he hR hx hg
  obtain ⟨u1, u2, u3, u4, u5, u6, u7⟩ := g4.get hn he hR
  obtain ⟨ar, hr, _⟩ := g4.rows n hn e he
  obtain ⟨a1, o1, o2⟩ := g4.out
  obtain ⟨a2, t1, t2⟩ := g4.times n hn
  exact ⟨qQ g1 rfl, qQ g2 rfl, qQ g2 rfl, qQ g2 rfl, u1, u2, u3, u6, u7, fun u => ⟨qQ (qU hr g1 (by decide)) rfl, qQ (qU hr g2 (by decide)) rfl, qQ (qU hr g2 (by decide)) rfl, qQ (qU hr g2 (by decide)) rfl, qQ (qU hr o1 (by decide)) (o2 n hn), qQ (qU hr t1 (by decide)) (t2 e he)⟩⟩
theorem GLp.next {W1 wr w7 : World} {fb n e g' cap : Nat} {v : Int} {I O : Tb} {L R : Nat} {gs : List Gv} {k : Nat} {lv : Nat → Nat → Nat → Value} (h : GLp W1 wr fb I O L R gs k lv) (hn : n < L) (he : e < 6) (hR : 0 < R) (hk : k < gs.length) (hgk : vR gs k = ⟨n, e, v⟩) (hlow : ∀ n e, n < L → e < 6 → W1.heap.size ≤ O.rb n e) (hsepR : ∀ n e n' e', n < L → e < 6 → n' < L → e' < 6 → I.rb n e ≠ O.rb n' e')
    (ho7 : w7.ownsRow W1.heap.size 3 1 (.slice (some ⟨g', 0, none⟩) ((zW gs n e 0 k).length + 1) cap) ((zW gs n e 0 k).length + 1) ((zW gs n e 0 k).map (Value.int .i64) ++ [.int .i64 v])) (hg : wr.grownBy w7 (lv e 0 n).ownBlock) (hl : (lv e 0 n).ownBlock = some g' ∨ g' = wr.heap.size) :
    GLp W1 (w7.setCell ⟨O.rb n e, 0, none⟩ (.slice (some ⟨g', 0, none⟩) ((zW gs n e 0 k).length + 1) cap)) fb I O L R gs (k + 1) (updV lv e 0 n (.slice (some ⟨g', 0, none⟩) ((zW gs n e 0 k).length + 1) cap)) := by
  have ho := h.own e 0 n he hR hn
  have key : ∀ (g : Nat) (arr : Array Value) (t : TypeId), t ≠ 3 → wr.heap[g]? = some (.cells arr t (0, 0)) → w7.heap[g]? = some (.cells arr t (0, 0)) := fun g arr t ht hg' => kZ ho hg hg' (.inl ht)
  have hI7 : T4 w7 I.ob L R I.oc I.tb I.tc I.rb (fun _ _ _ => .slice none 0 0) := h.tin.frame fun g arr t ht hg' => key g arr t (by rcases ht with e | e | e <;> rw [e] <;> decide) hg'
  have hO7 : T4 w7 O.ob L R O.oc O.tb O.tc O.rb lv := h.tou.frame fun g arr t ht hg' => key g arr t (by rcases ht with e | e | e <;> rw [e] <;> decide) hg'
  obtain ⟨ar, hr, _⟩ := hO7.rows n hn e he
  have hb7 : Bw W1 w7 := Bw.grown h.bw ho hg (Nat.le_refl _)
  refine ⟨qU hr (key _ _ _ (by decide) h.fl) (by decide), hI7.setOther hr (fun m e' hm he' => hsepR m e' n e hm he' hn he) _, hO7.set hn he _, fun e' s' n' he' hs' hn' => ?_, fun e1 s1 n1 e2 s2 n2 b p1 p2 p3 p4 p5 p6 q1 q2 => ?_, hb7.setCell (hlow n e hn he) _⟩
  · by_cases hh : e' = e ∧ s' = 0 ∧ n' = n
    · obtain ⟨rfl, rfl, rfl⟩ := hh
      rw [nM]
      have hs : cN gs n' e' 0 k = true := by unfold cN; rw [hgk]; simp
      unfold Own
      rw [srcTo_yes hs, hgk, List.length_append, List.map_append]
      exact kJ hr ho7 (by decide)
    · rw [uK _ _ hh]
      have hs : cN gs n' e' s' k = false := by
        unfold cN; rw [hgk]
        rw [Bool.eq_false_iff]; intro hc; simp at hc; omega
      rw [srcTo_no hs]
      have hold := h.own e' s' n' he' hs' hn'
      unfold Own at hold ⊢
      refine kJ hr (kL hold fun b hb => hg.block b (World.ownsRow.lt hold b hb).2 (fun eq => ?_)) (by decide)
      obtain ⟨q1, q2, q3⟩ := h.sep e' s' n' e 0 n b he' hs' hn' he hR hn hb eq.symm
      exact hh ⟨q1, q2, q3⟩
  · have blk : ∀ (e3 s3 n3 : Nat), e3 < 6 → s3 < R → n3 < L → ¬ (e3 = e ∧ s3 = 0 ∧ n3 = n) → (lv e3 s3 n3).ownBlock = some g' → False := by
      intro e3 s3 n3 r1 r2 r3 hne hb
      rcases hl with h1 | h1
      · obtain ⟨t1, t2, t3⟩ := h.sep e3 s3 n3 e 0 n g' r1 r2 r3 he hR hn hb h1
        exact hne ⟨t1, t2, t3⟩
      · have := (World.ownsRow.lt (h.own e3 s3 n3 r1 r2 r3) g' hb).2
        omega
    by_cases c1 : e1 = e ∧ s1 = 0 ∧ n1 = n
    · by_cases c2 : e2 = e ∧ s2 = 0 ∧ n2 = n
      · omega
      · exfalso
        rw [c1.1, c1.2.1, c1.2.2, nM] at q1
        simp only [Value.ownBlock, Option.some.injEq] at q1
        rw [uK _ _ c2, ← q1] at q2
        exact blk e2 s2 n2 p4 p5 p6 c2 q2
    · rw [uK _ _ c1] at q1
      by_cases c2 : e2 = e ∧ s2 = 0 ∧ n2 = n
      · exfalso
        rw [c2.1, c2.2.1, c2.2.2, nM] at q2
        simp only [Value.ownBlock, Option.some.injEq] at q2
        rw [← q2] at q1
        exact blk e1 s1 n1 p1 p2 p3 c1 q1
      · rw [uK _ _ c2] at q2
        exact h.sep e1 s1 n1 e2 s2 n2 b p1 p2 p3 p4 p5 p6 q1 q2
theorem srcTo_none {ns : List Nd} {gs : List Gv} (hgi : ∀ g ∈ gs, ∃ n e : Nat, g.node = n ∧ n < ns.length ∧ (qV ns n).kind = 0 ∧ g.epoch = e ∧ e < 6) {n : Nat} (hk : (qV ns n).kind ≠ 0) (e s : Nat) : ∀ k, k ≤ gs.length → zW gs n e s k = []
  | 0, _ => rfl
  | k + 1, h => by
    have hs : cN gs n e s k = false := by
      obtain ⟨n', e', q1, _, q3, _⟩ := hgi _ (lZ (show k < gs.length by omega))
      unfold cN
      rw [q1, Bool.eq_false_iff]
      intro hc
      simp at hc
      have : n' = n := by omega
      subst this; exact hk q3
    rw [srcTo_no hs]; exact srcTo_none hgi hk e s k (by omega)
theorem Two4.bk {W w : World} {fb m e s : Nat} {I O : Tb} {L R : Nat} {FI FO : Nat → Nat → Nat → List Int} (h : Two4 W w I O L R FI FO) (hf : w.heap[fb]? = some (.cells #[I.val L, O.val L] 62 (0, 0))) (hm : m < L) (he : e < 6) (hs : s + 1 < R) : ∃ la lc, Own W w (.slice la (FI e s m).length lc) (FI e s m) ∧ (w.cell? ⟨fb, 0, none⟩ = some (.slice (some ⟨I.ob, 0, none⟩) L I.oc) ∧ w.cell? ⟨fb, 1, none⟩ = some (.slice (some ⟨O.ob, 0, none⟩) L O.oc) ∧ w.cell? ⟨O.ob, m, none⟩ = some (.slice (some ⟨O.tb m, 0, none⟩) 6 (O.tc m)) ∧ w.cell? ⟨O.tb m, e, none⟩ = some (.slice (some ⟨O.rb m e, 0, none⟩) R R) ∧ w.cell? ⟨I.ob, m, none⟩ = some (.slice (some ⟨I.tb m, 0, none⟩) 6 (I.tc m)) ∧ w.cell? ⟨I.tb m, e, none⟩ = some (.slice (some ⟨I.rb m e, 0, none⟩) R R) ∧ w.cell? ⟨I.rb m e, s, none⟩ = some (.slice la (FI e s m).length lc)) ∧
    (∀ u, (w.setCell ⟨O.rb m e, s + 1, none⟩ u).cell? ⟨fb, 0, none⟩ = some (.slice (some ⟨I.ob, 0, none⟩) L I.oc) ∧ (w.setCell ⟨O.rb m e, s + 1, none⟩ u).cell? ⟨fb, 1, none⟩ = some (.slice (some ⟨O.ob, 0, none⟩) L O.oc) ∧ (w.setCell ⟨O.rb m e, s + 1, none⟩ u).cell? ⟨O.ob, m, none⟩ = some (.slice (some ⟨O.tb m, 0, none⟩) 6 (O.tc m)) ∧ (w.setCell ⟨O.rb m e, s + 1, none⟩ u).cell? ⟨O.tb m, e, none⟩ = some (.slice (some ⟨O.rb m e, 0, none⟩) R R) ∧ (w.setCell ⟨O.rb m e, s + 1, none⟩ u).cell? ⟨I.ob, m, none⟩ = some (.slice (some ⟨I.tb m, 0, none⟩) 6 (I.tc m)) ∧ (w.setCell ⟨O.rb m e, s + 1, none⟩ u).cell? ⟨I.tb m, e, none⟩ = some (.slice (some ⟨I.rb m e, 0, none⟩) R R) ∧ (w.setCell ⟨O.rb m e, s + 1, none⟩ u).cell? ⟨I.rb m e, s, none⟩ = some (.slice la (FI e s m).length lc)) ∧ (∃ u, w.cell? ⟨O.rb m e, s + 1, none⟩ = some u) ∧ w.frozen? ⟨O.rb m e, s + 1, none⟩ = false ∧ O.rb m e < w.heap.size ∧ (∀ u, (w.setCell ⟨O.rb m e, s + 1, none⟩ u).heap[fb]? = some (.cells #[I.val L, O.val L] 62 (0, 0))) := by
  obtain ⟨i1, i2, ⟨la, lc, i3, fo, _⟩, _⟩ := h.inn.get (s := s) hm he (by omega)
  obtain ⟨o1, o2, ⟨la2, lc2, o3, _⟩, p1, p2, p3, p4⟩ := h.out.get hm he hs
  obtain ⟨ar, hr, _⟩ := h.out.rows m hm e he
  obtain ⟨a1, io1, io2⟩ := h.inn.out
  obtain ⟨a2, it1, it2⟩ := h.inn.times m hm
  obtain ⟨a3, ir1, ir2, ir3⟩ := h.inn.rows m hm e he
  obtain ⟨a4, oo1, oo2⟩ := h.out.out
  obtain ⟨a5, ot1, ot2⟩ := h.out.times m hm
  have hfs : ∀ u, (w.setCell ⟨O.rb m e, s + 1, none⟩ u).heap[fb]? = some (.cells #[I.val L, O.val L] 62 (0, 0)) := fun u => qU hr hf (by decide)
  refine ⟨la, lc, fo, ⟨qQ hf rfl, qQ hf rfl, o1, o2, i1, i2, i3⟩, fun u => ⟨qQ (hfs u) rfl, qQ (hfs u) rfl, qQ (qU hr oo1 (by decide)) (oo2 m hm), qQ (qU hr ot1 (by decide)) (ot2 e he), qQ (qU hr io1 (by decide)) (io2 m hm), qQ (qU hr it1 (by decide)) (it2 e he), ?_⟩, ⟨_, o3⟩, p4, p3, hfs⟩
  exact (World.cell?_of_block (a := ⟨I.rb m e, s, none⟩) (Below.heap_setCell w ⟨O.rb m e, s + 1, none⟩ u _ (h.sep m e m e hm he hm he))).trans i3
theorem TF.setTag {W w : World} {t : Tb} {L R fb k : Nat} {F : Nat → Nat → Nat → List Int} {arr : Array Value} {v : Value} (h : TF W w t L R F) (hf : w.heap[fb]? = some (.cells arr 62 (0, 0))) : TF W (w.setCell ⟨fb, k, none⟩ v) t L R F := by
  refine ⟨?_, fun n hn => ?_, fun n hn e he => (h.rows n hn e he).setTag hf (by decide) (by decide), h.inj, h.low⟩
  · obtain ⟨a1, h1, h2⟩ := h.out; exact ⟨a1, qU hf h1 (by decide), h2⟩
  · obtain ⟨a1, h1, h2⟩ := h.times n hn; exact ⟨a1, qU hf h1 (by decide), h2⟩
set_option maxRecDepth 100000 in
set_option maxHeartbeats 8000000 in
theorem kflow_any {ns : List Nd} {R : Nat} {r : Int} {q : List Int} (hG : Good ns r q) (hlow : LowG ns) {gs : List Gv} (hgv : nD ns gs) (hkd : ∀ n, n < ns.length → yD (qV ns n)) (hgi : ∀ g ∈ gs, ∃ n e : Nat, g.node = n ∧ n < ns.length ∧ (qV ns n).kind = 0 ∧ g.epoch = e ∧ e < 6) (ga va : Option Addr) (gc vc : Nat) (hR1 : 1 ≤ R) (hR4 : R ≤ 4) (h1 : 1 ≤ ns.length) (h8 : ns.length ≤ 8) (h0 : (qV ns 0).kind = 0) (w : World) (hn : NodesAt w ga ns) (hv : GvAt w va gs) :
    Calls Try.prog 27 #[.agg #[.slice ga ns.length gc, .int .i64 (R : Int)], .slice va gs.length vc] w fun en w' => ∃ (I O : Tb) (FI : Nat → Nat → Nat → List Int), en = .returned (.agg #[I.val ns.length, O.val ns.length]) ∧ TF w w' I ns.length R FI ∧ (∀ e s n, e < 6 → s < R → n < ns.length → FI e s n = dT ns gs n e s) ∧ Bw w w' := by
  go_enter Try.func27, Try.ntmps27
  go_wp2_with fail
  obtain ⟨W1, hW1⟩ : ∃ W1, (w.alloc (.cells #[.slice ga ns.length gc, .int .i64 (R : Int)] 24)).alloc (.cells #[.slice none 0 0, .slice none 0 0] 62) = W1 := ⟨_, rfl⟩
  rw [hW1]
  obtain ⟨b1, b2, hB1⟩ := yU w (.cells #[.slice ga ns.length gc, .int .i64 (R : Int)] 24) (.cells #[.slice none 0 0, .slice none 0 0] 62)
  rw [hW1] at b1 b2 hB1
  have hz1 : w.heap.size + 2 = W1.heap.size := by rw [← hW1]; simp
  have Hz1 := qJ hz1
  clear hW1 hz1
  have g0 := qQ (o := 0) b1 rfl
  have g1 := qQ (o := 1) b1 rfl
  have g1l := (Array.getElem?_eq_some_iff.1 b1).1
  go_cut [5] from 12 (fun v5 wx => ∃ fb I O, v5 = .pointer (some ⟨fb, 0, none⟩) ∧ Mid1 W1 wx fb I O ns.length R)
  case first =>
    refine wp_region_held_drew (S := (fun w' => w'.cell? ⟨w.heap.size, 0, none⟩ = some (.slice ga ns.length gc) ∧ w'.cell? ⟨w.heap.size, 1, none⟩ = some (.int .i64 (R : Int)))) (by kernel_rfl) (by (try dsimp only); go_keep) (fun hHeld => ?_)
    refine tk 0 ?_; try simp only [Act.put, qT, qS, qR]
    refine tk 2 ?_; try simp only [Act.put, qT, qS, qR]
    refine wpAnyH_ready (rs := [1, 5]) (by kernel_rfl) (by simp) ?_
    refine AllReadyH.cons rfl (fun K hK => ?_) (AllReadyH.cons rfl (fun K hK => ?_) AllReadyH.nil)
    · go_simp
      go_at_call 54
      refine (uU ns R ga gc _ h1 h8 hR4).mono ?_
      rintro e8 w8 ⟨ob, oc, tb, tc, rb, rfl, hTI, hlI, hB8⟩
      have s0 := ((qX (Bw.trans (show Bw W1 _ from (by repeat first|exact br _|assumption|apply bd|apply bn|apply ba|refine bt ?_ (by assumption))) hB8)).1 _ 0 g1l).trans g0
      have s1 := ((qX (Bw.trans (show Bw W1 _ from (by repeat first|exact br _|assumption|apply bd|apply bn|apply ba|refine bt ?_ (by assumption))) hB8)).1 _ 1 g1l).trans g1
      (try go_wp2_with fail)
      refine hK.out _ _ (by (try dsimp only); go_keep) (fun hHeld => ?_)
      clear hK K
      try simp only [Act.put, qT, qS, qR]
      refine wpAnyH_ready (rs := [3, 5]) (by kernel_rfl) (by simp) ?_
      refine AllReadyH.cons rfl (fun K hK => ?_) (AllReadyH.cons rfl (fun K hK => ?_) AllReadyH.nil)
      · go_simp
        go_at_call 54
        refine (uU ns R ga gc _ h1 h8 hR4).mono ?_
        rintro e9 w9 ⟨ob', oc', tb', tc', rb', rfl, hTO, hlO, hB9⟩
        have s2 := ((qX (Bw.trans (show Bw W1 _ from (by repeat first|exact br _|assumption|apply bd|apply bn|apply ba|refine bt ?_ (by assumption))) hB9)).1 _ 0 g1l).trans g0
        have s3 := ((qX (Bw.trans (show Bw W1 _ from (by repeat first|exact br _|assumption|apply bd|apply bn|apply ba|refine bt ?_ (by assumption))) hB9)).1 _ 1 g1l).trans g1
        (try go_wp2_with fail)
        refine hK.out _ _ (by (try dsimp only); go_keep) (fun hHeld => ?_)
        clear hK K
        try simp only [Act.put, qT, qS, qR]
        refine tk 4 ?_; try simp only [Act.put, qT, qS, qR]
        refine wpAnyH_ready (rs := [5]) (by kernel_rfl) (by simp) ?_
        refine AllReadyH.cons rfl (fun K hK => ?_) AllReadyH.nil
        go_simp
        refine hK.out _ _ (by (try dsimp only); go_keep) (fun hHeld => ?_)
        clear hK K
        try simp only [Act.put, qT, qS, qR]
        refine wpAnyH_ready (rs := [6]) (by kernel_rfl) (by simp) ?_
        refine AllReadyH.cons rfl (fun K hK => ?_) AllReadyH.nil
        go_simp
        refine hK.out _ _ (by (try dsimp only); go_keep) (fun hHeld => ?_)
        clear hK K
        try simp only [Act.put, qT, qS, qR]
        refine wpAnyH_done (by kernel_rfl) ?_ _
        go_wp2_with fail
        go_meet
        exact ⟨w9.heap.size, _, _, rfl, Mid1.mk' (show Bw W1 _ from (by repeat first|exact br _|assumption|apply bd|apply bn|apply ba|refine bt ?_ (by assumption))) hB8 (show Bw w8 _ from (by repeat first|exact br _|assumption|apply bd|apply bn|apply ba|refine bt ?_ (by assumption))) hB9 hTI hlI hTO hlO (fun g arr t _ hg => (Below.block (show Bw w9 _ from (by repeat first|exact br _|assumption|apply bd|apply bn|apply ba|refine bt ?_ (by assumption))) g (Array.getElem?_eq_some_iff.1 hg).1).trans hg) (heap_alloc_new w9 _) (Nat.le_trans (Bw.trans (show Bw W1 _ from (by repeat first|exact br _|assumption|apply bd|apply bn|apply ba|refine bt ?_ (by assumption))) hB8).size (Bw.trans (show Bw w8 _ from (by repeat first|exact br _|assumption|apply bd|apply bn|apply ba|refine bt ?_ (by assumption))) hB9).size) (Bw.trans (Bw.trans (show Bw W1 _ from (by repeat first|exact br _|assumption|apply bd|apply bn|apply ba|refine bt ?_ (by assumption))) hB8) (Bw.trans (Bw.trans (show Bw w8 _ from (by repeat first|exact br _|assumption|apply bd|apply bn|apply ba|refine bt ?_ (by assumption))) hB9) (show Bw w9 _ from (by repeat first|exact br _|assumption|apply bd|apply bn|apply ba|refine bt ?_ (by assumption)))))⟩
      · go_simp
        refine hK.out _ _ (by (try dsimp only); go_keep) (fun hHeld => ?_)
        clear hK K
        try simp only [Act.put, qT, qS, qR]
        refine wpAnyH_ready (rs := [3]) (by kernel_rfl) (by simp) ?_
        refine AllReadyH.cons rfl (fun K hK => ?_) AllReadyH.nil
        go_simp
        go_at_call 54
        refine (uU ns R ga gc _ h1 h8 hR4).mono ?_
        rintro e9 w9 ⟨ob', oc', tb', tc', rb', rfl, hTO, hlO, hB9⟩
        have s2 := ((qX (Bw.trans (show Bw W1 _ from (by repeat first|exact br _|assumption|apply bd|apply bn|apply ba|refine bt ?_ (by assumption))) hB9)).1 _ 0 g1l).trans g0
        have s3 := ((qX (Bw.trans (show Bw W1 _ from (by repeat first|exact br _|assumption|apply bd|apply bn|apply ba|refine bt ?_ (by assumption))) hB9)).1 _ 1 g1l).trans g1
        have z8 := (Bw.trans (show Bw W1 _ from (by repeat first|exact br _|assumption|apply bd|apply bn|apply ba|refine bt ?_ (by assumption))) hB8).size
        have hx9 : w9.heap[w8.heap.size]? = some (.cells #[.slice none 0 0, .slice none 0 0] 62 (0, 0)) := (Below.block hB9 _ (by simp)).trans (qN _ _ (by simp))
        have nf : ¬ w.heap.size = w8.heap.size := by have := z8; omega
        have nf2 : ¬ w8.heap.size = w.heap.size := by have := z8; omega
        have xc0 := qQ (o := 0) hx9 rfl
        have xc1 := qQ (o := 1) hx9 rfl
        have xf0 := qZ (o := 0) hx9
        have xf1 := qZ (o := 1) hx9
        have xl9 := (Array.getElem?_eq_some_iff.1 hx9).1
        have Hx9 := qJ hx9
        clear hx9
        (try go_wp2_with fail)
        refine hK.out _ _ (by (try dsimp only); go_keep) (fun hHeld => ?_)
        clear hK K
        try simp only [Act.put, qT, qS, qR]
        refine tk 4 ?_; try simp only [Act.put, qT, qS, qR]
        refine wpAnyH_ready (rs := [6]) (by kernel_rfl) (by simp) ?_
        refine AllReadyH.cons rfl (fun K hK => ?_) AllReadyH.nil
        go_simp
        refine hK.out _ _ (by (try dsimp only); go_keep) (fun hHeld => ?_)
        clear hK K
        try simp only [Act.put, qT, qS, qR]
        refine wpAnyH_done (by kernel_rfl) ?_ _
        go_wp2_with fail
        go_meet
        exact ⟨w8.heap.size, _, _, rfl, Mid1.mk' (show Bw W1 _ from (by repeat first|exact br _|assumption|apply bd|apply bn|apply ba|refine bt ?_ (by assumption))) hB8 (show Bw w8 _ from (by repeat first|exact br _|assumption|apply bd|apply bn|apply ba|refine bt ?_ (by assumption))) hB9 hTI hlI hTO hlO (fU (qK Hx9)).2 (fU (qK Hx9)).1 z8 (Bw.setCell (Bw.setCell (Bw.trans (Bw.trans (show Bw W1 _ from (by repeat first|exact br _|assumption|apply bd|apply bn|apply ba|refine bt ?_ (by assumption))) hB8) (Bw.trans (show Bw w8 _ from (by repeat first|exact br _|assumption|apply bd|apply bn|apply ba|refine bt ?_ (by assumption))) hB9)) (p := ⟨w8.heap.size, 0, none⟩) z8 _) (p := ⟨w8.heap.size, 1, none⟩) z8 _)⟩
    · go_simp
      refine hK.out _ _ (by (try dsimp only); go_keep) (fun hHeld => ?_)
      clear hK K
      try simp only [Act.put, qT, qS, qR]
      refine wpAnyH_ready (rs := [1]) (by kernel_rfl) (by simp) ?_
      refine AllReadyH.cons rfl (fun K hK => ?_) AllReadyH.nil
      go_simp
      go_at_call 54
      refine (uU ns R ga gc _ h1 h8 hR4).mono ?_
      rintro e8 w8 ⟨ob, oc, tb, tc, rb, rfl, hTI, hlI, hB8⟩
      have s0 := ((qX (Bw.trans (show Bw W1 _ from (by repeat first|exact br _|assumption|apply bd|apply bn|apply ba|refine bt ?_ (by assumption))) hB8)).1 _ 0 g1l).trans g0
      have s1 := ((qX (Bw.trans (show Bw W1 _ from (by repeat first|exact br _|assumption|apply bd|apply bn|apply ba|refine bt ?_ (by assumption))) hB8)).1 _ 1 g1l).trans g1
      have hx8 : w8.heap[W1.heap.size]? = some (.cells #[.slice none 0 0, .slice none 0 0] 62 (0, 0)) := (Below.block hB8 _ (by simp)).trans (qN _ _ (by simp))
      (try go_wp2_with fail)
      refine hK.out _ _ (by (try dsimp only); go_keep) (fun hHeld => ?_)
      clear hK K
      try simp only [Act.put, qT, qS, qR]
      refine wpAnyH_ready (rs := [3]) (by kernel_rfl) (by simp) ?_
      refine AllReadyH.cons rfl (fun K hK => ?_) AllReadyH.nil
      go_simp
      go_at_call 54
      refine (uU ns R ga gc _ h1 h8 hR4).mono ?_
      rintro e9 w9 ⟨ob', oc', tb', tc', rb', rfl, hTO, hlO, hB9⟩
      have s2 := ((qX (Bw.trans (show Bw W1 _ from (by repeat first|exact br _|assumption|apply bd|apply bn|apply ba|refine bt ?_ (by assumption))) hB9)).1 _ 0 g1l).trans g0
      have s3 := ((qX (Bw.trans (show Bw W1 _ from (by repeat first|exact br _|assumption|apply bd|apply bn|apply ba|refine bt ?_ (by assumption))) hB9)).1 _ 1 g1l).trans g1
      have z8 := Nat.le_refl W1.heap.size
      have hx9 : w9.heap[W1.heap.size]? = some (.cells #[.slice none 0 0, .slice none 0 0] 62 (0, 0)) := (Below.block hB9 _ (Array.getElem?_eq_some_iff.1 hx8).1).trans hx8
      have nf : ¬ w.heap.size = W1.heap.size := by have := z8; omega
      have nf2 : ¬ W1.heap.size = w.heap.size := by have := z8; omega
      have xc0 := qQ (o := 0) hx9 rfl
      have xc1 := qQ (o := 1) hx9 rfl
      have xf0 := qZ (o := 0) hx9
      have xf1 := qZ (o := 1) hx9
      have xl9 := (Array.getElem?_eq_some_iff.1 hx9).1
      have Hx9 := qJ hx9
      clear hx9
      (try go_wp2_with fail)
      refine hK.out _ _ (by (try dsimp only); go_keep) (fun hHeld => ?_)
      clear hK K
      try simp only [Act.put, qT, qS, qR]
      refine tk 4 ?_; try simp only [Act.put, qT, qS, qR]
      refine wpAnyH_ready (rs := [6]) (by kernel_rfl) (by simp) ?_
      refine AllReadyH.cons rfl (fun K hK => ?_) AllReadyH.nil
      go_simp
      refine hK.out _ _ (by (try dsimp only); go_keep) (fun hHeld => ?_)
      clear hK K
      try simp only [Act.put, qT, qS, qR]
      refine wpAnyH_done (by kernel_rfl) ?_ _
      go_wp2_with fail
      go_meet
      exact ⟨W1.heap.size, _, _, rfl, Mid1.mk' (show Bw W1 _ from (by repeat first|exact br _|assumption|apply bd|apply bn|apply ba|refine bt ?_ (by assumption))) hB8 (show Bw w8 _ from (by repeat first|exact br _|assumption|apply bd|apply bn|apply ba|refine bt ?_ (by assumption))) hB9 hTI hlI hTO hlO (fU (qK Hx9)).2 (fU (qK Hx9)).1 (Nat.le_refl _) (Bw.setCell (Bw.setCell (Bw.trans (Bw.trans (show Bw W1 _ from (by repeat first|exact br _|assumption|apply bd|apply bn|apply ba|refine bt ?_ (by assumption))) hB8) (Bw.trans (show Bw w8 _ from (by repeat first|exact br _|assumption|apply bd|apply bn|apply ba|refine bt ?_ (by assumption))) hB9)) (p := ⟨W1.heap.size, 0, none⟩) (Nat.le_refl _) _) (p := ⟨W1.heap.size, 1, none⟩) (Nat.le_refl _) _)⟩
  case rest =>
    obtain ⟨fb, I, O, rfl, hfl, hfb, hTI, hTO, hlw, hsep, hBc⟩ := hcut
    rename World => wc
    have Hlow := qJ hlw
    have Hsep := qJ hsep
    have HG := qJ hG
    have Hst : Hid (GLp W1 wc fb I O ns.length R gs 0 (fun _ _ _ => .slice none 0 0)) := qJ ⟨hfl, hTI, hTO, fun _ _ _ _ _ _ => Own.nil _ _, fun _ _ _ _ _ _ b _ _ _ _ _ _ h => by simp [Value.ownBlock] at h, hBc⟩
    have hR0 : 0 < R := by omega
    clear hfl hTI hTO hlw hsep hBc g0 g1
    go_wp2_with fail
    go_loopw [6] (fun i wr => ∃ (k : Nat) (lv : Nat → Nat → Nat → Value), k ≤ gs.length ∧ i = .int .i64 k ∧ GLp W1 wr fb I O ns.length R gs k lv) (fun i _ => gs.length - (intOf i).toNat)
    case atStart => exact ⟨0, _, Nat.zero_le _, rfl, qK Hst⟩
    case round =>
      clear Hst HG
      obtain ⟨k, lv, hk, rfl, hGL⟩ := hrel
      rename World => wr
      by_cases hlt : k < gs.length
      · obtain ⟨b, off, rfl, hb, hc⟩ := (hv.below (hB1.trans hGL.bw)) k hlt
        obtain ⟨k0, k1, k2⟩ := hc k hlt
        obtain ⟨n, e, en, hnn, _, ee, he⟩ := hgi _ (lZ hlt)
        obtain ⟨v, ev⟩ : ∃ v, (vR gs k).value = v := ⟨_, rfl⟩
        have hgk : vR gs k = ⟨n, e, v⟩ := by rw [← en, ← ee, ← ev]
        rw [en] at k0
        rw [ee] at k1
        rw [ev] at k2
        have Hgk := qJ hgk
        clear hc hgk en ee ev
        have hk1 : (k : Int) < (gs.length : Int) := by omega
        have hn1 : (n : Int) < (ns.length : Int) := by omega
        have he1 : (e : Int) < 6 := by omega
        have hR1i : (0 : Int) < (R : Int) := by omega
        have hgl := hgv.1
        have hsl := lR gs n e 0 k
        obtain ⟨la, lc, hlv, hlc⟩ := (hGL.own e 0 n he hR0 hnn).slice
        have HG := qJ (hGL.more (show Bw wr (wr.alloc (.cells #[.int .i64 (n : Int), .int .i64 (e : Int), .int .i64 v] 44)) from (by repeat first|exact br _|assumption|apply bd|apply bn|apply ba|refine bt ?_ (by assumption))))
        clear hGL
        go_wp2_with fail
        generalize hwX : (wr.alloc (.cells #[.int .i64 (n : Int), .int .i64 (e : Int), .int .i64 v] 44)) = wX at HG ⊢
        obtain ⟨u1, u2, u3, u4, u5, u6, u7⟩ := (qK HG).tou.get hnn he hR0
        rw [hlv] at u3
        have hxb : wX.heap[wr.heap.size]? = some (.cells #[.int .i64 (n : Int), .int .i64 (e : Int), .int .i64 v] 44 (0, 0)) := by rw [← hwX]; exact heap_alloc_new wr _
        have x0 := qQ (o := 0) hxb rfl
        have x1 := qQ (o := 1) hxb rfl
        have x2 := qQ (o := 2) hxb rfl
        have xbl := (Array.getElem?_eq_some_iff.1 hxb).1
        have Hxb := qJ hxb
        have f1 : wX.cell? ⟨fb, 1, none⟩ = some (.slice (some ⟨O.ob, 0, none⟩) ns.length O.oc) := qQ (qK HG).fl rfl
        have fbl := (Array.getElem?_eq_some_iff.1 (qK HG).fl).1
        clear hwX hxb k0 k1 k2
        refine wp_region_held_drew (S := (fun w' => w'.cell? ⟨fb, 1, none⟩ = some (.slice (some ⟨O.ob, 0, none⟩) ns.length O.oc) ∧ w'.cell? ⟨wr.heap.size, 0, none⟩ = some (.int .i64 (n : Int)) ∧ w'.cell? ⟨wr.heap.size, 1, none⟩ = some (.int .i64 (e : Int)) ∧ w'.cell? ⟨wr.heap.size, 2, none⟩ = some (.int .i64 v) ∧ w'.cell? ⟨O.ob, n, none⟩ = some (.slice (some ⟨O.tb n, 0, none⟩) 6 (O.tc n)) ∧ w'.cell? ⟨O.tb n, e, none⟩ = some (.slice (some ⟨O.rb n e, 0, none⟩) R R))) (by kernel_rfl) (by (try dsimp only); go_keep) (fun hHeld => ?_)
        refine tk 0 ?_; try simp only [Act.put, qT, qS, qR]
        refine tk 1 ?_; try simp only [Act.put, qT, qS, qR]
        refine tk 2 ?_; try simp only [Act.put, qT, qS, qR]
        refine tk 3 ?_; try simp only [Act.put, qT, qS, qR]
        refine tk 4 ?_; try simp only [Act.put, qT, qS, qR]
        refine tk 5 ?_; try simp only [Act.put, qT, qS, qR]
        refine tk 6 ?_; try simp only [Act.put, qT, qS, qR]
        refine tk 7 ?_; try simp only [Act.put, qT, qS, qR]
        refine tk 8 ?_; try simp only [Act.put, qT, qS, qR]
        refine tk 9 ?_; try simp only [Act.put, qT, qS, qR]
        refine tk 10 ?_; try simp only [Act.put, qT, qS, qR]
        refine tk 11 ?_; try simp only [Act.put, qT, qS, qR]
        refine tk 12 ?_; try simp only [Act.put, qT, qS, qR]
        refine tk 13 ?_; try simp only [Act.put, qT, qS, qR]
        refine tk 14 ?_; try simp only [Act.put, qT, qS, qR]
        refine tk 15 ?_; try simp only [Act.put, qT, qS, qR]
        refine tk 16 ?_; try simp only [Act.put, qT, qS, qR]
        refine tk 17 ?_; try simp only [Act.put, qT, qS, qR]
        refine tk 18 ?_; try simp only [Act.put, qT, qS, qR]
        refine tk 19 ?_; try simp only [Act.put, qT, qS, qR]
        refine tk 20 ?_; try simp only [Act.put, qT, qS, qR]
        refine tk 22 ?_; try simp only [Act.put, qT, qS, qR]
        refine tk 23 ?_; try simp only [Act.put, qT, qS, qR]
        refine wpAnyH_ready (rs := [21, 24]) (by kernel_rfl) (by simp) ?_
        refine AllReadyH.cons rfl (fun K hK => ?_) (AllReadyH.cons rfl (fun K hK => ?_) AllReadyH.nil)
        · go_simp
          refine hK.out _ _ (by (try dsimp only); go_keep) (fun hHeld => ?_)
          clear hK K
          try simp only [Act.put, qT, qS, qR]
          refine wpAnyH_ready (rs := [24]) (by kernel_rfl) (by simp) ?_
          refine AllReadyH.cons rfl (fun K hK => ?_) AllReadyH.nil
          go_simp
          refine hK.out _ _ (by (try dsimp only); go_keep) (fun hHeld => ?_)
          clear hK K
          try simp only [Act.put, qT, qS, qR]
          refine wpAnyH_ready (rs := [25]) (by kernel_rfl) (by simp) ?_
          refine AllReadyH.cons rfl (fun K hK => ?_) AllReadyH.nil
          refine pF rfl _ _ _ 3 rfl _ 1 8 Try.infoInt Try.underlying26 rfl (by decide) W1.heap.size (.slice la (zW gs n e 0 k).length lc) (zW gs n e 0 k).length ((zW gs n e 0 k).map (Value.int .i64)) rfl (hlv ▸ ((qK HG).more (show Bw wX _ from (by repeat first|exact br _|assumption|apply bd|apply bn|apply ba|refine bt ?_ (by assumption)))).own e 0 n he hR0 hnn) _ _ [.int .i64 v] rfl rfl (nZ (qQ (qN _ _ (by simp)) rfl)) (by simp [Value.oneCell']) (by omega) (by omega) (Bw.size (Bw.trans (qK HG).bw (by repeat first|exact br _|assumption|apply bd|apply bn|apply ba|refine bt ?_ (by assumption)))) ?_
          intro g' cap w7 ho7 hg7 hl7
          obtain ⟨t1, t2, t3, t4, t5, t6, t7, t8, t9, t10⟩ := ((qK HG).more (show Bw wX _ from (by repeat first|exact br _|assumption|apply bd|apply bn|apply ba|refine bt ?_ (by assumption)))).grew hnn he hR0 ((Below.block (show Bw wX _ from (by repeat first|exact br _|assumption|apply bd|apply bn|apply ba|refine bt ?_ (by assumption))) _ xbl).trans (qK Hxb)) (hlv.symm ▸ hg7)
          rw [hlv] at t7
          refine hK.out _ _ (by (try dsimp only); go_keep) (fun hHeld => ?_)
          clear hK K
          try simp only [Act.put, qT, qS, qR]
          refine tk 26 ?_; try simp only [Act.put, qT, qS, qR]
          refine wpAnyH_ready (rs := [27]) (by kernel_rfl) (by simp) ?_
          refine AllReadyH.cons rfl (fun K hK => ?_) AllReadyH.nil
          go_simp
          refine hK.out _ _ (t10 _) (fun hHeld => ?_)
          clear hK K
          try simp only [Act.put, qT, qS, qR]
          refine wpAnyH_done (by kernel_rfl) ?_ _
          have hnx := ((qK HG).more (show Bw wX _ from (by repeat first|exact br _|assumption|apply bd|apply bn|apply ba|refine bt ?_ (by assumption)))).next hnn he hR0 hlt (qK Hgk) (fun n e hn he => (qK Hlow n e hn he).2) (qK Hsep) ho7 (hlv.symm ▸ hg7) (hlv.symm ▸ hl7)
          have Hnx := qJ hnx
          clear hnx t1 t2 t3 t4 t5 t6 t7 t8 t9 t10 ho7 hg7 hl7
          go_wp2_with fail
          go_roundw
          case rel => exact ⟨k + 1, _, by omega, by go_num, qK Hnx⟩
          case measure => simp [intOf]; omega
        · go_simp
          refine hK.out _ _ (by (try dsimp only); go_keep) (fun hHeld => ?_)
          clear hK K
          try simp only [Act.put, qT, qS, qR]
          refine wpAnyH_ready (rs := [21]) (by kernel_rfl) (by simp) ?_
          refine AllReadyH.cons rfl (fun K hK => ?_) AllReadyH.nil
          go_simp
          refine hK.out _ _ (by (try dsimp only); go_keep) (fun hHeld => ?_)
          clear hK K
          try simp only [Act.put, qT, qS, qR]
          refine wpAnyH_ready (rs := [25]) (by kernel_rfl) (by simp) ?_
          refine AllReadyH.cons rfl (fun K hK => ?_) AllReadyH.nil
          refine pF rfl _ _ _ 3 rfl _ 1 8 Try.infoInt Try.underlying26 rfl (by decide) W1.heap.size (.slice la (zW gs n e 0 k).length lc) (zW gs n e 0 k).length ((zW gs n e 0 k).map (Value.int .i64)) rfl (hlv ▸ ((qK HG).more (show Bw wX _ from (by repeat first|exact br _|assumption|apply bd|apply bn|apply ba|refine bt ?_ (by assumption)))).own e 0 n he hR0 hnn) _ _ [.int .i64 v] rfl rfl (nZ (qQ (qN _ _ (by simp)) rfl)) (by simp [Value.oneCell']) (by omega) (by omega) (Bw.size (Bw.trans (qK HG).bw (by repeat first|exact br _|assumption|apply bd|apply bn|apply ba|refine bt ?_ (by assumption)))) ?_
          intro g' cap w7 ho7 hg7 hl7
          obtain ⟨t1, t2, t3, t4, t5, t6, t7, t8, t9, t10⟩ := ((qK HG).more (show Bw wX _ from (by repeat first|exact br _|assumption|apply bd|apply bn|apply ba|refine bt ?_ (by assumption)))).grew hnn he hR0 ((Below.block (show Bw wX _ from (by repeat first|exact br _|assumption|apply bd|apply bn|apply ba|refine bt ?_ (by assumption))) _ xbl).trans (qK Hxb)) (hlv.symm ▸ hg7)
          rw [hlv] at t7
          refine hK.out _ _ (by (try dsimp only); go_keep) (fun hHeld => ?_)
          clear hK K
          try simp only [Act.put, qT, qS, qR]
          refine tk 26 ?_; try simp only [Act.put, qT, qS, qR]
          refine wpAnyH_ready (rs := [27]) (by kernel_rfl) (by simp) ?_
          refine AllReadyH.cons rfl (fun K hK => ?_) AllReadyH.nil
          go_simp
          refine hK.out _ _ (t10 _) (fun hHeld => ?_)
          clear hK K
          try simp only [Act.put, qT, qS, qR]
          refine wpAnyH_done (by kernel_rfl) ?_ _
          have hnx := ((qK HG).more (show Bw wX _ from (by repeat first|exact br _|assumption|apply bd|apply bn|apply ba|refine bt ?_ (by assumption)))).next hnn he hR0 hlt (qK Hgk) (fun n e hn he => (qK Hlow n e hn he).2) (qK Hsep) ho7 (hlv.symm ▸ hg7) (hlv.symm ▸ hl7)
          have Hnx := qJ hnx
          clear hnx t1 t2 t3 t4 t5 t6 t7 t8 t9 t10 ho7 hg7 hl7
          go_wp2_with fail
          go_roundw
          case rel => exact ⟨k + 1, _, by omega, by go_num, qK Hnx⟩
          case measure => simp [intOf]; omega
      · have hkk : k = gs.length := by omega
        subst hkk
        have hT0 : Two4 W1 wr I O ns.length R (fun _ _ _ => []) (fun e s n => if (qV ns n).kind = 0 then bU gs n e s else []) := ⟨hGL.tin.tf (fun _ _ _ _ _ _ => Own.nil _ _) (fun n e hn he => (qK Hlow n e hn he).1), hGL.tou.tf (fun e s n he hs hn => by
          have := hGL.own e s n he hs hn
          by_cases hk : (qV ns n).kind = 0
          · rw [if_pos hk]; exact this
          · rw [if_neg hk]; rw [srcTo_none hgi hk e s _ (Nat.le_refl _)] at this; exact this) (fun n e hn he => (qK Hlow n e hn he).2), qK Hsep⟩
        have HT0 := qJ (⟨hT0, hGL.fl, hGL.bw⟩ : _ ∧ _ ∧ _)
        have Hkd := qJ hkd
        have Hlw := qJ hlow
        have Hgv := qJ hgv
        have Hv := qJ hv
        have Hgi := qJ hgi
        clear hGL hT0 hkd hlow hgv hv hgi
        go_wp2_with fail
        go_loopw [8] (fun i wi => ∃ (e : Nat) (FI FO : Nat → Nat → Nat → List Int), e ≤ 6 ∧ i = .int .i64 e ∧ Two4 W1 wi I O ns.length R FI FO ∧ wi.heap[fb]? = some (.cells #[I.val ns.length, O.val ns.length] 62 (0, 0)) ∧ Bw W1 wi ∧ FlS ns gs R e 0 FI FO) (fun i _ => 6 - (intOf i).toNat)
        case atStart => exact ⟨0, _, _, Nat.zero_le _, rfl, (qK HT0).1, (qK HT0).2.1, (qK HT0).2.2, FlS.start ns gs R⟩
        case round =>
          clear HT0
          obtain ⟨e, FI, FO, he6, rfl, hT, hfl, hBw, hF⟩ := hrel
          rename World => w2
          have HF := qJ hF
          clear hF
          have fl1 := (Array.getElem?_eq_some_iff.1 hfl).1
          by_cases he : e < 6
          · have hd6 : decide ((e : Int) ≤ 5) = true := by simp; omega
            have H2 := qJ (⟨hT, hfl, hBw⟩ : _ ∧ _ ∧ _)
            clear hT hfl hBw fl1
            go_wp2_with fail
            go_loopw [9] (fun i wi => ∃ (s : Nat) (FI FO : Nat → Nat → Nat → List Int), s ≤ R ∧ i = .int .i64 s ∧ Two4 W1 wi I O ns.length R FI FO ∧ wi.heap[fb]? = some (.cells #[I.val ns.length, O.val ns.length] 62 (0, 0)) ∧ Bw W1 wi ∧ FlS ns gs R e s FI FO) (fun i _ => R - (intOf i).toNat)
            case atStart => exact ⟨0, _, _, Nat.zero_le _, rfl, (qK H2).1, (qK H2).2.1, (qK H2).2.2, qK HF⟩
            case round =>
              clear H2 HF
              obtain ⟨s, FI, FO, hsR, rfl, hT, hfl, hBw, hF⟩ := hrel
              rename World => w3
              have HF := qJ hF
              clear hF
              have g1 := ((qX hBw).1 _ 1 g1l).trans (qQ (o := 1) b1 rfl)
              have gl3 := Nat.lt_of_lt_of_le g1l hBw.size
              by_cases hs : s < R
              · have hs1 : (s : Int) < (R : Int) := by omega
                have H3 := qJ (⟨hT, hfl, hBw⟩ : _ ∧ _ ∧ _)
                clear hT hfl hBw
                go_wp2_with fail
                go_loopw [10] (fun i wi => ∃ (m : Nat) (FI FO : Nat → Nat → Nat → List Int), m ≤ ns.length ∧ i = .int .i64 m ∧ Two4 W1 wi I O ns.length R FI FO ∧ wi.heap[fb]? = some (.cells #[I.val ns.length, O.val ns.length] 62 (0, 0)) ∧ Bw W1 wi ∧ FlB ns gs R e s m FI FO) (fun i _ => ns.length - (intOf i).toNat)
                case atStart => exact ⟨0, _, _, Nat.zero_le _, rfl, (qK H3).1, (qK H3).2.1, (qK H3).2.2, (qK HF).backs⟩
                case round =>
                  clear H3 HF g1 gl3
                  obtain ⟨m, FI, FO, hmL, rfl, hT, hfl, hBw, hF⟩ := hrel
                  rename World => w4
                  have HF := qJ hF
                  clear hF
                  have g0 := ((qX hBw).1 _ 0 g1l).trans (qQ (o := 0) b1 rfl)
                  have gl3 := Nat.lt_of_lt_of_le g1l hBw.size
                  by_cases hm : m < ns.length
                  · have hm1 : (m : Int) < (ns.length : Int) := by omega
                    obtain ⟨b, off, rfl, hb, hc⟩ := (hn.below (hB1.trans hBw)) m hm
                    obtain ⟨k0, _⟩ := hc m hm
                    clear hc
                    by_cases h4 : (qV ns m).kind = 4
                    · have h4b : ((qV ns m).kind == 4) = true := by simpa using h4
                      have Hh4 := qJ h4
                      clear h4
                      by_cases hs0 : s = 0
                      · subst hs0
                        have H4 := qJ (⟨hT, hfl, hBw⟩ : _ ∧ _ ∧ _)
                        have Hnx := qJ ((qK HF).skip hG hm (.inr rfl))
                        clear hT hfl hBw
                        go_wp2_with fail
                        go_roundw
                        case rel => exact ⟨m + 1, _, _, by omega, by go_num, (qK H4).1, (qK H4).2.1, (qK H4).2.2, qK Hnx⟩
                        case measure => simp [intOf]; omega
                      · obtain ⟨s', hs'⟩ : ∃ s', s = s' + 1 := ⟨s - 1, by omega⟩
                        have hd0 : decide ((0 : Int) < (s : Int)) = true := by simp only [decide_eq_true_eq]; omega
                        have bk := hT.bk hfl hm he (s := s') (hs' ▸ hs)
                        rw [← hs'] at bk
                        obtain ⟨la, lc, hown, ⟨j1, j2, j3, j4, j5, j6, j7⟩, j8, ⟨u9, j9⟩, j10, j11, j12⟩ := bk
                        have Hset := qJ (fun (u : Value) (hu : Own W1 w4 u (FI e s' m)) => (⟨hT.setOut (s := s) hm he hu, j12 u, hBw.setCell (hT.out.low m e hm he) (p := ⟨O.rb m e, s, none⟩) u⟩ : _ ∧ _ ∧ _))
                        have Hnx : Hid (FlB ns gs R e s (m + 1) FI (wR FO e s m (FI e s' m))) := qJ (by subst hs'; exact (qK HF).set hG he hs hm (qK Hh4))
                        have fl4 := (Array.getElem?_eq_some_iff.1 hfl).1
                        have he1 : (e : Int) < 6 := by omega
                        have hs2 : (s' : Int) < (R : Int) := by omega
                        have hws : IntKind.i64.wrap ((s : Int) - 1) = (s' : Int) := by rw [IntKind.wrap_i64]; omega
                        obtain ⟨_, _, hlce, hlc⟩ := hown.slice
                        cases hlce
                        have Hown := qJ hown
                        clear hT hfl hBw hown j12 hs'
                        go_wp2_with fail
                        refine wp_region_held_drew (S := (fun w' => w'.cell? ⟨fb, 0, none⟩ = some (.slice (some ⟨I.ob, 0, none⟩) ns.length I.oc) ∧ w'.cell? ⟨fb, 1, none⟩ = some (.slice (some ⟨O.ob, 0, none⟩) ns.length O.oc) ∧ w'.cell? ⟨O.ob, m, none⟩ = some (.slice (some ⟨O.tb m, 0, none⟩) 6 (O.tc m)) ∧ w'.cell? ⟨O.tb m, e, none⟩ = some (.slice (some ⟨O.rb m e, 0, none⟩) R R) ∧ w'.cell? ⟨I.ob, m, none⟩ = some (.slice (some ⟨I.tb m, 0, none⟩) 6 (I.tc m)) ∧ w'.cell? ⟨I.tb m, e, none⟩ = some (.slice (some ⟨I.rb m e, 0, none⟩) R R) ∧ w'.cell? ⟨I.rb m e, s', none⟩ = some (.slice la (FI e s' m).length lc))) (by kernel_rfl) (by (try dsimp only); go_keep) (fun hHeld => ?_)
                        refine tk 0 ?_; try simp only [Act.put, qT, qS, qR]
                        refine tk 1 ?_; try simp only [Act.put, qT, qS, qR]
                        refine tk 2 ?_; try simp only [Act.put, qT, qS, qR]
                        refine tk 3 ?_; try simp only [Act.put, qT, qS, qR]
                        refine tk 4 ?_; try simp only [Act.put, qT, qS, qR]
                        refine tk 5 ?_; try simp only [Act.put, qT, qS, qR]
                        refine tk 6 ?_; try simp only [Act.put, qT, qS, qR]
                        refine tk 7 ?_; try simp only [Act.put, qT, qS, qR]
                        refine tk 8 ?_; try simp only [Act.put, qT, qS, qR]
                        refine tk 9 ?_; try simp only [Act.put, qT, qS, qR]
                        refine tk 10 ?_; try simp only [Act.put, qT, qS, qR]
                        refine tk 11 ?_; try simp only [Act.put, qT, qS, qR]
                        refine tk 12 ?_; try simp only [Act.put, qT, qS, qR]
                        refine tk 13 ?_; try simp only [Act.put, qT, qS, qR]
                        refine tk 14 ?_; try simp only [Act.put, qT, qS, qR]
                        refine tk 15 ?_; try simp only [Act.put, qT, qS, qR]
                        refine tk 16 ?_; try simp only [Act.put, qT, qS, qR]
                        refine tk 17 ?_; try simp only [Act.put, qT, qS, qR]
                        refine tk 18 ?_; try simp only [Act.put, qT, qS, qR]
                        refine tk 19 ?_; try simp only [Act.put, qT, qS, qR]
                        refine tk 20 ?_; try simp only [Act.put, qT, qS, qR]
                        refine tk 21 ?_; try simp only [Act.put, qT, qS, qR]
                        refine wpAnyH_ready (rs := [22]) (by kernel_rfl) (by simp) ?_
                        refine AllReadyH.cons rfl (fun K hK => ?_) AllReadyH.nil
                        go_simp
                        refine hK.out _ _ (j8 _) (fun hHeld => ?_)
                        clear hK K
                        try simp only [Act.put, qT, qS, qR]
                        refine wpAnyH_done (by kernel_rfl) ?_ _
                        go_wp2_with fail
                        go_roundw
                        case rel =>
                          have hd : ∀ x : World, Bw x x.drew := fun x => (by repeat first|exact br _|assumption|apply bd|apply bn|apply ba|refine bt ?_ (by assumption))
                          obtain ⟨p1, p2, p3⟩ := (qK Hset) _ (qK Hown)
                          exact ⟨m + 1, _, _, by omega, by go_num, p1.bw (hd _), FkP.of (hd _) _ _ p2, p3.trans (hd _), qK Hnx⟩
                        case measure => simp [intOf]; omega
                    · have h4b : ((qV ns m).kind == 4) = false := by simpa using h4
                      have H4 := qJ (⟨hT, hfl, hBw⟩ : _ ∧ _ ∧ _)
                      have Hnx := qJ ((qK HF).skip hG hm (.inl h4))
                      clear hT hfl hBw h4
                      go_wp2_with fail
                      go_roundw
                      case rel => exact ⟨m + 1, _, _, by omega, by go_num, (qK H4).1, (qK H4).2.1, (qK H4).2.2, qK Hnx⟩
                      case measure => simp [intOf]; omega
                  · have hmm : m = ns.length := by omega
                    subst hmm
                    have H4 := qJ (⟨hT, hfl, hBw⟩ : _ ∧ _ ∧ _)
                    have Hps := qJ ((qK HF).pass hG (qK Hgv) (by omega))
                    clear hT hfl hBw
                    go_wp2_with fail
                    go_loopw [11] (fun i wi => ∃ (j : Nat) (FI FO : Nat → Nat → Nat → List Int), j ≤ ns.length ∧ i = .int .i64 j ∧ Two4 W1 wi I O ns.length R FI FO ∧ wi.heap[fb]? = some (.cells #[I.val ns.length, O.val ns.length] 62 (0, 0)) ∧ Bw W1 wi ∧ FlP ns gs R e s j FI FO) (fun i _ => ns.length - (intOf i).toNat)
                    case atStart => exact ⟨0, _, _, Nat.zero_le _, rfl, (qK H4).1, (qK H4).2.1, (qK H4).2.2, qK Hps⟩
                    case round =>
                      clear H4 Hps g0 gl3 HF
                      obtain ⟨j, FI, FO, hjL, rfl, hT, hfl, hBw, hF⟩ := hrel
                      rename World => w5
                      have HF := qJ hF
                      clear hF
                      have g0 := ((qX hBw).1 _ 0 g1l).trans (qQ (o := 0) b1 rfl)
                      have g1 := ((qX hBw).1 _ 1 g1l).trans (qQ (o := 1) b1 rfl)
                      have gl3 := Nat.lt_of_lt_of_le g1l hBw.size
                      have f0 := qQ (o := 0) hfl rfl
                      have f1 := qQ (o := 1) hfl rfl
                      have fl5 := (Array.getElem?_eq_some_iff.1 hfl).1
                      by_cases hj : j < ns.length
                      · have hj1 : (j : Int) < (ns.length : Int) := by omega
                        have Hrd := qJ (kround_any hG (qK Hlw) (qK Hgv) (qK Hkd) ga gc e s he hs hR4 h8 w5 (hn.below hB1) I O FI FO (1 ≤ j) hT hBw (qK HF).sb (qK HF).all (qK HF).few)
                        have Hfl := qJ hfl
                        clear hT hBw hfl
                        go_wp2_with (go_at_call 55; refine (qK Hrd).mono ?_; rintro _ w6 ⟨rfl, FI6, FO6, hT6, hB6, hK6, hR6⟩)
                        go_roundw
                        case rel => exact ⟨j + 1, _, _, by omega, by go_num, hT6, hK6 _ _ (qK Hfl), hB6, (qK HF).next hR6⟩
                        case measure => simp [intOf]; omega
                      · have hjj : j = ns.length := by omega
                        subst hjj
                        have H5 := qJ (⟨hT, hfl, hBw⟩ : _ ∧ _ ∧ _)
                        clear hT hfl hBw
                        go_wp2_with fail
                        go_roundw
                        case rel => exact ⟨s + 1, _, _, by omega, by go_num, (qK H5).1, (qK H5).2.1, (qK H5).2.2, (qK HF).done h1 h0⟩
                        case measure => simp [intOf]; omega
              · have hss : s = R := by omega
                subst hss
                have H3 := qJ (⟨hT, hfl, hBw⟩ : _ ∧ _ ∧ _)
                clear hT hfl hBw
                go_wp2_with fail
                go_roundw
                case rel => exact ⟨e + 1, _, _, by omega, by go_num, (qK H3).1, (qK H3).2.1, (qK H3).2.2, (qK HF).turn⟩
                case measure => simp [intOf]; omega
          · have hee : e = 6 := by omega
            subst hee
            have f0 : w2.cell? ⟨fb, 0, none⟩ = some (.slice (some ⟨I.ob, 0, none⟩) ns.length I.oc) := qQ (o := 0) hfl rfl
            have f1 : w2.cell? ⟨fb, 1, none⟩ = some (.slice (some ⟨O.ob, 0, none⟩) ns.length O.oc) := qQ (o := 1) hfl rfl
            have c2 : w2.heap[w.heap.size + 1]? = some (.cells #[.slice none 0 0, .slice none 0 0] 62 (0, 0)) := (Below.block hBw _ (Array.getElem?_eq_some_iff.1 b2).1).trans b2
            have r0 := qQ (o := 0) c2 rfl
            have r1 := qQ (o := 1) c2 rfl
            have rf0 := qZ (o := 0) c2
            have rf1 := qZ (o := 1) c2
            have rl := (Array.getElem?_eq_some_iff.1 c2).1
            have Hc2 := qJ c2
            have H2 := qJ (⟨hT, hfl, hBw⟩ : _ ∧ _ ∧ _)
            have Hfin := qJ (qK HF).final
            clear hT hfl hBw c2
            go_wp2_with fail
            obtain ⟨hT, hfl, hBw⟩ := qK H2
            have c3 := qY (k := 0) (v := .slice (some ⟨I.ob, 0, none⟩) ns.length I.oc) (qK Hc2)
            have c4 := qY (k := 1) (v := .slice (some ⟨O.ob, 0, none⟩) ns.length O.oc) c3
            have e0 := qQ (o := 0) (u := .slice (some ⟨I.ob, 0, none⟩) ns.length I.oc) c4 (by simp)
            have e1 := qQ (o := 1) (u := .slice (some ⟨O.ob, 0, none⟩) ns.length O.oc) c4 (by simp)
            refine bodyPost_ret (v := .agg #[I.val ns.length, O.val ns.length]) ?_ rfl ?_
            · simp [results, Try.results27, go_sem, Tb.val, e0, e1]
            exact ⟨I, O, FI, rfl, ((hT.inn.setTag (qK Hc2)).setTag c3).weaken hB1, qK Hfin, ((hB1.trans hBw).setCell (p := ⟨w.heap.size + 1, 0, none⟩) (Nat.le_succ _) _).setCell (p := ⟨w.heap.size + 1, 1, none⟩) (Nat.le_succ _) _⟩
end Go.Proofs.Ytfemleimkbjehaa
