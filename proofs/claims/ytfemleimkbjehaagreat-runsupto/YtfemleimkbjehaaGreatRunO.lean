import Derived.Test.YtfemleimkbjehaaGreatJ9
import Derived.Test.YtfemleimkbjehaaGreatRunF
set_option maxRecDepth 1000000
set_option maxHeartbeats 40000000
set_option linter.unusedVariables false
set_option linter.unusedSimpArgs false
namespace Go.Proofs.YtfemleimkbjehaaGreat
open Go.RowKit
theorem Tryz.infoIntsR : (Tryz.prog.info? 94).map (fun i => (i.zero, i.size, i.bytes)) = some (some (.slice none 0 0), 1, 24) := by kernel_rfl
def rst0 : RSt := ⟨[], [], [], [], fun _ _ => 0⟩
def zU (ns : List Nd) : Nat → Nat → Int := fun n x => jJ ns (x : Int) ns.length (n : Int)
def vJ (m : Nat) (f : Nat → Int) : List Value := (List.range m).map fun j => .int .i64 (f j)
def TabB (base : Nat) (w : World) (v : Value) (n m : Nat) (f : Nat → Nat → Int) : Prop :=
  ∃ vs : List Value, w.ownsRow base 94 1 v n vs ∧ ∀ i, i < n → ∃ u, vs[i]? = some u ∧ w.ownsRow base 3 1 u m (vJ m (f i))
theorem TabB.nil (base : Nat) (w : World) (m : Nat) (f : Nat → Nat → Int) : TabB base w (.slice none 0 0) 0 m f := ⟨[], World.ownsRow_nil _ _ _ _, fun i hi => absurd hi (Nat.not_lt_zero i)⟩
theorem TabB.map {base : Nat} {w w' : World} {v : Value} {n m : Nat} {f : Nat → Nat → Int} (h : TabB base w v n m f) (hf : ∀ (ty : TypeId) (u : Value) (k : Nat) (ys : List Value), ty = 94 ∨ ty = 3 → w.ownsRow base ty 1 u k ys → w'.ownsRow base ty 1 u k ys) : TabB base w' v n m f := by
  obtain ⟨vs, h1, h2⟩ := h
  refine ⟨vs, hf _ _ _ _ (.inl rfl) h1, fun i hi => ?_⟩
  obtain ⟨u, e, h3⟩ := h2 i hi
  exact ⟨u, e, hf _ _ _ _ (.inr rfl) h3⟩
theorem TabB.bw {base : Nat} {w w' : World} {v : Value} {n m : Nat} {f : Nat → Nat → Int} (h : TabB base w v n m f) (hb : Bw w w') : TabB base w' v n m f := h.map fun _ _ _ _ _ h => qX h fun g hg => Below.block hb g hg
theorem TabB.set {base : Nat} {w : World} {v : Value} {n m rb k : Nat} {f : Nat → Nat → Int} {arr : Array Value} {fr : Nat × Nat} {u : Value} (h : TabB base w v n m f) (hr : w.heap[rb]? = some (.cells arr 83 fr)) : TabB base (w.setCell ⟨rb, k, none⟩ u) v n m f :=
  h.map fun ty _ _ _ ht h => qN hr h (by rcases ht with rfl | rfl <;> decide)
theorem TabB.add {base : Nat} {w w' : World} {v v' u : Value} {n m : Nat} {f : Nat → Nat → Int} {vs : List Value} (h1 : w.ownsRow base 94 1 v n vs) (h2 : ∀ i, i < n → ∃ u, vs[i]? = some u ∧ w.ownsRow base 3 1 u m (vJ m (f i)))
    (hu : w.ownsRow base 3 1 u m (vJ m (f n))) (ho : w'.ownsRow base 94 1 v' (n + 1) (vs ++ [u])) (hg : w.grownBy w' v.ownBlock) : TabB base w' v' (n + 1) m f := by
  refine ⟨_, ho, fun i hi => ?_⟩
  have hvl : vs.length = n := by simpa using h1.1
  by_cases hn : i < n
  · obtain ⟨u', e, h3⟩ := h2 i hn
    exact ⟨u', by rw [List.getElem?_append_left (by omega)]; exact e, kQ h1 hg h3 (by decide)⟩
  · have : i = n := by omega
    subst this
    exact ⟨u, by rw [List.getElem?_append_right (by omega), hvl]; simp, kQ h1 hg hu (by decide)⟩
def TabI (base : Nat) (w : World) (v : Value) (n m : Nat) (f : Nat → Nat → Int) : Prop :=
  ∃ vs : List Value, w.ownsRow base 94 1 v n vs ∧ (∀ i, i < n → ∃ u, vs[i]? = some u ∧ w.ownsRow base 3 1 u m (vJ m (f i))) ∧ InjL vs
theorem TabI.nil (base : Nat) (w : World) (m : Nat) (f : Nat → Nat → Int) : TabI base w (.slice none 0 0) 0 m f := ⟨[], World.ownsRow_nil _ _ _ _, fun i hi => absurd hi (Nat.not_lt_zero i), fun i _ _ _ _ h => by simp at h⟩
theorem TabI.map {base : Nat} {w w' : World} {v : Value} {n m : Nat} {f : Nat → Nat → Int} (h : TabI base w v n m f) (hf : ∀ (ty : TypeId) (u : Value) (k : Nat) (ys : List Value), ty = 94 ∨ ty = 3 → w.ownsRow base ty 1 u k ys → w'.ownsRow base ty 1 u k ys) : TabI base w' v n m f := by
  obtain ⟨vs, h1, h2, h3⟩ := h
  refine ⟨vs, hf _ _ _ _ (.inl rfl) h1, fun i hi => ?_, h3⟩
  obtain ⟨u, e, h4⟩ := h2 i hi
  exact ⟨u, e, hf _ _ _ _ (.inr rfl) h4⟩
theorem TabI.set {base : Nat} {w : World} {v : Value} {n m rb k : Nat} {f : Nat → Nat → Int} {arr : Array Value} {fr : Nat × Nat} {u : Value} (h : TabI base w v n m f) (hr : w.heap[rb]? = some (.cells arr 83 fr)) : TabI base (w.setCell ⟨rb, k, none⟩ u) v n m f :=
  h.map fun ty _ _ _ ht h => qN hr h (by rcases ht with rfl | rfl <;> decide)
theorem TabI.add {base : Nat} {w w' : World} {v v' u : Value} {n m : Nat} {f : Nat → Nat → Int} {vs : List Value} (h1 : w.ownsRow base 94 1 v n vs) (h2 : ∀ i, i < n → ∃ u, vs[i]? = some u ∧ w.ownsRow base 3 1 u m (vJ m (f i))) (h3 : InjL vs)
    (hu : w.ownsRow base 3 1 u m (vJ m (f n))) (hn : ∀ (i : Nat) (a : Value) (g : Nat), vs[i]? = some a → Value.ownBlock a = some g → Value.ownBlock u ≠ some g) (ho : w'.ownsRow base 94 1 v' (n + 1) (vs ++ [u])) (hg : w.grownBy w' v.ownBlock) : TabI base w' v' (n + 1) m f := by
  have hvl : vs.length = n := by simpa using h1.1
  refine ⟨_, ho, fun i hi => ?_, fun i j a b g ha hb ga gb => ?_⟩
  · by_cases hn : i < n
    · obtain ⟨u', e, h3⟩ := h2 i hn
      exact ⟨u', by rw [List.getElem?_append_left (by omega)]; exact e, kQ h1 hg h3 (by decide)⟩
    · have : i = n := by omega
      subst this
      exact ⟨u, by rw [List.getElem?_append_right (by omega), hvl]; simp, kQ h1 hg hu (by decide)⟩
  · have hi : i < n + 1 := by have := (List.getElem?_eq_some_iff.1 ha).1; simp at this; omega
    have hj : j < n + 1 := by have := (List.getElem?_eq_some_iff.1 hb).1; simp at this; omega
    by_cases hi' : i < n
    · rw [List.getElem?_append_left (by omega)] at ha
      by_cases hj' : j < n
      · rw [List.getElem?_append_left (by omega)] at hb
        exact h3 i j a b g ha hb ga gb
      · have : j = n := by omega
        subst this
        rw [List.getElem?_append_right (by omega), hvl] at hb
        simp at hb
        subst hb
        exact absurd gb (hn i a g ha ga)
    · have : i = n := by omega
      subst this
      rw [List.getElem?_append_right (by omega), hvl] at ha
      simp at ha
      subst ha
      by_cases hj' : j < i
      · rw [List.getElem?_append_left (by omega)] at hb
        exact absurd ga (hn j b g hb gb)
      · omega
theorem TabB.tabIn {base : Nat} {w : World} {v : Value} {n m : Nat} {f : Nat → Nat → Int} {S : Nat → Prop} (h : TabB base w v n m f) (hS : ∀ b, base ≤ b → b < w.heap.size → S b) : TabIn S w v n m f := by
  have key : ∀ {ty : TypeId} {u : Value} {k : Nat} {ys : List Value}, w.ownsRow base ty 1 u k ys → OwnsIn S w ty 1 u k ys := fun h => ⟨qM h (Nat.zero_le _), fun b hb => hS b (World.ownsRow.lt h b hb).1 (World.ownsRow.lt h b hb).2⟩
  obtain ⟨vs, h1, h2⟩ := h
  refine ⟨vs, key h1, fun i hi => ?_⟩
  obtain ⟨u, e, h3⟩ := h2 i hi
  exact ⟨u, e, key h3⟩
theorem made_row {w w' : World} {n : Nat} (h : w'.heap[w.heap.size]? = some (.cells (madeCells #[.int .i64 0] n) 3 (0, 0))) (hn : n ≤ 1000) (base : Nat) (hb : base ≤ w.heap.size) (f : Nat → Int) (hf : ∀ j, f j = 0) : w'.ownsRow base 3 1 (.slice (some ⟨w.heap.size, 0, none⟩) n n) n (vJ n f) := by
  refine ⟨by simp [vJ], .inr ⟨_, _, _, rfl, hb, h, Nat.le_refl _, by unfold maxLen; omega, by simp [size_madeCells], ?_⟩⟩
  rw [toList_madeCells_one]
  apply List.ext_getElem?
  intro j
  unfold vJ
  by_cases hj : j < n
  · simp [hj, hf]
  · simp [hj]
theorem bw_grown {w w' : World} (h : w.grownBy w' none) : Bw w w' := ⟨h.os, h.tape, h.output, h.size, fun i hi => h.block i hi (by simp)⟩
theorem nodes_row {w : World} {ga : Option Addr} {ns : List Nd} (h : NodesAt w ga ns) : CellsAt w ga ns.length (qL ns) := by
  intro hm
  obtain ⟨b, off, e, _, hc⟩ := h 0 hm
  refine ⟨b, off, e, fun j u hj => ?_⟩
  have := nodeCells_src hc j u hj
  rw [Go.WideShapes.add_plain] at this
  exact this
theorem qU {w : World} {b k : Nat} {arr : Array Value} {t : TypeId} {v : Value} (h : w.heap[b]? = some (.cells arr t (0, 0))) : (w.setCell ⟨b, k, none⟩ v).heap[b]? = some (.cells (arr.setIfInBounds k v) t (0, 0)) := by
  rw [setCell_eq_setRow w b k arr t (0, 0) _ h]
  exact setRow_heap w b arr _ _ _ h
theorem qP (w : World) (b k : Nat) (v : Value) : Chg (fun x => x = b) w (w.setCell ⟨b, k, none⟩ v) :=
  ⟨rfl, rfl, rfl, by simp, fun i _ hn => Below.heap_setCell w ⟨b, k, none⟩ v i hn⟩
theorem cells1 {w : World} {g : Nat} {a : Value} (h0 : w.cell? ⟨g, 0, none⟩ = some a) : ∀ j u, [a][j]? = some u → w.cell? ⟨g, j, none⟩ = some u := by
  intro j u hj
  match j, hj with
  | 0, hj => simp at hj; subst hj; exact h0
structure NewIn (w wr : World) (gb rb : Nat) (vn vt vd : Value) (ns : List Nd) (R W : Nat) : Prop where
  gr : wr.heap[gb]? = some (.cells #[vn, .int .i64 (R : Int)] 24 (0, 0))
  rt : wr.heap[rb]? = some (.cells #[vn, .int .i64 (R : Int), .int .i64 (W : Int), .slice none 0 0, .slice none 0 0, .slice none 0 0, .slice none 0 0, vt, vd] 83 (0, 0))
  nd : wr.ownsRow w.heap.size 46 5 vn ns.length (qL ns)
  gbl : w.heap.size ≤ gb
  rbl : w.heap.size ≤ rb
  bel : Bw w wr
theorem NewIn.bw {w a b : World} {gb rb : Nat} {vn vt vd : Value} {ns : List Nd} {R W : Nat} (h : NewIn w a gb rb vn vt vd ns R W) (hb : Bw a b) : NewIn w b gb rb vn vt vd ns R W :=
  ⟨(Below.block hb _ (Array.getElem?_eq_some_iff.1 h.gr).1).trans h.gr, (Below.block hb _ (Array.getElem?_eq_some_iff.1 h.rt).1).trans h.rt, qX h.nd fun g hg => Below.block hb g hg, h.gbl, h.rbl, h.bel.trans hb⟩
theorem NewIn.grow {w a b : World} {gb rb n size base : Nat} {vn vt vd u : Value} {ns : List Nd} {R W : Nat} {xs : List Value} (h : NewIn w a gb rb vn vt vd ns R W) (hown : a.ownsRow base 94 size u n xs) (hg : a.grownBy b u.ownBlock) (hbs : w.heap.size ≤ base) : NewIn w b gb rb vn vt vd ns R W :=
  ⟨qW hown hg h.gr (.inl (by decide)), qW hown hg h.rt (.inl (by decide)), kQ hown hg h.nd (by decide), h.gbl, h.rbl,
    ⟨hg.os.trans (Below.os h.bel), hg.tape.trans (Below.tape h.bel), hg.output.trans (Below.output h.bel), Nat.le_trans (Below.size h.bel) hg.size, fun i hi => (hg.block i (Nat.lt_of_lt_of_le hi (Below.size h.bel)) (fun e => by have := (World.ownsRow.lt hown i e.symm).1; omega)).trans (Below.block h.bel i hi)⟩⟩
theorem NewIn.setT {w a : World} {gb rb : Nat} {vn vt vd v : Value} {ns : List Nd} {R W : Nat} (h : NewIn w a gb rb vn vt vd ns R W) : NewIn w (a.setCell ⟨rb, 7, none⟩ v) gb rb vn v vd ns R W := by
  have hne : gb ≠ rb := fun e => by have h1 := h.gr; rw [e, h.rt] at h1; simp at h1
  refine ⟨(Below.heap_setCell a ⟨rb, 7, none⟩ v gb hne).trans h.gr, ?_, qN h.rt h.nd (by decide), h.gbl, h.rbl, ?_⟩
  · rw [qU h.rt]; rfl
  · exact (Chg.toBw (S := fun b => b = rb) h.bel (qP a rb 7 v) (fun x hx => hx ▸ h.rbl))
theorem NewIn.setD {w a : World} {gb rb : Nat} {vn vt vd v : Value} {ns : List Nd} {R W : Nat} (h : NewIn w a gb rb vn vt vd ns R W) : NewIn w (a.setCell ⟨rb, 8, none⟩ v) gb rb vn vt v ns R W := by
  have hne : gb ≠ rb := fun e => by have h1 := h.gr; rw [e, h.rt] at h1; simp at h1
  refine ⟨(Below.heap_setCell a ⟨rb, 8, none⟩ v gb hne).trans h.gr, ?_, qN h.rt h.nd (by decide), h.gbl, h.rbl, ?_⟩
  · rw [qU h.rt]; rfl
  · exact (Chg.toBw (S := fun b => b = rb) h.bel (qP a rb 8 v) (fun x hx => hx ▸ h.rbl))
theorem told_mid {w wr wa w4 : World} {gb rb k W R : Nat} {vn vt vd v' : Value} {ns : List Nd} {vs : List Value} (hN : NewIn w wr gb rb vn vt vd ns R W) (h1 : wr.ownsRow w.heap.size 94 1 vt k vs) (h2 : ∀ i, i < k → ∃ u, vs[i]? = some u ∧ wr.ownsRow w.heap.size 3 1 u W (vJ W (fun _ => 0))) (h3 : InjL vs)
    (hb : Bw wr wa) (hm : wa.heap[wr.heap.size]? = some (.cells (madeCells #[.int .i64 0] W) 3 (0, 0))) (hW : W ≤ 4) (ho : w4.ownsRow w.heap.size 94 1 v' (k + 1) (vs ++ [.slice (some ⟨wr.heap.size, 0, none⟩) W W])) (hg : wa.grownBy w4 vt.ownBlock) :
    NewIn w w4 gb rb vn vt vd ns R W ∧ NewIn w (w4.setCell ⟨rb, 7, none⟩ v') gb rb vn v' vd ns R W ∧ TabI w.heap.size (w4.setCell ⟨rb, 7, none⟩ v') v' (k + 1) W (fun _ _ => 0) := by
  have h1a := qX h1 fun g hg => Below.block hb g hg
  have hN4 := (hN.bw hb).grow h1a hg (Nat.le_refl _)
  refine ⟨hN4, hN4.setT, TabI.set (TabI.add (f := fun _ _ => 0) h1a (fun i hi => ?_) h3 (made_row hm (by omega) _ (Below.size hN.bel) _ (fun _ => rfl)) (fun i a g ha ga gb => ?_) ho hg) hN4.rt⟩
  · obtain ⟨u, e, h3⟩ := h2 i hi
    exact ⟨u, e, qX h3 fun g hg => Below.block hb g hg⟩
  · have hi : i < k := by have h5 := (List.getElem?_eq_some_iff.1 ha).1; have h6 : vs.length = k := by simpa using h1.1
                          omega
    obtain ⟨u, e, h4⟩ := h2 i hi
    rw [ha] at e
    simp only [Option.some.injEq] at e
    subst e
    have h5 := (World.ownsRow.lt h4 g ga).2
    simp only [Value.ownBlock, Option.some.injEq] at gb
    omega
theorem row_chg {base rb k : Nat} {w w' : World} {ty : TypeId} {u : Value} {ys : List Value} {arr : Array Value} {fr : Nat × Nat} (hu : w.ownsRow base ty 1 u k ys) (ht : ty = 94 ∨ ty = 3) (hr : w.heap[rb]? = some (.cells arr 83 fr)) (hc : Chg (fun b => b = rb) w w') : w'.ownsRow base ty 1 u k ys := by
  obtain ⟨hl, hu⟩ := hu
  refine ⟨hl, ?_⟩
  rcases hu with hu | ⟨g, cap, cur, e1, hgb, hcc, r⟩
  · exact .inl hu
  · refine .inr ⟨g, cap, cur, e1, hgb, (hc.block g (Array.getElem?_eq_some_iff.1 hcc).1 ?_).trans hcc, r⟩
    intro e
    subst e
    rw [hr] at hcc
    simp only [Option.some.injEq, Obj.cells.injEq] at hcc
    rcases ht with rfl | rfl
    · exact absurd hcc.2.1 (by decide)
    · exact absurd hcc.2.1 (by decide)
theorem dist_mid {w w0 wr wa w4 : World} {gb rb k L W R : Nat} {vn vt vd v' u : Value} {ns : List Nd} {vs : List Value} (hN : NewIn w wr gb rb vn vt vd ns R W) (h0 : w.heap.size ≤ w0.heap.size) (hC : Chg (fun b => b = rb) w0 wr) (h1 : wr.ownsRow w0.heap.size 94 1 vd k vs) (h2 : ∀ i, i < k → ∃ u, vs[i]? = some u ∧ wr.ownsRow w0.heap.size 3 1 u L (vJ L (zU ns i)))
    (hb : Bw wr wa) (hu : wa.ownsRow w0.heap.size 3 1 u L (vJ L (zU ns k))) (ho : w4.ownsRow w0.heap.size 94 1 v' (k + 1) (vs ++ [u])) (hg : wa.grownBy w4 vd.ownBlock) :
    NewIn w w4 gb rb vn vt vd ns R W ∧ NewIn w (w4.setCell ⟨rb, 8, none⟩ v') gb rb vn vt v' ns R W ∧ TabB w0.heap.size (w4.setCell ⟨rb, 8, none⟩ v') v' (k + 1) L (zU ns) ∧ Chg (fun b => b = rb) w0 (w4.setCell ⟨rb, 8, none⟩ v') := by
  have h1a := qX h1 fun g hg => Below.block hb g hg
  have hN4 := (hN.bw hb).grow h1a hg h0
  have hCa : Chg (fun b => b = rb) w0 wa := hC.trans (Chg.bw (S := fun b => b = rb) hb) (fun _ h => .inl h)
  have hC4 : Chg (fun b => b = rb) w0 w4 := by
    have k2 : Chg (fun b => vd.ownBlock = some b) wa w4 := ⟨hg.os, hg.tape, hg.output, hg.size, fun i hi hn => hg.block i hi (fun e => hn e.symm)⟩
    exact hCa.trans k2 (fun b hb => .inr (World.ownsRow.lt h1a b hb).1)
  refine ⟨hN4, hN4.setD, TabB.set (TabB.add (f := zU ns) h1a (fun i hi => ?_) hu ho hg) hN4.rt, hC4.trans (qP _ _ _ _) (fun _ h => .inl h)⟩
  obtain ⟨u, e, h3⟩ := h2 i hi
  exact ⟨u, e, qX h3 fun g hg => Below.block hb g hg⟩
theorem intRow_ints (m : Nat) (f : Nat → Int) : vJ m f = ((List.range m).map f).map (Value.int .i64) := by simp [vJ]
theorem nodesAt_row {w : World} {base : Nat} {v : Value} {ns : List Nd} (h : w.ownsRow base 46 5 v ns.length (qL ns)) : NodesAt w (kY v) ns := by
  intro i hi
  obtain ⟨g, e, hl, hc⟩ := qB h (by omega)
  refine ⟨g, 0, e, hl, fun j hj => ?_⟩
  simp only [Nat.zero_add]
  have q : ∀ f, f < 5 → ∀ u, (Nd.cells (qT ns j))[f]? = some u → w.cell? ⟨g, j * 5 + f, none⟩ = some u := fun f hf u hu => hc _ _ ((kD ns j hj f hf).trans hu)
  exact ⟨q 0 (by omega) _ rfl, q 1 (by omega) _ rfl, q 2 (by omega) _ rfl, q 3 (by omega) _ rfl, q 4 (by omega) _ rfl⟩
def newE (ns : List Nd) (r wk : Int) : Int := if refE ns r != 0 then refE ns r else if decide (wk < 1) || decide (4 < wk) then 3 else 0
theorem rnew_bad (ns : List Nd) (ga : Option Addr) (gc : Nat) (r wk : Int) (w : World) (hn : NodesAt w ga ns) (hgl : ns.length ≤ maxLen) (hE : newE ns r wk ≠ 0) :
    Calls Tryz.prog 15 #[.agg #[.slice ga ns.length gc, .int .i64 r], .int .i64 wk] w fun e w' => e = .returned (.tuple #[.pointer none, .int .i64 (newE ns r wk)]) ∧ Bw w w' := by
  cases hR : (refE ns r != 0) with
  | true =>
    have He : Hid (newE ns r wk = refE ns r) := qJ (by unfold newE; rw [if_pos hR])
    clear hE
    go_enter Tryz.func15, Tryz.ntmps15
    go_wp2_with (go_at_call 26; refine (rcheck_any ns _ _ _ _ (hn.below (by repeat first|exact br _|assumption|apply bd|apply bn|apply ba|refine bt ?_ (by assumption))) hgl).mono ?_; rintro e w' ⟨rfl, hbl⟩)
    go_ret2
    exact ⟨by rw [qK He]; rfl, (by repeat first|exact br _|assumption|apply bd|apply bn|apply ba|refine bt ?_ (by assumption))⟩
  | false =>
    have HE : Hid (newE ns r wk = if decide (wk < 1) || decide (4 < wk) then 3 else 0) := qJ (by unfold newE; rw [hR]; rfl)
    cases h1 : decide (wk < 1) with
    | true =>
      have He : Hid (newE ns r wk = 3) := qJ (by rw [qK HE, h1]; rfl)
      clear hE
      go_enter Tryz.func15, Tryz.ntmps15
      go_wp2_with (go_at_call 26; refine (rcheck_any ns _ _ _ _ (hn.below (by repeat first|exact br _|assumption|apply bd|apply bn|apply ba|refine bt ?_ (by assumption))) hgl).mono ?_; rintro e w' ⟨rfl, hbl⟩)
      go_ret2
      exact ⟨by rw [qK He]; rfl, (by repeat first|exact br _|assumption|apply bd|apply bn|apply ba|refine bt ?_ (by assumption))⟩
    | false =>
      cases h2 : decide (4 < wk) with
      | true =>
        have He : Hid (newE ns r wk = 3) := qJ (by rw [qK HE, h1, h2]; rfl)
        clear hE
        go_enter Tryz.func15, Tryz.ntmps15
        go_wp2_with (go_at_call 26; refine (rcheck_any ns _ _ _ _ (hn.below (by repeat first|exact br _|assumption|apply bd|apply bn|apply ba|refine bt ?_ (by assumption))) hgl).mono ?_; rintro e w' ⟨rfl, hbl⟩)
        go_ret2
        exact ⟨by rw [qK He]; rfl, (by repeat first|exact br _|assumption|apply bd|apply bn|apply ba|refine bt ?_ (by assumption))⟩
      | false => exact absurd (by rw [qK HE, h1, h2]; rfl) hE
theorem rnew_ok (ns : List Nd) (ga : Option Addr) (gc : Nat) (R W : Nat) (w : World) (hn : NodesAt w ga ns) (hE : refE ns R = 0) (h1 : 1 ≤ ns.length) (h8 : ns.length ≤ 8) (hR1 : 1 ≤ R) (hR4 : R ≤ 4) (hW1 : 1 ≤ W) (hW4 : W ≤ 4) :
    Calls Tryz.prog 15 #[.agg #[.slice ga ns.length gc, .int .i64 (R : Int)], .int .i64 (W : Int)] w fun e w' => ∃ rb x, e = .returned (.tuple #[.pointer (some ⟨rb, 0, none⟩), .int .i64 0]) ∧ ROwn w' (fun b => w.heap.size ≤ b ∧ b < w'.heap.size) rb x ns R W (zU ns) rst0 ∧ Bw w w' := by
  have HE := qJ hE
  clear hE
  have d1 : decide ((W : Int) < 1) = false := by simp; omega
  have d2 : decide (4 < (W : Int)) = false := by simp; omega
  go_enter Tryz.func15, Tryz.ntmps15
  go_wp2_with (first | (go_at_call 26; refine (rcheck_any ns _ _ _ _ (hn.below (by repeat first|exact br _|assumption|apply bd|apply bn|apply ba|refine bt ?_ (by assumption))) (by unfold maxLen; omega)).mono ?_; rintro e w' ⟨rfl, hbl⟩; rw [qK HE]; obtain ⟨hcc, hff⟩ := qS hbl; have hz0 : w.heap.size < w'.heap.size := (by have := hbl.size; (try simp at this); omega)) | (at_builtin; refine appG _ rfl _ _ _ 46 rfl _ 5 40 Tryz.infoNode Tryz.underlying22 rfl (by decide) w.heap.size (.slice none 0 0) 0 [] rfl (World.ownsRow_nil _ _ _ _) _ ns.length _ (qL ns) rfl (zT ns) (nodes_row (hn.below (by repeat first|exact br _|assumption|apply bd|apply bn|apply ba|refine bt ?_ (by assumption)))) (nodeCells_one ns) (by omega) (by omega) (Bw.size (by repeat first|exact br _|assumption|apply bd|apply bn|apply ba|refine bt ?_ (by assumption))) ?_; intro v0 w2 hown2 hgr2 hl2; have hB2 := bw_grown hgr2; rw [Nat.zero_add, List.nil_append] at hown2; have hb2 := Below.block hB2 w'.heap.size (by simp); rw [heap_alloc_new] at hb2; have e0 := qQ (o := 0) hb2 rfl; have e1 := qQ (o := 1) hb2 rfl; have ef := qZ (o := 0) hb2; have el := (Array.getElem?_eq_some_iff.1 hb2).1; obtain ⟨na, nc, hv0⟩ : ∃ na nc, v0 = .slice na ns.length nc := ⟨_, _, qV hown2⟩; subst hv0))
  obtain ⟨w3, hw3⟩ : ∃ w3, (w2.setCell ⟨w'.heap.size, 0, none⟩ (.slice na ns.length nc)).alloc (.cells #[.slice na ns.length nc, .int .i64 (R : Int), .int .i64 (W : Int), .slice none 0 0, .slice none 0 0, .slice none 0 0, .slice none 0 0, .slice none 0 0, .slice none 0 0] 83) = w3 := ⟨_, rfl⟩
  have hN0 : NewIn w w3 w'.heap.size w2.heap.size (.slice na ns.length nc) (.slice none 0 0) (.slice none 0 0) ns R W := by
    have hbw : Bw w (w2.setCell ⟨w'.heap.size, 0, none⟩ (.slice na ns.length nc)) := Chg.toBw (S := fun b => b = w'.heap.size) (show Bw w w2 from (by repeat first|exact br _|assumption|apply bd|apply bn|apply ba|refine bt ?_ (by assumption))) (qP _ _ _ _) (fun x hx => by rw [hx]; omega)
    rw [← hw3]
    refine ⟨?_, ?_, ?_, by omega, by omega, hbw.alloc _⟩
    · exact (Below.block ((Bw.refl _).alloc _) _ (by simpa using el)).trans ((qU hb2).trans rfl)
    · rw [← show (w2.setCell ⟨w'.heap.size, 0, none⟩ (.slice na ns.length nc)).heap.size = w2.heap.size by simp]; exact heap_alloc_new _ _
    · exact qX (qN hb2 hown2 (by decide)) fun g hg => Below.block ((Bw.refl _).alloc _) g hg
  obtain ⟨gb, hgb⟩ : ∃ gb, w'.heap.size = gb := ⟨_, rfl⟩
  obtain ⟨rb, hrb⟩ : ∃ rb, w2.heap.size = rb := ⟨_, rfl⟩
  have hsz : (w2.setCell ⟨w'.heap.size, 0, none⟩ (.slice na ns.length nc)).heap.size = w2.heap.size := by simp
  rw [hw3]
  simp only [hsz, hgb, hrb] at *
  clear hw3 hbl hcc hff hz0 hgr2 hB2 hb2 e0 e1 ef el hl2 hown2 hsz hgb hrb
  have hmk := make_ints (W : Int) W rfl (by omega)
  go_loopw [9] (fun i wr => ∃ (k : Nat) (vt : Value), k ≤ W ∧ i = .int .i64 k ∧ NewIn w wr gb rb (.slice na ns.length nc) vt (.slice none 0 0) ns R W ∧ TabI w.heap.size wr vt k W (fun _ _ => 0)) (fun i _ => W - (intOf i).toNat)
  case atStart => exact ⟨0, _, Nat.zero_le _, rfl, hN0, TabI.nil _ _ _ _⟩
  case round =>
    clear hN0
    obtain ⟨k, vt, hk, rfl, hN, hT⟩ := hrel
    rename World => wr
    have hvt : ∃ ta tc, vt = .slice ta k tc := by
      obtain ⟨vs, h, _⟩ := hT
      exact ⟨_, _, qV h⟩
    obtain ⟨ta, tc, rfl⟩ := hvt
    by_cases hlt : k < W
    · obtain ⟨vs, ht1, ht2, hti⟩ := hT
      have r7 := qQ (o := 7) hN.rt rfl
      have rl := (Array.getElem?_eq_some_iff.1 hN.rt).1
      have hl1 : decide ((k : Int) < (W : Int)) = true := by simp; omega
      have hbs := Below.size hN.bel
      have HN := qJ hN
      have Ht1 := qJ ht1
      have Ht2 := qJ ht2
      clear hN ht1 ht2
      go_wp2_with fail
      go_region_law (refine yT rfl _ _ _ 94 rfl _ 1 24 Tryz.infoIntsR Tryz.underlying81 rfl (by decide) w.heap.size _ k vs rfl (qX (qK Ht1) fun g hg => Below.block (show Bw wr _ from (by repeat first|exact br _|assumption|apply bd|apply bn|apply ba|refine bt ?_ (by assumption))) g hg) _ _ [.slice (some ⟨wr.heap.size, 0, none⟩) W W] rfl rfl (cells1 (qQ (qY _ _ (by simp)) rfl)) (by simp [Value.oneCell']) (by omega) (by omega) (Nat.le_trans hbs (Bw.size (by repeat first|exact br _|assumption|apply bd|apply bn|apply ba|refine bt ?_ (by assumption)))) ?_; intro g' cap w4 ho4 hg4 hl4; have Hm := qJ (told_mid (qK HN) (qK Ht1) (qK Ht2) hti (show Bw wr _ from (by repeat first|exact br _|assumption|apply bd|apply bn|apply ba|refine bt ?_ (by assumption))) ((Below.block (show Bw (wr.alloc (.cells (madeCells #[.int .i64 0] W) 3)) _ from (by repeat first|exact br _|assumption|apply bd|apply bn|apply ba|refine bt ?_ (by assumption))) _ (by simp)).trans (heap_alloc_new wr _)) hW4 ho4 hg4); have q7 := qQ (o := 7) (qK Hm).1.rt rfl; have q7f := qZ (o := 7) (qK Hm).1.rt; have q7l := (Array.getElem?_eq_some_iff.1 (qK Hm).1.rt).1)
      all_goals (
        obtain ⟨_, hN5, hT5⟩ := qK Hm
        go_wp2_with fail
        go_roundw
        case rel => exact ⟨k + 1, _, by omega, by go_num, hN5, hT5⟩
        case measure => simp [intOf]; omega)
    · have hl1 : decide ((k : Int) < (W : Int)) = false := by simp; omega
      have hkk : k = W := by omega
      have HT : Hid (TabI w.heap.size wr (.slice ta k tc) W W (fun _ _ => 0)) := qJ (hkk ▸ hT)
      clear hkk
      have hrt0 := qJ hN.rt
      have hbs := Below.size hN.bel
      have HN := qJ hN
      clear hN hT
      go_wp2_with fail
      go_loopw [10] (fun i w5 => ∃ (n : Nat) (vd : Value), n ≤ ns.length ∧ i = .int .i64 n ∧ NewIn w w5 gb rb (.slice na ns.length nc) (.slice ta k tc) vd ns R W ∧ TabB wr.heap.size w5 vd n ns.length (zU ns) ∧ Chg (fun b => b = rb) wr w5) (fun i _ => ns.length - (intOf i).toNat)
      case atStart => exact ⟨0, _, Nat.zero_le _, rfl, qK HN, TabB.nil _ _ _ _, Chg.refl _ _⟩
      case round =>
        obtain ⟨n, vd, hnl, rfl, hN, hT, hC⟩ := hrel
        rename World => w5
        have hvd : ∃ da dc, vd = .slice da n dc := by
          obtain ⟨vs, h, _⟩ := hT
          exact ⟨_, _, qV h⟩
        obtain ⟨da, dc, rfl⟩ := hvd
        have g0 := qQ (o := 0) hN.gr rfl
        have g1 := qQ (o := 1) hN.gr rfl
        have gl := (Array.getElem?_eq_some_iff.1 hN.gr).1
        by_cases hlt : n < ns.length
        · have HN5 := qJ hN
          have HT5 := qJ hT
          clear hN hT
          go_wp2_with fail
          go_loopw [11, 12] (fun v i w6 => ∃ y : Nat, y ≤ ns.length ∧ i = .int .i64 y ∧ Own w5 w6 v ((List.range y).map (zU ns n)) ∧ Bw w5 w6) (fun _ i _ => ns.length - (intOf i).toNat)
          case atStart => exact ⟨0, Nat.zero_le _, rfl, Own.nil _ _, Bw.refl _⟩
          case round =>
            obtain ⟨y, hyl, rfl, hown, hB6⟩ := hrel
            rename World => w6
            have hN6 := (qK HN5).bw hB6
            have g0 := qQ (o := 0) hN6.gr rfl
            have g1 := qQ (o := 1) hN6.gr rfl
            have gl6 := (Array.getElem?_eq_some_iff.1 hN6.gr).1
            have hnd : NodesAt w6 na ns := nodesAt_row hN6.nd
            have hrl : ((List.range y).map (zU ns n)).length = y := by simp
            have Hrl := qJ hrl
            clear hrl
            by_cases hyt : y < ns.length
            · have Hsn : Hid ((List.range (y + 1)).map (zU ns n) = (List.range y).map (zU ns n) ++ [zU ns n y]) := qJ (by rw [List.range_succ, List.map_append]; rfl)
              clear hN6
              go_wp2_with (first | (go_at_call 27; refine (far_any ns _ _ _ _ _ _ hnd h8).mono ?_; rintro e w7 ⟨rfl, hbl7⟩) | (at_builtin; refine app1 _ rfl _ _ rfl _ _ ((List.range y).map (zU ns n)) rfl (hown.bw (by repeat first|exact br _|assumption|apply bd|apply bn|apply ba|refine bt ?_ (by assumption))) _ _ (zU ns n y) rfl (by simp [zU]) (by have := qK Hrl; omega) (by repeat first|exact br _|assumption|apply bd|apply bn|apply ba|refine bt ?_ (by assumption)) ?_; intro v' w8 hown8 hB8 hgr8))
              go_roundw
              case rel => exact ⟨y + 1, by omega, by go_num, by rw [qK Hsn]; exact hown8, hB8⟩
              case measure => simp [intOf]; omega
            · have hyy : y = ns.length := by omega
              subst hyy
              obtain ⟨ya, yc, rfl, _, _⟩ := hown.form
              obtain ⟨vs, ht1, ht2⟩ := qK HT5
              have r8 := qQ (o := 8) hN6.rt rfl
              have rl := (Array.getElem?_eq_some_iff.1 hN6.rt).1
              have Hu := qJ hown
              have Ht1 := qJ ht1
              have Ht2 := qJ ht2
              have hz5 := hC.size
              clear hN6 ht1 ht2 hown
              rw [qK Hrl] at *
              go_wp2_with (at_builtin; refine appL _ rfl _ _ _ 94 rfl _ 1 24 Tryz.infoIntsR Tryz.underlying81 rfl (by decide) wr.heap.size _ n vs rfl (qX (qK Ht1) fun g hg => Below.block (show Bw w5 _ from (by repeat first|exact br _|assumption|apply bd|apply bn|apply ba|refine bt ?_ (by assumption))) g hg) _ _ [.slice ya ns.length yc] rfl rfl (cells1 (qQ (qY _ _ (by simp)) rfl)) (by simp [Value.oneCell']) (by omega) (by omega) (Nat.le_trans hz5 (Bw.size (by repeat first|exact br _|assumption|apply bd|apply bn|apply ba|refine bt ?_ (by assumption)))) ?_; intro g' cap w8 ho8 hg8 hl8; have Hm := qJ (dist_mid (qK HN5) hbs hC (qK Ht1) (qK Ht2) (show Bw w5 _ from (by repeat first|exact br _|assumption|apply bd|apply bn|apply ba|refine bt ?_ (by assumption))) (by rw [intRow_ints]; exact qX (qM (by simpa [Own] using qK Hu) hz5) fun g hg => Below.block (show Bw w6 _ from (by repeat first|exact br _|assumption|apply bd|apply bn|apply ba|refine bt ?_ (by assumption))) g hg) ho8 hg8); have q8 := qQ (o := 8) (qK Hm).1.rt rfl; have q8f := qZ (o := 8) (qK Hm).1.rt; have q8l := (Array.getElem?_eq_some_iff.1 (qK Hm).1.rt).1)
              obtain ⟨_, hN9, hT9, hC9⟩ := qK Hm
              go_roundw
              case rel => exact ⟨n + 1, _, by omega, by go_num, hN9, hT9, hC9⟩
              case measure => simp [intOf]; omega
        · have hnn : n = ns.length := by omega
          subst hnn
          obtain ⟨ts, ht1, ht2, hti⟩ := qK HT
          have hTt : TabB w.heap.size w5 (.slice ta k tc) W W (fun _ _ => 0) := ⟨ts, row_chg ht1 (.inl rfl) (qK hrt0) hC, fun i hi => by
            obtain ⟨u, e, h3⟩ := ht2 i hi
            exact ⟨u, e, row_chg h3 (.inr rfl) (qK hrt0) hC⟩⟩
          have ht1' := row_chg ht1 (.inl rfl) (qK hrt0) hC
          have htl : ts.length = W := by simpa using ht1.1
          have htb : ∀ (i : Nat) (a : Value) (g : Nat), ts[i]? = some a → Value.ownBlock a = some g → g < wr.heap.size := by
            intro i a g ha ga
            have hi : i < W := by have := (List.getElem?_eq_some_iff.1 ha).1; omega
            obtain ⟨u, e, h3⟩ := ht2 i hi
            rw [ha] at e
            simp only [Option.some.injEq] at e
            subst e
            exact (World.ownsRow.lt h3 g ga).2
          obtain ⟨ds, hd1, hd2⟩ := id hT
          have hdl : ds.length = ns.length := by simpa using hd1.1
          have hdb : ∀ (j : Nat) (b : Value) (g : Nat), ds[j]? = some b → Value.ownBlock b = some g → wr.heap.size ≤ g := by
            intro j b g hb gb
            have hj : j < ns.length := by have := (List.getElem?_eq_some_iff.1 hb).1; omega
            obtain ⟨u, e, h3⟩ := hd2 j hj
            rw [hb] at e
            simp only [Option.some.injEq] at e
            subst e
            exact (World.ownsRow.lt h3 g gb).1
          have Hx := qJ (And.intro ht1' (And.intro hd1 (And.intro hti (And.intro htb hdb))))
          clear ht1 ht2 hti ht1' htl htb hd1 hd2 hdl hdb
          have HN5 := qJ hN
          have HT5 := qJ hT
          clear hN hT
          go_wp2_with fail
          go_ret2
          have hN := qK HN5
          have lt := (Array.getElem?_eq_some_iff.1 hN.rt).1
          refine ⟨rb, ⟨.slice na ns.length nc, .slice none 0 0, .slice none 0 0, .slice none 0 0, .slice none 0 0, .slice ta k tc, .slice da ns.length dc, ts, ds⟩, rfl, ?_, hN.bel⟩
          obtain ⟨x1, x2, x3, x4, x5⟩ := qK Hx
          have key : ∀ {ba : Nat} {ty : TypeId} {u : Value} {k : Nat} {ys : List Value}, w.heap.size ≤ ba → w5.ownsRow ba ty 1 u k ys → OwnsIn (fun b => w.heap.size ≤ b ∧ b < w5.heap.size) w5 ty 1 u k ys := fun hba h => ⟨qM h (Nat.zero_le _), fun b hb => ⟨Nat.le_trans hba (World.ownsRow.lt h b hb).1, (World.ownsRow.lt h b hb).2⟩⟩
          refine ⟨hN.rt, ⟨hN.rbl, lt⟩, fun b hb => hb.2, ⟨qM hN.nd (Nat.zero_le _), fun b hb => World.ownsRow.lt hN.nd b hb⟩, ⟨World.ownsRow_nil _ _ _ _, by simp [Value.ownBlock]⟩, ⟨[], rfl, ⟨World.ownsRow_nil _ _ _ _, by simp [Value.ownBlock]⟩, fun i hi => absurd hi (Nat.not_lt_zero i)⟩, ⟨World.ownsRow_nil _ _ _ _, by simp [Value.ownBlock]⟩, ⟨World.ownsRow_nil _ _ _ _, by simp [Value.ownBlock]⟩, hTt.tabIn fun b h1 h2 => ⟨h1, h2⟩, (qK HT5).tabIn fun b h1 h2 => ⟨by omega, h2⟩, ⟨h8, hR4, hW4, hW1, hR1⟩, by simp [rst0], key (Nat.le_refl _) x1, key hbs x2, ⟨x3, fun i j a b g ha hb ga gb => by have h1 := x4 i a g ha ga; have h2 := x5 j b g hb gb; omega⟩⟩
end Go.Proofs.YtfemleimkbjehaaGreat
