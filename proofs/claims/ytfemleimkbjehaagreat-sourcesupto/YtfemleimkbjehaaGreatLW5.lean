import Derived.Test.YtfemleimkbjehaaGreatLW4
namespace Go.Proofs.YtfemleimkbjehaaGreat
set_option linter.unusedVariables false
set_option linter.unusedSimpArgs false
open Go.RowKit

theorem Tryz.infoBel : (Tryz.prog.info? 65).map (fun i => (i.zero, i.size, i.bytes)) = some (some (.agg #[.slice none 0 0, .int .i64 0]), 2, 32) := by kernel_rfl
theorem Tryz.infoCom : (Tryz.prog.info? 70).map (fun i => (i.zero, i.size, i.bytes)) = some (some (.agg #[.slice none 0 0, .int .i64 0]), 2, 32) := by kernel_rfl
/-- A list is kept. -/
theorem LW0.addP {w0 w w4 : World} {K : Nat → Prop} {lb pb rb g' cap : Nat} {x : LX} {cnt : Int} {l : LL} {e : Ent} (h : LW0 w0 K lb pb rb x cnt l) (he : EntOk w0 K 67 xP 5 e) (hel : e.len ≤ 1000000000)
    (ho : w4.ownsRow 0 65 2 (.slice (some ⟨g', 0, none⟩) (l.p.length + 1) cap) (l.p.length + 1) (entCells l.p ++ e.cells)) (hg : w.grownBy w4 x.p.ownBlock) (hK : K g') (hb : Bw w0 w) :
    w4.heap[lb]? = some (.cells #[.pointer (some ⟨pb, 0, none⟩), .pointer (some ⟨rb, 0, none⟩), .int .i64 cnt, x.m, x.p, x.t, x.r] 42 (0, 0)) ∧
    LW0 (w4.setCell ⟨lb, 4, none⟩ (.slice (some ⟨g', 0, none⟩) (l.p.length + 1) cap)) K lb pb rb { x with p := .slice (some ⟨g', 0, none⟩) (l.p.length + 1) cap } cnt { l with p := l.p ++ [e] } := by
  have h := h.bw hb
  have he : EntOk w K 67 xP 5 e := OwnsIn.frame he fun b _ hl => Below.block hb b hl
  have hr4 := grown_block h.p.1 hg h.root (.inl (by decide))
  have fr : ∀ {ty : TypeId} {sz m : Nat} {u : Value} {ys : List Value}, OwnsIn K w ty sz u m ys → ty ≠ 65 → ty ≠ 42 → OwnsIn K (w4.setCell ⟨lb, 4, none⟩ (.slice (some ⟨g', 0, none⟩) (l.p.length + 1) cap)) ty sz u m ys := fun ho' h1 h2 => (ho'.grown h.p.1 hg h1).set hr4 h2
  refine ⟨hr4, (heap_setCell_at hr4).trans rfl, h.kroot, fr h.m (by decide) (by decide), ?_, fr h.t (by decide) (by decide), fr h.r (by decide) (by decide), h.km.map fun _ _ _ h => fr h (by decide) (by decide), (h.kp.snoc he hel).map fun _ _ _ h => fr h (by decide) (by decide), h.kt.map fun _ _ _ h => fr h (by decide) (by decide), h.kr.map fun _ _ _ h => fr h (by decide) (by decide)⟩
  refine ⟨?_, fun b hb => ?_⟩
  · rw [entCells_snoc, List.length_append]
    exact ownsRow_setT hr4 ho (by decide)
  · simp only [Value.ownBlock, Option.some.injEq] at hb
    subst hb
    exact hK

/-- Something is put behind a list of messages; the kept lists stay. -/
theorem LW0.appP {w w' : World} {K K0 : Nat → Prop} {lb pb rb base n : Nat} {x : LX} {cnt : Int} {l : LL} {gv : Value} {xs : List Value} (h : LW0 w K lb pb rb x cnt l) (hown : w.ownsRow base 67 5 gv n xs) (hg : w.grownBy w' gv.ownBlock) (hkeep : ∀ base' u k ys, w.ownsRow base' 67 5 u k ys → k ≤ n → w'.ownsRow base' 67 5 u k ys)
    (hfam : ∀ i, i < l.p.length → (entn l.p i).len ≤ n ∨ ∀ b, (Value.slice (entn l.p i).a (entn l.p i).len (entn l.p i).cap).ownBlock = some b → K0 b) (hn : ∀ b, gv.ownBlock = some b → ¬ K0 b) : LW0 w' K lb pb rb x cnt l := by
  have fr : ∀ {ty : TypeId} {sz m : Nat} {u : Value} {ys : List Value}, OwnsIn K w ty sz u m ys → ty ≠ 67 → OwnsIn K w' ty sz u m ys := fun ho h1 => ho.grown hown hg h1
  refine ⟨grown_block hown hg h.root (.inl (by decide)), h.kroot, fr h.m (by decide), fr h.p (by decide), fr h.t (by decide), fr h.r (by decide), h.km.map fun _ _ _ h => fr h (by decide), fun i hi => ?_, h.kt.map fun _ _ _ h => fr h (by decide), h.kr.map fun _ _ _ h => fr h (by decide)⟩
  obtain ⟨he, hl⟩ := h.kp i hi
  refine ⟨⟨?_, he.2⟩, hl⟩
  rcases hfam i hi with h1 | h1
  · exact hkeep _ _ _ _ he.1 h1
  · exact ownsRow_frame he.1 fun b hb => hg.block b (World.ownsRow.lt he.1 b hb).2 (fun e => hn b e.symm (h1 b hb))
/-- A list is kept. -/
theorem LW0.addT {w0 w w4 : World} {K : Nat → Prop} {lb pb rb g' cap : Nat} {x : LX} {cnt : Int} {l : LL} {e : Ent} (h : LW0 w0 K lb pb rb x cnt l) (he : EntOk w0 K 72 xT 2 e) (hel : e.len ≤ 1000000000)
    (ho : w4.ownsRow 0 70 2 (.slice (some ⟨g', 0, none⟩) (l.t.length + 1) cap) (l.t.length + 1) (entCells l.t ++ e.cells)) (hg : w.grownBy w4 x.t.ownBlock) (hK : K g') (hb : Bw w0 w) :
    w4.heap[lb]? = some (.cells #[.pointer (some ⟨pb, 0, none⟩), .pointer (some ⟨rb, 0, none⟩), .int .i64 cnt, x.m, x.p, x.t, x.r] 42 (0, 0)) ∧
    LW0 (w4.setCell ⟨lb, 5, none⟩ (.slice (some ⟨g', 0, none⟩) (l.t.length + 1) cap)) K lb pb rb { x with t := .slice (some ⟨g', 0, none⟩) (l.t.length + 1) cap } cnt { l with t := l.t ++ [e] } := by
  have h := h.bw hb
  have he : EntOk w K 72 xT 2 e := OwnsIn.frame he fun b _ hl => Below.block hb b hl
  have hr4 := grown_block h.t.1 hg h.root (.inl (by decide))
  have fr : ∀ {ty : TypeId} {sz m : Nat} {u : Value} {ys : List Value}, OwnsIn K w ty sz u m ys → ty ≠ 70 → ty ≠ 42 → OwnsIn K (w4.setCell ⟨lb, 5, none⟩ (.slice (some ⟨g', 0, none⟩) (l.t.length + 1) cap)) ty sz u m ys := fun ho' h1 h2 => (ho'.grown h.t.1 hg h1).set hr4 h2
  refine ⟨hr4, (heap_setCell_at hr4).trans rfl, h.kroot, fr h.m (by decide) (by decide), fr h.p (by decide) (by decide), ?_, fr h.r (by decide) (by decide), h.km.map fun _ _ _ h => fr h (by decide) (by decide), h.kp.map fun _ _ _ h => fr h (by decide) (by decide), (h.kt.snoc he hel).map fun _ _ _ h => fr h (by decide) (by decide), h.kr.map fun _ _ _ h => fr h (by decide) (by decide)⟩
  refine ⟨?_, fun b hb => ?_⟩
  · rw [entCells_snoc, List.length_append]
    exact ownsRow_setT hr4 ho (by decide)
  · simp only [Value.ownBlock, Option.some.injEq] at hb
    subst hb
    exact hK

/-- Something is put behind a list of messages; the kept lists stay. -/
theorem LW0.appT {w w' : World} {K K0 : Nat → Prop} {lb pb rb base n : Nat} {x : LX} {cnt : Int} {l : LL} {gv : Value} {xs : List Value} (h : LW0 w K lb pb rb x cnt l) (hown : w.ownsRow base 72 2 gv n xs) (hg : w.grownBy w' gv.ownBlock) (hkeep : ∀ base' u k ys, w.ownsRow base' 72 2 u k ys → k ≤ n → w'.ownsRow base' 72 2 u k ys)
    (hfam : ∀ i, i < l.t.length → (entn l.t i).len ≤ n ∨ ∀ b, (Value.slice (entn l.t i).a (entn l.t i).len (entn l.t i).cap).ownBlock = some b → K0 b) (hn : ∀ b, gv.ownBlock = some b → ¬ K0 b) : LW0 w' K lb pb rb x cnt l := by
  have fr : ∀ {ty : TypeId} {sz m : Nat} {u : Value} {ys : List Value}, OwnsIn K w ty sz u m ys → ty ≠ 72 → OwnsIn K w' ty sz u m ys := fun ho h1 => ho.grown hown hg h1
  refine ⟨grown_block hown hg h.root (.inl (by decide)), h.kroot, fr h.m (by decide), fr h.p (by decide), fr h.t (by decide), fr h.r (by decide), h.km.map fun _ _ _ h => fr h (by decide), h.kp.map fun _ _ _ h => fr h (by decide), fun i hi => ?_, h.kr.map fun _ _ _ h => fr h (by decide)⟩
  obtain ⟨he, hl⟩ := h.kt i hi
  refine ⟨⟨?_, he.2⟩, hl⟩
  rcases hfam i hi with h1 | h1
  · exact hkeep _ _ _ _ he.1 h1
  · exact ownsRow_frame he.1 fun b hb => hg.block b (World.ownsRow.lt he.1 b hb).2 (fun e => hn b e.symm (h1 b hb))
theorem pt_at {w : World} {base : Nat} {ty : TypeId} {v : Value} {A : List Pt} (h : w.ownsRow base ty 5 v A.length (ptsCells A)) {k : Nat} (hk : k < A.length) : ∃ g, addrOf v = some ⟨g, 0, none⟩ ∧ g < w.heap.size ∧ w.cell? ⟨g, k * 5, none⟩ = some (.int .i64 (ptn A k).node) ∧ w.cell? ⟨g, k * 5 + 1, none⟩ = some (.bool (ptn A k).out) ∧ w.cell? ⟨g, k * 5 + 2, none⟩ = some (.int .i64 (ptn A k).epoch) ∧ w.cell? ⟨g, k * 5 + 3, none⟩ = some (.int .i64 (ptn A k).round) ∧ w.cell? ⟨g, k * 5 + 4, none⟩ = some (.int .i64 (ptn A k).count) := by
  obtain ⟨g, e, hl, hc⟩ := ownsRow_at h (by omega)
  have q : ∀ f, f < 5 → ∀ u, (Pt.cells (ptn A k))[f]? = some u → w.cell? ⟨g, k * 5 + f, none⟩ = some u := fun f hf u hu => hc _ _ ((flat_get (f := Pt.cells) (d := ⟨0, false, 0, 0, 0⟩) (fun _ => rfl) A k hk f hf).trans hu)
  exact ⟨g, e, hl, q 0 (by omega) _ rfl, q 1 (by omega) _ rfl, q 2 (by omega) _ rfl, q 3 (by omega) _ rfl, q 4 (by omega) _ rfl⟩
theorem tm_at {w : World} {base : Nat} {ty : TypeId} {v : Value} {A : List Tm} (h : w.ownsRow base ty 2 v A.length (tmsCells A)) {k : Nat} (hk : k < A.length) : ∃ g, addrOf v = some ⟨g, 0, none⟩ ∧ g < w.heap.size ∧ w.cell? ⟨g, k * 2, none⟩ = some (.int .i64 (tmn A k).e) ∧ w.cell? ⟨g, k * 2 + 1, none⟩ = some (.int .i64 (tmn A k).s) := by
  obtain ⟨g, e, hl, hc⟩ := ownsRow_at h (by omega)
  have q : ∀ f, f < 2 → ∀ u, (Tm.cells (tmn A k))[f]? = some u → w.cell? ⟨g, k * 2 + f, none⟩ = some u := fun f hf u hu => hc _ _ ((flat_get (f := Tm.cells) (d := ⟨0, 0⟩) (fun _ => rfl) A k hk f hf).trans hu)
  exact ⟨g, e, hl, q 0 (by omega) _ rfl, q 1 (by omega) _ rfl⟩
theorem tmsCells_len (a : List Tm) : (tmsCells a).length = a.length * 2 := by
  induction a with
  | nil => rfl
  | cons x l ih => simp only [tmsCells, List.flatMap_cons, List.length_append, List.length_cons] at ih ⊢; rw [ih]; simp [Tm.cells]; omega
theorem ovP_set {n : Int} {k : Nat} {ys : List Value} (hk : k * 5 + 5 ≤ ys.length) : ((((((ovL xP n 5 ys k).set (k * 5) (.int .i64 (-77))).set (k * 5 + 1) (.bool false)).set (k * 5 + 2) (.int .i64 n)).set (k * 5 + 3) (.int .i64 0)).set (k * 5 + 4) (.int .i64 0)) = ovL xP n 5 ys (k + 1) := by
  have hX : (xP n).length = 5 := rfl
  have hfl : ∀ j, (fullL xP n j).length = j * 5 := fun j => by simp [fullL, xP]
  have hlen : (ovL xP n 5 ys k).length = ys.length := by unfold ovL; rw [List.length_append, List.length_drop, hfl]; omega
  apply List.ext_getElem?
  intro p
  rw [ovL_get hX]
  by_cases h1 : p < k * 5
  · rw [List.getElem?_set_ne (by omega), List.getElem?_set_ne (by omega), List.getElem?_set_ne (by omega), List.getElem?_set_ne (by omega), List.getElem?_set_ne (by omega), ovL_get hX, if_pos h1, if_pos (by omega), fullL_succ, List.getElem?_append_left (by rw [hfl]; exact h1)]
  · by_cases h2 : p < (k + 1) * 5
    · rw [if_pos h2, fullL_succ, List.getElem?_append_right (by rw [hfl]; omega), hfl]
      have : p = k * 5 ∨ p = k * 5 + 1 ∨ p = k * 5 + 2 ∨ p = k * 5 + 3 ∨ p = k * 5 + 4 := by omega
      rcases this with rfl | rfl | rfl | rfl | rfl
      · rw [List.getElem?_set_ne (by omega), List.getElem?_set_ne (by omega), List.getElem?_set_ne (by omega), List.getElem?_set_ne (by omega), List.getElem?_set_self (by (try simp); omega)]; simp [xP]
      · rw [List.getElem?_set_ne (by omega), List.getElem?_set_ne (by omega), List.getElem?_set_ne (by omega), List.getElem?_set_self (by (try simp); omega)]; simp [xP, show k * 5 + 1 - k * 5 = 1 by omega]
      · rw [List.getElem?_set_ne (by omega), List.getElem?_set_ne (by omega), List.getElem?_set_self (by (try simp); omega)]; simp [xP, show k * 5 + 2 - k * 5 = 2 by omega]
      · rw [List.getElem?_set_ne (by omega), List.getElem?_set_self (by (try simp); omega)]; simp [xP, show k * 5 + 3 - k * 5 = 3 by omega]
      · rw [List.getElem?_set_self (by (try simp); omega)]; simp [xP, show k * 5 + 4 - k * 5 = 4 by omega]
    · rw [if_neg h2, List.getElem?_set_ne (by omega), List.getElem?_set_ne (by omega), List.getElem?_set_ne (by omega), List.getElem?_set_ne (by omega), List.getElem?_set_ne (by omega), ovL_get hX, if_neg h1]
theorem ovT_set {n : Int} {k : Nat} {ys : List Value} (hk : k * 2 + 2 ≤ ys.length) : (((ovL xT n 2 ys k).set (k * 2) (.int .i64 (-77))).set (k * 2 + 1) (.int .i64 n)) = ovL xT n 2 ys (k + 1) := by
  have hX : (xT n).length = 2 := rfl
  have hfl : ∀ j, (fullL xT n j).length = j * 2 := fun j => by simp [fullL, xT]
  have hlen : (ovL xT n 2 ys k).length = ys.length := by unfold ovL; rw [List.length_append, List.length_drop, hfl]; omega
  apply List.ext_getElem?
  intro p
  rw [ovL_get hX]
  by_cases h1 : p < k * 2
  · rw [List.getElem?_set_ne (by omega), List.getElem?_set_ne (by omega), ovL_get hX, if_pos h1, if_pos (by omega), fullL_succ, List.getElem?_append_left (by rw [hfl]; exact h1)]
  · by_cases h2 : p < (k + 1) * 2
    · rw [if_pos h2, fullL_succ, List.getElem?_append_right (by rw [hfl]; omega), hfl]
      have : p = k * 2 ∨ p = k * 2 + 1 := by omega
      rcases this with rfl | rfl
      · rw [List.getElem?_set_ne (by omega), List.getElem?_set_self (by (try simp); omega)]; simp [xT]
      · rw [List.getElem?_set_self (by (try simp); omega)]; simp [xT, show k * 2 + 1 - k * 2 = 1 by omega]
    · rw [if_neg h2, List.getElem?_set_ne (by omega), List.getElem?_set_ne (by omega), ovL_get hX, if_neg h1]
end Go.Proofs.YtfemleimkbjehaaGreat
