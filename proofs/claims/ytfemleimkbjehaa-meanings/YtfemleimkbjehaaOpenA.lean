import Derived.Test.YtfemleimkbjehaaLaw1
import Derived.ProofKit
import Derived.SizedLaws
import Derived.Lib.SmallJoins
import Derived.Deep.Slices
import Derived.Test.YtfemleimkbjehaaKeep2
import Derived.Carry
namespace Go.Proofs.Ytfemleimkbjehaa
open Go.ChangeShapes Go.WideShapes Go.ChangeAt Go.RowKit Go.Joins Go.Deep

theorem Try.own : ownKnob Try.prog.godebug = none := by kernel_rfl
theorem Try.laidOut : laidOutB Try.prog = true := by kernel_rfl
theorem Try.cellsInt : Try.prog.cellsOf 3 = 1 := by kernel_rfl
theorem Try.cellsNode : Try.prog.cellsOf 32 = 5 := by kernel_rfl
theorem Try.cellsGraph : Try.prog.cellsOf 24 = 2 := by kernel_rfl
theorem Try.bytesNode : Try.prog.bytesOf 32 = 40 := by kernel_rfl

section
variable {H : Type} {enc : TypeId × Value → H} {w : World} {base : Nat} {spare : Nat → Bool} {held : Bool}

theorem get_some {α β : Type} {f : α → Option β} {l : List α} {r : List β} (h : l.mapM f = some r) {i : Nat} {x : α} (hx : l[i]? = some x) : ∃ y, f x = some y := by
  have hlt : i < l.length := (List.getElem?_eq_some_iff.1 hx).1
  have hr := mapM_some_length h
  exact ⟨r[i]'(by omega), by rw [mapM_some_get h i x hx]; exact List.getElem?_eq_getElem _⟩

theorem list5 {α : Type} {l : List α} (h : l.length = 5) : ∃ a b c d e, l = [a, b, c, d, e] := by
  match l, h with
  | [a, b, c, d, e], _ => exact ⟨a, b, c, d, e, rfl⟩

set_option maxRecDepth 100000 in
theorem open_node {n : Nat} {cs : List Value} {y : DataW H × List MemPlace} (h : DataW.trod enc Try.prog w base spare held n 32 cs = some y) : ∃ x : Nd, cs = x.cells := by
  cases n with
  | zero => simp [DataW.trod] at h
  | succ n =>
    unfold DataW.trod at h
    rw [Try.underlying32] at h
    simp only at h
    rw [Try.cellsNode] at h
    split at h
    · rename_i hl
      obtain ⟨xs, hx, _⟩ := Option.map_eq_some_iff.1 h
      obtain ⟨c0, c1, c2, c3, c4, rfl⟩ := list5 hl
      obtain ⟨y0, e0⟩ := get_some hx (i := 0) rfl
      obtain ⟨y1, e1⟩ := get_some hx (i := 1) rfl
      obtain ⟨y2, e2⟩ := get_some hx (i := 2) rfl
      obtain ⟨y3, e3⟩ := get_some hx (i := 3) rfl
      obtain ⟨y4, e4⟩ := get_some hx (i := 4) rfl
      obtain ⟨a0, f0, _⟩ := DataW.trod_int Try.underlying3 e0
      obtain ⟨a1, f1, _⟩ := DataW.trod_int Try.underlying3 e1
      obtain ⟨a2, f2, _⟩ := DataW.trod_int Try.underlying3 e2
      obtain ⟨a3, f3, _⟩ := DataW.trod_int Try.underlying3 e3
      obtain ⟨a4, f4, _⟩ := DataW.trod_int Try.underlying3 e4
      rw [Try.cellsInt] at f0 f1 f2 f3 f4
      simp at f0 f1 f2 f3 f4
      subst f0 f1 f2 f3 f4
      exact ⟨⟨a0, a1, a2, a3, a4⟩, rfl⟩
    · cases h

set_option maxRecDepth 100000 in
/-- A graph that came in, opened. -/
theorem open_graph {r : Reach} {b0 : Nat} {v : Value} {d : DataW H} {p : List MemPlace} (hv : Value.okWide Try.prog w r b0 24 v) (h : DataW.Trod enc Try.prog w base spare held 24 v d p) :
    ∃ (ga : Option Addr) (ns : List Nd) (gc : Nat) (rr : Int), v = .agg #[.slice ga ns.length gc, .int .i64 rr] ∧ NodesAt w ga ns ∧
      ∀ (ts : List TypeId) (ds : List (DataW H)) (j : Nat), (DataW.weightsEach Try.prog ts ds).all (· ≤ reachBytes) = true → ts[j]? = some 24 → ds[j]? = some d → ns.length * 40 ≤ 140737488351232 := by
  obtain ⟨c0, c1, y0, y1, m, rfl, rfl, rfl, hy0, hy1⟩ := open_agg2 Try.underlying24 (by kernel_rfl) Try.cellsGraph hv h
  obtain ⟨rr, e1, _, _⟩ := DataW.trod_int Try.underlying3 hy1
  simp at e1
  subst e1
  rcases open_slice Try.underlying22 hy0 with ⟨hcs, hx⟩ | ⟨a, len, cap, m, n, D, Pl, hcs, hb, hl, hm, hmm, hx, hel⟩
  · simp at hcs
    subst hcs
    exact ⟨none, [], 0, rr, rfl, fun i hi => absurd hi (Nat.not_lt_zero i), fun _ _ _ _ _ _ => by simp⟩
  · simp at hcs
    subst hcs
    have hlm : len ≤ m := by rw [hmm]; split <;> omega
    rw [Try.cellsNode] at hel
    haveI : Inhabited Nd := ⟨⟨0, 0, 0, 0, 0⟩⟩
    obtain ⟨X, hX⟩ := choose_lt (α := Nd) (n := len) (p := fun i x => w.cells? base (a.add (i * 5)) 5 = some x.cells) (fun i hi => by
      obtain ⟨cs', h1, h2⟩ := hel i (by omega)
      obtain ⟨x, rfl⟩ := open_node h2
      exact ⟨x, h1⟩)
    have hlen : ((List.range len).map X).length = len := by simp
    refine ⟨some a, (List.range len).map X, cap, rr, by rw [hlen], ?_, ?_⟩
    · intro i hi
      rw [hlen] at hi
      have hcell : ∀ j, j < len → ∀ f, f < 5 → w.cell? ((a.add (j * 5)).add f) = (X j).cells[f]? := fun j hj f hf => (World.cells?_some (hX j hj)).2.2 f hf
      obtain ⟨b, off, spot⟩ := a
      have hspot : spot = none := by
        have := hcell 0 (by omega) 0 (by omega)
        simp only [Nat.zero_mul] at this
        exact World.cell?_spot (a := ⟨b, off, spot⟩) (v := .int .i64 (X 0).kind) (by simpa [Addr.add, Nd.cells] using this)
      subst hspot
      have hnd : ∀ j, j < len → ndn ((List.range len).map X) j = X j := by
        intro j hj
        rw [ndn_lt (by simpa using hj)]
        simp
      have hc2 : ∀ j, j < len → ∀ f, f < 5 → w.cell? ⟨b, off + j * 5 + f, none⟩ = (X j).cells[f]? := by
        intro j hj f hf
        have := hcell j hj f hf
        rw [Go.WideShapes.add_plain, Go.WideShapes.add_plain] at this
        exact this
      refine ⟨b, off, rfl, ?_, ?_⟩
      · have := hc2 i hi 0 (by omega)
        exact World.block_lt_of_cell? w ⟨b, off + i * 5 + 0, none⟩ (this.trans rfl)
      · intro j hj
        rw [hlen] at hj
        rw [hnd j hj]
        exact ⟨hc2 j hj 0 (by omega), hc2 j hj 1 (by omega), hc2 j hj 2 (by omega), hc2 j hj 3 (by omega), hc2 j hj 4 (by omega)⟩
    · intro ts ds j hw ht hd
      rw [hlen]
      have hmem := DataW.weights_mem_each (P := Try.prog) ht hd
      have : (len + (m - len)) * Try.prog.bytesOf 32 ∈ DataW.weightsEach Try.prog ts ds := by
        refine hmem _ ?_
        rw [hx]
        simp [DataW.weights, Try.underlying24, DataW.weightsEach, Try.underlying22]
      have hle := of_decide_eq_true (List.all_eq_true.1 hw _ this)
      rw [Try.bytesNode] at hle
      unfold reachBytes at hle
      omega
end
end Go.Proofs.Ytfemleimkbjehaa
namespace Go.Proofs.Ytfemleimkbjehaa
open Go.ChangeShapes Go.WideShapes Go.ChangeAt Go.RowKit Go.Joins Go.Deep

theorem lit64 {n : Int} (h : (Lit.int .i64 n).wf = true) : I64 n := by
  have h' : (decide ((-9223372036854775808 : Int) ≤ n) && decide (n ≤ 9223372036854775807)) = true := h
  simpa [I64] using h'

section
variable {H : Type} {enc : TypeId × Value → H} {w : World} {base : Nat} {spare : Nat → Bool} {held : Bool}

set_option maxRecDepth 100000 in
theorem open_node_wf {n : Nat} {cs : List Value} {y : DataW H × List MemPlace} (h : DataW.trod enc Try.prog w base spare held n 32 cs = some y) : ∃ x : Nd, cs = x.cells ∧ x.wf := by
  cases n with
  | zero => simp [DataW.trod] at h
  | succ n =>
    unfold DataW.trod at h
    rw [Try.underlying32] at h
    simp only at h
    rw [Try.cellsNode] at h
    split at h
    · rename_i hl
      obtain ⟨xs, hx, _⟩ := Option.map_eq_some_iff.1 h
      obtain ⟨c0, c1, c2, c3, c4, rfl⟩ := list5 hl
      obtain ⟨y0, e0⟩ := get_some hx (i := 0) rfl
      obtain ⟨y1, e1⟩ := get_some hx (i := 1) rfl
      obtain ⟨y2, e2⟩ := get_some hx (i := 2) rfl
      obtain ⟨y3, e3⟩ := get_some hx (i := 3) rfl
      obtain ⟨y4, e4⟩ := get_some hx (i := 4) rfl
      obtain ⟨a0, f0, _, g0⟩ := DataW.trod_int Try.underlying3 e0
      obtain ⟨a1, f1, _, g1⟩ := DataW.trod_int Try.underlying3 e1
      obtain ⟨a2, f2, _, g2⟩ := DataW.trod_int Try.underlying3 e2
      obtain ⟨a3, f3, _, g3⟩ := DataW.trod_int Try.underlying3 e3
      obtain ⟨a4, f4, _, g4⟩ := DataW.trod_int Try.underlying3 e4
      rw [Try.cellsInt] at f0 f1 f2 f3 f4
      simp at f0 f1 f2 f3 f4
      subst f0 f1 f2 f3 f4
      exact ⟨⟨a0, a1, a2, a3, a4⟩, rfl, lit64 g0, lit64 g1, lit64 g2, lit64 g3, lit64 g4⟩
    · cases h

set_option maxRecDepth 100000 in
/-- A graph that came in, opened. -/
theorem open_graph_wf {r : Reach} {b0 : Nat} {v : Value} {d : DataW H} {p : List MemPlace} (hv : Value.okWide Try.prog w r b0 24 v) (h : DataW.Trod enc Try.prog w base spare held 24 v d p) :
    ∃ (ga : Option Addr) (ns : List Nd) (gc : Nat) (rr : Int), v = .agg #[.slice ga ns.length gc, .int .i64 rr] ∧ NodesAt w ga ns ∧ (∀ j, j < ns.length → (ndn ns j).wf) ∧
      ∀ (ts : List TypeId) (ds : List (DataW H)) (j : Nat), (DataW.weightsEach Try.prog ts ds).all (· ≤ reachBytes) = true → ts[j]? = some 24 → ds[j]? = some d → ns.length * 40 ≤ 140737488351232 := by
  obtain ⟨c0, c1, y0, y1, m, rfl, rfl, rfl, hy0, hy1⟩ := open_agg2 Try.underlying24 (by kernel_rfl) Try.cellsGraph hv h
  obtain ⟨rr, e1, _, _⟩ := DataW.trod_int Try.underlying3 hy1
  simp at e1
  subst e1
  rcases open_slice Try.underlying22 hy0 with ⟨hcs, hx⟩ | ⟨a, len, cap, m, n, D, Pl, hcs, hb, hl, hm, hmm, hx, hel⟩
  · simp at hcs
    subst hcs
    exact ⟨none, [], 0, rr, rfl, fun i hi => absurd hi (Nat.not_lt_zero i), fun i hi => absurd hi (Nat.not_lt_zero i), fun _ _ _ _ _ _ => by simp⟩
  · simp at hcs
    subst hcs
    have hlm : len ≤ m := by rw [hmm]; split <;> omega
    rw [Try.cellsNode] at hel
    haveI : Inhabited Nd := ⟨⟨0, 0, 0, 0, 0⟩⟩
    obtain ⟨X, hX⟩ := choose_lt (α := Nd) (n := len) (p := fun i x => w.cells? base (a.add (i * 5)) 5 = some x.cells ∧ x.wf) (fun i hi => by
      obtain ⟨cs', h1, h2⟩ := hel i (by omega)
      obtain ⟨x, rfl, hx⟩ := open_node_wf h2
      exact ⟨x, h1, hx⟩)
    have hlen : ((List.range len).map X).length = len := by simp
    refine ⟨some a, (List.range len).map X, cap, rr, by rw [hlen], ?_, ?_, ?_⟩
    · intro i hi
      rw [hlen] at hi
      have hcell : ∀ j, j < len → ∀ f, f < 5 → w.cell? ((a.add (j * 5)).add f) = (X j).cells[f]? := fun j hj f hf => (World.cells?_some (hX j hj).1).2.2 f hf
      obtain ⟨b, off, spot⟩ := a
      have hspot : spot = none := by
        have := hcell 0 (by omega) 0 (by omega)
        simp only [Nat.zero_mul] at this
        exact World.cell?_spot (a := ⟨b, off, spot⟩) (v := .int .i64 (X 0).kind) (by simpa [Addr.add, Nd.cells] using this)
      subst hspot
      have hnd : ∀ j, j < len → ndn ((List.range len).map X) j = X j := by
        intro j hj
        rw [ndn_lt (by simpa using hj)]
        simp
      have hc2 : ∀ j, j < len → ∀ f, f < 5 → w.cell? ⟨b, off + j * 5 + f, none⟩ = (X j).cells[f]? := by
        intro j hj f hf
        have := hcell j hj f hf
        rw [Go.WideShapes.add_plain, Go.WideShapes.add_plain] at this
        exact this
      refine ⟨b, off, rfl, ?_, ?_⟩
      · have := hc2 i hi 0 (by omega)
        exact World.block_lt_of_cell? w ⟨b, off + i * 5 + 0, none⟩ (this.trans rfl)
      · intro j hj
        rw [hlen] at hj
        rw [hnd j hj]
        exact ⟨hc2 j hj 0 (by omega), hc2 j hj 1 (by omega), hc2 j hj 2 (by omega), hc2 j hj 3 (by omega), hc2 j hj 4 (by omega)⟩
    · intro j hj
      rw [hlen] at hj
      rw [ndn_lt (by simpa using hj)]
      simpa using (hX j hj).2
    · intro ts ds j hw ht hd
      rw [hlen]
      have hmem := DataW.weights_mem_each (P := Try.prog) ht hd
      have : (len + (m - len)) * Try.prog.bytesOf 32 ∈ DataW.weightsEach Try.prog ts ds := by
        refine hmem _ ?_
        rw [hx]
        simp [DataW.weights, Try.underlying24, DataW.weightsEach, Try.underlying22]
      have hle := of_decide_eq_true (List.all_eq_true.1 hw _ this)
      rw [Try.bytesNode] at hle
      unfold reachBytes at hle
      omega
end
end Go.Proofs.Ytfemleimkbjehaa
