import Derived.Test.YtfemleimkbjehaaJ45
import Derived.Test.YtfemleimkbjehaaJ2
import Derived.Carry
import Derived.Test.YtfemleimkbjehaaJ39
set_option maxRecDepth 1000000
set_option maxHeartbeats 40000000
set_option linter.unusedVariables false
set_option linter.unusedSimpArgs false
namespace Go.Proofs.Ytfemleimkbjehaa
open Go.ChangeShapes Go.WideShapes Go.ChangeAt Go.RowKit Go.Joins Go.Deep
theorem lC {n : Int} (h : (Lit.int .i64 n).wf = true) : mQ n := by
  have h' : (decide ((-9223372036854775808 : Int) ≤ n) && decide (n ≤ 9223372036854775807)) = true := h
  simpa [mQ] using h'
section
variable {H : Type} {enc : TypeId × Value → H} {w : World} {base : Nat} {spare : Nat → Bool} {held : Bool}
set_option maxRecDepth 100000 in
theorem open_node_wf {n : Nat} {cs : List Value} {y : DataW H × List MemPlace} (h : DataW.trod enc Try.prog w base spare held n 32 cs = some y) : ∃ x : Nd, cs = x.cells ∧ x.wf := by
  cases n with
  | zero => simp [DataW.trod] at h
  | succ n =>
    unfold DataW.trod at h
    rw [Try.underlying32] at h
    simp only at h
    rw [Try.cellsNode] at h
    split at h
    · rename_i hl
      obtain ⟨xs, hx, _⟩ := Option.map_eq_some_iff.1 h
      obtain ⟨c0, c1, c2, c3, c4, rfl⟩ := list5 hl
      obtain ⟨y0, e0⟩ := xM hx (i := 0) rfl
      obtain ⟨y1, e1⟩ := xM hx (i := 1) rfl
      obtain ⟨y2, e2⟩ := xM hx (i := 2) rfl
      obtain ⟨y3, e3⟩ := xM hx (i := 3) rfl
      obtain ⟨y4, e4⟩ := xM hx (i := 4) rfl
      obtain ⟨a0, f0, _, g0⟩ := DataW.trod_int Try.underlying3 e0
      obtain ⟨a1, f1, _, g1⟩ := DataW.trod_int Try.underlying3 e1
      obtain ⟨a2, f2, _, g2⟩ := DataW.trod_int Try.underlying3 e2
      obtain ⟨a3, f3, _, g3⟩ := DataW.trod_int Try.underlying3 e3
      obtain ⟨a4, f4, _, g4⟩ := DataW.trod_int Try.underlying3 e4
      rw [Try.cellsInt] at f0 f1 f2 f3 f4
      simp at f0 f1 f2 f3 f4
      subst f0 f1 f2 f3 f4
      exact ⟨⟨a0, a1, a2, a3, a4⟩, rfl, lC g0, lC g1, lC g2, lC g3, lC g4⟩
    · cases h
set_option maxRecDepth 100000 in
/-- A graph that came in, opened. -/
theorem open_graph_wf {r : Reach} {b0 : Nat} {v : Value} {d : DataW H} {p : List MemPlace} (hv : Value.okWide Try.prog w r b0 24 v) (h : DataW.Trod enc Try.prog w base spare held 24 v d p) :
    ∃ (ga : Option Addr) (ns : List Nd) (gc : Nat) (rr : Int), v = .agg #[.slice ga ns.length gc, .int .i64 rr] ∧ NodesAt w ga ns ∧ (∀ j, j < ns.length → (qV ns j).wf) ∧
      ∀ (ts : List TypeId) (ds : List (DataW H)) (j : Nat), (DataW.weightsEach Try.prog ts ds).all (· ≤ reachBytes) = true → ts[j]? = some 24 → ds[j]? = some d → ns.length * 40 ≤ 140737488351232 := by
  obtain ⟨c0, c1, y0, y1, m, rfl, rfl, rfl, hy0, hy1⟩ := open_agg2 Try.underlying24 (by kernel_rfl) Try.cellsGraph hv h
  obtain ⟨rr, e1, _, _⟩ := DataW.trod_int Try.underlying3 hy1
  simp at e1
  subst e1
  rcases open_slice Try.underlying22 hy0 with ⟨hcs, hx⟩ | ⟨a, len, cap, m, n, D, Pl, hcs, hb, hl, hm, hmm, hx, hel⟩
  · simp at hcs
    subst hcs
    exact ⟨none, [], 0, rr, rfl, fun i hi => absurd hi (Nat.not_lt_zero i), fun i hi => absurd hi (Nat.not_lt_zero i), fun _ _ _ _ _ _ => by simp⟩
  · simp at hcs
    subst hcs
    have hlm : len ≤ m := by rw [hmm]; split <;> omega
    rw [Try.cellsNode] at hel
    haveI : Inhabited Nd := ⟨⟨0, 0, 0, 0, 0⟩⟩
    obtain ⟨X, hX⟩ := choose_lt (α := Nd) (n := len) (p := fun i x => w.cells? base (a.add (i * 5)) 5 = some x.cells ∧ x.wf) (fun i hi => by
      obtain ⟨cs', h1, h2⟩ := hel i (by omega)
      obtain ⟨x, rfl, hx⟩ := open_node_wf h2
      exact ⟨x, h1, hx⟩)
    have hlen : ((List.range len).map X).length = len := by simp
    refine ⟨some a, (List.range len).map X, cap, rr, by rw [hlen], ?_, ?_, ?_⟩
    · intro i hi
      rw [hlen] at hi
      have hcell : ∀ j, j < len → ∀ f, f < 5 → w.cell? ((a.add (j * 5)).add f) = (X j).cells[f]? := fun j hj f hf => (World.cells?_some (hX j hj).1).2.2 f hf
      obtain ⟨b, off, spot⟩ := a
      have hspot : spot = none := by
        have := hcell 0 (by omega) 0 (by omega)
        simp only [Nat.zero_mul] at this
        exact World.cell?_spot (a := ⟨b, off, spot⟩) (v := .int .i64 (X 0).kind) (by simpa [Addr.add, Nd.cells] using this)
      subst hspot
      have hnd : ∀ j, j < len → qV ((List.range len).map X) j = X j := by
        intro j hj
        rw [ndn_lt (by simpa using hj)]
        simp
      have hc2 : ∀ j, j < len → ∀ f, f < 5 → w.cell? ⟨b, off + j * 5 + f, none⟩ = (X j).cells[f]? := by
        intro j hj f hf
        have := hcell j hj f hf
        rw [Go.WideShapes.add_plain, Go.WideShapes.add_plain] at this
        exact this
      refine ⟨b, off, rfl, ?_, ?_⟩
      · have := hc2 i hi 0 (by omega)
        exact World.block_lt_of_cell? w ⟨b, off + i * 5 + 0, none⟩ (this.trans rfl)
      · intro j hj
        rw [hlen] at hj
        rw [hnd j hj]
        exact ⟨hc2 j hj 0 (by omega), hc2 j hj 1 (by omega), hc2 j hj 2 (by omega), hc2 j hj 3 (by omega), hc2 j hj 4 (by omega)⟩
    · intro j hj
      rw [hlen] at hj
      rw [ndn_lt (by simpa using hj)]
      simpa using (hX j hj).2
    · intro ts ds j hw ht hd
      rw [hlen]
      have hmem := DataW.weights_mem_each (P := Try.prog) ht hd
      have : (len + (m - len)) * Try.prog.bytesOf 32 ∈ DataW.weightsEach Try.prog ts ds := by
        refine hmem _ ?_
        rw [hx]
        simp [DataW.weights, Try.underlying24, DataW.weightsEach, Try.underlying22]
      have hle := of_decide_eq_true (List.all_eq_true.1 hw _ this)
      rw [Try.bytesNode] at hle
      unfold reachBytes at hle
      omega
end
def OpI.cells (x : OpI) : List Value := [.int .i64 x.k, .int .i64 x.a, .int .i64 x.b, .int .i64 x.c]
theorem opk_lt {l : List OpI} {k : Nat} (h : k < l.length) : opn l k = l[k] := lJ _ _ h
theorem Try.cellsOpK : Try.prog.cellsOf 67 = 4 := by kernel_rfl
theorem Try.bytesOpK : Try.prog.bytesOf 67 = 32 := by kernel_rfl
theorem list4 {α : Type} {l : List α} (h : l.length = 4) : ∃ a b c d, l = [a, b, c, d] := by
  match l, h with
  | [a, b, c, d], _ => exact ⟨a, b, c, d, rfl⟩
section
variable {H : Type} {enc : TypeId × Value → H} {P : Program} {w : World} {base : Nat} {spare : Nat → Bool} {held : Bool}
end
section
variable {H : Type} {enc : TypeId × Value → H} {w : World} {base : Nat} {spare : Nat → Bool} {held : Bool}
set_option maxRecDepth 100000 in
theorem open_opk {n : Nat} {cs : List Value} {y : DataW H × List MemPlace} (h : DataW.trod enc Try.prog w base spare held n 67 cs = some y) : ∃ x : OpI, cs = x.cells ∧ x.wf := by
  cases n with
  | zero => simp [DataW.trod] at h
  | succ n =>
    unfold DataW.trod at h
    rw [Try.underlying67] at h
    simp only at h
    rw [Try.cellsOpK] at h
    split at h
    · rename_i hl
      obtain ⟨xs, hx, _⟩ := Option.map_eq_some_iff.1 h
      obtain ⟨c0, c1, c2, c3, rfl⟩ := list4 hl
      obtain ⟨y0, e0⟩ := xM hx (i := 0) rfl
      obtain ⟨y1, e1⟩ := xM hx (i := 1) rfl
      obtain ⟨y2, e2⟩ := xM hx (i := 2) rfl
      obtain ⟨y3, e3⟩ := xM hx (i := 3) rfl
      obtain ⟨a0, f0, _, g0⟩ := DataW.trod_int Try.underlying3 e0
      obtain ⟨a1, f1, _, g1⟩ := DataW.trod_int Try.underlying3 e1
      obtain ⟨a2, f2, _, g2⟩ := DataW.trod_int Try.underlying3 e2
      obtain ⟨a3, f3, _, g3⟩ := DataW.trod_int Try.underlying3 e3
      rw [Try.cellsInt] at f0 f1 f2 f3
      simp at f0 f1 f2 f3
      subst f0 f1 f2 f3
      exact ⟨⟨a0, a1, a2, a3⟩, rfl, lC g0, lC g1, lC g2, lC g3⟩
    · cases h
set_option maxRecDepth 100000 in
/-- A script that came in, opened. -/
theorem open_opsk {r : Reach} {b0 : Nat} {v : Value} {d : DataW H} {p : List MemPlace} (hv : Value.okWide Try.prog w r b0 45 v) (h : DataW.Trod enc Try.prog w base spare held 45 v d p) :
    ∃ (va : Option Addr) (ops : List OpI) (vc : Nat), v = .slice va ops.length vc ∧ OpsAt w va ops ∧ (∀ j, j < ops.length → (opn ops j).wf) ∧
      ∀ (ts : List TypeId) (ds : List (DataW H)) (j : Nat), (DataW.weightsEach Try.prog ts ds).all (· ≤ reachBytes) = true → ts[j]? = some 45 → ds[j]? = some d → ops.length * 32 ≤ 140737488351232 := by
  obtain ⟨a0, l0, k0, rfl⟩ := okWide_slice Try.underlying45 hv
  obtain ⟨fuel, hf⟩ := h
  rcases open_slice Try.underlying45 hf with ⟨hcs, hx⟩ | ⟨a, len, cap, m, n, D, Pl, hcs, hb, hl, hm, hmm, hx, hel⟩
  · simp [Value.cells] at hcs
    obtain ⟨rfl, rfl, rfl⟩ := hcs
    exact ⟨none, [], 0, rfl, fun i hi => absurd hi (Nat.not_lt_zero i), fun i hi => absurd hi (Nat.not_lt_zero i), fun _ _ _ _ _ _ => by simp⟩
  · simp [Value.cells] at hcs
    obtain ⟨rfl, rfl, rfl⟩ := hcs
    have hlm : l0 ≤ m := by rw [hmm]; split <;> omega
    rw [Try.cellsOpK] at hel
    haveI : Inhabited OpI := ⟨⟨0, 0, 0, 0⟩⟩
    obtain ⟨X, hX⟩ := choose_lt (α := OpI) (n := l0) (p := fun i x => w.cells? base (a.add (i * 4)) 4 = some x.cells ∧ x.wf) (fun i hi => by
      obtain ⟨cs', h1, h2⟩ := hel i (by omega)
      obtain ⟨x, rfl, hx⟩ := open_opk h2
      exact ⟨x, h1, hx⟩)
    have hlen : ((List.range l0).map X).length = l0 := by simp
    have hnd : ∀ j, j < l0 → opn ((List.range l0).map X) j = X j := by
      intro j hj
      rw [opk_lt (by simpa using hj)]
      simp
    refine ⟨some a, (List.range l0).map X, k0, by rw [hlen], ?_, ?_, ?_⟩
    · intro i hi
      rw [hlen] at hi
      have hcell : ∀ j, j < l0 → ∀ f, f < 4 → w.cell? ((a.add (j * 4)).add f) = (X j).cells[f]? := fun j hj f hf => (World.cells?_some (hX j hj).1).2.2 f hf
      obtain ⟨b, off, spot⟩ := a
      have hspot : spot = none := by
        have := hcell 0 (by omega) 0 (by omega)
        simp only [Nat.zero_mul] at this
        exact World.cell?_spot (a := ⟨b, off, spot⟩) (v := .int .i64 (X 0).k) (by simpa [Addr.add, OpI.cells] using this)
      subst hspot
      have hc2 : ∀ j, j < l0 → ∀ f, f < 4 → w.cell? ⟨b, off + j * 4 + f, none⟩ = (X j).cells[f]? := by
        intro j hj f hf
        have := hcell j hj f hf
        rw [Go.WideShapes.add_plain, Go.WideShapes.add_plain] at this
        exact this
      refine ⟨b, off, rfl, ?_, ?_⟩
      · have := hc2 i hi 0 (by omega)
        exact World.block_lt_of_cell? w ⟨b, off + i * 4 + 0, none⟩ (this.trans rfl)
      · intro j hj
        rw [hlen] at hj
        rw [hnd j hj]
        exact ⟨hc2 j hj 0 (by omega), hc2 j hj 1 (by omega), hc2 j hj 2 (by omega), hc2 j hj 3 (by omega)⟩
    · intro j hj
      rw [hlen] at hj
      rw [hnd j hj]
      exact (hX j hj).2
    · intro ts ds j hw ht hd
      rw [hlen]
      simp only [Prod.mk.injEq] at hx
      have hmem := DataW.weights_mem_each (P := Try.prog) ht hd
      have : (l0 + (m - l0)) * Try.prog.bytesOf 67 ∈ DataW.weightsEach Try.prog ts ds := by
        refine hmem _ ?_
        rw [hx.1]
        simp [DataW.weights, Try.underlying45]
      have hle := of_decide_eq_true (List.all_eq_true.1 hw _ this)
      rw [Try.bytesOpK] at hle
      unfold reachBytes at hle
      omega
end
set_option maxRecDepth 100000 in
theorem part_lifted (os : Os) (started : os.Started) (H : Type) (enc : TypeId × Value → H) :
    ReturnsInHanded {} Try.checked os 8 .any (Rows.partSpec.pre6 enc Try.prog Try.f8 Rows.partRow.domain false) (Rows.partSpec.post enc Try.prog Try.f8 false true false false) := by
  refine returnsInHanded_of_change_sized (C := Try.checked) Try.own started (by kernel_rfl) Try.func8
    (ChangeSpec.witness6 (enc := enc) (C := Try.checked) false ⟨#[], #[.agg #[.slice none 0 0, .int .i64 0], .int .i64 0, .slice none 0 0], []⟩ 8 (by kernel_rfl) (by kernel_rfl) (by kernel_rfl) (by kernel_rfl)) ?_
  intro W base args ds gs before hval0 hW _ hsz0 _
  have hsz : (DataW.weightsEach Try.prog (Try.f8.params.toList ++ Rows.partSpec.plain.varTypes Try.prog) (ds ++ gs)).all (· ≤ reachBytes) = true := hsz0
  clear hsz0
  have hval : ∀ (j : Nat) t v, Try.f8.params[j]? = some t → args[j]? = some v → Value.okWide Try.prog W .any base t v := hval0
  have hW' := hW
  obtain ⟨p, q, hA0, hV, rfl, _, _⟩ := hW
  have hA : DataW.TrodAll enc Try.prog W 0 (fun _ => true) true Try.f8.params.toList args.toList ds p := hA0
  rw [Try.params8] at hA hval hsz
  obtain ⟨v0, v1, v2, d0, d1, d2, p0, p1, p2, rfl, rfl, rfl, h0, h1, h2⟩ := trodAll_three hA
  obtain ⟨rfl, rfl⟩ := trodVars_none hV
  have h0k := h0
  have h2k := h2
  obtain ⟨n, rfl, rfl, rfl, wn⟩ := open_int Try.underlying3 (hval 1 3 v1 rfl rfl) h1
  obtain ⟨sa, ops, sc, rfl, hops, how, hosz⟩ := open_opsk (hval 2 45 v2 rfl rfl) h2
  have hol := hosz _ _ 2 hsz rfl rfl
  obtain ⟨ga, ns, gc, rr, rfl, hn, hwf, hsize⟩ := open_graph_wf (hval 0 24 v0 rfl rfl) h0
  have hl := hsize _ _ 0 hsz rfl rfl
  clear hA0 hval0
  simp only [List.append_nil, List.nil_append] at hW'
  have hlt : ∀ x ∈ p0, x.block < W.heap.size := fun x hx => by simpa using hW'.lt x (by simp [hx])
  have hlt2 : ∀ x ∈ p2, x.block < W.heap.size := fun x hx => by simpa using hW'.lt x (by simp [hx])
  refine (kpart_any ns ga gc rr n ops sa sc W hn (by unfold maxLen; omega) hwf (lC wn) hops (by omega) how).mono fun e W' ⟨he, hb⟩ => ?_
  subst he
  refine ⟨_, rfl, _, _, _, [], (p0 ++ p2), [], hW', ?_, ?_, rfl, Below.frame hb _, fun h => by cases h⟩
  · exact trodAll_mk1 (shut_bool Try.underlying4 true)
  · have := trodAll_mk3 (Below.trod Try.laidOut (by kernel_rfl) (of_decide_eq_true (by kernel_rfl)) h0k hb hlt) (shut_int (enc := enc) (w := W') (base := 0) (spare := fun b => decide (b < W.heap.size)) (held := true) Try.underlying3 wn) (Below.trod Try.laidOut (by kernel_rfl) (of_decide_eq_true (by kernel_rfl)) h2k hb hlt2)
    have this' : DataW.TrodAll enc Try.prog W' 0 (fun b => decide (b < W.heap.size)) true [24, 3, 45] [.agg #[.slice ga ns.length gc, .int .i64 rr], .int .i64 n, .slice sa ops.length sc] [d0, .lit (.int .i64 n), d2] (p0 ++ p2) := by simpa using this
    exact this'
theorem part_holds : Rows.PartSaid :=
  OpenClaim.holds_of_wide 8 Try.f8 rfl rfl rfl rfl rfl rfl rfl ⟨rfl, rfl, rfl, rfl, rfl⟩ rfl rfl rfl rfl rfl (by kernel_rfl) Try.func8 (by kernel_rfl)
    (of_decide_eq_true (by kernel_rfl)) (by unfold Func.isWrapper; rw [if_neg (of_decide_eq_false (by kernel_rfl))]; exact ⟨rfl, rfl⟩)
    (fun os started H enc _ => part_lifted os started H enc)
end Go.Proofs.Ytfemleimkbjehaa
