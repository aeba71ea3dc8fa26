import Derived.Test.YtfemleimkbjehaaGreatJ45
import Derived.Test.YtfemleimkbjehaaGreatJ9
import Derived.Carry
import Derived.JoinedCond
import Derived.Deep.CondSized
namespace Go.Proofs.YtfemleimkbjehaaGreat
set_option linter.unusedVariables false
set_option linter.unusedSimpArgs false
open Go.ChangeShapes Go.WideShapes Go.ChangeAt Go.RowKit Go.Joins Go.Deep

theorem lit64 {n : Int} (h : (Lit.int .i64 n).wf = true) : I64 n := by
  have h' : (decide ((-9223372036854775808 : Int) ≤ n) && decide (n ≤ 9223372036854775807)) = true := h
  simpa [I64] using h'

section
variable {H : Type} {enc : TypeId × Value → H} {w : World} {base : Nat} {spare : Nat → Bool} {held : Bool}

set_option maxRecDepth 100000 in
theorem open_node_wf {n : Nat} {cs : List Value} {y : DataW H × List MemPlace} (h : DataW.trod enc Tryz.prog w base spare held n 46 cs = some y) : ∃ x : Nd, cs = x.cells ∧ x.wf := by
  cases n with
  | zero => simp [DataW.trod] at h
  | succ n =>
    unfold DataW.trod at h
    rw [Tryz.underlying46] at h
    simp only at h
    rw [Tryz.cellsNode] at h
    split at h
    · rename_i hl
      obtain ⟨xs, hx, _⟩ := Option.map_eq_some_iff.1 h
      obtain ⟨c0, c1, c2, c3, c4, rfl⟩ := list5 hl
      obtain ⟨y0, e0⟩ := get_some hx (i := 0) rfl
      obtain ⟨y1, e1⟩ := get_some hx (i := 1) rfl
      obtain ⟨y2, e2⟩ := get_some hx (i := 2) rfl
      obtain ⟨y3, e3⟩ := get_some hx (i := 3) rfl
      obtain ⟨y4, e4⟩ := get_some hx (i := 4) rfl
      obtain ⟨a0, f0, _, g0⟩ := DataW.trod_int Tryz.underlying3 e0
      obtain ⟨a1, f1, _, g1⟩ := DataW.trod_int Tryz.underlying3 e1
      obtain ⟨a2, f2, _, g2⟩ := DataW.trod_int Tryz.underlying3 e2
      obtain ⟨a3, f3, _, g3⟩ := DataW.trod_int Tryz.underlying3 e3
      obtain ⟨a4, f4, _, g4⟩ := DataW.trod_int Tryz.underlying3 e4
      rw [Tryz.cellsInt] at f0 f1 f2 f3 f4
      simp at f0 f1 f2 f3 f4
      subst f0 f1 f2 f3 f4
      exact ⟨⟨a0, a1, a2, a3, a4⟩, rfl, lit64 g0, lit64 g1, lit64 g2, lit64 g3, lit64 g4⟩
    · cases h

set_option maxRecDepth 100000 in
/-- A graph that came in, opened. -/
theorem open_graph_wf {r : Reach} {b0 : Nat} {v : Value} {d : DataW H} {p : List MemPlace} (hv : Value.okWide Tryz.prog w r b0 24 v) (h : DataW.Trod enc Tryz.prog w base spare held 24 v d p) :
    ∃ (ga : Option Addr) (ns : List Nd) (gc : Nat) (rr : Int), v = .agg #[.slice ga ns.length gc, .int .i64 rr] ∧ NodesAt w ga ns ∧ (∀ j, j < ns.length → (ndn ns j).wf) ∧
      ∀ (ts : List TypeId) (ds : List (DataW H)) (j : Nat), (DataW.weightsEach Tryz.prog ts ds).all (· ≤ reachBytes) = true → ts[j]? = some 24 → ds[j]? = some d → ns.length * 40 ≤ 140737488351232 := by
  obtain ⟨c0, c1, y0, y1, m, rfl, rfl, rfl, hy0, hy1⟩ := open_agg2 Tryz.underlying24 (by kernel_rfl) Tryz.cellsGraph hv h
  obtain ⟨rr, e1, _, _⟩ := DataW.trod_int Tryz.underlying3 hy1
  simp at e1
  subst e1
  rcases open_slice Tryz.underlying22 hy0 with ⟨hcs, hx⟩ | ⟨a, len, cap, m, n, D, Pl, hcs, hb, hl, hm, hmm, hx, hel⟩
  · simp at hcs
    subst hcs
    exact ⟨none, [], 0, rr, rfl, fun i hi => absurd hi (Nat.not_lt_zero i), fun i hi => absurd hi (Nat.not_lt_zero i), fun _ _ _ _ _ _ => by simp⟩
  · simp at hcs
    subst hcs
    have hlm : len ≤ m := by rw [hmm]; split <;> omega
    rw [Tryz.cellsNode] at hel
    haveI : Inhabited Nd := ⟨⟨0, 0, 0, 0, 0⟩⟩
    obtain ⟨X, hX⟩ := choose_lt (α := Nd) (n := len) (p := fun i x => w.cells? base (a.add (i * 5)) 5 = some x.cells ∧ x.wf) (fun i hi => by
      obtain ⟨cs', h1, h2⟩ := hel i (by omega)
      obtain ⟨x, rfl, hx⟩ := open_node_wf h2
      exact ⟨x, h1, hx⟩)
    have hlen : ((List.range len).map X).length = len := by simp
    refine ⟨some a, (List.range len).map X, cap, rr, by rw [hlen], ?_, ?_, ?_⟩
    · intro i hi
      rw [hlen] at hi
      have hcell : ∀ j, j < len → ∀ f, f < 5 → w.cell? ((a.add (j * 5)).add f) = (X j).cells[f]? := fun j hj f hf => (World.cells?_some (hX j hj).1).2.2 f hf
      obtain ⟨b, off, spot⟩ := a
      have hspot : spot = none := by
        have := hcell 0 (by omega) 0 (by omega)
        simp only [Nat.zero_mul] at this
        exact World.cell?_spot (a := ⟨b, off, spot⟩) (v := .int .i64 (X 0).kind) (by simpa [Addr.add, Nd.cells] using this)
      subst hspot
      have hnd : ∀ j, j < len → ndn ((List.range len).map X) j = X j := by
        intro j hj
        rw [ndn_lt (by simpa using hj)]
        simp
      have hc2 : ∀ j, j < len → ∀ f, f < 5 → w.cell? ⟨b, off + j * 5 + f, none⟩ = (X j).cells[f]? := by
        intro j hj f hf
        have := hcell j hj f hf
        rw [Go.WideShapes.add_plain, Go.WideShapes.add_plain] at this
        exact this
      refine ⟨b, off, rfl, ?_, ?_⟩
      · have := hc2 i hi 0 (by omega)
        exact World.block_lt_of_cell? w ⟨b, off + i * 5 + 0, none⟩ (this.trans rfl)
      · intro j hj
        rw [hlen] at hj
        rw [hnd j hj]
        exact ⟨hc2 j hj 0 (by omega), hc2 j hj 1 (by omega), hc2 j hj 2 (by omega), hc2 j hj 3 (by omega), hc2 j hj 4 (by omega)⟩
    · intro j hj
      rw [hlen] at hj
      rw [ndn_lt (by simpa using hj)]
      simpa using (hX j hj).2
    · intro ts ds j hw ht hd
      rw [hlen]
      have hmem := DataW.weights_mem_each (P := Tryz.prog) ht hd
      have : (len + (m - len)) * Tryz.prog.bytesOf 46 ∈ DataW.weightsEach Tryz.prog ts ds := by
        refine hmem _ ?_
        rw [hx]
        simp [DataW.weights, Tryz.underlying24, DataW.weightsEach, Tryz.underlying22]
      have hle := of_decide_eq_true (List.all_eq_true.1 hw _ this)
      rw [Tryz.bytesNode] at hle
      unfold reachBytes at hle
      omega
end
end Go.Proofs.YtfemleimkbjehaaGreat
namespace Go.Proofs.YtfemleimkbjehaaGreat
set_option linter.unusedVariables false
set_option linter.unusedSimpArgs false
open Go.ChangeShapes Go.WideShapes Go.ChangeAt Go.RowKit Go.Joins Go.Deep

theorem bulk_one {H : Type} (d : DataW H) : 1 ≤ Rows.uptoBulk d := by
  cases d with
  | lit l => cases l <;> simp [Rows.uptoBulk]
  | _ => simp [Rows.uptoBulk]
theorem bulk_all {H : Type} (c : Nat) : ∀ (l : List (DataW H)), (∀ d ∈ l, c ≤ Rows.uptoBulk d) → c * l.length ≤ Rows.uptoBulkAll l := by
  intro l
  induction l with
  | nil => intro _; simp
  | cons x r ih =>
    intro h
    have h1 := h x (by simp)
    have h2 := ih fun d hd => h d (by simp [hd])
    simp only [Rows.uptoBulkAll, List.length_cons, Nat.mul_add, Nat.mul_one]
    omega
theorem bulk_mem {H : Type} {d : DataW H} : ∀ {l : List (DataW H)}, d ∈ l → Rows.uptoBulk d ≤ Rows.uptoBulkAll l := by
  intro l
  induction l with
  | nil => intro h; cases h
  | cons x r ih =>
    intro h
    simp only [Rows.uptoBulkAll]
    rcases List.mem_cons.1 h with e | e
    · subst e; omega
    · have := ih e; omega
def OpR.cells (x : OpR) : List Value := [.int .i64 x.kd, .int .i64 x.a, .int .i64 x.b, .int .i64 x.c, .int .i64 x.h]
theorem opn_lt {l : List OpR} {k : Nat} (h : k < l.length) : opn l k = l[k] := getD_lt _ _ h
theorem Tryz.cellsOp : Tryz.prog.cellsOf 31 = 5 := by kernel_rfl
section
variable {H : Type} {enc : TypeId × Value → H} {w : World} {base : Nat} {spare : Nat → Bool} {held : Bool}

set_option maxRecDepth 100000 in
theorem open_op {n : Nat} {cs : List Value} {y : DataW H × List MemPlace} (h : DataW.trod enc Tryz.prog w base spare held n 31 cs = some y) : ∃ x : OpR, cs = x.cells ∧ 6 ≤ Rows.uptoBulk y.1 := by
  cases n with
  | zero => simp [DataW.trod] at h
  | succ n =>
    unfold DataW.trod at h
    rw [Tryz.underlying31] at h
    simp only at h
    rw [Tryz.cellsOp] at h
    split at h
    · rename_i hl
      obtain ⟨xs, hx, hy⟩ := Option.map_eq_some_iff.1 h
      have hxl := mapM_some_length hx
      obtain ⟨c0, c1, c2, c3, c4, rfl⟩ := list5 hl
      obtain ⟨y0, e0⟩ := get_some hx (i := 0) rfl
      obtain ⟨y1, e1⟩ := get_some hx (i := 1) rfl
      obtain ⟨y2, e2⟩ := get_some hx (i := 2) rfl
      obtain ⟨y3, e3⟩ := get_some hx (i := 3) rfl
      obtain ⟨y4, e4⟩ := get_some hx (i := 4) rfl
      obtain ⟨a0, f0, _⟩ := DataW.trod_int Tryz.underlying3 e0
      obtain ⟨a1, f1, _⟩ := DataW.trod_int Tryz.underlying3 e1
      obtain ⟨a2, f2, _⟩ := DataW.trod_int Tryz.underlying3 e2
      obtain ⟨a3, f3, _⟩ := DataW.trod_int Tryz.underlying3 e3
      obtain ⟨a4, f4, _⟩ := DataW.trod_int Tryz.underlying3 e4
      rw [Tryz.cellsInt] at f0 f1 f2 f3 f4
      simp at f0 f1 f2 f3 f4
      subst f0 f1 f2 f3 f4
      refine ⟨⟨a0, a1, a2, a3, a4⟩, rfl, ?_⟩
      have h5 : xs.length = 5 := by simpa using hxl
      rw [← hy]
      have := bulk_all 1 (xs.map (·.1)) (fun d _ => bulk_one d)
      simp only [Rows.uptoBulk]
      simp at this ⊢
      omega
    · cases h

set_option maxRecDepth 100000 in
/-- A script that came in, opened. -/
theorem open_ops {r : Reach} {b0 : Nat} {v : Value} {d : DataW H} {p : List MemPlace} (hv : Value.okWide Tryz.prog w r b0 25 v) (h : DataW.Trod enc Tryz.prog w base spare held 25 v d p) :
    ∃ (va : Option Addr) (ops : List OpR) (vc : Nat), v = .slice va ops.length vc ∧ OpsAt w va ops ∧ 6 * ops.length ≤ Rows.uptoBulk d := by
  obtain ⟨a0, l0, k0, rfl⟩ := okWide_slice Tryz.underlying25 hv
  obtain ⟨fuel, hf⟩ := h
  rcases open_slice Tryz.underlying25 hf with ⟨hcs, hx⟩ | ⟨a, len, cap, m, n, D, Pl, hcs, hb, hl, hm, hmm, hx, hel⟩
  · simp [Value.cells] at hcs
    obtain ⟨rfl, rfl, rfl⟩ := hcs
    exact ⟨none, [], 0, rfl, fun i hi => absurd hi (Nat.not_lt_zero i), by simp⟩
  · simp [Value.cells] at hcs
    obtain ⟨rfl, rfl, rfl⟩ := hcs
    have hlm : l0 ≤ m := by rw [hmm]; split <;> omega
    rw [Tryz.cellsOp] at hel
    haveI : Inhabited OpR := ⟨⟨0, 0, 0, 0, 0⟩⟩
    obtain ⟨X, hX⟩ := choose_lt (α := OpR) (n := l0) (p := fun i x => w.cells? base (a.add (i * 5)) 5 = some x.cells) (fun i hi => by
      obtain ⟨cs', h1, h2⟩ := hel i (by omega)
      obtain ⟨x, rfl, hx⟩ := open_op h2
      exact ⟨x, h1⟩)
    have hlen : ((List.range l0).map X).length = l0 := by simp
    refine ⟨some a, (List.range l0).map X, k0, by rw [hlen], ?_, ?_⟩
    · intro i hi
      rw [hlen] at hi
      have hcell : ∀ j, j < l0 → ∀ f, f < 5 → w.cell? ((a.add (j * 5)).add f) = (X j).cells[f]? := fun j hj f hf => (World.cells?_some (hX j hj)).2.2 f hf
      obtain ⟨b, off, spot⟩ := a
      have hspot : spot = none := by
        have := hcell 0 (by omega) 0 (by omega)
        simp only [Nat.zero_mul] at this
        exact World.cell?_spot (a := ⟨b, off, spot⟩) (v := .int .i64 (X 0).kd) (by simpa [Addr.add, OpR.cells] using this)
      subst hspot
      have hnd : ∀ j, j < l0 → opn ((List.range l0).map X) j = X j := by
        intro j hj
        rw [opn_lt (by simpa using hj)]
        simp
      have hc2 : ∀ j, j < l0 → ∀ f, f < 5 → w.cell? ⟨b, off + j * 5 + f, none⟩ = (X j).cells[f]? := by
        intro j hj f hf
        have := hcell j hj f hf
        rw [Go.WideShapes.add_plain, Go.WideShapes.add_plain] at this
        exact this
      refine ⟨b, off, rfl, ?_, ?_⟩
      · have := hc2 i hi 0 (by omega)
        exact World.block_lt_of_cell? w ⟨b, off + i * 5 + 0, none⟩ (this.trans rfl)
      · intro j hj
        rw [hlen] at hj
        rw [hnd j hj]
        exact ⟨hc2 j hj 0 (by omega), hc2 j hj 1 (by omega), hc2 j hj 2 (by omega), hc2 j hj 3 (by omega), hc2 j hj 4 (by omega)⟩
    · rw [hlen]
      simp only [Prod.mk.injEq] at hx
      rw [hx.1]
      have := bulk_all 6 ((List.range l0).map D) (fun d hd => by
        obtain ⟨i, hi, rfl⟩ := List.mem_map.1 hd
        obtain ⟨cs', _, h2⟩ := hel i (by have := List.mem_range.1 hi; omega)
        obtain ⟨_, _, h6⟩ := open_op h2
        exact h6)
      rw [List.length_map, List.length_range] at this
      simp only [Rows.uptoBulk]
      omega
end

set_option maxRecDepth 100000 in
theorem sources_lifted (os : Os) (started : os.Started) (H : Type) (enc : TypeId × Value → H) (F : Stop.Interp) :
    ReturnsInHanded {} Tryz.checked os 3 .any ((Rows.OpenSpec.upto Rows.sourcesSpec).pre6 enc Tryz.prog Tryz.f3 Rows.sourcesUptoRow.domain false) (((Rows.OpenSpec.upto Rows.sourcesSpec).at F).post enc Tryz.prog Tryz.f3 false true false false) := by
  refine returnsInHanded_of_cond_sized (C := Tryz.checked) (s := Rows.OpenSpec.upto Rows.sourcesSpec) (k := Rows.uptoSmall) rfl Tryz.own started (by kernel_rfl) Tryz.func3
    (OpenSpec.witness (enc := enc) (C := Tryz.checked) (s := Rows.OpenSpec.upto Rows.sourcesSpec) (k := Rows.uptoSmall) rfl false ⟨#[], #[.agg #[.slice none 0 0, .int .i64 0], .int .i64 0, .slice none 0 0], []⟩ 8 (by kernel_rfl) (by kernel_rfl) (by kernel_rfl)
      (x := ([.agg [.nil, .lit (.int .i64 0)], .lit (.int .i64 0), .nil], [], [])) (by kernel_rfl) rfl (by kernel_rfl)) ?_
  intro W base args ds gs before hval0 hW _ hk hsz0 _
  have hsz : (DataW.weightsEach Tryz.prog (Tryz.f3.params.toList ++ Rows.sourcesSpec.plain.varTypes Tryz.prog) (ds ++ gs)).all (· ≤ reachBytes) = true := hsz0
  clear hsz0
  have hval : ∀ (j : Nat) t v, Tryz.f3.params[j]? = some t → args[j]? = some v → Value.okWide Tryz.prog W .any base t v := hval0
  have hW' := hW
  obtain ⟨p, q, hA0, hV, rfl, _, _⟩ := hW
  have hA : DataW.TrodAll enc Tryz.prog W 0 (fun _ => true) true Tryz.f3.params.toList args.toList ds p := hA0
  rw [Tryz.params3] at hA hval hsz
  obtain ⟨v0, v1, v2, d0, d1, d2, p0, p1, p2, rfl, rfl, rfl, h0, h1, h2⟩ := trodAll_three hA
  obtain ⟨rfl, rfl⟩ := trodVars_none hV
  have h0k := h0
  have h2k := h2
  obtain ⟨n, rfl, rfl, rfl, wn⟩ := open_int Tryz.underlying3 (hval 1 3 v1 rfl rfl) h1
  obtain ⟨va, ops, vc, rfl, hops, hbulk⟩ := open_ops (hval 2 25 v2 rfl rfl) h2
  obtain ⟨ga, ns, gc, rr, rfl, hn, hsize⟩ := open_graph (hval 0 24 v0 rfl rfl) h0
  have hl := hsize _ _ 0 hsz rfl rfl
  have hol : ops.length ≤ 199000 := by
    have h3 : Rows.uptoBulkAll ([d0, DataW.lit (.int .i64 n), d2] ++ []) ≤ 1048576 := of_decide_eq_true hk
    have h4 : Rows.uptoBulk d2 ≤ Rows.uptoBulkAll ([d0, DataW.lit (.int .i64 n), d2] ++ []) := bulk_mem (by simp)
    omega
  clear hA0 hval0
  simp only [List.append_nil] at hW'
  have hlt : ∀ x ∈ p0, x.block < W.heap.size := fun x hx => by simpa using hW'.lt x (by simp [hx])
  have hlt2 : ∀ x ∈ p2, x.block < W.heap.size := fun x hx => by simpa using hW'.lt x (by simp [hx])
  refine (sources_any ns ga va gc vc rr n ops W hn hl hops hol).mono fun e W' ⟨he, hb⟩ => ?_
  subst he
  refine ⟨_, rfl, _, _, _, [], p0 ++ p2, [], hW', ?_, ?_, rfl, Below.frame hb _, fun h => by cases h⟩
  · exact trodAll_mk1 (shut_bool Tryz.underlying4 true)
  · have := trodAll_mk3 (Below.trod Tryz.laidOut (by kernel_rfl) (of_decide_eq_true (by kernel_rfl)) h0k hb hlt) (shut_int (enc := enc) (w := W') (base := 0) (spare := fun b => decide (b < W.heap.size)) (held := true) Tryz.underlying3 wn) (Below.trod Tryz.laidOut (by kernel_rfl) (of_decide_eq_true (by kernel_rfl)) h2k hb hlt2)
    have this' : DataW.TrodAll enc Tryz.prog W' 0 (fun b => decide (b < W.heap.size)) true [24, 3, 25] [.agg #[.slice ga ns.length gc, .int .i64 rr], .int .i64 n, .slice va ops.length vc] [d0, .lit (.int .i64 n), d2] (p0 ++ p2) := by simpa using this
    exact this'

theorem sources_holds : Rows.SourcesUptoSaid :=
  OpenClaim.holds_of_cond 3 Tryz.f3 rfl rfl rfl rfl rfl rfl rfl ⟨rfl, rfl, rfl, rfl, rfl⟩ rfl rfl rfl rfl rfl (by kernel_rfl) Tryz.func3 (by kernel_rfl)
    (of_decide_eq_true (by kernel_rfl)) (by unfold Func.isWrapper; rw [if_neg (of_decide_eq_false (by kernel_rfl))]; exact ⟨rfl, rfl⟩)
    (fun os started H enc _ F => sources_lifted os started H enc F)
end Go.Proofs.YtfemleimkbjehaaGreat
