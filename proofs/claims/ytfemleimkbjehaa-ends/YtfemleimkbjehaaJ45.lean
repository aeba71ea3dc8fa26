import Derived.Test.YtfemleimkbjehaaJ38
import Derived.Test.YtfemleimkbjehaaJ44
import Derived.Carry
set_option maxRecDepth 1000000
set_option maxHeartbeats 40000000
set_option linter.unusedVariables false
set_option linter.unusedSimpArgs false
namespace Go.Proofs.Ytfemleimkbjehaa
open Go.ChangeShapes Go.WideShapes Go.ChangeAt Go.RowKit Go.Joins Go.Deep
def OpI.cells (x : OpI) : List Value := [.int .i64 x.k, .int .i64 x.a, .int .i64 x.b, .int .i64 x.c]
theorem opk_lt {l : List OpI} {k : Nat} (h : k < l.length) : opn l k = l[k] := lS _ _ h
theorem Try.cellsOpK : Try.prog.cellsOf 67 = 4 := by kernel_rfl
theorem Try.bytesOpK : Try.prog.bytesOf 67 = 32 := by kernel_rfl
theorem Try.bytesIntK : Try.prog.bytesOf 3 = 8 := by kernel_rfl
theorem list4 {α : Type} {l : List α} (h : l.length = 4) : ∃ a b c d, l = [a, b, c, d] := by
  match l, h with
  | [a, b, c, d], _ => exact ⟨a, b, c, d, rfl⟩
section
variable {H : Type} {enc : TypeId × Value → H} {P : Program} {w : World} {base : Nat} {spare : Nat → Bool} {held : Bool}
end
section
variable {H : Type} {enc : TypeId × Value → H} {w : World} {base : Nat} {spare : Nat → Bool} {held : Bool}
set_option maxRecDepth 100000 in
theorem open_opk {n : Nat} {cs : List Value} {y : DataW H × List MemPlace} (h : DataW.trod enc Try.prog w base spare held n 67 cs = some y) : ∃ x : OpI, cs = x.cells ∧ x.wf := by
  cases n with
  | zero => simp [DataW.trod] at h
  | succ n =>
    unfold DataW.trod at h
    rw [Try.underlying67] at h
    simp only at h
    rw [Try.cellsOpK] at h
    split at h
    · rename_i hl
      obtain ⟨xs, hx, _⟩ := Option.map_eq_some_iff.1 h
      obtain ⟨c0, c1, c2, c3, rfl⟩ := list4 hl
      obtain ⟨y0, e0⟩ := xM hx (i := 0) rfl
      obtain ⟨y1, e1⟩ := xM hx (i := 1) rfl
      obtain ⟨y2, e2⟩ := xM hx (i := 2) rfl
      obtain ⟨y3, e3⟩ := xM hx (i := 3) rfl
      obtain ⟨a0, f0, _, g0⟩ := DataW.trod_int Try.underlying3 e0
      obtain ⟨a1, f1, _, g1⟩ := DataW.trod_int Try.underlying3 e1
      obtain ⟨a2, f2, _, g2⟩ := DataW.trod_int Try.underlying3 e2
      obtain ⟨a3, f3, _, g3⟩ := DataW.trod_int Try.underlying3 e3
      rw [Try.cellsInt] at f0 f1 f2 f3
      simp at f0 f1 f2 f3
      subst f0 f1 f2 f3
      exact ⟨⟨a0, a1, a2, a3⟩, rfl, mL g0, mL g1, mL g2, mL g3⟩
    · cases h
set_option maxRecDepth 100000 in
/-- A script that came in, opened. -/
theorem open_opsk {r : Reach} {b0 : Nat} {v : Value} {d : DataW H} {p : List MemPlace} (hv : Value.okWide Try.prog w r b0 45 v) (h : DataW.Trod enc Try.prog w base spare held 45 v d p) :
    ∃ (va : Option Addr) (ops : List OpI) (vc : Nat), v = .slice va ops.length vc ∧ OpsAt w va ops ∧ (∀ j, j < ops.length → (opn ops j).wf) ∧
      ∀ (ts : List TypeId) (ds : List (DataW H)) (j : Nat), (DataW.weightsEach Try.prog ts ds).all (· ≤ reachBytes) = true → ts[j]? = some 45 → ds[j]? = some d → ops.length * 32 ≤ 140737488351232 := by
  obtain ⟨a0, l0, k0, rfl⟩ := okWide_slice Try.underlying45 hv
  obtain ⟨fuel, hf⟩ := h
  rcases open_slice Try.underlying45 hf with ⟨hcs, hx⟩ | ⟨a, len, cap, m, n, D, Pl, hcs, hb, hl, hm, hmm, hx, hel⟩
  · simp [Value.cells] at hcs
    obtain ⟨rfl, rfl, rfl⟩ := hcs
    exact ⟨none, [], 0, rfl, fun i hi => absurd hi (Nat.not_lt_zero i), fun i hi => absurd hi (Nat.not_lt_zero i), fun _ _ _ _ _ _ => by simp⟩
  · simp [Value.cells] at hcs
    obtain ⟨rfl, rfl, rfl⟩ := hcs
    have hlm : l0 ≤ m := by rw [hmm]; split <;> omega
    rw [Try.cellsOpK] at hel
    haveI : Inhabited OpI := ⟨⟨0, 0, 0, 0⟩⟩
    obtain ⟨X, hX⟩ := choose_lt (α := OpI) (n := l0) (p := fun i x => w.cells? base (a.add (i * 4)) 4 = some x.cells ∧ x.wf) (fun i hi => by
      obtain ⟨cs', h1, h2⟩ := hel i (by omega)
      obtain ⟨x, rfl, hx⟩ := open_opk h2
      exact ⟨x, h1, hx⟩)
    have hlen : ((List.range l0).map X).length = l0 := by simp
    have hnd : ∀ j, j < l0 → opn ((List.range l0).map X) j = X j := by
      intro j hj
      rw [opk_lt (by simpa using hj)]
      simp
    refine ⟨some a, (List.range l0).map X, k0, by rw [hlen], ?_, ?_, ?_⟩
    · intro i hi
      rw [hlen] at hi
      have hcell : ∀ j, j < l0 → ∀ f, f < 4 → w.cell? ((a.add (j * 4)).add f) = (X j).cells[f]? := fun j hj f hf => (World.cells?_some (hX j hj).1).2.2 f hf
      obtain ⟨b, off, spot⟩ := a
      have hspot : spot = none := by
        have := hcell 0 (by omega) 0 (by omega)
        simp only [Nat.zero_mul] at this
        exact World.cell?_spot (a := ⟨b, off, spot⟩) (v := .int .i64 (X 0).k) (by simpa [Addr.add, OpI.cells] using this)
      subst hspot
      have hc2 : ∀ j, j < l0 → ∀ f, f < 4 → w.cell? ⟨b, off + j * 4 + f, none⟩ = (X j).cells[f]? := by
        intro j hj f hf
        have := hcell j hj f hf
        rw [Go.WideShapes.add_plain, Go.WideShapes.add_plain] at this
        exact this
      refine ⟨b, off, rfl, ?_, ?_⟩
      · have := hc2 i hi 0 (by omega)
        exact World.block_lt_of_cell? w ⟨b, off + i * 4 + 0, none⟩ (this.trans rfl)
      · intro j hj
        rw [hlen] at hj
        rw [hnd j hj]
        exact ⟨hc2 j hj 0 (by omega), hc2 j hj 1 (by omega), hc2 j hj 2 (by omega), hc2 j hj 3 (by omega)⟩
    · intro j hj
      rw [hlen] at hj
      rw [hnd j hj]
      exact (hX j hj).2
    · intro ts ds j hw ht hd
      rw [hlen]
      simp only [Prod.mk.injEq] at hx
      have hmem := DataW.weights_mem_each (P := Try.prog) ht hd
      have : (l0 + (m - l0)) * Try.prog.bytesOf 67 ∈ DataW.weightsEach Try.prog ts ds := by
        refine hmem _ ?_
        rw [hx.1]
        simp [DataW.weights, Try.underlying45]
      have hle := of_decide_eq_true (List.all_eq_true.1 hw _ this)
      rw [Try.bytesOpK] at hle
      unfold reachBytes at hle
      omega
set_option maxRecDepth 100000 in
/-- Numbers that came in, opened. -/
theorem open_intsk {r : Reach} {b0 : Nat} {v : Value} {d : DataW H} {p : List MemPlace} (hv : Value.okWide Try.prog w r b0 26 v) (h : DataW.Trod enc Try.prog w base spare held 26 v d p) :
    ∃ (va : Option Addr) (xs : List Int) (vc : Nat), v = .slice va xs.length vc ∧ IntsAt w va xs ∧ pK xs ∧
      ∀ (ts : List TypeId) (ds : List (DataW H)) (j : Nat), (DataW.weightsEach Try.prog ts ds).all (· ≤ reachBytes) = true → ts[j]? = some 26 → ds[j]? = some d → xs.length * 8 ≤ 140737488351232 := by
  obtain ⟨a0, l0, k0, rfl⟩ := okWide_slice Try.underlying26 hv
  obtain ⟨fuel, hf⟩ := h
  rcases open_slice Try.underlying26 hf with ⟨hcs, hx⟩ | ⟨a, len, cap, m, n, D, Pl, hcs, hb, hl, hm, hmm, hx, hel⟩
  · simp [Value.cells] at hcs
    obtain ⟨rfl, rfl, rfl⟩ := hcs
    exact ⟨none, [], 0, rfl, fun i hi => absurd hi (Nat.not_lt_zero i), fun v hv => by simp at hv, fun _ _ _ _ _ _ => by simp⟩
  · simp [Value.cells] at hcs
    obtain ⟨rfl, rfl, rfl⟩ := hcs
    have hlm : l0 ≤ m := by rw [hmm]; split <;> omega
    rw [Try.cellsInt] at hel
    obtain ⟨X, hX⟩ := choose_lt (α := Int) (n := l0) (p := fun i x => w.cells? base (a.add (i * 1)) 1 = some [.int .i64 x] ∧ mJ x) (fun i hi => by
      obtain ⟨cs', h1, h2⟩ := hel i (by omega)
      obtain ⟨x, hxe, _, hxw⟩ := DataW.trod_int Try.underlying3 h2
      refine ⟨x, ?_, mL hxw⟩
      rw [h1, hxe])
    have hlen : ((List.range l0).map X).length = l0 := by simp
    have hnd : ∀ j, j < l0 → jQ ((List.range l0).map X) j = X j := by
      intro j hj
      rw [jN (by simpa using hj)]
      simp
    refine ⟨some a, (List.range l0).map X, k0, by rw [hlen], ?_, ?_, ?_⟩
    · intro i hi
      rw [hlen] at hi
      have hcell : ∀ j, j < l0 → w.cell? ((a.add (j * 1)).add 0) = some (.int .i64 (X j)) := fun j hj => (World.cells?_some (hX j hj).1).2.2 0 (by omega)
      obtain ⟨b, off, spot⟩ := a
      have hspot : spot = none := by
        have := hcell 0 (by omega)
        simp only [Nat.zero_mul] at this
        exact World.cell?_spot (a := ⟨b, off, spot⟩) (v := .int .i64 (X 0)) (by simpa [Addr.add] using this)
      subst hspot
      have hc2 : ∀ j, j < l0 → w.cell? ⟨b, off + j, none⟩ = some (.int .i64 (X j)) := by
        intro j hj
        have := hcell j hj
        rw [Go.WideShapes.add_plain, Go.WideShapes.add_plain, Nat.mul_one, Nat.add_zero] at this
        exact this
      refine ⟨b, off, rfl, World.block_lt_of_cell? w ⟨b, off + i, none⟩ (hc2 i hi), ?_⟩
      intro j hj
      rw [hlen] at hj
      rw [hnd j hj]
      exact hc2 j hj
    · intro v hv
      obtain ⟨i, hi, rfl⟩ := List.mem_map.1 hv
      exact (hX i (List.mem_range.1 hi)).2
    · intro ts ds j hw ht hd
      rw [hlen]
      simp only [Prod.mk.injEq] at hx
      have hmem := DataW.weights_mem_each (P := Try.prog) ht hd
      have : (l0 + (m - l0)) * Try.prog.bytesOf 3 ∈ DataW.weightsEach Try.prog ts ds := by
        refine hmem _ ?_
        rw [hx.1]
        simp [DataW.weights, Try.underlying26]
      have hle := of_decide_eq_true (List.all_eq_true.1 hw _ this)
      rw [Try.bytesIntK] at hle
      unfold reachBytes at hle
      omega
end
set_option maxRecDepth 100000 in
theorem ends_lifted (os : Os) (started : os.Started) (H : Type) (enc : TypeId × Value → H) :
    ReturnsInHanded {} Try.checked os 7 .any (Rows.endsSpec.pre6 enc Try.prog Try.f7 Rows.endsRow.domain false) (Rows.endsSpec.post enc Try.prog Try.f7 false true false false) := by
  refine returnsInHanded_of_change_sized (C := Try.checked) Try.own started (by kernel_rfl) Try.func7
    (ChangeSpec.witness6 (enc := enc) (C := Try.checked) false ⟨#[], #[.agg #[.slice none 0 0, .int .i64 0], .int .i64 0, .slice none 0 0, .slice none 0 0], []⟩ 8 (by kernel_rfl) (by kernel_rfl) (by kernel_rfl) (by kernel_rfl)) ?_
  intro W base args ds gs before hval0 hW _ hsz0 _
  have hsz : (DataW.weightsEach Try.prog (Try.f7.params.toList ++ Rows.endsSpec.plain.varTypes Try.prog) (ds ++ gs)).all (· ≤ reachBytes) = true := hsz0
  clear hsz0
  have hval : ∀ (j : Nat) t v, Try.f7.params[j]? = some t → args[j]? = some v → Value.okWide Try.prog W .any base t v := hval0
  have hW' := hW
  obtain ⟨p, q, hA0, hV, rfl, _, _⟩ := hW
  have hA : DataW.TrodAll enc Try.prog W 0 (fun _ => true) true Try.f7.params.toList args.toList ds p := hA0
  rw [Try.params7] at hA hval hsz
  obtain ⟨v0, v1, v2, v3, d0, d1, d2, d3, p0, p1, p2, p3, rfl, rfl, rfl, h0, h1, h2, h3⟩ := trodAll_four hA
  obtain ⟨rfl, rfl⟩ := trodVars_none hV
  have h0k := h0
  have h2k := h2
  have h3k := h3
  obtain ⟨n, rfl, rfl, rfl, wn⟩ := open_int Try.underlying3 (hval 1 3 v1 rfl rfl) h1
  obtain ⟨sa, ops, sc, rfl, hops, how, hosz⟩ := open_opsk (hval 2 45 v2 rfl rfl) h2
  obtain ⟨ca, cs, cc, rfl, hcs, hc64, hcsz⟩ := open_intsk (hval 3 26 v3 rfl rfl) h3
  have hol := hosz _ _ 2 hsz rfl rfl
  have hcl := hcsz _ _ 3 hsz rfl rfl
  obtain ⟨ga, ns, gc, rr, rfl, hn, hwf, hsize⟩ := open_graph_wf (hval 0 24 v0 rfl rfl) h0
  have hl := hsize _ _ 0 hsz rfl rfl
  clear hA0 hval0
  simp only [List.append_nil, List.nil_append] at hW'
  have hlt : ∀ x ∈ p0, x.block < W.heap.size := fun x hx => by simpa using hW'.lt x (by simp [hx])
  have hlt2 : ∀ x ∈ p2, x.block < W.heap.size := fun x hx => by simpa using hW'.lt x (by simp [hx])
  have hlt3 : ∀ x ∈ p3, x.block < W.heap.size := fun x hx => by simpa using hW'.lt x (by simp [hx])
  refine (kends_any ns ga gc rr n ops sa sc cs ca cc W hn (by unfold maxLen; omega) hwf (mL wn) hops (by omega) how hcs (by omega) hc64).mono fun e W' ⟨he, hb⟩ => ?_
  subst he
  refine ⟨_, rfl, _, _, _, [], (p0 ++ p2 ++ p3), [], hW', ?_, ?_, rfl, Below.frame hb _, fun h => by cases h⟩
  · exact trodAll_mk1 (shut_bool Try.underlying4 true)
  · have := trodAll_mk4 (Below.trod Try.laidOut (by kernel_rfl) (of_decide_eq_true (by kernel_rfl)) h0k hb hlt) (shut_int (enc := enc) (w := W') (base := 0) (spare := fun b => decide (b < W.heap.size)) (held := true) Try.underlying3 wn) (Below.trod Try.laidOut (by kernel_rfl) (of_decide_eq_true (by kernel_rfl)) h2k hb hlt2) (Below.trod Try.laidOut (by kernel_rfl) (of_decide_eq_true (by kernel_rfl)) h3k hb hlt3)
    have this' : DataW.TrodAll enc Try.prog W' 0 (fun b => decide (b < W.heap.size)) true [24, 3, 45, 26] [.agg #[.slice ga ns.length gc, .int .i64 rr], .int .i64 n, .slice sa ops.length sc, .slice ca cs.length cc] [d0, .lit (.int .i64 n), d2, d3] (p0 ++ p2 ++ p3) := by simpa using this
    exact this'
theorem ends_holds : Rows.EndsSaid :=
  OpenClaim.holds_of_wide 7 Try.f7 rfl rfl rfl rfl rfl rfl rfl ⟨rfl, rfl, rfl, rfl, rfl⟩ rfl rfl rfl rfl rfl (by kernel_rfl) Try.func7 (by kernel_rfl)
    (of_decide_eq_true (by kernel_rfl)) (by unfold Func.isWrapper; rw [if_neg (of_decide_eq_false (by kernel_rfl))]; exact ⟨rfl, rfl⟩)
    (fun os started H enc _ => ends_lifted os started H enc)
end Go.Proofs.Ytfemleimkbjehaa
