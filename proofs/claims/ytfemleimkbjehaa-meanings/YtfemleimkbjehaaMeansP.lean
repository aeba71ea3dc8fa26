import Derived.Test.YtfemleimkbjehaaLawA
import Derived.Test.YtfemleimkbjehaaOpenA
namespace Go.Proofs.Ytfemleimkbjehaa
open Go.ChangeShapes Go.WideShapes Go.ChangeAt Go.RowKit Go.Joins Go.Deep

def exGv : List Gv := [⟨0, 0, 1⟩, ⟨0, 0, 3⟩]
theorem meant_ex (ga va : Option Addr) (w : World) (hn : NodesAt w ga exNs) (hv : GvAt w va exGv) :
    Calls Try.prog 20 #[.agg #[.slice ga 7 7, .int .i64 3], .slice va 2 2] w fun e w' => e = .returned (.bool true) ∧ Bw w w' :=
  meant_any exNs ga va 7 2 3 exGv w hn (by decide) hv (by
    intro k hk
    have hk2 : k < 2 := hk
    match k, hk2 with
    | 0, _ => exact ⟨by decide, by decide⟩
    | 1, _ => exact ⟨by decide, by decide⟩) (by decide)
theorem exGv_at {w : World} {g : Nat} (h : w.heap[g]? = some (.cells #[.int .i64 0, .int .i64 0, .int .i64 1, .int .i64 0, .int .i64 0, .int .i64 3] 44)) : GvAt w (some ⟨g, 0, none⟩) exGv :=
  gvAt_cells (Array.getElem?_eq_some_iff.1 h).1 fun p u hp => cell_of_block h (by
    have : gvCells exGv = [.int .i64 0, .int .i64 0, .int .i64 1, .int .i64 0, .int .i64 0, .int .i64 3] := rfl
    rw [this] at hp
    simpa using hp)

set_option maxRecDepth 100000 in
set_option maxHeartbeats 2000000 in
theorem meanings_any (ns : List Nd) (ga va : Option Addr) (gc vc : Nat) (r : Int) (gv : List Gv) (w : World) (hn : NodesAt w ga ns) (hl : ns.length * 40 ≤ 140737488351232) (hv : GvAt w va gv) (h64 : ∀ k, k < gv.length → I64 (gvn gv k).value) (hvl : gv.length * 24 ≤ 140737488351232) :
    Calls Try.prog 6 #[.agg #[.slice ga ns.length gc, .int .i64 r], .slice va gv.length vc] w fun e w' => e = .returned (.bool true) ∧ Bw w w' := by
  go_enter Try.func6, Try.ntmps6
  go_wp2_with fail
  refine (example_any _).mono ?_
  rintro e w1 ⟨g1, rfl, hg1, hb1, hB1⟩
  have hn1 := nodesAt_of_cells (Array.getElem?_eq_some_iff.1 hb1).1 (nodeCells_of_block hb1)
  clear hb1
  go_wp2_with fail
  refine (meant_ex _ _ _ (hn1.below (by repeat (first | exact Bw.refl _ | assumption | refine Bw.drew ?_ | refine Bw.drewN ?_ _ | refine Bw.alloc ?_ _ | refine Bw.trans ?_ (by assumption)))) (exGv_at (alloc_at _ _ (by simp)))).mono ?_
  rintro e w2 ⟨rfl, hB2⟩
  have hBa : Bw (w.alloc (.cells #[.slice ga ns.length gc, .int .i64 r] 24)) w2 := (by repeat (first | exact Bw.refl _ | assumption | refine Bw.drew ?_ | refine Bw.drewN ?_ _ | refine Bw.alloc ?_ _ | refine Bw.trans ?_ (by assumption)))
  obtain ⟨q1, q2⟩ := bcell hBa
  clear hB1 hB2 hn1 hg1
  go_wp2_with fail
  refine (meant_any ns _ _ _ _ _ gv _ (hn.below (by repeat (first | exact Bw.refl _ | assumption | refine Bw.drew ?_ | refine Bw.drewN ?_ _ | refine Bw.alloc ?_ _ | refine Bw.trans ?_ (by assumption)))) hl (hv.below (by repeat (first | exact Bw.refl _ | assumption | refine Bw.drew ?_ | refine Bw.drewN ?_ _ | refine Bw.alloc ?_ _ | refine Bw.trans ?_ (by assumption)))) h64 hvl).mono ?_
  rintro e w3 ⟨rfl, hB3⟩
  clear q1 q2
  go_wp2_with fail
  go_ret
  exact ⟨rfl, (by repeat (first | exact Bw.refl _ | assumption | refine Bw.drew ?_ | refine Bw.drewN ?_ _ | refine Bw.alloc ?_ _ | refine Bw.trans ?_ (by assumption)))⟩

theorem Try.cellsGiven : Try.prog.cellsOf 44 = 3 := by kernel_rfl
theorem Try.bytesGiven : Try.prog.bytesOf 44 = 24 := by kernel_rfl
theorem list3 {α : Type} {l : List α} (h : l.length = 3) : ∃ a b c, l = [a, b, c] := by
  match l, h with
  | [a, b, c], _ => exact ⟨a, b, c, rfl⟩
theorem gvn_lt {gv : List Gv} {k : Nat} (h : k < gv.length) : gvn gv k = gv[k] := getD_lt _ _ h

section
variable {H : Type} {enc : TypeId × Value → H} {w : World} {base : Nat} {spare : Nat → Bool} {held : Bool}

set_option maxRecDepth 100000 in
theorem open_gv {n : Nat} {cs : List Value} {y : DataW H × List MemPlace} (h : DataW.trod enc Try.prog w base spare held n 44 cs = some y) : ∃ x : Gv, cs = x.cells ∧ I64 x.value := by
  cases n with
  | zero => simp [DataW.trod] at h
  | succ n =>
    unfold DataW.trod at h
    rw [Try.underlying44] at h
    simp only at h
    rw [Try.cellsGiven] at h
    split at h
    · rename_i hl
      obtain ⟨xs, hx, _⟩ := Option.map_eq_some_iff.1 h
      obtain ⟨c0, c1, c2, rfl⟩ := list3 hl
      obtain ⟨y0, e0⟩ := get_some hx (i := 0) rfl
      obtain ⟨y1, e1⟩ := get_some hx (i := 1) rfl
      obtain ⟨y2, e2⟩ := get_some hx (i := 2) rfl
      obtain ⟨a0, f0, _, g0⟩ := DataW.trod_int Try.underlying3 e0
      obtain ⟨a1, f1, _, g1⟩ := DataW.trod_int Try.underlying3 e1
      obtain ⟨a2, f2, _, g2⟩ := DataW.trod_int Try.underlying3 e2
      rw [Try.cellsInt] at f0 f1 f2
      simp at f0 f1 f2
      subst f0 f1 f2
      exact ⟨⟨a0, a1, a2⟩, rfl, lit64 g2⟩
    · cases h

set_option maxRecDepth 100000 in
/-- What is given, as it came in, opened. -/
theorem open_given {r : Reach} {b0 : Nat} {v : Value} {d : DataW H} {p : List MemPlace} (hv : Value.okWide Try.prog w r b0 41 v) (h : DataW.Trod enc Try.prog w base spare held 41 v d p) :
    ∃ (va : Option Addr) (gv : List Gv) (vc : Nat), v = .slice va gv.length vc ∧ GvAt w va gv ∧ (∀ k, k < gv.length → I64 (gvn gv k).value) ∧
      ∀ (ts : List TypeId) (ds : List (DataW H)) (j : Nat), (DataW.weightsEach Try.prog ts ds).all (· ≤ reachBytes) = true → ts[j]? = some 41 → ds[j]? = some d → gv.length * 24 ≤ 140737488351232 := by
  obtain ⟨a0, l0, k0, rfl⟩ := okWide_slice Try.underlying41 hv
  obtain ⟨fuel, hf⟩ := h
  rcases open_slice Try.underlying41 hf with ⟨hcs, hx⟩ | ⟨a, len, cap, m, n, D, Pl, hcs, hb, hl, hm, hmm, hx, hel⟩
  · simp [Value.cells] at hcs
    obtain ⟨rfl, rfl, rfl⟩ := hcs
    exact ⟨none, [], 0, rfl, fun i hi => absurd hi (Nat.not_lt_zero i), fun i hi => absurd hi (Nat.not_lt_zero i), fun _ _ _ _ _ _ => by simp⟩
  · simp [Value.cells] at hcs
    obtain ⟨rfl, rfl, rfl⟩ := hcs
    have hlm : l0 ≤ m := by rw [hmm]; split <;> omega
    rw [Try.cellsGiven] at hel
    haveI : Inhabited Gv := ⟨⟨0, 0, 0⟩⟩
    obtain ⟨X, hX⟩ := choose_lt (α := Gv) (n := l0) (p := fun i x => w.cells? base (a.add (i * 3)) 3 = some x.cells ∧ I64 x.value) (fun i hi => by
      obtain ⟨cs', h1, h2⟩ := hel i (by omega)
      obtain ⟨x, rfl, hx⟩ := open_gv h2
      exact ⟨x, h1, hx⟩)
    have hlen : ((List.range l0).map X).length = l0 := by simp
    refine ⟨some a, (List.range l0).map X, k0, by rw [hlen], ?_, ?_, ?_⟩
    · intro i hi
      rw [hlen] at hi
      have hcell : ∀ j, j < l0 → ∀ f, f < 3 → w.cell? ((a.add (j * 3)).add f) = (X j).cells[f]? := fun j hj f hf => (World.cells?_some (hX j hj).1).2.2 f hf
      obtain ⟨b, off, spot⟩ := a
      have hspot : spot = none := by
        have := hcell 0 (by omega) 0 (by omega)
        simp only [Nat.zero_mul] at this
        exact World.cell?_spot (a := ⟨b, off, spot⟩) (v := .int .i64 (X 0).node) (by simpa [Addr.add, Gv.cells] using this)
      subst hspot
      have hnd : ∀ j, j < l0 → gvn ((List.range l0).map X) j = X j := by
        intro j hj
        rw [gvn_lt (by simpa using hj)]
        simp
      have hc2 : ∀ j, j < l0 → ∀ f, f < 3 → w.cell? ⟨b, off + j * 3 + f, none⟩ = (X j).cells[f]? := by
        intro j hj f hf
        have := hcell j hj f hf
        rw [Go.WideShapes.add_plain, Go.WideShapes.add_plain] at this
        exact this
      refine ⟨b, off, rfl, ?_, ?_⟩
      · have := hc2 i hi 0 (by omega)
        exact World.block_lt_of_cell? w ⟨b, off + i * 3 + 0, none⟩ (this.trans rfl)
      · intro j hj
        rw [hlen] at hj
        rw [hnd j hj]
        exact ⟨hc2 j hj 0 (by omega), hc2 j hj 1 (by omega), hc2 j hj 2 (by omega)⟩
    · intro j hj
      rw [hlen] at hj
      rw [gvn_lt (by simpa using hj)]
      simpa using (hX j hj).2
    · intro ts ds j hw ht hd
      rw [hlen]
      have hmem := DataW.weights_mem_each (P := Try.prog) ht hd
      simp only [Prod.mk.injEq] at hx
      have : (l0 + (m - l0)) * Try.prog.bytesOf 44 ∈ DataW.weightsEach Try.prog ts ds := by
        refine hmem _ ?_
        rw [hx.1]
        simp [DataW.weights, Try.underlying41]
      have hle := of_decide_eq_true (List.all_eq_true.1 hw _ this)
      rw [Try.bytesGiven] at hle
      unfold reachBytes at hle
      omega
end

set_option maxRecDepth 100000 in
theorem meanings_lifted (os : Os) (started : os.Started) (H : Type) (enc : TypeId × Value → H) :
    ReturnsInHanded {} Try.checked os 6 .any (Rows.meaningsSpec.pre6 enc Try.prog Try.f6 Rows.meaningsRow.domain false) (Rows.meaningsSpec.post enc Try.prog Try.f6 false true false false) := by
  refine returnsInHanded_of_change_sized (C := Try.checked) Try.own started (by kernel_rfl) Try.func6
    (ChangeSpec.witness6 (enc := enc) (C := Try.checked) false ⟨#[], #[.agg #[.slice none 0 0, .int .i64 0], .slice none 0 0], []⟩ 8 (by kernel_rfl) (by kernel_rfl) (by kernel_rfl) (by kernel_rfl)) ?_
  intro W base args ds gs before hval0 hW _ hsz0 _
  have hsz : (DataW.weightsEach Try.prog (Try.f6.params.toList ++ Rows.meaningsSpec.plain.varTypes Try.prog) (ds ++ gs)).all (· ≤ reachBytes) = true := hsz0
  clear hsz0
  have hval : ∀ (j : Nat) t v, Try.f6.params[j]? = some t → args[j]? = some v → Value.okWide Try.prog W .any base t v := hval0
  have hW' := hW
  obtain ⟨p, q, hA0, hV, rfl, _, _⟩ := hW
  have hA : DataW.TrodAll enc Try.prog W 0 (fun _ => true) true Try.f6.params.toList args.toList ds p := hA0
  rw [Try.params6] at hA hval hsz
  obtain ⟨v0, v1, d0, d1, p0, p1, rfl, rfl, rfl, h0, h1⟩ := trodAll_two hA
  obtain ⟨rfl, rfl⟩ := trodVars_none hV
  have h0k := h0
  have h1k := h1
  obtain ⟨va, gv, vc, rfl, hgv, h64, hsize1⟩ := open_given (hval 1 41 v1 rfl rfl) h1
  obtain ⟨ga, ns, gc, rr, rfl, hn, hsize⟩ := open_graph (hval 0 24 v0 rfl rfl) h0
  have hl := hsize _ _ 0 hsz rfl rfl
  have hl1 := hsize1 _ _ 1 hsz rfl rfl
  clear hA0 hval0
  simp only [List.append_nil] at hW'
  have hlt : ∀ x ∈ p0, x.block < W.heap.size := fun x hx => by simpa using hW'.lt x (by simp [hx])
  have hlt1 : ∀ x ∈ p1, x.block < W.heap.size := fun x hx => by simpa using hW'.lt x (by simp [hx])
  refine (meanings_any ns ga va gc vc rr gv W hn hl hgv h64 hl1).mono fun e W' ⟨he, hb⟩ => ?_
  subst he
  refine ⟨_, rfl, _, _, _, [], p0 ++ p1, [], hW', ?_, ?_, rfl, Below.frame hb _, fun h => by cases h⟩
  · exact trodAll_mk1 (shut_bool Try.underlying4 true)
  · have := trodAll_mk2 (Below.trod Try.laidOut (by kernel_rfl) (of_decide_eq_true (by kernel_rfl)) h0k hb hlt) (Below.trod Try.laidOut (by kernel_rfl) (of_decide_eq_true (by kernel_rfl)) h1k hb hlt1)
    have this' : DataW.TrodAll enc Try.prog W' 0 (fun b => decide (b < W.heap.size)) true [24, 41] [.agg #[.slice ga ns.length gc, .int .i64 rr], .slice va gv.length vc] [d0, d1] (p0 ++ p1) := by simpa using this
    exact this'

theorem meanings_holds : Rows.MeaningsSaid :=
  OpenClaim.holds_of_wide 6 Try.f6 rfl rfl rfl rfl rfl rfl rfl ⟨rfl, rfl, rfl, rfl, rfl⟩ rfl rfl rfl rfl rfl (by kernel_rfl) Try.func6 (by kernel_rfl)
    (of_decide_eq_true (by kernel_rfl)) (by unfold Func.isWrapper; rw [if_neg (of_decide_eq_false (by kernel_rfl))]; exact ⟨rfl, rfl⟩)
    (fun os started H enc _ => meanings_lifted os started H enc)
#print axioms meanings_holds
end Go.Proofs.Ytfemleimkbjehaa
