import Derived.Test.YtfemleimkbjehaaLaw1
namespace Go.Proofs.Ytfemleimkbjehaa
open Go.RowKit

theorem cell_of_block {w : World} {g o : Nat} {cs : Array Value} {t : TypeId} {u : Value} (h : w.heap[g]? = some (.cells cs t (0, 0))) (hu : cs[o]? = some u) : w.cell? ⟨g, o, none⟩ = some u := by
  simp [World.cell?, h, hu]
theorem frozen_of_block {w : World} {g o : Nat} {cs : Array Value} {t : TypeId} (h : w.heap[g]? = some (.cells cs t (0, 0))) : w.frozen? ⟨g, o, none⟩ = false := by
  simp [World.frozen?, h]

theorem cs_ne {w : World} {g o b p : Nat} {v : Value} (h : g ≠ b ∨ o ≠ p) : (w.setCell ⟨g, o, none⟩ v).cell? ⟨b, p, none⟩ = w.cell? ⟨b, p, none⟩ :=
  World.cell?_setCell_other _ _ _ _ (by intro e; simp at e; omega)
theorem cs_eq {w : World} {g o : Nat} {v u : Value} (h : w.cell? ⟨g, o, none⟩ = some u) : (w.setCell ⟨g, o, none⟩ v).cell? ⟨g, o, none⟩ = some v :=
  World.cell?_setCell_same _ _ _ h
theorem dr_cell (w : World) (a : Addr) : w.drew.cell? a = w.cell? a := rfl
theorem dr_frozen (w : World) (a : Addr) : w.drew.frozen? a = w.frozen? a := rfl

/-- A graph's nodes with two of the caller's own behind them, in a block of their own. -/
structure Handed (w : World) (g : Nat) (ns : List Nd) : Prop where
  lt : g < w.heap.size
  node : ∀ j, j < ns.length →
    w.cell? ⟨g, j * 5, none⟩ = some (.int .i64 (ndn ns j).kind) ∧ w.cell? ⟨g, j * 5 + 1, none⟩ = some (.int .i64 (ndn ns j).a) ∧
    w.cell? ⟨g, j * 5 + 2, none⟩ = some (.int .i64 (ndn ns j).b) ∧ w.cell? ⟨g, j * 5 + 3, none⟩ = some (.int .i64 (ndn ns j).k) ∧
    w.cell? ⟨g, j * 5 + 4, none⟩ = some (.int .i64 (ndn ns j).m)
  room : w.cell? ⟨g, ns.length * 5, none⟩ = some (.int .i64 (-77)) ∧ w.cell? ⟨g, (ns.length + 1) * 5, none⟩ = some (.int .i64 (-77))
  free : ∀ o, w.frozen? ⟨g, o, none⟩ = false

set_option maxRecDepth 100000 in
set_option maxHeartbeats 2000000 in
theorem handed_any (ns : List Nd) (ga : Option Addr) (gc : Nat) (r : Int) (w : World) (hn : NodesAt w ga ns) (hl : ns.length * 40 ≤ 140737488351232) :
    Calls Try.prog 39 #[.agg #[.slice ga ns.length gc, .int .i64 r]] w fun e w' => ∃ g, e = .returned (.agg #[.slice (some ⟨g, 0, none⟩) ns.length (ns.length + 2), .int .i64 r]) ∧ w.heap.size ≤ g ∧ Handed w' g ns ∧ Bw w w' := by
  obtain ⟨i0, hi, hz0, hz1, hz2⟩ := info_parts Try.infoNode
  have hmk := fun w : World => run_make (P := Try.prog) w 22 32 i0 _ Try.underlying22 hi hz0 .i64 .i64 ((ns.length : Int) + 2) ((ns.length : Int) + 2) (by omega) (by omega) (by rw [hz2]; omega) (by omega)
  have e1 : ((ns.length : Int) + 2).toNat = ns.length + 2 := by omega
  rw [e1, hz1] at hmk
  clear e1
  obtain ⟨w1, hr, hg1, hgr⟩ := run_copyN (P := Try.prog) (((w.alloc (.cells #[.slice ga ns.length gc, .int .i64 r] 24)).alloc (.cells #[.slice none 0 0, .int .i64 0] 24)).alloc (.cells (madeCells #[.int .i64 0, .int .i64 0, .int .i64 0, .int .i64 0, .int .i64 0] ((ns.length + 2) * 5)) 32)) 22 22 3 32 i0 Try.underlying22 hi
    (w.heap.size + 1 + 1) (ns.length + 2) (ns.length + 2) ga ns.length gc _ _ (nodeCells ns) (by have := heap_alloc_new ((w.alloc (.cells #[.slice ga ns.length gc, .int .i64 r] 24)).alloc (.cells #[.slice none 0 0, .int .i64 0] 24)) (.cells (madeCells #[.int .i64 0, .int .i64 0, .int .i64 0, .int .i64 0, .int .i64 0] ((ns.length + 2) * 5)) 32); simpa using this) (by omega) (by rw [nodeCells_len, hz1])
    (by intro h0
        obtain ⟨b, off, rfl, hb, hc⟩ := (hn.below (w' := ((w.alloc (.cells #[.slice ga ns.length gc, .int .i64 r] 24)).alloc (.cells #[.slice none 0 0, .int .i64 0] 24)).alloc (.cells (madeCells #[.int .i64 0, .int .i64 0, .int .i64 0, .int .i64 0, .int .i64 0] ((ns.length + 2) * 5)) 32)) (by repeat (first | exact Bw.refl _ | assumption | refine Bw.drew ?_ | refine Bw.drewN ?_ _ | refine Bw.alloc ?_ _ | refine Bw.trans ?_ (by assumption)))) 0 h0
        exact ⟨_, rfl, nodeCells_src hc⟩) (by rw [nodeCells_len, size_madeCells]; omega) (nodeCells_one ns)
  have hB1 : Bw w w1 := Below.grown (w := ((w.alloc (.cells #[.slice ga ns.length gc, .int .i64 r] 24)).alloc (.cells #[.slice none 0 0, .int .i64 0] 24)).alloc (.cells (madeCells #[.int .i64 0, .int .i64 0, .int .i64 0, .int .i64 0, .int .i64 0] ((ns.length + 2) * 5)) 32)) (by exact (show Bw w _ from (by repeat (first | exact Bw.refl _ | assumption | refine Bw.drew ?_ | refine Bw.drewN ?_ _ | refine Bw.alloc ?_ _ | refine Bw.trans ?_ (by assumption))))) hgr (by simp; omega) (by intro k hk; simp at hk; omega)
  have hsz1 : w.heap.size + 1 + 1 < w1.heap.size := (Array.getElem?_eq_some_iff.1 hg1).1
  have hf : ∀ o, w1.frozen? ⟨w.heap.size + 1 + 1, o, none⟩ = false := fun o => frozen_of_block hg1
  have hsz2 : ((nodeCells ns ++ (madeCells #[.int .i64 0, .int .i64 0, .int .i64 0, .int .i64 0, .int .i64 0] ((ns.length + 2) * 5)).toList.drop (nodeCells ns).length).toArray).size = (ns.length + 2) * 5 := by
    simp [nodeCells_len, size_madeCells]; omega
  have hcs : ∀ o, o < (ns.length + 2) * 5 → ∃ u, w1.cell? ⟨w.heap.size + 1 + 1, o, none⟩ = some u := fun o ho => ⟨_, cell_of_block hg1 (Array.getElem?_eq_getElem (by rw [hsz2]; exact ho))⟩
  have hcn : ∀ p u, (nodeCells ns)[p]? = some u → w1.cell? ⟨w.heap.size + 1 + 1, p, none⟩ = some u := fun p u hp => cell_of_block hg1 (by rw [List.getElem?_toArray, List.getElem?_append_left (List.getElem?_eq_some_iff.1 hp).1]; exact hp)
  have hk1 : w1.cell? ⟨w.heap.size, 0, none⟩ = some (.slice ga ns.length gc) := by
    have h1 := (bcell (show Bw (w.alloc (.cells #[.slice ga ns.length gc, .int .i64 r] 24)) (((w.alloc (.cells #[.slice ga ns.length gc, .int .i64 r] 24)).alloc (.cells #[.slice none 0 0, .int .i64 0] 24)).alloc (.cells (madeCells #[.int .i64 0, .int .i64 0, .int .i64 0, .int .i64 0, .int .i64 0] ((ns.length + 2) * 5)) 32)) from (by repeat (first | exact Bw.refl _ | assumption | refine Bw.drew ?_ | refine Bw.drewN ?_ _ | refine Bw.alloc ?_ _ | refine Bw.trans ?_ (by assumption))))).1 (w.heap.size) 0 (by simp)
    refine (World.cell?_of_block (a := ⟨w.heap.size, 0, none⟩) (hgr.block (w.heap.size) (by simp <;> omega) (by simp <;> omega))).trans (h1.trans ?_)
    simp
  have hk2 : w1.cell? ⟨w.heap.size, 1, none⟩ = some (.int .i64 r) := by
    have h1 := (bcell (show Bw (w.alloc (.cells #[.slice ga ns.length gc, .int .i64 r] 24)) (((w.alloc (.cells #[.slice ga ns.length gc, .int .i64 r] 24)).alloc (.cells #[.slice none 0 0, .int .i64 0] 24)).alloc (.cells (madeCells #[.int .i64 0, .int .i64 0, .int .i64 0, .int .i64 0, .int .i64 0] ((ns.length + 2) * 5)) 32)) from (by repeat (first | exact Bw.refl _ | assumption | refine Bw.drew ?_ | refine Bw.drewN ?_ _ | refine Bw.alloc ?_ _ | refine Bw.trans ?_ (by assumption))))).1 (w.heap.size) 1 (by simp)
    refine (World.cell?_of_block (a := ⟨w.heap.size, 1, none⟩) (hgr.block (w.heap.size) (by simp <;> omega) (by simp <;> omega))).trans (h1.trans ?_)
    simp
  have hk3 : w1.cell? ⟨w.heap.size + 1, 0, none⟩ = some (.slice none 0 0) := by
    have h1 := (bcell (show Bw ((w.alloc (.cells #[.slice ga ns.length gc, .int .i64 r] 24)).alloc (.cells #[.slice none 0 0, .int .i64 0] 24)) (((w.alloc (.cells #[.slice ga ns.length gc, .int .i64 r] 24)).alloc (.cells #[.slice none 0 0, .int .i64 0] 24)).alloc (.cells (madeCells #[.int .i64 0, .int .i64 0, .int .i64 0, .int .i64 0, .int .i64 0] ((ns.length + 2) * 5)) 32)) from (by repeat (first | exact Bw.refl _ | assumption | refine Bw.drew ?_ | refine Bw.drewN ?_ _ | refine Bw.alloc ?_ _ | refine Bw.trans ?_ (by assumption))))).1 (w.heap.size + 1) 0 (by simp)
    refine (World.cell?_of_block (a := ⟨w.heap.size + 1, 0, none⟩) (hgr.block (w.heap.size + 1) (by simp <;> omega) (by simp <;> omega))).trans (h1.trans ?_)
    simp
  have hk4 : w1.cell? ⟨w.heap.size + 1, 1, none⟩ = some (.int .i64 0) := by
    have h1 := (bcell (show Bw ((w.alloc (.cells #[.slice ga ns.length gc, .int .i64 r] 24)).alloc (.cells #[.slice none 0 0, .int .i64 0] 24)) (((w.alloc (.cells #[.slice ga ns.length gc, .int .i64 r] 24)).alloc (.cells #[.slice none 0 0, .int .i64 0] 24)).alloc (.cells (madeCells #[.int .i64 0, .int .i64 0, .int .i64 0, .int .i64 0, .int .i64 0] ((ns.length + 2) * 5)) 32)) from (by repeat (first | exact Bw.refl _ | assumption | refine Bw.drew ?_ | refine Bw.drewN ?_ _ | refine Bw.alloc ?_ _ | refine Bw.trans ?_ (by assumption))))).1 (w.heap.size + 1) 1 (by simp)
    refine (World.cell?_of_block (a := ⟨w.heap.size + 1, 1, none⟩) (hgr.block (w.heap.size + 1) (by simp <;> omega) (by simp <;> omega))).trans (h1.trans ?_)
    simp
  have hf2 : ∀ o, w1.frozen? ⟨w.heap.size + 1, o, none⟩ = false := by
    intro o
    have h1 := (bcell (show Bw ((w.alloc (.cells #[.slice ga ns.length gc, .int .i64 r] 24)).alloc (.cells #[.slice none 0 0, .int .i64 0] 24)) (((w.alloc (.cells #[.slice ga ns.length gc, .int .i64 r] 24)).alloc (.cells #[.slice none 0 0, .int .i64 0] 24)).alloc (.cells (madeCells #[.int .i64 0, .int .i64 0, .int .i64 0, .int .i64 0, .int .i64 0] ((ns.length + 2) * 5)) 32)) from (by repeat (first | exact Bw.refl _ | assumption | refine Bw.drew ?_ | refine Bw.drewN ?_ _ | refine Bw.alloc ?_ _ | refine Bw.trans ?_ (by assumption))))).2 (w.heap.size + 1) o (by simp)
    refine (World.frozen?_of_block (a := ⟨w.heap.size + 1, o, none⟩) (hgr.block (w.heap.size + 1) (by simp <;> omega) (by simp <;> omega))).trans (h1.trans ?_)
    simp
  have HCN := hide hcn
  obtain ⟨u0, a0⟩ := hcs (ns.length * 5) (by omega)
  obtain ⟨u1, a1⟩ := hcs (ns.length * 5 + 1) (by omega)
  obtain ⟨u2, a2⟩ := hcs (ns.length * 5 + 2) (by omega)
  obtain ⟨u3, a3⟩ := hcs (ns.length * 5 + 3) (by omega)
  obtain ⟨u4, a4⟩ := hcs (ns.length * 5 + 4) (by omega)
  obtain ⟨v0, b0⟩ := hcs ((ns.length + 1) * 5) (by omega)
  obtain ⟨v1, b1⟩ := hcs ((ns.length + 1) * 5 + 1) (by omega)
  obtain ⟨v2, b2⟩ := hcs ((ns.length + 1) * 5 + 2) (by omega)
  obtain ⟨v3, b3⟩ := hcs ((ns.length + 1) * 5 + 3) (by omega)
  obtain ⟨v4, b4⟩ := hcs ((ns.length + 1) * 5 + 4) (by omega)
  clear hcn hcs hsz2 hgr hg1
  go_enter Try.func39, Try.ntmps39
  go_wp2_with fail
  go_region
  go_wp2
  refine bodyPost_ret (v := .agg #[.slice (some ⟨w.heap.size + 1 + 1, 0, none⟩) ns.length (ns.length + 2), .int .i64 r]) (by simp [results, Try.results39, go_sem, hk3, hk4]) rfl ⟨w.heap.size + 1 + 1, rfl, by omega, ?_, ?_⟩
  · refine ⟨by simp; omega, ?_, ⟨?_, ?_⟩, ?_⟩
    · intro j hj
      have HN := unhide HCN
      refine ⟨?_, ?_, ?_, ?_, ?_⟩
      · rw [dr_cell]; iterate 12 rw [cs_ne]
        · exact HN _ _ (by have := nodeCells_get ns j hj 0 (by omega); rw [Nat.add_zero] at this; rw [this]; rfl)
        all_goals omega
      · rw [dr_cell]; iterate 12 rw [cs_ne]
        · exact HN _ _ (by rw [nodeCells_get ns j hj 1 (by omega)]; rfl)
        all_goals omega
      · rw [dr_cell]; iterate 12 rw [cs_ne]
        · exact HN _ _ (by rw [nodeCells_get ns j hj 2 (by omega)]; rfl)
        all_goals omega
      · rw [dr_cell]; iterate 12 rw [cs_ne]
        · exact HN _ _ (by rw [nodeCells_get ns j hj 3 (by omega)]; rfl)
        all_goals omega
      · rw [dr_cell]; iterate 12 rw [cs_ne]
        · exact HN _ _ (by rw [nodeCells_get ns j hj 4 (by omega)]; rfl)
        all_goals omega
    · rw [dr_cell]; iterate 11 rw [cs_ne]
      · exact cs_eq a0
      all_goals omega
    · rw [dr_cell]; iterate 6 rw [cs_ne]
      · refine cs_eq (u := v0) ?_
        iterate 5 rw [cs_ne]
        · exact b0
        all_goals omega
      all_goals omega
    · intro o
      rw [dr_frozen]; simp [hf]
  · refine Bw.drew ?_
    iterate 12 refine Bw.setCell ?_ (by simp <;> omega) _
    exact hB1
end Go.Proofs.Ytfemleimkbjehaa
