import Derived.Test.YtfemleimkbjehaaLaw3
namespace Go.Proofs.Ytfemleimkbjehaa
open Go.RowKit

set_option maxHeartbeats 1000000 in
theorem num_any (n : Int) (w : World) : Calls Try.prog 44 #[.int .i64 n] w fun e w' => e = .returned (.int .i64 n) ∧ w' = w := by
  go_enter Try.func44, Try.ntmps44
  go_wp2
  go_ret
  exact ⟨rfl, rfl⟩

set_option maxHeartbeats 1000000 in
theorem same_any (xs : List Int) (a1 a2 : Option Addr) (c1 c2 : Nat) (w : World) (h1 : IntsAt w a1 xs) (h2 : IntsAt w a2 xs) (hl : xs.length ≤ maxLen) :
    Calls Try.prog 43 #[.slice a1 xs.length c1, .slice a2 xs.length c2] w fun e w' => e = .returned (.bool true) ∧ Bw w w' := by
  unfold maxLen at hl
  go_enter Try.func43, Try.ntmps43
  go_wp2
  go_loopw [5] (fun i wr => ∃ k : Nat, k ≤ xs.length ∧ i = .int .i64 k ∧ Bw w wr) (fun i _ => xs.length - (intOf i).toNat)
  case atStart => exact ⟨0, Nat.zero_le _, rfl, Bw.refl _⟩
  case round =>
    obtain ⟨k, hk, rfl, hB⟩ := hrel
    by_cases hlt : k < xs.length
    · obtain ⟨b, off, rfl, hb, hc⟩ := (h1.below hB) k hlt
      obtain ⟨b', off', rfl, hb', hc'⟩ := (h2.below hB) k hlt
      have e1 := hc k hlt
      have e2 := hc' k hlt
      have hj1 : (0 : Int) ≤ (k : Int) := by omega
      have hj2 : (k : Int) < (xs.length : Int) := by omega
      clear hc hc'
      go_wp2
      go_quiet (fail)
      go_wp2
      go_roundw
      case rel => exact ⟨k + 1, by omega, by go_num, (by repeat (first | exact Bw.refl _ | assumption | refine Bw.drew ?_ | refine Bw.drewN ?_ _ | refine Bw.alloc ?_ _ | refine Bw.trans ?_ (by assumption)))⟩
      case measure => simp [intOf]; omega
    · go_wp2
      go_ret
      exact ⟨rfl, hB⟩

theorem alloc_at (w : World) (o : Obj) {g : Nat} (hg : g = w.heap.size) : (w.alloc o).heap[g]? = some o := by subst hg; exact heap_alloc_new w o

def exNs : List Nd := [⟨0, 0, 0, 0, 0⟩, ⟨3, 0, 4, 0, 0⟩, ⟨1, 1, 0, 1, 0⟩, ⟨2, 2, 0, 2, 0⟩, ⟨4, 3, 0, 0, 0⟩, ⟨6, 2, 0, 1, 0⟩, ⟨7, 5, 0, 0, 0⟩]

set_option maxHeartbeats 1000000 in
theorem example_any (w : World) : Calls Try.prog 12 #[] w fun e w' => ∃ g, e = .returned (.agg #[.slice (some ⟨g, 0, none⟩) 7 7, .int .i64 3]) ∧ w.heap.size ≤ g ∧ w'.heap[g]? = some (.cells (nodeCells exNs).toArray 32 (0, 0)) ∧ Bw w w' := by
  go_enter Try.func12, Try.ntmps12
  go_wp2
  refine bodyPost_ret (v := .agg #[.slice (some ⟨w.heap.size + 1, 0, none⟩) 7 7, .int .i64 3]) (by simp [results, Try.results12, go_sem]) rfl ⟨w.heap.size + 1, rfl, by omega, ?_, ?_⟩
  · exact (alloc_at _ _ (by simp)).trans rfl
  · exact (by repeat (first | exact Bw.refl _ | assumption | refine Bw.drew ?_ | refine Bw.drewN ?_ _ | refine Bw.alloc ?_ _ | refine Bw.trans ?_ (by assumption)))

theorem nodesAt_of_cells {w : World} {g : Nat} {ns : List Nd} (hg : g < w.heap.size) (h : ∀ j, j < ns.length → NodeCells w g ns j) : NodesAt w (some ⟨g, 0, none⟩) ns :=
  fun _ _ => ⟨g, 0, rfl, hg, fun j hj => by have := h j hj; unfold NodeCells at this; simpa using this⟩
theorem Handed.at {w : World} {g : Nat} {ns : List Nd} (h : Handed w g ns) : NodesAt w (some ⟨g, 0, none⟩) ns := nodesAt_of_cells h.lt h.node
theorem nodeCells_of_block {w : World} {g : Nat} {ns : List Nd} {t : TypeId} (h : w.heap[g]? = some (.cells (nodeCells ns).toArray t (0, 0))) : ∀ j, j < ns.length → NodeCells w g ns j := by
  intro j hj
  refine ⟨cell_of_block h ?_, cell_of_block h ?_, cell_of_block h ?_, cell_of_block h ?_, cell_of_block h ?_⟩
  · have := nodeCells_get ns j hj 0 (by omega); rw [Nat.add_zero] at this; rw [List.getElem?_toArray, this]; rfl
  · rw [List.getElem?_toArray, nodeCells_get ns j hj 1 (by omega)]; rfl
  · rw [List.getElem?_toArray, nodeCells_get ns j hj 2 (by omega)]; rfl
  · rw [List.getElem?_toArray, nodeCells_get ns j hj 3 (by omega)]; rfl
  · rw [List.getElem?_toArray, nodeCells_get ns j hj 4 (by omega)]; rfl
end Go.Proofs.Ytfemleimkbjehaa
