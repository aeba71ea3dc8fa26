import Derived.Test.YtfemleimkbjehaaOwn5
namespace Go.Proofs.Ytfemleimkbjehaa
open Go.RowKit

def Gv.cells (x : Gv) : List Value := [.int .i64 x.node, .int .i64 x.epoch, .int .i64 x.value]
def gvCells (gv : List Gv) : List Value := gv.flatMap Gv.cells
theorem gvCells_len (gv : List Gv) : (gvCells gv).length = gv.length * 3 := by
  induction gv with
  | nil => rfl
  | cons x t ih => simp only [gvCells, List.flatMap_cons, List.length_append, List.length_cons] at *; rw [ih]; simp [Gv.cells]; omega
theorem gvCells_get (gv : List Gv) : ∀ j, j < gv.length → ∀ f, f < 3 → (gvCells gv)[j * 3 + f]? = (Gv.cells (gvn gv j))[f]? := by
  induction gv with
  | nil => intro j hj; simp at hj
  | cons x t ih =>
    intro j hj f hf
    cases j with
    | zero =>
      simp only [gvCells, List.flatMap_cons, Nat.zero_mul, Nat.zero_add]
      rw [List.getElem?_append_left (by simp [Gv.cells]; omega)]
      rfl
    | succ j =>
      simp only [gvCells, List.flatMap_cons]
      rw [List.getElem?_append_right (by simp [Gv.cells]; omega)]
      have := ih j (by simpa using hj) f hf
      simp only [gvCells] at this
      rw [show (j + 1) * 3 + f - (Gv.cells x).length = j * 3 + f by simp [Gv.cells]; omega, this]
      rfl
theorem gvCells_one (gv : List Gv) : ∀ u ∈ gvCells gv, u.oneCell' = true := by
  intro u hu
  simp only [gvCells, List.mem_flatMap, Gv.cells] at hu
  obtain ⟨x, _, hu⟩ := hu
  simp at hu
  rcases hu with rfl | rfl | rfl <;> rfl
theorem gvCells_src {w : World} {gv : List Gv} {b off : Nat} (hc : ∀ j, j < gv.length →
    w.cell? ⟨b, off + j * 3, none⟩ = some (.int .i64 (gvn gv j).node) ∧ w.cell? ⟨b, off + j * 3 + 1, none⟩ = some (.int .i64 (gvn gv j).epoch) ∧ w.cell? ⟨b, off + j * 3 + 2, none⟩ = some (.int .i64 (gvn gv j).value)) :
    ∀ p u, (gvCells gv)[p]? = some u → w.cell? ((⟨b, off, none⟩ : Addr).add p) = some u := by
  intro p u hp
  have hlt : p < gv.length * 3 := by
    by_cases h : p < gv.length * 3
    · exact h
    · rw [List.getElem?_eq_none (by rw [gvCells_len]; omega)] at hp; cases hp
  obtain ⟨j, f, hf, rfl⟩ : ∃ j f, f < 3 ∧ p = j * 3 + f := ⟨p / 3, p % 3, Nat.mod_lt _ (by omega), by omega⟩
  have hj : j < gv.length := by omega
  rw [gvCells_get gv j hj f hf] at hp
  obtain ⟨c0, c1, c2⟩ := hc j hj
  refine add_cell ?_
  rw [← Nat.add_assoc]
  match f, hf with
  | 0, _ => simp [Gv.cells] at hp; subst hp; exact c0
  | 1, _ => simp [Gv.cells] at hp; subst hp; exact c1
  | 2, _ => simp [Gv.cells] at hp; subst hp; exact c2
theorem gvAt_cells {w : World} {g : Nat} {gv : List Gv} (hg : g < w.heap.size) (h : ∀ p u, (gvCells gv)[p]? = some u → w.cell? ⟨g, p, none⟩ = some u) : GvAt w (some ⟨g, 0, none⟩) gv := by
  intro i hi
  refine ⟨g, 0, rfl, hg, fun j hj => ⟨?_, ?_, ?_⟩⟩
  · have := gvCells_get gv j hj 0 (by omega); rw [Nat.add_zero] at this; exact h _ _ (by rw [Nat.zero_add, this]; rfl)
  · exact h _ _ (by rw [Nat.zero_add, gvCells_get gv j hj 1 (by omega)]; rfl)
  · exact h _ _ (by rw [Nat.zero_add, gvCells_get gv j hj 2 (by omega)]; rfl)
theorem gv_cells {w : World} {g : Nat} {x : Gv} (h0 : w.cell? ⟨g, 0, none⟩ = some (.int .i64 x.node)) (h1 : w.cell? ⟨g, 1, none⟩ = some (.int .i64 x.epoch)) (h2 : w.cell? ⟨g, 2, none⟩ = some (.int .i64 x.value)) : ∀ j u, x.cells[j]? = some u → w.cell? ⟨g, j, none⟩ = some u := by
  intro j u hj
  unfold Gv.cells at hj
  match j, hj with
  | 0, hj => simp at hj; subst hj; exact h0
  | 1, hj => simp at hj; subst hj; exact h1
  | 2, hj => simp at hj; subst hj; exact h2
theorem gv_one (x : Gv) : ∀ u ∈ x.cells, u.oneCell' = true := fun u hu => gvCells_one [x] u (by simpa [gvCells] using hu)
theorem gvCells_snoc (gv : List Gv) (x : Gv) : gvCells (gv ++ [x]) = gvCells gv ++ x.cells := by simp [gvCells]
/-- An owned list of triples of numbers. -/
def OwnG (ty : TypeId) (W w : World) (v : Value) (xs : List Gv) : Prop := w.ownsRow W.heap.size ty 3 v xs.length (gvCells xs)
theorem OwnG.nil (ty : TypeId) (W w : World) : OwnG ty W w (.slice none 0 0) [] := World.ownsRow_nil _ _ _ _
theorem OwnG.bw {ty : TypeId} {W a b : World} {v : Value} {xs : List Gv} (h : OwnG ty W a v xs) (hb : Bw a b) : OwnG ty W b v xs := ownsRow_bw h fun g hg => Below.block hb g hg
theorem OwnG.weaken {ty : TypeId} {W V a : World} {v : Value} {xs : List Gv} (h : OwnG ty W a v xs) (hb : Bw V W) : OwnG ty V a v xs := ownsRow_weaken h hb.size
theorem OwnG.snoc {ty : TypeId} {W w : World} {v : Value} {xs : List Gv} {x : Gv} (h : w.ownsRow W.heap.size ty 3 v (xs.length + 1) (gvCells xs ++ x.cells)) : OwnG ty W w v (xs ++ [x]) := by
  unfold OwnG; rw [gvCells_snoc, List.length_append]; exact h
end Go.Proofs.Ytfemleimkbjehaa
