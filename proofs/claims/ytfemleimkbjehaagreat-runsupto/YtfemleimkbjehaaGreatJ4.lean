import Derived.Test.YtfemleimkbjehaaGreatJ3
import Derived.Deep.Upon
set_option maxRecDepth 1000000
set_option maxHeartbeats 40000000
set_option linter.unusedVariables false
set_option linter.unusedSimpArgs false
namespace Go.Proofs.YtfemleimkbjehaaGreat
open Go.RowKit
theorem qQ {w : World} {g o : Nat} {cs : Array Value} {t : TypeId} {u : Value} (h : w.heap[g]? = some (.cells cs t (0, 0))) (hu : cs[o]? = some u) : w.cell? ⟨g, o, none⟩ = some u := by
  simp [World.cell?, h, hu]
theorem qZ {w : World} {g o : Nat} {cs : Array Value} {t : TypeId} (h : w.heap[g]? = some (.cells cs t (0, 0))) : w.frozen? ⟨g, o, none⟩ = false := by
  simp [World.frozen?, h]
theorem cs_ne {w : World} {g o b p : Nat} {v : Value} (h : g ≠ b ∨ o ≠ p) : (w.setCell ⟨g, o, none⟩ v).cell? ⟨b, p, none⟩ = w.cell? ⟨b, p, none⟩ :=
  World.cell?_setCell_other _ _ _ _ (by intro e; simp at e; omega)
theorem cs_eq {w : World} {g o : Nat} {v u : Value} (h : w.cell? ⟨g, o, none⟩ = some u) : (w.setCell ⟨g, o, none⟩ v).cell? ⟨g, o, none⟩ = some v :=
  World.cell?_setCell_same _ _ _ h
theorem dr_cell (w : World) (a : Addr) : w.drew.cell? a = w.cell? a := rfl
theorem dr_frozen (w : World) (a : Addr) : w.drew.frozen? a = w.frozen? a := rfl
structure Handed (w : World) (g : Nat) (ns : List Nd) : Prop where
  lt : g < w.heap.size
  node : ∀ j, j < ns.length →
    w.cell? ⟨g, j * 5, none⟩ = some (.int .i64 (qT ns j).kind) ∧ w.cell? ⟨g, j * 5 + 1, none⟩ = some (.int .i64 (qT ns j).a) ∧
    w.cell? ⟨g, j * 5 + 2, none⟩ = some (.int .i64 (qT ns j).b) ∧ w.cell? ⟨g, j * 5 + 3, none⟩ = some (.int .i64 (qT ns j).k) ∧
    w.cell? ⟨g, j * 5 + 4, none⟩ = some (.int .i64 (qT ns j).m)
  room : w.cell? ⟨g, ns.length * 5, none⟩ = some (.int .i64 (-77)) ∧ w.cell? ⟨g, (ns.length + 1) * 5, none⟩ = some (.int .i64 (-77))
  free : ∀ o, w.frozen? ⟨g, o, none⟩ = false
theorem handed_any (ns : List Nd) (ga : Option Addr) (gc : Nat) (r : Int) (w : World) (hn : NodesAt w ga ns) (hl : ns.length * 40 ≤ 140737488351232) :
    Calls Tryz.prog 12 #[.agg #[.slice ga ns.length gc, .int .i64 r]] w fun e w' => ∃ g, e = .returned (.agg #[.slice (some ⟨g, 0, none⟩) ns.length (ns.length + 2), .int .i64 r]) ∧ w.heap.size ≤ g ∧ Handed w' g ns ∧ Bw w w' := by
  obtain ⟨i0, hi, hz0, hz1, hz2⟩ := info_parts Tryz.infoNode
  have hmk := fun w : World => run_make (P := Tryz.prog) w 22 46 i0 _ Tryz.underlying22 hi hz0 .i64 .i64 ((ns.length : Int) + 2) ((ns.length : Int) + 2) (by omega) (by omega) (by rw [hz2]; omega) (by omega)
  have e1 : ((ns.length : Int) + 2).toNat = ns.length + 2 := by omega
  rw [e1, hz1] at hmk
  clear e1
  obtain ⟨w1, hr, hg1, hgr⟩ := run_copyN (P := Tryz.prog) (((w.alloc (.cells #[.slice ga ns.length gc, .int .i64 r] 24)).alloc (.cells #[.slice none 0 0, .int .i64 0] 24)).alloc (.cells (madeCells #[.int .i64 0, .int .i64 0, .int .i64 0, .int .i64 0, .int .i64 0] ((ns.length + 2) * 5)) 46)) 22 22 3 46 i0 Tryz.underlying22 hi
    (w.heap.size + 1 + 1) (ns.length + 2) (ns.length + 2) ga ns.length gc _ _ (qL ns) (by have := heap_alloc_new ((w.alloc (.cells #[.slice ga ns.length gc, .int .i64 r] 24)).alloc (.cells #[.slice none 0 0, .int .i64 0] 24)) (.cells (madeCells #[.int .i64 0, .int .i64 0, .int .i64 0, .int .i64 0, .int .i64 0] ((ns.length + 2) * 5)) 46); simpa using this) (by omega) (by rw [zT, hz1])
    (by intro h0
        obtain ⟨b, off, rfl, hb, hc⟩ := (hn.below (w' := ((w.alloc (.cells #[.slice ga ns.length gc, .int .i64 r] 24)).alloc (.cells #[.slice none 0 0, .int .i64 0] 24)).alloc (.cells (madeCells #[.int .i64 0, .int .i64 0, .int .i64 0, .int .i64 0, .int .i64 0] ((ns.length + 2) * 5)) 46)) (by repeat first|exact br _|assumption|apply bd|apply bn|apply ba|refine bt ?_ (by assumption))) 0 h0
        exact ⟨_, rfl, nodeCells_src hc⟩) (by rw [zT, size_madeCells]; omega) (nodeCells_one ns)
  have hB1 : Bw w w1 := Below.grown (w := ((w.alloc (.cells #[.slice ga ns.length gc, .int .i64 r] 24)).alloc (.cells #[.slice none 0 0, .int .i64 0] 24)).alloc (.cells (madeCells #[.int .i64 0, .int .i64 0, .int .i64 0, .int .i64 0, .int .i64 0] ((ns.length + 2) * 5)) 46)) (by exact (show Bw w _ from (by repeat first|exact br _|assumption|apply bd|apply bn|apply ba|refine bt ?_ (by assumption)))) hgr (by simp; omega) (by intro k hk; simp at hk; omega)
  have hsz1 : w.heap.size + 1 + 1 < w1.heap.size := (Array.getElem?_eq_some_iff.1 hg1).1
  have hf : ∀ o, w1.frozen? ⟨w.heap.size + 1 + 1, o, none⟩ = false := fun o => qZ hg1
  have hsz2 : ((qL ns ++ (madeCells #[.int .i64 0, .int .i64 0, .int .i64 0, .int .i64 0, .int .i64 0] ((ns.length + 2) * 5)).toList.drop (qL ns).length).toArray).size = (ns.length + 2) * 5 := by
    simp [zT, size_madeCells]; omega
  have hcs : ∀ o, o < (ns.length + 2) * 5 → ∃ u, w1.cell? ⟨w.heap.size + 1 + 1, o, none⟩ = some u := fun o ho => ⟨_, qQ hg1 (Array.getElem?_eq_getElem (by rw [hsz2]; exact ho))⟩
  have hcn : ∀ p u, (qL ns)[p]? = some u → w1.cell? ⟨w.heap.size + 1 + 1, p, none⟩ = some u := fun p u hp => qQ hg1 (by rw [List.getElem?_toArray, List.getElem?_append_left (List.getElem?_eq_some_iff.1 hp).1]; exact hp)
  have hk1 : w1.cell? ⟨w.heap.size, 0, none⟩ = some (.slice ga ns.length gc) := by
    have h1 := (qS (show Bw (w.alloc (.cells #[.slice ga ns.length gc, .int .i64 r] 24)) (((w.alloc (.cells #[.slice ga ns.length gc, .int .i64 r] 24)).alloc (.cells #[.slice none 0 0, .int .i64 0] 24)).alloc (.cells (madeCells #[.int .i64 0, .int .i64 0, .int .i64 0, .int .i64 0, .int .i64 0] ((ns.length + 2) * 5)) 46)) from (by repeat first|exact br _|assumption|apply bd|apply bn|apply ba|refine bt ?_ (by assumption)))).1 (w.heap.size) 0 (by simp)
    refine (World.cell?_of_block (a := ⟨w.heap.size, 0, none⟩) (hgr.block (w.heap.size) (by simp <;> omega) (by simp <;> omega))).trans (h1.trans ?_)
    simp
  have hk2 : w1.cell? ⟨w.heap.size, 1, none⟩ = some (.int .i64 r) := by
    have h1 := (qS (show Bw (w.alloc (.cells #[.slice ga ns.length gc, .int .i64 r] 24)) (((w.alloc (.cells #[.slice ga ns.length gc, .int .i64 r] 24)).alloc (.cells #[.slice none 0 0, .int .i64 0] 24)).alloc (.cells (madeCells #[.int .i64 0, .int .i64 0, .int .i64 0, .int .i64 0, .int .i64 0] ((ns.length + 2) * 5)) 46)) from (by repeat first|exact br _|assumption|apply bd|apply bn|apply ba|refine bt ?_ (by assumption)))).1 (w.heap.size) 1 (by simp)
    refine (World.cell?_of_block (a := ⟨w.heap.size, 1, none⟩) (hgr.block (w.heap.size) (by simp <;> omega) (by simp <;> omega))).trans (h1.trans ?_)
    simp
  have hk3 : w1.cell? ⟨w.heap.size + 1, 0, none⟩ = some (.slice none 0 0) := by
    have h1 := (qS (show Bw ((w.alloc (.cells #[.slice ga ns.length gc, .int .i64 r] 24)).alloc (.cells #[.slice none 0 0, .int .i64 0] 24)) (((w.alloc (.cells #[.slice ga ns.length gc, .int .i64 r] 24)).alloc (.cells #[.slice none 0 0, .int .i64 0] 24)).alloc (.cells (madeCells #[.int .i64 0, .int .i64 0, .int .i64 0, .int .i64 0, .int .i64 0] ((ns.length + 2) * 5)) 46)) from (by repeat first|exact br _|assumption|apply bd|apply bn|apply ba|refine bt ?_ (by assumption)))).1 (w.heap.size + 1) 0 (by simp)
    refine (World.cell?_of_block (a := ⟨w.heap.size + 1, 0, none⟩) (hgr.block (w.heap.size + 1) (by simp <;> omega) (by simp <;> omega))).trans (h1.trans ?_)
    simp
  have hk4 : w1.cell? ⟨w.heap.size + 1, 1, none⟩ = some (.int .i64 0) := by
    have h1 := (qS (show Bw ((w.alloc (.cells #[.slice ga ns.length gc, .int .i64 r] 24)).alloc (.cells #[.slice none 0 0, .int .i64 0] 24)) (((w.alloc (.cells #[.slice ga ns.length gc, .int .i64 r] 24)).alloc (.cells #[.slice none 0 0, .int .i64 0] 24)).alloc (.cells (madeCells #[.int .i64 0, .int .i64 0, .int .i64 0, .int .i64 0, .int .i64 0] ((ns.length + 2) * 5)) 46)) from (by repeat first|exact br _|assumption|apply bd|apply bn|apply ba|refine bt ?_ (by assumption)))).1 (w.heap.size + 1) 1 (by simp)
    refine (World.cell?_of_block (a := ⟨w.heap.size + 1, 1, none⟩) (hgr.block (w.heap.size + 1) (by simp <;> omega) (by simp <;> omega))).trans (h1.trans ?_)
    simp
  have hf2 : ∀ o, w1.frozen? ⟨w.heap.size + 1, o, none⟩ = false := by
    intro o
    have h1 := (qS (show Bw ((w.alloc (.cells #[.slice ga ns.length gc, .int .i64 r] 24)).alloc (.cells #[.slice none 0 0, .int .i64 0] 24)) (((w.alloc (.cells #[.slice ga ns.length gc, .int .i64 r] 24)).alloc (.cells #[.slice none 0 0, .int .i64 0] 24)).alloc (.cells (madeCells #[.int .i64 0, .int .i64 0, .int .i64 0, .int .i64 0, .int .i64 0] ((ns.length + 2) * 5)) 46)) from (by repeat first|exact br _|assumption|apply bd|apply bn|apply ba|refine bt ?_ (by assumption)))).2 (w.heap.size + 1) o (by simp)
    refine (World.frozen?_of_block (a := ⟨w.heap.size + 1, o, none⟩) (hgr.block (w.heap.size + 1) (by simp <;> omega) (by simp <;> omega))).trans (h1.trans ?_)
    simp
  have HCN := qJ hcn
  obtain ⟨u0, a0⟩ := hcs (ns.length * 5) (by omega)
  obtain ⟨u1, a1⟩ := hcs (ns.length * 5 + 1) (by omega)
  obtain ⟨u2, a2⟩ := hcs (ns.length * 5 + 2) (by omega)
  obtain ⟨u3, a3⟩ := hcs (ns.length * 5 + 3) (by omega)
  obtain ⟨u4, a4⟩ := hcs (ns.length * 5 + 4) (by omega)
  obtain ⟨v0, b0⟩ := hcs ((ns.length + 1) * 5) (by omega)
  obtain ⟨v1, b1⟩ := hcs ((ns.length + 1) * 5 + 1) (by omega)
  obtain ⟨v2, b2⟩ := hcs ((ns.length + 1) * 5 + 2) (by omega)
  obtain ⟨v3, b3⟩ := hcs ((ns.length + 1) * 5 + 3) (by omega)
  obtain ⟨v4, b4⟩ := hcs ((ns.length + 1) * 5 + 4) (by omega)
  clear hcn hcs hsz2 hgr hg1
  go_enter Tryz.func12, Tryz.ntmps12
  go_wp2_with fail
  go_region
  go_wp2
  refine bodyPost_ret (v := .agg #[.slice (some ⟨w.heap.size + 1 + 1, 0, none⟩) ns.length (ns.length + 2), .int .i64 r]) (by simp [results, Tryz.results12, go_sem, hk3, hk4]) rfl ⟨w.heap.size + 1 + 1, rfl, by omega, ?_, ?_⟩
  · refine ⟨by simp; omega, ?_, ⟨?_, ?_⟩, ?_⟩
    · intro j hj
      have HN := qK HCN
      refine ⟨?_, ?_, ?_, ?_, ?_⟩
      · rw [dr_cell]; iterate 12 rw [cs_ne]
        · exact HN _ _ (by have := kD ns j hj 0 (by omega); rw [Nat.add_zero] at this; rw [this]; rfl)
        all_goals omega
      · rw [dr_cell]; iterate 12 rw [cs_ne]
        · exact HN _ _ (by rw [kD ns j hj 1 (by omega)]; rfl)
        all_goals omega
      · rw [dr_cell]; iterate 12 rw [cs_ne]
        · exact HN _ _ (by rw [kD ns j hj 2 (by omega)]; rfl)
        all_goals omega
      · rw [dr_cell]; iterate 12 rw [cs_ne]
        · exact HN _ _ (by rw [kD ns j hj 3 (by omega)]; rfl)
        all_goals omega
      · rw [dr_cell]; iterate 12 rw [cs_ne]
        · exact HN _ _ (by rw [kD ns j hj 4 (by omega)]; rfl)
        all_goals omega
    · rw [dr_cell]; iterate 11 rw [cs_ne]
      · exact cs_eq a0
      all_goals omega
    · rw [dr_cell]; iterate 6 rw [cs_ne]
      · refine cs_eq (u := v0) ?_
        iterate 5 rw [cs_ne]
        · exact b0
        all_goals omega
      all_goals omega
    · intro o
      rw [dr_frozen]; simp [hf]
  · refine Bw.drew ?_
    iterate 12 refine Bw.setCell ?_ (by simp <;> omega) _
    exact hB1
def Kp (g : Nat) (a b : World) : Prop := a.grownBy b (some g)
theorem Kp.refl (g : Nat) (a : World) : Kp g a a := ⟨rfl, rfl, rfl, Nat.le_refl _, fun _ _ _ => rfl⟩
theorem Kp.trans {g : Nat} {a b c : World} (h : Kp g a b) (k : Kp g b c) : Kp g a c :=
  ⟨k.os.trans h.os, k.tape.trans h.tape, k.output.trans h.output, Nat.le_trans h.size k.size, fun i hi hne => (k.block i (Nat.lt_of_lt_of_le hi h.size) hne).trans (h.block i hi hne)⟩
theorem Kp.bw {g : Nat} {a b : World} (h : Bw a b) : Kp g a b := ⟨Below.os h, Below.tape h, Below.output h, Below.size h, fun i hi _ => Below.block h i hi⟩
theorem Kp.setCell {g o : Nat} {a b : World} (h : Kp g a b) (v : Value) : Kp g a (b.setCell ⟨g, o, none⟩ v) :=
  h.trans ⟨rfl, rfl, rfl, by simp, fun i _ hne => Below.heap_setCell _ _ _ _ (fun e => hne (by simp [e]))⟩
theorem Kp.drewN {g : Nat} {a b : World} (h : Kp g a b) (n : Nat) : Kp g a (b.drewN n) := h.trans (Kp.bw ((Bw.refl b).drewN n))
theorem Kp.size {g : Nat} {a b : World} (h : Kp g a b) : a.heap.size ≤ b.heap.size := World.grownBy.size h
theorem Kp.cell {g : Nat} {a b : World} (h : Kp g a b) : ∀ k o, k < a.heap.size → k ≠ g → b.cell? ⟨k, o, none⟩ = a.cell? ⟨k, o, none⟩ :=
  fun k o hk hne => World.cell?_of_block (a := ⟨k, o, none⟩) (World.grownBy.block h k hk (by simpa using hne))
def NodeCells (w : World) (g : Nat) (ns : List Nd) (j : Nat) : Prop :=
    w.cell? ⟨g, j * 5, none⟩ = some (.int .i64 (qT ns j).kind) ∧ w.cell? ⟨g, j * 5 + 1, none⟩ = some (.int .i64 (qT ns j).a) ∧
    w.cell? ⟨g, j * 5 + 2, none⟩ = some (.int .i64 (qT ns j).b) ∧ w.cell? ⟨g, j * 5 + 3, none⟩ = some (.int .i64 (qT ns j).k) ∧
    w.cell? ⟨g, j * 5 + 4, none⟩ = some (.int .i64 (qT ns j).m)
theorem NodeCells.bw {w w' : World} {g : Nat} {ns : List Nd} {j : Nat} (h : NodeCells w g ns j) (hg : g < w.heap.size) (hb : Bw w w') : NodeCells w' g ns j :=
  ⟨((qS hb).1 _ _ hg).trans h.1, ((qS hb).1 _ _ hg).trans h.2.1, ((qS hb).1 _ _ hg).trans h.2.2.1, ((qS hb).1 _ _ hg).trans h.2.2.2.1, ((qS hb).1 _ _ hg).trans h.2.2.2.2⟩
theorem NodeCells.after {w : World} {g : Nat} {ns : List Nd} {k j nq : Nat} {x0 x1 x2 x3 x4 : Value} (h : NodeCells w g ns j) (hj : k + 1 ≤ j) :
    NodeCells ((((((w.drewN nq).setCell ⟨g, k * 5, none⟩ x0).setCell ⟨g, k * 5 + 1, none⟩ x1).setCell ⟨g, k * 5 + 2, none⟩ x2).setCell ⟨g, k * 5 + 3, none⟩ x3).setCell ⟨g, k * 5 + 4, none⟩ x4) g ns j := by
  obtain ⟨c0, c1, c2, c3, c4⟩ := h
  refine ⟨?_, ?_, ?_, ?_, ?_⟩
  · iterate 5 rw [cs_ne]
    · exact c0
    all_goals omega
  · iterate 5 rw [cs_ne]
    · exact c1
    all_goals omega
  · iterate 5 rw [cs_ne]
    · exact c2
    all_goals omega
  · iterate 5 rw [cs_ne]
    · exact c3
    all_goals omega
  · iterate 5 rw [cs_ne]
    · exact c4
    all_goals omega
theorem still_any (ns : List Nd) (ga : Option Addr) (g0 gc : Nat) (r r' : Int) (w0 w : World) (hn : NodesAt w0 ga ns) (hB0 : Bw w0 w) (hg0 : w0.heap.size ≤ g0) (hh : Handed w g0 ns) (hl : ns.length * 40 ≤ 140737488351232) :
    Calls Tryz.prog 14 #[.agg #[.slice (some ⟨g0, 0, none⟩) ns.length (ns.length + 2), .int .i64 r'], .agg #[.slice ga ns.length gc, .int .i64 r]] w fun e w' => e = .returned (.bool true) ∧ Kp g0 w w' := by
  have hgl := hh.lt
  obtain ⟨hr0, hr1⟩ := hh.room
  go_enter Tryz.func14, Tryz.ntmps14
  go_wp2_with fail
  go_loopw [7, 8] (fun v i wr => ∃ k : Nat, k ≤ ns.length ∧ i = .int .i64 k ∧ v = .bool true ∧ (∀ j, k ≤ j → j < ns.length → NodeCells wr g0 ns j) ∧ (∀ o, wr.frozen? ⟨g0, o, none⟩ = false) ∧ Kp g0 ((w.alloc (.cells #[.slice (some ⟨g0, 0, none⟩) ns.length (ns.length + 2), .int .i64 r'] 24)).alloc (.cells #[.slice ga ns.length gc, .int .i64 r] 24)) wr) (fun _ i _ => ns.length - (intOf i).toNat)
  case atStart => exact ⟨0, Nat.zero_le _, rfl, rfl, fun j _ hj => NodeCells.bw (hh.node j hj) hgl (by repeat first|exact br _|assumption|apply bd|apply bn|apply ba|refine bt ?_ (by assumption)), fun o => ((qS (show Bw w ((w.alloc (.cells #[.slice (some ⟨g0, 0, none⟩) ns.length (ns.length + 2), .int .i64 r'] 24)).alloc (.cells #[.slice ga ns.length gc, .int .i64 r] 24)) from (by repeat first|exact br _|assumption|apply bd|apply bn|apply ba|refine bt ?_ (by assumption)))).2 g0 o hgl).trans (hh.free o), Kp.refl _ _⟩
  case round =>
    obtain ⟨k, hk, rfl, rfl, hcs, hfr, hK⟩ := hrel
    have Hcs := qJ hcs
    clear hcs
    have hkc := hK.cell
    have hks : w.heap.size + 1 < wr.heap.size := by have := hK.size; simp at this; omega
    have e1 : wr.cell? ⟨w.heap.size, 0, none⟩ = some (.slice (some ⟨g0, 0, none⟩) ns.length (ns.length + 2)) := (hkc _ _ (by simp; omega) (by omega)).trans (by simp)
    have e2 : wr.cell? ⟨w.heap.size + 1, 0, none⟩ = some (.slice ga ns.length gc) := (hkc _ _ (by simp) (by omega)).trans (by simp)
    by_cases hlt : k < ns.length
    · obtain ⟨b, off, rfl, hb, hc⟩ := hn k hlt
      have hb1 := hB0.size
      have hcw : ∀ o, wr.cell? ⟨b, o, none⟩ = w0.cell? ⟨b, o, none⟩ := fun o => (hkc b o (by simp; omega) (by omega)).trans (((qS (show Bw w ((w.alloc (.cells #[.slice (some ⟨g0, 0, none⟩) ns.length (ns.length + 2), .int .i64 r'] 24)).alloc (.cells #[.slice (some ⟨b, off, none⟩) ns.length gc, .int .i64 r] 24)) from (by repeat first|exact br _|assumption|apply bd|apply bn|apply ba|refine bt ?_ (by assumption)))).1 b o (by omega)).trans ((qS hB0).1 b o hb))
      obtain ⟨c0, c1, c2, c3, c4⟩ := hc k hlt
      clear hc
      rw [← hcw] at c0 c1 c2 c3 c4
      obtain ⟨d0, d1, d2, d3, d4⟩ := (qK Hcs) k (Nat.le_refl _) hlt
      have hj1 : (0 : Int) ≤ (k : Int) := by omega
      have hj2 : (k : Int) < (ns.length : Int) := by omega
      clear hkc hcw
      go_wp2_with fail
      go_quiet (fail)
      go_wp2_with fail
      go_roundw
      case rel => exact ⟨k + 1, by omega, by go_num, rfl, fun j hj hjl => NodeCells.after ((qK Hcs) j (by omega) hjl) hj, fun o => by simp [hfr], (((((hK.drewN nq).setCell _).setCell _).setCell _).setCell _).setCell _⟩
      case measure => simp [intOf]; omega
    · go_wp2_with fail
      go_ret
      exact ⟨rfl, (Kp.bw (show Bw w ((w.alloc (.cells #[.slice (some ⟨g0, 0, none⟩) ns.length (ns.length + 2), .int .i64 r'] 24)).alloc (.cells #[.slice ga ns.length gc, .int .i64 r] 24)) from (by repeat first|exact br _|assumption|apply bd|apply bn|apply ba|refine bt ?_ (by assumption)))).trans hK⟩
theorem num_any (n : Int) (w : World) : Calls Tryz.prog 16 #[.int .i64 n] w fun e w' => e = .returned (.int .i64 n) ∧ w' = w := by
  go_enter Tryz.func16, Tryz.ntmps16
  go_wp2
  go_ret
  exact ⟨rfl, rfl⟩
theorem qY (w : World) (o : Obj) {g : Nat} (hg : g = w.heap.size) : (w.alloc o).heap[g]? = some o := by subst hg; exact heap_alloc_new w o
def exNs : List Nd := [⟨0, 0, 0, 0, 0⟩, ⟨3, 0, 4, 0, 0⟩, ⟨1, 1, 0, 1, 0⟩, ⟨2, 2, 0, 2, 0⟩, ⟨4, 3, 0, 0, 0⟩, ⟨6, 2, 0, 1, 0⟩, ⟨7, 5, 0, 0, 0⟩]
theorem example_any (w : World) : Calls Tryz.prog 7 #[] w fun e w' => ∃ g, e = .returned (.agg #[.slice (some ⟨g, 0, none⟩) 7 7, .int .i64 3]) ∧ w.heap.size ≤ g ∧ w'.heap[g]? = some (.cells (qL exNs).toArray 46 (0, 0)) ∧ Bw w w' := by
  go_enter Tryz.func7, Tryz.ntmps7
  go_wp2
  refine bodyPost_ret (v := .agg #[.slice (some ⟨w.heap.size + 1, 0, none⟩) 7 7, .int .i64 3]) (by simp [results, Tryz.results7, go_sem]) rfl ⟨w.heap.size + 1, rfl, by omega, ?_, ?_⟩
  · exact (qY _ _ (by simp)).trans rfl
  · exact (by repeat first|exact br _|assumption|apply bd|apply bn|apply ba|refine bt ?_ (by assumption))
theorem nodesAt_of_cells {w : World} {g : Nat} {ns : List Nd} (hg : g < w.heap.size) (h : ∀ j, j < ns.length → NodeCells w g ns j) : NodesAt w (some ⟨g, 0, none⟩) ns :=
  fun _ _ => ⟨g, 0, rfl, hg, fun j hj => by have := h j hj; unfold NodeCells at this; simpa using this⟩
theorem Handed.at {w : World} {g : Nat} {ns : List Nd} (h : Handed w g ns) : NodesAt w (some ⟨g, 0, none⟩) ns := nodesAt_of_cells h.lt h.node
theorem nodeCells_of_block {w : World} {g : Nat} {ns : List Nd} {t : TypeId} (h : w.heap[g]? = some (.cells (qL ns).toArray t (0, 0))) : ∀ j, j < ns.length → NodeCells w g ns j := by
  intro j hj
  refine ⟨qQ h ?_, qQ h ?_, qQ h ?_, qQ h ?_, qQ h ?_⟩
  · have := kD ns j hj 0 (by omega); rw [Nat.add_zero] at this; rw [List.getElem?_toArray, this]; rfl
  · rw [List.getElem?_toArray, kD ns j hj 1 (by omega)]; rfl
  · rw [List.getElem?_toArray, kD ns j hj 2 (by omega)]; rfl
  · rw [List.getElem?_toArray, kD ns j hj 3 (by omega)]; rfl
  · rw [List.getElem?_toArray, kD ns j hj 4 (by omega)]; rfl
theorem Bw.kp {W a b : World} {g : Nat} (h : Bw W a) (hg : W.heap.size ≤ g) (hb : Kp g a b) : Bw W b :=
  Below.grown h hb h.size (by intro k hk; simp at hk; omega)
theorem Own.ints {W w : World} {ad : Option Addr} {n cap : Nat} {xs : List Int} (h : Own W w (.slice ad n cap) xs) : IntsAt w ad xs ∧ n = xs.length := by
  obtain ⟨ad', c', e, hx, _⟩ := h.form
  simp at e
  obtain ⟨rfl, rfl, _⟩ := e
  exact ⟨hx, rfl⟩
def RoomAt (w : World) (ad : Option Addr) (n : Nat) : Prop :=
  ∀ i, i < n → ∃ b off, ad = some ⟨b, off, none⟩ ∧ b < w.heap.size ∧ w.cell? ⟨b, off + i, none⟩ = some (.int .i64 (-77))
theorem Own.room {W w : World} {ad : Option Addr} {n cap : Nat} {xs : List Int} (h : Own W w (.slice ad n cap) xs) (ha : ∀ j, j < xs.length → jD xs j = -77) : RoomAt w ad n := by
  obtain ⟨hx, rfl⟩ := h.ints
  intro i hi
  obtain ⟨b, off, e, hb, hc⟩ := hx i hi
  exact ⟨b, off, e, hb, by rw [hc i hi, ha i hi]⟩
def pickB (c n : Int) : Int := if c < 0 then (-(c + 1)) % n else c % n
theorem pick_neg {c n : Int} (h : c < 0) : -(c + 1).tmod n = (-(c + 1)) % n := by
  rw [← Int.neg_tmod, Int.tmod_eq_emod_of_nonneg (by omega)]
theorem wrap64_bd (n : Int) : -9223372036854775808 ≤ wrap64 n ∧ wrap64 n ≤ 9223372036854775807 := by unfold wrap64; omega
def I64 (z : Int) : Prop := -9223372036854775808 ≤ z ∧ z ≤ 9223372036854775807
def Nd.wf (x : Nd) : Prop := I64 x.kind ∧ I64 x.a ∧ I64 x.b ∧ I64 x.k ∧ I64 x.m
theorem tmod_neg {v k : Int} (hv : v < 0) : v.tmod k = -((-v) % k) := by
  have : v = -(-v) := by omega
  rw [this, Int.neg_tmod, Int.tmod_eq_emod_of_nonneg (by omega)]
  simp
theorem rest_neg0 {v k : Int} (h : (-v) % k = 0) : v % k = 0 := by
  have := Int.emod_add_mul_ediv (-v) k
  have h2 : v = k * (-((-v) / k)) := by rw [Int.mul_neg]; omega
  rw [h2]; exact Int.mul_emod_right _ _
theorem rest_neg {v k : Int} (hk : 0 < k) (h : (-v) % k ≠ 0) : v % k = k - (-v) % k := by
  have e := Int.emod_add_mul_ediv (-v) k
  have b1 := Int.emod_nonneg (-v) (b := k) (by omega)
  have b2 := Int.emod_lt_of_pos (-v) hk
  have h2 : v = (k - (-v) % k) + k * (-((-v) / k) - 1) := by
    rw [Int.mul_sub, Int.mul_neg]; omega
  conv => lhs; rw [h2]
  rw [Int.add_mul_emod_self_left]
  exact Int.emod_eq_of_lt (by omega) (by omega)
theorem vrest_any (v k : Int) (w : World) (h1 : 1 ≤ k) (h2 : k ≤ 1000) :
    Calls Tryz.prog 125 #[.int .i64 v, .int .i64 k] w fun e w' => e = .returned (.int .i64 (v % k)) ∧ w' = w := by
  have hk0 : (k == 0) = false := by simp; omega
  have hkm : ¬ k = -1 := by omega
  have hkl : ¬ k ≤ 0 := by omega
  by_cases hv : v < 0
  · have e1 := tmod_neg (k := k) hv
    have b1 := Int.emod_nonneg (-v) (b := k) (by omega)
    have b2 := Int.emod_lt_of_pos (-v) (b := k) (by omega)
    have H0 := qJ (rest_neg0 (v := v) (k := k))
    have H1 := qJ (rest_neg (v := v) (k := k) (by omega))
    go_enter Tryz.func125, Tryz.ntmps125
    go_wp2
    · go_ret
      exact ⟨qF (by rw [(qK H1) (by omega)]; omega), rfl⟩
    · go_ret
      exact ⟨qF (by rw [(qK H0) (by omega)]; omega), rfl⟩
  · have e1 : v.tmod k = v % k := Int.tmod_eq_emod_of_nonneg (by omega)
    have b1 := Int.emod_nonneg v (b := k) (by omega)
    have b2 := Int.emod_lt_of_pos v (b := k) (by omega)
    go_enter Tryz.func125, Tryz.ntmps125
    go_wp2
    go_ret
    exact ⟨rfl, rfl⟩
theorem rrest_any (v k : Int) (w : World) (h1 : 1 ≤ k) (h2 : k ≤ 1000) :
    Calls Tryz.prog 90 #[.int .i64 v, .int .i64 k] w fun e w' => e = .returned (.int .i64 (v % k)) ∧ w' = w := by
  have hk0 : (k == 0) = false := by simp; omega
  have hkm : ¬ k = -1 := by omega
  have hkl : ¬ k ≤ 0 := by omega
  by_cases hv : v < 0
  · have e1 := tmod_neg (k := k) hv
    have b1 := Int.emod_nonneg (-v) (b := k) (by omega)
    have b2 := Int.emod_lt_of_pos (-v) (b := k) (by omega)
    have H0 := qJ (rest_neg0 (v := v) (k := k))
    have H1 := qJ (rest_neg (v := v) (k := k) (by omega))
    generalize (-v) % k = r at *
    have e2 : (-r + k).tmod k = (-r + k) % k := Int.tmod_eq_emod_of_nonneg (by omega)
    go_enter Tryz.func90, Tryz.ntmps90
    go_wp2
    go_ret
    refine ⟨qF ?_, rfl⟩
    by_cases hr : r = 0
    · rw [(qK H0) hr, hr]; simp
    · have e3 : (-r + k) % k = -r + k := Int.emod_eq_of_lt (by omega) (by omega)
      have e4 : -r % k = -r + k := by rw [← Int.add_emod_right]; exact e3
      have := (qK H1) hr
      omega
  · have e1 : v.tmod k = v % k := Int.tmod_eq_emod_of_nonneg (by omega)
    have b1 := Int.emod_nonneg v (b := k) (by omega)
    have b2 := Int.emod_lt_of_pos v (b := k) (by omega)
    generalize v % k = r at *
    have e2 : (r + k).tmod k = (r + k) % k := Int.tmod_eq_emod_of_nonneg (by omega)
    have e3 : (r + k) % k = r := by rw [Int.add_emod_right]; exact Int.emod_eq_of_lt b1 b2
    go_enter Tryz.func90, Tryz.ntmps90
    go_wp2
    go_ret
    exact ⟨qF (by omega), rfl⟩
theorem take_nth {l : List Int} {k : Nat} (h : k < l.length) : l.take (k + 1) = l.take k ++ [jD l k] := by
  rw [List.take_succ_eq_append_getElem h, zP h]
theorem Own.slice {W w : World} {v : Value} {xs : List Int} (h : Own W w v xs) : ∃ ad cap, v = .slice ad xs.length cap ∧ xs.length ≤ cap := by
  obtain ⟨hl, h'⟩ := id h
  rcases h' with ⟨e, h0⟩ | ⟨g, cap, cur, e, hg, hc, h1, h2, h3, h4⟩
  · exact ⟨none, 0, by rw [e, h0], by omega⟩
  · exact ⟨_, cap, e, h1⟩
theorem IntsAt.drop {w : World} {ad : Option Addr} {xs : List Int} {b off nx : Nat} (h : IntsAt w ad xs) (e : ad = some ⟨b, off, none⟩) : IntsAt w (some ⟨b, off + nx, none⟩) (xs.drop nx) := by
  intro i hi
  simp at hi
  obtain ⟨b', off', e', hb, hc⟩ := h (nx + i) (by omega)
  rw [e] at e'
  simp at e'
  obtain ⟨rfl, rfl⟩ := e'
  refine ⟨b, off + nx, rfl, hb, fun j hj => ?_⟩
  simp at hj
  rw [Nat.add_assoc, hc (nx + j) (by omega), zP (by omega), zP (by simp; omega)]
  simp
theorem hasB_iff {xs : List Int} {n : Int} : vY xs n = true ↔ n ∈ xs := by simp [vY]
theorem hasB_false {xs : List Int} {n : Int} : vY xs n = false ↔ n ∉ xs := by rw [← Bool.not_eq_true, hasB_iff]
theorem nodup_le : ∀ {xs ys : List Int}, xs.Nodup → (∀ x ∈ xs, x ∈ ys) → xs.length ≤ ys.length := by
  intro xs
  induction xs with
  | nil => intro ys _ _; simp
  | cons x l ih =>
    intro ys hn hs
    have hx : x ∈ ys := hs x (by simp)
    have := ih (ys := ys.erase x) (List.nodup_cons.1 hn).2 (by
      intro y hy
      have hne : y ≠ x := by intro e; subst e; exact (List.nodup_cons.1 hn).1 hy
      exact (List.mem_erase_of_ne hne).2 (hs y (by simp [hy])))
    rw [List.length_erase_of_mem hx] at this
    have hpos : 0 < ys.length := List.length_pos_of_mem hx
    simp; omega
def upto (n : Nat) : List Int := (List.range n).map Int.ofNat
theorem mem_upto {n : Nat} {z : Int} : z ∈ upto n ↔ 0 ≤ z ∧ z < n := by
  unfold upto
  rw [List.mem_map]
  constructor
  · rintro ⟨k, hk, rfl⟩; rw [List.mem_range] at hk; simp; omega
  · rintro ⟨h0, h1⟩; exact ⟨z.toNat, List.mem_range.2 (by omega), by simp; omega⟩
theorem upto_len (n : Nat) : (upto n).length = n := by simp [upto]
theorem upto_nodup (n : Nat) : (upto n).Nodup := by
  unfold upto
  rw [List.nodup_iff_pairwise_ne] at *
  rw [List.pairwise_map]
  exact List.Pairwise.imp (fun h e => h (Int.ofNat.inj e)) (List.nodup_iff_pairwise_ne.1 List.nodup_range)
structure OrdOk (ns : List Nd) (o : List Int) : Prop where
  nodup : o.Nodup
  range : ∀ z ∈ o, 0 ≤ z ∧ z < ns.length
  before : ∀ i, i < o.length → jK (o.take i) (qT ns (jD o i).toNat) = true
theorem OrdOk.nil (ns : List Nd) : OrdOk ns [] := ⟨List.nodup_nil, by simp, by simp⟩
theorem OrdOk.snoc {ns : List Nd} {o : List Int} (h : OrdOk ns o) {k : Nat} (hk : k < ns.length) (h1 : vY o k = false) (h2 : jK o (qT ns k) = true) : OrdOk ns (o ++ [(k : Int)]) := by
  refine ⟨?_, ?_, ?_⟩
  · rw [List.nodup_append]
    refine ⟨h.nodup, by simp, ?_⟩
    intro a ha b hb e
    simp at hb
    subst hb; subst e
    exact hasB_false.1 h1 ha
  · intro z hz
    rw [List.mem_append] at hz
    rcases hz with hz | hz
    · exact h.range z hz
    · simp at hz; subst hz; omega
  · intro i hi
    by_cases e : i < o.length
    · rw [List.take_append_of_le_length (by omega), zP hi, List.getElem_append_left e, ← zP e]
      exact h.before i e
    · simp at hi
      have : i = o.length := by omega
      subst this
      rw [zP (by simp), List.take_left]
      simpa using h2
theorem passTo_ok {ns : List Nd} {o : List Int} (h : OrdOk ns o) : ∀ k, k ≤ ns.length → OrdOk ns (kL ns o k) := by
  intro k hk
  induction k with
  | zero => exact h
  | succ k ih =>
    have ih := ih (by omega)
    cases h1 : vY (kL ns o k) k with
    | true => rw [passTo_has h1]; exact ih
    | false =>
      cases h2 : jK (kL ns o k) (qT ns k) with
      | false => rw [passTo_not h2]; exact ih
      | true => rw [passTo_add h1 h2]; exact ih.snoc (by omega) h1 h2
theorem ordTo_ok (ns : List Nd) (p : Nat) : OrdOk ns (vV ns p) := by
  induction p with
  | zero => exact OrdOk.nil ns
  | succ p ih => unfold vV; exact passTo_ok ih _ (Nat.le_refl _)
def Fix (ns : List Nd) (o : List Int) : Prop := ∀ k, k < ns.length → vY o k = true ∨ jK o (qT ns k) = false
theorem passTo_fix {ns : List Nd} {o : List Int} (h : Fix ns o) : ∀ k, k ≤ ns.length → kL ns o k = o := by
  intro k hk
  induction k with
  | zero => rfl
  | succ k ih =>
    have ih := ih (by omega)
    rcases h k (by omega) with h1 | h1
    · rw [passTo_has (by rw [ih]; exact h1), ih]
    · rw [passTo_not (by rw [ih]; exact h1), ih]
theorem passTo_mono (ns : List Nd) (o : List Int) (k : Nat) : o.length ≤ (kL ns o k).length := by
  induction k with
  | zero => exact Nat.le_refl _
  | succ k ih =>
    unfold kL; split
    · simp; omega
    · exact ih
theorem passTo_same {ns : List Nd} {o : List Int} : ∀ k, (kL ns o k).length = o.length → kL ns o k = o ∧ ∀ j, j < k → vY o j = true ∨ jK o (qT ns j) = false := by
  intro k
  induction k with
  | zero => intro _; exact ⟨rfl, by intro j hj; omega⟩
  | succ k ih =>
    intro hl
    have hm := passTo_mono ns o k
    cases h1 : vY (kL ns o k) k with
    | true =>
      rw [passTo_has h1] at hl ⊢
      obtain ⟨e, hj⟩ := ih hl
      refine ⟨e, fun j hjk => ?_⟩
      by_cases ej : j = k
      · subst ej; rw [e] at h1; exact .inl h1
      · exact hj j (by omega)
    | false =>
      cases h2 : jK (kL ns o k) (qT ns k) with
      | false =>
        rw [passTo_not h2] at hl ⊢
        obtain ⟨e, hj⟩ := ih hl
        refine ⟨e, fun j hjk => ?_⟩
        by_cases ej : j = k
        · subst ej; rw [e] at h2; exact .inr h2
        · exact hj j (by omega)
      | true =>
        rw [passTo_add h1 h2] at hl
        simp at hl; omega
theorem ordTo_fix (ns : List Nd) (p : Nat) : p ≤ (vV ns p).length ∨ Fix ns (vV ns p) := by
  induction p with
  | zero => exact .inl (Nat.zero_le _)
  | succ p ih =>
    unfold vV
    have hm := passTo_mono ns (vV ns p) ns.length
    by_cases e : (kL ns (vV ns p) ns.length).length = (vV ns p).length
    · obtain ⟨e1, hf⟩ := passTo_same _ e
      rw [e1]; exact .inr hf
    · rcases ih with ih | ih
      · exact .inl (by omega)
      · exact absurd (by rw [passTo_fix ih _ (Nat.le_refl _)]) e
theorem order_all {ns : List Nd} (h : ¬ (kW ns).length < ns.length) : ∀ k, k < ns.length → vY (kW ns) k = true := by
  intro k hk
  cases hh : vY (kW ns) k with
  | true => rfl
  | false =>
    have ok := ordTo_ok ns ns.length
    have := nodup_le (xs := (k : Int) :: kW ns) (ys := upto ns.length) (List.nodup_cons.2 ⟨hasB_false.1 hh, ok.nodup⟩) (by
      intro z hz
      rw [List.mem_cons] at hz
      rcases hz with rfl | hz
      · exact mem_upto.2 (by omega)
      · exact mem_upto.2 (ok.range z hz))
    rw [upto_len] at this
    simp at this
    omega
theorem order_some {ns : List Nd} (h : (kW ns).length < ns.length) : ∃ k, k < ns.length ∧ vY (kW ns) k = false := by
  by_cases hx : ∃ k, k < ns.length ∧ vY (kW ns) k = false
  · exact hx
  · have := nodup_le (xs := upto ns.length) (ys := kW ns) (upto_nodup _) (by
      intro z hz
      obtain ⟨h0, h1⟩ := mem_upto.1 hz
      cases hh : vY (kW ns) z with
      | true => exact hasB_iff.1 hh
      | false => exact absurd ⟨z.toNat, by omega, by rw [Int.toNat_of_nonneg h0]; exact hh⟩ hx)
    rw [upto_len] at this
    omega
theorem order_fix {ns : List Nd} (h : (kW ns).length < ns.length) : Fix ns (kW ns) := by
  rcases ordTo_fix ns ns.length with h1 | h1
  · unfold kW at h; omega
  · exact h1
end Go.Proofs.YtfemleimkbjehaaGreat
