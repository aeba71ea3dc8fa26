import Derived.Test.YtfemleimkbjehaaFl6
import Derived.Test.YtfemleimkbjehaaGvC
namespace Go.Proofs.Ytfemleimkbjehaa
open Go.RowKit

theorem OwnR.form {W w : World} {v : Value} {ns : List Nd} (h : OwnR W w v ns) : ∃ ad cap, v = .slice ad ns.length cap ∧ NodesAt w ad ns ∧ ns.length ≤ maxLen := by
  obtain ⟨hl, h'⟩ := id h
  rcases h' with ⟨e, h0⟩ | ⟨g, cap, cur, e, hg, hc, h1, h2, h3, h4⟩
  · refine ⟨none, 0, by rw [e, h0], fun i hi => absurd hi (by omega), by rw [h0]; exact Nat.zero_le _⟩
  · have hlt := (Array.getElem?_eq_some_iff.1 hc).1
    have hcells := World.ownsRow.cells h (g := g) (by rw [e]; rfl)
    refine ⟨some ⟨g, 0, none⟩, cap, e, fun i hi => ⟨g, 0, rfl, hlt, fun j hj => ?_⟩, by omega⟩
    have key : ∀ f, f < 5 → w.cell? ⟨g, 0 + j * 5 + f, none⟩ = (Nd.cells (ndn ns j))[f]? := by
      intro f hf
      have hs : ∃ u, (Nd.cells (ndn ns j))[f]? = some u := ⟨_, List.getElem?_eq_getElem (by simp [Nd.cells]; omega)⟩
      obtain ⟨u, hu⟩ := hs
      have := hcells (j * 5 + f) u (by rw [nodeCells_get ns j hj f hf]; exact hu)
      rw [Go.WideShapes.add_plain] at this
      rw [hu, ← this, Nat.add_assoc]
    have k0 := key 0 (by omega)
    rw [Nat.add_zero] at k0
    exact ⟨k0, key 1 (by omega), key 2 (by omega), key 3 (by omega), key 4 (by omega)⟩
theorem OwnR.kp {W a b : World} {g : Nat} {v : Value} {xs : List Nd} (h : OwnR W a v xs) (hg : g < W.heap.size) (hb : Kp g a b) : OwnR W b v xs := by
  obtain ⟨hl, h⟩ := h
  refine ⟨hl, ?_⟩
  rcases h with h | ⟨k, cap, cur, e, hk, hc, r⟩
  · exact .inl h
  · exact .inr ⟨k, cap, cur, e, hk, (World.grownBy.block hb k (Array.getElem?_eq_some_iff.1 hc).1 (by simp; omega)).trans hc, r⟩

set_option maxHeartbeats 1000000 in
theorem sameRec_any (xs : List Nd) (a1 a2 : Option Addr) (c1 c2 : Nat) (w : World) (h1 : NodesAt w a1 xs) (h2 : NodesAt w a2 xs) (hl : xs.length ≤ maxLen) :
    Calls Try.prog 50 #[.slice a1 xs.length c1, .slice a2 xs.length c2] w fun e w' => e = .returned (.bool true) ∧ Bw w w' := by
  unfold maxLen at hl
  go_enter Try.func50, Try.ntmps50
  go_wp2
  go_loopw [5] (fun i wr => ∃ k : Nat, k ≤ xs.length ∧ i = .int .i64 k ∧ Bw w wr) (fun i _ => xs.length - (intOf i).toNat)
  case atStart => exact ⟨0, Nat.zero_le _, rfl, Bw.refl _⟩
  case round =>
    obtain ⟨k, hk, rfl, hB⟩ := hrel
    by_cases hlt : k < xs.length
    · obtain ⟨b, off, rfl, hb, hc⟩ := (h1.below hB) k hlt
      obtain ⟨b', off', rfl, hb', hc'⟩ := (h2.below hB) k hlt
      obtain ⟨d0, d1, d2, d3, d4⟩ := hc k hlt
      obtain ⟨f0, f1, f2, f3, f4⟩ := hc' k hlt
      have hj1 : (0 : Int) ≤ (k : Int) := by omega
      have hj2 : (k : Int) < (xs.length : Int) := by omega
      clear hc hc'
      go_wp2_with fail
      go_quiet (fail)
      go_wp2_with fail
      go_roundw
      case rel => exact ⟨k + 1, by omega, by go_num, (by repeat (first | exact Bw.refl _ | assumption | refine Bw.drew ?_ | refine Bw.drewN ?_ _ | refine Bw.alloc ?_ _ | refine Bw.trans ?_ (by assumption)))⟩
      case measure => simp [intOf]; omega
    · go_wp2
      go_ret
      exact ⟨rfl, hB⟩

theorem Try.infoGiven : (Try.prog.info? 44).map (fun i => (i.zero, i.size, i.bytes)) = some (some (.agg #[.int .i64 0, .int .i64 0, .int .i64 0]), 3, 24) := by kernel_rfl
theorem Handed.below {w w' : World} {g : Nat} {ns : List Nd} (h : Handed w g ns) (hb : Bw w w') : Handed w' g ns := by
  obtain ⟨q1, q2⟩ := bcell hb
  have hlt := h.lt
  refine ⟨Nat.lt_of_lt_of_le hlt hb.size, fun j hj => ?_, ⟨(q1 _ _ hlt).trans h.room.1, (q1 _ _ hlt).trans h.room.2⟩, fun o => (q2 _ _ hlt).trans (h.free o)⟩
  obtain ⟨c0, c1, c2, c3, c4⟩ := h.node j hj
  exact ⟨(q1 _ _ hlt).trans c0, (q1 _ _ hlt).trans c1, (q1 _ _ hlt).trans c2, (q1 _ _ hlt).trans c3, (q1 _ _ hlt).trans c4⟩
end Go.Proofs.Ytfemleimkbjehaa
namespace Go.Proofs.Ytfemleimkbjehaa
open Go.RowKit

/-- The copy of what is given, into a fresh list with one place more. -/
theorem copy_given (gv : List Gv) (va : Option Addr) (vc : Nat) (w : World) (hv : GvAt w va gv) (_hvl : gv.length * 24 ≤ 140737488351232) :
    ∃ w', (Builtin.copy_ #[41, 41] 3 #[.slice (some ⟨w.heap.size, 0, none⟩) (gv.length + 1) (gv.length + 1), .slice va gv.length vc]).run Try.prog (w.alloc (.cells (madeCells #[.int .i64 0, .int .i64 0, .int .i64 0] ((gv.length + 1) * 3)) 44)) = .ok (goInt gv.length) w' ∧
      Bw w w' ∧ w.heap.size < w'.heap.size ∧ (∀ o, w'.frozen? ⟨w.heap.size, o, none⟩ = false) ∧ (∀ o, o < (gv.length + 1) * 3 → ∃ u, w'.cell? ⟨w.heap.size, o, none⟩ = some u) ∧ (∀ p u, (gvCells gv)[p]? = some u → w'.cell? ⟨w.heap.size, p, none⟩ = some u) := by
  obtain ⟨i0, hi, hz0, hz1, hz2⟩ := info_parts Try.infoGiven
  obtain ⟨w1, hr, hg1, hgr⟩ := run_copyN (P := Try.prog) (w.alloc (.cells (madeCells #[.int .i64 0, .int .i64 0, .int .i64 0] ((gv.length + 1) * 3)) 44)) 41 41 3 44 i0 Try.underlying41 hi
    w.heap.size (gv.length + 1) (gv.length + 1) va gv.length vc _ _ (gvCells gv) (heap_alloc_new w _) (by omega) (by rw [gvCells_len, hz1])
    (by intro h0
        obtain ⟨b, off, rfl, hb, hc⟩ := (hv.below (w' := w.alloc (.cells (madeCells #[.int .i64 0, .int .i64 0, .int .i64 0] ((gv.length + 1) * 3)) 44)) (by repeat (first | exact Bw.refl _ | assumption | refine Bw.drew ?_ | refine Bw.drewN ?_ _ | refine Bw.alloc ?_ _ | refine Bw.trans ?_ (by assumption)))) 0 h0
        exact ⟨_, rfl, gvCells_src hc⟩) (by rw [gvCells_len, size_madeCells]; omega) (gvCells_one gv)
  have hsz2 : ((gvCells gv ++ (madeCells #[.int .i64 0, .int .i64 0, .int .i64 0] ((gv.length + 1) * 3)).toList.drop (gvCells gv).length).toArray).size = (gv.length + 1) * 3 := by
    simp [gvCells_len, size_madeCells]; omega
  refine ⟨w1, hr, Below.grown (w := w.alloc (.cells (madeCells #[.int .i64 0, .int .i64 0, .int .i64 0] ((gv.length + 1) * 3)) 44)) (by exact (show Bw w _ from (by repeat (first | exact Bw.refl _ | assumption | refine Bw.drew ?_ | refine Bw.drewN ?_ _ | refine Bw.alloc ?_ _ | refine Bw.trans ?_ (by assumption))))) hgr (by simp) (by intro k hk; simp at hk; omega), (Array.getElem?_eq_some_iff.1 hg1).1, fun o => frozen_of_block hg1, fun o ho => ⟨_, cell_of_block hg1 (Array.getElem?_eq_getElem (by rw [hsz2]; exact ho))⟩, fun p u hp => cell_of_block hg1 (by rw [List.getElem?_toArray, List.getElem?_append_left (List.getElem?_eq_some_iff.1 hp).1]; exact hp)⟩

set_option maxRecDepth 100000 in
set_option maxHeartbeats 4000000 in
theorem meant_any (ns : List Nd) (ga va : Option Addr) (gc vc : Nat) (r : Int) (gv : List Gv) (w : World) (hn : NodesAt w ga ns) (hl : ns.length * 40 ≤ 140737488351232) (hv : GvAt w va gv) (h64 : ∀ k, k < gv.length → I64 (gvn gv k).value) (hvl : gv.length * 24 ≤ 140737488351232) :
    Calls Try.prog 20 #[.agg #[.slice ga ns.length gc, .int .i64 r], .slice va gv.length vc] w fun e w' => e = .returned (.bool true) ∧ Bw w w' := by
  obtain ⟨i0, hi, hz0, hz1, hz2⟩ := info_parts Try.infoGiven
  have hmk := fun w : World => run_make (P := Try.prog) w 41 44 i0 _ Try.underlying41 hi hz0 .i64 .i64 ((gv.length : Int) + 1) ((gv.length : Int) + 1) (by omega) (by omega) (by rw [hz2]; omega) (by omega)
  have e1 : ((gv.length : Int) + 1).toNat = gv.length + 1 := by omega
  rw [e1, hz1] at hmk
  clear e1 hi hz0 hz1 hz2
  have hgl : ns.length ≤ maxLen := by unfold maxLen; omega
  have hgvl : gv.length ≤ maxLen := by unfold maxLen; omega
  go_enter Try.func20, Try.ntmps20
  go_wp2_with fail
  refine (handed_any ns _ _ _ _ (hn.below (by repeat (first | exact Bw.refl _ | assumption | refine Bw.drew ?_ | refine Bw.drewN ?_ _ | refine Bw.alloc ?_ _ | refine Bw.trans ?_ (by assumption)))) hl).mono ?_
  rintro en w1 ⟨g, rfl, hg, hH, hB1⟩
  obtain ⟨x0, x1⟩ : w1.cell? ⟨w.heap.size, 0, none⟩ = some (.slice ga ns.length gc) ∧ w1.cell? ⟨w.heap.size, 1, none⟩ = some (.int .i64 r) := by
    obtain ⟨q1, q2⟩ := bcell hB1
    exact ⟨(q1 _ _ (by simp)).trans (by simp), (q1 _ _ (by simp)).trans (by simp)⟩
  have gz1 : w.heap.size < w1.heap.size := by have := hB1.size; simp at this; omega
  have hgw : w.heap.size + 1 ≤ g := by simpa using hg
  have hBw1 : Bw w w1 := (by repeat (first | exact Bw.refl _ | assumption | refine Bw.drew ?_ | refine Bw.drewN ?_ _ | refine Bw.alloc ?_ _ | refine Bw.trans ?_ (by assumption)))
  clear hB1 hg
  obtain ⟨w2, hw2⟩ : ∃ w2, w1.alloc (.cells #[.slice (some ⟨g, 0, none⟩) ns.length (ns.length + 2), .int .i64 r] 24) = w2 := ⟨_, rfl⟩
  obtain ⟨y0, y1, gz2, hB12⟩ : w2.cell? ⟨w1.heap.size, 0, none⟩ = some (.slice (some ⟨g, 0, none⟩) ns.length (ns.length + 2)) ∧ w2.cell? ⟨w1.heap.size, 1, none⟩ = some (.int .i64 r) ∧ w2.heap.size = w1.heap.size + 1 ∧ Bw w1 w2 := by
    rw [← hw2]; exact ⟨by simp, by simp, by simp, (by repeat (first | exact Bw.refl _ | assumption | refine Bw.drew ?_ | refine Bw.drewN ?_ _ | refine Bw.alloc ?_ _ | refine Bw.trans ?_ (by assumption)))⟩
  obtain ⟨w4, hcp, hB4, hsz4, hfr4, hcs4, hcn4⟩ := copy_given gv va vc w2 (hv.below (hBw1.trans hB12)) hvl
  have Hcn4 := hide hcn4
  obtain ⟨u0, a0⟩ := hcs4 (gv.length * 3) (by omega)
  obtain ⟨u1, a1⟩ := hcs4 (gv.length * 3 + 1) (by omega)
  obtain ⟨u2, a2⟩ := hcs4 (gv.length * 3 + 2) (by omega)
  clear hcs4 hcn4
  rw [gz2] at hcp hfr4 a0 a1 a2 Hcn4 hsz4
  go_wp2_with fail
  have z0 : w4.cell? ⟨w1.heap.size, 0, none⟩ = some (.slice (some ⟨g, 0, none⟩) ns.length (ns.length + 2)) := ((bcell hB4).1 _ _ (by omega)).trans y0
  have z1 : w4.cell? ⟨w1.heap.size, 1, none⟩ = some (.int .i64 r) := ((bcell hB4).1 _ _ (by omega)).trans y1
  clear hcp hw2 hmk y0 y1
  obtain ⟨w5, hw5⟩ : ∃ w5, (((w4.setCell ⟨w1.heap.size + 1, gv.length * 3, none⟩ (.int .i64 (-77))).setCell ⟨w1.heap.size + 1, gv.length * 3 + 1, none⟩ (.int .i64 0)).setCell ⟨w1.heap.size + 1, gv.length * 3 + 2, none⟩ (.int .i64 0)) = w5 := ⟨_, rfl⟩
  rw [hw5]
  have hB25 : Bw w2 w5 := by
    rw [← hw5]
    exact ((hB4.setCell (by simp only; omega) _).setCell (by simp only; omega) _).setCell (by simp only; omega) _
  obtain ⟨y0, y1, r0⟩ : w5.cell? ⟨w1.heap.size, 0, none⟩ = some (.slice (some ⟨g, 0, none⟩) ns.length (ns.length + 2)) ∧ w5.cell? ⟨w1.heap.size, 1, none⟩ = some (.int .i64 r) ∧ w5.cell? ⟨w1.heap.size + 1, gv.length * 3, none⟩ = some (.int .i64 (-77)) := by
    rw [← hw5]
    refine ⟨?_, ?_, ?_⟩
    · iterate 3 rw [cs_ne]
      · exact z0
      all_goals omega
    · iterate 3 rw [cs_ne]
      · exact z1
      all_goals omega
    · iterate 2 rw [cs_ne]
      · exact cs_eq a0
      all_goals omega
  have gz5 : w1.heap.size + 1 < w5.heap.size := by rw [← hw5]; simpa using hsz4
  have hgv5 : GvAt w5 (some ⟨w1.heap.size + 1, 0, none⟩) gv := by
    refine gvAt_cells gz5 fun p u hp => ?_
    have hpl := (List.getElem?_eq_some_iff.1 hp).1
    rw [gvCells_len] at hpl
    rw [← hw5]
    iterate 3 rw [cs_ne]
    · exact (unhide Hcn4) p u hp
    all_goals omega
  have hB15 : Bw w1 w5 := hB12.trans hB25
  have hH5 := hH.below hB15
  have hgl1 := hH.lt
  have x0' : w5.cell? ⟨w.heap.size, 0, none⟩ = some (.slice ga ns.length gc) := ((bcell hB15).1 _ _ gz1).trans x0
  have x1' : w5.cell? ⟨w.heap.size, 1, none⟩ = some (.int .i64 r) := ((bcell hB15).1 _ _ gz1).trans x1
  have hBw5 : Bw w w5 := hBw1.trans hB15
  clear hw5 z0 z1 a0 a1 a2 hfr4 Hcn4 hsz4 hB4 hB12 hB25 x0 x1 hH
  have hle : (gv.length : Int) ≤ (gv.length : Int) + 1 := by omega
  have hNA := hH5.at
  go_region_law (go_simp; go_at_call 48; refine (meaning_any ns _ _ _ _ _ gv _ (hNA.below (by repeat (first | exact Bw.refl _ | assumption | refine Bw.drew ?_ | refine Bw.drewN ?_ _ | refine Bw.alloc ?_ _ | refine Bw.trans ?_ (by assumption)))) hgl (hgv5.below (by repeat (first | exact Bw.refl _ | assumption | refine Bw.drew ?_ | refine Bw.drewN ?_ _ | refine Bw.alloc ?_ _ | refine Bw.trans ?_ (by assumption)))) h64 hgvl).mono ?_; rintro e w6 ⟨v6, rfl, ho6, hB6⟩)
  have hB56 : Bw w5 w6 := (by repeat (first | exact Bw.refl _ | assumption | refine Bw.drew ?_ | refine Bw.drewN ?_ _ | refine Bw.alloc ?_ _ | refine Bw.trans ?_ (by assumption)))
  obtain ⟨qc, _⟩ := bcell hB56
  have y0' := (qc _ 0 (show w1.heap.size < w5.heap.size by omega)).trans y0
  have y1' := (qc _ 1 (show w1.heap.size < w5.heap.size by omega)).trans y1
  have x0'' := (qc _ 0 (show w.heap.size < w5.heap.size by omega)).trans x0'
  have x1'' := (qc _ 1 (show w.heap.size < w5.heap.size by omega)).trans x1'
  have r0' := (qc _ (gv.length * 3) gz5).trans r0
  have gz6 : w1.heap.size + 1 < w6.heap.size := by have := hB56.size; omega
  have hgv6 := hgv5.below hB56
  have hH6 := hH5.below hB56
  have hBw6 : Bw w w6 := hBw5.trans hB56
  have ho6' : OwnR w5 w6 v6 (meanL ns r gv) := ho6.weaken (by repeat (first | exact Bw.refl _ | assumption | refine Bw.drew ?_ | refine Bw.drewN ?_ _ | refine Bw.alloc ?_ _ | refine Bw.trans ?_ (by assumption)))
  obtain ⟨ra, rc, rfl, hrec6, hrml⟩ := ho6.form
  clear qc y0 y1 x0' x1' r0 hgv5 hH5 hB6 ho6 hNA hrec6
  go_wp2_with fail
  refine (still_any ns ga g _ r r w w6 hn hBw6 (by omega) hH6 hl).mono ?_
  rintro en w7 ⟨rfl, hK7⟩
  have qk := hK7.cell
  have hBw7 : Bw w w7 := hBw6.kp (by omega) hK7
  have x0 := (qk w.heap.size 0 (by omega) (by omega)).trans x0''
  have x1 := (qk w.heap.size 1 (by omega) (by omega)).trans x1''
  have r0 := (qk (w1.heap.size + 1) (gv.length * 3) (by omega) (by omega)).trans r0'
  have ho7 := ho6'.kp (by omega) hK7
  have gz7 : w1.heap.size + 1 < w7.heap.size := by have := hK7.size; omega
  have hgv7 : ∀ j, j < gv.length → w7.cell? ⟨w1.heap.size + 1, j * 3, none⟩ = some (.int .i64 (gvn gv j).node) ∧ w7.cell? ⟨w1.heap.size + 1, j * 3 + 1, none⟩ = some (.int .i64 (gvn gv j).epoch) ∧ w7.cell? ⟨w1.heap.size + 1, j * 3 + 2, none⟩ = some (.int .i64 (gvn gv j).value) := by
    intro j hj
    obtain ⟨b, off, e, _, hc⟩ := hgv6 j hj
    simp at e
    obtain ⟨rfl, rfl⟩ := e
    obtain ⟨c0, c1, c2⟩ := hc j hj
    rw [Nat.zero_add] at c0 c1 c2
    exact ⟨(qk _ _ (by omega) (by omega)).trans c0, (qk _ _ (by omega) (by omega)).trans c1, (qk _ _ (by omega) (by omega)).trans c2⟩
  clear qk y0' y1' x0'' x1'' r0' hgv6 hH6 ho6' hK7
  have Hgv7 := hide hgv7
  clear hgv7
  go_wp2_with fail
  go_loopw [9, 10] (fun v i wr => ∃ k : Nat, k ≤ gv.length ∧ i = .int .i64 k ∧ v = .bool true ∧ Bw w7 wr) (fun _ i _ => gv.length - (intOf i).toNat)
  case atStart => exact ⟨0, Nat.zero_le _, rfl, rfl, Bw.refl _⟩
  case round =>
    obtain ⟨k, hk, rfl, rfl, hB8⟩ := hrel
    rename World => w8
    obtain ⟨qc, _⟩ := bcell hB8
    by_cases hlt : k < gv.length
    · obtain ⟨b, off, rfl, hb, hc⟩ := (hv.below (hBw7.trans hB8)) k hlt
      obtain ⟨c0, c1, c2⟩ := hc k hlt
      obtain ⟨d0, d1, d2⟩ := (unhide Hgv7) k hlt
      have d0' := (qc _ _ gz7).trans d0
      have d1' := (qc _ _ gz7).trans d1
      have d2' := (qc _ _ gz7).trans d2
      have hj1 : (0 : Int) ≤ (k : Int) := by omega
      have hj2 : (k : Int) < (gv.length : Int) := by omega
      have hj3 : (k : Int) < (gv.length : Int) + 1 := by omega
      clear hc qc d0 d1 d2
      generalize gvn gv k = x at *
      go_wp2_with fail
      go_quiet (fail)
      go_wp2_with fail
      go_roundw
      case rel => exact ⟨k + 1, by omega, by go_num, rfl, (by repeat (first | exact Bw.refl _ | assumption | refine Bw.drew ?_ | refine Bw.drewN ?_ _ | refine Bw.alloc ?_ _ | refine Bw.trans ?_ (by assumption)))⟩
      case measure => simp [intOf]; omega
    · have hkk : k = gv.length := by omega
      subst hkk
      have x0' := (qc w.heap.size 0 (by omega)).trans x0
      have x1' := (qc w.heap.size 1 (by omega)).trans x1
      have r0' := (qc (w1.heap.size + 1) (gv.length * 3) gz7).trans r0
      have gz8 : w1.heap.size + 1 < w8.heap.size := by have := hB8.size; omega
      have hBw8 : Bw w w8 := hBw7.trans hB8
      clear qc
      go_wp2_with fail
      refine (rmeaning_any ns ga va gc vc r gv w8 (hn.below hBw8) hgl (hv.below hBw8) h64 hgvl).mono ?_
      rintro en w9 ⟨v9, rfl, ho9, hB9⟩
      have r1 := ((bcell hB9).1 _ _ gz8).trans r0'
      have gz9 : w1.heap.size + 1 < w9.heap.size := by have := hB9.size; omega
      obtain ⟨sa, sc, rfl, hs9, _⟩ := ho9.form
      have hrec9 : NodesAt w9 ra (meanL ns r gv) := by
        obtain ⟨_, _, e, h, _⟩ := (ho7.bw (hB8.trans hB9)).form
        simp at e
        obtain ⟨rfl, _⟩ := e
        exact h
      clear r0' x0' x1' ho9
      go_wp2_with fail
      refine (sameRec_any (meanL ns r gv) ra sa rc sc w9 hrec9 hs9 hrml).mono ?_
      rintro en w10 ⟨rfl, hB10⟩
      have r2 := ((bcell hB10).1 _ _ gz9).trans r1
      have gz10 : w1.heap.size + 1 < w10.heap.size := by have := hB10.size; omega
      have hBw10 : Bw w w10 := (hBw8.trans hB9).trans hB10
      clear r1 hs9 hrec9
      go_wp2_with (go_at_call 44; refine (num_any _ _).mono ?_; rintro e w' ⟨rfl, rfl⟩)
      go_ret
      exact ⟨rfl, (by repeat (first | exact Bw.refl _ | assumption | refine Bw.drew ?_ | refine Bw.drewN ?_ _ | refine Bw.alloc ?_ _ | refine Bw.trans ?_ (by assumption)))⟩
end Go.Proofs.Ytfemleimkbjehaa
