import Derived.Test.YtfemleimkbjehaaLaw2
namespace Go.Proofs.Ytfemleimkbjehaa
open Go.RowKit

/-- All that was in a is in b as it was, but for the block g. -/
def Kp (g : Nat) (a b : World) : Prop := a.grownBy b (some g)
theorem Kp.refl (g : Nat) (a : World) : Kp g a a := ⟨rfl, rfl, rfl, Nat.le_refl _, fun _ _ _ => rfl⟩
theorem Kp.trans {g : Nat} {a b c : World} (h : Kp g a b) (k : Kp g b c) : Kp g a c :=
  ⟨k.os.trans h.os, k.tape.trans h.tape, k.output.trans h.output, Nat.le_trans h.size k.size, fun i hi hne => (k.block i (Nat.lt_of_lt_of_le hi h.size) hne).trans (h.block i hi hne)⟩
theorem Kp.bw {g : Nat} {a b : World} (h : Bw a b) : Kp g a b := ⟨Below.os h, Below.tape h, Below.output h, Below.size h, fun i hi _ => Below.block h i hi⟩
theorem Kp.setCell {g o : Nat} {a b : World} (h : Kp g a b) (v : Value) : Kp g a (b.setCell ⟨g, o, none⟩ v) :=
  h.trans ⟨rfl, rfl, rfl, by simp, fun i _ hne => Below.heap_setCell _ _ _ _ (fun e => hne (by simp [e]))⟩
theorem Kp.drewN {g : Nat} {a b : World} (h : Kp g a b) (n : Nat) : Kp g a (b.drewN n) := h.trans (Kp.bw ((Bw.refl b).drewN n))
theorem Kp.size {g : Nat} {a b : World} (h : Kp g a b) : a.heap.size ≤ b.heap.size := World.grownBy.size h
theorem Kp.cell {g : Nat} {a b : World} (h : Kp g a b) : ∀ k o, k < a.heap.size → k ≠ g → b.cell? ⟨k, o, none⟩ = a.cell? ⟨k, o, none⟩ :=
  fun k o hk hne => World.cell?_of_block (a := ⟨k, o, none⟩) (World.grownBy.block h k hk (by simpa using hne))
theorem dn_cell (w : World) (n : Nat) (a : Addr) : (w.drewN n).cell? a = w.cell? a := rfl
theorem dn_frozen (w : World) (n : Nat) (a : Addr) : (w.drewN n).frozen? a = w.frozen? a := rfl

/-- The node j of a row at the head of the block g. -/
def NodeCells (w : World) (g : Nat) (ns : List Nd) (j : Nat) : Prop :=
    w.cell? ⟨g, j * 5, none⟩ = some (.int .i64 (ndn ns j).kind) ∧ w.cell? ⟨g, j * 5 + 1, none⟩ = some (.int .i64 (ndn ns j).a) ∧
    w.cell? ⟨g, j * 5 + 2, none⟩ = some (.int .i64 (ndn ns j).b) ∧ w.cell? ⟨g, j * 5 + 3, none⟩ = some (.int .i64 (ndn ns j).k) ∧
    w.cell? ⟨g, j * 5 + 4, none⟩ = some (.int .i64 (ndn ns j).m)
theorem NodeCells.bw {w w' : World} {g : Nat} {ns : List Nd} {j : Nat} (h : NodeCells w g ns j) (hg : g < w.heap.size) (hb : Bw w w') : NodeCells w' g ns j :=
  ⟨((bcell hb).1 _ _ hg).trans h.1, ((bcell hb).1 _ _ hg).trans h.2.1, ((bcell hb).1 _ _ hg).trans h.2.2.1, ((bcell hb).1 _ _ hg).trans h.2.2.2.1, ((bcell hb).1 _ _ hg).trans h.2.2.2.2⟩

theorem NodeCells.after {w : World} {g : Nat} {ns : List Nd} {k j nq : Nat} {x0 x1 x2 x3 x4 : Value} (h : NodeCells w g ns j) (hj : k + 1 ≤ j) :
    NodeCells ((((((w.drewN nq).setCell ⟨g, k * 5, none⟩ x0).setCell ⟨g, k * 5 + 1, none⟩ x1).setCell ⟨g, k * 5 + 2, none⟩ x2).setCell ⟨g, k * 5 + 3, none⟩ x3).setCell ⟨g, k * 5 + 4, none⟩ x4) g ns j := by
  obtain ⟨c0, c1, c2, c3, c4⟩ := h
  refine ⟨?_, ?_, ?_, ?_, ?_⟩
  · iterate 5 rw [cs_ne]
    · exact c0
    all_goals omega
  · iterate 5 rw [cs_ne]
    · exact c1
    all_goals omega
  · iterate 5 rw [cs_ne]
    · exact c2
    all_goals omega
  · iterate 5 rw [cs_ne]
    · exact c3
    all_goals omega
  · iterate 5 rw [cs_ne]
    · exact c4
    all_goals omega

set_option maxRecDepth 100000 in
set_option maxHeartbeats 2000000 in
theorem still_any (ns : List Nd) (ga : Option Addr) (g0 gc : Nat) (r r' : Int) (w0 w : World) (hn : NodesAt w0 ga ns) (hB0 : Bw w0 w) (hg0 : w0.heap.size ≤ g0) (hh : Handed w g0 ns) (hl : ns.length * 40 ≤ 140737488351232) :
    Calls Try.prog 40 #[.agg #[.slice (some ⟨g0, 0, none⟩) ns.length (ns.length + 2), .int .i64 r'], .agg #[.slice ga ns.length gc, .int .i64 r]] w fun e w' => e = .returned (.bool true) ∧ Kp g0 w w' := by
  have hgl := hh.lt
  obtain ⟨hr0, hr1⟩ := hh.room
  go_enter Try.func40, Try.ntmps40
  go_wp2_with fail
  go_loopw [7, 8] (fun v i wr => ∃ k : Nat, k ≤ ns.length ∧ i = .int .i64 k ∧ v = .bool true ∧ (∀ j, k ≤ j → j < ns.length → NodeCells wr g0 ns j) ∧ (∀ o, wr.frozen? ⟨g0, o, none⟩ = false) ∧ Kp g0 ((w.alloc (.cells #[.slice (some ⟨g0, 0, none⟩) ns.length (ns.length + 2), .int .i64 r'] 24)).alloc (.cells #[.slice ga ns.length gc, .int .i64 r] 24)) wr) (fun _ i _ => ns.length - (intOf i).toNat)
  case atStart => exact ⟨0, Nat.zero_le _, rfl, rfl, fun j _ hj => NodeCells.bw (hh.node j hj) hgl (by repeat (first | exact Bw.refl _ | assumption | refine Bw.drew ?_ | refine Bw.drewN ?_ _ | refine Bw.alloc ?_ _ | refine Bw.trans ?_ (by assumption))), fun o => ((bcell (show Bw w ((w.alloc (.cells #[.slice (some ⟨g0, 0, none⟩) ns.length (ns.length + 2), .int .i64 r'] 24)).alloc (.cells #[.slice ga ns.length gc, .int .i64 r] 24)) from (by repeat (first | exact Bw.refl _ | assumption | refine Bw.drew ?_ | refine Bw.drewN ?_ _ | refine Bw.alloc ?_ _ | refine Bw.trans ?_ (by assumption))))).2 g0 o hgl).trans (hh.free o), Kp.refl _ _⟩
  case round =>
    obtain ⟨k, hk, rfl, rfl, hcs, hfr, hK⟩ := hrel
    have Hcs := hide hcs
    clear hcs
    have hkc := hK.cell
    have hks : w.heap.size + 1 < wr.heap.size := by have := hK.size; simp at this; omega
    have e1 : wr.cell? ⟨w.heap.size, 0, none⟩ = some (.slice (some ⟨g0, 0, none⟩) ns.length (ns.length + 2)) := (hkc _ _ (by simp; omega) (by omega)).trans (by simp)
    have e2 : wr.cell? ⟨w.heap.size + 1, 0, none⟩ = some (.slice ga ns.length gc) := (hkc _ _ (by simp) (by omega)).trans (by simp)
    by_cases hlt : k < ns.length
    · obtain ⟨b, off, rfl, hb, hc⟩ := hn k hlt
      have hb1 := hB0.size
      have hcw : ∀ o, wr.cell? ⟨b, o, none⟩ = w0.cell? ⟨b, o, none⟩ := fun o => (hkc b o (by simp; omega) (by omega)).trans (((bcell (show Bw w ((w.alloc (.cells #[.slice (some ⟨g0, 0, none⟩) ns.length (ns.length + 2), .int .i64 r'] 24)).alloc (.cells #[.slice (some ⟨b, off, none⟩) ns.length gc, .int .i64 r] 24)) from (by repeat (first | exact Bw.refl _ | assumption | refine Bw.drew ?_ | refine Bw.drewN ?_ _ | refine Bw.alloc ?_ _ | refine Bw.trans ?_ (by assumption))))).1 b o (by omega)).trans ((bcell hB0).1 b o hb))
      obtain ⟨c0, c1, c2, c3, c4⟩ := hc k hlt
      clear hc
      rw [← hcw] at c0 c1 c2 c3 c4
      obtain ⟨d0, d1, d2, d3, d4⟩ := (unhide Hcs) k (Nat.le_refl _) hlt
      have hj1 : (0 : Int) ≤ (k : Int) := by omega
      have hj2 : (k : Int) < (ns.length : Int) := by omega
      clear hkc hcw
      go_wp2_with fail
      go_quiet (fail)
      go_wp2_with fail
      go_roundw
      case rel => exact ⟨k + 1, by omega, by go_num, rfl, fun j hj hjl => NodeCells.after ((unhide Hcs) j (by omega) hjl) hj, fun o => by simp [hfr], (((((hK.drewN nq).setCell _).setCell _).setCell _).setCell _).setCell _⟩
      case measure => simp [intOf]; omega
    · go_wp2_with fail
      go_ret
      exact ⟨rfl, (Kp.bw (show Bw w ((w.alloc (.cells #[.slice (some ⟨g0, 0, none⟩) ns.length (ns.length + 2), .int .i64 r'] 24)).alloc (.cells #[.slice ga ns.length gc, .int .i64 r] 24)) from (by repeat (first | exact Bw.refl _ | assumption | refine Bw.drew ?_ | refine Bw.drewN ?_ _ | refine Bw.alloc ?_ _ | refine Bw.trans ?_ (by assumption))))).trans hK⟩
end Go.Proofs.Ytfemleimkbjehaa
