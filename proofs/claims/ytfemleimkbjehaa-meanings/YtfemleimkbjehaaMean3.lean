import Derived.Test.YtfemleimkbjehaaMean2
import Derived.Test.YtfemleimkbjehaaOwn5
namespace Go.Proofs.Ytfemleimkbjehaa
open Go.RowKit

def timesIn (e : Nat) : Nat → List (Nat × Nat)
  | 0 => []
  | s + 1 => timesIn e s ++ [(e, s)]
def timesUp (R : Nat) : Nat → List (Nat × Nat)
  | 0 => []
  | e + 1 => timesUp R e ++ timesIn e R
theorem timesIn_len (e s : Nat) : (timesIn e s).length = s := by
  induction s with
  | zero => rfl
  | succ s ih => simp [timesIn, ih]
theorem timesUp_len (R e : Nat) : (timesUp R e).length = e * R := by
  induction e with
  | zero => simp [timesUp]
  | succ e ih => simp [timesUp, ih, timesIn_len, Nat.add_mul]
theorem timesIn_mem {e s : Nat} {t : Nat × Nat} (h : t ∈ timesIn e s) : t.1 = e ∧ t.2 < s := by
  induction s with
  | zero => simp [timesIn] at h
  | succ s ih =>
    rcases List.mem_append.1 h with h | h
    · obtain ⟨a, b⟩ := ih h; exact ⟨a, by omega⟩
    · simp at h; subst h; exact ⟨rfl, by simp⟩
theorem timesUp_mem {R e : Nat} {t : Nat × Nat} (h : t ∈ timesUp R e) : t.1 < e ∧ t.2 < R := by
  induction e with
  | zero => simp [timesUp] at h
  | succ e ih =>
    rcases List.mem_append.1 h with h | h
    · obtain ⟨a, b⟩ := ih h; exact ⟨by omega, b⟩
    · obtain ⟨a, b⟩ := timesIn_mem h; exact ⟨by omega, b⟩

def MosOk (ns : List Nd) (gv : List Gv) (ms : List Mo) (ts : List (Nat × Nat)) : Prop := ms.map (fun m => (m.e, m.s)) = ts ∧ ∀ m ∈ ms, ∀ n, n < ns.length → (m.F n).Perm (valS ns gv m.e m.s n)
theorem MosOk.snoc {ns : List Nd} {gv : List Gv} {ms : List Mo} {ts : List (Nat × Nat)} (h : MosOk ns gv ms ts) {e s g : Nat} {F : Nat → List Int} (hF : ∀ n, n < ns.length → (F n).Perm (valS ns gv e s n)) : MosOk ns gv (ms ++ [⟨e, s, g, F⟩]) (ts ++ [(e, s)]) := by
  refine ⟨by rw [List.map_append, h.1]; rfl, fun m hm => ?_⟩
  rcases List.mem_append.1 hm with hm | hm
  · exact h.2 m hm
  · simp at hm; subst hm; exact hF
theorem MosOk.len {ns : List Nd} {gv : List Gv} {ms : List Mo} {ts : List (Nat × Nat)} (h : MosOk ns gv ms ts) : ms.length = ts.length := by rw [← h.1]; simp
theorem cells3 {w : World} {g : Nat} {a b c : Value} (h0 : w.cell? ⟨g, 0, none⟩ = some a) (h1 : w.cell? ⟨g, 1, none⟩ = some b) (h2 : w.cell? ⟨g, 2, none⟩ = some c) : ∀ j u, [a, b, c][j]? = some u → w.cell? ⟨g, j, none⟩ = some u := by
  intro j u hj
  match j, hj with
  | 0, hj => simp at hj; subst hj; exact h0
  | 1, hj => simp at hj; subst hj; exact h1
  | 2, hj => simp at hj; subst hj; exact h2
theorem moCells_one (L : Nat) (m : Mo) : ∀ u ∈ moCells L m, u.oneCell' = true := by
  intro u hu
  simp [moCells] at hu
  rcases hu with rfl | rfl | rfl <;> rfl

set_option maxRecDepth 100000 in
set_option maxHeartbeats 4000000 in
theorem moments_any {ns : List Nd} {R : Nat} (hG : Good ns (R : Int) (orderB ns)) {gv : List Gv} (hgv : GvOk ns gv) (ga va : Option Addr) (gc vc : Nat) (w : World) (hn : NodesAt w ga ns) (hv : GvAt w va gv) (hR4 : R ≤ 4) :
    Calls Try.prog 103 #[.agg #[.slice ga ns.length gc, .int .i64 (R : Int)], .slice va gv.length vc] w fun en w' =>
      ∃ v ms, en = .returned v ∧ MosAt w w' v ns.length ms ∧ MosOk ns gv ms (timesUp R 6) ∧ Bw w w' := by
  have hl := wfB_len hG.wf
  have hmk := make_row ns.length (by omega)
  go_enter Try.func103, Try.ntmps103
  go_wp2_with fail
  refine (order_any ns _ _ _ _ (hn.below (by repeat (first | exact Bw.refl _ | assumption | refine Bw.drew ?_ | refine Bw.drewN ?_ _ | refine Bw.alloc ?_ _ | refine Bw.trans ?_ (by assumption)))) hl.2).mono ?_
  rintro en w1 ⟨v, rfl, ho, hB1⟩
  obtain ⟨qa, qc, rfl, hqc⟩ := ho.slice
  have hqi := ho.ints.1
  obtain ⟨x0, x1⟩ : w1.cell? ⟨w.heap.size, 0, none⟩ = some (.slice ga ns.length gc) ∧ w1.cell? ⟨w.heap.size, 1, none⟩ = some (.int .i64 (R : Int)) := by
    obtain ⟨q1, q2⟩ := bcell hB1
    exact ⟨(q1 _ _ (by simp)).trans (by simp), (q1 _ _ (by simp)).trans (by simp)⟩
  have gz1 : w.heap.size < w1.heap.size := by have := hB1.size; simp at this; omega
  have hBw1 : Bw w w1 := (by repeat (first | exact Bw.refl _ | assumption | refine Bw.drew ?_ | refine Bw.drewN ?_ _ | refine Bw.alloc ?_ _ | refine Bw.trans ?_ (by assumption)))
  go_wp2_with fail
  go_loopw [6, 7] (fun v i wr => ∃ (e : Nat) (ms : List Mo), e ≤ 6 ∧ i = .int .i64 e ∧ MosAt w1 wr v ns.length ms ∧ MosOk ns gv ms (timesUp R e) ∧ Bw w1 wr) (fun _ i _ => 6 - (intOf i).toNat)
  case atStart => exact ⟨0, [], by omega, rfl, MosAt.nil _ _ _, ⟨rfl, by simp⟩, Bw.refl _⟩
  case round =>
    obtain ⟨e, ms, he, rfl, hM, hO, hB⟩ := hrel
    obtain ⟨q1, q2⟩ := bcell hB
    have gz2 := hB.size
    by_cases hlt : e < 6
    · have hd : decide ((e : Int) ≤ 5) = true := by simp; omega
      go_wp2_with fail
      rename World => wo
      go_loopw [6, 8, 9] (fun v ah i wi => ∃ (s : Nat) (ms : List Mo) (g' : Nat) (P : Nat → List Int), s ≤ R ∧ i = .int .i64 s ∧ ah = .slice (some ⟨g', 0, none⟩) ns.length ns.length ∧ RowAt w1 wi g' ns.length P ∧ (∀ a, a < ns.length → (P a).Perm (prevS (valS ns gv e) s a)) ∧ MosAt w1 wi v ns.length ms ∧ MosOk ns gv ms (timesUp R e ++ timesIn e s) ∧ Bw w1 wi) (fun _ _ i _ => R - (intOf i).toNat)
      case atStart => exact ⟨0, ms, _, _, Nat.zero_le _, rfl, rfl, rowAt_made (by simp), fun a _ => List.Perm.refl _, hM.bw (by repeat (first | exact Bw.refl _ | assumption | refine Bw.drew ?_ | refine Bw.drewN ?_ _ | refine Bw.alloc ?_ _ | refine Bw.trans ?_ (by assumption))), by rw [show timesIn e 0 = [] from rfl, List.append_nil]; exact hO, (by repeat (first | exact Bw.refl _ | assumption | refine Bw.drew ?_ | refine Bw.drewN ?_ _ | refine Bw.alloc ?_ _ | refine Bw.trans ?_ (by assumption)))⟩
      case round =>
        obtain ⟨s, ms2, g', P, hs, rfl, rfl, hRow, hP, hM2, hO2, hB2⟩ := hrel
        have x0' : wr.cell? ⟨w.heap.size, 0, none⟩ = some (.slice ga ns.length gc) := ((bcell hB2).1 _ _ gz1).trans x0
        have x1' : wr.cell? ⟨w.heap.size, 1, none⟩ = some (.int .i64 (R : Int)) := ((bcell hB2).1 _ _ gz1).trans x1
        have gz3 : w.heap.size < wr.heap.size := by have := hB2.size; omega
        clear q1 q2
        by_cases hlt2 : s < R
        · have hlen : ms2.length + 1 ≤ 1000000000 := by
            have := hO2.len
            rw [List.length_append, timesUp_len, timesIn_len] at this
            have : e * R ≤ 6 * 4 := Nat.mul_le_mul (by omega) hR4
            omega
          have Hms := hide hlen
          clear hlen
          go_wp2_with fail
          refine (outAt_any hG hgv ga qa va gc qc vc g' _ e s P w1 _ (by repeat (first | exact Bw.refl _ | assumption | refine Bw.drew ?_ | refine Bw.drewN ?_ _ | refine Bw.alloc ?_ _ | refine Bw.trans ?_ (by assumption))) (hn.below (by repeat (first | exact Bw.refl _ | assumption | refine Bw.drew ?_ | refine Bw.drewN ?_ _ | refine Bw.alloc ?_ _ | refine Bw.trans ?_ (by assumption)))) (hqi.below (by repeat (first | exact Bw.refl _ | assumption | refine Bw.drew ?_ | refine Bw.drewN ?_ _ | refine Bw.alloc ?_ _ | refine Bw.trans ?_ (by assumption)))) (hv.below (by repeat (first | exact Bw.refl _ | assumption | refine Bw.drew ?_ | refine Bw.drewN ?_ _ | refine Bw.alloc ?_ _ | refine Bw.trans ?_ (by assumption)))) (hRow.bw (by repeat (first | exact Bw.refl _ | assumption | refine Bw.drew ?_ | refine Bw.drewN ?_ _ | refine Bw.alloc ?_ _ | refine Bw.trans ?_ (by assumption)))) (by omega) hP).mono ?_
          rintro en w2 ⟨g, F, rfl, hRow2, hF, hB3⟩
          have y0 : w2.cell? ⟨wr.heap.size, 0, none⟩ = some (.int .i64 (e : Int)) := ((bcell hB3).1 _ _ (by simp)).trans (by simp)
          have y1 : w2.cell? ⟨wr.heap.size, 1, none⟩ = some (.int .i64 (s : Int)) := ((bcell hB3).1 _ _ (by simp)).trans (by simp)
          have gz4 : wr.heap.size < w2.heap.size := by have := hB3.size; simp at this; omega
          have Hg2 : Hid (Bw wr w2) := hide (by repeat (first | exact Bw.refl _ | assumption | refine Bw.drew ?_ | refine Bw.drewN ?_ _ | refine Bw.alloc ?_ _ | refine Bw.trans ?_ (by assumption)))
          have hM3 := hM2.bw (unhide Hg2)
          have HF := hide hF
          clear hF
          go_wp2_with (at_builtin; refine appT _ rfl _ _ _ 206 rfl _ 3 40 Try.infoMoment Try.underlying175 rfl (by decide) w1.heap.size _ ms2.length (mosCells ns.length ms2) rfl (hM3.bw (by repeat (first | exact Bw.refl _ | assumption | refine Bw.drew ?_ | refine Bw.drewN ?_ _ | refine Bw.alloc ?_ _ | refine Bw.trans ?_ (by assumption)))).own _ _ (moCells ns.length ⟨e, s, g, F⟩) rfl rfl (cells3 (by simp) (by simp) (by simp)) (moCells_one _ _) (unhide Hms) (by omega) (Bw.size (by repeat (first | exact Bw.refl _ | assumption | refine Bw.drew ?_ | refine Bw.drewN ?_ _ | refine Bw.alloc ?_ _ | refine Bw.trans ?_ (by assumption)))) ?_; intro v' w3 hown1 hgr1)
          go_roundw
          case rel => exact ⟨s + 1, ms2 ++ [⟨e, s, g, F⟩], g, F, by omega, by go_num, rfl, (hRow2.bw (by repeat (first | exact Bw.refl _ | assumption | refine Bw.drew ?_ | refine Bw.drewN ?_ _ | refine Bw.alloc ?_ _ | refine Bw.trans ?_ (by assumption)))).grown (hM3.bw (by repeat (first | exact Bw.refl _ | assumption | refine Bw.drew ?_ | refine Bw.drewN ?_ _ | refine Bw.alloc ?_ _ | refine Bw.trans ?_ (by assumption)))).own hgr1 (by decide) (by decide), unhide HF, (hM3.bw (by repeat (first | exact Bw.refl _ | assumption | refine Bw.drew ?_ | refine Bw.drewN ?_ _ | refine Bw.alloc ?_ _ | refine Bw.trans ?_ (by assumption)))).grow (hRow2.bw (by repeat (first | exact Bw.refl _ | assumption | refine Bw.drew ?_ | refine Bw.drewN ?_ _ | refine Bw.alloc ?_ _ | refine Bw.trans ?_ (by assumption)))) hown1 hgr1, by rw [show timesIn e (s + 1) = timesIn e s ++ [(e, s)] from rfl, ← List.append_assoc]; exact hO2.snoc (unhide HF), Bw.grown (by repeat (first | exact Bw.refl _ | assumption | refine Bw.drew ?_ | refine Bw.drewN ?_ _ | refine Bw.alloc ?_ _ | refine Bw.trans ?_ (by assumption))) (hM3.bw (by repeat (first | exact Bw.refl _ | assumption | refine Bw.drew ?_ | refine Bw.drewN ?_ _ | refine Bw.alloc ?_ _ | refine Bw.trans ?_ (by assumption)))).own hgr1 (Nat.le_refl _)⟩
          case measure => simp [intOf]; omega
        · have hss : s = R := by omega
          subst hss
          go_wp2_with fail
          go_roundw
          case rel => exact ⟨e + 1, ms2, by omega, by go_num, hM2, hO2, hB2⟩
          case measure => simp [intOf]; omega
    · have hee : e = 6 := by omega
      subst hee
      go_wp2_with fail
      go_ret
      exact ⟨_, ms, rfl, hM.weaken hBw1, hO, (by repeat (first | exact Bw.refl _ | assumption | refine Bw.drew ?_ | refine Bw.drewN ?_ _ | refine Bw.alloc ?_ _ | refine Bw.trans ?_ (by assumption)))⟩
end Go.Proofs.Ytfemleimkbjehaa
