import Derived.Test.YtfemleimkbjehaaDist2
namespace Go.Proofs.Ytfemleimkbjehaa
open Go.RowKit

theorem Low.mono {c d : Int} {fr : List Int} (h : Low c fr) (hcd : c ≤ d) : Low d fr := fun j hj => ⟨(h j hj).1, by have := (h j hj).2; omega⟩

set_option maxRecDepth 100000 in
set_option maxHeartbeats 4000000 in
theorem distFrom_any (ns : List Nd) (ga : Option Addr) (gc : Nat) (r n : Int) (w : World) (hn : NodesAt w ga ns) (h1 : 1 ≤ ns.length) (h8 : ns.length ≤ 8) :
    Calls Try.prog 75 #[.agg #[.slice ga ns.length gc, .int .i64 r], .int .i64 n] w fun e w' => ∃ v, e = .returned v ∧ Own w w' v (distL ns n (ns.length - 1)) ∧ Bw w w' := by
  go_enter Try.func75, Try.ntmps75
  go_wp2_with fail
  refine (oneStep_any ns _ _ _ _ _ (hn.below (by repeat (first | exact Bw.refl _ | assumption | refine Bw.drew ?_ | refine Bw.drewN ?_ _ | refine Bw.alloc ?_ _ | refine Bw.trans ?_ (by assumption)))) h8).mono ?_
  rintro e w1 ⟨v, rfl, hown, hbl⟩
  have hB1 : Bw (w.alloc (.cells #[.slice ga ns.length gc, .int .i64 r] 24)) w1 := (by repeat (first | exact Bw.refl _ | assumption | refine Bw.drew ?_ | refine Bw.drewN ?_ _ | refine Bw.alloc ?_ _ | refine Bw.trans ?_ (by assumption)))
  have hown1 : Own (w.alloc (.cells #[.slice ga ns.length gc, .int .i64 r] 24)) w1 v (distL ns n 0) := hown.weaken (by repeat (first | exact Bw.refl _ | assumption | refine Bw.drew ?_ | refine Bw.drewN ?_ _ | refine Bw.alloc ?_ _ | refine Bw.trans ?_ (by assumption)))
  clear hown
  go_wp2_with fail
  go_loopw [5, 6] (fun v i wr => ∃ s : Nat, s + 1 ≤ ns.length ∧ i = .int .i64 ((s : Int) + 1) ∧ Own (w.alloc (.cells #[.slice ga ns.length gc, .int .i64 r] 24)) wr v (distL ns n s) ∧ Bw (w.alloc (.cells #[.slice ga ns.length gc, .int .i64 r] 24)) wr) (fun _ i _ => ns.length - (intOf i).toNat)
  case atStart => exact ⟨0, by omega, rfl, hown1, hB1⟩
  case round =>
    clear hown1 hB1
    obtain ⟨s, hs, rfl, hown, hB⟩ := hrel
    obtain ⟨gcc, gff⟩ := bcell hB
    have gz : w.heap.size < wr.heap.size := by have := hB.size; simp at this; omega
    obtain ⟨fa, fc, rfl, hfx, hfm⟩ := hown.form
    have Hdl := hide (distL_len ns n s)
    by_cases hlt : s + 1 < ns.length
    · have hlow := (distL_low ns n s).mono (d := 8) (by omega)
      go_wp2_with (go_at_call 101; refine (oneMore_any ns _ _ _ (distL ns n s) _ _ _ (hn.below (by repeat (first | exact Bw.refl _ | assumption | refine Bw.drew ?_ | refine Bw.drewN ?_ _ | refine Bw.alloc ?_ _ | refine Bw.trans ?_ (by assumption)))) hfx h8 (by rw [unhide Hdl]; exact Nat.le_refl _) hlow).mono ?_; rintro e w2 ⟨v2, rfl, hown2, hbl2⟩)
      go_roundw
      case rel => exact ⟨s + 1, by omega, by go_num, hown2.weaken (by repeat (first | exact Bw.refl _ | assumption | refine Bw.drew ?_ | refine Bw.drewN ?_ _ | refine Bw.alloc ?_ _ | refine Bw.trans ?_ (by assumption))), (by repeat (first | exact Bw.refl _ | assumption | refine Bw.drew ?_ | refine Bw.drewN ?_ _ | refine Bw.alloc ?_ _ | refine Bw.trans ?_ (by assumption)))⟩
      case measure => simp [intOf]; omega
    · have hss : s = ns.length - 1 := by omega
      subst hss
      go_wp2_with fail
      go_ret
      exact ⟨_, rfl, hown.weaken (by repeat (first | exact Bw.refl _ | assumption | refine Bw.drew ?_ | refine Bw.drewN ?_ _ | refine Bw.alloc ?_ _ | refine Bw.trans ?_ (by assumption))), (by repeat (first | exact Bw.refl _ | assumption | refine Bw.drew ?_ | refine Bw.drewN ?_ _ | refine Bw.alloc ?_ _ | refine Bw.trans ?_ (by assumption)))⟩
end Go.Proofs.Ytfemleimkbjehaa
