import Derived.Test.YtfemleimkbjehaaPureD
import Derived.Test.YtfemleimkbjehaaOpen
namespace Go.Proofs.Ytfemleimkbjehaa
open Go.ChangeShapes Go.WideShapes Go.ChangeAt Go.RowKit Go.Joins Go.Deep

theorem distance_ex (ga : Option Addr) (gc : Nat) (n x : Int) (w : World) (hn : NodesAt w ga exNs) :
    Calls Try.prog 14 #[.agg #[.slice ga 7 gc, .int .i64 3], .int .i64 n, .int .i64 x] w fun e w' => e = .returned (.bool true) ∧ Bw w w' :=
  distance_any exNs ga gc 3 n x w hn (by decide) (dist_same _ _ _ _)

set_option maxRecDepth 100000 in
set_option maxHeartbeats 2000000 in
theorem distances_any (ns : List Nd) (ga : Option Addr) (gc : Nat) (r n x : Int) (w : World) (hn : NodesAt w ga ns) (hl : ns.length * 40 ≤ 140737488351232) :
    Calls Try.prog 4 #[.agg #[.slice ga ns.length gc, .int .i64 r], .int .i64 n, .int .i64 x] w fun e w' => e = .returned (.bool true) ∧ Bw w w' := by
  go_enter Try.func4, Try.ntmps4
  go_wp2_with fail
  refine (example_any _).mono ?_
  rintro e w1 ⟨g1, rfl, hg1, hb1, hB1⟩
  have hn1 := nodesAt_of_cells (Array.getElem?_eq_some_iff.1 hb1).1 (nodeCells_of_block hb1)
  clear hb1
  go_wp2_with fail
  refine (distance_ex _ _ _ _ _ hn1).mono ?_
  rintro e w2 ⟨rfl, hB2⟩
  have hBa : Bw (w.alloc (.cells #[.slice ga ns.length gc, .int .i64 r] 24)) w2 := (by repeat (first | exact Bw.refl _ | assumption | refine Bw.drew ?_ | refine Bw.drewN ?_ _ | refine Bw.alloc ?_ _ | refine Bw.trans ?_ (by assumption)))
  obtain ⟨q1, q2⟩ := bcell hBa
  clear hB1 hB2 hn1 hg1
  go_wp2_with fail
  refine (distance_any ns _ _ _ _ _ _ (hn.below (by repeat (first | exact Bw.refl _ | assumption | refine Bw.drew ?_ | refine Bw.drewN ?_ _ | refine Bw.alloc ?_ _ | refine Bw.trans ?_ (by assumption)))) hl (dist_same _ _ _ _)).mono ?_
  rintro e w3 ⟨rfl, hB3⟩
  have hBb : Bw (w.alloc (.cells #[.slice ga ns.length gc, .int .i64 r] 24)) w3 := (by repeat (first | exact Bw.refl _ | assumption | refine Bw.drew ?_ | refine Bw.drewN ?_ _ | refine Bw.alloc ?_ _ | refine Bw.trans ?_ (by assumption)))
  clear q1 q2 hBa hB3
  go_wp2_with fail
  go_loopw [8, 9] (fun v i wr => ∃ k : Nat, k ≤ ns.length ∧ k ≤ 8 ∧ i = .int .i64 k ∧ v = .bool true ∧ Bw (w.alloc (.cells #[.slice ga ns.length gc, .int .i64 r] 24)) wr) (fun _ i _ => 8 - (intOf i).toNat)
  case atStart => exact ⟨0, Nat.zero_le _, by omega, rfl, rfl, hBb⟩
  case round =>
    clear hBb
    obtain ⟨k, hk, hk8, rfl, rfl, hB⟩ := hrel
    obtain ⟨q1, q2⟩ := bcell hB
    have gz : w.heap.size < wr.heap.size := by have := hB.size; simp at this; omega
    by_cases hlt : k < ns.length
    · by_cases hlt8 : k < 8
      · rename World => wo
        have hd1 : decide ((k : Int) < 8) = true := by simp; omega
        have hd2 : decide (k < ns.length) = true := by simp; omega
        have hd3 : decide (k < 8) = true := by simp; omega
        go_wp2_with fail
        go_loopw [8, 10] (fun v i wi => ∃ j : Nat, j ≤ ns.length ∧ j ≤ 8 ∧ i = .int .i64 j ∧ v = .bool true ∧ Bw (w.alloc (.cells #[.slice ga ns.length gc, .int .i64 r] 24)) wi) (fun _ i _ => 8 - (intOf i).toNat)
        case atStart => exact ⟨0, Nat.zero_le _, by omega, rfl, rfl, hB⟩
        case round =>
          clear hB q1 q2 gz
          obtain ⟨j, hj, hj8, rfl, rfl, hB⟩ := hrel
          obtain ⟨q1, q2⟩ := bcell hB
          have gz : w.heap.size < wr.heap.size := by have := hB.size; simp at this; omega
          by_cases hjl : j < ns.length
          · by_cases hjl8 : j < 8
            · go_wp2_with (go_at_call 14; refine (distance_any ns _ _ _ _ _ _ (hn.below (by repeat (first | exact Bw.refl _ | assumption | refine Bw.drew ?_ | refine Bw.drewN ?_ _ | refine Bw.alloc ?_ _ | refine Bw.trans ?_ (by assumption)))) hl (dist_same _ _ _ _)).mono ?_; rintro e w' ⟨rfl, hbl⟩)
              go_roundw
              case rel => exact ⟨j + 1, by omega, by omega, by go_num, rfl, (by repeat (first | exact Bw.refl _ | assumption | refine Bw.drew ?_ | refine Bw.drewN ?_ _ | refine Bw.alloc ?_ _ | refine Bw.trans ?_ (by assumption)))⟩
              case measure => simp [intOf]; omega
            · go_wp2_with fail
              go_roundw
              case rel => exact ⟨k + 1, by omega, by omega, by go_num, rfl, hB⟩
              case measure => simp [intOf]; omega
          · go_wp2_with fail
            go_roundw
            case rel => exact ⟨k + 1, by omega, by omega, by go_num, rfl, hB⟩
            case measure => simp [intOf]; omega
      · go_wp2_with fail
        go_ret
        exact ⟨rfl, (by repeat (first | exact Bw.refl _ | assumption | refine Bw.drew ?_ | refine Bw.drewN ?_ _ | refine Bw.alloc ?_ _ | refine Bw.trans ?_ (by assumption)))⟩
    · go_wp2_with fail
      go_ret
      exact ⟨rfl, (by repeat (first | exact Bw.refl _ | assumption | refine Bw.drew ?_ | refine Bw.drewN ?_ _ | refine Bw.alloc ?_ _ | refine Bw.trans ?_ (by assumption)))⟩

set_option maxRecDepth 100000 in
theorem distances_lifted (os : Os) (started : os.Started) (H : Type) (enc : TypeId × Value → H) :
    ReturnsInHanded {} Try.checked os 4 .any (Rows.distancesSpec.pre6 enc Try.prog Try.f4 Rows.distancesRow.domain false) (Rows.distancesSpec.post enc Try.prog Try.f4 false true false false) := by
  refine returnsInHanded_of_change_sized (C := Try.checked) Try.own started (by kernel_rfl) Try.func4
    (ChangeSpec.witness6 (enc := enc) (C := Try.checked) false ⟨#[], #[.agg #[.slice none 0 0, .int .i64 0], .int .i64 0, .int .i64 0], []⟩ 8 (by kernel_rfl) (by kernel_rfl) (by kernel_rfl) (by kernel_rfl)) ?_
  intro W base args ds gs before hval0 hW _ hsz0 _
  have hsz : (DataW.weightsEach Try.prog (Try.f4.params.toList ++ Rows.distancesSpec.plain.varTypes Try.prog) (ds ++ gs)).all (· ≤ reachBytes) = true := hsz0
  clear hsz0
  have hval : ∀ (j : Nat) t v, Try.f4.params[j]? = some t → args[j]? = some v → Value.okWide Try.prog W .any base t v := hval0
  have hW' := hW
  obtain ⟨p, q, hA0, hV, rfl, _, _⟩ := hW
  have hA : DataW.TrodAll enc Try.prog W 0 (fun _ => true) true Try.f4.params.toList args.toList ds p := hA0
  rw [Try.params4] at hA hval hsz
  obtain ⟨v0, v1, v2, d0, d1, d2, p0, p1, p2, rfl, rfl, rfl, h0, h1, h2⟩ := trodAll_three hA
  obtain ⟨rfl, rfl⟩ := trodVars_none hV
  have h0k := h0
  obtain ⟨n, rfl, rfl, rfl, wn⟩ := open_int Try.underlying3 (hval 1 3 v1 rfl rfl) h1
  obtain ⟨x, rfl, rfl, rfl, wx⟩ := open_int Try.underlying3 (hval 2 3 v2 rfl rfl) h2
  obtain ⟨ga, ns, gc, rr, rfl, hn, hsize⟩ := open_graph (hval 0 24 v0 rfl rfl) h0
  have hl := hsize _ _ 0 hsz rfl rfl
  clear hA0 hval0
  simp only [List.append_nil] at hW'
  have hlt : ∀ x ∈ p0, x.block < W.heap.size := fun x hx => by simpa using hW'.lt x (by simpa using hx)
  refine (distances_any ns ga gc rr n x W hn hl).mono fun e W' ⟨he, hb⟩ => ?_
  subst he
  refine ⟨_, rfl, _, _, _, [], p0, [], hW', ?_, ?_, rfl, Below.frame hb _, fun h => by cases h⟩
  · exact trodAll_mk1 (shut_bool Try.underlying4 true)
  · have := trodAll_mk3 (Below.trod Try.laidOut (by kernel_rfl) (of_decide_eq_true (by kernel_rfl)) h0k hb hlt) (shut_int (enc := enc) (w := W') (base := 0) (spare := fun b => decide (b < W.heap.size)) (held := true) Try.underlying3 wn) (shut_int Try.underlying3 wx)
    have this' : DataW.TrodAll enc Try.prog W' 0 (fun b => decide (b < W.heap.size)) true [24, 3, 3] [.agg #[.slice ga ns.length gc, .int .i64 rr], .int .i64 n, .int .i64 x] [d0, .lit (.int .i64 n), .lit (.int .i64 x)] p0 := by simpa using this
    exact this'

theorem distances_holds : Rows.DistancesSaid :=
  OpenClaim.holds_of_wide 4 Try.f4 rfl rfl rfl rfl rfl rfl rfl ⟨rfl, rfl, rfl, rfl, rfl⟩ rfl rfl rfl rfl rfl (by kernel_rfl) Try.func4 (by kernel_rfl)
    (of_decide_eq_true (by kernel_rfl)) (by unfold Func.isWrapper; rw [if_neg (of_decide_eq_false (by kernel_rfl))]; exact ⟨rfl, rfl⟩)
    (fun os started H enc _ => distances_lifted os started H enc)
end Go.Proofs.Ytfemleimkbjehaa
