import Derived.Test.YtfemleimkbjehaaCheck
namespace Go.Proofs.Ytfemleimkbjehaa
open Go.RowKit

def inputsL (x : Nd) : List Int := if x.kind == 0 then [] else if x.kind == 3 then [x.a, x.b] else [x.a]

theorem own_two {W w : World} (m n : Int) (hB : Bw W w) : Own W (w.alloc (.cells #[.int .i64 m, .int .i64 n] 3)) (.slice (some ⟨w.heap.size, 0, none⟩) 2 2) [m, n] :=
  ⟨rfl, .inr ⟨w.heap.size, 2, #[.int .i64 m, .int .i64 n], rfl, hB.size, heap_alloc_new w _, Nat.le_refl _, by unfold maxLen; omega, rfl, rfl⟩⟩

theorem own_two' {W w : World} {g : Nat} (m n : Int) (hg : g = w.heap.size) (hB : Bw W w) : Own W (w.alloc (.cells #[.int .i64 m, .int .i64 n] 3)) (.slice (some ⟨g, 0, none⟩) 2 2) [m, n] := by
  subst hg; exact own_two m n hB
theorem own_one' {W w : World} {g : Nat} (n : Int) (hg : g = w.heap.size) (hB : Bw W w) : Own W (w.alloc (.cells #[.int .i64 n] 3)) (.slice (some ⟨g, 0, none⟩) 1 1) [n] := by
  subst hg; exact own_one n hB

theorem inputsL_0 {x : Nd} (h : (x.kind == 0) = true) : inputsL x = [] := by simp [inputsL, h]
theorem inputsL_3 {x : Nd} (h : x.kind = 3) : inputsL x = [x.a, x.b] := by simp [inputsL, h]
theorem inputsL_1 {x : Nd} (h : x.kind ≠ 0) (h3 : x.kind ≠ 3) : inputsL x = [x.a] := by simp [inputsL, h, h3]

set_option maxHeartbeats 1000000 in
theorem inputs_any (x : Nd) (w : World) :
    Calls Try.prog 98 #[x.val] w fun e w' => ∃ v, e = .returned v ∧ Own w w' v (inputsL x) ∧ Bw w w' := by
  unfold Nd.val
  by_cases h0 : x.kind = 0
  · have h0' : (x.kind == 0) = true := by simp [h0]
    have H0 := hide (inputsL_0 h0')
    clear h0
    go_enter Try.func98, Try.ntmps98
    go_wp2
    go_ret
    exact ⟨_, rfl, by rw [unhide H0]; exact Own.nil _ _, (by repeat (first | exact Bw.refl _ | assumption | refine Bw.drew ?_ | refine Bw.drewN ?_ _ | refine Bw.alloc ?_ _ | refine Bw.trans ?_ (by assumption)))⟩
  · by_cases h3 : x.kind = 3
    · have H3 := hide (inputsL_3 h3)
      go_enter Try.func98, Try.ntmps98
      go_wp2
      go_ret
      exact ⟨_, rfl, by rw [unhide H3]; refine own_two' _ _ (by simp) ?_; exact (by repeat (first | exact Bw.refl _ | assumption | refine Bw.drew ?_ | refine Bw.drewN ?_ _ | refine Bw.alloc ?_ _ | refine Bw.trans ?_ (by assumption))), (by repeat (first | exact Bw.refl _ | assumption | refine Bw.drew ?_ | refine Bw.drewN ?_ _ | refine Bw.alloc ?_ _ | refine Bw.trans ?_ (by assumption)))⟩
    · have H1 := hide (inputsL_1 h0 h3)
      go_enter Try.func98, Try.ntmps98
      go_wp2
      go_ret
      exact ⟨_, rfl, by rw [unhide H1]; refine own_one' _ (by simp) ?_; exact (by repeat (first | exact Bw.refl _ | assumption | refine Bw.drew ?_ | refine Bw.drewN ?_ _ | refine Bw.alloc ?_ _ | refine Bw.trans ?_ (by assumption))), (by repeat (first | exact Bw.refl _ | assumption | refine Bw.drew ?_ | refine Bw.drewN ?_ _ | refine Bw.alloc ?_ _ | refine Bw.trans ?_ (by assumption)))⟩

theorem inputsL_len (x : Nd) : (inputsL x).length ≤ 2 := by unfold inputsL; split <;> (try split) <;> simp
theorem takesB_inputs (x : Nd) (n : Int) : takesB x n = hasB (inputsL x) n := by
  by_cases h0 : x.kind = 0
  · rw [inputsL_0 (by simp [h0])]; simp [takesB, hasB, h0]
  · by_cases h3 : x.kind = 3
    · rw [inputsL_3 h3, Bool.eq_iff_iff]; simp [takesB, hasB, h3]; constructor <;> (rintro (h | h) <;> simp [h])
    · rw [inputsL_1 h0 h3, Bool.eq_iff_iff]; simp [takesB, hasB, h0, h3]; constructor <;> (intro h; simp [h])

set_option maxHeartbeats 1000000 in
theorem rtakes_any (x : Nd) (n : Int) (w : World) :
    Calls Try.prog 71 #[x.val, .int .i64 n] w fun e w' => e = .returned (.bool (takesB x n)) ∧ Bw w w' := by
  have HT := hide (takesB_inputs x n)
  have hil := inputsL_len x
  unfold Nd.val
  go_enter Try.func71, Try.ntmps71
  go_wp2_with (go_at_call 98; refine (inputs_any x _).mono ?_; rintro e w' ⟨v, rfl, hown, hbl⟩; obtain ⟨la, lc, rfl, hx, hml⟩ := hown.form; clear hown)
  go_loop [6] (fun i => ∃ k : Nat, k ≤ (inputsL x).length ∧ i = .int .i64 k ∧ ∀ j, j < k → (nth (inputsL x) j == n) = false) (fun i => (inputsL x).length - (intOf i).toNat)
  case atStart => exact ⟨0, Nat.zero_le _, rfl, fun j hj => absurd hj (Nat.not_lt_zero j)⟩
  case round =>
    obtain ⟨k, hk, rfl, hno⟩ := hrel
    have Hno := hide hno
    clear hno
    by_cases hlt : k < (inputsL x).length
    · obtain ⟨b, off, rfl, hb, hc⟩ := hx k hlt
      have hc1 := hc k hlt
      clear hc
      go_wp2
      · go_ret
        exact ⟨ret_bool (by rw [unhide HT, hasB_yes hlt (by assumption)]), (by repeat (first | exact Bw.refl _ | assumption | refine Bw.drew ?_ | refine Bw.drewN ?_ _ | refine Bw.alloc ?_ _ | refine Bw.trans ?_ (by assumption)))⟩
      · go_round
        case rel => exact ⟨k + 1, by omega, by go_num, all_snoc (unhide Hno) (by assumption)⟩
        case measure => simp [intOf]; omega
    · go_wp2
      go_ret
      exact ⟨ret_bool (by rw [unhide HT, hasB_no fun j hj => (unhide Hno) j (by omega)]), (by repeat (first | exact Bw.refl _ | assumption | refine Bw.drew ?_ | refine Bw.drewN ?_ _ | refine Bw.alloc ?_ _ | refine Bw.trans ?_ (by assumption)))⟩
end Go.Proofs.Ytfemleimkbjehaa
