import Derived.Test.YtfemleimkbjehaaPureB
namespace Go.Proofs.Ytfemleimkbjehaa
open Go.RowKit

theorem take_len_le {l : List Int} {i : Nat} (h : i ≤ l.length) : (l.take i).length = i := by simp; omega
theorem nth_take {l : List Int} {i j : Nat} (hj : j < i) (h : i ≤ l.length) : nth (l.take i) j = nth l j := by
  rw [nth_lt (by simp; omega), nth_lt (by omega)]; simp
theorem has_yes {l : List Int} {v : Int} {i k : Nat} (hk : k < i) (hi : i ≤ l.length) (h : (nth l k == v) = true) : hasB (l.take i) v = true :=
  hasB_yes (k := k) (by rw [take_len_le hi]; exact hk) (by rw [nth_take hk hi]; exact h)
theorem has_no {l : List Int} {v : Int} {i : Nat} (hi : i ≤ l.length) (h : ∀ j, j < i → (nth l j == v) = false) : hasB (l.take i) v = false :=
  hasB_no fun j hj => by rw [take_len_le hi] at hj; rw [nth_take hj hi]; exact h j hj

set_option maxHeartbeats 1000000 in
theorem has_any (l : List Int) (v : Int) (i : Nat) (ad : Option Addr) (cap : Nat) (w : World) (hx : IntsAt w ad l) (hi : i ≤ l.length) (hl : l.length ≤ 1000000) :
    Calls Try.prog 134 #[.slice ad l.length cap, .int .i64 v, .int .i64 (i : Int)] w fun e w' => e = .returned (.bool (hasB (l.take i) v)) ∧ w' = w := by
  have Hy : Hid (∀ k, k < i → (nth l k == v) = true → hasB (l.take i) v = true) := hide (fun k a b => has_yes a hi b)
  have Hn := hide (@has_no l v i hi)
  go_enter Try.func134, Try.ntmps134
  go_wp2
  go_loop [7] (fun x => ∃ k : Nat, k ≤ i ∧ x = .int .i64 k ∧ ∀ j, j < k → (nth l j == v) = false) (fun x => i - (intOf x).toNat)
  case atStart => exact ⟨0, Nat.zero_le _, rfl, fun j hj => absurd hj (Nat.not_lt_zero j)⟩
  case round =>
    obtain ⟨k, hk, rfl, hno⟩ := hrel
    have Hno := hide hno
    clear hno
    by_cases hlt : k < i
    · obtain ⟨b, off, rfl, hb, hc⟩ := hx k (by omega)
      have hc1 := hc k (by omega)
      have hkl : k < l.length := by omega
      clear hc
      cases h1 : (nth l k == v) with
      | true =>
        go_wp2_with fail
        go_ret
        exact ⟨ret_bool ((unhide Hy) k hlt h1).symm, rfl⟩
      | false =>
        go_wp2_with fail
        go_round
        case rel => exact ⟨k + 1, by omega, by go_num, all_snoc (unhide Hno) h1⟩
        case measure => simp [intOf]; omega
    · go_wp2
      go_ret
      exact ⟨ret_bool ((unhide Hn) fun j hj => (unhide Hno) j (by omega)).symm, rfl⟩

set_option maxHeartbeats 1000000 in
theorem addend_any (x : Nd) (w : World) : Calls Try.prog 136 #[x.val] w fun e w' => e = .returned (.int .i64 (addB x)) ∧ Bw w w' := by
  unfold Nd.val
  cases h1 : (x.kind == 1) with
  | true =>
    have Ha : Hid (addB x = x.k) := hide (by unfold addB; rw [if_pos h1])
    go_enter Try.func136, Try.ntmps136
    go_wp2
    go_ret
    exact ⟨ret_int (unhide Ha).symm, (by repeat (first | exact Bw.refl _ | assumption | refine Bw.drew ?_ | refine Bw.drewN ?_ _ | refine Bw.alloc ?_ _ | refine Bw.trans ?_ (by assumption)))⟩
  | false =>
    have Ha : Hid (addB x = 0) := hide (by unfold addB; rw [if_neg (by rw [h1]; decide)])
    go_enter Try.func136, Try.ntmps136
    go_wp2
    go_ret
    exact ⟨ret_int (unhide Ha).symm, (by repeat (first | exact Bw.refl _ | assumption | refine Bw.drew ?_ | refine Bw.drewN ?_ _ | refine Bw.alloc ?_ _ | refine Bw.trans ?_ (by assumption)))⟩

def gcntTo (xs : List Int) (q : Int) (g : Nat) : Nat → Nat
  | 0 => 0
  | k + 1 => if nth xs k % q == g then gcntTo xs q g k + 1 else gcntTo xs q g k
theorem gcnt_le (xs : List Int) (q : Int) (g k : Nat) : gcntTo xs q g k ≤ k := by
  induction k with
  | zero => simp [gcntTo]
  | succ k ih => unfold gcntTo; split <;> omega
theorem gcnt_met (xs : List Int) (q : Int) (g k : Nat) : gmetTo xs q g k = decide (0 < gcntTo xs q g k) := by
  induction k with
  | zero => simp [gcntTo, gmetTo]
  | succ k ih => unfold gcntTo gmetTo; split
                 · simp
                 · exact ih
theorem gcnt_yes {xs : List Int} {q : Int} {g k : Nat} (h : (nth xs k % q == (g : Int)) = true) : gcntTo xs q g (k + 1) = gcntTo xs q g k + 1 ∧ gsumTo xs q g (k + 1) = wrap64 (gsumTo xs q g k + nth xs k) := by simp [gcntTo, gsumTo, h]
theorem gcnt_no {xs : List Int} {q : Int} {g k : Nat} (h : (nth xs k % q == (g : Int)) = false) : gcntTo xs q g (k + 1) = gcntTo xs q g k ∧ gsumTo xs q g (k + 1) = gsumTo xs q g k := by simp [gcntTo, gsumTo, h]

set_option maxRecDepth 100000 in
set_option maxHeartbeats 2000000 in
theorem groups_any (xs : List Int) (q : Int) (ad : Option Addr) (cap : Nat) (w : World) (hx : IntsAt w ad xs) (hl : xs.length ≤ 1000000) (hq1 : 1 ≤ q) (hq8 : q ≤ 8) :
    Calls Try.prog 133 #[.slice ad xs.length cap, .int .i64 q] w fun e w' => ∃ v, e = .returned v ∧ Own w w' v (grpTo xs q q.toNat) ∧ Bw w w' := by
  obtain ⟨qn, rfl⟩ := Int.eq_ofNat_of_zero_le (a := q) (by omega)
  rw [Int.toNat_natCast]
  have hq1' : 1 ≤ qn := by omega
  have hq8' : qn ≤ 8 := by omega
  go_enter Try.func133, Try.ntmps133
  go_wp2_with fail
  go_loopw [5, 6] (fun v i wr => ∃ m : Nat, m ≤ qn ∧ i = .int .i64 m ∧ Own w wr v (grpTo xs qn m) ∧ Bw w wr) (fun _ i _ => qn - (intOf i).toNat)
  case atStart => exact ⟨0, Nat.zero_le _, rfl, Own.nil _ _, Bw.refl _⟩
  case round =>
    obtain ⟨m, hm, rfl, hown, hB⟩ := hrel
    have hln := grpTo_len xs qn m
    by_cases hlt : m < qn
    · go_wp2_with fail
      rename World => w1
      go_loopw [7, 8, 9] (fun c s i wr => ∃ k : Nat, k ≤ xs.length ∧ c = .int .i64 (gcntTo xs qn m k) ∧ s = .int .i64 (gsumTo xs qn m k) ∧ i = .int .i64 k ∧ wr = w1) (fun _ _ i _ => xs.length - (intOf i).toNat)
      case atStart => exact ⟨0, Nat.zero_le _, rfl, rfl, rfl, rfl⟩
      case round =>
        obtain ⟨k, hk, rfl, rfl, rfl, rfl⟩ := hrel
        have hcl := gcnt_le xs qn m k
        by_cases hlt2 : k < xs.length
        · obtain ⟨b, off, rfl, hb, hc⟩ := (hx.below hB) k hlt2
          have hc1 := hc k hlt2
          clear hc
          cases h1 : (nth xs k % (qn : Int) == (m : Int)) with
          | true =>
            obtain ⟨e1, e2⟩ := gcnt_yes h1
            have E1 := hide e1
            have E2 := hide e2
            clear e1 e2
            go_wp2_with (go_at_call 135; refine (rrest_any _ _ _ hq1 (by omega)).mono ?_; rintro e w' ⟨rfl, rfl⟩)
            go_roundw
            case rel => exact ⟨k + 1, by omega, by rw [unhide E1]; go_num, by rw [unhide E2], by go_num, by trivial⟩
            case measure => simp [intOf]; omega
          | false =>
            obtain ⟨e1, e2⟩ := gcnt_no h1
            have E1 := hide e1
            have E2 := hide e2
            clear e1 e2
            go_wp2_with (go_at_call 135; refine (rrest_any _ _ _ hq1 (by omega)).mono ?_; rintro e w' ⟨rfl, rfl⟩)
            go_roundw
            case rel => exact ⟨k + 1, by omega, by rw [unhide E1], by rw [unhide E2], by go_num, by trivial⟩
            case measure => simp [intOf]; omega
        · have hkk : k = xs.length := by omega
          subst hkk
          have Hy := hide (@grp_yes xs qn m)
          have Hn := hide (@grp_no xs qn m)
          have Hm := hide (gcnt_met xs qn m xs.length)
          generalize gcntTo xs qn m xs.length = cn at *
          by_cases hc0 : 0 < cn
          · go_wp2_with (at_builtin; refine app1 _ rfl _ _ rfl _ _ (grpTo xs qn m) rfl (hown.bw (by repeat (first | exact Bw.refl _ | assumption | refine Bw.drew ?_ | refine Bw.drewN ?_ _ | refine Bw.alloc ?_ _ | refine Bw.trans ?_ (by assumption)))) _ _ (gsumTo xs qn m xs.length) rfl (by simp) (by omega) (by repeat (first | exact Bw.refl _ | assumption | refine Bw.drew ?_ | refine Bw.drewN ?_ _ | refine Bw.alloc ?_ _ | refine Bw.trans ?_ (by assumption))) ?_; intro v' w2 hown1 hB3 hgr1)
            go_roundw
            case rel => exact ⟨m + 1, by omega, by go_num, by rw [(unhide Hy) (by rw [unhide Hm]; simpa using hc0)]; exact hown1, hB3⟩
            case measure => simp [intOf]; omega
          · have hcz : cn = 0 := by omega
            subst hcz
            go_wp2_with fail
            go_roundw
            case rel => exact ⟨m + 1, by omega, by go_num, by rw [(unhide Hn) (by rw [unhide Hm]; rfl)]; exact hown, hB⟩
            case measure => simp [intOf]; omega
    · have hmm : m = qn := by omega
      subst hmm
      go_wp2_with fail
      go_ret
      exact ⟨_, rfl, hown, hB⟩

theorem list_ne {xs ys : List Int} {k : Nat} (h : (nth xs k == nth ys k) = false) : (xs == ys) = false := by
  simp at h ⊢
  intro e; subst e; exact h rfl
theorem list_len {xs ys : List Int} (h : xs.length ≠ ys.length) : (xs == ys) = false := by
  simp; intro e; subst e; exact h rfl
theorem list_eq {xs ys : List Int} (hl : xs.length = ys.length) (h : ∀ j, j < xs.length → (nth xs j == nth ys j) = true) : (xs == ys) = true := by
  simp
  refine List.ext_getElem hl fun j h1 h2 => ?_
  have := h j h1
  rw [nth_lt h1, nth_lt h2] at this
  simpa using this

set_option maxHeartbeats 1000000 in
theorem rsame_any (xs ys : List Int) (a1 a2 : Option Addr) (c1 c2 : Nat) (w : World) (h1 : IntsAt w a1 xs) (h2 : IntsAt w a2 ys) (hl : xs.length ≤ 1000000) (_hl2 : ys.length ≤ 1000000) :
    Calls Try.prog 106 #[.slice a1 xs.length c1, .slice a2 ys.length c2] w fun e w' => e = .returned (.bool (xs == ys)) ∧ Bw w w' := by
  by_cases hll : xs.length = ys.length
  · have HL := hide hll
    have Hne : Hid (∀ k, (nth xs k == nth ys k) = false → (xs == ys) = false) := hide (fun k h => list_ne h)
    have Heq := hide (@list_eq xs ys hll)
    rw [← hll]
    have hle : ∀ k, k < xs.length → k < ys.length := fun k h => by omega
    clear hll
    go_enter Try.func106, Try.ntmps106
    go_wp2_with fail
    go_loopw [5] (fun i wr => ∃ k : Nat, k ≤ xs.length ∧ i = .int .i64 k ∧ (∀ j, j < k → (nth xs j == nth ys j) = true) ∧ Bw w wr) (fun i _ => xs.length - (intOf i).toNat)
    case atStart => exact ⟨0, Nat.zero_le _, rfl, fun j hj => absurd hj (Nat.not_lt_zero j), Bw.refl _⟩
    case round =>
      obtain ⟨k, hk, rfl, hno, hB⟩ := hrel
      have Hno := hide hno
      clear hno
      by_cases hlt : k < xs.length
      · obtain ⟨b, off, rfl, hb, hc⟩ := (h1.below hB) k hlt
        obtain ⟨b', off', rfl, hb', hc'⟩ := (h2.below hB) k (hle k hlt)
        have e1 := hc k hlt
        have e2 := hc' k (hle k hlt)
        have hj1 : (0 : Int) ≤ (k : Int) := by omega
        have hj2 : (k : Int) < (xs.length : Int) := by omega
        clear hc hc' hle
        cases hq : (nth xs k == nth ys k) with
        | true =>
          go_wp2_with fail
          go_quiet (fail)
          go_wp2_with fail
          go_roundw
          case rel => exact ⟨k + 1, by omega, by go_num, all_snoc (unhide Hno) hq, (by repeat (first | exact Bw.refl _ | assumption | refine Bw.drew ?_ | refine Bw.drewN ?_ _ | refine Bw.alloc ?_ _ | refine Bw.trans ?_ (by assumption)))⟩
          case measure => simp [intOf]; omega
        | false =>
          go_wp2_with fail
          go_quiet (fail)
          go_wp2_with fail
          go_ret
          exact ⟨ret_bool ((unhide Hne) k hq).symm, (by repeat (first | exact Bw.refl _ | assumption | refine Bw.drew ?_ | refine Bw.drewN ?_ _ | refine Bw.alloc ?_ _ | refine Bw.trans ?_ (by assumption)))⟩
      · go_wp2_with fail
        go_ret
        exact ⟨ret_bool ((unhide Heq) fun j hj => (unhide Hno) j (by omega)).symm, (by repeat (first | exact Bw.refl _ | assumption | refine Bw.drew ?_ | refine Bw.drewN ?_ _ | refine Bw.alloc ?_ _ | refine Bw.trans ?_ (by assumption)))⟩
  · have Hne := hide (list_len hll)
    go_enter Try.func106, Try.ntmps106
    go_wp2_with fail
    go_ret
    exact ⟨ret_bool (unhide Hne).symm, (by repeat (first | exact Bw.refl _ | assumption | refine Bw.drew ?_ | refine Bw.drewN ?_ _ | refine Bw.alloc ?_ _ | refine Bw.trans ?_ (by assumption)))⟩

set_option maxHeartbeats 1000000 in
theorem leastOf_any (l : List Int) (ad : Option Addr) (cap : Nat) (w : World) (hx : IntsAt w ad l) (hl : l.length ≤ 1000000) (hp : 0 < l.length) :
    Calls Try.prog 79 #[.slice ad l.length cap] w fun e w' => ∃ k : Nat, e = .returned (.int .i64 (k : Int)) ∧ k < l.length ∧ (∀ j, j < l.length → nth l k ≤ nth l j) ∧ Bw w w' := by
  go_enter Try.func79, Try.ntmps79
  go_wp2_with fail
  go_loopw [3, 4] (fun kk i wr => ∃ i' k : Nat, 1 ≤ i' ∧ i' ≤ l.length ∧ i = .int .i64 i' ∧ kk = .int .i64 k ∧ k < i' ∧ (∀ j, j < i' → nth l k ≤ nth l j) ∧ Bw w wr) (fun _ i _ => l.length - (intOf i).toNat)
  case atStart => exact ⟨1, 0, by omega, by omega, rfl, rfl, by omega, fun j hj => by rw [show j = 0 by omega]; exact Int.le_refl _, Bw.refl _⟩
  case round =>
    obtain ⟨i, k, hi1, hi, rfl, rfl, hk, hle, hB⟩ := hrel
    have Hle := hide hle
    clear hle
    by_cases hlt : i < l.length
    · obtain ⟨b, off, rfl, hb, hc⟩ := (hx.below hB) i hlt
      have e1 := hc i hlt
      have hkl : k < l.length := by omega
      have e2 := hc k hkl
      have hj1 : (0 : Int) ≤ (i : Int) := by omega
      have hj2 : (i : Int) < (l.length : Int) := by omega
      have hj3 : (0 : Int) ≤ (k : Int) := by omega
      have hj4 : (k : Int) < (l.length : Int) := by omega
      clear hc
      by_cases hq : nth l i < nth l k
      · have hd : decide (nth l i < nth l k) = true := by simpa using hq
        have Hs : Hid (∀ j, j < i + 1 → nth l i ≤ nth l j) := hide (all_snoc (fun j hj => Int.le_trans (Int.le_of_lt hq) ((unhide Hle) j hj)) (Int.le_refl _))
        clear hq
        go_wp2_with fail
        go_quiet (fail)
        go_wp2_with fail
        go_roundw
        case rel => exact ⟨i + 1, i, by omega, by omega, by go_num, rfl, by omega, unhide Hs, (by repeat (first | exact Bw.refl _ | assumption | refine Bw.drew ?_ | refine Bw.drewN ?_ _ | refine Bw.alloc ?_ _ | refine Bw.trans ?_ (by assumption)))⟩
        case measure => simp [intOf]; omega
      · have hd : decide (nth l i < nth l k) = false := by simpa using hq
        have Hs : Hid (∀ j, j < i + 1 → nth l k ≤ nth l j) := hide (all_snoc (unhide Hle) (by omega))
        clear hq
        go_wp2_with fail
        go_quiet (fail)
        go_wp2_with fail
        go_roundw
        case rel => exact ⟨i + 1, k, by omega, by omega, by go_num, rfl, by omega, unhide Hs, (by repeat (first | exact Bw.refl _ | assumption | refine Bw.drew ?_ | refine Bw.drewN ?_ _ | refine Bw.alloc ?_ _ | refine Bw.trans ?_ (by assumption)))⟩
        case measure => simp [intOf]; omega
    · go_wp2_with fail
      go_ret
      exact ⟨k, rfl, by omega, fun j hj => (unhide Hle) j (by omega), hB⟩
end Go.Proofs.Ytfemleimkbjehaa
