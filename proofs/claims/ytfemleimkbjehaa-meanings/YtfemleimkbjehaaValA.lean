import Derived.Test.YtfemleimkbjehaaKeep2
import Derived.Test.YtfemleimkbjehaaOwnB
namespace Go.Proofs.Ytfemleimkbjehaa
open Go.RowKit

theorem tmod_neg {v k : Int} (hv : v < 0) : v.tmod k = -((-v) % k) := by
  have : v = -(-v) := by omega
  rw [this, Int.neg_tmod, Int.tmod_eq_emod_of_nonneg (by omega)]
  simp
theorem rest_neg0 {v k : Int} (h : (-v) % k = 0) : v % k = 0 := by
  have := Int.emod_add_mul_ediv (-v) k
  have h2 : v = k * (-((-v) / k)) := by rw [Int.mul_neg]; omega
  rw [h2]; exact Int.mul_emod_right _ _
theorem rest_neg {v k : Int} (hk : 0 < k) (h : (-v) % k ≠ 0) : v % k = k - (-v) % k := by
  have e := Int.emod_add_mul_ediv (-v) k
  have b1 := Int.emod_nonneg (-v) (b := k) (by omega)
  have b2 := Int.emod_lt_of_pos (-v) hk
  have h2 : v = (k - (-v) % k) + k * (-((-v) / k) - 1) := by
    rw [Int.mul_sub, Int.mul_neg]; omega
  conv => lhs; rw [h2]
  rw [Int.add_mul_emod_self_left]
  exact Int.emod_eq_of_lt (by omega) (by omega)

set_option maxHeartbeats 1000000 in
theorem vrest_any (v k : Int) (w : World) (h1 : 1 ≤ k) (h2 : k ≤ 1000) :
    Calls Try.prog 152 #[.int .i64 v, .int .i64 k] w fun e w' => e = .returned (.int .i64 (v % k)) ∧ w' = w := by
  have hk0 : (k == 0) = false := by simp; omega
  have hkm : ¬ k = -1 := by omega
  have hkl : ¬ k ≤ 0 := by omega
  by_cases hv : v < 0
  · have e1 := tmod_neg (k := k) hv
    have b1 := Int.emod_nonneg (-v) (b := k) (by omega)
    have b2 := Int.emod_lt_of_pos (-v) (b := k) (by omega)
    have H0 := hide (rest_neg0 (v := v) (k := k))
    have H1 := hide (rest_neg (v := v) (k := k) (by omega))
    go_enter Try.func152, Try.ntmps152
    go_wp2
    · go_ret
      exact ⟨ret_int (by rw [(unhide H1) (by omega)]; omega), rfl⟩
    · go_ret
      exact ⟨ret_int (by rw [(unhide H0) (by omega)]; omega), rfl⟩
  · have e1 : v.tmod k = v % k := Int.tmod_eq_emod_of_nonneg (by omega)
    have b1 := Int.emod_nonneg v (b := k) (by omega)
    have b2 := Int.emod_lt_of_pos v (b := k) (by omega)
    go_enter Try.func152, Try.ntmps152
    go_wp2
    go_ret
    exact ⟨rfl, rfl⟩

set_option maxHeartbeats 1000000 in
theorem rrest_any (v k : Int) (w : World) (h1 : 1 ≤ k) (h2 : k ≤ 1000) :
    Calls Try.prog 135 #[.int .i64 v, .int .i64 k] w fun e w' => e = .returned (.int .i64 (v % k)) ∧ w' = w := by
  have hk0 : (k == 0) = false := by simp; omega
  have hkm : ¬ k = -1 := by omega
  have hkl : ¬ k ≤ 0 := by omega
  by_cases hv : v < 0
  · have e1 := tmod_neg (k := k) hv
    have b1 := Int.emod_nonneg (-v) (b := k) (by omega)
    have b2 := Int.emod_lt_of_pos (-v) (b := k) (by omega)
    have H0 := hide (rest_neg0 (v := v) (k := k))
    have H1 := hide (rest_neg (v := v) (k := k) (by omega))
    generalize (-v) % k = r at *
    have e2 : (-r + k).tmod k = (-r + k) % k := Int.tmod_eq_emod_of_nonneg (by omega)
    go_enter Try.func135, Try.ntmps135
    go_wp2
    go_ret
    refine ⟨ret_int ?_, rfl⟩
    by_cases hr : r = 0
    · rw [(unhide H0) hr, hr]; simp
    · have e3 : (-r + k) % k = -r + k := Int.emod_eq_of_lt (by omega) (by omega)
      have e4 : -r % k = -r + k := by rw [← Int.add_emod_right]; exact e3
      have := (unhide H1) hr
      omega
  · have e1 : v.tmod k = v % k := Int.tmod_eq_emod_of_nonneg (by omega)
    have b1 := Int.emod_nonneg v (b := k) (by omega)
    have b2 := Int.emod_lt_of_pos v (b := k) (by omega)
    generalize v % k = r at *
    have e2 : (r + k).tmod k = (r + k) % k := Int.tmod_eq_emod_of_nonneg (by omega)
    have e3 : (r + k) % k = r := by rw [Int.add_emod_right]; exact Int.emod_eq_of_lt b1 b2
    go_enter Try.func135, Try.ntmps135
    go_wp2
    go_ret
    exact ⟨ret_int (by omega), rfl⟩

theorem take_nth {l : List Int} {k : Nat} (h : k < l.length) : l.take (k + 1) = l.take k ++ [nth l k] := by
  rw [List.take_succ_eq_append_getElem h, nth_lt h]
def plusTo (xs : List Int) (c : Int) (k : Nat) : List Int := (xs.take k).map fun v => wrap64 (v + c)
def plusL (xs : List Int) (c : Int) : List Int := plusTo xs c xs.length
theorem plusTo_snoc {xs : List Int} {c : Int} {k : Nat} (h : k < xs.length) : plusTo xs c (k + 1) = plusTo xs c k ++ [wrap64 (nth xs k + c)] := by simp [plusTo, take_nth h]
theorem plusTo_len {xs : List Int} {c : Int} {k : Nat} (h : k ≤ xs.length) : (plusTo xs c k).length = k := by simp [plusTo]; omega

set_option maxHeartbeats 1000000 in
theorem plus_any (xs : List Int) (c : Int) (ad : Option Addr) (cap : Nat) (w : World) (hx : IntsAt w ad xs) (hl : xs.length ≤ 1000000) :
    Calls Try.prog 156 #[.slice ad xs.length cap, .int .i64 c] w fun e w' => ∃ v, e = .returned v ∧ Own w w' v (plusL xs c) ∧ Bw w w' := by
  go_enter Try.func156, Try.ntmps156
  go_wp2
  go_loopw [5, 10] (fun v i wr => ∃ k : Nat, k ≤ xs.length ∧ i = .int .i64 k ∧ Own w wr v (plusTo xs c k) ∧ Bw w wr) (fun _ i _ => xs.length - (intOf i).toNat)
  case atStart => exact ⟨0, Nat.zero_le _, rfl, Own.nil _ _, Bw.refl _⟩
  case round =>
    obtain ⟨k, hk, rfl, hown, hB⟩ := hrel
    obtain ⟨gcc, gff⟩ := bcell hB
    by_cases hlt : k < xs.length
    · obtain ⟨b, off, rfl, hb, hc⟩ := hx k hlt
      have hc1 := hc k hlt
      clear hc
      have Hs := hide (plusTo_snoc (c := c) hlt)
      have Hln := hide (plusTo_len (xs := xs) (c := c) hk)
      generalize nth xs k = x at *
      go_wp2_with (at_builtin; refine app1 _ rfl _ _ rfl _ _ (plusTo xs c k) rfl (hown.bw (by repeat (first | exact Bw.refl _ | assumption | refine Bw.drew ?_ | refine Bw.drewN ?_ _ | refine Bw.alloc ?_ _ | refine Bw.trans ?_ (by assumption)))) _ _ (wrap64 (x + c)) rfl (by simp) (by rw [unhide Hln]; omega) (by repeat (first | exact Bw.refl _ | assumption | refine Bw.drew ?_ | refine Bw.drewN ?_ _ | refine Bw.alloc ?_ _ | refine Bw.trans ?_ (by assumption))) ?_; intro v' w1 hown1 hB1 hgr1)
      go_roundw
      case rel => exact ⟨k + 1, by omega, by go_num, by rw [unhide Hs]; exact hown1, hB1⟩
      case measure => simp [intOf]; omega
    · have hkk : k = xs.length := by omega
      subst hkk
      go_wp2_with fail
      go_ret
      exact ⟨_, rfl, hown, hB⟩

def withTo (xs : List Int) (q m : Int) (k : Nat) : List Int := (xs.take k).filter fun v => v % q == m
def withL (xs : List Int) (q m : Int) : List Int := withTo xs q m xs.length
theorem withTo_yes {xs : List Int} {q m : Int} {k : Nat} (h : k < xs.length) (hr : (nth xs k % q == m) = true) : withTo xs q m (k + 1) = withTo xs q m k ++ [nth xs k] := by
  unfold withTo; rw [take_nth h, List.filter_append]; simp [hr]
theorem withTo_no {xs : List Int} {q m : Int} {k : Nat} (h : k < xs.length) (hr : (nth xs k % q == m) = false) : withTo xs q m (k + 1) = withTo xs q m k := by
  unfold withTo; rw [take_nth h, List.filter_append]; simp [hr]
theorem withTo_len {xs : List Int} {q m : Int} {k : Nat} : (withTo xs q m k).length ≤ k :=
  Nat.le_trans (List.length_filter_le _ _) (by simp; omega)

set_option maxHeartbeats 1000000 in
theorem withRest_any (xs : List Int) (q m : Int) (ad : Option Addr) (cap : Nat) (w : World) (hx : IntsAt w ad xs) (hl : xs.length ≤ 1000000) (h1 : 1 ≤ q) (h2 : q ≤ 1000) :
    Calls Try.prog 157 #[.slice ad xs.length cap, .int .i64 q, .int .i64 m] w fun e w' => ∃ v, e = .returned v ∧ Own w w' v (withL xs q m) ∧ Bw w w' := by
  go_enter Try.func157, Try.ntmps157
  go_wp2
  go_loopw [7, 12] (fun v i wr => ∃ k : Nat, k ≤ xs.length ∧ i = .int .i64 k ∧ Own w wr v (withTo xs q m k) ∧ Bw w wr) (fun _ i _ => xs.length - (intOf i).toNat)
  case atStart => exact ⟨0, Nat.zero_le _, rfl, Own.nil _ _, Bw.refl _⟩
  case round =>
    obtain ⟨k, hk, rfl, hown, hB⟩ := hrel
    obtain ⟨gcc, gff⟩ := bcell hB
    by_cases hlt : k < xs.length
    · obtain ⟨b, off, rfl, hb, hc⟩ := hx k hlt
      have hc1 := hc k hlt
      clear hc
      have Hy := hide (withTo_yes (q := q) (m := m) hlt)
      have Hn := hide (withTo_no (q := q) (m := m) hlt)
      have Hln := hide (withTo_len (xs := xs) (q := q) (m := m) (k := k))
      generalize nth xs k = x at *
      generalize hxr : x % q = xr at *
      have Hxr := hide hxr
      clear hxr
      go_wp2_with (first | (at_builtin; refine app1 _ rfl _ _ rfl _ _ (withTo xs q m k) rfl (hown.bw (by repeat (first | exact Bw.refl _ | assumption | refine Bw.drew ?_ | refine Bw.drewN ?_ _ | refine Bw.alloc ?_ _ | refine Bw.trans ?_ (by assumption)))) _ _ x rfl (by simp) (by have := unhide Hln; omega) (by repeat (first | exact Bw.refl _ | assumption | refine Bw.drew ?_ | refine Bw.drewN ?_ _ | refine Bw.alloc ?_ _ | refine Bw.trans ?_ (by assumption))) ?_; intro v' w1 hown1 hB1 hgr1) | (go_at_call 152; refine (vrest_any _ _ _ h1 h2).mono ?_; rintro e w' ⟨rfl, rfl⟩; rw [unhide Hxr]))
      · go_roundw
        case rel => exact ⟨k + 1, by omega, by go_num, by rw [(unhide Hy) (by assumption)]; exact hown1, hB1⟩
        case measure => simp [intOf]; omega
      · go_roundw
        case rel => exact ⟨k + 1, by omega, by go_num, by rw [(unhide Hn) (by assumption)]; exact hown, hB⟩
        case measure => simp [intOf]; omega
    · have hkk : k = xs.length := by omega
      subst hkk
      go_wp2_with fail
      go_ret
      exact ⟨_, rfl, hown, hB⟩
end Go.Proofs.Ytfemleimkbjehaa
namespace Go.Proofs.Ytfemleimkbjehaa
open Go.RowKit

theorem srt_nth {l : List Int} (h : l.Pairwise (· ≤ ·)) {i j : Nat} (hij : i ≤ j) (hj : j < l.length) : nth l i ≤ nth l j := by
  rw [nth_lt hj, nth_lt (by omega : i < l.length)]
  by_cases e : i = j
  · subst e; exact Int.le_refl _
  · exact List.pairwise_iff_getElem.1 h i j (by omega) hj (by omega)

structure Mrg (lo hi : List Int) (i nx : Nat) (al : List Int) : Prop where
  perm : al.Perm (lo.take i ++ hi.take nx)
  srt : al.Pairwise (· ≤ ·)
  low : ∀ x ∈ al, ∀ j, i ≤ j → j < lo.length → x ≤ nth lo j
  high : ∀ x ∈ al, ∀ j, nx ≤ j → j < hi.length → x ≤ nth hi j

theorem Mrg.nil (lo hi : List Int) : Mrg lo hi 0 0 [] := ⟨by simp, by simp, by simp, by simp⟩
theorem Mrg.len {lo hi al : List Int} {i nx : Nat} (h : Mrg lo hi i nx al) (hi1 : i ≤ lo.length) (hn : nx ≤ hi.length) : al.length = i + nx := by
  rw [h.perm.length_eq]; simp; omega
theorem srt_snoc {al : List Int} {v : Int} (h : al.Pairwise (· ≤ ·)) (hv : ∀ x ∈ al, x ≤ v) : (al ++ [v]).Pairwise (· ≤ ·) := by
  rw [List.pairwise_append]; exact ⟨h, by simp, by simpa using hv⟩
theorem Mrg.stepH {lo hi al : List Int} {i nx : Nat} (h : Mrg lo hi i nx al) (sl : lo.Pairwise (· ≤ ·)) (sh : hi.Pairwise (· ≤ ·)) (hn : nx < hi.length) (hv : nth hi nx < nth lo i) : Mrg lo hi i (nx + 1) (al ++ [nth hi nx]) := by
  refine ⟨?_, srt_snoc h.srt fun x hx => h.high x hx nx (Nat.le_refl _) hn, ?_, ?_⟩
  · rw [take_nth hn, ← List.append_assoc]; exact h.perm.append_right _
  · intro x hx j hj hjl
    rcases List.mem_append.1 hx with hx | hx
    · exact h.low x hx j hj hjl
    · simp at hx; subst hx; have := srt_nth sl hj hjl; omega
  · intro x hx j hj hjl
    rcases List.mem_append.1 hx with hx | hx
    · exact h.high x hx j (by omega) hjl
    · simp at hx; subst hx; exact srt_nth sh (by omega) hjl
theorem Mrg.stepL {lo hi al : List Int} {i nx : Nat} (h : Mrg lo hi i nx al) (sl : lo.Pairwise (· ≤ ·)) (sh : hi.Pairwise (· ≤ ·)) (hil : i < lo.length) (hv : nx < hi.length → ¬ nth hi nx < nth lo i) : Mrg lo hi (i + 1) nx (al ++ [nth lo i]) := by
  refine ⟨?_, srt_snoc h.srt fun x hx => h.low x hx i (Nat.le_refl _) hil, ?_, ?_⟩
  · rw [take_nth hil, List.append_assoc]
    refine (h.perm.append_right _).trans ?_
    rw [List.append_assoc]
    exact List.Perm.append_left _ List.perm_append_comm
  · intro x hx j hj hjl
    rcases List.mem_append.1 hx with hx | hx
    · exact h.low x hx j (by omega) hjl
    · simp at hx; subst hx; exact srt_nth sl (by omega) hjl
  · intro x hx j hj hjl
    rcases List.mem_append.1 hx with hx | hx
    · exact h.high x hx j hj hjl
    · simp at hx; subst hx; have := hv (by omega); have := srt_nth sh hj hjl; omega
theorem Mrg.fin {lo hi al : List Int} {nx : Nat} (h : Mrg lo hi lo.length nx al) (sh : hi.Pairwise (· ≤ ·)) : (al ++ hi.drop nx).Perm (lo ++ hi) ∧ (al ++ hi.drop nx).Pairwise (· ≤ ·) := by
  constructor
  · refine (h.perm.append_right _).trans ?_
    rw [List.take_length, List.append_assoc, List.take_append_drop]
  · rw [List.pairwise_append]
    refine ⟨h.srt, sh.drop, ?_⟩
    intro x hx y hy
    obtain ⟨j, hj, rfl⟩ := List.getElem_of_mem hy
    simp at hj
    rw [List.getElem_drop, ← nth_lt (by omega)]
    exact h.high x hx _ (by omega) (by omega)

theorem IntsAt.drop {w : World} {ad : Option Addr} {xs : List Int} {b off nx : Nat} (h : IntsAt w ad xs) (e : ad = some ⟨b, off, none⟩) : IntsAt w (some ⟨b, off + nx, none⟩) (xs.drop nx) := by
  intro i hi
  simp at hi
  obtain ⟨b', off', e', hb, hc⟩ := h (nx + i) (by omega)
  rw [e] at e'
  simp at e'
  obtain ⟨rfl, rfl⟩ := e'
  refine ⟨b, off + nx, rfl, hb, fun j hj => ?_⟩
  simp at hj
  rw [Nat.add_assoc, hc (nx + j) (by omega), nth_lt (by omega), nth_lt (by simp; omega)]
  simp
theorem IntsAt.take {w : World} {ad : Option Addr} {xs : List Int} {n : Nat} (h : IntsAt w ad xs) : IntsAt w ad (xs.take n) := by
  intro i hi
  simp at hi
  obtain ⟨b', off', e', hb, hc⟩ := h i (by omega)
  refine ⟨b', off', e', hb, fun j hj => ?_⟩
  simp at hj
  rw [hc j (by omega), nth_lt (by omega), nth_lt (by simp; omega)]
  simp

set_option maxRecDepth 100000 in
set_option maxHeartbeats 2000000 in
theorem merge_any (lo hi : List Int) (la ha : Option Addr) (lc hc : Nat) (w : World) (hlo : IntsAt w la lo) (hhi : IntsAt w ha hi) (sl : lo.Pairwise (· ≤ ·)) (sh : hi.Pairwise (· ≤ ·)) (hl : lo.length + hi.length ≤ 1000000) (hcap : hi.length ≤ hc) :
    Calls Try.prog 151 #[.slice la lo.length lc, .slice ha hi.length hc] w fun e w' => ∃ v r, e = .returned v ∧ Own w w' v r ∧ r.Perm (lo ++ hi) ∧ r.Pairwise (· ≤ ·) ∧ Bw w w' := by
  have SL := hide sl
  have SH := hide sh
  clear sl sh
  go_enter Try.func151, Try.ntmps151
  go_wp2
  go_loopw [5, 6, 11] (fun v nx i wr => ∃ (k n : Nat) (al : List Int), k ≤ lo.length ∧ n ≤ hi.length ∧ i = .int .i64 k ∧ nx = .int .i64 n ∧ Own w wr v al ∧ Mrg lo hi k n al ∧ Bw w wr) (fun _ _ i _ => lo.length - (intOf i).toNat)
  case atStart => exact ⟨0, 0, [], Nat.zero_le _, Nat.zero_le _, rfl, rfl, Own.nil _ _, Mrg.nil _ _, Bw.refl _⟩
  case round =>
    obtain ⟨k, n, al, hk, hn, rfl, rfl, hown, hM, hB⟩ := hrel
    by_cases hlt : k < lo.length
    · obtain ⟨b, off, rfl, hb, hcc⟩ := (hlo.below hB) k hlt
      have hc1 := hcc k hlt
      clear hcc
      generalize hv : nth lo k = v0 at hc1
      have Hv := hide hv
      clear hv
      rename World => w0
      rename Value => v1
      go_wp2_with fail
      go_loopw [5, 6] (fun v nx wi => ∃ (n : Nat) (al : List Int), n ≤ hi.length ∧ nx = .int .i64 n ∧ Own w wi v al ∧ Mrg lo hi k n al ∧ Bw w wi) (fun _ nx _ => hi.length - (intOf nx).toNat)
      case atStart => exact ⟨n, al, hn, rfl, hown, hM, hB⟩
      case round =>
        clear hown hM hn
        obtain ⟨n2, al2, hn2, rfl, hown2, hM2, hB2⟩ := hrel
        have hlen := hM2.len hk hn2
        by_cases hn3 : n2 < hi.length
        · obtain ⟨b3, off3, rfl, hb3, hcc3⟩ := (hhi.below hB2) n2 hn3
          have hc3 := hcc3 n2 hn3
          clear hcc3
          have HH := hide (fun hv => hM2.stepH (unhide SL) (unhide SH) hn3 hv)
          have HL := hide (fun hv => hM2.stepL (unhide SL) (unhide SH) hlt hv)
          have HM2 := hide hM2
          clear hM2
          rw [unhide Hv] at HH HL
          generalize nth hi n2 = h0 at *
          by_cases hlt2 : h0 < v0
          · go_wp2_with (at_builtin; refine app1 _ rfl _ _ rfl _ _ al2 rfl (hown2.bw (by repeat (first | exact Bw.refl _ | assumption | refine Bw.drew ?_ | refine Bw.drewN ?_ _ | refine Bw.alloc ?_ _ | refine Bw.trans ?_ (by assumption)))) _ _ h0 rfl (by simp) (by omega) (by repeat (first | exact Bw.refl _ | assumption | refine Bw.drew ?_ | refine Bw.drewN ?_ _ | refine Bw.alloc ?_ _ | refine Bw.trans ?_ (by assumption))) ?_; intro v' w1 hown1 hB1 hgr1)
            go_roundw
            case rel => exact ⟨n2 + 1, _, by omega, by go_num, hown1, (unhide HH) hlt2, hB1⟩
            case measure => simp [intOf]; omega
          · go_wp2_with (at_builtin; refine app1 _ rfl _ _ rfl _ _ al2 rfl (hown2.bw (by repeat (first | exact Bw.refl _ | assumption | refine Bw.drew ?_ | refine Bw.drewN ?_ _ | refine Bw.alloc ?_ _ | refine Bw.trans ?_ (by assumption)))) _ _ v0 rfl (by simp) (by omega) (by repeat (first | exact Bw.refl _ | assumption | refine Bw.drew ?_ | refine Bw.drewN ?_ _ | refine Bw.alloc ?_ _ | refine Bw.trans ?_ (by assumption))) ?_; intro v' w1 hown1 hB1 hgr1)
            go_roundw
            case rel => exact ⟨k + 1, n2, _, by omega, by omega, by go_num, rfl, hown1, (unhide HL) (fun _ => hlt2), hB1⟩
            case measure => simp [intOf]; omega
        · have HL := hide (hM2.stepL (unhide SL) (unhide SH) hlt (fun h => absurd h hn3))
          have HM2 := hide hM2
          clear hM2
          rw [unhide Hv] at HL
          go_wp2_with (at_builtin; refine app1 _ rfl _ _ rfl _ _ al2 rfl (hown2.bw (by repeat (first | exact Bw.refl _ | assumption | refine Bw.drew ?_ | refine Bw.drewN ?_ _ | refine Bw.alloc ?_ _ | refine Bw.trans ?_ (by assumption)))) _ _ v0 rfl (by simp) (by omega) (by repeat (first | exact Bw.refl _ | assumption | refine Bw.drew ?_ | refine Bw.drewN ?_ _ | refine Bw.alloc ?_ _ | refine Bw.trans ?_ (by assumption))) ?_; intro v' w1 hown1 hB1 hgr1)
          go_roundw
          case rel => exact ⟨k + 1, n2, _, by omega, by omega, by go_num, rfl, hown1, unhide HL, hB1⟩
          case measure => simp [intOf]; omega
    · have hkk : k = lo.length := by omega
      subst hkk
      have hf := hM.fin (unhide SH)
      have hlen := hM.len hk hn
      clear hM
      have Hf := hide hf
      clear hf
      by_cases h0 : n < hi.length
      · obtain ⟨b3, off3, rfl, hb3, hcc3⟩ := hhi n h0
        have hd := (hhi.below hB).drop (nx := n) rfl
        clear hcc3
        have hcn : ¬ hc = n := by omega
        have hdl : (hi.drop n).length = hi.length - n := by simp
        go_wp2_with (at_builtin; refine appA _ rfl _ _ rfl _ _ al rfl (hown.bw (by repeat (first | exact Bw.refl _ | assumption | refine Bw.drew ?_ | refine Bw.drewN ?_ _ | refine Bw.alloc ?_ _ | refine Bw.trans ?_ (by assumption)))) _ _ (hi.drop n) (by rw [hdl]; rfl) (hd.below (by repeat (first | exact Bw.refl _ | assumption | refine Bw.drew ?_ | refine Bw.drewN ?_ _ | refine Bw.alloc ?_ _ | refine Bw.trans ?_ (by assumption)))) (by rw [hdl]; omega) (by repeat (first | exact Bw.refl _ | assumption | refine Bw.drew ?_ | refine Bw.drewN ?_ _ | refine Bw.alloc ?_ _ | refine Bw.trans ?_ (by assumption))) ?_; intro v' w1 hown1 hB1)
        go_ret
        exact ⟨_, _, rfl, hown1, (unhide Hf).1, (unhide Hf).2, hB1⟩
      · have hnn : n = hi.length := by omega
        subst hnn
        rw [List.drop_length] at Hf
        cases ha with
        | none =>
          go_wp2_with (at_builtin; refine appA _ rfl _ _ rfl _ _ al rfl (hown.bw (by repeat (first | exact Bw.refl _ | assumption | refine Bw.drew ?_ | refine Bw.drewN ?_ _ | refine Bw.alloc ?_ _ | refine Bw.trans ?_ (by assumption)))) _ _ [] rfl (fun i hi => absurd hi (Nat.not_lt_zero i)) (by simp; omega) (by repeat (first | exact Bw.refl _ | assumption | refine Bw.drew ?_ | refine Bw.drewN ?_ _ | refine Bw.alloc ?_ _ | refine Bw.trans ?_ (by assumption))) ?_; intro v' w1 hown1 hB1)
          go_ret
          exact ⟨_, _, rfl, hown1, (unhide Hf).1, (unhide Hf).2, hB1⟩
        | some ha =>
          by_cases hcn : hc = hi.length
          · go_wp2_with (at_builtin; refine appA _ rfl _ _ rfl _ _ al rfl (hown.bw (by repeat (first | exact Bw.refl _ | assumption | refine Bw.drew ?_ | refine Bw.drewN ?_ _ | refine Bw.alloc ?_ _ | refine Bw.trans ?_ (by assumption)))) _ _ [] rfl (fun i hi => absurd hi (Nat.not_lt_zero i)) (by simp; omega) (by repeat (first | exact Bw.refl _ | assumption | refine Bw.drew ?_ | refine Bw.drewN ?_ _ | refine Bw.alloc ?_ _ | refine Bw.trans ?_ (by assumption))) ?_; intro v' w1 hown1 hB1)
            go_ret
            exact ⟨_, _, rfl, hown1, (unhide Hf).1, (unhide Hf).2, hB1⟩
          · go_wp2_with (at_builtin; refine appA _ rfl _ _ rfl _ _ al rfl (hown.bw (by repeat (first | exact Bw.refl _ | assumption | refine Bw.drew ?_ | refine Bw.drewN ?_ _ | refine Bw.alloc ?_ _ | refine Bw.trans ?_ (by assumption)))) _ _ [] rfl (fun i hi => absurd hi (Nat.not_lt_zero i)) (by simp; omega) (by repeat (first | exact Bw.refl _ | assumption | refine Bw.drew ?_ | refine Bw.drewN ?_ _ | refine Bw.alloc ?_ _ | refine Bw.trans ?_ (by assumption))) ?_; intro v' w1 hown1 hB1)
            go_ret
            exact ⟨_, _, rfl, hown1, (unhide Hf).1, (unhide Hf).2, hB1⟩
end Go.Proofs.Ytfemleimkbjehaa
namespace Go.Proofs.Ytfemleimkbjehaa
open Go.RowKit

theorem own_empty {W w : World} {g : Nat} (hg : g = w.heap.size) (hB : Bw W w) : Own W (w.alloc (.cells #[] 3)) (.slice (some ⟨g, 0, none⟩) 0 0) [] := by
  subst hg
  exact ⟨rfl, .inr ⟨w.heap.size, 0, #[], rfl, hB.size, heap_alloc_new w _, Nat.le_refl _, by unfold maxLen; omega, rfl, rfl⟩⟩

theorem srt_short {xs : List Int} (h : xs.length < 2) : xs.Pairwise (· ≤ ·) := by
  match xs, h with
  | [], _ => simp
  | [_], _ => simp

set_option maxRecDepth 100000 in
set_option maxHeartbeats 2000000 in
theorem sorted_any (m : Nat) : ∀ (xs : List Int) (ad : Option Addr) (cap : Nat) (w : World), xs.length ≤ m → IntsAt w ad xs → xs.length ≤ 1000000 → xs.length ≤ cap →
    Calls Try.prog 132 #[.slice ad xs.length cap] w fun e w' => ∃ v r, e = .returned v ∧ Own w w' v r ∧ r.Perm xs ∧ r.Pairwise (· ≤ ·) ∧ Bw w w' := by
  induction m with
  | zero =>
    intro xs ad cap w hm hx hl hc
    have h0 : xs = [] := List.eq_nil_of_length_eq_zero (by omega)
    subst h0
    go_enter Try.func132, Try.ntmps132
    go_wp2_with (at_builtin; refine appA _ rfl _ _ rfl w _ [] rfl (own_empty (by simp) (Bw.refl _)) _ _ [] rfl (fun i hi => absurd hi (Nat.not_lt_zero i)) (by simp) (by repeat (first | exact Bw.refl _ | assumption | refine Bw.drew ?_ | refine Bw.drewN ?_ _ | refine Bw.alloc ?_ _ | refine Bw.trans ?_ (by assumption))) ?_; intro v' w1 hown1 hB1)
    go_ret
    exact ⟨_, _, rfl, hown1, List.Perm.refl _, by simp, hB1⟩
  | succ m ih =>
    intro xs ad cap w hm hx hl hc
    by_cases h2 : xs.length < 2
    · have Hs := hide (srt_short h2)
      go_enter Try.func132, Try.ntmps132
      go_wp2_with (at_builtin; refine appA _ rfl _ _ rfl w _ [] rfl (own_empty (by simp) (Bw.refl _)) _ _ xs rfl (hx.below (by repeat (first | exact Bw.refl _ | assumption | refine Bw.drew ?_ | refine Bw.drewN ?_ _ | refine Bw.alloc ?_ _ | refine Bw.trans ?_ (by assumption)))) (by simp; omega) (by repeat (first | exact Bw.refl _ | assumption | refine Bw.drew ?_ | refine Bw.drewN ?_ _ | refine Bw.alloc ?_ _ | refine Bw.trans ?_ (by assumption))) ?_; intro v' w1 hown1 hB1)
      go_ret
      exact ⟨_, _, rfl, hown1, List.Perm.refl _, unhide Hs, hB1⟩
    · obtain ⟨b, off, rfl, hb, _⟩ := hx 0 (by omega)
      obtain ⟨h, hh⟩ : ∃ h : Nat, (xs.length : Int) / 2 = h := ⟨xs.length / 2, by omega⟩
      have hh1 : h < xs.length := by omega
      have hh2 : 0 < h := by omega
      have ht : (xs.take h).length = h := by simp; omega
      have hd : (xs.drop h).length = xs.length - h := by simp
      have hcn : ¬ cap = h := by omega
      have Ht := hide (hx.take (n := h))
      have Hd := hide (hx.drop (nx := h) rfl)
      have Htd := hide (List.take_append_drop h xs)
      generalize hA : xs.take h = A at *
      generalize hD : xs.drop h = D at *
      clear hA hD
      go_enter Try.func132, Try.ntmps132
      have IH : Hid (∀ (xs : List Int) (L : Nat) (ad : Option Addr) (cap : Nat) (w : World), xs.length = L → xs.length ≤ m → IntsAt w ad xs → xs.length ≤ 1000000 → xs.length ≤ cap →
          Calls Try.prog 132 #[.slice ad L cap] w fun e w' => ∃ v r, e = .returned v ∧ Own w w' v r ∧ r.Perm xs ∧ r.Pairwise (· ≤ ·) ∧ Bw w w') := hide (by
        intro xs L ad cap w e; subst e; exact ih xs ad cap w)
      clear ih
      go_wp2_with fail
      refine ((unhide IH) A h _ cap _ ht (by omega) (unhide Ht) (by omega) (by omega)).mono ?_
      rintro e w1 ⟨v1, r1, rfl, ho1, hp1, hs1, hB1⟩
      obtain ⟨a1, c1, rfl, hc1⟩ := ho1.slice
      have Hl1 := hide hp1.length_eq
      go_wp2_with fail
      refine ((unhide IH) D (xs.length - h) _ (cap - h) _ hd (by omega) ((unhide Hd).below (by repeat (first | exact Bw.refl _ | assumption | refine Bw.drew ?_ | refine Bw.drewN ?_ _ | refine Bw.alloc ?_ _ | refine Bw.trans ?_ (by assumption)))) (by omega) (by omega)).mono ?_
      rintro e w2 ⟨v2, r2, rfl, ho2, hp2, hs2, hB2⟩
      obtain ⟨a2, c2, rfl, hc2⟩ := ho2.slice
      have Hl2 := hide hp2.length_eq
      have Hp := hide (hp1.append hp2)
      have Hp1 := hide hp1
      have Hp2 := hide hp2
      have Hs1 := hide hs1
      have Hs2 := hide hs2
      clear hp1 hp2 hs1 hs2
      go_wp2_with fail
      refine (merge_any r1 r2 a1 a2 c1 c2 _ (ho1.ints.1.below (by repeat (first | exact Bw.refl _ | assumption | refine Bw.drew ?_ | refine Bw.drewN ?_ _ | refine Bw.alloc ?_ _ | refine Bw.trans ?_ (by assumption)))) ho2.ints.1 (unhide Hs1) (unhide Hs2) (by have := unhide Hl1; have := unhide Hl2; omega) hc2).mono ?_
      rintro e w3 ⟨v3, r3, rfl, ho3, hp3, hs3, hB3⟩
      have Hp3 := hide (hp3.trans (unhide Hp))
      have Hs3 := hide hs3
      clear hp3 hs3
      go_wp2_with fail
      go_ret
      exact ⟨_, r3, rfl, ho3.weaken (by repeat (first | exact Bw.refl _ | assumption | refine Bw.drew ?_ | refine Bw.drewN ?_ _ | refine Bw.alloc ?_ _ | refine Bw.trans ?_ (by assumption))), by rw [← unhide Htd]; exact unhide Hp3, unhide Hs3, (by repeat (first | exact Bw.refl _ | assumption | refine Bw.drew ?_ | refine Bw.drewN ?_ _ | refine Bw.alloc ?_ _ | refine Bw.trans ?_ (by assumption)))⟩

/-- Of sorted numbers each once. -/
def ddTo (ss : List Int) : Nat → List Int
  | 0 => []
  | k + 1 => if (k == 0) || (nth ss (k - 1) != nth ss k) then ddTo ss k ++ [nth ss k] else ddTo ss k
theorem ddTo_len (ss : List Int) (k : Nat) : (ddTo ss k).length ≤ k := by
  induction k with
  | zero => simp [ddTo]
  | succ k ih => unfold ddTo; split <;> (try simp) <;> omega
theorem ddTo_ok {ss : List Int} (hs : ss.Pairwise (· ≤ ·)) : ∀ k, k ≤ ss.length → (ddTo ss k).Pairwise (· < ·) ∧ (∀ x, x ∈ ddTo ss k ↔ x ∈ ss.take k) ∧ ∀ x ∈ ddTo ss k, x ≤ nth ss (k - 1) := by
  intro k
  induction k with
  | zero => intro _; simp [ddTo]
  | succ k ih =>
    intro hk
    obtain ⟨h1, h2, h3⟩ := ih (by omega)
    have hle : nth ss (k - 1) ≤ nth ss k := srt_nth hs (by omega) (by omega)
    have hmem : ∀ x, x ∈ ss.take (k + 1) ↔ x ∈ ss.take k ∨ x = nth ss k := by intro x; rw [take_nth (by omega)]; simp
    unfold ddTo
    split
    · rename_i hc
      have hlt : ∀ x ∈ ddTo ss k, x < nth ss k := by
        intro x hx
        by_cases e : k = 0
        · subst e; simp [ddTo] at hx
        · have hne : nth ss (k - 1) ≠ nth ss k := by simpa [e] using hc
          have := h3 x hx; omega
      refine ⟨?_, ?_, ?_⟩
      · rw [List.pairwise_append]; exact ⟨h1, by simp, by simpa using hlt⟩
      · intro x; rw [hmem, List.mem_append, h2]; simp
      · intro x hx
        rw [Nat.add_sub_cancel]
        rcases List.mem_append.1 hx with hx | hx
        · have := hlt x hx; omega
        · simp at hx; omega
    · rename_i hc
      have hk0 : k ≠ 0 := by intro e; subst e; simp at hc
      have he : nth ss (k - 1) = nth ss k := by
        have := hc; simp [hk0] at this; exact this
      refine ⟨h1, ?_, ?_⟩
      · intro x; rw [hmem, h2]
        constructor
        · exact .inl
        · rintro (h | rfl)
          · exact h
          · rw [← he, nth_lt (by omega)]
            exact List.mem_iff_getElem.2 ⟨k - 1, by simp; omega, by simp⟩
      · intro x hx; rw [Nat.add_sub_cancel]; have := h3 x hx; omega

set_option maxRecDepth 100000 in
set_option maxHeartbeats 2000000 in
theorem distinct_any (xs : List Int) (ad : Option Addr) (cap : Nat) (w : World) (hx : IntsAt w ad xs) (hl : xs.length ≤ 1000000) (hcap : xs.length ≤ cap) :
    Calls Try.prog 158 #[.slice ad xs.length cap] w fun e w' => ∃ v r, e = .returned v ∧ Own w w' v r ∧ r.Nodup ∧ (∀ x, x ∈ r ↔ x ∈ xs) ∧ r.length ≤ xs.length ∧ Bw w w' := by
  go_enter Try.func158, Try.ntmps158
  go_wp2_with fail
  refine (sorted_any xs.length xs _ _ _ (Nat.le_refl _) hx hl hcap).mono ?_
  rintro e w1 ⟨v1, ss, rfl, ho1, hp1, hs1, hB1⟩
  obtain ⟨a1, c1, rfl, hc1⟩ := ho1.slice
  have Hl1 := hide hp1.length_eq
  have hss : ss.length ≤ 1000000 := by rw [unhide Hl1]; exact hl
  have Hok := hide (ddTo_ok hs1 ss.length (Nat.le_refl _))
  have Hp1 := hide hp1
  clear hp1 hs1
  have hx1 := ho1.ints.1
  go_wp2_with fail
  go_loopw [4, 11] (fun v i wr => ∃ k : Nat, k ≤ ss.length ∧ i = .int .i64 k ∧ Own w1 wr v (ddTo ss k) ∧ Bw w1 wr) (fun _ i _ => ss.length - (intOf i).toNat)
  case atStart => exact ⟨0, Nat.zero_le _, rfl, Own.nil _ _, Bw.refl _⟩
  case round =>
    obtain ⟨k, hk, rfl, hown, hB⟩ := hrel
    obtain ⟨gcc, gff⟩ := bcell hB
    have hln := ddTo_len ss k
    by_cases hlt : k < ss.length
    · obtain ⟨b, off, rfl, hb, hc⟩ := hx1 k hlt
      have hc1 := hc k hlt
      by_cases hk0 : k = 0
      · subst hk0
        have Hd : Hid (ddTo ss 1 = ddTo ss 0 ++ [nth ss 0]) := hide (by simp [ddTo])
        clear hc
        rw [Nat.add_zero] at hc1
        generalize nth ss 0 = x at *
        go_wp2_with (at_builtin; refine app1 _ rfl _ _ rfl _ _ (ddTo ss 0) rfl (hown.bw (by repeat (first | exact Bw.refl _ | assumption | refine Bw.drew ?_ | refine Bw.drewN ?_ _ | refine Bw.alloc ?_ _ | refine Bw.trans ?_ (by assumption)))) _ _ x rfl (by simp) (by omega) (by repeat (first | exact Bw.refl _ | assumption | refine Bw.drew ?_ | refine Bw.drewN ?_ _ | refine Bw.alloc ?_ _ | refine Bw.trans ?_ (by assumption))) ?_; intro v' w2 hown1 hB2 hgr1)
        go_roundw
        case rel => exact ⟨1, by omega, by go_num, by rw [unhide Hd]; exact hown1, hB2⟩
        case measure => simp [intOf]; omega
      · have hd1 := hc (k - 1) (by omega)
        have Hy : Hid ((nth ss (k - 1) != nth ss k) = true → ddTo ss (k + 1) = ddTo ss k ++ [nth ss k]) := hide (by intro h; rw [ddTo, h]; simp)
        have Hn : Hid ((nth ss (k - 1) != nth ss k) = false → ddTo ss (k + 1) = ddTo ss k) := hide (by intro h; rw [ddTo, h]; simp [hk0])
        clear hc
        generalize nth ss k = x at *
        generalize nth ss (k - 1) = y at *
        have hkb : ((k : Int) == 0) = false := by simp; omega
        go_wp2_with (at_builtin; refine app1 _ rfl _ _ rfl _ _ (ddTo ss k) rfl (hown.bw (by repeat (first | exact Bw.refl _ | assumption | refine Bw.drew ?_ | refine Bw.drewN ?_ _ | refine Bw.alloc ?_ _ | refine Bw.trans ?_ (by assumption)))) _ _ x rfl (by simp) (by omega) (by repeat (first | exact Bw.refl _ | assumption | refine Bw.drew ?_ | refine Bw.drewN ?_ _ | refine Bw.alloc ?_ _ | refine Bw.trans ?_ (by assumption))) ?_; intro v' w2 hown1 hB2 hgr1)
        · go_roundw
          case rel => exact ⟨k + 1, by omega, by go_num, by rw [(unhide Hy) (by assumption)]; exact hown1, hB2⟩
          case measure => simp [intOf]; omega
        · go_roundw
          case rel => exact ⟨k + 1, by omega, by go_num, by rw [(unhide Hn) (by assumption)]; exact hown, hB⟩
          case measure => simp [intOf]; omega
    · have hkk : k = ss.length := by omega
      subst hkk
      go_wp2_with fail
      go_ret
      refine ⟨_, _, rfl, hown.weaken hB1, ?_, ?_, ?_, hB1.trans hB⟩
      · exact (unhide Hok).1.imp fun h => Int.ne_of_lt h
      · intro x; rw [(unhide Hok).2.1, List.take_length]; exact (unhide Hp1).mem_iff
      · rw [← unhide Hl1]; exact hln
end Go.Proofs.Ytfemleimkbjehaa
