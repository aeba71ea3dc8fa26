import Derived.Test.YtfemleimkbjehaaValA
import Derived.Test.YtfemleimkbjehaaChecksW
namespace Go.Proofs.Ytfemleimkbjehaa
open Go.RowKit

def gsumTo (xs : List Int) (q : Int) (g : Nat) : Nat → Int
  | 0 => 0
  | k + 1 => if nth xs k % q == g then wrap64 (gsumTo xs q g k + nth xs k) else gsumTo xs q g k
def gmetTo (xs : List Int) (q : Int) (g : Nat) : Nat → Bool
  | 0 => false
  | k + 1 => if nth xs k % q == g then true else gmetTo xs q g k
/-- The sums of the groups ahead of m. -/
def grpTo (xs : List Int) (q : Int) : Nat → List Int
  | 0 => []
  | m + 1 => if gmetTo xs q m xs.length then grpTo xs q m ++ [gsumTo xs q m xs.length] else grpTo xs q m
theorem grpTo_len (xs : List Int) (q : Int) (m : Nat) : (grpTo xs q m).length ≤ m := by
  induction m with
  | zero => simp [grpTo]
  | succ m ih => unfold grpTo; split <;> (try simp) <;> omega
theorem gsum_yes {xs : List Int} {q : Int} {g k : Nat} (h : nth xs k % q = g) : gsumTo xs q g (k + 1) = wrap64 (gsumTo xs q g k + nth xs k) ∧ gmetTo xs q g (k + 1) = true := by simp [gsumTo, gmetTo, h]
theorem gsum_no {xs : List Int} {q : Int} {g k : Nat} (h : nth xs k % q ≠ g) : gsumTo xs q g (k + 1) = gsumTo xs q g k ∧ gmetTo xs q g (k + 1) = gmetTo xs q g k := by simp [gsumTo, gmetTo, h]
theorem grp_yes {xs : List Int} {q : Int} {m : Nat} (h : gmetTo xs q m xs.length = true) : grpTo xs q (m + 1) = grpTo xs q m ++ [gsumTo xs q m xs.length] := by rw [grpTo, if_pos h]
theorem grp_no {xs : List Int} {q : Int} {m : Nat} (h : gmetTo xs q m xs.length = false) : grpTo xs q (m + 1) = grpTo xs q m := by rw [grpTo, h]; rfl

/-- A Groups that lies at o of the block B: the sums, and which groups have one. -/
structure Grp (w : World) (B o : Nat) (S : Nat → Int) (M : Nat → Bool) : Prop where
  size : B < w.heap.size
  sum : ∀ g, g < 8 → w.cell? ⟨B, o + g, none⟩ = some (.int .i64 (S g))
  met : ∀ g, g < 8 → w.cell? ⟨B, o + 8 + g, none⟩ = some (.bool (M g))
  fr : ∀ g, w.frozen? ⟨B, g, none⟩ = false

theorem eight (v : Value) : ∀ g, g < 8 → (#[v, v, v, v, v, v, v, v])[g]? = some v := by
  intro g hg
  match g, hg with
  | 0, _ | 1, _ | 2, _ | 3, _ | 4, _ | 5, _ | 6, _ | 7, _ => rfl
theorem Grp.init (w : World) (t : TypeId) : Grp (w.alloc (.cells #[.int .i64 0, .int .i64 0, .int .i64 0, .int .i64 0, .int .i64 0, .int .i64 0, .int .i64 0, .int .i64 0, .bool false, .bool false, .bool false, .bool false, .bool false, .bool false, .bool false, .bool false] t)) w.heap.size 0 (fun _ => 0) (fun _ => false) := by
  have h1 := heap_alloc_new w (.cells #[.int .i64 0, .int .i64 0, .int .i64 0, .int .i64 0, .int .i64 0, .int .i64 0, .int .i64 0, .int .i64 0, .bool false, .bool false, .bool false, .bool false, .bool false, .bool false, .bool false, .bool false] t)
  refine ⟨by simp, fun g hg => cell_of_block h1 ?_, fun g hg => cell_of_block h1 ?_, fun g => frozen_of_block h1⟩
  · match g, hg with
    | 0, _ | 1, _ | 2, _ | 3, _ | 4, _ | 5, _ | 6, _ | 7, _ => rfl
  · match g, hg with
    | 0, _ | 1, _ | 2, _ | 3, _ | 4, _ | 5, _ | 6, _ | 7, _ => rfl
theorem Grp.bw {w w' : World} {B o : Nat} {S : Nat → Int} {M : Nat → Bool} (h : Grp w B o S M) (hb : Bw w w') : Grp w' B o S M := by
  have h0 := h.size
  obtain ⟨q1, q2⟩ := bcell hb
  exact ⟨Nat.lt_of_lt_of_le h0 hb.size, fun g hg => (q1 _ _ (by omega)).trans (h.sum g hg), fun g hg => (q1 _ _ (by omega)).trans (h.met g hg), fun g => (q2 _ _ (by omega)).trans (h.fr g)⟩
theorem Grp.step {w : World} {B o : Nat} {S : Nat → Int} {M : Nat → Bool} {g : Nat} {x : Int} (h : Grp w B o S M) (hg : g < 8) :
    Grp ((w.setCell ⟨B, o + g, none⟩ (.int .i64 (wrap64 (S g + x)))).setCell ⟨B, o + 8 + g, none⟩ (.bool true)) B o (fun j => if j = g then wrap64 (S g + x) else S j) (fun j => if j = g then true else M j) := by
  have h0 := h.size
  refine ⟨by simpa using h0, ?_, ?_, ?_⟩
  · intro j hj
    rw [cs_ne (by omega)]
    by_cases e : j = g
    · subst e; rw [if_pos rfl]; exact cs_eq (h.sum j hj)
    · rw [if_neg e, cs_ne (by omega)]; exact h.sum j hj
  · intro j hj
    by_cases e : j = g
    · subst e; rw [if_pos rfl]; exact cs_eq (u := .bool (M j)) (by rw [cs_ne (by omega)]; exact h.met j hj)
    · rw [if_neg e, cs_ne (by omega), cs_ne (by omega)]; exact h.met j hj
  · intro j; simpa [go_sem] using h.fr j
theorem Grp.congr {w : World} {B o : Nat} {S S' : Nat → Int} {M M' : Nat → Bool} (h : Grp w B o S M) (h1 : ∀ g, g < 8 → S' g = S g) (h2 : ∀ g, g < 8 → M' g = M g) : Grp w B o S' M' :=
  ⟨h.size, fun g hg => by rw [h1 g hg]; exact h.sum g hg, fun g hg => by rw [h2 g hg]; exact h.met g hg, h.fr⟩

set_option maxRecDepth 100000 in
set_option maxHeartbeats 2000000 in
theorem gadd_any (v q : Int) (B o g : Nat) (S : Nat → Int) (M : Nat → Bool) (w : World) (h : Grp w B o S M) (hq1 : 1 ≤ q) (hq8 : q ≤ 8) (hg : v % q = g) (hg8 : g < 8) :
    Calls Try.prog 160 #[.pointer (some ⟨B, o, none⟩), .int .i64 v, .int .i64 q] w fun e w' => e = .returned (.tuple #[]) ∧ Bw ((w.setCell ⟨B, o + g, none⟩ (.int .i64 (wrap64 (S g + v)))).setCell ⟨B, o + 8 + g, none⟩ (.bool true)) w' := by
  have hs := h.sum g hg8
  have hm := h.met g hg8
  have hf := h.fr
  have hsz := h.size
  have Hg := hide hg
  have hgi : (g : Int) < 8 := by omega
  clear h hg
  go_enter Try.func160, Try.ntmps160
  go_wp2_with (go_at_call 152; refine (vrest_any _ _ _ hq1 (by omega)).mono ?_; rintro e w' ⟨rfl, rfl⟩; rw [unhide Hg])
  go_region
  go_wp2_with fail
  go_end0
  exact ⟨rfl, (by repeat (first | exact Bw.refl _ | assumption | refine Bw.drew ?_ | refine Bw.drewN ?_ _ | refine Bw.alloc ?_ _ | refine Bw.trans ?_ (by assumption)))⟩

/-- The sums of the groups ahead of m that have one. -/
def grpOf (S : Nat → Int) (M : Nat → Bool) : Nat → List Int
  | 0 => []
  | m + 1 => if M m then grpOf S M m ++ [S m] else grpOf S M m
theorem grpOf_len (S : Nat → Int) (M : Nat → Bool) (m : Nat) : (grpOf S M m).length ≤ m := by
  induction m with
  | zero => simp [grpOf]
  | succ m ih => unfold grpOf; split <;> (try simp) <;> omega
theorem grpOf_yes {S : Nat → Int} {M : Nat → Bool} {m : Nat} (h : M m = true) : grpOf S M (m + 1) = grpOf S M m ++ [S m] := by rw [grpOf, if_pos h]
theorem grpOf_no {S : Nat → Int} {M : Nat → Bool} {m : Nat} (h : M m = false) : grpOf S M (m + 1) = grpOf S M m := by rw [grpOf, h]; rfl
theorem grpTo_of (xs : List Int) (q : Int) (m : Nat) : grpTo xs q m = grpOf (fun g => gsumTo xs q g xs.length) (fun g => gmetTo xs q g xs.length) m := by
  induction m with
  | zero => rfl
  | succ m ih => rw [grpTo, grpOf, ih]
set_option maxRecDepth 100000 in
set_option maxHeartbeats 2000000 in
theorem gsums_any (B o : Nat) (S : Nat → Int) (M : Nat → Bool) (w : World) (h : Grp w B o S M) :
    Calls Try.prog 155 #[.pointer (some ⟨B, o, none⟩)] w fun e w' => ∃ v, e = .returned v ∧ Own w w' v (grpOf S M 8) ∧ Bw w w' := by
  have HG := hide h
  have hsz := h.size
  clear h
  go_enter Try.func155, Try.ntmps155
  go_wp2_with fail
  go_loopw [3, 4] (fun v i wr => ∃ m : Nat, m ≤ 8 ∧ i = .int .i64 m ∧ Own w wr v (grpOf S M m) ∧ Bw w wr) (fun _ i _ => 8 - (intOf i).toNat)
  case atStart => exact ⟨0, Nat.zero_le _, rfl, Own.nil _ _, (by repeat (first | exact Bw.refl _ | assumption | refine Bw.drew ?_ | refine Bw.drewN ?_ _ | refine Bw.alloc ?_ _ | refine Bw.trans ?_ (by assumption)))⟩
  case round =>
    obtain ⟨m, hm8, rfl, hown, hB2⟩ := hrel
    rename World => wr
    have hln := grpOf_len S M m
    by_cases hlt2 : m < 8
    · have hG2 := (unhide HG).bw hB2
      have hs := hG2.sum m hlt2
      have hm := hG2.met m hlt2
      have hsz2 := hG2.size
      have hm1 : (m : Int) < 8 := by omega
      clear hG2
      have Hy := hide (@grpOf_yes S M m)
      have Hn := hide (@grpOf_no S M m)
      cases hmt : M m with
      | true =>
        rw [hmt] at hm
        go_wp2_with (at_builtin; refine app1 _ rfl _ _ rfl _ _ (grpOf S M m) rfl (hown.bw (by repeat (first | exact Bw.refl _ | assumption | refine Bw.drew ?_ | refine Bw.drewN ?_ _ | refine Bw.alloc ?_ _ | refine Bw.trans ?_ (by assumption)))) _ _ (S m) rfl (by simp) (by omega) (by repeat (first | exact Bw.refl _ | assumption | refine Bw.drew ?_ | refine Bw.drewN ?_ _ | refine Bw.alloc ?_ _ | refine Bw.trans ?_ (by assumption))) ?_; intro v' w2 hown1 hB3 hgr1)
        go_roundw
        case rel => exact ⟨m + 1, by omega, by go_num, by rw [(unhide Hy) hmt]; exact hown1, hB3⟩
        case measure => simp [intOf]; omega
      | false =>
        rw [hmt] at hm
        go_wp2_with fail
        go_roundw
        case rel => exact ⟨m + 1, by omega, by go_num, by rw [(unhide Hn) hmt]; exact hown, hB2⟩
        case measure => simp [intOf]; omega
    · have hmm : m = 8 := by omega
      subst hmm
      go_wp2_with fail
      go_ret
      exact ⟨_, rfl, hown, hB2⟩

set_option maxRecDepth 100000 in
set_option maxHeartbeats 2000000 in
theorem groupSums_any (xs : List Int) (q : Int) (ad : Option Addr) (cap : Nat) (w : World) (hx : IntsAt w ad xs) (hl : xs.length ≤ 1000000) (hq1 : 1 ≤ q) (hq8 : q ≤ 8) :
    Calls Try.prog 159 #[.slice ad xs.length cap, .int .i64 q] w fun e w' => ∃ v, e = .returned v ∧ Own w w' v (grpTo xs q 8) ∧ Bw w w' := by
  go_enter Try.func159, Try.ntmps159
  go_wp2_with fail
  go_loopw [10] (fun i wr => ∃ k : Nat, k ≤ xs.length ∧ i = .int .i64 k ∧ Grp wr w.heap.size 0 (fun g => gsumTo xs q g k) (fun g => gmetTo xs q g k) ∧ Bw w wr) (fun i _ => xs.length - (intOf i).toNat)
  case atStart =>
    exact ⟨0, Nat.zero_le _, rfl, (Grp.init w _).congr (fun _ _ => rfl) (fun _ _ => rfl), (by repeat (first | exact Bw.refl _ | assumption | refine Bw.drew ?_ | refine Bw.drewN ?_ _ | refine Bw.alloc ?_ _ | refine Bw.trans ?_ (by assumption)))⟩
  case round =>
    obtain ⟨k, hk, rfl, hG, hB⟩ := hrel
    rename World => wr
    obtain ⟨gcc, gff⟩ := bcell hB
    by_cases hlt : k < xs.length
    · obtain ⟨b, off, rfl, hb, hc⟩ := hx k hlt
      have hc1 := hc k hlt
      clear hc
      obtain ⟨g, hg, hg8⟩ : ∃ g : Nat, nth xs k % q = g ∧ g < 8 := by
        have b1 := Int.emod_nonneg (nth xs k) (b := q) (by omega)
        have b2 := Int.emod_lt_of_pos (nth xs k) (b := q) (by omega)
        exact ⟨(nth xs k % q).toNat, by omega, by omega⟩
      have HA := hide (gadd_any (nth xs k) q w.heap.size 0 g _ _ wr hG hq1 hq8 hg hg8)
      have Hst := hide ((hG.step (x := nth xs k) hg8).congr (S' := fun g => gsumTo xs q g (k + 1)) (M' := fun g => gmetTo xs q g (k + 1))
        (fun j _ => by
          by_cases e : j = g
          · subst e; simp [(gsum_yes hg).1]
          · simp [e, (gsum_no (xs := xs) (k := k) (q := q) (g := j) (by omega)).1])
        (fun j _ => by
          by_cases e : j = g
          · subst e; simp [(gsum_yes hg).2]
          · simp [e, (gsum_no (xs := xs) (k := k) (q := q) (g := j) (by omega)).2]))
      have hsz := hG.size
      clear hG hg
      generalize nth xs k = x at *
      go_wp2_with (go_at_call 160; refine (unhide HA).mono ?_; rintro e w' ⟨rfl, hbA⟩)
      go_roundw
      case rel => exact ⟨k + 1, by omega, by go_num, (unhide Hst).bw hbA, ((hB.setCell (Nat.le_refl _) _).setCell (Nat.le_refl _) _).trans hbA⟩
      case measure => simp [intOf]; omega
    · have hkk : k = xs.length := by omega
      subst hkk
      have HS := hide (gsums_any w.heap.size 0 _ _ wr hG)
      clear hG
      go_wp2_with (go_at_call 155; refine (unhide HS).mono ?_; rintro e w2 ⟨v, rfl, hown, hB2⟩)
      go_ret
      exact ⟨_, rfl, by rw [grpTo_of]; exact hown.weaken hB, hB.trans hB2⟩
end Go.Proofs.Ytfemleimkbjehaa
