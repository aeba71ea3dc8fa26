import Derived.Test.YtglhdfedokcleaaValA
import Derived.Test.YtglhdfedokcleaaChecksW
namespace Go.Proofs.Ytglhdfedokcleaa
open Go.RowKit

def gsumTo (xs : List Int) (q : Int) (g : Nat) : Nat → Int
  | 0 => 0
  | k + 1 => if nth xs k % q == g then wrap64 (gsumTo xs q g k + nth xs k) else gsumTo xs q g k
def gmetTo (xs : List Int) (q : Int) (g : Nat) : Nat → Bool
  | 0 => false
  | k + 1 => if nth xs k % q == g then true else gmetTo xs q g k
/-- The sums of the groups ahead of m. -/
def grpTo (xs : List Int) (q : Int) : Nat → List Int
  | 0 => []
  | m + 1 => if gmetTo xs q m xs.length then grpTo xs q m ++ [gsumTo xs q m xs.length] else grpTo xs q m
theorem grpTo_len (xs : List Int) (q : Int) (m : Nat) : (grpTo xs q m).length ≤ m := by
  induction m with
  | zero => simp [grpTo]
  | succ m ih => unfold grpTo; split <;> (try simp) <;> omega
theorem gsum_yes {xs : List Int} {q : Int} {g k : Nat} (h : nth xs k % q = g) : gsumTo xs q g (k + 1) = wrap64 (gsumTo xs q g k + nth xs k) ∧ gmetTo xs q g (k + 1) = true := by simp [gsumTo, gmetTo, h]
theorem gsum_no {xs : List Int} {q : Int} {g k : Nat} (h : nth xs k % q ≠ g) : gsumTo xs q g (k + 1) = gsumTo xs q g k ∧ gmetTo xs q g (k + 1) = gmetTo xs q g k := by simp [gsumTo, gmetTo, h]
theorem grp_yes {xs : List Int} {q : Int} {m : Nat} (h : gmetTo xs q m xs.length = true) : grpTo xs q (m + 1) = grpTo xs q m ++ [gsumTo xs q m xs.length] := by rw [grpTo, if_pos h]
theorem grp_no {xs : List Int} {q : Int} {m : Nat} (h : gmetTo xs q m xs.length = false) : grpTo xs q (m + 1) = grpTo xs q m := by rw [grpTo, h]; rfl

/-- The two arrays of GroupSums. -/
structure Grp (w : World) (B : Nat) (xs : List Int) (q : Int) (k : Nat) : Prop where
  size : B + 1 < w.heap.size
  sum : ∀ g, g < 8 → w.cell? ⟨B, g, none⟩ = some (.int .i64 (gsumTo xs q g k))
  met : ∀ g, g < 8 → w.cell? ⟨B + 1, g, none⟩ = some (.bool (gmetTo xs q g k))
  fr : ∀ g, w.frozen? ⟨B, g, none⟩ = false ∧ w.frozen? ⟨B + 1, g, none⟩ = false

theorem eight (v : Value) : ∀ g, g < 8 → (#[v, v, v, v, v, v, v, v])[g]? = some v := by
  intro g hg
  match g, hg with
  | 0, _ => rfl
  | 1, _ => rfl
  | 2, _ => rfl
  | 3, _ => rfl
  | 4, _ => rfl
  | 5, _ => rfl
  | 6, _ => rfl
  | 7, _ => rfl
theorem Grp.init (w : World) (xs : List Int) (q : Int) (t u : TypeId) : Grp ((w.alloc (.cells #[.int .i64 0, .int .i64 0, .int .i64 0, .int .i64 0, .int .i64 0, .int .i64 0, .int .i64 0, .int .i64 0] t)).alloc (.cells #[.bool false, .bool false, .bool false, .bool false, .bool false, .bool false, .bool false, .bool false] u)) w.heap.size xs q 0 := by
  have h1 : ((w.alloc (.cells #[.int .i64 0, .int .i64 0, .int .i64 0, .int .i64 0, .int .i64 0, .int .i64 0, .int .i64 0, .int .i64 0] t)).alloc (.cells #[.bool false, .bool false, .bool false, .bool false, .bool false, .bool false, .bool false, .bool false] u)).heap[w.heap.size]? = some (.cells #[.int .i64 0, .int .i64 0, .int .i64 0, .int .i64 0, .int .i64 0, .int .i64 0, .int .i64 0, .int .i64 0] t) :=
    (Below.heap_alloc _ _ w.heap.size (by simp)).trans (heap_alloc_new w _)
  have h2 : ((w.alloc (.cells #[.int .i64 0, .int .i64 0, .int .i64 0, .int .i64 0, .int .i64 0, .int .i64 0, .int .i64 0, .int .i64 0] t)).alloc (.cells #[.bool false, .bool false, .bool false, .bool false, .bool false, .bool false, .bool false, .bool false] u)).heap[w.heap.size + 1]? = some (.cells #[.bool false, .bool false, .bool false, .bool false, .bool false, .bool false, .bool false, .bool false] u) :=
    alloc_at _ _ (by simp)
  exact ⟨by simp, fun g hg => cell_of_block h1 (eight _ g hg), fun g hg => cell_of_block h2 (eight _ g hg), fun g => ⟨frozen_of_block h1, frozen_of_block h2⟩⟩
theorem Grp.bw {w w' : World} {B : Nat} {xs : List Int} {q : Int} {k : Nat} (h : Grp w B xs q k) (hb : Bw w w') : Grp w' B xs q k := by
  have h0 := h.size
  obtain ⟨q1, q2⟩ := bcell hb
  exact ⟨Nat.lt_of_lt_of_le h0 hb.size, fun g hg => (q1 _ _ (by omega)).trans (h.sum g hg), fun g hg => (q1 _ _ (by omega)).trans (h.met g hg), fun g => ⟨(q2 _ _ (by omega)).trans (h.fr g).1, (q2 _ _ (by omega)).trans (h.fr g).2⟩⟩
theorem Grp.step {w : World} {B : Nat} {xs : List Int} {q x : Int} {k g : Nat} (h : Grp w B xs q k) (hg : g < 8) (hy : gsumTo xs q g (k + 1) = wrap64 (gsumTo xs q g k + x) ∧ gmetTo xs q g (k + 1) = true)
    (hn : ∀ j, j ≠ g → gsumTo xs q j (k + 1) = gsumTo xs q j k ∧ gmetTo xs q j (k + 1) = gmetTo xs q j k) :
    Grp ((w.setCell ⟨B, g, none⟩ (.int .i64 (wrap64 (gsumTo xs q g k + x)))).setCell ⟨B + 1, g, none⟩ (.bool true)) B xs q (k + 1) := by
  have h0 := h.size
  refine ⟨by simpa using h0, ?_, ?_, ?_⟩
  · intro j hj
    rw [cs_ne (by omega)]
    by_cases e : j = g
    · subst e; rw [hy.1]; exact cs_eq (h.sum j hj)
    · rw [(hn j e).1, cs_ne (by omega)]; exact h.sum j hj
  · intro j hj
    by_cases e : j = g
    · subst e; rw [hy.2]; exact cs_eq (u := .bool (gmetTo xs q j k)) (by rw [cs_ne (by omega)]; exact h.met j hj)
    · rw [(hn j e).2, cs_ne (by omega), cs_ne (by omega)]; exact h.met j hj
  · intro j; simpa [go_sem] using h.fr j

set_option maxRecDepth 100000 in
set_option maxHeartbeats 2000000 in
theorem groupSums_any (xs : List Int) (q : Int) (ad : Option Addr) (cap : Nat) (w : World) (hx : IntsAt w ad xs) (hl : xs.length ≤ 1000000) (hq1 : 1 ≤ q) (hq8 : q ≤ 8) :
    Calls Try.prog 75 #[.slice ad xs.length cap, .int .i64 q] w fun e w' => ∃ v, e = .returned v ∧ Own w w' v (grpTo xs q 8) ∧ Bw w w' := by
  go_enter Try.func75, Try.ntmps75
  go_wp2_with fail
  go_loopw [14] (fun i wr => ∃ k : Nat, k ≤ xs.length ∧ i = .int .i64 k ∧ Grp wr w.heap.size xs q k ∧ Bw w wr) (fun i _ => xs.length - (intOf i).toNat)
  case atStart =>
    exact ⟨0, Nat.zero_le _, rfl, Grp.init _ _ _ _ _, (by repeat (first | exact Bw.refl _ | assumption | refine Bw.drew ?_ | refine Bw.drewN ?_ _ | refine Bw.alloc ?_ _ | refine Bw.trans ?_ (by assumption)))⟩
  case round =>
    obtain ⟨k, hk, rfl, hG, hB⟩ := hrel
    obtain ⟨gcc, gff⟩ := bcell hB
    by_cases hlt : k < xs.length
    · obtain ⟨b, off, rfl, hb, hc⟩ := hx k hlt
      have hc1 := hc k hlt
      clear hc
      obtain ⟨g, hg, hg8⟩ : ∃ g : Nat, nth xs k % q = g ∧ g < 8 := by
        have b1 := Int.emod_nonneg (nth xs k) (b := q) (by omega)
        have b2 := Int.emod_lt_of_pos (nth xs k) (b := q) (by omega)
        exact ⟨(nth xs k % q).toNat, by omega, by omega⟩
      have hs := hG.sum g hg8
      have hm := hG.met g hg8
      have HG := hide hG
      clear hG
      obtain ⟨hf1, hf2⟩ := (unhide HG).fr g
      have hsz := (unhide HG).size
      have Hy := hide (gsum_yes hg)
      have Hn : Hid (∀ j, j ≠ g → gsumTo xs q j (k + 1) = gsumTo xs q j k ∧ gmetTo xs q j (k + 1) = gmetTo xs q j k) := hide (fun j hj => gsum_no (by omega))
      have Hg := hide hg
      clear hg
      generalize nth xs k = x at *
      go_wp2_with (go_at_call 76; refine (vrest_any _ _ _ hq1 (by omega)).mono ?_; rintro e w' ⟨rfl, rfl⟩; rw [unhide Hg])
      go_roundw
      case rel => exact ⟨k + 1, by omega, by go_num, (unhide HG).step hg8 (unhide Hy) (unhide Hn), (hB.setCell (Nat.le_refl _) _).setCell (Nat.le_succ _) _⟩
      case measure => simp [intOf]; omega
    · have hkk : k = xs.length := by omega
      subst hkk
      rename World => w1
      go_wp2_with fail
      go_loopw [10, 11] (fun v i wr => ∃ m : Nat, m ≤ 8 ∧ i = .int .i64 m ∧ Own w1 wr v (grpTo xs q m) ∧ Bw w1 wr) (fun _ i _ => 8 - (intOf i).toNat)
      case atStart => exact ⟨0, Nat.zero_le _, rfl, Own.nil _ _, Bw.refl _⟩
      case round =>
        obtain ⟨m, hm8, rfl, hown, hB2⟩ := hrel
        obtain ⟨q1, q2⟩ := bcell hB2
        have hln := grpTo_len xs q m
        by_cases hlt2 : m < 8
        · have hs := hG.sum m hlt2
          have hm := hG.met m hlt2
          have hsz := hG.size
          have hsz0 : w.heap.size < w1.heap.size := by omega
          have HG := hide hG
          clear hG
          have Hy := hide (@grp_yes xs q m)
          have Hn := hide (@grp_no xs q m)
          cases hmt : gmetTo xs q m xs.length with
          | true =>
            rw [hmt] at hm
            go_wp2_with (at_builtin; refine app1 _ rfl _ _ rfl _ _ (grpTo xs q m) rfl (hown.bw (by repeat (first | exact Bw.refl _ | assumption | refine Bw.drew ?_ | refine Bw.drewN ?_ _ | refine Bw.alloc ?_ _ | refine Bw.trans ?_ (by assumption)))) _ _ (gsumTo xs q m xs.length) rfl (by simp) (by omega) (by repeat (first | exact Bw.refl _ | assumption | refine Bw.drew ?_ | refine Bw.drewN ?_ _ | refine Bw.alloc ?_ _ | refine Bw.trans ?_ (by assumption))) ?_; intro v' w2 hown1 hB3 hgr1)
            go_roundw
            case rel => exact ⟨m + 1, by omega, by go_num, by rw [(unhide Hy) hmt]; exact hown1, hB3⟩
            case measure => simp [intOf]; omega
          | false =>
            rw [hmt] at hm
            go_wp2_with fail
            go_roundw
            case rel => exact ⟨m + 1, by omega, by go_num, by rw [(unhide Hn) hmt]; exact hown, hB2⟩
            case measure => simp [intOf]; omega
        · have hmm : m = 8 := by omega
          subst hmm
          go_wp2_with fail
          go_ret
          exact ⟨_, rfl, hown.weaken hB, hB.trans hB2⟩
end Go.Proofs.Ytglhdfedokcleaa
