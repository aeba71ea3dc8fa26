import Derived.Test.YtfemleimkbjehaaRows
import Derived.WalkKit
import Derived.WalkSpells
import Derived.WalkLawsBesides
import Derived.Deep.QuietTactic
import Derived.BigQuiet
import Derived.WalkSmall
namespace Go.Proofs.Ytfemleimkbjehaa
open Go.RowKit

theorem hide {p : Prop} (h : p) : Hid p := h
theorem unhide {p : Prop} (h : Hid p) : p := h
theorem getD_lt {α : Type} (xs : List α) (d : α) {k : Nat} (h : k < xs.length) : xs.getD k d = xs[k] := by simp [List.getD, h]
theorem ret_bool {a b : Bool} (h : a = b) : Ending.returned (.bool a) = .returned (.bool b) := by rw [h]
theorem ret_int {k : IntKind} {a b : Int} (h : a = b) : Ending.returned (.int k a) = .returned (.int k b) := by rw [h]

/-- All that was in w is in w' as it was. -/
def Bw (w w' : World) : Prop := Below w.heap.size w w'
theorem Bw.refl (w : World) : Bw w w := Below.refl _ _
theorem Bw.trans {w a b : World} (h1 : Bw w a) (h2 : Bw a b) : Bw w b := Below.trans h1 (Below.mono h2 (Below.size h1))
theorem Bw.alloc {w a : World} (h : Bw w a) (o : Obj) : Bw w (a.alloc o) := Below.alloc h (Below.size h) o
theorem Bw.drew {w a : World} (h : Bw w a) : Bw w a.drew := Below.drew h
theorem Bw.drewN {w a : World} (h : Bw w a) (n : Nat) : Bw w (a.drewN n) := below_drewN h n
theorem Bw.setCell {w a : World} (h : Bw w a) {p : Addr} (hp : w.heap.size ≤ p.block) (u : Value) : Bw w (a.setCell p u) := Below.setCell h hp u
theorem Bw.size {w a : World} (h : Bw w a) : w.heap.size ≤ a.heap.size := Below.size h
theorem bcell {W w1 : World} (hb : Bw W w1) : (∀ b o, b < W.heap.size → w1.cell? ⟨b, o, none⟩ = W.cell? ⟨b, o, none⟩) ∧ (∀ b o, b < W.heap.size → w1.frozen? ⟨b, o, none⟩ = W.frozen? ⟨b, o, none⟩) :=
  ⟨fun b o h => Below.cell hb (p := ⟨b, o, none⟩) h, fun b o h => Below.frozen hb (p := ⟨b, o, none⟩) h⟩

/-- The k-th number of a list (a name that the walk does not lay open). -/
def nth (xs : List Int) (k : Nat) : Int := xs.getD k 0
/-- Is n among xs? -/
def hasB (xs : List Int) (n : Int) : Bool := xs.contains n

/-- A node, as numbers. -/
structure Nd where
  kind : Int
  a : Int
  b : Int
  k : Int
  m : Int

/-- A node as a Go value. -/
def Nd.val (x : Nd) : Value := .agg #[.int .i64 x.kind, .int .i64 x.a, .int .i64 x.b, .int .i64 x.k, .int .i64 x.m]

/-- Whole numbers in a row of memory: what a slice's address and length reach. -/
def IntsAt (w : World) (ad : Option Addr) (xs : List Int) : Prop :=
  ∀ i, i < xs.length → ∃ b off, ad = some ⟨b, off, none⟩ ∧ b < w.heap.size ∧ ∀ j, j < xs.length → w.cell? ⟨b, off + j, none⟩ = some (.int .i64 (nth xs j))

theorem nth_lt {xs : List Int} {k : Nat} (hk : k < xs.length) : nth xs k = xs[k] := getD_lt _ _ hk
theorem hasB_yes {xs : List Int} {n : Int} {k : Nat} (hk : k < xs.length) (h : (nth xs k == n) = true) : hasB xs n = true := by
  unfold hasB; rw [List.contains_iff_mem, ← beq_iff_eq.1 h, nth_lt hk]; exact List.getElem_mem hk
theorem hasB_no {xs : List Int} {n : Int} (h : ∀ j, j < xs.length → (nth xs j == n) = false) : hasB xs n = false := by
  unfold hasB
  cases hc : xs.contains n with
  | false => rfl
  | true =>
    rw [List.contains_iff_mem] at hc
    obtain ⟨j, hj, e⟩ := List.getElem_of_mem hc
    have := h j hj
    rw [nth_lt hj, e] at this
    simp at this
theorem all_snoc {p : Nat → Prop} {k : Nat} (h : ∀ j, j < k → p j) (hk : p k) : ∀ j, j < k + 1 → p j := fun j hj => by
  by_cases e : j = k
  · subst e; exact hk
  · exact h j (by omega)

set_option maxHeartbeats 400000 in
theorem contains_any (xs : List Int) (n : Int) (ad : Option Addr) (cap : Nat) (w : World) (hx : IntsAt w ad xs) (hl : xs.length ≤ maxLen) :
    Calls Try.prog 94 #[.slice ad xs.length cap, .int .i64 n] w fun e w' => e = .returned (.bool (hasB xs n)) ∧ w' = w := by
  unfold maxLen at hl
  go_enter Try.func94, Try.ntmps94
  go_wp2
  go_loop [9] (fun i => ∃ k : Nat, k ≤ xs.length ∧ i = .int .i64 k ∧ ∀ j, j < k → (nth xs j == n) = false) (fun i => xs.length - (intOf i).toNat)
  case atStart => exact ⟨0, Nat.zero_le _, rfl, fun j hj => absurd hj (Nat.not_lt_zero j)⟩
  case round =>
    obtain ⟨k, hk, rfl, hno⟩ := hrel
    have Hno := hide hno
    clear hno
    by_cases hlt : k < xs.length
    · obtain ⟨b, off, rfl, hb, hc⟩ := hx k hlt
      have hc1 := hc k hlt
      clear hc
      go_wp2
      · go_ret
        exact ⟨ret_bool (hasB_yes hlt (by assumption)).symm, rfl⟩
      · go_round
        case rel => exact ⟨k + 1, by omega, by go_num, all_snoc (unhide Hno) (by assumption)⟩
        case measure => simp [intOf]; omega
    · go_wp2
      go_ret
      exact ⟨ret_bool (hasB_no fun j hj => (unhide Hno) j (by omega)).symm, rfl⟩
end Go.Proofs.Ytfemleimkbjehaa
