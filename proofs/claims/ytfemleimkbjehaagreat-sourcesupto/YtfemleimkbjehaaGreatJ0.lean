import Derived.Test.YtfemleimkbjehaaGreatRows
import Derived.WalkKit
import Derived.WalkSpells
import Derived.WalkLawsBesides
import Derived.Deep.QuietTactic
import Derived.BigQuiet
import Derived.WalkSmall
import Derived.Deep.AppendLies
namespace Go.Proofs.YtfemleimkbjehaaGreat
set_option linter.unusedVariables false
set_option linter.unusedSimpArgs false
open Go.RowKit

theorem hide {p : Prop} (h : p) : Hid p := h
theorem unhide {p : Prop} (h : Hid p) : p := h
theorem getD_lt {α : Type} (xs : List α) (d : α) {k : Nat} (h : k < xs.length) : xs.getD k d = xs[k] := by simp [List.getD, h]
theorem ret_bool {a b : Bool} (h : a = b) : Ending.returned (.bool a) = .returned (.bool b) := by rw [h]
theorem ret_int {k : IntKind} {a b : Int} (h : a = b) : Ending.returned (.int k a) = .returned (.int k b) := by rw [h]

/-- All that was in w is in w' as it was. -/
def Bw (w w' : World) : Prop := Below w.heap.size w w'
theorem Bw.refl (w : World) : Bw w w := Below.refl _ _
theorem Bw.trans {w a b : World} (h1 : Bw w a) (h2 : Bw a b) : Bw w b := Below.trans h1 (Below.mono h2 (Below.size h1))
theorem Bw.alloc {w a : World} (h : Bw w a) (o : Obj) : Bw w (a.alloc o) := Below.alloc h (Below.size h) o
theorem Bw.drew {w a : World} (h : Bw w a) : Bw w a.drew := Below.drew h
theorem Bw.drewN {w a : World} (h : Bw w a) (n : Nat) : Bw w (a.drewN n) := below_drewN h n
theorem Bw.setCell {w a : World} (h : Bw w a) {p : Addr} (hp : w.heap.size ≤ p.block) (u : Value) : Bw w (a.setCell p u) := Below.setCell h hp u
theorem Bw.size {w a : World} (h : Bw w a) : w.heap.size ≤ a.heap.size := Below.size h
theorem bcell {W w1 : World} (hb : Bw W w1) : (∀ b o, b < W.heap.size → w1.cell? ⟨b, o, none⟩ = W.cell? ⟨b, o, none⟩) ∧ (∀ b o, b < W.heap.size → w1.frozen? ⟨b, o, none⟩ = W.frozen? ⟨b, o, none⟩) :=
  ⟨fun b o h => Below.cell hb (p := ⟨b, o, none⟩) h, fun b o h => Below.frozen hb (p := ⟨b, o, none⟩) h⟩

/-- The k-th number of a list (a name that the walk does not lay open). -/
def nth (xs : List Int) (k : Nat) : Int := xs.getD k 0
/-- Is n among xs? -/
def hasB (xs : List Int) (n : Int) : Bool := xs.contains n

/-- A node, as numbers. -/
structure Nd where
  kind : Int
  a : Int
  b : Int
  k : Int
  m : Int

/-- A node as a Go value. -/
def Nd.val (x : Nd) : Value := .agg #[.int .i64 x.kind, .int .i64 x.a, .int .i64 x.b, .int .i64 x.k, .int .i64 x.m]

/-- Whole numbers in a row of memory: what a slice's address and length reach. -/
def IntsAt (w : World) (ad : Option Addr) (xs : List Int) : Prop :=
  ∀ i, i < xs.length → ∃ b off, ad = some ⟨b, off, none⟩ ∧ b < w.heap.size ∧ ∀ j, j < xs.length → w.cell? ⟨b, off + j, none⟩ = some (.int .i64 (nth xs j))

theorem nth_lt {xs : List Int} {k : Nat} (hk : k < xs.length) : nth xs k = xs[k] := getD_lt _ _ hk
theorem hasB_yes {xs : List Int} {n : Int} {k : Nat} (hk : k < xs.length) (h : (nth xs k == n) = true) : hasB xs n = true := by
  unfold hasB; rw [List.contains_iff_mem, ← beq_iff_eq.1 h, nth_lt hk]; exact List.getElem_mem hk
theorem hasB_no {xs : List Int} {n : Int} (h : ∀ j, j < xs.length → (nth xs j == n) = false) : hasB xs n = false := by
  unfold hasB
  cases hc : xs.contains n with
  | false => rfl
  | true =>
    rw [List.contains_iff_mem] at hc
    obtain ⟨j, hj, e⟩ := List.getElem_of_mem hc
    have := h j hj
    rw [nth_lt hj, e] at this
    simp at this
theorem all_snoc {p : Nat → Prop} {k : Nat} (h : ∀ j, j < k → p j) (hk : p k) : ∀ j, j < k + 1 → p j := fun j hj => by
  by_cases e : j = k
  · subst e; exact hk
  · exact h j (by omega)

set_option maxHeartbeats 400000 in
theorem contains_any (xs : List Int) (n : Int) (ad : Option Addr) (cap : Nat) (w : World) (hx : IntsAt w ad xs) (hl : xs.length ≤ maxLen) :
    Calls Tryz.prog 105 #[.slice ad xs.length cap, .int .i64 n] w fun e w' => e = .returned (.bool (hasB xs n)) ∧ w' = w := by
  unfold maxLen at hl
  go_enter Tryz.func105, Tryz.ntmps105
  go_wp2
  go_loop [9] (fun i => ∃ k : Nat, k ≤ xs.length ∧ i = .int .i64 k ∧ ∀ j, j < k → (nth xs j == n) = false) (fun i => xs.length - (intOf i).toNat)
  case atStart => exact ⟨0, Nat.zero_le _, rfl, fun j hj => absurd hj (Nat.not_lt_zero j)⟩
  case round =>
    obtain ⟨k, hk, rfl, hno⟩ := hrel
    have Hno := hide hno
    clear hno
    by_cases hlt : k < xs.length
    · obtain ⟨b, off, rfl, hb, hc⟩ := hx k hlt
      have hc1 := hc k hlt
      clear hc
      go_wp2
      · go_ret
        exact ⟨ret_bool (hasB_yes hlt (by assumption)).symm, rfl⟩
      · go_round
        case rel => exact ⟨k + 1, by omega, by go_num, all_snoc (unhide Hno) (by assumption)⟩
        case measure => simp [intOf]; omega
    · go_wp2
      go_ret
      exact ⟨ret_bool (hasB_no fun j hj => (unhide Hno) j (by omega)).symm, rfl⟩
end Go.Proofs.YtfemleimkbjehaaGreat
namespace Go.Proofs.YtfemleimkbjehaaGreat
set_option linter.unusedVariables false
set_option linter.unusedSimpArgs false
open Go.RowKit

def ndn (ns : List Nd) (k : Nat) : Nd := ns.getD k ⟨0, 0, 0, 0, 0⟩

/-- Nodes in a row of memory. -/
def NodesAt (w : World) (ad : Option Addr) (ns : List Nd) : Prop :=
  ∀ i, i < ns.length → ∃ b off, ad = some ⟨b, off, none⟩ ∧ b < w.heap.size ∧ ∀ j, j < ns.length →
    w.cell? ⟨b, off + j * 5, none⟩ = some (.int .i64 (ndn ns j).kind) ∧ w.cell? ⟨b, off + j * 5 + 1, none⟩ = some (.int .i64 (ndn ns j).a) ∧
    w.cell? ⟨b, off + j * 5 + 2, none⟩ = some (.int .i64 (ndn ns j).b) ∧ w.cell? ⟨b, off + j * 5 + 3, none⟩ = some (.int .i64 (ndn ns j).k) ∧
    w.cell? ⟨b, off + j * 5 + 4, none⟩ = some (.int .i64 (ndn ns j).m)

theorem NodesAt.below {w w' : World} {ad : Option Addr} {ns : List Nd} (h : NodesAt w ad ns) (hb : Bw w w') : NodesAt w' ad ns := by
  intro i hi
  obtain ⟨b, off, e, hlt, hc⟩ := h i hi
  refine ⟨b, off, e, Nat.lt_of_lt_of_le hlt hb.size, fun j hj => ?_⟩
  obtain ⟨c0, c1, c2, c3, c4⟩ := hc j hj
  exact ⟨((bcell hb).1 _ _ hlt).trans c0, ((bcell hb).1 _ _ hlt).trans c1, ((bcell hb).1 _ _ hlt).trans c2, ((bcell hb).1 _ _ hlt).trans c3, ((bcell hb).1 _ _ hlt).trans c4⟩

def isNodeB (len : Nat) (n : Int) : Bool := decide (0 ≤ n) && decide (n < len)
def takesB (x : Nd) (n : Int) : Bool := !(x.kind == 0) && ((x.a == n) || ((x.kind == 3) && (x.b == n)))
def cbtfB (ns : List Nd) (n : Int) : Bool := isNodeB ns.length n && !((ndn ns n.toNat).kind == 7)

theorem isNodeB_iff {len : Nat} {n : Int} : isNodeB len n = true ↔ 0 ≤ n ∧ n < len := by simp [isNodeB]

set_option maxHeartbeats 400000 in
theorem isNode_any (ad : Option Addr) (len cap : Nat) (r n : Int) (w : World) :
    Calls Tryz.prog 92 #[.agg #[.slice ad len cap, .int .i64 r], .int .i64 n] w fun e w' => e = .returned (.bool (isNodeB len n)) ∧ Bw w w' := by
  by_cases h : 0 ≤ n
  · go_enter Tryz.func92, Tryz.ntmps92
    go_wp2
    go_ret
    exact ⟨ret_bool (by simp [isNodeB, h]), (Bw.refl _).alloc _⟩
  · go_enter Tryz.func92, Tryz.ntmps92
    go_wp2
    go_ret
    exact ⟨ret_bool (by have h' : ¬ 0 ≤ n := by omega
                        simp [isNodeB, h']), (Bw.refl _).alloc _⟩

set_option maxHeartbeats 400000 in
theorem takes_any (x : Nd) (n : Int) (w : World) :
    Calls Tryz.prog 112 #[x.val, .int .i64 n] w fun e w' => e = .returned (.bool (takesB x n)) ∧ Bw w w' := by
  unfold Nd.val
  go_enter Tryz.func112, Tryz.ntmps112
  go_wp2
  all_goals
    go_ret
    exact ⟨ret_bool (by rw [Bool.eq_iff_iff]; simp_all [takesB]), (Bw.refl _).alloc _⟩

set_option maxHeartbeats 400000 in
theorem cbtf_any (ns : List Nd) (ad : Option Addr) (cap : Nat) (r n : Int) (w : World) (hn : NodesAt w ad ns) (_hl : ns.length ≤ maxLen) :
    Calls Tryz.prog 124 #[.agg #[.slice ad ns.length cap, .int .i64 r], .int .i64 n] w fun e w' => e = .returned (.bool (cbtfB ns n)) ∧ Bw w w' := by
  by_cases h : isNodeB ns.length n = true
  · obtain ⟨h0, h1⟩ := isNodeB_iff.1 h
    obtain ⟨i, rfl⟩ := Int.eq_ofNat_of_zero_le h0
    obtain ⟨b, off, rfl, hb, hc⟩ := hn i (by omega)
    obtain ⟨c0, _⟩ := hc i (by omega)
    clear hc
    go_enter Tryz.func124, Tryz.ntmps124
    go_wp2_with (go_at_call 92; refine (isNode_any _ _ _ _ _ _).mono ?_; rintro e w' ⟨rfl, hbl⟩; obtain ⟨hcc, hff⟩ := bcell hbl; have hz0 : w.heap.size < w'.heap.size := (by have := hbl.size; (try simp at this); omega))
    go_ret
    exact ⟨ret_bool (by simp [cbtfB, h, bne]), (by repeat (first | exact Bw.refl _ | assumption | refine Bw.drew ?_ | refine Bw.drewN ?_ _ | refine Bw.alloc ?_ _ | refine Bw.trans ?_ (by assumption)))⟩
  · have h' : isNodeB ns.length n = false := by simpa using h
    go_enter Tryz.func124, Tryz.ntmps124
    go_wp2_with (go_at_call 92; refine (isNode_any _ _ _ _ _ _).mono ?_; rintro e w' ⟨rfl, hbl⟩; obtain ⟨hcc, hff⟩ := bcell hbl; have hz0 : w.heap.size < w'.heap.size := (by have := hbl.size; (try simp at this); omega))
    go_ret
    exact ⟨ret_bool (by simp [cbtfB, h']), (by repeat (first | exact Bw.refl _ | assumption | refine Bw.drew ?_ | refine Bw.drewN ?_ _ | refine Bw.alloc ?_ _ | refine Bw.trans ?_ (by assumption)))⟩

def wfNodeB (ns : List Nd) (x : Nd) : Bool :=
  if !(x.kind == 0) && !cbtfB ns x.a then false
  else if !(x.kind == 3) && !(x.b == 0) then false
  else if !(x.kind == 2) && !(x.m == 0) then false
  else if x.kind == 0 then (x.a == 0) && (x.k == 0)
  else if x.kind == 1 then true
  else if x.kind == 2 then decide (1 ≤ x.k) && decide (x.k ≤ 100) && decide (0 ≤ x.m) && decide (x.m < x.k)
  else if x.kind == 3 then cbtfB ns x.b && !(x.a == x.b) && (x.k == 0)
  else if x.kind == 6 then decide (1 ≤ x.k) && decide (x.k ≤ 8)
  else if x.kind == 4 then x.k == 0
  else if x.kind == 5 then x.k == 0
  else if x.kind == 7 then x.k == 0
  else false

set_option maxHeartbeats 2000000 in
theorem wfNode_any (ns : List Nd) (x : Nd) (ad : Option Addr) (cap : Nat) (r : Int) (w : World) (hn : NodesAt w ad ns) (hl : ns.length ≤ maxLen) :
    Calls Tryz.prog 104 #[.agg #[.slice ad ns.length cap, .int .i64 r], x.val] w fun e w' => e = .returned (.bool (wfNodeB ns x)) ∧ Bw w w' := by
  unfold Nd.val
  go_enter Tryz.func104, Tryz.ntmps104
  go_wp2_with (go_at_call 124; refine (cbtf_any ns _ _ _ _ _ (hn.below (by repeat (first | exact Bw.refl _ | assumption | refine Bw.drew ?_ | refine Bw.drewN ?_ _ | refine Bw.alloc ?_ _ | refine Bw.trans ?_ (by assumption)))) hl).mono ?_; rintro e w' ⟨rfl, hbl⟩; obtain ⟨hcc, hff⟩ := bcell hbl; have hz0 : w.heap.size < w'.heap.size := (by have := hbl.size; (try simp at this); omega); have hz1 : w.heap.size + 1 < w'.heap.size := (by have := hbl.size; (try simp at this); omega))
  all_goals
    go_ret
    exact ⟨ret_bool (by rw [Bool.eq_iff_iff]; simp_all [wfNodeB] <;> omega), (by repeat (first | exact Bw.refl _ | assumption | refine Bw.drew ?_ | refine Bw.drewN ?_ _ | refine Bw.alloc ?_ _ | refine Bw.trans ?_ (by assumption)))⟩
end Go.Proofs.YtfemleimkbjehaaGreat
namespace Go.Proofs.YtfemleimkbjehaaGreat
set_option linter.unusedVariables false
set_option linter.unusedSimpArgs false
open Go.RowKit

theorem IntsAt.below {w w' : World} {ad : Option Addr} {xs : List Int} (h : IntsAt w ad xs) (hb : Bw w w') : IntsAt w' ad xs := by
  intro i hi
  obtain ⟨b, off, e, hlt, hc⟩ := h i hi
  exact ⟨b, off, e, Nat.lt_of_lt_of_le hlt hb.size, fun j hj => ((bcell hb).1 _ _ hlt).trans (hc j hj)⟩

def mgTo (ns : List Nd) : Nat → Nat
  | 0 => 0
  | k + 1 => mgTo ns k + (if (ndn ns k).kind == 3 then 1 else 0)
def wfTo (ns : List Nd) : Nat → Bool
  | 0 => true
  | k + 1 => wfTo ns k && wfNodeB ns (ndn ns k)
def wfB (ns : List Nd) (r : Int) : Bool :=
  decide (1 ≤ ns.length) && decide (ns.length ≤ 8) && decide (1 ≤ r) && decide (r ≤ 4) && wfTo ns ns.length && decide (mgTo ns ns.length ≤ 3)

theorem mgTo_le (ns : List Nd) (k : Nat) : mgTo ns k ≤ k := by
  induction k with
  | zero => simp [mgTo]
  | succ k ih => unfold mgTo; split <;> omega
theorem wfTo_false {ns : List Nd} {k : Nat} (h : wfTo ns k = false) : ∀ n, k ≤ n → wfTo ns n = false := by
  intro n hn
  induction n with
  | zero => have : k = 0 := by omega
            subst this; exact h
  | succ n ih =>
    by_cases e : k = n + 1
    · subst e; exact h
    · unfold wfTo; rw [ih (by omega)]; rfl
theorem mgTo_hit {ns : List Nd} {k : Nat} (h : ((ndn ns k).kind == 3) = true) : mgTo ns (k + 1) = mgTo ns k + 1 := by simp [mgTo, h]
theorem mgTo_miss {ns : List Nd} {k : Nat} (h : ((ndn ns k).kind == 3) = false) : mgTo ns (k + 1) = mgTo ns k := by simp [mgTo, h]

theorem wfB_bad {ns : List Nd} {r : Int} (h : ns.length < 1 ∨ 8 < ns.length ∨ r < 1 ∨ 4 < r) : wfB ns r = false := by
  cases hw : wfB ns r with
  | false => rfl
  | true => simp [wfB] at hw; omega
theorem wfB_good {ns : List Nd} {r : Int} (h1 : 1 ≤ ns.length) (h2 : ns.length ≤ 8) (h3 : 1 ≤ r) (h4 : r ≤ 4) : wfB ns r = (wfTo ns ns.length && decide (mgTo ns ns.length ≤ 3)) := by
  simp [wfB, h1, h2, h3, h4]

set_option maxHeartbeats 1000000 in
theorem wf_any (ns : List Nd) (ad : Option Addr) (cap : Nat) (r : Int) (w : World) (hn : NodesAt w ad ns) (hl : ns.length ≤ maxLen) :
    Calls Tryz.prog 77 #[.agg #[.slice ad ns.length cap, .int .i64 r]] w fun e w' => e = .returned (.bool (wfB ns r)) ∧ Bw w w' := by
  have hl2 := hl
  unfold maxLen at hl2
  by_cases hbad : ns.length < 1 ∨ 8 < ns.length ∨ r < 1 ∨ 4 < r
  · have HB := hide (wfB_bad hbad)
    rcases hbad with h1 | h2 | h3 | h4
    · go_enter Tryz.func77, Tryz.ntmps77
      go_wp2
      go_ret
      exact ⟨ret_bool (unhide HB).symm, (by repeat (first | exact Bw.refl _ | assumption | refine Bw.drew ?_ | refine Bw.drewN ?_ _ | refine Bw.alloc ?_ _ | refine Bw.trans ?_ (by assumption)))⟩
    · go_enter Tryz.func77, Tryz.ntmps77
      go_wp2
      go_ret
      exact ⟨ret_bool (unhide HB).symm, (by repeat (first | exact Bw.refl _ | assumption | refine Bw.drew ?_ | refine Bw.drewN ?_ _ | refine Bw.alloc ?_ _ | refine Bw.trans ?_ (by assumption)))⟩
    · go_enter Tryz.func77, Tryz.ntmps77
      go_wp2
      all_goals
        go_ret
        exact ⟨ret_bool (unhide HB).symm, (by repeat (first | exact Bw.refl _ | assumption | refine Bw.drew ?_ | refine Bw.drewN ?_ _ | refine Bw.alloc ?_ _ | refine Bw.trans ?_ (by assumption)))⟩
    · go_enter Tryz.func77, Tryz.ntmps77
      go_wp2
      all_goals
        go_ret
        exact ⟨ret_bool (unhide HB).symm, (by repeat (first | exact Bw.refl _ | assumption | refine Bw.drew ?_ | refine Bw.drewN ?_ _ | refine Bw.alloc ?_ _ | refine Bw.trans ?_ (by assumption)))⟩
  have h1 : 1 ≤ ns.length := by omega
  have h2 : ns.length ≤ 8 := by omega
  have h3 : 1 ≤ r := by omega
  have h4 : r ≤ 4 := by omega
  clear hbad
  have hfin := wfB_good h1 h2 h3 h4
  have HF := hide hfin
  clear hfin
  go_enter Tryz.func77, Tryz.ntmps77
  go_wp2
  go_loopw [3, 27] (fun m i wr => ∃ k : Nat, k ≤ ns.length ∧ i = .int .i64 k ∧ m = .int .i64 (mgTo ns k) ∧ wfTo ns k = true ∧
      Bw (w.alloc (.cells #[.slice ad ns.length cap, .int .i64 r] 24)) wr)
    (fun _ i _ => ns.length - (intOf i).toNat)
  case atStart => exact ⟨0, Nat.zero_le _, rfl, rfl, rfl, Bw.refl _⟩
  case round =>
    obtain ⟨k, hk, rfl, rfl, hwf, hB⟩ := hrel
    have Hwf := hide hwf
    clear hwf
    obtain ⟨gcc, gff⟩ := bcell hB
    have gz : w.heap.size < wr.heap.size := by have := hB.size; simp at this; omega
    have hm := mgTo_le ns k
    by_cases hlt : k < ns.length
    · obtain ⟨b, off, rfl, hb, hc⟩ := hn k hlt
      obtain ⟨c0, c1, c2, c3, c4⟩ := hc k hlt
      clear hc
      cases hwk : wfNodeB ns (ndn ns k) with
      | false =>
        have Hwk := hide hwk
        clear hwk
        go_wp2_with (go_at_call 104; refine (wfNode_any ns (ndn ns k) _ _ _ _ (hn.below (by repeat (first | exact Bw.refl _ | assumption | refine Bw.drew ?_ | refine Bw.drewN ?_ _ | refine Bw.alloc ?_ _ | refine Bw.trans ?_ (by assumption)))) hl).mono ?_; rintro e w' ⟨rfl, hbl⟩; rw [unhide Hwk]; obtain ⟨hcc, hff⟩ := bcell hbl)
        go_ret
        exact ⟨ret_bool (by rw [unhide HF, wfTo_false (k := k + 1) (by unfold wfTo; rw [unhide Hwk]; simp) _ (by omega)]; rfl), (by repeat (first | exact Bw.refl _ | assumption | refine Bw.drew ?_ | refine Bw.drewN ?_ _ | refine Bw.alloc ?_ _ | refine Bw.trans ?_ (by assumption)))⟩
      | true =>
        have Hwk := hide hwk
        clear hwk
        go_wp2_with (go_at_call 104; refine (wfNode_any ns (ndn ns k) _ _ _ _ (hn.below (by repeat (first | exact Bw.refl _ | assumption | refine Bw.drew ?_ | refine Bw.drewN ?_ _ | refine Bw.alloc ?_ _ | refine Bw.trans ?_ (by assumption)))) hl).mono ?_; rintro e w' ⟨rfl, hbl⟩; rw [unhide Hwk]; obtain ⟨hcc, hff⟩ := bcell hbl)
        · go_roundw
          case rel => exact ⟨k + 1, by omega, by go_num, by rw [mgTo_hit (by assumption)]; go_num, by unfold wfTo; rw [unhide Hwf, unhide Hwk]; rfl, (by repeat (first | exact Bw.refl _ | assumption | refine Bw.drew ?_ | refine Bw.drewN ?_ _ | refine Bw.alloc ?_ _ | refine Bw.trans ?_ (by assumption)))⟩
          case measure => simp [intOf]; omega
        · go_roundw
          case rel => exact ⟨k + 1, by omega, by go_num, by rw [mgTo_miss (by assumption)], by unfold wfTo; rw [unhide Hwf, unhide Hwk]; rfl, (by repeat (first | exact Bw.refl _ | assumption | refine Bw.drew ?_ | refine Bw.drewN ?_ _ | refine Bw.alloc ?_ _ | refine Bw.trans ?_ (by assumption)))⟩
          case measure => simp [intOf]; omega
    · have hkk : k = ns.length := by omega
      go_wp2
      go_ret
      exact ⟨ret_bool (by rw [unhide HF, ← hkk, unhide Hwf]; simp; omega), (by repeat (first | exact Bw.refl _ | assumption | refine Bw.drew ?_ | refine Bw.drewN ?_ _ | refine Bw.alloc ?_ _ | refine Bw.trans ?_ (by assumption)))⟩
end Go.Proofs.YtfemleimkbjehaaGreat
namespace Go.Proofs.YtfemleimkbjehaaGreat
set_option linter.unusedVariables false
set_option linter.unusedSimpArgs false
open Go.RowKit

def canFollowB (ord : List Int) (x : Nd) : Bool :=
  (x.kind == 0) || (x.kind == 4) || (if x.kind == 3 then hasB ord x.a && hasB ord x.b else hasB ord x.a)
def aheadB (ns : List Nd) (ord : List Int) (n : Int) : Int :=
  if isNodeB ns.length n then (if ((ndn ns n.toNat).kind == 3) && hasB ord (ndn ns n.toNat).a then (ndn ns n.toNat).b else (ndn ns n.toNat).a) else n
/-- The first from k on, of f more, that is not in the order. -/
def firstB (ord : List Int) : Nat → Nat → Int
  | _, 0 => 0
  | k, f + 1 => if hasB ord k then firstB ord (k + 1) f else k

set_option maxHeartbeats 1000000 in
theorem canFollow_any (ord : List Int) (x : Nd) (ad : Option Addr) (cap : Nat) (w : World) (hx : IntsAt w ad ord) (hl : ord.length ≤ maxLen) :
    Calls Tryz.prog 106 #[.slice ad ord.length cap, x.val] w fun e w' => e = .returned (.bool (canFollowB ord x)) ∧ Bw w w' := by
  unfold Nd.val
  cases ha : hasB ord x.a with
  | false =>
    have HA := hide ha
    clear ha
    go_enter Tryz.func106, Tryz.ntmps106
    go_wp2_with (go_at_call 105; refine (contains_any ord _ _ _ _ (hx.below (by repeat (first | exact Bw.refl _ | assumption | refine Bw.drew ?_ | refine Bw.drewN ?_ _ | refine Bw.alloc ?_ _ | refine Bw.trans ?_ (by assumption)))) hl).mono ?_; rintro e w' ⟨rfl, rfl⟩; try rw [unhide HA])
    all_goals
      go_ret
      exact ⟨ret_bool (by have := unhide HA; rw [Bool.eq_iff_iff]; simp_all [canFollowB]), (by repeat (first | exact Bw.refl _ | assumption | refine Bw.drew ?_ | refine Bw.drewN ?_ _ | refine Bw.alloc ?_ _ | refine Bw.trans ?_ (by assumption)))⟩
  | true =>
    have HA := hide ha
    clear ha
    go_enter Tryz.func106, Tryz.ntmps106
    go_wp2_with (go_at_call 105; refine (contains_any ord _ _ _ _ (hx.below (by repeat (first | exact Bw.refl _ | assumption | refine Bw.drew ?_ | refine Bw.drewN ?_ _ | refine Bw.alloc ?_ _ | refine Bw.trans ?_ (by assumption)))) hl).mono ?_; rintro e w' ⟨rfl, rfl⟩; try rw [unhide HA])
    all_goals
      go_ret
      exact ⟨ret_bool (by have := unhide HA; rw [Bool.eq_iff_iff]; simp_all [canFollowB]), (by repeat (first | exact Bw.refl _ | assumption | refine Bw.drew ?_ | refine Bw.drewN ?_ _ | refine Bw.alloc ?_ _ | refine Bw.trans ?_ (by assumption)))⟩

theorem firstB_hit {ord : List Int} {k f : Nat} (h : hasB ord k = false) : firstB ord k (f + 1) = k := by simp [firstB, h]
theorem firstB_skip {ord : List Int} {k f : Nat} (h : hasB ord k = true) : firstB ord k (f + 1) = firstB ord (k + 1) f := by simp [firstB, h]

set_option maxHeartbeats 1000000 in
theorem first_any (len : Nat) (ord : List Int) (ga : Option Addr) (gc : Nat) (r : Int) (ad : Option Addr) (cap : Nat) (w : World) (hx : IntsAt w ad ord) (hl : ord.length ≤ maxLen) (hg : len ≤ maxLen) :
    Calls Tryz.prog 107 #[.agg #[.slice ga len gc, .int .i64 r], .slice ad ord.length cap] w fun e w' => e = .returned (.int .i64 (firstB ord 0 len)) ∧ Bw w w' := by
  have hg2 := hg
  unfold maxLen at hg2
  go_enter Tryz.func107, Tryz.ntmps107
  go_wp2
  go_loop [5] (fun i => ∃ k : Nat, k ≤ len ∧ i = .int .i64 k ∧ firstB ord k (len - k) = firstB ord 0 len) (fun i => len - (intOf i).toNat)
  case atStart => exact ⟨0, Nat.zero_le _, rfl, rfl⟩
  case round =>
    obtain ⟨k, hk, rfl, hf⟩ := hrel
    have Hf := hide hf
    clear hf
    by_cases hlt : k < len
    · have e1 : len - k = (len - (k + 1)) + 1 := by omega
      rw [e1] at Hf
      clear e1
      cases hh : hasB ord k with
      | false =>
        have HH := hide hh
        clear hh
        go_wp2_with (go_at_call 105; refine (contains_any ord _ _ _ _ (hx.below (by repeat (first | exact Bw.refl _ | assumption | refine Bw.drew ?_ | refine Bw.drewN ?_ _ | refine Bw.alloc ?_ _ | refine Bw.trans ?_ (by assumption)))) hl).mono ?_; rintro e w' ⟨rfl, rfl⟩; rw [unhide HH])
        go_ret
        exact ⟨ret_int (by rw [← unhide Hf, firstB_hit (unhide HH)]), (by repeat (first | exact Bw.refl _ | assumption | refine Bw.drew ?_ | refine Bw.drewN ?_ _ | refine Bw.alloc ?_ _ | refine Bw.trans ?_ (by assumption)))⟩
      | true =>
        have HH := hide hh
        clear hh
        go_wp2_with (go_at_call 105; refine (contains_any ord _ _ _ _ (hx.below (by repeat (first | exact Bw.refl _ | assumption | refine Bw.drew ?_ | refine Bw.drewN ?_ _ | refine Bw.alloc ?_ _ | refine Bw.trans ?_ (by assumption)))) hl).mono ?_; rintro e w' ⟨rfl, rfl⟩; rw [unhide HH])
        go_round
        case rel => exact ⟨k + 1, by omega, by go_num, by rw [← unhide Hf, firstB_skip (unhide HH)]⟩
        case measure => simp [intOf]; omega
    · have e1 : len - k = 0 := by omega
      rw [e1] at Hf
      clear e1
      go_wp2
      go_ret
      exact ⟨ret_int (by rw [← unhide Hf]; rfl), (by repeat (first | exact Bw.refl _ | assumption | refine Bw.drew ?_ | refine Bw.drewN ?_ _ | refine Bw.alloc ?_ _ | refine Bw.trans ?_ (by assumption)))⟩

set_option maxHeartbeats 1000000 in
theorem ahead_any (ns : List Nd) (ga : Option Addr) (gc : Nat) (r : Int) (ord : List Int) (n : Int) (ad : Option Addr) (cap : Nat) (w : World) (hn : NodesAt w ga ns) (hx : IntsAt w ad ord) (hl : ord.length ≤ maxLen) (_hg : ns.length ≤ maxLen) :
    Calls Tryz.prog 108 #[.agg #[.slice ga ns.length gc, .int .i64 r], .slice ad ord.length cap, .int .i64 n] w fun e w' => e = .returned (.int .i64 (aheadB ns ord n)) ∧ Bw w w' := by
  cases hb : isNodeB ns.length n with
  | false =>
    have HB := hide hb
    clear hb
    go_enter Tryz.func108, Tryz.ntmps108
    go_wp2_with (go_at_call 92; refine (isNode_any _ _ _ _ _ _).mono ?_; rintro e w' ⟨rfl, hbl⟩; rw [unhide HB])
    go_ret
    exact ⟨ret_int (by simp [aheadB, unhide HB]), (by repeat (first | exact Bw.refl _ | assumption | refine Bw.drew ?_ | refine Bw.drewN ?_ _ | refine Bw.alloc ?_ _ | refine Bw.trans ?_ (by assumption)))⟩
  | true =>
    have HB := hide hb
    obtain ⟨h0, h1⟩ := isNodeB_iff.1 hb
    clear hb
    obtain ⟨i, rfl⟩ := Int.eq_ofNat_of_zero_le h0
    obtain ⟨b, off, rfl, hb, hc⟩ := hn i (by omega)
    obtain ⟨c0, c1, c2, c3, c4⟩ := hc i (by omega)
    clear hc
    go_enter Tryz.func108, Tryz.ntmps108
    go_wp2_with (first | (go_at_call 92; refine (isNode_any _ _ _ _ _ _).mono ?_; rintro e w' ⟨rfl, hbl⟩; rw [unhide HB]; obtain ⟨hcc, hff⟩ := bcell hbl; have hz0 : w.heap.size < w'.heap.size := (by have := hbl.size; (try simp at this); omega)) | (go_at_call 105; refine (contains_any ord _ _ _ _ (hx.below (by repeat (first | exact Bw.refl _ | assumption | refine Bw.drew ?_ | refine Bw.drewN ?_ _ | refine Bw.alloc ?_ _ | refine Bw.trans ?_ (by assumption)))) hl).mono ?_; rintro e w' ⟨rfl, rfl⟩))
    all_goals
      go_ret
      exact ⟨ret_int (by simp_all [aheadB, unhide HB]), (by repeat (first | exact Bw.refl _ | assumption | refine Bw.drew ?_ | refine Bw.drewN ?_ _ | refine Bw.alloc ?_ _ | refine Bw.trans ?_ (by assumption)))⟩
end Go.Proofs.YtfemleimkbjehaaGreat
namespace Go.Proofs.YtfemleimkbjehaaGreat
set_option linter.unusedVariables false
set_option linter.unusedSimpArgs false
open Go.RowKit

theorem Tryz.infoInt : (Tryz.prog.info? 3).map (fun i => (i.zero, i.size, i.bytes)) = some (some (.int .i64 0), 1, 8) := by kernel_rfl

/-- In w the slice value v is one of xs, in memory that W has not. -/
def Own (W w : World) (v : Value) (xs : List Int) : Prop := w.ownsRow W.heap.size 3 1 v xs.length (xs.map (Value.int .i64))

theorem Own.nil (W w : World) : Own W w (.slice none 0 0) [] := World.ownsRow_nil _ _ _ _
theorem Own.bw {W a b : World} {v : Value} {xs : List Int} (h : Own W a v xs) (hb : Bw a b) : Own W b v xs := by
  obtain ⟨hl, h⟩ := h
  refine ⟨hl, ?_⟩
  rcases h with h | ⟨g, cap, cur, e, hg, hc, h1, h2, h3, h4⟩
  · exact .inl h
  · have hlt : g < a.heap.size := by
      by_cases hlt : g < a.heap.size
      · exact hlt
      · rw [Array.getElem?_eq_none (by omega)] at hc; cases hc
    exact .inr ⟨g, cap, cur, e, hg, (Below.block hb g hlt).trans hc, h1, h2, h3, h4⟩
theorem Own.weaken {W V a : World} {v : Value} {xs : List Int} (h : Own W a v xs) (hb : Bw V W) : Own V a v xs := by
  obtain ⟨hl, h⟩ := h
  refine ⟨hl, ?_⟩
  rcases h with h | ⟨g, cap, cur, e, hg, r⟩
  · exact .inl h
  · exact .inr ⟨g, cap, cur, e, Nat.le_trans hb.size hg, r⟩
theorem Own.form {W w : World} {v : Value} {xs : List Int} (h : Own W w v xs) : ∃ ad cap, v = .slice ad xs.length cap ∧ IntsAt w ad xs ∧ xs.length ≤ maxLen := by
  obtain ⟨hl, h⟩ := h
  rcases h with ⟨e, h0⟩ | ⟨g, cap, cur, e, hg, hc, h1, h2, h3, h4⟩
  · refine ⟨none, 0, by rw [e, h0], fun i hi => absurd hi (by omega), by rw [h0]; exact Nat.zero_le _⟩
  · refine ⟨some ⟨g, 0, none⟩, cap, e, fun i hi => ⟨g, 0, rfl, ?_, fun j hj => ?_⟩, by omega⟩
    · by_cases hlt : g < w.heap.size
      · exact hlt
      · rw [Array.getElem?_eq_none (by omega)] at hc; cases hc
    · have := World.ownsRow.cells (w := w) (base := W.heap.size) (e := 3) (size := 1) (v := v) (n := xs.length) (xs := xs.map (Value.int .i64)) ⟨hl, .inr ⟨g, cap, cur, e, hg, hc, h1, h2, h3, h4⟩⟩ (g := g) (by rw [e]; rfl) j (.int .i64 (nth xs j)) (by rw [List.getElem?_map, List.getElem?_eq_getElem hj, nth_lt hj]; rfl)
      rw [Nat.zero_add]
      by_cases hj0 : j = 0
      · subst hj0; simpa [Addr.add] using this
      · simpa [Addr.add, hj0] using this

/-- 'append(v, n)' of one number: the walk's law. -/
theorem app1 {ops : Array Oper} {rest : List Oper} {o : Oper} {a : Act} {Q : Exit → Act → World → Prop} (w : World) (hgd : o.guard = none) (s x : Operand)
    (ho : o.op = .call { callee := .builtin .append, args := #[s, x], argTypes := #[94, 94] }) (W : World) (v : Value) (xs : List Int) (hs : a.eval s = v) (hown : Own W w v xs)
    (g c : Nat) (n : Int) (hx : a.eval x = .slice (some ⟨g, 0, none⟩) 1 c) (hc : w.cell? ⟨g, 0, none⟩ = some (.int .i64 n)) (hlen : xs.length + 1 ≤ 1000000) (hB : Bw W w)
    (h : ∀ v' w', Own W w' v' (xs ++ [n]) → Bw W w' → w.grownBy w' v.ownBlock → wpList Tryz.prog ops Q rest (a.put o.dst v') w') : wpList Tryz.prog ops Q (o :: rest) a w := by
  obtain ⟨i0, hi, hz0, hz1, hz2⟩ := info_parts Tryz.infoInt
  refine wpList_append_own w hgd s x 94 ho W.heap.size 3 i0 (.int .i64 0) 1 8 Tryz.underlying94 hi hz0 hz1 hz2 rfl (by decide) v xs.length (xs.map (Value.int .i64)) hs hown ⟨g, 0, none⟩ 1 c [.int .i64 n] hx rfl ?_ ?_ ?_ ?_ hB.size ?_
  · intro j u hj
    match j, hj with
    | 0, hj => simp at hj; subst hj; simpa [Addr.add] using hc
  · intro u hu; simp at hu; subst hu; rfl
  · unfold maxLen; omega
  · omega
  · intro v' w' h1 h2 _
    refine h v' w' ?_ (Below.grown hB h2 hB.size fun k hk => (World.ownsRow.lt hown k hk).1) h2
    unfold Own
    simpa using h1

theorem add_cell {w : World} {b off j : Nat} {u : Value} (h : w.cell? ⟨b, off + j, none⟩ = some u) : w.cell? ((⟨b, off, none⟩ : Addr).add j) = some u := by
  by_cases hj0 : j = 0
  · subst hj0; simpa [Addr.add] using h
  · simpa [Addr.add, hj0] using h

theorem own_one {W w : World} (n : Int) (hB : Bw W w) : Own W (w.alloc (.cells #[.int .i64 n] 3)) (.slice (some ⟨w.heap.size, 0, none⟩) 1 1) [n] :=
  ⟨rfl, .inr ⟨w.heap.size, 1, #[.int .i64 n], rfl, hB.size, heap_alloc_new w _, Nat.le_refl _, by unfold maxLen; omega, rfl, rfl⟩⟩

/-- 'append(v, ys...)'. -/
theorem appN {ops : Array Oper} {rest : List Oper} {o : Oper} {a : Act} {Q : Exit → Act → World → Prop} (w : World) (hgd : o.guard = none) (s x : Operand)
    (ho : o.op = .call { callee := .builtin .append, args := #[s, x], argTypes := #[94, 94] }) (W : World) (v : Value) (xs : List Int) (hs : a.eval s = v) (hown : Own W w v xs)
    (ad : Option Addr) (c : Nat) (ys : List Int) (hx : a.eval x = .slice ad ys.length c) (hy : IntsAt w ad ys) (hpos : 0 < ys.length) (hlen : xs.length + ys.length ≤ 1000000) (hB : Bw W w)
    (h : ∀ v' w', Own W w' v' (xs ++ ys) → Bw W w' → w.grownBy w' v.ownBlock → wpList Tryz.prog ops Q rest (a.put o.dst v') w') : wpList Tryz.prog ops Q (o :: rest) a w := by
  obtain ⟨i0, hi, hz0, hz1, hz2⟩ := info_parts Tryz.infoInt
  obtain ⟨b, off, rfl, hb, hc⟩ := hy 0 hpos
  refine wpList_append_own w hgd s x 94 ho W.heap.size 3 i0 (.int .i64 0) 1 8 Tryz.underlying94 hi hz0 hz1 hz2 rfl (by decide) v xs.length (xs.map (Value.int .i64)) hs hown ⟨b, off, none⟩ ys.length c (ys.map (Value.int .i64)) hx (by simp) ?_ ?_ ?_ ?_ hB.size ?_
  · intro j u hj
    have hjl : j < ys.length := by
      by_cases hjl : j < ys.length
      · exact hjl
      · rw [List.getElem?_eq_none (by simp; omega)] at hj; cases hj
    rw [List.getElem?_map, List.getElem?_eq_getElem hjl, Option.map_some, Option.some_inj] at hj
    subst hj
    rw [← nth_lt hjl]
    exact add_cell (hc j hjl)
  · intro u hu; simp at hu; obtain ⟨n, _, rfl⟩ := hu; rfl
  · unfold maxLen; omega
  · omega
  · intro v' w' h1 h2 _
    refine h v' w' ?_ (Below.grown hB h2 hB.size fun k hk => (World.ownsRow.lt hown k hk).1) h2
    unfold Own
    simpa using h1
end Go.Proofs.YtfemleimkbjehaaGreat
