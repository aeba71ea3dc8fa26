import Derived.Test.YtfemleimkbjehaaBase
namespace Go.Proofs.Ytfemleimkbjehaa
open Go.RowKit

def ndn (ns : List Nd) (k : Nat) : Nd := ns.getD k ⟨0, 0, 0, 0, 0⟩

/-- Nodes in a row of memory. -/
def NodesAt (w : World) (ad : Option Addr) (ns : List Nd) : Prop :=
  ∀ i, i < ns.length → ∃ b off, ad = some ⟨b, off, none⟩ ∧ b < w.heap.size ∧ ∀ j, j < ns.length →
    w.cell? ⟨b, off + j * 5, none⟩ = some (.int .i64 (ndn ns j).kind) ∧ w.cell? ⟨b, off + j * 5 + 1, none⟩ = some (.int .i64 (ndn ns j).a) ∧
    w.cell? ⟨b, off + j * 5 + 2, none⟩ = some (.int .i64 (ndn ns j).b) ∧ w.cell? ⟨b, off + j * 5 + 3, none⟩ = some (.int .i64 (ndn ns j).k) ∧
    w.cell? ⟨b, off + j * 5 + 4, none⟩ = some (.int .i64 (ndn ns j).m)

theorem NodesAt.below {w w' : World} {ad : Option Addr} {ns : List Nd} (h : NodesAt w ad ns) (hb : Bw w w') : NodesAt w' ad ns := by
  intro i hi
  obtain ⟨b, off, e, hlt, hc⟩ := h i hi
  refine ⟨b, off, e, Nat.lt_of_lt_of_le hlt hb.size, fun j hj => ?_⟩
  obtain ⟨c0, c1, c2, c3, c4⟩ := hc j hj
  exact ⟨((bcell hb).1 _ _ hlt).trans c0, ((bcell hb).1 _ _ hlt).trans c1, ((bcell hb).1 _ _ hlt).trans c2, ((bcell hb).1 _ _ hlt).trans c3, ((bcell hb).1 _ _ hlt).trans c4⟩

def isNodeB (len : Nat) (n : Int) : Bool := decide (0 ≤ n) && decide (n < len)
def takesB (x : Nd) (n : Int) : Bool := !(x.kind == 0) && ((x.a == n) || ((x.kind == 3) && (x.b == n)))
def cbtfB (ns : List Nd) (n : Int) : Bool := isNodeB ns.length n && !((ndn ns n.toNat).kind == 7)

theorem isNodeB_iff {len : Nat} {n : Int} : isNodeB len n = true ↔ 0 ≤ n ∧ n < len := by simp [isNodeB]

set_option maxHeartbeats 400000 in
theorem isNode_any (ad : Option Addr) (len cap : Nat) (r n : Int) (w : World) :
    Calls Try.prog 74 #[.agg #[.slice ad len cap, .int .i64 r], .int .i64 n] w fun e w' => e = .returned (.bool (isNodeB len n)) ∧ Bw w w' := by
  by_cases h : 0 ≤ n
  · go_enter Try.func74, Try.ntmps74
    go_wp2
    go_ret
    exact ⟨ret_bool (by simp [isNodeB, h]), (Bw.refl _).alloc _⟩
  · go_enter Try.func74, Try.ntmps74
    go_wp2
    go_ret
    exact ⟨ret_bool (by have h' : ¬ 0 ≤ n := by omega
                        simp [isNodeB, h']), (Bw.refl _).alloc _⟩

set_option maxHeartbeats 400000 in
theorem takes_any (x : Nd) (n : Int) (w : World) :
    Calls Try.prog 128 #[x.val, .int .i64 n] w fun e w' => e = .returned (.bool (takesB x n)) ∧ Bw w w' := by
  unfold Nd.val
  go_enter Try.func128, Try.ntmps128
  go_wp2
  all_goals
    go_ret
    exact ⟨ret_bool (by rw [Bool.eq_iff_iff]; simp_all [takesB]), (Bw.refl _).alloc _⟩

set_option maxHeartbeats 400000 in
theorem cbtf_any (ns : List Nd) (ad : Option Addr) (cap : Nat) (r n : Int) (w : World) (hn : NodesAt w ad ns) (_hl : ns.length ≤ maxLen) :
    Calls Try.prog 127 #[.agg #[.slice ad ns.length cap, .int .i64 r], .int .i64 n] w fun e w' => e = .returned (.bool (cbtfB ns n)) ∧ Bw w w' := by
  by_cases h : isNodeB ns.length n = true
  · obtain ⟨h0, h1⟩ := isNodeB_iff.1 h
    obtain ⟨i, rfl⟩ := Int.eq_ofNat_of_zero_le h0
    obtain ⟨b, off, rfl, hb, hc⟩ := hn i (by omega)
    obtain ⟨c0, _⟩ := hc i (by omega)
    clear hc
    go_enter Try.func127, Try.ntmps127
    go_wp2_with (go_at_call 74; refine (isNode_any _ _ _ _ _ _).mono ?_; rintro e w' ⟨rfl, hbl⟩; obtain ⟨hcc, hff⟩ := bcell hbl; have hz0 : w.heap.size < w'.heap.size := (by have := hbl.size; (try simp at this); omega))
    go_ret
    exact ⟨ret_bool (by simp [cbtfB, h, bne]), (by repeat (first | exact Bw.refl _ | assumption | refine Bw.drew ?_ | refine Bw.drewN ?_ _ | refine Bw.alloc ?_ _ | refine Bw.trans ?_ (by assumption)))⟩
  · have h' : isNodeB ns.length n = false := by simpa using h
    go_enter Try.func127, Try.ntmps127
    go_wp2_with (go_at_call 74; refine (isNode_any _ _ _ _ _ _).mono ?_; rintro e w' ⟨rfl, hbl⟩; obtain ⟨hcc, hff⟩ := bcell hbl; have hz0 : w.heap.size < w'.heap.size := (by have := hbl.size; (try simp at this); omega))
    go_ret
    exact ⟨ret_bool (by simp [cbtfB, h']), (by repeat (first | exact Bw.refl _ | assumption | refine Bw.drew ?_ | refine Bw.drewN ?_ _ | refine Bw.alloc ?_ _ | refine Bw.trans ?_ (by assumption)))⟩

def wfNodeB (ns : List Nd) (x : Nd) : Bool :=
  if !(x.kind == 0) && !cbtfB ns x.a then false
  else if !(x.kind == 3) && !(x.b == 0) then false
  else if !(x.kind == 2) && !(x.m == 0) then false
  else if x.kind == 0 then (x.a == 0) && (x.k == 0)
  else if x.kind == 1 then true
  else if x.kind == 2 then decide (1 ≤ x.k) && decide (x.k ≤ 100) && decide (0 ≤ x.m) && decide (x.m < x.k)
  else if x.kind == 3 then cbtfB ns x.b && !(x.a == x.b) && (x.k == 0)
  else if x.kind == 6 then decide (1 ≤ x.k) && decide (x.k ≤ 8)
  else if x.kind == 4 then x.k == 0
  else if x.kind == 5 then x.k == 0
  else if x.kind == 7 then x.k == 0
  else false

set_option maxHeartbeats 2000000 in
theorem wfNode_any (ns : List Nd) (x : Nd) (ad : Option Addr) (cap : Nat) (r : Int) (w : World) (hn : NodesAt w ad ns) (hl : ns.length ≤ maxLen) :
    Calls Try.prog 93 #[.agg #[.slice ad ns.length cap, .int .i64 r], x.val] w fun e w' => e = .returned (.bool (wfNodeB ns x)) ∧ Bw w w' := by
  unfold Nd.val
  go_enter Try.func93, Try.ntmps93
  go_wp2_with (go_at_call 127; refine (cbtf_any ns _ _ _ _ _ (hn.below (by repeat (first | exact Bw.refl _ | assumption | refine Bw.drew ?_ | refine Bw.drewN ?_ _ | refine Bw.alloc ?_ _ | refine Bw.trans ?_ (by assumption)))) hl).mono ?_; rintro e w' ⟨rfl, hbl⟩; obtain ⟨hcc, hff⟩ := bcell hbl; have hz0 : w.heap.size < w'.heap.size := (by have := hbl.size; (try simp at this); omega); have hz1 : w.heap.size + 1 < w'.heap.size := (by have := hbl.size; (try simp at this); omega))
  all_goals
    go_ret
    exact ⟨ret_bool (by rw [Bool.eq_iff_iff]; simp_all [wfNodeB] <;> omega), (by repeat (first | exact Bw.refl _ | assumption | refine Bw.drew ?_ | refine Bw.drewN ?_ _ | refine Bw.alloc ?_ _ | refine Bw.trans ?_ (by assumption)))⟩
end Go.Proofs.Ytfemleimkbjehaa
