import Derived.Test.YtfemleimkbjehaaRows
import Derived.WalkKit
import Derived.WalkSpells
import Derived.WalkLawsBesides
import Derived.Deep.QuietTactic
import Derived.BigQuiet
import Derived.WalkSmall
import Derived.Deep.RegionHeld3
import Derived.Deep.AppendLies
set_option maxRecDepth 1000000
set_option maxHeartbeats 40000000
set_option linter.unusedVariables false
set_option linter.unusedSimpArgs false
namespace Go.Proofs.Ytfemleimkbjehaa
open Go.RowKit
theorem qJ {p : Prop} (h : p) : Hid p := h
theorem qK {p : Prop} (h : Hid p) : p := h
theorem lJ {α : Type} (xs : List α) (d : α) {k : Nat} (h : k < xs.length) : xs.getD k d = xs[k] := by simp [List.getD, h]
theorem ret_bool {a b : Bool} (h : a = b) : Ending.returned (.bool a) = .returned (.bool b) := by rw [h]
theorem kN {k : IntKind} {a b : Int} (h : a = b) : Ending.returned (.int k a) = .returned (.int k b) := by rw [h]
def Bw (w w' : World) : Prop := Below w.heap.size w w'
theorem Bw.refl (w : World) : Bw w w := Below.refl _ _
theorem Bw.trans {w a b : World} (h1 : Bw w a) (h2 : Bw a b) : Bw w b := Below.trans h1 (Below.mono h2 (Below.size h1))
theorem Bw.alloc {w a : World} (h : Bw w a) (o : Obj) : Bw w (a.alloc o) := Below.alloc h (Below.size h) o
theorem Bw.drew {w a : World} (h : Bw w a) : Bw w a.drew := Below.drew h
theorem Bw.drewN {w a : World} (h : Bw w a) (n : Nat) : Bw w (a.drewN n) := below_drewN h n
theorem Bw.setCell {w a : World} (h : Bw w a) {p : Addr} (hp : w.heap.size ≤ p.block) (u : Value) : Bw w (a.setCell p u) := Below.setCell h hp u
theorem Bw.size {w a : World} (h : Bw w a) : w.heap.size ≤ a.heap.size := Below.size h
theorem qX {W w1 : World} (hb : Bw W w1) : (∀ b o, b < W.heap.size → w1.cell? ⟨b, o, none⟩ = W.cell? ⟨b, o, none⟩) ∧ (∀ b o, b < W.heap.size → w1.frozen? ⟨b, o, none⟩ = W.frozen? ⟨b, o, none⟩) :=
  ⟨fun b o h => Below.cell hb (p := ⟨b, o, none⟩) h, fun b o h => Below.frozen hb (p := ⟨b, o, none⟩) h⟩
def kC (xs : List Int) (k : Nat) : Int := xs.getD k 0
def jF (xs : List Int) (n : Int) : Bool := xs.contains n
structure Nd where
  kind : Int
  a : Int
  b : Int
  k : Int
  m : Int
def Nd.val (x : Nd) : Value := .agg #[.int .i64 x.kind, .int .i64 x.a, .int .i64 x.b, .int .i64 x.k, .int .i64 x.m]
def IntsAt (w : World) (ad : Option Addr) (xs : List Int) : Prop :=
  ∀ i, i < xs.length → ∃ b off, ad = some ⟨b, off, none⟩ ∧ b < w.heap.size ∧ ∀ j, j < xs.length → w.cell? ⟨b, off + j, none⟩ = some (.int .i64 (kC xs j))
theorem jL {xs : List Int} {k : Nat} (hk : k < xs.length) : kC xs k = xs[k] := lJ _ _ hk
theorem hasB_yes {xs : List Int} {n : Int} {k : Nat} (hk : k < xs.length) (h : (kC xs k == n) = true) : jF xs n = true := by
  unfold jF; rw [List.contains_iff_mem, ← beq_iff_eq.1 h, jL hk]; exact List.getElem_mem hk
theorem hasB_no {xs : List Int} {n : Int} (h : ∀ j, j < xs.length → (kC xs j == n) = false) : jF xs n = false := by
  unfold jF
  cases hc : xs.contains n with
  | false => rfl
  | true =>
    rw [List.contains_iff_mem] at hc
    obtain ⟨j, hj, e⟩ := List.getElem_of_mem hc
    have := h j hj
    rw [jL hj, e] at this
    simp at this
theorem all_snoc {p : Nat → Prop} {k : Nat} (h : ∀ j, j < k → p j) (hk : p k) : ∀ j, j < k + 1 → p j := fun j hj => by
  by_cases e : j = k
  · subst e; exact hk
  · exact h j (by omega)
set_option maxHeartbeats 400000 in
theorem vZ (xs : List Int) (n : Int) (ad : Option Addr) (cap : Nat) (w : World) (hx : IntsAt w ad xs) (hl : xs.length ≤ maxLen) :
    Calls Try.prog 94 #[.slice ad xs.length cap, .int .i64 n] w fun e w' => e = .returned (.bool (jF xs n)) ∧ w' = w := by
  unfold maxLen at hl
  go_enter Try.func94, Try.ntmps94
  go_wp2
  go_loop [9] (fun i => ∃ k : Nat, k ≤ xs.length ∧ i = .int .i64 k ∧ ∀ j, j < k → (kC xs j == n) = false) (fun i => xs.length - (intOf i).toNat)
  case atStart => exact ⟨0, Nat.zero_le _, rfl, fun j hj => absurd hj (Nat.not_lt_zero j)⟩
  case round =>
    obtain ⟨k, hk, rfl, hno⟩ := hrel
    have Hno := qJ hno
    clear hno
    by_cases hlt : k < xs.length
    · obtain ⟨b, off, rfl, hb, hc⟩ := hx k hlt
      have hc1 := hc k hlt
      clear hc
      go_wp2
      · go_ret
        exact ⟨ret_bool (hasB_yes hlt (by assumption)).symm, rfl⟩
      · go_round
        case rel => exact ⟨k + 1, by omega, by go_num, all_snoc (qK Hno) (by assumption)⟩
        case measure => simp [intOf]; omega
    · go_wp2
      go_ret
      exact ⟨ret_bool (hasB_no fun j hj => (qK Hno) j (by omega)).symm, rfl⟩
theorem tk (i : Nat) {P : Program} {ops : Array Oper} {Q : Exit → Act → World → Prop} {md : Region.Mode} {S : World → Prop} {oi : Oper} {v : Value} {fuel : Nat} {listed : Array Bool} {a : Act} {w : World} (h : wpAnyH P md ops Q S fuel (listed.setIfInBounds i true) (a.put oi.dst v) w) (hi : ops[i]? = some oi := by rfl) (hs : Region.noSelect ops = true := by kernel_rfl) (hf : Region.free md ops listed i = true := by kernel_rfl) (hr : (Region.ready md ops listed).contains i = true := by kernel_rfl) (hg : Region.wanted oi (yielded ops a.tmps) = true := by rfl) (hy : ∀ w, S w → (execOp a.eval oi).run P w = .ok (.value v) w := by intro w S; (try dsimp only at S); go_simp; try with_reducible rfl) (hQ : ∀ c a w, Q (.panic c) (a.put oi.dst v) w → Q (.panic c) a w := by exact fun _ _ _ h => h) (hS : S w := by assumption) : wpAnyH P md ops Q S (fuel + 1) listed a w := wpAnyH_take hi hs hf hr hQ (Or.inl ⟨hg, hy⟩) hS h
theorem br (w : World) : Bw w w := Bw.refl w
theorem bd {w a : World} (h : Bw w a) : Bw w a.drew := Bw.drew h
theorem bn {w a : World} (h : Bw w a) (n : Nat) : Bw w (a.drewN n) := Bw.drewN h n
theorem ba {w a : World} (h : Bw w a) (o : Obj) : Bw w (a.alloc o) := Bw.alloc h o
theorem bt {a b c : World} (h : Bw a b) (h2 : Bw b c) : Bw a c := Bw.trans h h2
def qV (ns : List Nd) (k : Nat) : Nd := ns.getD k ⟨0, 0, 0, 0, 0⟩
def NodesAt (w : World) (ad : Option Addr) (ns : List Nd) : Prop :=
  ∀ i, i < ns.length → ∃ b off, ad = some ⟨b, off, none⟩ ∧ b < w.heap.size ∧ ∀ j, j < ns.length →
    w.cell? ⟨b, off + j * 5, none⟩ = some (.int .i64 (qV ns j).kind) ∧ w.cell? ⟨b, off + j * 5 + 1, none⟩ = some (.int .i64 (qV ns j).a) ∧
    w.cell? ⟨b, off + j * 5 + 2, none⟩ = some (.int .i64 (qV ns j).b) ∧ w.cell? ⟨b, off + j * 5 + 3, none⟩ = some (.int .i64 (qV ns j).k) ∧
    w.cell? ⟨b, off + j * 5 + 4, none⟩ = some (.int .i64 (qV ns j).m)
theorem NodesAt.below {w w' : World} {ad : Option Addr} {ns : List Nd} (h : NodesAt w ad ns) (hb : Bw w w') : NodesAt w' ad ns := by
  intro i hi
  obtain ⟨b, off, e, hlt, hc⟩ := h i hi
  refine ⟨b, off, e, Nat.lt_of_lt_of_le hlt hb.size, fun j hj => ?_⟩
  obtain ⟨c0, c1, c2, c3, c4⟩ := hc j hj
  exact ⟨((qX hb).1 _ _ hlt).trans c0, ((qX hb).1 _ _ hlt).trans c1, ((qX hb).1 _ _ hlt).trans c2, ((qX hb).1 _ _ hlt).trans c3, ((qX hb).1 _ _ hlt).trans c4⟩
def jQ (len : Nat) (n : Int) : Bool := decide (0 ≤ n) && decide (n < len)
def qL (x : Nd) (n : Int) : Bool := !(x.kind == 0) && ((x.a == n) || ((x.kind == 3) && (x.b == n)))
def gM (ns : List Nd) (n : Int) : Bool := jQ ns.length n && !((qV ns n.toNat).kind == 7)
theorem isNodeB_iff {len : Nat} {n : Int} : jQ len n = true ↔ 0 ≤ n ∧ n < len := by simp [jQ]
set_option maxHeartbeats 400000 in
theorem xU (ad : Option Addr) (len cap : Nat) (r n : Int) (w : World) :
    Calls Try.prog 74 #[.agg #[.slice ad len cap, .int .i64 r], .int .i64 n] w fun e w' => e = .returned (.bool (jQ len n)) ∧ Bw w w' := by
  by_cases h : 0 ≤ n
  · go_enter Try.func74, Try.ntmps74
    go_wp2
    go_ret
    exact ⟨ret_bool (by simp [jQ, h]), (Bw.refl _).alloc _⟩
  · go_enter Try.func74, Try.ntmps74
    go_wp2
    go_ret
    exact ⟨ret_bool (by have h' : ¬ 0 ≤ n := by omega
                        simp [jQ, h']), (Bw.refl _).alloc _⟩
set_option maxHeartbeats 400000 in
theorem vB (x : Nd) (n : Int) (w : World) :
    Calls Try.prog 128 #[x.val, .int .i64 n] w fun e w' => e = .returned (.bool (qL x n)) ∧ Bw w w' := by
  unfold Nd.val
  go_enter Try.func128, Try.ntmps128
  go_wp2
  all_goals
    go_ret
    exact ⟨ret_bool (by rw [Bool.eq_iff_iff]; simp_all [qL]), (Bw.refl _).alloc _⟩
set_option maxHeartbeats 400000 in
theorem cbtf_any (ns : List Nd) (ad : Option Addr) (cap : Nat) (r n : Int) (w : World) (hn : NodesAt w ad ns) (_hl : ns.length ≤ maxLen) :
    Calls Try.prog 127 #[.agg #[.slice ad ns.length cap, .int .i64 r], .int .i64 n] w fun e w' => e = .returned (.bool (gM ns n)) ∧ Bw w w' := by
  by_cases h : jQ ns.length n = true
  · obtain ⟨h0, h1⟩ := isNodeB_iff.1 h
    obtain ⟨i, rfl⟩ := Int.eq_ofNat_of_zero_le h0
    obtain ⟨b, off, rfl, hb, hc⟩ := hn i (by omega)
    obtain ⟨c0, _⟩ := hc i (by omega)
    clear hc
    go_enter Try.func127, Try.ntmps127
    go_wp2_with (go_at_call 74; refine (xU _ _ _ _ _ _).mono ?_; rintro e w' ⟨rfl, hbl⟩; obtain ⟨hcc, hff⟩ := qX hbl; have hz0 : w.heap.size < w'.heap.size := (by have := hbl.size; (try simp at this); omega))
    go_ret
    exact ⟨ret_bool (by simp [gM, h, bne]), (by repeat first|exact br _|assumption|apply bd|apply bn|apply ba|refine bt ?_ (by assumption))⟩
  · have h' : jQ ns.length n = false := by simpa using h
    go_enter Try.func127, Try.ntmps127
    go_wp2_with (go_at_call 74; refine (xU _ _ _ _ _ _).mono ?_; rintro e w' ⟨rfl, hbl⟩; obtain ⟨hcc, hff⟩ := qX hbl; have hz0 : w.heap.size < w'.heap.size := (by have := hbl.size; (try simp at this); omega))
    go_ret
    exact ⟨ret_bool (by simp [gM, h']), (by repeat first|exact br _|assumption|apply bd|apply bn|apply ba|refine bt ?_ (by assumption))⟩
def zN (ns : List Nd) (x : Nd) : Bool :=
  if !(x.kind == 0) && !gM ns x.a then false
  else if !(x.kind == 3) && !(x.b == 0) then false
  else if !(x.kind == 2) && !(x.m == 0) then false
  else if x.kind == 0 then (x.a == 0) && (x.k == 0)
  else if x.kind == 1 then true
  else if x.kind == 2 then decide (1 ≤ x.k) && decide (x.k ≤ 100) && decide (0 ≤ x.m) && decide (x.m < x.k)
  else if x.kind == 3 then gM ns x.b && !(x.a == x.b) && (x.k == 0)
  else if x.kind == 6 then decide (1 ≤ x.k) && decide (x.k ≤ 8)
  else if x.kind == 4 then x.k == 0
  else if x.kind == 5 then x.k == 0
  else if x.kind == 7 then x.k == 0
  else false
set_option maxHeartbeats 2000000 in
theorem wfNode_any (ns : List Nd) (x : Nd) (ad : Option Addr) (cap : Nat) (r : Int) (w : World) (hn : NodesAt w ad ns) (hl : ns.length ≤ maxLen) :
    Calls Try.prog 93 #[.agg #[.slice ad ns.length cap, .int .i64 r], x.val] w fun e w' => e = .returned (.bool (zN ns x)) ∧ Bw w w' := by
  unfold Nd.val
  go_enter Try.func93, Try.ntmps93
  go_wp2_with (go_at_call 127; refine (cbtf_any ns _ _ _ _ _ (hn.below (by repeat first|exact br _|assumption|apply bd|apply bn|apply ba|refine bt ?_ (by assumption))) hl).mono ?_; rintro e w' ⟨rfl, hbl⟩; obtain ⟨hcc, hff⟩ := qX hbl; have hz0 : w.heap.size < w'.heap.size := (by have := hbl.size; (try simp at this); omega); have hz1 : w.heap.size + 1 < w'.heap.size := (by have := hbl.size; (try simp at this); omega))
  all_goals
    go_ret
    exact ⟨ret_bool (by rw [Bool.eq_iff_iff]; simp_all [zN] <;> omega), (by repeat first|exact br _|assumption|apply bd|apply bn|apply ba|refine bt ?_ (by assumption))⟩
theorem IntsAt.below {w w' : World} {ad : Option Addr} {xs : List Int} (h : IntsAt w ad xs) (hb : Bw w w') : IntsAt w' ad xs := by
  intro i hi
  obtain ⟨b, off, e, hlt, hc⟩ := h i hi
  exact ⟨b, off, e, Nat.lt_of_lt_of_le hlt hb.size, fun j hj => ((qX hb).1 _ _ hlt).trans (hc j hj)⟩
def xG (ns : List Nd) : Nat → Nat
  | 0 => 0
  | k + 1 => xG ns k + (if (qV ns k).kind == 3 then 1 else 0)
def pB (ns : List Nd) : Nat → Bool
  | 0 => true
  | k + 1 => pB ns k && zN ns (qV ns k)
def wfB (ns : List Nd) (r : Int) : Bool :=
  decide (1 ≤ ns.length) && decide (ns.length ≤ 8) && decide (1 ≤ r) && decide (r ≤ 4) && pB ns ns.length && decide (xG ns ns.length ≤ 3)
theorem mgTo_le (ns : List Nd) (k : Nat) : xG ns k ≤ k := by
  induction k with
  | zero => simp [xG]
  | succ k ih => unfold xG; split <;> omega
theorem wfTo_false {ns : List Nd} {k : Nat} (h : pB ns k = false) : ∀ n, k ≤ n → pB ns n = false := by
  intro n hn
  induction n with
  | zero => have : k = 0 := by omega
            subst this; exact h
  | succ n ih =>
    by_cases e : k = n + 1
    · subst e; exact h
    · unfold pB; rw [ih (by omega)]; rfl
theorem mgTo_hit {ns : List Nd} {k : Nat} (h : ((qV ns k).kind == 3) = true) : xG ns (k + 1) = xG ns k + 1 := by simp [xG, h]
theorem mgTo_miss {ns : List Nd} {k : Nat} (h : ((qV ns k).kind == 3) = false) : xG ns (k + 1) = xG ns k := by simp [xG, h]
theorem wfB_bad {ns : List Nd} {r : Int} (h : ns.length < 1 ∨ 8 < ns.length ∨ r < 1 ∨ 4 < r) : wfB ns r = false := by
  cases hw : wfB ns r with
  | false => rfl
  | true => simp [wfB] at hw; omega
theorem wfB_good {ns : List Nd} {r : Int} (h1 : 1 ≤ ns.length) (h2 : ns.length ≤ 8) (h3 : 1 ≤ r) (h4 : r ≤ 4) : wfB ns r = (pB ns ns.length && decide (xG ns ns.length ≤ 3)) := by
  simp [wfB, h1, h2, h3, h4]
set_option maxHeartbeats 1000000 in
theorem wf_any (ns : List Nd) (ad : Option Addr) (cap : Nat) (r : Int) (w : World) (hn : NodesAt w ad ns) (hl : ns.length ≤ maxLen) :
    Calls Try.prog 66 #[.agg #[.slice ad ns.length cap, .int .i64 r]] w fun e w' => e = .returned (.bool (wfB ns r)) ∧ Bw w w' := by
  have hl2 := hl
  unfold maxLen at hl2
  by_cases hbad : ns.length < 1 ∨ 8 < ns.length ∨ r < 1 ∨ 4 < r
  · have HB := qJ (wfB_bad hbad)
    rcases hbad with h1 | h2 | h3 | h4
    · go_enter Try.func66, Try.ntmps66
      go_wp2
      go_ret
      exact ⟨ret_bool (qK HB).symm, (by repeat first|exact br _|assumption|apply bd|apply bn|apply ba|refine bt ?_ (by assumption))⟩
    · go_enter Try.func66, Try.ntmps66
      go_wp2
      go_ret
      exact ⟨ret_bool (qK HB).symm, (by repeat first|exact br _|assumption|apply bd|apply bn|apply ba|refine bt ?_ (by assumption))⟩
    · go_enter Try.func66, Try.ntmps66
      go_wp2
      all_goals
        go_ret
        exact ⟨ret_bool (qK HB).symm, (by repeat first|exact br _|assumption|apply bd|apply bn|apply ba|refine bt ?_ (by assumption))⟩
    · go_enter Try.func66, Try.ntmps66
      go_wp2
      all_goals
        go_ret
        exact ⟨ret_bool (qK HB).symm, (by repeat first|exact br _|assumption|apply bd|apply bn|apply ba|refine bt ?_ (by assumption))⟩
  have h1 : 1 ≤ ns.length := by omega
  have h2 : ns.length ≤ 8 := by omega
  have h3 : 1 ≤ r := by omega
  have h4 : r ≤ 4 := by omega
  clear hbad
  have hfin := wfB_good h1 h2 h3 h4
  have HF := qJ hfin
  clear hfin
  go_enter Try.func66, Try.ntmps66
  go_wp2
  go_loopw [3, 27] (fun m i wr => ∃ k : Nat, k ≤ ns.length ∧ i = .int .i64 k ∧ m = .int .i64 (xG ns k) ∧ pB ns k = true ∧
      Bw (w.alloc (.cells #[.slice ad ns.length cap, .int .i64 r] 24)) wr)
    (fun _ i _ => ns.length - (intOf i).toNat)
  case atStart => exact ⟨0, Nat.zero_le _, rfl, rfl, rfl, Bw.refl _⟩
  case round =>
    obtain ⟨k, hk, rfl, rfl, hwf, hB⟩ := hrel
    have Hwf := qJ hwf
    clear hwf
    obtain ⟨gcc, gff⟩ := qX hB
    have gz : w.heap.size < wr.heap.size := by have := hB.size; simp at this; omega
    have hm := mgTo_le ns k
    by_cases hlt : k < ns.length
    · obtain ⟨b, off, rfl, hb, hc⟩ := hn k hlt
      obtain ⟨c0, c1, c2, c3, c4⟩ := hc k hlt
      clear hc
      cases hwk : zN ns (qV ns k) with
      | false =>
        have Hwk := qJ hwk
        clear hwk
        go_wp2_with (go_at_call 93; refine (wfNode_any ns (qV ns k) _ _ _ _ (hn.below (by repeat first|exact br _|assumption|apply bd|apply bn|apply ba|refine bt ?_ (by assumption))) hl).mono ?_; rintro e w' ⟨rfl, hbl⟩; rw [qK Hwk]; obtain ⟨hcc, hff⟩ := qX hbl)
        go_ret
        exact ⟨ret_bool (by rw [qK HF, wfTo_false (k := k + 1) (by unfold pB; rw [qK Hwk]; simp) _ (by omega)]; rfl), (by repeat first|exact br _|assumption|apply bd|apply bn|apply ba|refine bt ?_ (by assumption))⟩
      | true =>
        have Hwk := qJ hwk
        clear hwk
        go_wp2_with (go_at_call 93; refine (wfNode_any ns (qV ns k) _ _ _ _ (hn.below (by repeat first|exact br _|assumption|apply bd|apply bn|apply ba|refine bt ?_ (by assumption))) hl).mono ?_; rintro e w' ⟨rfl, hbl⟩; rw [qK Hwk]; obtain ⟨hcc, hff⟩ := qX hbl)
        · go_roundw
          case rel => exact ⟨k + 1, by omega, by go_num, by rw [mgTo_hit (by assumption)]; go_num, by unfold pB; rw [qK Hwf, qK Hwk]; rfl, (by repeat first|exact br _|assumption|apply bd|apply bn|apply ba|refine bt ?_ (by assumption))⟩
          case measure => simp [intOf]; omega
        · go_roundw
          case rel => exact ⟨k + 1, by omega, by go_num, by rw [mgTo_miss (by assumption)], by unfold pB; rw [qK Hwf, qK Hwk]; rfl, (by repeat first|exact br _|assumption|apply bd|apply bn|apply ba|refine bt ?_ (by assumption))⟩
          case measure => simp [intOf]; omega
    · have hkk : k = ns.length := by omega
      go_wp2
      go_ret
      exact ⟨ret_bool (by rw [qK HF, ← hkk, qK Hwf]; simp; omega), (by repeat first|exact br _|assumption|apply bd|apply bn|apply ba|refine bt ?_ (by assumption))⟩
def jK (ord : List Int) (x : Nd) : Bool :=
  (x.kind == 0) || (x.kind == 4) || (if x.kind == 3 then jF ord x.a && jF ord x.b else jF ord x.a)
def tG (ns : List Nd) (ord : List Int) (n : Int) : Int :=
  if jQ ns.length n then (if ((qV ns n.toNat).kind == 3) && jF ord (qV ns n.toNat).a then (qV ns n.toNat).b else (qV ns n.toNat).a) else n
def wM (ord : List Int) : Nat → Nat → Int
  | _, 0 => 0
  | k, f + 1 => if jF ord k then wM ord (k + 1) f else k
set_option maxHeartbeats 1000000 in
theorem lF (ord : List Int) (x : Nd) (ad : Option Addr) (cap : Nat) (w : World) (hx : IntsAt w ad ord) (hl : ord.length ≤ maxLen) :
    Calls Try.prog 95 #[.slice ad ord.length cap, x.val] w fun e w' => e = .returned (.bool (jK ord x)) ∧ Bw w w' := by
  unfold Nd.val
  cases ha : jF ord x.a with
  | false =>
    have HA := qJ ha
    clear ha
    go_enter Try.func95, Try.ntmps95
    go_wp2_with (go_at_call 94; refine (vZ ord _ _ _ _ (hx.below (by repeat first|exact br _|assumption|apply bd|apply bn|apply ba|refine bt ?_ (by assumption))) hl).mono ?_; rintro e w' ⟨rfl, rfl⟩; try rw [qK HA])
    all_goals
      go_ret
      exact ⟨ret_bool (by have := qK HA; rw [Bool.eq_iff_iff]; simp_all [jK]), (by repeat first|exact br _|assumption|apply bd|apply bn|apply ba|refine bt ?_ (by assumption))⟩
  | true =>
    have HA := qJ ha
    clear ha
    go_enter Try.func95, Try.ntmps95
    go_wp2_with (go_at_call 94; refine (vZ ord _ _ _ _ (hx.below (by repeat first|exact br _|assumption|apply bd|apply bn|apply ba|refine bt ?_ (by assumption))) hl).mono ?_; rintro e w' ⟨rfl, rfl⟩; try rw [qK HA])
    all_goals
      go_ret
      exact ⟨ret_bool (by have := qK HA; rw [Bool.eq_iff_iff]; simp_all [jK]), (by repeat first|exact br _|assumption|apply bd|apply bn|apply ba|refine bt ?_ (by assumption))⟩
theorem firstB_hit {ord : List Int} {k f : Nat} (h : jF ord k = false) : wM ord k (f + 1) = k := by simp [wM, h]
theorem firstB_skip {ord : List Int} {k f : Nat} (h : jF ord k = true) : wM ord k (f + 1) = wM ord (k + 1) f := by simp [wM, h]
set_option maxHeartbeats 1000000 in
theorem first_any (len : Nat) (ord : List Int) (ga : Option Addr) (gc : Nat) (r : Int) (ad : Option Addr) (cap : Nat) (w : World) (hx : IntsAt w ad ord) (hl : ord.length ≤ maxLen) (hg : len ≤ maxLen) :
    Calls Try.prog 96 #[.agg #[.slice ga len gc, .int .i64 r], .slice ad ord.length cap] w fun e w' => e = .returned (.int .i64 (wM ord 0 len)) ∧ Bw w w' := by
  have hg2 := hg
  unfold maxLen at hg2
  go_enter Try.func96, Try.ntmps96
  go_wp2
  go_loop [5] (fun i => ∃ k : Nat, k ≤ len ∧ i = .int .i64 k ∧ wM ord k (len - k) = wM ord 0 len) (fun i => len - (intOf i).toNat)
  case atStart => exact ⟨0, Nat.zero_le _, rfl, rfl⟩
  case round =>
    obtain ⟨k, hk, rfl, hf⟩ := hrel
    have Hf := qJ hf
    clear hf
    by_cases hlt : k < len
    · have e1 : len - k = (len - (k + 1)) + 1 := by omega
      rw [e1] at Hf
      clear e1
      cases hh : jF ord k with
      | false =>
        have HH := qJ hh
        clear hh
        go_wp2_with (go_at_call 94; refine (vZ ord _ _ _ _ (hx.below (by repeat first|exact br _|assumption|apply bd|apply bn|apply ba|refine bt ?_ (by assumption))) hl).mono ?_; rintro e w' ⟨rfl, rfl⟩; rw [qK HH])
        go_ret
        exact ⟨kN (by rw [← qK Hf, firstB_hit (qK HH)]), (by repeat first|exact br _|assumption|apply bd|apply bn|apply ba|refine bt ?_ (by assumption))⟩
      | true =>
        have HH := qJ hh
        clear hh
        go_wp2_with (go_at_call 94; refine (vZ ord _ _ _ _ (hx.below (by repeat first|exact br _|assumption|apply bd|apply bn|apply ba|refine bt ?_ (by assumption))) hl).mono ?_; rintro e w' ⟨rfl, rfl⟩; rw [qK HH])
        go_round
        case rel => exact ⟨k + 1, by omega, by go_num, by rw [← qK Hf, firstB_skip (qK HH)]⟩
        case measure => simp [intOf]; omega
    · have e1 : len - k = 0 := by omega
      rw [e1] at Hf
      clear e1
      go_wp2
      go_ret
      exact ⟨kN (by rw [← qK Hf]; rfl), (by repeat first|exact br _|assumption|apply bd|apply bn|apply ba|refine bt ?_ (by assumption))⟩
set_option maxHeartbeats 1000000 in
theorem dL (ns : List Nd) (ga : Option Addr) (gc : Nat) (r : Int) (ord : List Int) (n : Int) (ad : Option Addr) (cap : Nat) (w : World) (hn : NodesAt w ga ns) (hx : IntsAt w ad ord) (hl : ord.length ≤ maxLen) (_hg : ns.length ≤ maxLen) :
    Calls Try.prog 97 #[.agg #[.slice ga ns.length gc, .int .i64 r], .slice ad ord.length cap, .int .i64 n] w fun e w' => e = .returned (.int .i64 (tG ns ord n)) ∧ Bw w w' := by
  cases hb : jQ ns.length n with
  | false =>
    have HB := qJ hb
    clear hb
    go_enter Try.func97, Try.ntmps97
    go_wp2_with (go_at_call 74; refine (xU _ _ _ _ _ _).mono ?_; rintro e w' ⟨rfl, hbl⟩; rw [qK HB])
    go_ret
    exact ⟨kN (by simp [tG, qK HB]), (by repeat first|exact br _|assumption|apply bd|apply bn|apply ba|refine bt ?_ (by assumption))⟩
  | true =>
    have HB := qJ hb
    obtain ⟨h0, h1⟩ := isNodeB_iff.1 hb
    clear hb
    obtain ⟨i, rfl⟩ := Int.eq_ofNat_of_zero_le h0
    obtain ⟨b, off, rfl, hb, hc⟩ := hn i (by omega)
    obtain ⟨c0, c1, c2, c3, c4⟩ := hc i (by omega)
    clear hc
    go_enter Try.func97, Try.ntmps97
    go_wp2_with (first | (go_at_call 74; refine (xU _ _ _ _ _ _).mono ?_; rintro e w' ⟨rfl, hbl⟩; rw [qK HB]; obtain ⟨hcc, hff⟩ := qX hbl; have hz0 : w.heap.size < w'.heap.size := (by have := hbl.size; (try simp at this); omega)) | (go_at_call 94; refine (vZ ord _ _ _ _ (hx.below (by repeat first|exact br _|assumption|apply bd|apply bn|apply ba|refine bt ?_ (by assumption))) hl).mono ?_; rintro e w' ⟨rfl, rfl⟩))
    all_goals
      go_ret
      exact ⟨kN (by simp_all [tG, qK HB]), (by repeat first|exact br _|assumption|apply bd|apply bn|apply ba|refine bt ?_ (by assumption))⟩
theorem Try.infoInt : (Try.prog.info? 3).map (fun i => (i.zero, i.size, i.bytes)) = some (some (.int .i64 0), 1, 8) := by kernel_rfl
def Own (W w : World) (v : Value) (xs : List Int) : Prop := w.ownsRow W.heap.size 3 1 v xs.length (xs.map (Value.int .i64))
theorem Own.nil (W w : World) : Own W w (.slice none 0 0) [] := World.ownsRow_nil _ _ _ _
theorem Own.bw {W a b : World} {v : Value} {xs : List Int} (h : Own W a v xs) (hb : Bw a b) : Own W b v xs := by
  obtain ⟨hl, h⟩ := h
  refine ⟨hl, ?_⟩
  rcases h with h | ⟨g, cap, cur, e, hg, hc, h1, h2, h3, h4⟩
  · exact .inl h
  · have hlt : g < a.heap.size := by
      by_cases hlt : g < a.heap.size
      · exact hlt
      · rw [Array.getElem?_eq_none (by omega)] at hc; cases hc
    exact .inr ⟨g, cap, cur, e, hg, (Below.block hb g hlt).trans hc, h1, h2, h3, h4⟩
theorem Own.weaken {W V a : World} {v : Value} {xs : List Int} (h : Own W a v xs) (hb : Bw V W) : Own V a v xs := by
  obtain ⟨hl, h⟩ := h
  refine ⟨hl, ?_⟩
  rcases h with h | ⟨g, cap, cur, e, hg, r⟩
  · exact .inl h
  · exact .inr ⟨g, cap, cur, e, Nat.le_trans hb.size hg, r⟩
theorem Own.form {W w : World} {v : Value} {xs : List Int} (h : Own W w v xs) : ∃ ad cap, v = .slice ad xs.length cap ∧ IntsAt w ad xs ∧ xs.length ≤ maxLen := by
  obtain ⟨hl, h⟩ := h
  rcases h with ⟨e, h0⟩ | ⟨g, cap, cur, e, hg, hc, h1, h2, h3, h4⟩
  · refine ⟨none, 0, by rw [e, h0], fun i hi => absurd hi (by omega), by rw [h0]; exact Nat.zero_le _⟩
  · refine ⟨some ⟨g, 0, none⟩, cap, e, fun i hi => ⟨g, 0, rfl, ?_, fun j hj => ?_⟩, by omega⟩
    · by_cases hlt : g < w.heap.size
      · exact hlt
      · rw [Array.getElem?_eq_none (by omega)] at hc; cases hc
    · have := World.ownsRow.cells (w := w) (base := W.heap.size) (e := 3) (size := 1) (v := v) (n := xs.length) (xs := xs.map (Value.int .i64)) ⟨hl, .inr ⟨g, cap, cur, e, hg, hc, h1, h2, h3, h4⟩⟩ (g := g) (by rw [e]; rfl) j (.int .i64 (kC xs j)) (by rw [List.getElem?_map, List.getElem?_eq_getElem hj, jL hj]; rfl)
      rw [Nat.zero_add]
      by_cases hj0 : j = 0
      · subst hj0; simpa [Addr.add] using this
      · simpa [Addr.add, hj0] using this
theorem mK {ops : Array Oper} {rest : List Oper} {o : Oper} {a : Act} {Q : Exit → Act → World → Prop} (w : World) (hgd : o.guard = none) (s x : Operand)
    (ho : o.op = .call { callee := .builtin .append, args := #[s, x], argTypes := #[26, 26] }) (W : World) (v : Value) (xs : List Int) (hs : a.eval s = v) (hown : Own W w v xs)
    (g c : Nat) (n : Int) (hx : a.eval x = .slice (some ⟨g, 0, none⟩) 1 c) (hc : w.cell? ⟨g, 0, none⟩ = some (.int .i64 n)) (hlen : xs.length + 1 ≤ 1000000) (hB : Bw W w)
    (h : ∀ v' w', Own W w' v' (xs ++ [n]) → Bw W w' → w.grownBy w' v.ownBlock → wpList Try.prog ops Q rest (a.put o.dst v') w') : wpList Try.prog ops Q (o :: rest) a w := by
  obtain ⟨i0, hi, hz0, hz1, hz2⟩ := info_parts Try.infoInt
  refine wpList_append_own w hgd s x 26 ho W.heap.size 3 i0 (.int .i64 0) 1 8 Try.underlying26 hi hz0 hz1 hz2 rfl (by decide) v xs.length (xs.map (Value.int .i64)) hs hown ⟨g, 0, none⟩ 1 c [.int .i64 n] hx rfl ?_ ?_ ?_ ?_ hB.size ?_
  · intro j u hj
    match j, hj with
    | 0, hj => simp at hj; subst hj; simpa [Addr.add] using hc
  · intro u hu; simp at hu; subst hu; rfl
  · unfold maxLen; omega
  · omega
  · intro v' w' h1 h2 _
    refine h v' w' ?_ (Below.grown hB h2 hB.size fun k hk => (World.ownsRow.lt hown k hk).1) h2
    unfold Own
    simpa using h1
theorem uD {w : World} {b off j : Nat} {u : Value} (h : w.cell? ⟨b, off + j, none⟩ = some u) : w.cell? ((⟨b, off, none⟩ : Addr).add j) = some u := by
  by_cases hj0 : j = 0
  · subst hj0; simpa [Addr.add] using h
  · simpa [Addr.add, hj0] using h
theorem own_one {W w : World} (n : Int) (hB : Bw W w) : Own W (w.alloc (.cells #[.int .i64 n] 3)) (.slice (some ⟨w.heap.size, 0, none⟩) 1 1) [n] :=
  ⟨rfl, .inr ⟨w.heap.size, 1, #[.int .i64 n], rfl, hB.size, heap_alloc_new w _, Nat.le_refl _, by unfold maxLen; omega, rfl, rfl⟩⟩
theorem appN {ops : Array Oper} {rest : List Oper} {o : Oper} {a : Act} {Q : Exit → Act → World → Prop} (w : World) (hgd : o.guard = none) (s x : Operand)
    (ho : o.op = .call { callee := .builtin .append, args := #[s, x], argTypes := #[26, 26] }) (W : World) (v : Value) (xs : List Int) (hs : a.eval s = v) (hown : Own W w v xs)
    (ad : Option Addr) (c : Nat) (ys : List Int) (hx : a.eval x = .slice ad ys.length c) (hy : IntsAt w ad ys) (hpos : 0 < ys.length) (hlen : xs.length + ys.length ≤ 1000000) (hB : Bw W w)
    (h : ∀ v' w', Own W w' v' (xs ++ ys) → Bw W w' → w.grownBy w' v.ownBlock → wpList Try.prog ops Q rest (a.put o.dst v') w') : wpList Try.prog ops Q (o :: rest) a w := by
  obtain ⟨i0, hi, hz0, hz1, hz2⟩ := info_parts Try.infoInt
  obtain ⟨b, off, rfl, hb, hc⟩ := hy 0 hpos
  refine wpList_append_own w hgd s x 26 ho W.heap.size 3 i0 (.int .i64 0) 1 8 Try.underlying26 hi hz0 hz1 hz2 rfl (by decide) v xs.length (xs.map (Value.int .i64)) hs hown ⟨b, off, none⟩ ys.length c (ys.map (Value.int .i64)) hx (by simp) ?_ ?_ ?_ ?_ hB.size ?_
  · intro j u hj
    have hjl : j < ys.length := by
      by_cases hjl : j < ys.length
      · exact hjl
      · rw [List.getElem?_eq_none (by simp; omega)] at hj; cases hj
    rw [List.getElem?_map, List.getElem?_eq_getElem hjl, Option.map_some, Option.some_inj] at hj
    subst hj
    rw [← jL hjl]
    exact uD (hc j hjl)
  · intro u hu; simp at hu; obtain ⟨n, _, rfl⟩ := hu; rfl
  · unfold maxLen; omega
  · omega
  · intro v' w' h1 h2 _
    refine h v' w' ?_ (Below.grown hB h2 hB.size fun k hk => (World.ownsRow.lt hown k hk).1) h2
    unfold Own
    simpa using h1
def kM (ns : List Nd) (ord : List Int) : Nat → List Int
  | 0 => ord
  | k + 1 => if !jF (kM ns ord k) k && jK (kM ns ord k) (qV ns k) then kM ns ord k ++ [(k : Int)] else kM ns ord k
def vM (ns : List Nd) : Nat → List Int
  | 0 => []
  | p + 1 => kM ns (vM ns p) ns.length
def vW (ns : List Nd) : List Int := vM ns ns.length
theorem passTo_len (ns : List Nd) (ord : List Int) (k : Nat) : (kM ns ord k).length ≤ ord.length + k := by
  induction k with
  | zero => simp [kM]
  | succ k ih =>
    unfold kM
    split
    · simp; omega
    · omega
theorem ordTo_len (ns : List Nd) (p : Nat) : (vM ns p).length ≤ p * ns.length := by
  induction p with
  | zero => simp [vM]
  | succ p ih => unfold vM; have := passTo_len ns (vM ns p) ns.length; rw [Nat.succ_mul]; omega
theorem ordTo_len8 {ns : List Nd} {p : Nat} (h : ns.length ≤ 8) (hp : p ≤ ns.length) : (vM ns p).length ≤ 64 :=
  Nat.le_trans (ordTo_len ns p) (Nat.le_trans (Nat.mul_le_mul hp h) (by omega))
theorem gX {ns : List Nd} {ord : List Int} {k : Nat} (h1 : jF (kM ns ord k) k = false) (h2 : jK (kM ns ord k) (qV ns k) = true) : kM ns ord (k + 1) = kM ns ord k ++ [(k : Int)] := by
  rw [kM, h1, h2]; rfl
theorem nS {ns : List Nd} {ord : List Int} {k : Nat} (h1 : jF (kM ns ord k) k = true) : kM ns ord (k + 1) = kM ns ord k := by
  rw [kM, h1]; rfl
theorem nR {ns : List Nd} {ord : List Int} {k : Nat} (h2 : jK (kM ns ord k) (qV ns k) = false) : kM ns ord (k + 1) = kM ns ord k := by
  rw [kM, h2, Bool.and_false]; rfl
set_option maxHeartbeats 1000000 in
theorem order_any (ns : List Nd) (ga : Option Addr) (gc : Nat) (r : Int) (w : World) (hn : NodesAt w ga ns) (hg : ns.length ≤ 8) :
    Calls Try.prog 67 #[.agg #[.slice ga ns.length gc, .int .i64 r]] w fun e w' => ∃ v, e = .returned v ∧ Own w w' v (vW ns) ∧ Bw w w' := by
  have hgl : ns.length ≤ maxLen := by unfold maxLen; omega
  go_enter Try.func67, Try.ntmps67
  go_wp2
  go_loopw [3, 4] (fun v i wr => ∃ p : Nat, p ≤ ns.length ∧ i = .int .i64 p ∧ Own (w.alloc (.cells #[.slice ga ns.length gc, .int .i64 r] 24)) wr v (vM ns p) ∧
      Bw (w.alloc (.cells #[.slice ga ns.length gc, .int .i64 r] 24)) wr)
    (fun _ i _ => ns.length - (intOf i).toNat)
  case atStart => exact ⟨0, Nat.zero_le _, rfl, Own.nil _ _, Bw.refl _⟩
  case round =>
    obtain ⟨p, hp, rfl, hown, hB⟩ := hrel
    obtain ⟨gcc, gff⟩ := qX hB
    have gz : w.heap.size < wr.heap.size := by have := hB.size; simp at this; omega
    have h64 := ordTo_len8 hg hp
    by_cases hlt : p < ns.length
    · go_wp2
      go_loopw [3, 17] (fun v i wi => ∃ k : Nat, k ≤ ns.length ∧ i = .int .i64 k ∧ Own (w.alloc (.cells #[.slice ga ns.length gc, .int .i64 r] 24)) wi v (kM ns (vM ns p) k) ∧ Bw (w.alloc (.cells #[.slice ga ns.length gc, .int .i64 r] 24)) wi)
        (fun _ i _ => ns.length - (intOf i).toNat)
      case atStart => exact ⟨0, Nat.zero_le _, rfl, hown, hB⟩
      case round =>
        clear hown hB gcc gff gz
        obtain ⟨k, hk, rfl, hown, hB⟩ := hrel
        obtain ⟨gcc, gff⟩ := qX hB
        have gz : w.heap.size < wr.heap.size := by have := hB.size; simp at this; omega
        have hpl := passTo_len ns (vM ns p) k
        by_cases hkl : k < ns.length
        · obtain ⟨b, off, rfl, hb, hc⟩ := hn k hkl
          obtain ⟨c0, c1, c2, c3, c4⟩ := hc k hkl
          clear hc
          obtain ⟨ad, cap, rfl, hx, hml⟩ := hown.form
          cases hh : jF (kM ns (vM ns p) k) k with
          | true =>
            have HH := qJ hh
            clear hh
            go_wp2_with (go_at_call 94; refine (vZ (kM ns (vM ns p) k) _ _ _ _ (hx.below (by repeat first|exact br _|assumption|apply bd|apply bn|apply ba|refine bt ?_ (by assumption))) hml).mono ?_; rintro e w' ⟨rfl, rfl⟩; rw [qK HH])
            go_roundw
            case rel => exact ⟨k + 1, by omega, by go_num, by rw [nS (qK HH)]; exact hown.bw (by repeat first|exact br _|assumption|apply bd|apply bn|apply ba|refine bt ?_ (by assumption)), (by repeat first|exact br _|assumption|apply bd|apply bn|apply ba|refine bt ?_ (by assumption))⟩
            case measure => simp [intOf]; omega
          | false =>
            have HH := qJ hh
            clear hh
            cases hf : jK (kM ns (vM ns p) k) (qV ns k) with
            | false =>
              have HF := qJ hf
              clear hf
              go_wp2_with (first | (go_at_call 94; refine (vZ (kM ns (vM ns p) k) _ _ _ _ (hx.below (by repeat first|exact br _|assumption|apply bd|apply bn|apply ba|refine bt ?_ (by assumption))) hml).mono ?_; rintro e w' ⟨rfl, rfl⟩; rw [qK HH]) | (go_at_call 95; refine (lF (kM ns (vM ns p) k) (qV ns k) _ _ _ (hx.below (by repeat first|exact br _|assumption|apply bd|apply bn|apply ba|refine bt ?_ (by assumption))) hml).mono ?_; rintro e w' ⟨rfl, hbl⟩; rw [qK HF]))
              go_roundw
              case rel => exact ⟨k + 1, by omega, by go_num, by rw [nR (qK HF)]; exact hown.bw (by repeat first|exact br _|assumption|apply bd|apply bn|apply ba|refine bt ?_ (by assumption)), (by repeat first|exact br _|assumption|apply bd|apply bn|apply ba|refine bt ?_ (by assumption))⟩
              case measure => simp [intOf]; omega
            | true =>
              have HF := qJ hf
              clear hf
              go_wp2_with (first | (at_builtin; refine mK _ rfl _ _ rfl _ _ (kM ns (vM ns p) k) rfl (hown.bw (by repeat first|exact br _|assumption|apply bd|apply bn|apply ba|refine bt ?_ (by assumption))) _ _ (k : Int) rfl (by simp) (by omega) (by repeat first|exact br _|assumption|apply bd|apply bn|apply ba|refine bt ?_ (by assumption)) ?_; intro v' w1 hown1 hB1 hgr1) | (go_at_call 94; refine (vZ (kM ns (vM ns p) k) _ _ _ _ (hx.below (by repeat first|exact br _|assumption|apply bd|apply bn|apply ba|refine bt ?_ (by assumption))) hml).mono ?_; rintro e w' ⟨rfl, rfl⟩; rw [qK HH]) | (go_at_call 95; refine (lF (kM ns (vM ns p) k) (qV ns k) _ _ _ (hx.below (by repeat first|exact br _|assumption|apply bd|apply bn|apply ba|refine bt ?_ (by assumption))) hml).mono ?_; rintro e w' ⟨rfl, hbl⟩; rw [qK HF]; obtain ⟨hcc, hff⟩ := qX hbl))
              go_roundw
              case rel => exact ⟨k + 1, by omega, by go_num, by rw [gX (qK HH) (qK HF)]; exact hown1, hB1⟩
              case measure => simp [intOf]; omega
        · have hkk : k = ns.length := by omega
          subst hkk
          go_wp2
          go_roundw
          case rel => exact ⟨p + 1, by omega, by go_num, by unfold vM; exact hown, hB⟩
          case measure => simp [intOf]; omega
    · have hpp : p = ns.length := by omega
      obtain ⟨ad, cap, rfl, hx, hml⟩ := hown.form
      subst hpp
      go_wp2
      go_ret
      exact ⟨_, rfl, (hown.weaken (by repeat first|exact br _|assumption|apply bd|apply bn|apply ba|refine bt ?_ (by assumption))), (by repeat first|exact br _|assumption|apply bd|apply bn|apply ba|refine bt ?_ (by assumption))⟩
end Go.Proofs.Ytfemleimkbjehaa
