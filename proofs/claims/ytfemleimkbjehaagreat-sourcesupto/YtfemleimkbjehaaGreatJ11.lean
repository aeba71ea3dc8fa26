import Derived.Test.YtfemleimkbjehaaGreatJ9
import Derived.Test.YtfemleimkbjehaaGreatJ10
namespace Go.Proofs.YtfemleimkbjehaaGreat
set_option linter.unusedVariables false
set_option linter.unusedSimpArgs false
open Go.RowKit

def gsumTo (xs : List Int) (q : Int) (g : Nat) : Nat → Int
  | 0 => 0
  | k + 1 => if nth xs k % q == g then wrap64 (gsumTo xs q g k + nth xs k) else gsumTo xs q g k
def gmetTo (xs : List Int) (q : Int) (g : Nat) : Nat → Bool
  | 0 => false
  | k + 1 => if nth xs k % q == g then true else gmetTo xs q g k
/-- The sums of the groups ahead of m. -/
def grpTo (xs : List Int) (q : Int) : Nat → List Int
  | 0 => []
  | m + 1 => if gmetTo xs q m xs.length then grpTo xs q m ++ [gsumTo xs q m xs.length] else grpTo xs q m
theorem grpTo_len (xs : List Int) (q : Int) (m : Nat) : (grpTo xs q m).length ≤ m := by
  induction m with
  | zero => simp [grpTo]
  | succ m ih => unfold grpTo; split <;> (try simp) <;> omega
theorem gsum_yes {xs : List Int} {q : Int} {g k : Nat} (h : nth xs k % q = g) : gsumTo xs q g (k + 1) = wrap64 (gsumTo xs q g k + nth xs k) ∧ gmetTo xs q g (k + 1) = true := by simp [gsumTo, gmetTo, h]
theorem gsum_no {xs : List Int} {q : Int} {g k : Nat} (h : nth xs k % q ≠ g) : gsumTo xs q g (k + 1) = gsumTo xs q g k ∧ gmetTo xs q g (k + 1) = gmetTo xs q g k := by simp [gsumTo, gmetTo, h]
theorem grp_yes {xs : List Int} {q : Int} {m : Nat} (h : gmetTo xs q m xs.length = true) : grpTo xs q (m + 1) = grpTo xs q m ++ [gsumTo xs q m xs.length] := by rw [grpTo, if_pos h]
theorem grp_no {xs : List Int} {q : Int} {m : Nat} (h : gmetTo xs q m xs.length = false) : grpTo xs q (m + 1) = grpTo xs q m := by rw [grpTo, h]; rfl

/-- A Groups that lies at o of the block B: the sums, and which groups have one. -/
structure Grp (w : World) (B o : Nat) (S : Nat → Int) (M : Nat → Bool) : Prop where
  size : B < w.heap.size
  sum : ∀ g, g < 8 → w.cell? ⟨B, o + g, none⟩ = some (.int .i64 (S g))
  met : ∀ g, g < 8 → w.cell? ⟨B, o + 8 + g, none⟩ = some (.bool (M g))
  fr : ∀ g, w.frozen? ⟨B, g, none⟩ = false

theorem eight (v : Value) : ∀ g, g < 8 → (#[v, v, v, v, v, v, v, v])[g]? = some v := by
  intro g hg
  match g, hg with
  | 0, _ | 1, _ | 2, _ | 3, _ | 4, _ | 5, _ | 6, _ | 7, _ => rfl
theorem Grp.init (w : World) (t : TypeId) : Grp (w.alloc (.cells #[.int .i64 0, .int .i64 0, .int .i64 0, .int .i64 0, .int .i64 0, .int .i64 0, .int .i64 0, .int .i64 0, .bool false, .bool false, .bool false, .bool false, .bool false, .bool false, .bool false, .bool false] t)) w.heap.size 0 (fun _ => 0) (fun _ => false) := by
  have h1 := heap_alloc_new w (.cells #[.int .i64 0, .int .i64 0, .int .i64 0, .int .i64 0, .int .i64 0, .int .i64 0, .int .i64 0, .int .i64 0, .bool false, .bool false, .bool false, .bool false, .bool false, .bool false, .bool false, .bool false] t)
  refine ⟨by simp, fun g hg => cell_of_block h1 ?_, fun g hg => cell_of_block h1 ?_, fun g => frozen_of_block h1⟩
  · match g, hg with
    | 0, _ | 1, _ | 2, _ | 3, _ | 4, _ | 5, _ | 6, _ | 7, _ => rfl
  · match g, hg with
    | 0, _ | 1, _ | 2, _ | 3, _ | 4, _ | 5, _ | 6, _ | 7, _ => rfl
theorem Grp.bw {w w' : World} {B o : Nat} {S : Nat → Int} {M : Nat → Bool} (h : Grp w B o S M) (hb : Bw w w') : Grp w' B o S M := by
  have h0 := h.size
  obtain ⟨q1, q2⟩ := bcell hb
  exact ⟨Nat.lt_of_lt_of_le h0 hb.size, fun g hg => (q1 _ _ (by omega)).trans (h.sum g hg), fun g hg => (q1 _ _ (by omega)).trans (h.met g hg), fun g => (q2 _ _ (by omega)).trans (h.fr g)⟩
theorem Grp.step {w : World} {B o : Nat} {S : Nat → Int} {M : Nat → Bool} {g : Nat} {x : Int} (h : Grp w B o S M) (hg : g < 8) :
    Grp ((w.setCell ⟨B, o + g, none⟩ (.int .i64 (wrap64 (S g + x)))).setCell ⟨B, o + 8 + g, none⟩ (.bool true)) B o (fun j => if j = g then wrap64 (S g + x) else S j) (fun j => if j = g then true else M j) := by
  have h0 := h.size
  refine ⟨by simpa using h0, ?_, ?_, ?_⟩
  · intro j hj
    rw [cs_ne (by omega)]
    by_cases e : j = g
    · subst e; rw [if_pos rfl]; exact cs_eq (h.sum j hj)
    · rw [if_neg e, cs_ne (by omega)]; exact h.sum j hj
  · intro j hj
    by_cases e : j = g
    · subst e; rw [if_pos rfl]; exact cs_eq (u := .bool (M j)) (by rw [cs_ne (by omega)]; exact h.met j hj)
    · rw [if_neg e, cs_ne (by omega), cs_ne (by omega)]; exact h.met j hj
  · intro j; simpa [go_sem] using h.fr j
theorem Grp.congr {w : World} {B o : Nat} {S S' : Nat → Int} {M M' : Nat → Bool} (h : Grp w B o S M) (h1 : ∀ g, g < 8 → S' g = S g) (h2 : ∀ g, g < 8 → M' g = M g) : Grp w B o S' M' :=
  ⟨h.size, fun g hg => by rw [h1 g hg]; exact h.sum g hg, fun g hg => by rw [h2 g hg]; exact h.met g hg, h.fr⟩

set_option maxRecDepth 100000 in
set_option maxHeartbeats 2000000 in
theorem gadd_any (v q : Int) (B o g : Nat) (S : Nat → Int) (M : Nat → Bool) (w : World) (h : Grp w B o S M) (hq1 : 1 ≤ q) (hq8 : q ≤ 8) (hg : v % q = g) (hg8 : g < 8) :
    Calls Tryz.prog 130 #[.pointer (some ⟨B, o, none⟩), .int .i64 v, .int .i64 q] w fun e w' => e = .returned (.tuple #[]) ∧ Bw ((w.setCell ⟨B, o + g, none⟩ (.int .i64 (wrap64 (S g + v)))).setCell ⟨B, o + 8 + g, none⟩ (.bool true)) w' := by
  have hs := h.sum g hg8
  have hm := h.met g hg8
  have hf := h.fr
  have hsz := h.size
  have Hg := hide hg
  have hgi : (g : Int) < 8 := by omega
  clear h hg
  go_enter Tryz.func130, Tryz.ntmps130
  go_wp2_with (go_at_call 125; refine (vrest_any _ _ _ hq1 (by omega)).mono ?_; rintro e w' ⟨rfl, rfl⟩; rw [unhide Hg])
  go_region
  go_wp2_with fail
  go_end0
  exact ⟨rfl, (by repeat (first | exact Bw.refl _ | assumption | refine Bw.drew ?_ | refine Bw.drewN ?_ _ | refine Bw.alloc ?_ _ | refine Bw.trans ?_ (by assumption)))⟩

/-- The sums of the groups ahead of m that have one. -/
def grpOf (S : Nat → Int) (M : Nat → Bool) : Nat → List Int
  | 0 => []
  | m + 1 => if M m then grpOf S M m ++ [S m] else grpOf S M m
theorem grpOf_len (S : Nat → Int) (M : Nat → Bool) (m : Nat) : (grpOf S M m).length ≤ m := by
  induction m with
  | zero => simp [grpOf]
  | succ m ih => unfold grpOf; split <;> (try simp) <;> omega
theorem grpOf_yes {S : Nat → Int} {M : Nat → Bool} {m : Nat} (h : M m = true) : grpOf S M (m + 1) = grpOf S M m ++ [S m] := by rw [grpOf, if_pos h]
theorem grpOf_no {S : Nat → Int} {M : Nat → Bool} {m : Nat} (h : M m = false) : grpOf S M (m + 1) = grpOf S M m := by rw [grpOf, h]; rfl
theorem grpTo_of (xs : List Int) (q : Int) (m : Nat) : grpTo xs q m = grpOf (fun g => gsumTo xs q g xs.length) (fun g => gmetTo xs q g xs.length) m := by
  induction m with
  | zero => rfl
  | succ m ih => rw [grpTo, grpOf, ih]
set_option maxRecDepth 100000 in
set_option maxHeartbeats 2000000 in
theorem gsums_any (B o : Nat) (S : Nat → Int) (M : Nat → Bool) (w : World) (h : Grp w B o S M) :
    Calls Tryz.prog 129 #[.pointer (some ⟨B, o, none⟩)] w fun e w' => ∃ v, e = .returned v ∧ Own w w' v (grpOf S M 8) ∧ Bw w w' := by
  have HG := hide h
  have hsz := h.size
  clear h
  go_enter Tryz.func129, Tryz.ntmps129
  go_wp2_with fail
  go_loopw [3, 4] (fun v i wr => ∃ m : Nat, m ≤ 8 ∧ i = .int .i64 m ∧ Own w wr v (grpOf S M m) ∧ Bw w wr) (fun _ i _ => 8 - (intOf i).toNat)
  case atStart => exact ⟨0, Nat.zero_le _, rfl, Own.nil _ _, (by repeat (first | exact Bw.refl _ | assumption | refine Bw.drew ?_ | refine Bw.drewN ?_ _ | refine Bw.alloc ?_ _ | refine Bw.trans ?_ (by assumption)))⟩
  case round =>
    obtain ⟨m, hm8, rfl, hown, hB2⟩ := hrel
    rename World => wr
    have hln := grpOf_len S M m
    by_cases hlt2 : m < 8
    · have hG2 := (unhide HG).bw hB2
      have hs := hG2.sum m hlt2
      have hm := hG2.met m hlt2
      have hsz2 := hG2.size
      have hm1 : (m : Int) < 8 := by omega
      clear hG2
      have Hy := hide (@grpOf_yes S M m)
      have Hn := hide (@grpOf_no S M m)
      cases hmt : M m with
      | true =>
        rw [hmt] at hm
        go_wp2_with (at_builtin; refine app1 _ rfl _ _ rfl _ _ (grpOf S M m) rfl (hown.bw (by repeat (first | exact Bw.refl _ | assumption | refine Bw.drew ?_ | refine Bw.drewN ?_ _ | refine Bw.alloc ?_ _ | refine Bw.trans ?_ (by assumption)))) _ _ (S m) rfl (by simp) (by omega) (by repeat (first | exact Bw.refl _ | assumption | refine Bw.drew ?_ | refine Bw.drewN ?_ _ | refine Bw.alloc ?_ _ | refine Bw.trans ?_ (by assumption))) ?_; intro v' w2 hown1 hB3 hgr1)
        go_roundw
        case rel => exact ⟨m + 1, by omega, by go_num, by rw [(unhide Hy) hmt]; exact hown1, hB3⟩
        case measure => simp [intOf]; omega
      | false =>
        rw [hmt] at hm
        go_wp2_with fail
        go_roundw
        case rel => exact ⟨m + 1, by omega, by go_num, by rw [(unhide Hn) hmt]; exact hown, hB2⟩
        case measure => simp [intOf]; omega
    · have hmm : m = 8 := by omega
      subst hmm
      go_wp2_with fail
      go_ret
      exact ⟨_, rfl, hown, hB2⟩

end Go.Proofs.YtfemleimkbjehaaGreat
namespace Go.Proofs.YtfemleimkbjehaaGreat
set_option linter.unusedVariables false
set_option linter.unusedSimpArgs false
open Go.RowKit

def I64L (l : List Int) : Prop := ∀ v ∈ l, I64 v
theorem wrap_in {v : Int} (h : I64 v) : wrap64 v = v := by obtain ⟨h1, h2⟩ := h; unfold wrap64; omega
theorem wrap_I64 (v : Int) : I64 (wrap64 v) := wrap64_bd v
theorem nth_mem {l : List Int} {k : Nat} (h : k < l.length) : nth l k ∈ l := by rw [nth_lt h]; exact List.getElem_mem h

/-- What an Add adds. -/
def addB (x : Nd) : Int := if x.kind == 1 then x.k else 0
/-- Does a node let the value at the place i by? -/
def skipB (x : Nd) (l : List Int) (i : Nat) : Bool := ((x.kind == 5) && hasB (l.take i) (nth l i)) || ((x.kind == 2) && (nth l i % x.k != x.m))
def refTo (x : Nd) (l : List Int) : Nat → List Int
  | 0 => []
  | i + 1 => if skipB x l i then refTo x l i else refTo x l i ++ [wrap64 (nth l i + addB x)]
/-- What a node (no Source, no Back) puts out of what comes to it. -/
def nodeL (x : Nd) (l : List Int) : List Int := if x.kind == 6 then grpTo l x.k x.k.toNat else refTo x l l.length

theorem refTo_len (x : Nd) (l : List Int) (k : Nat) : (refTo x l k).length ≤ k := by
  induction k with
  | zero => simp [refTo]
  | succ k ih => unfold refTo; split <;> (try simp) <;> omega
theorem refTo_yes {x : Nd} {l : List Int} {i : Nat} (h : skipB x l i = true) : refTo x l (i + 1) = refTo x l i := by rw [refTo, if_pos h]
theorem refTo_no {x : Nd} {l : List Int} {i : Nat} (h : skipB x l i = false) : refTo x l (i + 1) = refTo x l i ++ [wrap64 (nth l i + addB x)] := by rw [refTo, h]; rfl
theorem refTo_64 (x : Nd) (l : List Int) (k : Nat) : I64L (refTo x l k) := by
  induction k with
  | zero => intro v hv; simp [refTo] at hv
  | succ k ih =>
    unfold refTo
    split
    · exact ih
    · intro v hv
      rcases List.mem_append.1 hv with hv | hv
      · exact ih v hv
      · simp at hv; subst hv; exact wrap_I64 _
theorem gsum_64 (l : List Int) (q : Int) (g k : Nat) : I64 (gsumTo l q g k) := by
  induction k with
  | zero => unfold gsumTo; exact ⟨by omega, by omega⟩
  | succ k ih => unfold gsumTo; split
                 · exact wrap_I64 _
                 · exact ih
theorem grp_64 (l : List Int) (q : Int) (m : Nat) : I64L (grpTo l q m) := by
  induction m with
  | zero => intro v hv; simp [grpTo] at hv
  | succ m ih =>
    unfold grpTo
    split
    · intro v hv
      rcases List.mem_append.1 hv with hv | hv
      · exact ih v hv
      · simp at hv; subst hv; exact gsum_64 _ _ _ _
    · exact ih
theorem nodeL_64 (x : Nd) (l : List Int) : I64L (nodeL x l) := by
  unfold nodeL; split
  · exact grp_64 _ _ _
  · exact refTo_64 _ _ _
theorem nodeL_len {x : Nd} {l : List Int} (h : x.kind = 6 → x.k ≤ 8) : (nodeL x l).length ≤ l.length ∨ (nodeL x l).length ≤ 8 := by
  unfold nodeL; split
  · rename_i h6
    have := h (by simpa using h6)
    exact .inr (Nat.le_trans (grpTo_len _ _ _) (by omega))
  · exact .inl (refTo_len _ _ _)

/-- A node that is no Once and no Sum: value by value. -/
theorem refTo_map {x : Nd} (h5 : (x.kind == 5) = false) (l : List Int) : ∀ k, k ≤ l.length → refTo x l k = ((l.take k).filter fun v => !((x.kind == 2) && (v % x.k != x.m))).map fun v => wrap64 (v + addB x) := by
  intro k
  induction k with
  | zero => intro _; simp [refTo]
  | succ k ih =>
    intro hk
    rw [take_nth (by omega), List.filter_append, List.map_append, ← ih (by omega)]
    cases hs : skipB x l k with
    | true =>
      rw [refTo_yes hs]
      unfold skipB at hs
      rw [h5] at hs
      simp only [Bool.false_and, Bool.false_or] at hs
      rw [List.filter_cons_of_neg (by rw [hs]; decide)]
      simp
    | false =>
      rw [refTo_no hs]
      unfold skipB at hs
      rw [h5] at hs
      simp only [Bool.false_and, Bool.false_or] at hs
      rw [List.filter_cons_of_pos (by rw [hs]; rfl)]
      simp
/-- A Once: each value once. -/
theorem refTo_once {x : Nd} (h5 : x.kind = 5) {l : List Int} (h : I64L l) : ∀ k, k ≤ l.length → (refTo x l k).Nodup ∧ ∀ v, v ∈ refTo x l k ↔ v ∈ l.take k := by
  have ha : addB x = 0 := by simp [addB, h5]
  intro k
  induction k with
  | zero => intro _; simp [refTo]
  | succ k ih =>
    intro hk
    obtain ⟨h1, h2⟩ := ih (by omega)
    have hm : I64 (nth l k) := h _ (nth_mem (by omega))
    have hsk : skipB x l k = hasB (l.take k) (nth l k) := by simp [skipB, h5]
    rw [take_nth (by omega)]
    cases hs : hasB (l.take k) (nth l k) with
    | true =>
      rw [refTo_yes (by rw [hsk, hs])]
      refine ⟨h1, fun v => ?_⟩
      rw [h2, List.mem_append]
      constructor
      · exact .inl
      · rintro (h | h)
        · exact h
        · simp at h; subst h; exact hasB_iff.1 hs
    | false =>
      rw [refTo_no (by rw [hsk, hs]), ha, Int.add_zero, wrap_in hm]
      refine ⟨?_, fun v => ?_⟩
      · rw [List.nodup_append]
        refine ⟨h1, by simp, ?_⟩
        intro a haa b hb e
        simp at hb
        rw [e, hb] at haa
        exact hasB_false.1 hs ((h2 _).1 haa)
      · rw [List.mem_append, List.mem_append, h2]
theorem perm_mem {a b : List Int} (ha : a.Nodup) (hb : b.Nodup) (h : ∀ v, v ∈ a ↔ v ∈ b) : a.Perm b := by
  rw [List.perm_iff_count]
  intro v
  rw [ha.count, hb.count]
  by_cases hv : v ∈ a
  · rw [if_pos hv, if_pos ((h v).1 hv)]
  · rw [if_neg hv, if_neg (fun h' => hv ((h v).2 h'))]

/-- The sum of a group, without the going round. -/
def sumG (q : Int) (g : Nat) : List Int → Int
  | [] => 0
  | v :: t => (if v % q == g then v else 0) + sumG q g t
theorem sumG_app (q : Int) (g : Nat) (a b : List Int) : sumG q g (a ++ b) = sumG q g a + sumG q g b := by
  induction a with
  | nil => simp [sumG]
  | cons v t ih => simp only [List.cons_append, sumG, ih]; omega
theorem sumG_perm {q : Int} {g : Nat} {a b : List Int} (h : a.Perm b) : sumG q g a = sumG q g b := by
  induction h with
  | nil => rfl
  | cons v _ ih => simp only [sumG, ih]
  | swap v u t => simp only [sumG]; omega
  | trans _ _ ih1 ih2 => exact ih1.trans ih2
theorem gsum_eq (l : List Int) (q : Int) (g : Nat) : ∀ k, k ≤ l.length → gsumTo l q g k = wrap64 (sumG q g (l.take k)) := by
  intro k
  induction k with
  | zero => intro _; simp [gsumTo, sumG, wrap64]
  | succ k ih =>
    intro hk
    rw [take_nth (by omega), sumG_app]
    unfold gsumTo
    rw [ih (by omega)]
    split
    · rename_i h; simp only [sumG, h]; simp only [wrap64]; simp; omega
    · rename_i h; simp [sumG, h]
theorem gmet_eq (l : List Int) (q : Int) (g : Nat) : ∀ k, k ≤ l.length → (gmetTo l q g k = true ↔ ∃ v ∈ l.take k, v % q = g) := by
  intro k
  induction k with
  | zero => intro _; simp [gmetTo]
  | succ k ih =>
    intro hk
    rw [take_nth (by omega)]
    unfold gmetTo
    split
    · rename_i h; simp at h; simp; exact .inr h
    · rename_i h; simp at h
      rw [ih (by omega)]
      constructor
      · rintro ⟨v, hv, e⟩; exact ⟨v, List.mem_append_left _ hv, e⟩
      · rintro ⟨v, hv, e⟩
        rcases List.mem_append.1 hv with hv | hv
        · exact ⟨v, hv, e⟩
        · simp at hv; subst hv; exact absurd e h
theorem grp_perm {a b : List Int} (q : Int) (h : a.Perm b) (m : Nat) : grpTo a q m = grpTo b q m := by
  induction m with
  | zero => rfl
  | succ m ih =>
    unfold grpTo
    have h1 : gmetTo a q m a.length = gmetTo b q m b.length := by
      rw [Bool.eq_iff_iff, gmet_eq a q m _ (Nat.le_refl _), gmet_eq b q m _ (Nat.le_refl _), List.take_length, List.take_length]
      constructor
      · rintro ⟨v, hv, e⟩; exact ⟨v, h.mem_iff.1 hv, e⟩
      · rintro ⟨v, hv, e⟩; exact ⟨v, h.mem_iff.2 hv, e⟩
    have h2 : gsumTo a q m a.length = gsumTo b q m b.length := by
      rw [gsum_eq a q m _ (Nat.le_refl _), gsum_eq b q m _ (Nat.le_refl _), List.take_length, List.take_length, sumG_perm h]
    rw [h1, h2, ih]
/-- Groups that there are not have no sum. -/
theorem grp_more {l : List Int} {q : Int} (hq : 1 ≤ q) : ∀ m : Nat, q ≤ m → grpTo l q m = grpTo l q q.toNat := by
  intro m
  induction m with
  | zero => intro h; omega
  | succ m ih =>
    intro h
    by_cases e : q = m + 1
    · rw [e]; rfl
    · rw [← ih (by omega)]
      refine grp_no ?_
      cases hm : gmetTo l q m l.length with
      | false => rfl
      | true =>
        obtain ⟨v, _, hv⟩ := (gmet_eq l q m _ (Nat.le_refl _)).1 hm
        have := Int.emod_lt_of_pos v (b := q) (by omega)
        omega

theorem nodeL_perm {x : Nd} {a b : List Int} (h : a.Perm b) (ha : I64L a) : (nodeL x a).Perm (nodeL x b) := by
  have hb : I64L b := fun v hv => ha v (h.mem_iff.2 hv)
  unfold nodeL
  split
  · rw [grp_perm _ h]
  · by_cases h5 : x.kind = 5
    · obtain ⟨a1, a2⟩ := refTo_once h5 ha a.length (Nat.le_refl _)
      obtain ⟨b1, b2⟩ := refTo_once h5 hb b.length (Nat.le_refl _)
      refine perm_mem a1 b1 fun v => ?_
      rw [a2, b2, List.take_length, List.take_length]
      exact h.mem_iff
    · have h5' : (x.kind == 5) = false := by simp [h5]
      rw [refTo_map h5' a _ (Nat.le_refl _), refTo_map h5' b _ (Nat.le_refl _), List.take_length, List.take_length]
      exact (h.filter _).map _
theorem nodeL_add {x : Nd} (h : x.kind = 1) (l : List Int) : nodeL x l = plusL l x.k := by
  unfold nodeL plusL plusTo
  rw [if_neg (by simp [h]), refTo_map (by simp [h]) l _ (Nat.le_refl _), List.filter_eq_self.2 (by simp [h])]
  simp [h, addB]
theorem nodeL_pass {x : Nd} (h : x.kind = 2) {l : List Int} (hl : I64L l) : nodeL x l = withL l x.k x.m := by
  unfold nodeL withL withTo
  rw [if_neg (by simp [h]), refTo_map (by simp [h]) l _ (Nat.le_refl _)]
  simp only [h, addB, List.take_length]
  have hf : (fun v => !((2 : Int) == 2 && v % x.k != x.m)) = fun v : Int => v % x.k == x.m := by funext v; simp [bne]
  rw [hf]
  have : (List.filter (fun v => v % x.k == x.m) l).map (fun v => wrap64 v) = (List.filter (fun v => v % x.k == x.m) l).map id :=
    List.map_congr_left fun v hv => wrap_in (hl v (List.mem_filter.1 hv).1)
  simpa using this
theorem nodeL_same {x : Nd} (h : x.kind ≠ 1 ∧ x.kind ≠ 2 ∧ x.kind ≠ 5 ∧ x.kind ≠ 6) {l : List Int} (hl : I64L l) : nodeL x l = l := by
  unfold nodeL
  rw [if_neg (by simp [h]), refTo_map (by simp [h]) l _ (Nat.le_refl _), List.filter_eq_self.2 (by simp [h])]
  simp only [addB, List.take_length]
  simp [h]
  have : l.map (fun v => wrap64 v) = l.map id := List.map_congr_left fun v hv => wrap_in (hl v hv)
  simpa using this
theorem nodeL_once {x : Nd} (h : x.kind = 5) {l r : List Int} (hl : I64L l) (hn : r.Nodup) (hm : ∀ v, v ∈ r ↔ v ∈ l) : r.Perm (nodeL x l) := by
  unfold nodeL
  rw [if_neg (by simp [h])]
  obtain ⟨a1, a2⟩ := refTo_once h hl l.length (Nat.le_refl _)
  refine perm_mem hn a1 fun v => ?_
  rw [a2, List.take_length, hm]
theorem nodeL_sum {x : Nd} (h : x.kind = 6) (h1 : 1 ≤ x.k) (h8 : x.k ≤ 8) (l : List Int) : nodeL x l = grpTo l x.k 8 := by
  unfold nodeL
  rw [if_pos (by simp [h]), grp_more h1 8 (by omega)]
end Go.Proofs.YtfemleimkbjehaaGreat
