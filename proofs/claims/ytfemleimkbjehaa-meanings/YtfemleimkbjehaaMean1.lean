import Derived.Test.YtfemleimkbjehaaPureB
namespace Go.Proofs.Ytfemleimkbjehaa
open Go.RowKit

/-- A list of lists in the block g. -/
def RowAt (W w : World) (g L : Nat) (ls : Nat → List Int) : Prop :=
  ∃ arr : Array Value, w.heap[g]? = some (.cells arr 26 (0, 0)) ∧ arr.size = L ∧ ∀ j, j < L → ∃ v, arr[j]? = some v ∧ Own W w v (ls j)

theorem RowAt.bw {W a b : World} {g L : Nat} {ls : Nat → List Int} (h : RowAt W a g L ls) (hb : Bw a b) : RowAt W b g L ls := by
  obtain ⟨arr, h1, h2, h3⟩ := h
  refine ⟨arr, (Below.block hb g (Array.getElem?_eq_some_iff.1 h1).1).trans h1, h2, fun j hj => ?_⟩
  obtain ⟨v, e, ho⟩ := h3 j hj
  exact ⟨v, e, ho.bw hb⟩
theorem RowAt.weaken {V W a : World} {g L : Nat} {ls : Nat → List Int} (h : RowAt W a g L ls) (hb : Bw V W) : RowAt V a g L ls := by
  obtain ⟨arr, h1, h2, h3⟩ := h
  refine ⟨arr, h1, h2, fun j hj => ?_⟩
  obtain ⟨v, e, ho⟩ := h3 j hj
  exact ⟨v, e, ho.weaken hb⟩
theorem RowAt.get {W w : World} {g L : Nat} {ls : Nat → List Int} (h : RowAt W w g L ls) {j : Nat} (hj : j < L) : ∃ la lc, w.cell? ⟨g, j, none⟩ = some (.slice la (ls j).length lc) ∧ Own W w (.slice la (ls j).length lc) (ls j) ∧ (ls j).length ≤ lc := by
  obtain ⟨arr, h1, h2, h3⟩ := h
  obtain ⟨v, e, ho⟩ := h3 j hj
  obtain ⟨la, lc, rfl, hc⟩ := ho.slice
  exact ⟨la, lc, cell_of_block h1 e, ho, hc⟩
theorem RowAt.lt {W w : World} {g L : Nat} {ls : Nat → List Int} (h : RowAt W w g L ls) : g < w.heap.size := by
  obtain ⟨arr, h1, _⟩ := h
  exact (Array.getElem?_eq_some_iff.1 h1).1
theorem RowAt.fr {W w : World} {g L : Nat} {ls : Nat → List Int} (h : RowAt W w g L ls) (o : Nat) : w.frozen? ⟨g, o, none⟩ = false := by
  obtain ⟨arr, h1, _⟩ := h
  exact frozen_of_block h1
/-- A store into a list of lists leaves the numbers. -/
theorem Own.setRow {W V w : World} {v u : Value} {xs : List Int} {g k L : Nat} {ls : Nat → List Int} (h : Own W w v xs) (hr : RowAt V w g L ls) : Own W (w.setCell ⟨g, k, none⟩ u) v xs := by
  obtain ⟨arr, h1, _⟩ := hr
  obtain ⟨hl, h⟩ := h
  refine ⟨hl, ?_⟩
  rcases h with h | ⟨b, cap, cur, e, hb, hc, r⟩
  · exact .inl h
  · have hbg : b ≠ g := by
      intro e; subst e; rw [h1] at hc
      simp at hc
    exact .inr ⟨b, cap, cur, e, hb, (Below.heap_setCell w ⟨g, k, none⟩ u b hbg).trans hc, r⟩
def upd (ls : Nat → List Int) (j : Nat) (l : List Int) : Nat → List Int := fun i => if i = j then l else ls i
theorem upd_eq (ls : Nat → List Int) (j : Nat) (l : List Int) : upd ls j l j = l := by simp [upd]
theorem upd_ne (ls : Nat → List Int) {i j : Nat} (l : List Int) (h : i ≠ j) : upd ls j l i = ls i := by simp [upd, h]
theorem RowAt.set {W w : World} {g L : Nat} {ls : Nat → List Int} (h : RowAt W w g L ls) {j : Nat} {v : Value} {l : List Int} (ho : Own W w v l) : RowAt W (w.setCell ⟨g, j, none⟩ v) g L (upd ls j l) := by
  have h' := h
  obtain ⟨arr, h1, h2, h3⟩ := h
  refine ⟨arr.setIfInBounds j v, ?_, by simpa using h2, fun i hi => ?_⟩
  · rw [setCell_eq_setRow w g j arr 26 (0, 0) _ h1]
    exact setRow_heap w g arr _ _ _ h1
  · by_cases e : i = j
    · subst e
      refine ⟨v, by rw [Array.getElem?_setIfInBounds_self_of_lt (by omega)], ?_⟩
      rw [upd_eq]
      exact ho.setRow h'
    · obtain ⟨u, eu, hu⟩ := h3 i hi
      refine ⟨u, by rw [Array.getElem?_setIfInBounds_ne (by omega)]; exact eu, ?_⟩
      rw [upd_ne _ _ e]
      exact hu.setRow h'
theorem RowAt.setOther {W V w : World} {g g' L L' k : Nat} {ls ls' : Nat → List Int} {u : Value} (h : RowAt W w g L ls) (hr : RowAt V w g' L' ls') (hg : g ≠ g') : RowAt W (w.setCell ⟨g', k, none⟩ u) g L ls := by
  obtain ⟨arr, h1, h2, h3⟩ := h
  refine ⟨arr, (Below.heap_setCell w ⟨g', k, none⟩ u g hg).trans h1, h2, fun j hj => ?_⟩
  obtain ⟨v, e, ho⟩ := h3 j hj
  exact ⟨v, e, ho.setRow hr⟩

set_option maxHeartbeats 1000000 in
theorem listOf_any (W : World) (g L c : Nat) (ls : Nat → List Int) (n : Nat) (w : World) (h : RowAt W w g L ls) (hn : n < L) (_hL : L ≤ 1000) :
    Calls Try.prog 131 #[.slice (some ⟨g, 0, none⟩) L c, .int .i64 (n : Int)] w fun e w' => ∃ la lc, e = .returned (.slice la (ls n).length lc) ∧ Own W w (.slice la (ls n).length lc) (ls n) ∧ (ls n).length ≤ lc ∧ w' = w := by
  obtain ⟨la, lc, hc, ho, hlc⟩ := h.get hn
  have hd : decide (L ≤ n) = false := by simp; omega
  go_enter Try.func131, Try.ntmps131
  go_wp2_with fail
  go_ret
  exact ⟨la, lc, rfl, ho, hlc, rfl⟩

def cameL (x : Nd) (cur prev : Nat → List Int) : List Int := if x.kind == 4 then comeL x prev else comeL x cur
theorem inputs_3 {x : Nd} (h : x.kind = 3) : inputsL x = [x.a, x.b] := by simp [inputsL, h]
theorem inputs_1 {x : Nd} (h0 : x.kind ≠ 0) (h3 : x.kind ≠ 3) : inputsL x = [x.a] := by simp [inputsL, h0, h3]

set_option maxRecDepth 100000 in
set_option maxHeartbeats 2000000 in
theorem cameTo_any (x : Nd) (W : World) (g g' L c c' : Nat) (f f' : Nat → List Int) (w : World) (hB : Bw W w) (h : RowAt W w g L f) (h' : RowAt W w g' L f') (hL : L ≤ 8) (h0 : x.kind ≠ 0) (hi : ∀ z ∈ inputsL x, ∃ a : Nat, z = a ∧ a < L ∧ (x.kind = 3 → (f a).length ≤ 100000)) :
    Calls Try.prog 149 #[x.val, .slice (some ⟨g, 0, none⟩) L c, .slice (some ⟨g', 0, none⟩) L c'] w fun e w' => ∃ la lc, e = .returned (.slice la (cameL x f f').length lc) ∧ Own W w' (.slice la (cameL x f f').length lc) (cameL x f f') ∧ (cameL x f f').length ≤ lc ∧ Bw w w' := by
  unfold Nd.val
  by_cases k4 : x.kind = 4
  · have k4b : (x.kind == 4) = true := by simp [k4]
    have hin := inputs_1 (x := x) h0 (by omega)
    obtain ⟨a, ea, ha, _⟩ := hi x.a (by rw [hin]; simp)
    have Hc : Hid (cameL x f f' = f' a) := hide (by unfold cameL comeL; rw [if_pos k4b, hin, ea]; simp)
    clear hin hi
    rw [unhide Hc]
    go_enter Try.func149, Try.ntmps149
    go_wp2_with (go_at_call 131; rw [ea]; refine (listOf_any W g' L _ f' a _ (h'.bw (by repeat (first | exact Bw.refl _ | assumption | refine Bw.drew ?_ | refine Bw.drewN ?_ _ | refine Bw.alloc ?_ _ | refine Bw.trans ?_ (by assumption)))) ha (by omega)).mono ?_; rintro e w' ⟨la, lc, rfl, ho, hlc, rfl⟩)
    go_ret
    exact ⟨la, lc, rfl, ho, hlc, (by repeat (first | exact Bw.refl _ | assumption | refine Bw.drew ?_ | refine Bw.drewN ?_ _ | refine Bw.alloc ?_ _ | refine Bw.trans ?_ (by assumption)))⟩
  · have k4b : (x.kind == 4) = false := by simp [k4]
    by_cases k3 : x.kind = 3
    · have k3b : (x.kind == 3) = true := by simp [k3]
      have hin := inputs_3 k3
      obtain ⟨a, ea, ha, la1⟩ := hi x.a (by rw [hin]; simp)
      obtain ⟨b, eb, hb, lb1⟩ := hi x.b (by rw [hin]; simp)
      have la1 := la1 k3
      have lb1 := lb1 k3
      have Hc : Hid (cameL x f f' = [] ++ f a ++ f b) := hide (by unfold cameL comeL; rw [if_neg (by simp [k4]), hin, ea, eb]; simp)
      clear hin hi
      rw [unhide Hc]
      have Ea := hide ea
      have Eb := hide eb
      clear ea eb k3
      go_enter Try.func149, Try.ntmps149
      go_wp2_with fail
      rw [unhide Ea]
      refine (listOf_any W g L _ f a _ (h.bw (by repeat (first | exact Bw.refl _ | assumption | refine Bw.drew ?_ | refine Bw.drewN ?_ _ | refine Bw.alloc ?_ _ | refine Bw.trans ?_ (by assumption)))) ha (by omega)).mono ?_
      rintro e w1 ⟨la, lc, rfl, ho, hlc, rfl⟩
      go_wp2_with (at_builtin; refine appA _ rfl _ _ rfl _ _ [] rfl (Own.nil _ _) _ _ (f a) rfl ho.ints.1 (by simp; omega) (Bw.refl _) ?_; intro v1 w2 hown1 hB1; obtain ⟨q1, q2⟩ := bcell hB1)
      rw [unhide Eb]
      refine (listOf_any W g L _ f b _ (h.bw (by repeat (first | exact Bw.refl _ | assumption | refine Bw.drew ?_ | refine Bw.drewN ?_ _ | refine Bw.alloc ?_ _ | refine Bw.trans ?_ (by assumption)))) hb (by omega)).mono ?_
      rintro e w3 ⟨la2, lc2, rfl, ho2, hlc2, rfl⟩
      go_wp2_with (at_builtin; refine appA _ rfl _ _ rfl _ _ ([] ++ f a) rfl hown1 _ _ (f b) rfl ho2.ints.1 (by simp; omega) (by repeat (first | exact Bw.refl _ | assumption | refine Bw.drew ?_ | refine Bw.drewN ?_ _ | refine Bw.alloc ?_ _ | refine Bw.trans ?_ (by assumption))) ?_; intro v4 w4 hown4 hB4)
      obtain ⟨a4, c4, rfl, hc4⟩ := hown4.slice
      go_wp2_with fail
      go_ret
      exact ⟨_, _, rfl, hown4.weaken (by repeat (first | exact Bw.refl _ | assumption | refine Bw.drew ?_ | refine Bw.drewN ?_ _ | refine Bw.alloc ?_ _ | refine Bw.trans ?_ (by assumption))), hc4, (by repeat (first | exact Bw.refl _ | assumption | refine Bw.drew ?_ | refine Bw.drewN ?_ _ | refine Bw.alloc ?_ _ | refine Bw.trans ?_ (by assumption)))⟩
    · have k3b : (x.kind == 3) = false := by simp [k3]
      have hin := inputs_1 (x := x) h0 k3
      obtain ⟨a, ea, ha, _⟩ := hi x.a (by rw [hin]; simp)
      have Hc : Hid (cameL x f f' = f a) := hide (by unfold cameL comeL; rw [if_neg (by simp [k4]), hin, ea]; simp)
      clear hin hi
      rw [unhide Hc]
      go_enter Try.func149, Try.ntmps149
      go_wp2_with (go_at_call 131; rw [ea]; refine (listOf_any W g L _ f a _ (h.bw (by repeat (first | exact Bw.refl _ | assumption | refine Bw.drew ?_ | refine Bw.drewN ?_ _ | refine Bw.alloc ?_ _ | refine Bw.trans ?_ (by assumption)))) ha (by omega)).mono ?_; rintro e w' ⟨la, lc, rfl, ho, hlc, rfl⟩)
      go_ret
      exact ⟨la, lc, rfl, ho, hlc, (by repeat (first | exact Bw.refl _ | assumption | refine Bw.drew ?_ | refine Bw.drewN ?_ _ | refine Bw.alloc ?_ _ | refine Bw.trans ?_ (by assumption)))⟩

def outL (x : Nd) (l : List Int) : List Int := if x.kind == 4 then l else nodeL x l

set_option maxRecDepth 100000 in
set_option maxHeartbeats 2000000 in
theorem outOf_any (x : Nd) (l : List Int) (la : Option Addr) (lc : Nat) (w : World) (hx : IntsAt w la l) (hl : l.length ≤ 1000000) (hc : l.length ≤ lc) (h64 : I64L l) (h2 : x.kind = 2 → 1 ≤ x.k ∧ x.k ≤ 100) (h6 : x.kind = 6 → 1 ≤ x.k ∧ x.k ≤ 8) :
    Calls Try.prog 150 #[x.val, .slice la l.length lc] w fun e w' => ∃ v r, e = .returned v ∧ Own w w' v r ∧ r.Perm (outL x l) ∧ Bw w w' := by
  unfold Nd.val
  have Hperm : Hid ((∀ r, r = outL x l → r.Perm (outL x l))) := hide (fun r e => by rw [e])
  by_cases k1 : x.kind = 1
  · have k1b : (x.kind == 1) = true := by simp [k1]
    have Ho : Hid (outL x l = plusL l x.k) := hide (by unfold outL; rw [if_neg (by simp [k1]), nodeL_add k1])
    go_enter Try.func150, Try.ntmps150
    go_wp2_with (go_at_call 156; refine (plus_any l _ _ _ _ (hx.below (by repeat (first | exact Bw.refl _ | assumption | refine Bw.drew ?_ | refine Bw.drewN ?_ _ | refine Bw.alloc ?_ _ | refine Bw.trans ?_ (by assumption)))) hl).mono ?_; rintro e w' ⟨v, rfl, ho, hb⟩)
    go_ret
    exact ⟨_, _, rfl, ho.weaken (by repeat (first | exact Bw.refl _ | assumption | refine Bw.drew ?_ | refine Bw.drewN ?_ _ | refine Bw.alloc ?_ _ | refine Bw.trans ?_ (by assumption))), (unhide Hperm) _ (unhide Ho).symm, (by repeat (first | exact Bw.refl _ | assumption | refine Bw.drew ?_ | refine Bw.drewN ?_ _ | refine Bw.alloc ?_ _ | refine Bw.trans ?_ (by assumption)))⟩
  · have k1b : (x.kind == 1) = false := by simp [k1]
    by_cases k2 : x.kind = 2
    · have k2b : (x.kind == 2) = true := by simp [k2]
      have Ho : Hid (outL x l = withL l x.k x.m) := hide (by unfold outL; rw [if_neg (by simp [k2]), nodeL_pass k2 h64])
      obtain ⟨b1, b2⟩ := h2 k2
      go_enter Try.func150, Try.ntmps150
      go_wp2_with (go_at_call 157; refine (withRest_any l _ _ _ _ _ (hx.below (by repeat (first | exact Bw.refl _ | assumption | refine Bw.drew ?_ | refine Bw.drewN ?_ _ | refine Bw.alloc ?_ _ | refine Bw.trans ?_ (by assumption)))) hl b1 (by omega)).mono ?_; rintro e w' ⟨v, rfl, ho, hb⟩)
      go_ret
      exact ⟨_, _, rfl, ho.weaken (by repeat (first | exact Bw.refl _ | assumption | refine Bw.drew ?_ | refine Bw.drewN ?_ _ | refine Bw.alloc ?_ _ | refine Bw.trans ?_ (by assumption))), (unhide Hperm) _ (unhide Ho).symm, (by repeat (first | exact Bw.refl _ | assumption | refine Bw.drew ?_ | refine Bw.drewN ?_ _ | refine Bw.alloc ?_ _ | refine Bw.trans ?_ (by assumption)))⟩
    · have k2b : (x.kind == 2) = false := by simp [k2]
      by_cases k5 : x.kind = 5
      · have k5b : (x.kind == 5) = true := by simp [k5]
        have Ho : Hid (∀ r : List Int, r.Nodup → (∀ v, v ∈ r ↔ v ∈ l) → r.Perm (outL x l)) := hide (fun r a b => by unfold outL; rw [if_neg (by simp [k5])]; exact nodeL_once k5 h64 a b)
        go_enter Try.func150, Try.ntmps150
        go_wp2_with (go_at_call 158; refine (distinct_any l _ _ _ (hx.below (by repeat (first | exact Bw.refl _ | assumption | refine Bw.drew ?_ | refine Bw.drewN ?_ _ | refine Bw.alloc ?_ _ | refine Bw.trans ?_ (by assumption)))) hl hc).mono ?_; rintro e w' ⟨v, r, rfl, ho, hnd, hmm, hlen, hb⟩)
        go_ret
        exact ⟨_, _, rfl, ho.weaken (by repeat (first | exact Bw.refl _ | assumption | refine Bw.drew ?_ | refine Bw.drewN ?_ _ | refine Bw.alloc ?_ _ | refine Bw.trans ?_ (by assumption))), (unhide Ho) r hnd hmm, (by repeat (first | exact Bw.refl _ | assumption | refine Bw.drew ?_ | refine Bw.drewN ?_ _ | refine Bw.alloc ?_ _ | refine Bw.trans ?_ (by assumption)))⟩
      · have k5b : (x.kind == 5) = false := by simp [k5]
        by_cases k6 : x.kind = 6
        · have k6b : (x.kind == 6) = true := by simp [k6]
          obtain ⟨b1, b2⟩ := h6 k6
          have Ho : Hid (outL x l = grpTo l x.k 8) := hide (by unfold outL; rw [if_neg (by simp [k6]), nodeL_sum k6 b1 b2])
          go_enter Try.func150, Try.ntmps150
          go_wp2_with (go_at_call 159; refine (groupSums_any l _ _ _ _ (hx.below (by repeat (first | exact Bw.refl _ | assumption | refine Bw.drew ?_ | refine Bw.drewN ?_ _ | refine Bw.alloc ?_ _ | refine Bw.trans ?_ (by assumption)))) hl b1 b2).mono ?_; rintro e w' ⟨v, rfl, ho, hb⟩)
          go_ret
          exact ⟨_, _, rfl, ho.weaken (by repeat (first | exact Bw.refl _ | assumption | refine Bw.drew ?_ | refine Bw.drewN ?_ _ | refine Bw.alloc ?_ _ | refine Bw.trans ?_ (by assumption))), (unhide Hperm) _ (unhide Ho).symm, (by repeat (first | exact Bw.refl _ | assumption | refine Bw.drew ?_ | refine Bw.drewN ?_ _ | refine Bw.alloc ?_ _ | refine Bw.trans ?_ (by assumption)))⟩
        · have k6b : (x.kind == 6) = false := by simp [k6]
          have Ho : Hid (outL x l = [] ++ l) := hide (by unfold outL; split; rfl; exact nodeL_same ⟨k1, k2, k5, k6⟩ h64)
          go_enter Try.func150, Try.ntmps150
          go_wp2_with (at_builtin; refine appA _ rfl _ _ rfl w _ [] rfl (own_empty (by simp) (by repeat (first | exact Bw.refl _ | assumption | refine Bw.drew ?_ | refine Bw.drewN ?_ _ | refine Bw.alloc ?_ _ | refine Bw.trans ?_ (by assumption)))) _ _ l rfl (hx.below (by repeat (first | exact Bw.refl _ | assumption | refine Bw.drew ?_ | refine Bw.drewN ?_ _ | refine Bw.alloc ?_ _ | refine Bw.trans ?_ (by assumption)))) (by simp; omega) (by repeat (first | exact Bw.refl _ | assumption | refine Bw.drew ?_ | refine Bw.drewN ?_ _ | refine Bw.alloc ?_ _ | refine Bw.trans ?_ (by assumption))) ?_; intro v1 w2 hown1 hB1)
          go_ret
          exact ⟨_, _, rfl, hown1, (unhide Hperm) _ (unhide Ho).symm, (by repeat (first | exact Bw.refl _ | assumption | refine Bw.drew ?_ | refine Bw.drewN ?_ _ | refine Bw.alloc ?_ _ | refine Bw.trans ?_ (by assumption)))⟩

/-- What is given, in a row of memory. -/
def GvAt (w : World) (ad : Option Addr) (gv : List Gv) : Prop :=
  ∀ i, i < gv.length → ∃ b off, ad = some ⟨b, off, none⟩ ∧ b < w.heap.size ∧ ∀ j, j < gv.length →
    w.cell? ⟨b, off + j * 3, none⟩ = some (.int .i64 (gvn gv j).node) ∧ w.cell? ⟨b, off + j * 3 + 1, none⟩ = some (.int .i64 (gvn gv j).epoch) ∧ w.cell? ⟨b, off + j * 3 + 2, none⟩ = some (.int .i64 (gvn gv j).value)
theorem GvAt.below {w w' : World} {ad : Option Addr} {gv : List Gv} (h : GvAt w ad gv) (hb : Bw w w') : GvAt w' ad gv := by
  intro i hi
  obtain ⟨b, off, e, hlt, hc⟩ := h i hi
  refine ⟨b, off, e, Nat.lt_of_lt_of_le hlt hb.size, fun j hj => ?_⟩
  obtain ⟨c0, c1, c2⟩ := hc j hj
  exact ⟨((bcell hb).1 _ _ hlt).trans c0, ((bcell hb).1 _ _ hlt).trans c1, ((bcell hb).1 _ _ hlt).trans c2⟩

set_option maxRecDepth 100000 in
set_option maxHeartbeats 2000000 in
theorem givenAt_any (gv : List Gv) (ga : Option Addr) (gc n e s : Nat) (w : World) (hg : GvAt w ga gv) (hl : gv.length ≤ 20) :
    Calls Try.prog 148 #[.slice ga gv.length gc, .int .i64 (n : Int), .agg #[.int .i64 (e : Int), .int .i64 (s : Int)]] w fun en w' => ∃ v, en = .returned v ∧ Own w w' v (srcL gv n e s) ∧ Bw w w' := by
  go_enter Try.func148, Try.ntmps148
  go_wp2_with fail
  go_loopw [7, 12] (fun v i wr => ∃ k : Nat, k ≤ gv.length ∧ i = .int .i64 k ∧ Own (w.alloc (.cells #[.int .i64 (e : Int), .int .i64 (s : Int)] 75)) wr v (srcTo gv n e s k) ∧ Bw (w.alloc (.cells #[.int .i64 (e : Int), .int .i64 (s : Int)] 75)) wr) (fun _ i _ => gv.length - (intOf i).toNat)
  case atStart => exact ⟨0, Nat.zero_le _, rfl, Own.nil _ _, Bw.refl _⟩
  case round =>
    obtain ⟨k, hk, rfl, hown, hB⟩ := hrel
    obtain ⟨gcc, gff⟩ := bcell hB
    have gz : w.heap.size < wr.heap.size := by have := hB.size; simp at this; omega
    have hln := srcTo_len gv n e s k
    by_cases hlt : k < gv.length
    · obtain ⟨b, off, rfl, hb, hc⟩ := hg k hlt
      obtain ⟨c0, c1, c2⟩ := hc k hlt
      clear hc
      have gzb : b < wr.heap.size := by omega
      have Hy := hide (@srcTo_yes gv n e s k)
      have Hn := hide (@srcTo_no gv n e s k)
      have Hsb : Hid (srcB gv n e s k = (((s : Int) == 0) && ((gvn gv k).node == (n : Int)) && ((gvn gv k).epoch == (e : Int)))) := hide (by unfold srcB; congr 2; rw [Bool.eq_iff_iff]; simp)
      generalize gvn gv k = gk at *
      generalize hsb : srcB gv n e s k = sb at Hsb Hy Hn
      clear hsb
      cases h1 : (gk.node == (n : Int)) with
      | false =>
        rw [h1] at Hsb
        have Hs := hide ((unhide Hn) (by rw [unhide Hsb]; simp))
        go_wp2_with fail
        go_roundw
        case rel => exact ⟨k + 1, by omega, by go_num, by rw [unhide Hs]; exact hown.bw (by repeat (first | exact Bw.refl _ | assumption | refine Bw.drew ?_ | refine Bw.drewN ?_ _ | refine Bw.alloc ?_ _ | refine Bw.trans ?_ (by assumption))), (by repeat (first | exact Bw.refl _ | assumption | refine Bw.drew ?_ | refine Bw.drewN ?_ _ | refine Bw.alloc ?_ _ | refine Bw.trans ?_ (by assumption)))⟩
        case measure => simp [intOf]; omega
      | true =>
        cases h2 : (gk.epoch == (e : Int)) with
        | false =>
          rw [h2] at Hsb
          have Hs := hide ((unhide Hn) (by rw [unhide Hsb]; simp))
          go_wp2_with fail
          go_roundw
          case rel => exact ⟨k + 1, by omega, by go_num, by rw [unhide Hs]; exact hown.bw (by repeat (first | exact Bw.refl _ | assumption | refine Bw.drew ?_ | refine Bw.drewN ?_ _ | refine Bw.alloc ?_ _ | refine Bw.trans ?_ (by assumption))), (by repeat (first | exact Bw.refl _ | assumption | refine Bw.drew ?_ | refine Bw.drewN ?_ _ | refine Bw.alloc ?_ _ | refine Bw.trans ?_ (by assumption)))⟩
          case measure => simp [intOf]; omega
        | true =>
          cases h3 : ((s : Int) == 0) with
          | false =>
            rw [h3] at Hsb
            have Hs := hide ((unhide Hn) (by rw [unhide Hsb]; simp))
            go_wp2_with fail
            go_roundw
            case rel => exact ⟨k + 1, by omega, by go_num, by rw [unhide Hs]; exact hown.bw (by repeat (first | exact Bw.refl _ | assumption | refine Bw.drew ?_ | refine Bw.drewN ?_ _ | refine Bw.alloc ?_ _ | refine Bw.trans ?_ (by assumption))), (by repeat (first | exact Bw.refl _ | assumption | refine Bw.drew ?_ | refine Bw.drewN ?_ _ | refine Bw.alloc ?_ _ | refine Bw.trans ?_ (by assumption)))⟩
            case measure => simp [intOf]; omega
          | true =>
            rw [h1, h2, h3] at Hsb
            have Hs := hide ((unhide Hy) (by rw [unhide Hsb]; rfl))
            go_wp2_with (at_builtin; refine app1 _ rfl _ _ rfl _ _ (srcTo gv n e s k) rfl (hown.bw (by repeat (first | exact Bw.refl _ | assumption | refine Bw.drew ?_ | refine Bw.drewN ?_ _ | refine Bw.alloc ?_ _ | refine Bw.trans ?_ (by assumption)))) _ _ gk.value rfl (by simp) (by omega) (by repeat (first | exact Bw.refl _ | assumption | refine Bw.drew ?_ | refine Bw.drewN ?_ _ | refine Bw.alloc ?_ _ | refine Bw.trans ?_ (by assumption))) ?_; intro v' w1 hown1 hB1 hgr1)
            go_roundw
            case rel => exact ⟨k + 1, by omega, by go_num, by rw [unhide Hs]; exact hown1, hB1⟩
            case measure => simp [intOf]; omega
    · have hkk : k = gv.length := by omega
      subst hkk
      go_wp2_with fail
      go_ret
      exact ⟨_, rfl, hown.weaken (by repeat (first | exact Bw.refl _ | assumption | refine Bw.drew ?_ | refine Bw.drewN ?_ _ | refine Bw.alloc ?_ _ | refine Bw.trans ?_ (by assumption))), (by repeat (first | exact Bw.refl _ | assumption | refine Bw.drew ?_ | refine Bw.drewN ?_ _ | refine Bw.alloc ?_ _ | refine Bw.trans ?_ (by assumption)))⟩
end Go.Proofs.Ytfemleimkbjehaa
