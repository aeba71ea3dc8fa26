import Derived.Test.YtfemleimkbjehaaGreatJ8
import Derived.Deep.Upon
namespace Go.Proofs.YtfemleimkbjehaaGreat
set_option linter.unusedVariables false
set_option linter.unusedSimpArgs false
open Go.RowKit

theorem Own.pos {W w : World} {v : Value} {xs : List Int} (h : Own W w v xs) (h0 : 0 < xs.length) : ∃ g cap, v = .slice (some ⟨g, 0, none⟩) xs.length cap ∧ W.heap.size ≤ g ∧ g < w.heap.size ∧ (∀ o, w.frozen? ⟨g, o, none⟩ = false) ∧ ∀ j, j < xs.length → w.cell? ⟨g, j, none⟩ = some (.int .i64 (nth xs j)) := by
  obtain ⟨hl, h'⟩ := id h
  rcases h' with ⟨e, h0'⟩ | ⟨g, cap, cur, e, hg, hc, h1, h2, h3, h4⟩
  · omega
  · refine ⟨g, cap, e, hg, (Array.getElem?_eq_some_iff.1 hc).1, fun o => frozen_of_block hc, ?_⟩
    obtain ⟨ad, cap', e', hx, _⟩ := h.form
    intro j hj
    obtain ⟨b, off, ea, _, hcc⟩ := hx j hj
    rw [e] at e'
    simp at e'
    obtain ⟨rfl, rfl⟩ := e'
    simp at ea
    obtain ⟨rfl, rfl⟩ := ea
    simpa using hcc j hj

theorem Own.new {W a a' b : World} {g : Nat} {v : Value} {xs : List Int} (h : Own W a v xs) (ha : Bw a a') (hg : a.heap.size ≤ g) (hb : Kp g a' b) : Own W b v xs := by
  obtain ⟨hl, h⟩ := h
  refine ⟨hl, ?_⟩
  rcases h with h | ⟨k, cap, cur, e, hk, hc, r⟩
  · exact .inl h
  · have hlt := (Array.getElem?_eq_some_iff.1 hc).1
    exact .inr ⟨k, cap, cur, e, hk, (World.grownBy.block hb k (Nat.lt_of_lt_of_le hlt ha.size) (by simp; omega)).trans ((Below.block ha k hlt).trans hc), r⟩

theorem Own.set {W w : World} {g cap k : Nat} {xs : List Int} (h : Own W w (.slice (some ⟨g, 0, none⟩) xs.length cap) xs) (n : Int) (_hk : k < xs.length) :
    Own W (w.setCell ⟨g, k, none⟩ (.int .i64 n)) (.slice (some ⟨g, 0, none⟩) xs.length cap) (xs.set k n) := by
  obtain ⟨hl, h⟩ := h
  rcases h with ⟨e, _⟩ | ⟨g', cap', cur, e, hg, hc, h1, h2, h3, h4⟩
  · cases e
  · simp at e
    obtain ⟨rfl, rfl⟩ := e
    refine ⟨by simp, .inr ⟨g, cap, cur.setIfInBounds k (.int .i64 n), by simp, hg, ?_, by simpa using h1, h2, by simpa using h3, ?_⟩⟩
    · rw [setCell_eq_setRow w g k cur 3 (0, 0) _ hc]
      exact setRow_heap w g cur _ _ _ hc
    · simp only [Nat.mul_one] at h4
      rw [Array.toList_setIfInBounds, List.length_set, Nat.mul_one, List.take_set, h4, List.map_set]

theorem Own.kp {W a b : World} {g : Nat} {v : Value} {xs : List Int} (h : Own W a v xs) (hg : g < W.heap.size) (hb : Kp g a b) : Own W b v xs := by
  obtain ⟨hl, h⟩ := h
  refine ⟨hl, ?_⟩
  rcases h with h | ⟨k, cap, cur, e, hk, hc, r⟩
  · exact .inl h
  · exact .inr ⟨k, cap, cur, e, hk, (World.grownBy.block hb k (Array.getElem?_eq_some_iff.1 hc).1 (by simp; omega)).trans hc, r⟩
theorem Bw.kp {W a b : World} {g : Nat} (h : Bw W a) (hg : W.heap.size ≤ g) (hb : Kp g a b) : Bw W b :=
  Below.grown h hb h.size (by intro k hk; simp at hk; omega)
theorem Own.setOther {V w : World} {g k : Nat} {u n : Value} {ys : List Int} (h : Own V w u ys) (hg : g < V.heap.size) : Own V (w.setCell ⟨g, k, none⟩ n) u ys :=
  h.kp hg ((Kp.refl g w).setCell n)
def roomed (L : List Int) (k : Nat) : List Int := List.replicate k (-77) ++ L.drop k
theorem roomed_len {L : List Int} {k : Nat} (h : k ≤ L.length) : (roomed L k).length = L.length := by simp [roomed]; omega
theorem roomed_set {L : List Int} {k : Nat} (h : k < L.length) : (roomed L k).set k (-77) = roomed L (k + 1) := by
  unfold roomed
  rw [List.set_append_right _ _ (by simp)]
  simp only [List.length_replicate, Nat.sub_self]
  rw [List.drop_eq_getElem_cons h, List.set_cons_zero, List.replicate_succ', List.append_assoc]
  rfl
theorem roomed_all (L : List Int) : roomed L L.length = List.replicate L.length (-77) := by simp [roomed]
theorem nth_replicate {n j : Nat} (h : j < n) : nth (List.replicate n (-77)) j = -77 := by rw [nth_lt (by simpa using h)]; simp
theorem ints_src {w : World} {xs : List Int} {b off : Nat} (hc : ∀ j, j < xs.length → w.cell? ⟨b, off + j, none⟩ = some (.int .i64 (nth xs j))) : ∀ j u, (xs.map (Value.int .i64))[j]? = some u → w.cell? ((⟨b, off, none⟩ : Addr).add j) = some u := by
  intro j u hj
  have hjl : j < xs.length := by
    by_cases hjl : j < xs.length
    · exact hjl
    · rw [List.getElem?_eq_none (by simp; omega)] at hj; cases hj
  rw [List.getElem?_map, List.getElem?_eq_getElem hjl, Option.map_some, Option.some_inj] at hj
  subst hj
  rw [← nth_lt hjl]
  exact add_cell (hc j hjl)
theorem own_copied {W w : World} {L : List Int} (h : w.heap[W.heap.size]? = some (.cells (L.map (Value.int .i64) ++ (madeCells #[.int .i64 0] L.length).toList.drop (L.map (Value.int .i64)).length).toArray 3 (0, 0))) (hl : L.length ≤ maxLen) :
    Own W w (.slice (some ⟨W.heap.size, 0, none⟩) L.length L.length) L := by
  refine ⟨by simp, .inr ⟨W.heap.size, L.length, _, rfl, Nat.le_refl _, h, Nat.le_refl _, hl, by simp [size_madeCells], ?_⟩⟩
  simp
theorem Own.ints {W w : World} {ad : Option Addr} {n cap : Nat} {xs : List Int} (h : Own W w (.slice ad n cap) xs) : IntsAt w ad xs ∧ n = xs.length := by
  obtain ⟨ad', c', e, hx, _⟩ := h.form
  simp at e
  obtain ⟨rfl, rfl, _⟩ := e
  exact ⟨hx, rfl⟩
/-- All places of a slice hold what a caller has behind its own. -/
def RoomAt (w : World) (ad : Option Addr) (n : Nat) : Prop :=
  ∀ i, i < n → ∃ b off, ad = some ⟨b, off, none⟩ ∧ b < w.heap.size ∧ w.cell? ⟨b, off + i, none⟩ = some (.int .i64 (-77))
theorem nth_snoc {R : List Int} (h : ∀ j, j < R.length → nth R j = -77) : ∀ j, j < (R ++ [-77]).length → nth (R ++ [-77]) j = -77 := by
  intro j hj
  rw [nth_lt hj]
  by_cases e : j < R.length
  · rw [List.getElem_append_left e, ← nth_lt e]; exact h j e
  · simp at hj
    have : j = R.length := by omega
    subst this
    simp
theorem Own.room {W w : World} {ad : Option Addr} {n cap : Nat} {xs : List Int} (h : Own W w (.slice ad n cap) xs) (ha : ∀ j, j < xs.length → nth xs j = -77) : RoomAt w ad n := by
  obtain ⟨hx, rfl⟩ := h.ints
  intro i hi
  obtain ⟨b, off, e, hb, hc⟩ := hx i hi
  exact ⟨b, off, e, hb, by rw [hc i hi, ha i hi]⟩
theorem RoomAt.bw {w w' : World} {ad : Option Addr} {n : Nat} (h : RoomAt w ad n) (hb : Bw w w') : RoomAt w' ad n := by
  intro i hi
  obtain ⟨b, off, e, hlt, hc⟩ := h i hi
  exact ⟨b, off, e, Nat.lt_of_lt_of_le hlt hb.size, ((bcell hb).1 _ _ hlt).trans hc⟩
theorem len_snoc (R : List Int) (n : Int) : (R ++ [n]).length = R.length + 1 := by simp
end Go.Proofs.YtfemleimkbjehaaGreat
namespace Go.Proofs.YtfemleimkbjehaaGreat
set_option linter.unusedVariables false
set_option linter.unusedSimpArgs false
open Go.RowKit

def pickB (c n : Int) : Int := if c < 0 then (-(c + 1)) % n else c % n
theorem pickB_bd (c : Int) {n : Int} (h : 0 < n) : 0 ≤ pickB c n ∧ pickB c n < n := by
  unfold pickB
  split
  · exact ⟨Int.emod_nonneg _ (by omega), Int.emod_lt_of_pos _ h⟩
  · exact ⟨Int.emod_nonneg _ (by omega), Int.emod_lt_of_pos _ h⟩

theorem pick_neg {c n : Int} (h : c < 0) : -(c + 1).tmod n = (-(c + 1)) % n := by
  rw [← Int.neg_tmod, Int.tmod_eq_emod_of_nonneg (by omega)]

/-- May a node of the kind κ, the n-th, take from a? -/
def chB (ns : List Nd) (n : Nat) (a : Nat) : Bool := !((ndn ns a).kind == 7) && (((ndn ns a).kind == 4) || decide (a < n) || ((ndn ns n).kind == 4))
def chTo (ns : List Nd) (n : Nat) : Nat → List Int
  | 0 => []
  | k + 1 => if chB ns n k then chTo ns n k ++ [(k : Int)] else chTo ns n k
theorem chTo_len (ns : List Nd) (n k : Nat) : (chTo ns n k).length ≤ k := by
  induction k with
  | zero => simp [chTo]
  | succ k ih =>
    unfold chTo
    split
    · simp; omega
    · omega
theorem chTo_yes {ns : List Nd} {n k : Nat} (h : chB ns n k = true) : chTo ns n (k + 1) = chTo ns n k ++ [(k : Int)] := by simp [chTo, h]
theorem chTo_no {ns : List Nd} {n k : Nat} (h : chB ns n k = false) : chTo ns n (k + 1) = chTo ns n k := by simp [chTo, h]
theorem chTo_mem {ns : List Nd} {n : Nat} : ∀ k z, z ∈ chTo ns n k → ∃ a : Nat, z = a ∧ a < k ∧ chB ns n a = true := by
  intro k
  induction k with
  | zero => intro z hz; simp [chTo] at hz
  | succ k ih =>
    intro z hz
    cases h : chB ns n k with
    | true =>
      rw [chTo_yes h, List.mem_append] at hz
      rcases hz with hz | hz
      · obtain ⟨a, e, ha, hc⟩ := ih z hz; exact ⟨a, e, by omega, hc⟩
      · simp at hz; exact ⟨k, hz, by omega, h⟩
    | false => rw [chTo_no h] at hz; obtain ⟨a, e, ha, hc⟩ := ih z hz; exact ⟨a, e, by omega, hc⟩
theorem chTo_has {ns : List Nd} {n : Nat} : ∀ k a, a < k → chB ns n a = true → (a : Int) ∈ chTo ns n k := by
  intro k
  induction k with
  | zero => intro a ha; omega
  | succ k ih =>
    intro a ha hc
    by_cases e : a = k
    · subst e; rw [chTo_yes hc]; simp
    · have := ih a (by omega) hc
      cases h : chB ns n k with
      | true => rw [chTo_yes h]; simp [this]
      | false => rw [chTo_no h]; exact this
theorem chTo_nodup (ns : List Nd) (n k : Nat) : (chTo ns n k).Nodup := by
  induction k with
  | zero => simp [chTo]
  | succ k ih =>
    cases h : chB ns n k with
    | true =>
      rw [chTo_yes h, List.nodup_append]
      refine ⟨ih, by simp, ?_⟩
      intro a ha b hb e
      simp at hb
      obtain ⟨c, e2, hc, _⟩ := chTo_mem k a ha
      omega
    | false => rw [chTo_no h]; exact ih

end Go.Proofs.YtfemleimkbjehaaGreat
namespace Go.Proofs.YtfemleimkbjehaaGreat
set_option linter.unusedVariables false
set_option linter.unusedSimpArgs false
open Go.RowKit

theorem wrap64_bd (n : Int) : -9223372036854775808 ≤ wrap64 n ∧ wrap64 n ≤ 9223372036854775807 := by unfold wrap64; omega

theorem nth_ne {xs : List Int} (h : xs.Nodup) {i j : Nat} (hi : i < xs.length) (hj : j < xs.length) (hij : i ≠ j) : nth xs i ≠ nth xs j := by
  rw [nth_lt hi, nth_lt hj]
  intro e
  exact hij ((List.getElem_inj h).1 e)

structure FitNode (ns : List Nd) (n : Nat) (y : Nd) : Prop where
  pre : preB y = true
  kind : y.kind = (ndn ns n).kind ∨ ((ndn ns n).kind = 3 ∧ y.kind = 1)
  inp : ∀ z ∈ inputsL y, ∃ a : Nat, z = a ∧ a < ns.length ∧ chB ns n a = true

def I64 (z : Int) : Prop := -9223372036854775808 ≤ z ∧ z ≤ 9223372036854775807
def Nd.wf (x : Nd) : Prop := I64 x.kind ∧ I64 x.a ∧ I64 x.b ∧ I64 x.k ∧ I64 x.m

end Go.Proofs.YtfemleimkbjehaaGreat
namespace Go.Proofs.YtfemleimkbjehaaGreat
set_option linter.unusedVariables false
set_option linter.unusedSimpArgs false
open Go.RowKit

theorem tmod_neg {v k : Int} (hv : v < 0) : v.tmod k = -((-v) % k) := by
  have : v = -(-v) := by omega
  rw [this, Int.neg_tmod, Int.tmod_eq_emod_of_nonneg (by omega)]
  simp
theorem rest_neg0 {v k : Int} (h : (-v) % k = 0) : v % k = 0 := by
  have := Int.emod_add_mul_ediv (-v) k
  have h2 : v = k * (-((-v) / k)) := by rw [Int.mul_neg]; omega
  rw [h2]; exact Int.mul_emod_right _ _
theorem rest_neg {v k : Int} (hk : 0 < k) (h : (-v) % k ≠ 0) : v % k = k - (-v) % k := by
  have e := Int.emod_add_mul_ediv (-v) k
  have b1 := Int.emod_nonneg (-v) (b := k) (by omega)
  have b2 := Int.emod_lt_of_pos (-v) hk
  have h2 : v = (k - (-v) % k) + k * (-((-v) / k) - 1) := by
    rw [Int.mul_sub, Int.mul_neg]; omega
  conv => lhs; rw [h2]
  rw [Int.add_mul_emod_self_left]
  exact Int.emod_eq_of_lt (by omega) (by omega)

set_option maxHeartbeats 1000000 in
theorem vrest_any (v k : Int) (w : World) (h1 : 1 ≤ k) (h2 : k ≤ 1000) :
    Calls Tryz.prog 125 #[.int .i64 v, .int .i64 k] w fun e w' => e = .returned (.int .i64 (v % k)) ∧ w' = w := by
  have hk0 : (k == 0) = false := by simp; omega
  have hkm : ¬ k = -1 := by omega
  have hkl : ¬ k ≤ 0 := by omega
  by_cases hv : v < 0
  · have e1 := tmod_neg (k := k) hv
    have b1 := Int.emod_nonneg (-v) (b := k) (by omega)
    have b2 := Int.emod_lt_of_pos (-v) (b := k) (by omega)
    have H0 := hide (rest_neg0 (v := v) (k := k))
    have H1 := hide (rest_neg (v := v) (k := k) (by omega))
    go_enter Tryz.func125, Tryz.ntmps125
    go_wp2
    · go_ret
      exact ⟨ret_int (by rw [(unhide H1) (by omega)]; omega), rfl⟩
    · go_ret
      exact ⟨ret_int (by rw [(unhide H0) (by omega)]; omega), rfl⟩
  · have e1 : v.tmod k = v % k := Int.tmod_eq_emod_of_nonneg (by omega)
    have b1 := Int.emod_nonneg v (b := k) (by omega)
    have b2 := Int.emod_lt_of_pos v (b := k) (by omega)
    go_enter Tryz.func125, Tryz.ntmps125
    go_wp2
    go_ret
    exact ⟨rfl, rfl⟩

set_option maxHeartbeats 1000000 in
theorem rrest_any (v k : Int) (w : World) (h1 : 1 ≤ k) (h2 : k ≤ 1000) :
    Calls Tryz.prog 90 #[.int .i64 v, .int .i64 k] w fun e w' => e = .returned (.int .i64 (v % k)) ∧ w' = w := by
  have hk0 : (k == 0) = false := by simp; omega
  have hkm : ¬ k = -1 := by omega
  have hkl : ¬ k ≤ 0 := by omega
  by_cases hv : v < 0
  · have e1 := tmod_neg (k := k) hv
    have b1 := Int.emod_nonneg (-v) (b := k) (by omega)
    have b2 := Int.emod_lt_of_pos (-v) (b := k) (by omega)
    have H0 := hide (rest_neg0 (v := v) (k := k))
    have H1 := hide (rest_neg (v := v) (k := k) (by omega))
    generalize (-v) % k = r at *
    have e2 : (-r + k).tmod k = (-r + k) % k := Int.tmod_eq_emod_of_nonneg (by omega)
    go_enter Tryz.func90, Tryz.ntmps90
    go_wp2
    go_ret
    refine ⟨ret_int ?_, rfl⟩
    by_cases hr : r = 0
    · rw [(unhide H0) hr, hr]; simp
    · have e3 : (-r + k) % k = -r + k := Int.emod_eq_of_lt (by omega) (by omega)
      have e4 : -r % k = -r + k := by rw [← Int.add_emod_right]; exact e3
      have := (unhide H1) hr
      omega
  · have e1 : v.tmod k = v % k := Int.tmod_eq_emod_of_nonneg (by omega)
    have b1 := Int.emod_nonneg v (b := k) (by omega)
    have b2 := Int.emod_lt_of_pos v (b := k) (by omega)
    generalize v % k = r at *
    have e2 : (r + k).tmod k = (r + k) % k := Int.tmod_eq_emod_of_nonneg (by omega)
    have e3 : (r + k) % k = r := by rw [Int.add_emod_right]; exact Int.emod_eq_of_lt b1 b2
    go_enter Tryz.func90, Tryz.ntmps90
    go_wp2
    go_ret
    exact ⟨ret_int (by omega), rfl⟩

theorem take_nth {l : List Int} {k : Nat} (h : k < l.length) : l.take (k + 1) = l.take k ++ [nth l k] := by
  rw [List.take_succ_eq_append_getElem h, nth_lt h]
def plusTo (xs : List Int) (c : Int) (k : Nat) : List Int := (xs.take k).map fun v => wrap64 (v + c)
def plusL (xs : List Int) (c : Int) : List Int := plusTo xs c xs.length
theorem plusTo_snoc {xs : List Int} {c : Int} {k : Nat} (h : k < xs.length) : plusTo xs c (k + 1) = plusTo xs c k ++ [wrap64 (nth xs k + c)] := by simp [plusTo, take_nth h]
theorem plusTo_len {xs : List Int} {c : Int} {k : Nat} (h : k ≤ xs.length) : (plusTo xs c k).length = k := by simp [plusTo]; omega

def withTo (xs : List Int) (q m : Int) (k : Nat) : List Int := (xs.take k).filter fun v => v % q == m
def withL (xs : List Int) (q m : Int) : List Int := withTo xs q m xs.length
theorem withTo_yes {xs : List Int} {q m : Int} {k : Nat} (h : k < xs.length) (hr : (nth xs k % q == m) = true) : withTo xs q m (k + 1) = withTo xs q m k ++ [nth xs k] := by
  unfold withTo; rw [take_nth h, List.filter_append]; simp [hr]
theorem withTo_no {xs : List Int} {q m : Int} {k : Nat} (h : k < xs.length) (hr : (nth xs k % q == m) = false) : withTo xs q m (k + 1) = withTo xs q m k := by
  unfold withTo; rw [take_nth h, List.filter_append]; simp [hr]
theorem withTo_len {xs : List Int} {q m : Int} {k : Nat} : (withTo xs q m k).length ≤ k :=
  Nat.le_trans (List.length_filter_le _ _) (by simp; omega)

end Go.Proofs.YtfemleimkbjehaaGreat
namespace Go.Proofs.YtfemleimkbjehaaGreat
set_option linter.unusedVariables false
set_option linter.unusedSimpArgs false
open Go.RowKit

theorem Own.slice {W w : World} {v : Value} {xs : List Int} (h : Own W w v xs) : ∃ ad cap, v = .slice ad xs.length cap ∧ xs.length ≤ cap := by
  obtain ⟨hl, h'⟩ := id h
  rcases h' with ⟨e, h0⟩ | ⟨g, cap, cur, e, hg, hc, h1, h2, h3, h4⟩
  · exact ⟨none, 0, by rw [e, h0], by omega⟩
  · exact ⟨_, cap, e, h1⟩

theorem src_none (ad : Option Addr) (c : Nat) (w : World) : Src Tryz.prog 1 94 (.slice ad 0 c) 0 [] w where
  kind := .inl ⟨_, Tryz.underlying94⟩
  len := fun w' => by simp [Builtin.lenOf]
  cells := by cases ad <;> simp [Builtin.firstCells, loadCells, loadCellsFrom]
  cellsD := by cases ad <;> simp [Builtin.firstCells, loadCells, loadCellsFrom]
  newsLen := rfl
  one := by simp

/-- 'append(v, ys...)', ys of any length. -/
theorem appA {ops : Array Oper} {rest : List Oper} {o : Oper} {a : Act} {Q : Exit → Act → World → Prop} (w : World) (hgd : o.guard = none) (s x : Operand)
    (ho : o.op = .call { callee := .builtin .append, args := #[s, x], argTypes := #[94, 94] }) (W : World) (v : Value) (xs : List Int) (hs : a.eval s = v) (hown : Own W w v xs)
    (ad : Option Addr) (c : Nat) (ys : List Int) (hx : a.eval x = .slice ad ys.length c) (hy : IntsAt w ad ys) (hlen : xs.length + ys.length ≤ 1000000) (hB : Bw W w)
    (h : ∀ v' w', Own W w' v' (xs ++ ys) → Bw W w' → wpList Tryz.prog ops Q rest (a.put o.dst v') w') : wpList Tryz.prog ops Q (o :: rest) a w := by
  by_cases hpos : 0 < ys.length
  · exact appN w hgd s x ho W v xs hs hown ad c ys hx hy hpos hlen hB fun v' w' h1 h2 _ => h v' w' h1 h2
  · have h0 : ys = [] := List.eq_nil_of_length_eq_zero (by omega)
    subst h0
    obtain ⟨i0, hi, hz0, hz1, hz2⟩ := info_parts Tryz.infoInt
    obtain ⟨va, vc, rfl, hvc⟩ := hown.slice
    have hr := run_append_nothing (P := Tryz.prog) w 94 94 o.type 3 i0 Tryz.underlying94 hi va xs.length vc hvc (.slice ad 0 c) (by rw [hz1]; exact src_none ad c w)
    refine wpList_plain hgd fun _ hK => ?_
    unfold Oper.wp execOp
    simp only [List.length_nil] at hx
    simp only [ho, resolve, invoke, builtin, Sem.run_bind, Sem.run_pure, Result.andThen_ok, List.map_toArray, List.map_cons, List.map_nil, hs, hx, hr]
    exact hK _ _ (h _ w (by rw [List.append_nil]; exact hown) hB)
end Go.Proofs.YtfemleimkbjehaaGreat
namespace Go.Proofs.YtfemleimkbjehaaGreat
set_option linter.unusedVariables false
set_option linter.unusedSimpArgs false
open Go.RowKit

theorem srt_nth {l : List Int} (h : l.Pairwise (· ≤ ·)) {i j : Nat} (hij : i ≤ j) (hj : j < l.length) : nth l i ≤ nth l j := by
  rw [nth_lt hj, nth_lt (by omega : i < l.length)]
  by_cases e : i = j
  · subst e; exact Int.le_refl _
  · exact List.pairwise_iff_getElem.1 h i j (by omega) hj (by omega)

structure Mrg (lo hi : List Int) (i nx : Nat) (al : List Int) : Prop where
  perm : al.Perm (lo.take i ++ hi.take nx)
  srt : al.Pairwise (· ≤ ·)
  low : ∀ x ∈ al, ∀ j, i ≤ j → j < lo.length → x ≤ nth lo j
  high : ∀ x ∈ al, ∀ j, nx ≤ j → j < hi.length → x ≤ nth hi j

theorem Mrg.nil (lo hi : List Int) : Mrg lo hi 0 0 [] := ⟨by simp, by simp, by simp, by simp⟩
theorem Mrg.len {lo hi al : List Int} {i nx : Nat} (h : Mrg lo hi i nx al) (hi1 : i ≤ lo.length) (hn : nx ≤ hi.length) : al.length = i + nx := by
  rw [h.perm.length_eq]; simp; omega
theorem srt_snoc {al : List Int} {v : Int} (h : al.Pairwise (· ≤ ·)) (hv : ∀ x ∈ al, x ≤ v) : (al ++ [v]).Pairwise (· ≤ ·) := by
  rw [List.pairwise_append]; exact ⟨h, by simp, by simpa using hv⟩
theorem Mrg.stepH {lo hi al : List Int} {i nx : Nat} (h : Mrg lo hi i nx al) (sl : lo.Pairwise (· ≤ ·)) (sh : hi.Pairwise (· ≤ ·)) (hn : nx < hi.length) (hv : nth hi nx < nth lo i) : Mrg lo hi i (nx + 1) (al ++ [nth hi nx]) := by
  refine ⟨?_, srt_snoc h.srt fun x hx => h.high x hx nx (Nat.le_refl _) hn, ?_, ?_⟩
  · rw [take_nth hn, ← List.append_assoc]; exact h.perm.append_right _
  · intro x hx j hj hjl
    rcases List.mem_append.1 hx with hx | hx
    · exact h.low x hx j hj hjl
    · simp at hx; subst hx; have := srt_nth sl hj hjl; omega
  · intro x hx j hj hjl
    rcases List.mem_append.1 hx with hx | hx
    · exact h.high x hx j (by omega) hjl
    · simp at hx; subst hx; exact srt_nth sh (by omega) hjl
theorem Mrg.stepL {lo hi al : List Int} {i nx : Nat} (h : Mrg lo hi i nx al) (sl : lo.Pairwise (· ≤ ·)) (sh : hi.Pairwise (· ≤ ·)) (hil : i < lo.length) (hv : nx < hi.length → ¬ nth hi nx < nth lo i) : Mrg lo hi (i + 1) nx (al ++ [nth lo i]) := by
  refine ⟨?_, srt_snoc h.srt fun x hx => h.low x hx i (Nat.le_refl _) hil, ?_, ?_⟩
  · rw [take_nth hil, List.append_assoc]
    refine (h.perm.append_right _).trans ?_
    rw [List.append_assoc]
    exact List.Perm.append_left _ List.perm_append_comm
  · intro x hx j hj hjl
    rcases List.mem_append.1 hx with hx | hx
    · exact h.low x hx j (by omega) hjl
    · simp at hx; subst hx; exact srt_nth sl (by omega) hjl
  · intro x hx j hj hjl
    rcases List.mem_append.1 hx with hx | hx
    · exact h.high x hx j hj hjl
    · simp at hx; subst hx; have := hv (by omega); have := srt_nth sh hj hjl; omega
theorem Mrg.fin {lo hi al : List Int} {nx : Nat} (h : Mrg lo hi lo.length nx al) (sh : hi.Pairwise (· ≤ ·)) : (al ++ hi.drop nx).Perm (lo ++ hi) ∧ (al ++ hi.drop nx).Pairwise (· ≤ ·) := by
  constructor
  · refine (h.perm.append_right _).trans ?_
    rw [List.take_length, List.append_assoc, List.take_append_drop]
  · rw [List.pairwise_append]
    refine ⟨h.srt, sh.drop, ?_⟩
    intro x hx y hy
    obtain ⟨j, hj, rfl⟩ := List.getElem_of_mem hy
    simp at hj
    rw [List.getElem_drop, ← nth_lt (by omega)]
    exact h.high x hx _ (by omega) (by omega)

theorem IntsAt.drop {w : World} {ad : Option Addr} {xs : List Int} {b off nx : Nat} (h : IntsAt w ad xs) (e : ad = some ⟨b, off, none⟩) : IntsAt w (some ⟨b, off + nx, none⟩) (xs.drop nx) := by
  intro i hi
  simp at hi
  obtain ⟨b', off', e', hb, hc⟩ := h (nx + i) (by omega)
  rw [e] at e'
  simp at e'
  obtain ⟨rfl, rfl⟩ := e'
  refine ⟨b, off + nx, rfl, hb, fun j hj => ?_⟩
  simp at hj
  rw [Nat.add_assoc, hc (nx + j) (by omega), nth_lt (by omega), nth_lt (by simp; omega)]
  simp
theorem IntsAt.take {w : World} {ad : Option Addr} {xs : List Int} {n : Nat} (h : IntsAt w ad xs) : IntsAt w ad (xs.take n) := by
  intro i hi
  simp at hi
  obtain ⟨b', off', e', hb, hc⟩ := h i (by omega)
  refine ⟨b', off', e', hb, fun j hj => ?_⟩
  simp at hj
  rw [hc j (by omega), nth_lt (by omega), nth_lt (by simp; omega)]
  simp

end Go.Proofs.YtfemleimkbjehaaGreat
namespace Go.Proofs.YtfemleimkbjehaaGreat
set_option linter.unusedVariables false
set_option linter.unusedSimpArgs false
open Go.RowKit

theorem own_empty {W w : World} {g : Nat} (hg : g = w.heap.size) (hB : Bw W w) : Own W (w.alloc (.cells #[] 3)) (.slice (some ⟨g, 0, none⟩) 0 0) [] := by
  subst hg
  exact ⟨rfl, .inr ⟨w.heap.size, 0, #[], rfl, hB.size, heap_alloc_new w _, Nat.le_refl _, by unfold maxLen; omega, rfl, rfl⟩⟩

theorem srt_short {xs : List Int} (h : xs.length < 2) : xs.Pairwise (· ≤ ·) := by
  match xs, h with
  | [], _ => simp
  | [_], _ => simp

/-- Of sorted numbers each once. -/
def ddTo (ss : List Int) : Nat → List Int
  | 0 => []
  | k + 1 => if (k == 0) || (nth ss (k - 1) != nth ss k) then ddTo ss k ++ [nth ss k] else ddTo ss k
theorem ddTo_len (ss : List Int) (k : Nat) : (ddTo ss k).length ≤ k := by
  induction k with
  | zero => simp [ddTo]
  | succ k ih => unfold ddTo; split <;> (try simp) <;> omega
theorem ddTo_ok {ss : List Int} (hs : ss.Pairwise (· ≤ ·)) : ∀ k, k ≤ ss.length → (ddTo ss k).Pairwise (· < ·) ∧ (∀ x, x ∈ ddTo ss k ↔ x ∈ ss.take k) ∧ ∀ x ∈ ddTo ss k, x ≤ nth ss (k - 1) := by
  intro k
  induction k with
  | zero => intro _; simp [ddTo]
  | succ k ih =>
    intro hk
    obtain ⟨h1, h2, h3⟩ := ih (by omega)
    have hle : nth ss (k - 1) ≤ nth ss k := srt_nth hs (by omega) (by omega)
    have hmem : ∀ x, x ∈ ss.take (k + 1) ↔ x ∈ ss.take k ∨ x = nth ss k := by intro x; rw [take_nth (by omega)]; simp
    unfold ddTo
    split
    · rename_i hc
      have hlt : ∀ x ∈ ddTo ss k, x < nth ss k := by
        intro x hx
        by_cases e : k = 0
        · subst e; simp [ddTo] at hx
        · have hne : nth ss (k - 1) ≠ nth ss k := by simpa [e] using hc
          have := h3 x hx; omega
      refine ⟨?_, ?_, ?_⟩
      · rw [List.pairwise_append]; exact ⟨h1, by simp, by simpa using hlt⟩
      · intro x; rw [hmem, List.mem_append, h2]; simp
      · intro x hx
        rw [Nat.add_sub_cancel]
        rcases List.mem_append.1 hx with hx | hx
        · have := hlt x hx; omega
        · simp at hx; omega
    · rename_i hc
      have hk0 : k ≠ 0 := by intro e; subst e; simp at hc
      have he : nth ss (k - 1) = nth ss k := by
        have := hc; simp [hk0] at this; exact this
      refine ⟨h1, ?_, ?_⟩
      · intro x; rw [hmem, h2]
        constructor
        · exact .inl
        · rintro (h | rfl)
          · exact h
          · rw [← he, nth_lt (by omega)]
            exact List.mem_iff_getElem.2 ⟨k - 1, by simp; omega, by simp⟩
      · intro x hx; rw [Nat.add_sub_cancel]; have := h3 x hx; omega

end Go.Proofs.YtfemleimkbjehaaGreat
namespace Go.Proofs.YtfemleimkbjehaaGreat
set_option linter.unusedVariables false
set_option linter.unusedSimpArgs false
open Go.RowKit

theorem Handed.bw {w w' : World} {g : Nat} {ns : List Nd} (h : Handed w g ns) (hb : Bw w w') : Handed w' g ns :=
  ⟨Nat.lt_of_lt_of_le h.lt hb.size, fun j hj => NodeCells.bw (h.node j hj) h.lt hb, ⟨((bcell hb).1 _ _ h.lt).trans h.room.1, ((bcell hb).1 _ _ h.lt).trans h.room.2⟩, fun o => ((bcell hb).2 _ _ h.lt).trans (h.free o)⟩

end Go.Proofs.YtfemleimkbjehaaGreat
namespace Go.Proofs.YtfemleimkbjehaaGreat
set_option linter.unusedVariables false
set_option linter.unusedSimpArgs false
open Go.RowKit

theorem nth_one : ∀ j, j < ([-77] : List Int).length → nth [-77] j = -77 := by
  intro j hj
  simp at hj
  subst hj
  rfl

end Go.Proofs.YtfemleimkbjehaaGreat
