import Derived.Test.YtfemleimkbjehaaJ4
import Derived.Test.YtfemleimkbjehaaJ1
set_option maxRecDepth 1000000
set_option maxHeartbeats 40000000
set_option linter.unusedVariables false
set_option linter.unusedSimpArgs false
namespace Go.Proofs.Ytfemleimkbjehaa
open Go.RowKit
set_option maxHeartbeats 1000000 in
theorem xW (v k : Int) (w : World) (h1 : 1 ≤ k) (h2 : k ≤ 1000) :
    Calls Try.prog 89 #[.int .i64 v, .int .i64 k] w fun e w' => e = .returned (.int .i64 (v % k)) ∧ w' = w := by
  have hk0 : (k == 0) = false := by simp; omega
  have hkm : ¬ k = -1 := by omega
  by_cases hv : v < 0
  · have e1 := tmod_neg (k := k) hv
    have b1 := Int.emod_nonneg (-v) (b := k) (by omega)
    have b2 := Int.emod_lt_of_pos (-v) (b := k) (by omega)
    have H0 := qJ (rest_neg0 (v := v) (k := k))
    have H1 := qJ (rest_neg (v := v) (k := k) (by omega))
    go_enter Try.func89, Try.ntmps89
    go_wp2
    · go_ret
      exact ⟨kN (by rw [(qK H1) (by omega)]; omega), rfl⟩
    · go_ret
      exact ⟨kN (by rw [(qK H0) (by omega)]; omega), rfl⟩
  · have e1 : v.tmod k = v % k := Int.tmod_eq_emod_of_nonneg (by omega)
    have b1 := Int.emod_nonneg v (b := k) (by omega)
    have b2 := Int.emod_lt_of_pos v (b := k) (by omega)
    go_enter Try.func89, Try.ntmps89
    go_wp2
    go_ret
    exact ⟨rfl, rfl⟩
structure T4 (w : World) (ob L R oc : Nat) (tb tc : Nat → Nat) (rb : Nat → Nat → Nat) (lv : Nat → Nat → Nat → Value) : Prop where
  out : ∃ arr : Array Value, w.heap[ob]? = some (.cells arr 108 (0, 0)) ∧ ∀ n, n < L → arr[n]? = some (.slice (some ⟨tb n, 0, none⟩) 6 (tc n))
  times : ∀ n, n < L → ∃ arr : Array Value, w.heap[tb n]? = some (.cells arr 54 (0, 0)) ∧ ∀ e, e < 6 → arr[e]? = some (.slice (some ⟨rb n e, 0, none⟩) R R)
  rows : ∀ n, n < L → ∀ e, e < 6 → ∃ arr : Array Value, w.heap[rb n e]? = some (.cells arr 26 (0, 0)) ∧ arr.size = R ∧ ∀ s, s < R → arr[s]? = some (lv e s n)
  inj : ∀ n e n' e', n < L → e < 6 → n' < L → e' < 6 → rb n e = rb n' e' → n = n' ∧ e = e'
theorem T4.frame {w w' : World} {ob L R oc : Nat} {tb tc : Nat → Nat} {rb : Nat → Nat → Nat} {lv : Nat → Nat → Nat → Value} (h : T4 w ob L R oc tb tc rb lv) (key : ∀ (g : Nat) (arr : Array Value) (t : TypeId), (t = 108 ∨ t = 54 ∨ t = 26) → w.heap[g]? = some (.cells arr t (0, 0)) → w'.heap[g]? = some (.cells arr t (0, 0))) : T4 w' ob L R oc tb tc rb lv := by
  refine ⟨?_, fun n hn => ?_, fun n hn e he => ?_, h.inj⟩
  · obtain ⟨arr, h1, h2⟩ := h.out; exact ⟨arr, key _ _ _ (.inl rfl) h1, h2⟩
  · obtain ⟨arr, h1, h2⟩ := h.times n hn; exact ⟨arr, key _ _ _ (.inr (.inl rfl)) h1, h2⟩
  · obtain ⟨arr, h1, h2⟩ := h.rows n hn e he; exact ⟨arr, key _ _ _ (.inr (.inr rfl)) h1, h2⟩
theorem T4.bw {w w' : World} {ob L R oc : Nat} {tb tc : Nat → Nat} {rb : Nat → Nat → Nat} {lv : Nat → Nat → Nat → Value} (h : T4 w ob L R oc tb tc rb lv) (hb : Bw w w') : T4 w' ob L R oc tb tc rb lv :=
  h.frame fun g _ _ _ hg => (Below.block hb g (Array.getElem?_eq_some_iff.1 hg).1).trans hg
theorem T4.get {w : World} {ob L R oc : Nat} {tb tc : Nat → Nat} {rb : Nat → Nat → Nat} {lv : Nat → Nat → Nat → Value} (h : T4 w ob L R oc tb tc rb lv) {n e s : Nat} (hn : n < L) (he : e < 6) (hs : s < R) :
    w.cell? ⟨ob, n, none⟩ = some (.slice (some ⟨tb n, 0, none⟩) 6 (tc n)) ∧ w.cell? ⟨tb n, e, none⟩ = some (.slice (some ⟨rb n e, 0, none⟩) R R) ∧ w.cell? ⟨rb n e, s, none⟩ = some (lv e s n) ∧ ob < w.heap.size ∧ tb n < w.heap.size ∧ rb n e < w.heap.size ∧ w.frozen? ⟨rb n e, s, none⟩ = false := by
  obtain ⟨a1, o1, o2⟩ := h.out
  obtain ⟨a2, t1, t2⟩ := h.times n hn
  obtain ⟨a3, r1, _, r2⟩ := h.rows n hn e he
  exact ⟨qQ o1 (o2 n hn), qQ t1 (t2 e he), qQ r1 (r2 s hs), (Array.getElem?_eq_some_iff.1 o1).1, (Array.getElem?_eq_some_iff.1 t1).1, (Array.getElem?_eq_some_iff.1 r1).1, qZ r1⟩
def updV (lv : Nat → Nat → Nat → Value) (e s n : Nat) (v : Value) : Nat → Nat → Nat → Value := fun e' s' n' => if e' = e ∧ s' = s ∧ n' = n then v else lv e' s' n'
theorem nM (lv : Nat → Nat → Nat → Value) (e s n : Nat) (v : Value) : updV lv e s n v e s n = v := by simp [updV]
theorem uK (lv : Nat → Nat → Nat → Value) {e s n e' s' n' : Nat} (v : Value) (h : ¬ (e' = e ∧ s' = s ∧ n' = n)) : updV lv e s n v e' s' n' = lv e' s' n' := by simp [updV, h]
theorem T4.set {w : World} {ob L R oc : Nat} {tb tc : Nat → Nat} {rb : Nat → Nat → Nat} {lv : Nat → Nat → Nat → Value} (h : T4 w ob L R oc tb tc rb lv) {n e s : Nat} (hn : n < L) (he : e < 6) (v : Value) : T4 (w.setCell ⟨rb n e, s, none⟩ v) ob L R oc tb tc rb (updV lv e s n v) := by
  obtain ⟨ar, hr, hrs, hrc⟩ := h.rows n hn e he
  have key : ∀ (g : Nat) (arr : Array Value) (t : TypeId), w.heap[g]? = some (Obj.cells arr t (0, 0)) → t ≠ 26 → (w.setCell ⟨rb n e, s, none⟩ v).heap[g]? = some (Obj.cells arr t (0, 0)) := fun g arr t hg ht => qU hr hg ht
  refine ⟨?_, fun m hm => ?_, fun m hm e' he' => ?_, h.inj⟩
  · obtain ⟨arr, h1, h2⟩ := h.out; exact ⟨arr, key _ _ _ h1 (by decide), h2⟩
  · obtain ⟨arr, h1, h2⟩ := h.times m hm; exact ⟨arr, key _ _ _ h1 (by decide), h2⟩
  · by_cases e1 : m = n ∧ e' = e
    · obtain ⟨rfl, rfl⟩ := e1
      refine ⟨ar.setIfInBounds s v, ?_, by simpa using hrs, fun s' hs' => ?_⟩
      · rw [setCell_eq_setRow w (rb m e') s ar 26 (0, 0) _ hr]
        exact setRow_heap w (rb m e') ar _ _ _ hr
      · by_cases e2 : s' = s
        · subst e2; rw [nM, Array.getElem?_setIfInBounds_self_of_lt (by omega)]
        · rw [uK _ _ (fun hh => e2 hh.2.1), Array.getElem?_setIfInBounds_ne (by omega)]; exact hrc s' hs'
    · have hne : rb m e' ≠ rb n e := fun eq => e1 (h.inj m e' n e hm he' hn he eq)
      obtain ⟨a2, q1, q2, q3⟩ := h.rows m hm e' he'
      refine ⟨a2, (Below.heap_setCell w ⟨rb n e, s, none⟩ v _ hne).trans q1, q2, fun s' hs' => ?_⟩
      rw [uK _ _ (fun hh => e1 ⟨hh.2.2, hh.1⟩)]; exact q3 s' hs'
theorem T4.setOther {w : World} {ob L R oc : Nat} {tb tc : Nat → Nat} {rb : Nat → Nat → Nat} {lv : Nat → Nat → Nat → Value} (h : T4 w ob L R oc tb tc rb lv) {g k : Nat} {arr : Array Value} (hg : w.heap[g]? = some (.cells arr 26 (0, 0))) (hne : ∀ n e, n < L → e < 6 → rb n e ≠ g) (v : Value) : T4 (w.setCell ⟨g, k, none⟩ v) ob L R oc tb tc rb lv := by
  refine ⟨?_, fun m hm => ?_, fun m hm e' he' => ?_, h.inj⟩
  · obtain ⟨arr, h1, h2⟩ := h.out; exact ⟨arr, qU hg h1 (by decide), h2⟩
  · obtain ⟨arr, h1, h2⟩ := h.times m hm; exact ⟨arr, qU hg h1 (by decide), h2⟩
  · obtain ⟨a2, q1, q2⟩ := h.rows m hm e' he'
    exact ⟨a2, (Below.heap_setCell w ⟨g, k, none⟩ v _ (hne m e' hm he')).trans q1, q2⟩
def RowNil (w : World) (g L : Nat) : Prop := ∃ arr : Array Value, w.heap[g]? = some (.cells arr 26 (0, 0)) ∧ arr.size = L ∧ ∀ j, j < L → arr[j]? = some (.slice none 0 0)
theorem RowNil.bw {w w' : World} {g L : Nat} (h : RowNil w g L) (hb : Bw w w') : RowNil w' g L := by
  obtain ⟨arr, h1, h2⟩ := h
  exact ⟨arr, (Below.block hb g (Array.getElem?_eq_some_iff.1 h1).1).trans h1, h2⟩
theorem RowNil.lt {w : World} {g L : Nat} (h : RowNil w g L) : g < w.heap.size := by
  obtain ⟨arr, h1, h2⟩ := h
  exact (Array.getElem?_eq_some_iff.1 h1).1
theorem RowNil.grown {w w' : World} {g L base n size : Nat} {u : Value} {ty : TypeId} {xs : List Value} (h : RowNil w g L) (hown : w.ownsRow base ty size u n xs) (hg : w.grownBy w' u.ownBlock) (hne : 26 ≠ ty) : RowNil w' g L := by
  obtain ⟨arr, h1, h2⟩ := h
  exact ⟨arr, kZ hown hg h1 (.inl hne), h2⟩
theorem rowNil_made {w : World} {g L : Nat} (hg : g = w.heap.size) : RowNil (w.alloc (.cells (madeCells #[.slice none 0 0] L) 26)) g L := by
  subst hg
  refine ⟨_, heap_alloc_new w _, by simp [size_madeCells], fun j hj => ?_⟩
  rw [← Array.getElem?_toList, toList_madeCells_one]
  simp [hj]
structure TimesN (B : Nat) (w : World) (R : Nat) (v : Value) (rs : List Nat) : Prop where
  own : w.ownsRow B 54 1 v rs.length (rs.map fun b => .slice (some ⟨b, 0, none⟩) R R)
  rows : ∀ b ∈ rs, RowNil w b R ∧ B ≤ b
  nd : rs.Nodup
theorem TimesN.nil (B : Nat) (w : World) (R : Nat) : TimesN B w R (.slice none 0 0) [] := ⟨World.ownsRow_nil _ _ _ _, by simp, List.nodup_nil⟩
theorem TimesN.bw {B : Nat} {a b : World} {R : Nat} {v : Value} {rs : List Nat} (h : TimesN B a R v rs) (hb : Bw a b) : TimesN B b R v rs :=
  ⟨qP h.own fun g hg => Below.block hb g hg, fun x hx => ⟨(h.rows x hx).1.bw hb, (h.rows x hx).2⟩, h.nd⟩
theorem TimesN.weaken {B C : Nat} {a : World} {R : Nat} {v : Value} {rs : List Nat} (h : TimesN B a R v rs) (hb : C ≤ B) : TimesN C a R v rs :=
  ⟨kU h.own hb, fun x hx => ⟨(h.rows x hx).1, Nat.le_trans hb (h.rows x hx).2⟩, h.nd⟩
theorem TimesN.grow {B : Nat} {w w' : World} {R b : Nat} {v v' : Value} {rs : List Nat} (h : TimesN B w R v rs) (hb : RowNil w b R) (hlo : B ≤ b) (hnew : ∀ x ∈ rs, x < b) (h2 : w'.ownsRow B 54 1 v' (rs.length + 1) (rs.map (fun b => .slice (some ⟨b, 0, none⟩) R R) ++ [.slice (some ⟨b, 0, none⟩) R R])) (hg : w.grownBy w' v.ownBlock) : TimesN B w' R v' (rs ++ [b]) := by
  refine ⟨by rw [List.map_append, List.length_append]; exact h2, fun x hx => ?_, ?_⟩
  · rcases List.mem_append.1 hx with hx | hx
    · exact ⟨(h.rows x hx).1.grown h.own hg (by decide), (h.rows x hx).2⟩
    · simp at hx; subst hx; exact ⟨hb.grown h.own hg (by decide), hlo⟩
  · rw [List.nodup_append]
    refine ⟨h.nd, by simp, ?_⟩
    intro a ha c hc e
    simp at hc
    have := hnew a ha
    omega
theorem TimesN.grown {B : Nat} {w w' : World} {R base n size : Nat} {v u : Value} {rs : List Nat} {ty : TypeId} {xs : List Value} (h : TimesN B w R v rs) (hown : w.ownsRow base ty size u n xs) (hg : w.grownBy w' u.ownBlock) (h1 : 54 ≠ ty) (h2 : 26 ≠ ty) : TimesN B w' R v rs :=
  ⟨jU hown hg h.own h1, fun x hx => ⟨(h.rows x hx).1.grown hown hg h2, (h.rows x hx).2⟩, h.nd⟩
structure O4 (B : Nat) (w : World) (R : Nat) (v : Value) (ts : List (Value × List Nat)) : Prop where
  own : w.ownsRow B 108 1 v ts.length (ts.map (·.1))
  each : ∀ p ∈ ts, TimesN B w R p.1 p.2 ∧ p.2.length = 6
  sep : ∀ (i j : Nat) (p p' : Value × List Nat), i < j → ts[i]? = some p → ts[j]? = some p' → ∀ b ∈ p.2, ∀ b' ∈ p'.2, b < b'
theorem O4.bw {B : Nat} {a b : World} {R : Nat} {v : Value} {ts : List (Value × List Nat)} (h : O4 B a R v ts) (hb : Bw a b) : O4 B b R v ts :=
  ⟨qP h.own fun g hg => Below.block hb g hg, fun p hp => ⟨(h.each p hp).1.bw hb, (h.each p hp).2⟩, h.sep⟩
theorem O4.add {B : Nat} {V w w' : World} {R : Nat} {v v' vt : Value} {ts : List (Value × List Nat)} {rs : List Nat} (h : O4 B w R v ts) (hV : O4 B V R v ts) (ht : TimesN V.heap.size w R vt rs) (hWV : B ≤ V.heap.size) (h6 : rs.length = 6)
    (h2 : w'.ownsRow B 108 1 v' (ts.length + 1) (ts.map (·.1) ++ [vt])) (hg : w.grownBy w' v.ownBlock) : O4 B w' R v' (ts ++ [(vt, rs)]) := by
  refine ⟨?_, fun p hp => ?_, ?_⟩
  · rw [List.map_append, List.length_append]; exact h2
  · rcases List.mem_append.1 hp with hp | hp
    · exact ⟨(h.each p hp).1.grown h.own hg (by decide) (by decide), (h.each p hp).2⟩
    · simp at hp; subst hp
      exact ⟨(ht.weaken hWV).grown h.own hg (by decide) (by decide), h6⟩
  · intro i j p p' hij hi hj b hb1 b' hb2
    by_cases e : j < ts.length
    · rw [List.getElem?_append_left e] at hj
      rw [List.getElem?_append_left (by omega)] at hi
      exact h.sep i j p p' hij hi hj b hb1 b' hb2
    · rw [List.getElem?_append_right (by omega)] at hj
      have hj0 : j - ts.length = 0 := by
        have := (List.getElem?_eq_some_iff.1 hj).1
        simp at this; omega
      rw [hj0] at hj
      simp at hj
      subst hj
      rw [List.getElem?_append_left (by omega)] at hi
      have h1 := ((hV.each p (List.mem_of_getElem? hi)).1.rows b hb1).1.lt
      have h2 := (ht.rows b' hb2).2
      omega
theorem O4.tab {B : Nat} {w : World} {R L : Nat} {v : Value} {ts : List (Value × List Nat)} (h : O4 B w R v ts) (hL : ts.length = L) (h0 : 0 < L) :
    ∃ ob oc tb tc rb, v = .slice (some ⟨ob, 0, none⟩) L oc ∧ T4 w ob L R oc tb tc rb (fun _ _ _ => .slice none 0 0) ∧ ∀ n e, n < L → e < 6 → B ≤ rb n e := by
  subst hL
  have hg : ∀ n, n < ts.length → ts[n]? = some (ts.getD n (.slice none 0 0, [])) := fun n hn => by simp [List.getD, hn]
  obtain ⟨e1, arr, a1, a2⟩ := mR h.own h0
  have key : ∀ n, n < ts.length → ∀ e, e < 6 → ((ts.getD n (.slice none 0 0, [])).2)[e]? = some (((ts.getD n (.slice none 0 0, [])).2).getD e 0) := by
    intro n hn e he
    have := (h.each _ (List.mem_of_getElem? (hg n hn))).2
    have he' : e < ((ts.getD n (.slice none 0 0, [])).2).length := by omega
    simp only [List.getD]
    rw [List.getElem?_eq_getElem (by simpa [List.getD] using he')]
    rfl
  refine ⟨tbOf v, tcOf v, fun n => tbOf (ts.getD n (.slice none 0 0, [])).1, fun n => tcOf (ts.getD n (.slice none 0 0, [])).1, fun n e => (ts.getD n (.slice none 0 0, [])).2.getD e 0, e1, ⟨⟨arr, a1, fun n hn => ?_⟩, fun n hn => ?_, fun n hn e he => ?_, ?_⟩, fun n e hn he => ?_⟩
  · obtain ⟨ht, h6⟩ := h.each _ (List.mem_of_getElem? (hg n hn))
    obtain ⟨e2, _⟩ := mR ht.own (by omega)
    rw [a2 n hn, List.getElem?_map, hg n hn, Option.map_some]
    conv => lhs; rw [e2, h6]
  · obtain ⟨ht, h6⟩ := h.each _ (List.mem_of_getElem? (hg n hn))
    obtain ⟨e2, arr2, b1, b2⟩ := mR ht.own (by omega)
    refine ⟨arr2, b1, fun e he => ?_⟩
    rw [b2 e (by omega), List.getElem?_map, key n hn e he]
    rfl
  · exact ((h.each _ (List.mem_of_getElem? (hg n hn))).1.rows _ (List.mem_of_getElem? (key n hn e he))).1
  · intro n e n' e' hn he hn' he' eq
    have m1 := List.mem_of_getElem? (key n hn e he)
    have m2 := List.mem_of_getElem? (key n' hn' e' he')
    by_cases c1 : n < n'
    · have := h.sep n n' _ _ c1 (hg n hn) (hg n' hn') _ m1 _ m2; omega
    · by_cases c2 : n' < n
      · have := h.sep n' n _ _ c2 (hg n' hn') (hg n hn) _ m2 _ m1; omega
      · have hnn : n = n' := by omega
        subst hnn
        refine ⟨rfl, ?_⟩
        have hnd := (h.each _ (List.mem_of_getElem? (hg n hn))).1.nd
        have h6 := (h.each _ (List.mem_of_getElem? (hg n hn))).2
        have k1 := key n hn e he
        have k2 := key n hn e' he'
        rw [eq] at k1
        exact (List.getElem?_inj (by omega) hnd).1 (k1.trans k2.symm)
  · exact ((h.each _ (List.mem_of_getElem? (hg n hn))).1.rows _ (List.mem_of_getElem? (key n hn e he))).2
set_option maxRecDepth 100000 in
set_option maxHeartbeats 4000000 in
theorem uU (ns : List Nd) (R : Nat) (ga : Option Addr) (gc : Nat) (w : World) (h1 : 1 ≤ ns.length) (h8 : ns.length ≤ 8) (hR4 : R ≤ 4) :
    Calls Try.prog 54 #[.agg #[.slice ga ns.length gc, .int .i64 (R : Int)]] w fun en w' =>
      ∃ ob oc tb tc rb, en = .returned (.slice (some ⟨ob, 0, none⟩) ns.length oc) ∧ T4 w' ob ns.length R oc tb tc rb (fun _ _ _ => .slice none 0 0) ∧ (∀ n e, n < ns.length → e < 6 → w.heap.size ≤ rb n e) ∧ Bw w w' := by
  have hmk := make_row R (by omega)
  go_enter Try.func54, Try.ntmps54
  go_wp2_with fail
  obtain ⟨W, hW⟩ : ∃ W, w.alloc (.cells #[.slice ga ns.length gc, .int .i64 (R : Int)] 24) = W := ⟨_, rfl⟩
  rw [hW]
  obtain ⟨hBW, x0, x1, gzW⟩ : Bw w W ∧ W.cell? ⟨w.heap.size, 0, none⟩ = some (.slice ga ns.length gc) ∧ W.cell? ⟨w.heap.size, 1, none⟩ = some (.int .i64 (R : Int)) ∧ W.heap.size = w.heap.size + 1 := by
    rw [← hW]; exact ⟨(by repeat first|exact br _|assumption|apply bd|apply bn|apply ba|refine bt ?_ (by assumption)), by simp, by simp, by simp⟩
  clear hW
  go_loopw [3, 4] (fun v i wr => ∃ (n : Nat) (ts : List (Value × List Nat)), n ≤ ns.length ∧ i = .int .i64 n ∧ ts.length = n ∧ O4 W.heap.size wr R v ts ∧ Bw W wr) (fun _ i _ => ns.length - (intOf i).toNat)
  case atStart => exact ⟨0, [], Nat.zero_le _, rfl, rfl, ⟨World.ownsRow_nil _ _ _ _, by simp, by simp⟩, Bw.refl _⟩
  case round =>
    obtain ⟨n, ts, hnn, rfl, hts, hO, hB⟩ := hrel
    rename World => w2
    obtain ⟨y0, y1⟩ : w2.cell? ⟨w.heap.size, 0, none⟩ = some (.slice ga ns.length gc) ∧ w2.cell? ⟨w.heap.size, 1, none⟩ = some (.int .i64 (R : Int)) := ⟨((qX hB).1 _ _ (by omega)).trans x0, ((qX hB).1 _ _ (by omega)).trans x1⟩
    have gz2 : w.heap.size < w2.heap.size := by have := hB.size; omega
    by_cases hlt : n < ns.length
    · go_wp2_with fail
      go_loopw [5, 6] (fun v i wi => ∃ (k : Nat) (rs : List Nat), k ≤ 6 ∧ i = .int .i64 k ∧ rs.length = k ∧ TimesN w2.heap.size wi R v rs ∧ Bw w2 wi) (fun _ i _ => 6 - (intOf i).toNat)
      case atStart => exact ⟨0, [], Nat.zero_le _, rfl, rfl, TimesN.nil _ _ _, Bw.refl _⟩
      case round =>
        obtain ⟨k, rs, hk, rfl, hrs, hT, hB2⟩ := hrel
        rename World => w3
        obtain ⟨z0, z1⟩ : w3.cell? ⟨w.heap.size, 0, none⟩ = some (.slice ga ns.length gc) ∧ w3.cell? ⟨w.heap.size, 1, none⟩ = some (.int .i64 (R : Int)) := ⟨((qX hB2).1 _ _ gz2).trans y0, ((qX hB2).1 _ _ gz2).trans y1⟩
        have gz3 : w.heap.size < w3.heap.size := by have := hB2.size; omega
        by_cases hlt2 : k < 6
        · have hd : decide ((k : Int) ≤ 5) = true := by simp; omega
          have Hrs := qJ hrs
          have hk1 : rs.length + 1 ≤ 1000000000 := by omega
          clear hrs
          have hrow := rowNil_made (w := w3) (g := w3.heap.size) (L := R) rfl
          have hT2 : TimesN w2.heap.size (w3.alloc (.cells (madeCells #[.slice none 0 0] R) 26)) R _ rs := hT.bw (by repeat first|exact br _|assumption|apply bd|apply bn|apply ba|refine bt ?_ (by assumption))
          go_wp2_with (at_builtin; refine appT _ rfl _ _ _ 54 rfl _ 1 24 Try.infoInts2 Try.underlying108 rfl (by decide) w2.heap.size _ rs.length (rs.map fun b => .slice (some ⟨b, 0, none⟩) R R) rfl (hT2.bw (by repeat first|exact br _|assumption|apply bd|apply bn|apply ba|refine bt ?_ (by assumption))).own _ _ [.slice (some ⟨w3.heap.size, 0, none⟩) R R] rfl rfl (nZ (by simp)) (by simp [Value.oneCell']) hk1 (by omega) (Bw.size (by repeat first|exact br _|assumption|apply bd|apply bn|apply ba|refine bt ?_ (by assumption))) ?_; intro v' w4 hown1 hgr1)
          go_roundw
          case rel => exact ⟨k + 1, rs ++ [w3.heap.size], by omega, by go_num, by rw [List.length_append, qK Hrs]; rfl, (hT2.bw (by repeat first|exact br _|assumption|apply bd|apply bn|apply ba|refine bt ?_ (by assumption))).grow (hrow.bw (by repeat first|exact br _|assumption|apply bd|apply bn|apply ba|refine bt ?_ (by assumption))) hB2.size (fun x hx => (hT.rows x hx).1.lt) hown1 hgr1, Bw.grown (by repeat first|exact br _|assumption|apply bd|apply bn|apply ba|refine bt ?_ (by assumption)) (hT2.bw (by repeat first|exact br _|assumption|apply bd|apply bn|apply ba|refine bt ?_ (by assumption))).own hgr1 (Nat.le_refl _)⟩
          case measure => simp [intOf]; omega
        · have hkk : k = 6 := by omega
          subst hkk
          obtain ⟨ta, tc, rfl⟩ := ownsRow_slice hT.own
          have Hrs := qJ hrs
          clear hrs
          have hO3 := hO.bw hB2
          have hlen1 : ts.length + 1 ≤ 1000000000 := by omega
          have Hts := qJ hts
          clear hts
          go_wp2_with (at_builtin; refine appT _ rfl _ _ _ 108 rfl _ 1 24 Try.infoInts3 Try.underlying60 rfl (by decide) W.heap.size _ ts.length (ts.map (·.1)) rfl (hO3.bw (by repeat first|exact br _|assumption|apply bd|apply bn|apply ba|refine bt ?_ (by assumption))).own _ _ [.slice ta rs.length tc] rfl rfl (nZ (by simp)) (by simp [Value.oneCell']) hlen1 (by omega) (Bw.size (by repeat first|exact br _|assumption|apply bd|apply bn|apply ba|refine bt ?_ (by assumption))) ?_; intro v' w4 hown1 hgr1)
          go_roundw
          case rel => exact ⟨n + 1, ts ++ [(.slice ta rs.length tc, rs)], by omega, by go_num, by rw [List.length_append, qK Hts]; rfl, (hO3.bw (by repeat first|exact br _|assumption|apply bd|apply bn|apply ba|refine bt ?_ (by assumption))).add hO (hT.bw (by repeat first|exact br _|assumption|apply bd|apply bn|apply ba|refine bt ?_ (by assumption))) hB.size (qK Hrs) hown1 hgr1, Bw.grown (by repeat first|exact br _|assumption|apply bd|apply bn|apply ba|refine bt ?_ (by assumption)) (hO3.bw (by repeat first|exact br _|assumption|apply bd|apply bn|apply ba|refine bt ?_ (by assumption))).own hgr1 (Nat.le_refl _)⟩
          case measure => simp [intOf]; omega
    · have hnn' : n = ns.length := by omega
      subst hnn'
      obtain ⟨ob, oc, tb, tc, rb, rfl, hF, hlow⟩ := hO.tab hts (by omega)
      have HF := qJ (⟨hF, hlow⟩ : _ ∧ _)
      clear hO hts hF hlow
      go_wp2_with fail
      go_ret
      exact ⟨ob, oc, tb, tc, rb, rfl, (qK HF).1, fun n e hn he => Nat.le_trans hBW.size ((qK HF).2 n e hn he), hBW.trans hB⟩
end Go.Proofs.Ytfemleimkbjehaa
