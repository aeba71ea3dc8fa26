import Derived.Test.YtfemleimkbjehaaFl3
import Derived.Test.YtfemleimkbjehaaPureC
import Derived.Test.YtfemleimkbjehaaMean2
namespace Go.Proofs.Ytfemleimkbjehaa
open Go.RowKit

theorem FlowAt.weaken {V W w : World} {fb ob L R oc : Nat} {tb tc : Nat → Nat} {rb : Nat → Nat → Nat} {F : Nat → Nat → Nat → List Int} (h : FlowAt W w fb ob L R oc tb tc rb F) (hb : Bw V W) : FlowAt V w fb ob L R oc tb tc rb F :=
  ⟨h.root, h.out, h.times, fun n hn e he => (h.rows n hn e he).weaken hb, h.inj, fun n hn e he => Nat.le_trans hb.size (h.low n hn e he)⟩
/-- A store into a block leaves the blocks of other types. -/
theorem block_set {w : World} {fb k b : Nat} {arr arr' : Array Value} {t t' : TypeId} {fr fr' : Nat × Nat} {u : Value} (h : w.heap[fb]? = some (.cells arr t fr)) (hb : w.heap[b]? = some (.cells arr' t' fr')) (hne : t' ≠ t) : (w.setCell ⟨fb, k, none⟩ u).heap[b]? = some (.cells arr' t' fr') := by
  refine (Below.heap_setCell w ⟨fb, k, none⟩ u b ?_).trans hb
  intro eq
  simp only at eq
  subst eq
  rw [h] at hb
  simp only [Option.some.injEq, Obj.cells.injEq] at hb
  exact hne hb.2.1.symm
theorem ownsRow_set {w : World} {fb k base n size : Nat} {arr : Array Value} {t ty : TypeId} {fr : Nat × Nat} {u v : Value} {xs : List Value} (h : w.heap[fb]? = some (.cells arr t fr)) (hv : w.ownsRow base ty size v n xs) (hne : ty ≠ t) : (w.setCell ⟨fb, k, none⟩ u).ownsRow base ty size v n xs := by
  obtain ⟨hl, hv⟩ := hv
  refine ⟨hl, ?_⟩
  rcases hv with hv | ⟨g, cap, cur, e1, hgb, hc, r⟩
  · exact .inl hv
  · exact .inr ⟨g, cap, cur, e1, hgb, block_set h hc hne, r⟩
theorem RowAt.setTag {W w : World} {fb k g L : Nat} {arr : Array Value} {t : TypeId} {fr : Nat × Nat} {u : Value} {ls : Nat → List Int} (hr : RowAt W w g L ls) (h : w.heap[fb]? = some (.cells arr t fr)) (h1 : 26 ≠ t) (h2 : 3 ≠ t) : RowAt W (w.setCell ⟨fb, k, none⟩ u) g L ls := by
  obtain ⟨a, e1, e2, e3⟩ := hr
  refine ⟨a, block_set h e1 h1, e2, fun j hj => ?_⟩
  obtain ⟨v, ev, ho⟩ := e3 j hj
  exact ⟨v, ev, ownsRow_set h ho h2⟩

/-- The lists of one node, by epoch: rs are the blocks of the rounds. -/
structure TimesAt (W w : World) (R : Nat) (v : Value) (rs : List Nat) : Prop where
  own : w.ownsRow W.heap.size 54 1 v rs.length (rs.map fun b => .slice (some ⟨b, 0, none⟩) R R)
  rows : ∀ b ∈ rs, RowAt W w b R (fun _ => []) ∧ W.heap.size ≤ b
  nd : rs.Nodup
theorem TimesAt.nil (W w : World) (R : Nat) : TimesAt W w R (.slice none 0 0) [] := ⟨World.ownsRow_nil _ _ _ _, by simp, List.nodup_nil⟩
theorem TimesAt.bw {W a b : World} {R : Nat} {v : Value} {rs : List Nat} (h : TimesAt W a R v rs) (hb : Bw a b) : TimesAt W b R v rs :=
  ⟨ownsRow_bw h.own fun g hg => Below.block hb g hg, fun x hx => ⟨(h.rows x hx).1.bw hb, (h.rows x hx).2⟩, h.nd⟩
theorem TimesAt.weaken {V W a : World} {R : Nat} {v : Value} {rs : List Nat} (h : TimesAt W a R v rs) (hb : Bw V W) : TimesAt V a R v rs :=
  ⟨ownsRow_weaken h.own hb.size, fun x hx => ⟨(h.rows x hx).1.weaken hb, Nat.le_trans hb.size (h.rows x hx).2⟩, h.nd⟩
theorem TimesAt.grow {W w w' : World} {R b : Nat} {v v' : Value} {rs : List Nat} (h : TimesAt W w R v rs) (hb : RowAt W w b R (fun _ => [])) (hlo : W.heap.size ≤ b) (hnew : ∀ x ∈ rs, x < b) (h2 : w'.ownsRow W.heap.size 54 1 v' (rs.length + 1) (rs.map (fun b => .slice (some ⟨b, 0, none⟩) R R) ++ [.slice (some ⟨b, 0, none⟩) R R])) (hg : w.grownBy w' v.ownBlock) : TimesAt W w' R v' (rs ++ [b]) := by
  refine ⟨by rw [List.map_append, List.length_append]; exact h2, fun x hx => ?_, ?_⟩
  · rcases List.mem_append.1 hx with hx | hx
    · exact ⟨(h.rows x hx).1.grown h.own hg (by decide) (by decide), (h.rows x hx).2⟩
    · simp at hx; subst hx; exact ⟨hb.grown h.own hg (by decide) (by decide), hlo⟩
  · rw [List.nodup_append]
    refine ⟨h.nd, by simp, ?_⟩
    intro a ha c hc e
    simp at hc
    have := hnew a ha
    omega
theorem TimesAt.grown {W w w' : World} {R base n size : Nat} {v u : Value} {rs : List Nat} {ty : TypeId} {xs : List Value} (h : TimesAt W w R v rs) (hown : w.ownsRow base ty size u n xs) (hg : w.grownBy w' u.ownBlock) (h1 : 54 ≠ ty) (h2 : 26 ≠ ty) (h3 : 3 ≠ ty) : TimesAt W w' R v rs :=
  ⟨ownsRow_grown hown hg h.own h1, fun x hx => ⟨(h.rows x hx).1.grown hown hg h2 h3, (h.rows x hx).2⟩, h.nd⟩
theorem TimesAt.setTag {W w : World} {R fb k : Nat} {v u : Value} {rs : List Nat} {arr : Array Value} {t : TypeId} {fr : Nat × Nat} (h : TimesAt W w R v rs) (hf : w.heap[fb]? = some (.cells arr t fr)) (h1 : 54 ≠ t) (h2 : 26 ≠ t) (h3 : 3 ≠ t) : TimesAt W (w.setCell ⟨fb, k, none⟩ u) R v rs :=
  ⟨ownsRow_set hf h.own h1, fun x hx => ⟨(h.rows x hx).1.setTag hf h2 h3, (h.rows x hx).2⟩, h.nd⟩
theorem ownsRow_slice {w : World} {base n size : Nat} {ty : TypeId} {v : Value} {xs : List Value} (h : w.ownsRow base ty size v n xs) : ∃ ad cap, v = .slice ad n cap := by
  rcases h.2 with ⟨e, h0⟩ | ⟨g, cap, cur, e, _⟩
  · exact ⟨none, 0, by rw [e, h0]⟩
  · exact ⟨_, cap, e⟩

/-- The flow while it is made: ts are the nodes' lists so far. -/
structure OutAt (W w : World) (R fb : Nat) (v : Value) (ts : List (Value × List Nat)) : Prop where
  root : w.heap[fb]? = some (.cells #[v] 179 (0, 0))
  own : w.ownsRow W.heap.size 108 1 v ts.length (ts.map (·.1))
  each : ∀ p ∈ ts, TimesAt W w R p.1 p.2 ∧ p.2.length = 6
  sep : ∀ (i j : Nat) (p p' : Value × List Nat), i < j → ts[i]? = some p → ts[j]? = some p' → ∀ b ∈ p.2, ∀ b' ∈ p'.2, b < b'
theorem OutAt.bw {W a b : World} {R fb : Nat} {v : Value} {ts : List (Value × List Nat)} (h : OutAt W a R fb v ts) (hb : Bw a b) : OutAt W b R fb v ts :=
  ⟨(Below.block hb fb (Array.getElem?_eq_some_iff.1 h.root).1).trans h.root, ownsRow_bw h.own fun g hg => Below.block hb g hg, fun p hp => ⟨(h.each p hp).1.bw hb, (h.each p hp).2⟩, h.sep⟩
theorem OutAt.add {W V w w' : World} {R fb : Nat} {v v' vt : Value} {ts : List (Value × List Nat)} {rs : List Nat} (h : OutAt W w R fb v ts) (hV : OutAt W V R fb v ts) (_hb : Bw V w) (ht : TimesAt V w R vt rs) (hWV : Bw W V) (h6 : rs.length = 6)
    (h2 : w'.ownsRow W.heap.size 108 1 v' (ts.length + 1) (ts.map (·.1) ++ [vt])) (hg : w.grownBy w' v.ownBlock) : OutAt W (w'.setCell ⟨fb, 0, none⟩ v') R fb v' (ts ++ [(vt, rs)]) := by
  have hroot := grown_block h.own hg h.root (.inl (by decide))
  refine ⟨?_, ?_, fun p hp => ?_, ?_⟩
  · rw [setCell_eq_setRow w' fb 0 #[v] 179 (0, 0) _ hroot]
    exact setRow_heap w' fb #[v] _ _ _ hroot
  · rw [List.map_append, List.length_append]
    exact ownsRow_set hroot h2 (by decide)
  · rcases List.mem_append.1 hp with hp | hp
    · exact ⟨((h.each p hp).1.grown h.own hg (by decide) (by decide) (by decide)).setTag hroot (by decide) (by decide) (by decide), (h.each p hp).2⟩
    · simp at hp; subst hp
      exact ⟨((ht.weaken hWV).grown h.own hg (by decide) (by decide) (by decide)).setTag hroot (by decide) (by decide) (by decide), h6⟩
  · intro i j p p' hij hi hj b hb1 b' hb2
    by_cases e : j < ts.length
    · rw [List.getElem?_append_left e] at hj
      rw [List.getElem?_append_left (by omega)] at hi
      exact h.sep i j p p' hij hi hj b hb1 b' hb2
    · rw [List.getElem?_append_right (by omega)] at hj
      have hj0 : j - ts.length = 0 := by
        have := (List.getElem?_eq_some_iff.1 hj).1
        simp at this; omega
      rw [hj0] at hj
      simp at hj
      subst hj
      rw [List.getElem?_append_left (by omega)] at hi
      have h1 := ((hV.each p (List.mem_of_getElem? hi)).1.rows b hb1).1.lt
      have h2 := (ht.rows b' hb2).2
      omega
def tbOf (v : Value) : Nat := v.ownBlock.getD 0
def tcOf (v : Value) : Nat := match v with
  | .slice _ _ c => c
  | _ => 0
theorem ownsRow_arr {w : World} {base n : Nat} {ty : TypeId} {v : Value} {xs : List Value} (h : w.ownsRow base ty 1 v n xs) (hn : 0 < n) : v = .slice (some ⟨tbOf v, 0, none⟩) n (tcOf v) ∧ ∃ arr : Array Value, w.heap[tbOf v]? = some (.cells arr ty (0, 0)) ∧ ∀ j, j < n → arr[j]? = xs[j]? := by
  rcases h.2 with ⟨e, h0⟩ | ⟨g, cap, cur, rfl, hb, hc, h1, h2, h3, h4⟩
  · omega
  · refine ⟨rfl, cur, hc, fun j hj => ?_⟩
    rw [← h4, Nat.mul_one, List.getElem?_take_of_lt hj, Array.getElem?_toList]
theorem OutAt.flow {W w : World} {R fb L : Nat} {v : Value} {ts : List (Value × List Nat)} (h : OutAt W w R fb v ts) (hL : ts.length = L) (h0 : 0 < L) :
    ∃ ob oc tb tc rb, FlowAt W w fb ob L R oc tb tc rb (fun _ _ _ => []) := by
  subst hL
  have hg : ∀ n, n < ts.length → ts[n]? = some (ts.getD n (.slice none 0 0, [])) := fun n hn => by simp [List.getD, hn]
  obtain ⟨e1, arr, a1, a2⟩ := ownsRow_arr h.own h0
  have key : ∀ n, n < ts.length → ∀ e, e < 6 → ((ts.getD n (.slice none 0 0, [])).2)[e]? = some (((ts.getD n (.slice none 0 0, [])).2).getD e 0) := by
    intro n hn e he
    have := (h.each _ (List.mem_of_getElem? (hg n hn))).2
    have he' : e < ((ts.getD n (.slice none 0 0, [])).2).length := by omega
    simp only [List.getD]
    rw [List.getElem?_eq_getElem (by simpa [List.getD] using he')]
    rfl
  refine ⟨tbOf v, tcOf v, fun n => tbOf (ts.getD n (.slice none 0 0, [])).1, fun n => tcOf (ts.getD n (.slice none 0 0, [])).1, fun n e => (ts.getD n (.slice none 0 0, [])).2.getD e 0, ⟨?_, ⟨arr, a1, fun n hn => ?_⟩, fun n hn => ?_, fun n hn e he => ?_, ?_, fun n hn e he => ?_⟩⟩
  · rw [h.root]; conv => lhs; rw [e1]
  · obtain ⟨ht, h6⟩ := h.each _ (List.mem_of_getElem? (hg n hn))
    obtain ⟨e2, _⟩ := ownsRow_arr ht.own (by omega)
    rw [a2 n hn, List.getElem?_map, hg n hn, Option.map_some]
    conv => lhs; rw [e2, h6]
  · obtain ⟨ht, h6⟩ := h.each _ (List.mem_of_getElem? (hg n hn))
    obtain ⟨e2, arr2, b1, b2⟩ := ownsRow_arr ht.own (by omega)
    refine ⟨arr2, b1, fun e he => ?_⟩
    rw [b2 e (by omega), List.getElem?_map, key n hn e he]
    rfl
  · exact ((h.each _ (List.mem_of_getElem? (hg n hn))).1.rows _ (List.mem_of_getElem? (key n hn e he))).1
  · intro n e n' e' hn he hn' he' eq
    have m1 := List.mem_of_getElem? (key n hn e he)
    have m2 := List.mem_of_getElem? (key n' hn' e' he')
    by_cases c1 : n < n'
    · have := h.sep n n' _ _ c1 (hg n hn) (hg n' hn') _ m1 _ m2; omega
    · by_cases c2 : n' < n
      · have := h.sep n' n _ _ c2 (hg n' hn') (hg n hn) _ m2 _ m1; omega
      · have hnn : n = n' := by omega
        subst hnn
        refine ⟨rfl, ?_⟩
        have hnd := (h.each _ (List.mem_of_getElem? (hg n hn))).1.nd
        have h6 := (h.each _ (List.mem_of_getElem? (hg n hn))).2
        have k1 := key n hn e he
        have k2 := key n hn e' he'
        rw [eq] at k1
        exact (List.getElem?_inj (by omega) hnd).1 (k1.trans k2.symm)
  · exact ((h.each _ (List.mem_of_getElem? (hg n hn))).1.rows _ (List.mem_of_getElem? (key n hn e he))).2
theorem cells1 {w : World} {g : Nat} {a : Value} (h0 : w.cell? ⟨g, 0, none⟩ = some a) : ∀ j u, [a][j]? = some u → w.cell? ⟨g, j, none⟩ = some u := by
  intro j u hj
  match j, hj with
  | 0, hj => simp at hj; subst hj; exact h0
end Go.Proofs.Ytfemleimkbjehaa
