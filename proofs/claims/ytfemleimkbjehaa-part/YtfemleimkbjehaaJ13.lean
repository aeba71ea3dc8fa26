import Derived.Test.YtfemleimkbjehaaJ12
set_option maxRecDepth 1000000
set_option maxHeartbeats 40000000
set_option linter.unusedVariables false
set_option linter.unusedSimpArgs false
namespace Go.Proofs.Ytfemleimkbjehaa
open Go.RowKit
def kY {α : Type} (f : Nat → Nat → α) (i n : Nat) (v : α) : Nat → Nat → α := fun a b => if a = i ∧ b = n then v else f a b
def pZ {α : Type} (f : Nat → α) (i : Nat) (v : α) : Nat → α := fun a => if a = i then v else f a
theorem zZ {α : Type} (f : Nat → Nat → α) (i n : Nat) (v : α) : kY f i n v i n = v := by simp [kY]
theorem yH {α : Type} (f : Nat → Nat → α) {i n a b : Nat} (v : α) (h : ¬ (a = i ∧ b = n)) : kY f i n v a b = f a b := by simp [kY, h]
theorem cT {i a r s : Nat} (hr : r < 3684) (hs : s < 3684) (h : i ≠ a ∨ r ≠ s) : i * 3684 + r ≠ a * 3684 + s := by
  rcases Nat.lt_trichotomy i a with h1 | h1 | h1
  · have := Nat.mul_le_mul_right 3684 (show i + 1 ≤ a from h1)
    rw [Nat.add_mul] at this
    omega
  · subst h1; omega
  · have := Nat.mul_le_mul_right 3684 (show a + 1 ≤ i from h1)
    rw [Nat.add_mul] at this
    omega
theorem PRow.plain {w : World} {S : Nat → Prop} {warr arr' : Array Value} {L W : Nat} {st st' : PSt} {Q : Nat → Prop} (h : PRow w S warr L W st) (hL : L ≤ 8) (hs : arr'.size = warr.size) (hQ : ∀ p, ¬ Q p → arr'[p]? = warr[p]?) (hQ2 : ∀ p v, Q p → arr'[p]? = some v → Value.ownBlock v = none)
    (hq : ∀ i, i < W → (∀ n, n < 16 → ¬ Q (i * 3684 + 16 + n)) ∧ ∀ j, j < 4 → ¬ Q (i * 3684 + 3680 + j))
    (hsrc : ∀ i n, i < W → n < L → arr'[i * 3684 + n * 2]? = some (.int .i64 (st'.ep i n)) ∧ arr'[i * 3684 + n * 2 + 1]? = some (.bool (st'.cl i n)))
    (htal : ∀ i n, i < W → n < L → ∀ k, k < 408 → arr'[i * 3684 + 32 + n * 408 + k]? = some (st'.tl i n k))
    (hbel : ∀ i, i < W → ∀ k, k < 384 → arr'[i * 3684 + 3296 + k]? = some (.int .i64 (st'.tb i k)))
    (hw : st'.wt = st.wt) (hb : st'.lb = st.lb) (hy : st'.wy = st.wy) : PRow w S arr' L W st' := by
  have key : ∀ (p : Nat) (v : Value), arr'[p]? = some v → Value.ownBlock v ≠ none → warr[p]? = some v := by
    intro p v hp hv
    by_cases e : Q p
    · exact absurd (hQ2 p v e hp) hv
    · rw [← hQ p e]; exact hp
  refine ⟨by rw [hs]; exact h.size, hsrc, fun i n hi hn => ?_, fun i n hi hn => ?_, htal, hbel, fun i j hi hj => ?_, fun p b v hl hp hv => h.own p b v hl (key p v hp (by rw [hv]; simp)) hv, fun p q' b v u' hl hl' hp hq' hv hu' => h.inj p q' b v u' hl hl' (key p v hp (by rw [hv]; simp)) (key q' u' hq' (by rw [hu']; simp)) hv hu'⟩
  · obtain ⟨v, e, h1⟩ := h.wait i n hi hn
    rw [hw]
    exact ⟨v, by rw [hQ _ ((hq i hi).1 n (by omega))]; exact e, h1⟩
  · obtain ⟨v, e, h1⟩ := h.letb i n hi hn
    rw [hb]
    exact ⟨v, by rw [hQ _ (by have := (hq i hi).1 (24 - 16 + n) (by omega); rw [show i * 3684 + 24 + n = i * 3684 + 16 + (24 - 16 + n) by omega]; exact this)]; exact e, h1⟩
  · obtain ⟨v, e, h1⟩ := h.way i j hi hj
    rw [hy]
    exact ⟨v, by rw [hQ _ ((hq i hi).2 j hj)]; exact e, h1⟩
theorem set_plain {warr : Array Value} {q : Nat} {u : Value} (hu : Value.ownBlock u = none) : ∀ p v, p = q → (warr.setIfInBounds q u)[p]? = some v → Value.ownBlock v = none := by
  intro p v e hp
  subst e
  rcases Nat.lt_or_ge p warr.size with h1 | h1
  · rw [Array.getElem?_setIfInBounds_self_of_lt h1] at hp
    simp at hp; subst hp; exact hu
  · rw [Array.getElem?_eq_none (by simpa using h1)] at hp; cases hp
set_option maxRecDepth 100000 in
theorem PRow.setEp {w : World} {S : Nat → Prop} {warr : Array Value} {L W i m : Nat} {st : PSt} (h : PRow w S warr L W st) (hL : L ≤ 8) (hi : i < W) (hm : m < L) (v : Int) : PRow w S (warr.setIfInBounds (i * 3684 + m * 2) (.int .i64 v)) L W { st with ep := kY st.ep i m v } := by
  have hz := h.size
  refine h.plain (Q := fun p => p = i * 3684 + m * 2) hL (by simp) (fun p hp => Array.getElem?_setIfInBounds_ne (Ne.symm hp)) (set_plain rfl) (fun a ha => ⟨fun n hn e => by omega, fun j hj e => by omega⟩) (fun a b ha hb => ⟨?_, ?_⟩) (fun a b ha hb k hk => ?_) (fun a ha k hk => ?_) rfl rfl rfl
  · by_cases e : a = i ∧ b = m
    · obtain ⟨rfl, rfl⟩ := e
      rw [Array.getElem?_setIfInBounds_self_of_lt (by omega)]; simp [kY]
    · rw [Array.getElem?_setIfInBounds_ne (by omega), (h.src a b ha hb).1]; simp [kY, e]
  · rw [Array.getElem?_setIfInBounds_ne (by omega)]; exact (h.src a b ha hb).2
  · rw [Array.getElem?_setIfInBounds_ne (by have := cT (i := i) (a := a) (r := m * 2) (s := 32 + b * 408 + k) (by omega) (by omega) (by omega); omega)]; exact h.tal a b ha hb k hk
  · rw [Array.getElem?_setIfInBounds_ne (by omega)]; exact h.bel a ha k hk
set_option maxRecDepth 100000 in
theorem PRow.setCl {w : World} {S : Nat → Prop} {warr : Array Value} {L W i m : Nat} {st : PSt} (h : PRow w S warr L W st) (hL : L ≤ 8) (hi : i < W) (hm : m < L) (v : Bool) : PRow w S (warr.setIfInBounds (i * 3684 + m * 2 + 1) (.bool v)) L W { st with cl := kY st.cl i m v } := by
  have hz := h.size
  refine h.plain (Q := fun p => p = i * 3684 + m * 2 + 1) hL (by simp) (fun p hp => Array.getElem?_setIfInBounds_ne (Ne.symm hp)) (set_plain rfl) (fun a ha => ⟨fun n hn e => by omega, fun j hj e => by omega⟩) (fun a b ha hb => ⟨?_, ?_⟩) (fun a b ha hb k hk => ?_) (fun a ha k hk => ?_) rfl rfl rfl
  · rw [Array.getElem?_setIfInBounds_ne (by omega)]; exact (h.src a b ha hb).1
  · by_cases e : a = i ∧ b = m
    · obtain ⟨rfl, rfl⟩ := e
      rw [Array.getElem?_setIfInBounds_self_of_lt (by omega)]; simp [kY]
    · rw [Array.getElem?_setIfInBounds_ne (by omega), (h.src a b ha hb).2]; simp [kY, e]
  · rw [Array.getElem?_setIfInBounds_ne (by have := cT (i := i) (a := a) (r := m * 2 + 1) (s := 32 + b * 408 + k) (by omega) (by omega) (by omega); omega)]; exact h.tal a b ha hb k hk
  · rw [Array.getElem?_setIfInBounds_ne (by omega)]; exact h.bel a ha k hk
set_option maxRecDepth 100000 in
theorem PRow.setBel {w : World} {S : Nat → Prop} {warr arr' : Array Value} {L W i : Nat} {st : PSt} {T : Nat → Int} (h : PRow w S warr L W st) (hL : L ≤ 8) (hi : i < W) (hs : arr'.size = warr.size) (ho : ∀ k, (k < i * 3684 + 3296 ∨ i * 3684 + 3296 + 384 ≤ k) → arr'[k]? = warr[k]?) (hT : ∀ k, k < 384 → arr'[i * 3684 + 3296 + k]? = some (.int .i64 (T k))) : PRow w S arr' L W { st with tb := pZ st.tb i T } := by
  refine h.plain (Q := fun p => i * 3684 + 3296 ≤ p ∧ p < i * 3684 + 3296 + 384) hL hs (fun p hp => ho p (by omega)) (fun p v hp hv => ?_) (fun a ha => ⟨fun n hn e => by omega, fun j hj e => by omega⟩) (fun a b ha hb => ⟨?_, ?_⟩) (fun a b ha hb k hk => ?_) (fun a ha k hk => ?_) rfl rfl rfl
  · have h1 := hT (p - (i * 3684 + 3296)) (by omega)
    rw [show i * 3684 + 3296 + (p - (i * 3684 + 3296)) = p by omega, hv] at h1
    simp at h1; subst h1; rfl
  · rw [ho _ (by omega)]; exact (h.src a b ha hb).1
  · rw [ho _ (by omega)]; exact (h.src a b ha hb).2
  · rw [ho _ (by by_cases e : a = i; · subst e; omega
                 · rcases Nat.lt_or_gt_of_ne e with h1 | h1
                   · have := Nat.mul_le_mul_right 3684 (show a + 1 ≤ i from h1); rw [Nat.add_mul] at this; omega
                   · have := Nat.mul_le_mul_right 3684 (show i + 1 ≤ a from h1); rw [Nat.add_mul] at this; omega)]; exact h.tal a b ha hb k hk
  · by_cases e : a = i
    · subst e; simp only [pZ, if_pos]; exact hT k hk
    · simp only [pZ, if_neg e]; rw [ho _ (by omega)]; exact h.bel a ha k hk
theorem PRow.otherB {w wa w4 : World} {S : Nat → Prop} {warr : Array Value} {L W wb q p b : Nat} {st : PSt} {v v4 u : Value} (h : PRow w S warr L W st) (hslt : ∀ b, S b → b < w.heap.size) (hb : Bw w wa) (hg : wa.grownBy w4 v.ownBlock) (hq : warr[q]? = some v)
    (hp : warr[p]? = some u) (hpq : p ≠ q) (hpl : p < W * 3684) (hql : q < W * 3684) (hbb : Value.ownBlock u = some b) (hne : b ≠ wb) : (w4.setCell ⟨wb, q, none⟩ v4).heap[b]? = w.heap[b]? := by
  have hlt := hslt b (h.own p b u hpl hp hbb)
  exact (Below.heap_setCell w4 ⟨wb, q, none⟩ v4 b hne).trans ((hg.block b (Nat.lt_of_lt_of_le hlt hb.size) (fun e => hpq (h.inj p q b u v hpl hql hp hq hbb e.symm))).trans (Below.block hb b hlt))
theorem PRow.other {w wa w4 : World} {S : Nat → Prop} {warr : Array Value} {L W wb q p g' m sz : Nat} {st : PSt} {v v4 u : Value} {ty : TypeId} {ys : List Value} (h : PRow w S warr L W st) (hwk : w.heap[wb]? = some (.cells warr 162 (0, 0))) (hslt : ∀ b, S b → b < w.heap.size) (hb : Bw w wa) (hg : wa.grownBy w4 v.ownBlock) (hq : warr[q]? = some v)
    (hp : warr[p]? = some u) (hpq : p ≠ q) (hpl : p < W * 3684) (hql : q < W * 3684) (ho : OwnsIn S w ty sz u m ys) (ht : ty ≠ 162) : OwnsIn (fun b => S b ∨ b = g') (w4.setCell ⟨wb, q, none⟩ v4) ty sz u m ys := by
  refine ⟨kL ho.1 fun b hbb => ?_, fun b hbb => .inl (ho.2 b hbb)⟩
  refine h.otherB hslt hb hg hq hp hpq hpl hql hbb ?_
  intro e
  subst e
  obtain ⟨_, h0 | ⟨g, cap, cur, e1, _, hc, _⟩⟩ := ho.1
  · rw [h0.1] at hbb; simp [Value.ownBlock] at hbb
  · rw [e1] at hbb
    simp only [Value.ownBlock, Option.some.injEq] at hbb
    subst hbb
    rw [hwk] at hc
    simp only [Option.some.injEq, Obj.cells.injEq] at hc
    exact ht hc.2.1.symm
theorem PRow.otherW {w wa w4 : World} {S : Nat → Prop} {warr : Array Value} {L W wb q p g' : Nat} {st : PSt} {v v4 u : Value} {l : List (List Pt)} (h : PRow w S warr L W st) (hwk : w.heap[wb]? = some (.cells warr 162 (0, 0))) (hslt : ∀ b, S b → b < w.heap.size) (hb : Bw w wa) (hg : wa.grownBy w4 v.ownBlock) (hq : warr[q]? = some v)
    (hp : warr[p]? = some u) (hpq : p ≠ q) (hpl : p < W * 3684) (hql : q < W * 3684) (ho : WayIn S w u l) (hpt : ∀ (u : Value) (m : Nat) (ys : List Value), OwnsIn S w 194 5 u m ys → OwnsIn (fun b => S b ∨ b = g') (w4.setCell ⟨wb, q, none⟩ v4) 194 5 u m ys) : WayIn (fun b => S b ∨ b = g') (w4.setCell ⟨wb, q, none⟩ v4) u l := by
  refine ho.map (fun b h => .inl h) (fun b cur hbb hc => h.otherB hslt hb hg hq hp hpq hpl hql hbb ?_) hpt
  intro e
  subst e
  rw [hwk] at hc
  simp only [Option.some.injEq, Obj.cells.injEq] at hc
  exact absurd hc.2.1 (by decide)
theorem PRow.newInj {w wa : World} {S : Nat → Prop} {warr : Array Value} {L W q g' off n c : Nat} {st : PSt} {v : Value} (h : PRow w S warr L W st) (hslt : ∀ b, S b → b < w.heap.size) (hb : Bw w wa) (hq : warr[q]? = some v) (hql : q < W * 3684) (hl : v.ownBlock = some g' ∨ g' = wa.heap.size) :
    (∀ (p b : Nat) (u : Value), p < W * 3684 → (warr.setIfInBounds q (.slice (some ⟨g', off, none⟩) n c))[p]? = some u → u.ownBlock = some b → S b ∨ b = g') ∧
    (∀ (p p' b : Nat) (u u' : Value), p < W * 3684 → p' < W * 3684 → (warr.setIfInBounds q (.slice (some ⟨g', off, none⟩) n c))[p]? = some u → (warr.setIfInBounds q (.slice (some ⟨g', off, none⟩) n c))[p']? = some u' → u.ownBlock = some b → u'.ownBlock = some b → p = p') := by
  have hqs : q < warr.size := (Array.getElem?_eq_some_iff.1 hq).1
  have hat : (warr.setIfInBounds q (.slice (some ⟨g', off, none⟩) n c))[q]? = some (.slice (some ⟨g', off, none⟩) n c) := Array.getElem?_setIfInBounds_self_of_lt hqs
  have hne : ∀ (p : Nat), p ≠ q → (warr.setIfInBounds q (.slice (some ⟨g', off, none⟩) n c))[p]? = warr[p]? := fun p hp => Array.getElem?_setIfInBounds_ne (fun e => hp e.symm)
  have hfar : ∀ (p : Nat) (u : Value), p < W * 3684 → p ≠ q → warr[p]? = some u → Value.ownBlock u ≠ some g' := by
    intro p u hpl hp hu e
    rcases hl with hl | hl
    · exact hp (h.inj p q g' u v hpl hql hu hq e hl)
    · have := hslt _ (h.own p g' u hpl hu e)
      have := hb.size
      omega
  refine ⟨fun p b u hpl hp hu => ?_, fun p p' b u u' hpl hpl' hp hp' hu hu' => ?_⟩
  · by_cases e : p = q
    · subst e
      rw [hat] at hp
      simp only [Option.some.injEq] at hp
      subst hp
      simp only [Value.ownBlock, Option.some.injEq] at hu
      exact .inr hu.symm
    · rw [hne p e] at hp
      exact .inl (h.own p b u hpl hp hu)
  · by_cases e : p = q
    · by_cases e' : p' = q
      · rw [e, e']
      · subst e
        rw [hat] at hp
        rw [hne p' e'] at hp'
        simp only [Option.some.injEq] at hp
        subst hp
        simp only [Value.ownBlock, Option.some.injEq] at hu
        subst hu
        exact absurd hu' (hfar p' u' hpl' e' hp')
    · by_cases e' : p' = q
      · subst e'
        rw [hat] at hp'
        rw [hne p e] at hp
        simp only [Option.some.injEq] at hp'
        subst hp'
        simp only [Value.ownBlock, Option.some.injEq] at hu'
        subst hu'
        exact absurd hu (hfar p u hpl e hp)
      · rw [hne p e] at hp
        rw [hne p' e'] at hp'
        exact h.inj p p' b u u' hpl hpl' hp hp' hu hu'
theorem gvCells_snoc' (l : List Gv) (y : Gv) : qB (l ++ [y]) = qB l ++ y.cells := by simp [qB]
theorem zK {w : World} {base n size : Nat} {ty : TypeId} {v : Value} {xs : List Value} (h : w.ownsRow base ty size v n xs) {b : Nat} (hb : v.ownBlock = some b) : ∃ cur, w.heap[b]? = some (.cells cur ty (0, 0)) := by
  obtain ⟨_, h0 | ⟨g, cap, cur, e1, _, hc, _⟩⟩ := h
  · rw [h0.1] at hb; simp [Value.ownBlock] at hb
  · rw [e1] at hb
    simp only [Value.ownBlock, Option.some.injEq] at hb
    subst hb
    exact ⟨cur, hc⟩
theorem lS {w wa w4 : World} {S : Nat → Prop} {warr : Array Value} {wb q g' sz' m : Nat} {v4 u : Value} {ty : TypeId} {ys : List Value} (hwk : w.heap[wb]? = some (.cells warr 162 (0, 0))) (hb : Bw w wa) (hw4 : w4.heap[wb]? = some (.cells warr 162 (0, 0)))
    (hgb : ∀ (b : Nat) (cur : Array Value), wa.heap[b]? = some (.cells cur ty (0, 0)) → w4.heap[b]? = wa.heap[b]?) (ho : OwnsIn S w ty sz' u m ys) (ht : ty ≠ 162) : OwnsIn (fun b => S b ∨ b = g') (w4.setCell ⟨wb, q, none⟩ v4) ty sz' u m ys := by
  refine ⟨kL ho.1 fun b hbb => ?_, fun b hbb => .inl (ho.2 b hbb)⟩
  obtain ⟨cur, hc⟩ := zK ho.1 hbb
  have hlt := (Array.getElem?_eq_some_iff.1 hc).1
  have hca := (Below.block hb b hlt).trans hc
  have hne : b ≠ wb := by
    intro e
    subst e
    rw [hwk] at hc
    simp only [Option.some.injEq, Obj.cells.injEq] at hc
    exact ht hc.2.1.symm
  exact (Below.heap_setCell w4 ⟨wb, q, none⟩ v4 b hne).trans ((hgb b cur hca).trans (Below.block hb b hlt))
set_option maxRecDepth 100000 in
/-- A message was appended to the slice at q: the row with that slice set. k says which list it is. -/
theorem PRow.addMsg {w wa w4 : World} {S : Nat → Prop} {warr : Array Value} {L W wb i m g' c : Nat} {st st' : PSt} {v : Value} {y : Gv} {ms : List Gv} (o : Nat) (h : PRow w S warr L W st) (hL : L ≤ 8) (hi : i < W) (hm : m < L) (ho8 : o = 16 ∨ o = 24) (hwk : w.heap[wb]? = some (.cells warr 162 (0, 0))) (hslt : ∀ b, S b → b < w.heap.size) (hb : Bw w wa) (hq : warr[i * 3684 + o + m]? = some v)
    (hgp : ∀ (b : Nat) (cur : Array Value), wa.heap[b]? = some (.cells cur 194 (0, 0)) → w4.heap[b]? = wa.heap[b]?)
    (ho : w4.ownsRow 0 117 3 (.slice (some ⟨g', 0, none⟩) (ms.length + 1) c) (ms.length + 1) (qB ms ++ y.cells)) (hg : wa.grownBy w4 v.ownBlock) (hl : v.ownBlock = some g' ∨ g' = wa.heap.size) (hw4 : w4.heap[wb]? = some (.cells warr 162 (0, 0)))
    (hst : st'.ep = st.ep ∧ st'.cl = st.cl ∧ st'.tl = st.tl ∧ st'.tb = st.tb ∧ st'.wy = st.wy)
    (hwt : ∀ a b, a < W → b < L → st'.wt a b = if o = 16 ∧ a = i ∧ b = m then ms ++ [y] else st.wt a b) (hlb : ∀ a b, a < W → b < L → st'.lb a b = if o = 24 ∧ a = i ∧ b = m then ms ++ [y] else st.lb a b) :
    PRow (w4.setCell ⟨wb, i * 3684 + o + m, none⟩ (.slice (some ⟨g', 0, none⟩) (ms.length + 1) c)) (fun b => S b ∨ b = g') (warr.setIfInBounds (i * 3684 + o + m) (.slice (some ⟨g', 0, none⟩) (ms.length + 1) c)) L W st' := by
  have hqs : i * 3684 + o + m < warr.size := (Array.getElem?_eq_some_iff.1 hq).1
  have hqW : i * 3684 + o + m < W * 3684 := by rcases ho8 with rfl | rfl <;> omega
  obtain ⟨n1, n2⟩ := h.newInj (off := 0) (n := ms.length + 1) (c := c) hslt hb hq hqW hl
  have hnew : OwnsIn (fun b => S b ∨ b = g') (w4.setCell ⟨wb, i * 3684 + o + m, none⟩ (.slice (some ⟨g', 0, none⟩) (ms.length + 1) c)) 117 3 (.slice (some ⟨g', 0, none⟩) (ms.length + 1) c) (ms ++ [y]).length (qB (ms ++ [y])) := by
    refine ⟨?_, fun b hb => .inr (by simpa [Value.ownBlock] using hb.symm)⟩
    rw [gvCells_snoc', List.length_append, List.length_singleton]
    exact kJ hw4 ho (by decide)
  have hpt : ∀ (u : Value) (m' : Nat) (ys : List Value), OwnsIn S w 194 5 u m' ys → OwnsIn (fun b => S b ∨ b = g') (w4.setCell ⟨wb, i * 3684 + o + m, none⟩ (.slice (some ⟨g', 0, none⟩) (ms.length + 1) c)) 194 5 u m' ys := fun u m' ys ho' => lS hwk hb hw4 hgp ho' (by decide)
  obtain ⟨e1, e2, e3, e4, e5⟩ := hst
  refine ⟨by simpa using h.size, fun a b ha hb' => ⟨?_, ?_⟩, fun a b ha hb' => ?_, fun a b ha hb' => ?_, fun a b ha hb' k hk => ?_, fun a ha k hk => ?_, fun a j ha hj => ?_, n1, n2⟩
  · rw [e1, Array.getElem?_setIfInBounds_ne (by rcases ho8 with rfl | rfl <;> omega)]; exact (h.src a b ha hb').1
  · rw [e2, Array.getElem?_setIfInBounds_ne (by rcases ho8 with rfl | rfl <;> omega)]; exact (h.src a b ha hb').2
  · rw [hwt a b ha hb']
    by_cases e : o = 16 ∧ a = i ∧ b = m
    · obtain ⟨rfl, rfl, rfl⟩ := e
      rw [if_pos ⟨rfl, rfl, rfl⟩]
      exact ⟨_, Array.getElem?_setIfInBounds_self_of_lt hqs, hnew⟩
    · rw [if_neg e]
      obtain ⟨u, eu, hu⟩ := h.wait a b ha hb'
      have hne : a * 3684 + 16 + b ≠ i * 3684 + o + m := by rcases ho8 with rfl | rfl <;> omega
      exact ⟨u, by rw [Array.getElem?_setIfInBounds_ne hne.symm]; exact eu, h.other hwk hslt hb hg hq eu hne (by omega) hqW hu (by decide)⟩
  · rw [hlb a b ha hb']
    by_cases e : o = 24 ∧ a = i ∧ b = m
    · obtain ⟨rfl, rfl, rfl⟩ := e
      rw [if_pos ⟨rfl, rfl, rfl⟩]
      exact ⟨_, Array.getElem?_setIfInBounds_self_of_lt hqs, hnew⟩
    · rw [if_neg e]
      obtain ⟨u, eu, hu⟩ := h.letb a b ha hb'
      have hne : a * 3684 + 24 + b ≠ i * 3684 + o + m := by rcases ho8 with rfl | rfl <;> omega
      exact ⟨u, by rw [Array.getElem?_setIfInBounds_ne hne.symm]; exact eu, h.other hwk hslt hb hg hq eu hne (by omega) hqW hu (by decide)⟩
  · rw [e3, Array.getElem?_setIfInBounds_ne (by have := cT (i := i) (a := a) (r := o + m) (s := 32 + b * 408 + k) (by rcases ho8 with rfl | rfl <;> omega) (by omega) (by rcases ho8 with rfl | rfl <;> omega); omega)]; exact h.tal a b ha hb' k hk
  · rw [e4, Array.getElem?_setIfInBounds_ne (by rcases ho8 with rfl | rfl <;> omega)]; exact h.bel a ha k hk
  · rw [e5]
    obtain ⟨u, eu, hu⟩ := h.way a j ha hj
    have hne : a * 3684 + 3680 + j ≠ i * 3684 + o + m := by rcases ho8 with rfl | rfl <;> omega
    exact ⟨u, by rw [Array.getElem?_setIfInBounds_ne hne.symm]; exact eu, h.otherW hwk hslt hb hg hq eu hne (by omega) hqW hu hpt⟩
set_option maxRecDepth 100000 in
theorem PRow.addWay {w wa w4 : World} {S : Nat → Prop} {warr : Array Value} {L W wb i j g' off c : Nat} {st : PSt} {v u0 : Value} {ps : List Pt} {vs : List Value} (h : PRow w S warr L W st) (hL : L ≤ 8) (hi : i < W) (hj : j < 4) (hwk : w.heap[wb]? = some (.cells warr 162 (0, 0))) (hslt : ∀ b, S b → b < w.heap.size) (hb : Bw w wa) (hq : warr[i * 3684 + 3680 + j]? = some v)
    (hgp : ∀ (ty : TypeId), ty ≠ 183 → ∀ (b : Nat) (cur : Array Value), wa.heap[b]? = some (.cells cur ty (0, 0)) → w4.heap[b]? = wa.heap[b]?)
    (hvs : ∀ k, k < (st.wy i j).length → ∃ u, vs[k]? = some u ∧ OwnsIn S w 194 5 u ((st.wy i j).getD k []).length (qG ((st.wy i j).getD k [])))
    (hu0 : OwnsIn S w 194 5 u0 ps.length (qG ps)) (hvl : vs.length = (st.wy i j).length)
    (ho : rowO w4 183 (.slice (some ⟨g', off, none⟩) ((st.wy i j).length + 1) c) ((st.wy i j).length + 1) (vs ++ [u0])) (hg : wa.grownBy w4 v.ownBlock) (hl : v.ownBlock = some g' ∨ g' = wa.heap.size) (hgw : g' ≠ wb) (hw4 : w4.heap[wb]? = some (.cells warr 162 (0, 0))) :
    PRow (w4.setCell ⟨wb, i * 3684 + 3680 + j, none⟩ (.slice (some ⟨g', off, none⟩) ((st.wy i j).length + 1) c)) (fun b => S b ∨ b = g') (warr.setIfInBounds (i * 3684 + 3680 + j) (.slice (some ⟨g', off, none⟩) ((st.wy i j).length + 1) c)) L W { st with wy := kY st.wy i j (st.wy i j ++ [ps]) } := by
  have hqs : i * 3684 + 3680 + j < warr.size := (Array.getElem?_eq_some_iff.1 hq).1
  obtain ⟨n1, n2⟩ := h.newInj (off := off) (n := (st.wy i j).length + 1) (c := c) hslt hb hq (by omega) hl
  have hpt : ∀ (u : Value) (m' : Nat) (ys : List Value), OwnsIn S w 194 5 u m' ys → OwnsIn (fun b => S b ∨ b = g') (w4.setCell ⟨wb, i * 3684 + 3680 + j, none⟩ (.slice (some ⟨g', off, none⟩) ((st.wy i j).length + 1) c)) 194 5 u m' ys := fun u m' ys ho' => lS hwk hb hw4 (hgp _ (by decide)) ho' (by decide)
  refine ⟨by simpa using h.size, fun a b ha hb' => ⟨?_, ?_⟩, fun a b ha hb' => ?_, fun a b ha hb' => ?_, fun a b ha hb' k hk => ?_, fun a ha k hk => ?_, fun a j' ha hj' => ?_, n1, n2⟩
  · rw [Array.getElem?_setIfInBounds_ne (by omega)]; exact (h.src a b ha hb').1
  · rw [Array.getElem?_setIfInBounds_ne (by omega)]; exact (h.src a b ha hb').2
  · obtain ⟨u, eu, hu⟩ := h.wait a b ha hb'
    exact ⟨u, by rw [Array.getElem?_setIfInBounds_ne (by omega)]; exact eu, h.other hwk hslt hb hg hq eu (by omega) (by omega) (by omega) hu (by decide)⟩
  · obtain ⟨u, eu, hu⟩ := h.letb a b ha hb'
    exact ⟨u, by rw [Array.getElem?_setIfInBounds_ne (by omega)]; exact eu, h.other hwk hslt hb hg hq eu (by omega) (by omega) (by omega) hu (by decide)⟩
  · rw [Array.getElem?_setIfInBounds_ne (by have := cT (i := i) (a := a) (r := 3680 + j) (s := 32 + b * 408 + k) (by omega) (by omega) (by omega); omega)]; exact h.tal a b ha hb' k hk
  · rw [Array.getElem?_setIfInBounds_ne (by omega)]; exact h.bel a ha k hk
  · by_cases e : a = i ∧ j' = j
    · obtain ⟨rfl, rfl⟩ := e
      simp only [zZ]
      refine ⟨_, Array.getElem?_setIfInBounds_self_of_lt hqs, vs ++ [u0], ?_, fun b hb => .inr (by simpa [Value.ownBlock] using hb.symm), fun k hk => ?_⟩
      · rw [List.length_append, List.length_singleton]
        exact ho.frame (fun b hb' => by
          simp only [Value.ownBlock, Option.some.injEq] at hb'
          exact Below.heap_setCell w4 ⟨wb, _, none⟩ _ b (fun e => hgw (hb'.trans e)))
      · rw [List.length_append, List.length_singleton] at hk
        by_cases hk2 : k < (st.wy a j').length
        · obtain ⟨u, eu, hu⟩ := hvs k hk2
          refine ⟨u, by rw [List.getElem?_append_left (by omega)]; exact eu, ?_⟩
          rw [show (st.wy a j' ++ [ps]).getD k [] = (st.wy a j').getD k [] by simp [List.getD, List.getElem?_append_left hk2]]
          exact hpt _ _ _ hu
        · have : k = (st.wy a j').length := by omega
          subst this
          refine ⟨u0, by rw [List.getElem?_append_right (by omega), hvl]; simp, ?_⟩
          rw [show (st.wy a j' ++ [ps]).getD (st.wy a j').length [] = ps by simp [List.getD]]
          exact hpt _ _ _ hu0
    · simp only [yH _ _ e]
      obtain ⟨u, eu, hu⟩ := h.way a j' ha hj'
      exact ⟨u, by rw [Array.getElem?_setIfInBounds_ne (by omega)]; exact eu, h.otherW hwk hslt hb hg hq eu (by omega) (by omega) (by omega) hu hpt⟩
theorem POwn.setRow {w w' : World} {S : Nat → Prop} {pb : Nat} {x : PX} {ns : List Nd} {R W : Nat} {D : Nat → Nat → Int} {st st' : PSt} {arr' : Array Value} (h : POwn w S pb x ns R W D st) (hc : Chg (fun b => b = x.wb) w w') (hw : w'.heap[x.wb]? = some (.cells arr' 162 (0, 0))) (hr : PRow w S arr' ns.length W st') (hg : st'.gv = st.gv ∧ st'.rc = st.rc) (hf : ∀ i n, (st'.wt i n).length ≤ 100000000 ∧ (st'.lb i n).length ≤ 100000000 ∧ (st'.wy i n).length ≤ 100000000) :
    POwn w' S pb { x with warr := arr' } ns R W D st' := by
  have fr : ∀ {b : Nat} {cur : Array Value} {t : TypeId}, w.heap[b]? = some (.cells cur t (0, 0)) → t ≠ 162 → w'.heap[b]? = w.heap[b]? := by
    intro b cur t hb ht
    refine hc.block b (Array.getElem?_eq_some_iff.1 hb).1 ?_
    intro e
    subst e
    rw [h.work] at hb
    simp only [Option.some.injEq, Obj.cells.injEq] at hb
    exact ht hb.2.1.symm
  have frO : ∀ (ty : TypeId) (sz : Nat) (u : Value) (m : Nat) (ys : List Value), ty ≠ 162 → OwnsIn S w ty sz u m ys → OwnsIn S w' ty sz u m ys := by
    intro ty sz u m ys ht ho
    refine ⟨kL ho.1 fun b hbb => ?_, ho.2⟩
    obtain ⟨cur, hc'⟩ := zK ho.1 hbb
    exact fr hc' ht
  exact ⟨(fr h.root (by decide)).trans h.root, h.r0, h.r1, h.r2, h.r3, by rw [hg.1]; exact h.r4, h.r5, hw, h.sroot, h.swork, fun b hb => Nat.lt_of_lt_of_le (h.slt b hb) hc.size, frO _ _ _ _ _ (by decide) h.nodes, h.dist.map fun ty _ _ _ _ ht ho => frO _ _ _ _ _ (by rcases ht with rfl | rfl <;> decide) ho, by rw [hg.2]; exact frO _ _ _ _ _ (by decide) h.recs, hr.map (fun _ h => h) (fun ty _ _ _ _ ht ho => frO _ _ _ _ _ (by rcases ht with rfl | rfl <;> decide) ho) (fun b cur _ hb => fr hb (by decide)), h.small, ⟨hf, by rw [hg.2]; exact h.few.2⟩⟩
theorem POwn.appRow {w wa w4 : World} {S : Nat → Prop} {pb q g' : Nat} {x : PX} {ns : List Nd} {R W : Nat} {D : Nat → Nat → Int} {st st' : PSt} {v4 : Value} (h : POwn w S pb x ns R W D st) (hb : Bw w wa) (tyv : TypeId) (hty : tyv = 117 ∨ tyv = 183) (hz : wa.heap.size ≤ w4.heap.size) (hgp : ∀ (ty : TypeId), ty ≠ tyv → ∀ (b : Nat) (cur : Array Value), wa.heap[b]? = some (.cells cur ty (0, 0)) → w4.heap[b]? = wa.heap[b]?) (hlt : g' < w4.heap.size)
    (hr : w4.heap[x.wb]? = some (.cells x.warr 162 (0, 0)) → PRow (w4.setCell ⟨x.wb, q, none⟩ v4) (fun b => S b ∨ b = g') (x.warr.setIfInBounds q v4) ns.length W st') (hgv : st'.gv = st.gv ∧ st'.rc = st.rc) (hf : ∀ i n, (st'.wt i n).length ≤ 100000000 ∧ (st'.lb i n).length ≤ 100000000 ∧ (st'.wy i n).length ≤ 100000000) :
    POwn (w4.setCell ⟨x.wb, q, none⟩ v4) (fun b => S b ∨ b = g') pb { x with warr := x.warr.setIfInBounds q v4 } ns R W D st' := by
  have ha := h.bw hb
  have hw4 : w4.heap[x.wb]? = some (.cells x.warr 162 (0, 0)) := (hgp _ (by rcases hty with rfl | rfl <;> decide) _ _ ha.work).trans ha.work
  have hroot := (hgp _ (by rcases hty with rfl | rfl <;> decide) _ _ ha.root).trans ha.root
  have hne : pb ≠ x.wb := fun e => by have h1 := h.root; rw [e, h.work] at h1; simp at h1
  have frO : ∀ (t : TypeId) (s : Nat) (u : Value) (m : Nat) (ys : List Value), t ≠ tyv → t ≠ 162 → OwnsIn S w t s u m ys → OwnsIn (fun b => S b ∨ b = g') (w4.setCell ⟨x.wb, q, none⟩ v4) t s u m ys := fun t s u m ys h1 h2 ho => lS h.work hb hw4 (hgp t h1) ho h2
  refine ⟨(Below.heap_setCell w4 ⟨x.wb, q, none⟩ _ pb hne).trans hroot, h.r0, h.r1, h.r2, h.r3, by rw [hgv.1]; exact h.r4, h.r5, qY hw4, .inl h.sroot, .inl h.swork, fun b hb' => ?_, ?_, ?_, ?_, hr hw4, h.small, ⟨hf, by rw [hgv.2]; exact h.few.2⟩⟩
  · rw [show (w4.setCell ⟨x.wb, q, none⟩ v4).heap.size = w4.heap.size by simp]
    rcases hb' with hb' | rfl
    · exact Nat.lt_of_lt_of_le (ha.slt b hb') hz
    · exact hlt
  · exact frO _ _ _ _ _ (by rcases hty with rfl | rfl <;> decide) (by decide) h.nodes
  · exact h.dist.map fun t _ _ _ _ ht ho => frO _ _ _ _ _ (by rcases hty with rfl | rfl <;> rcases ht with rfl | rfl <;> decide) (by rcases ht with rfl | rfl <;> decide) ho
  · rw [hgv.2]; exact frO _ _ _ _ _ (by rcases hty with rfl | rfl <;> decide) (by decide) h.recs
end Go.Proofs.Ytfemleimkbjehaa
