import Derived.Test.YtfemleimkbjehaaGreatJ22
import Derived.Test.YtfemleimkbjehaaGreatJ4
set_option maxRecDepth 1000000
set_option maxHeartbeats 40000000
set_option linter.unusedVariables false
set_option linter.unusedSimpArgs false
namespace Go.Proofs.YtfemleimkbjehaaGreat
open Go.RowKit
theorem run_appK (w : World) (t ty res : TypeId) (z : Value) (size bytes : Nat) (hinf : (Tryz.prog.info? ty).map (fun i => (i.zero, i.size, i.bytes)) = some (some z, size, bytes)) (hund : Tryz.prog.underlying t = some (.slice ty)) (hzs : z.cells.size = size) (hsz : 0 < size)
    (base : Nat) (v : Value) (n : Nat) (xs : List Value) (hown : w.ownsRow base ty size v n xs)
    (g c : Nat) (news : List Value) (hnl : news.length = size) (hc : ∀ j u, news[j]? = some u → w.cell? ⟨g, j, none⟩ = some u) (h1 : ∀ u ∈ news, u.oneCell' = true) (hl1 : n + 1 ≤ 1000000000) (hb : bytes ≤ 1000) (hB : base ≤ w.heap.size) :
    ∃ g' cap w', (Builtin.append_ #[t, t] res #[v, .slice (some ⟨g, 0, none⟩) 1 c]).run Tryz.prog w = .ok (.slice (some ⟨g', 0, none⟩) (n + 1) cap) w' ∧ w'.ownsRow base ty size (.slice (some ⟨g', 0, none⟩) (n + 1) cap) (n + 1) (xs ++ news) ∧ w.grownBy w' v.ownBlock ∧ (v.ownBlock = some g' ∨ g' = w.heap.size) ∧ ∀ base' u k ys, w.ownsRow base' ty size u k ys → k ≤ n → w'.ownsRow base' ty size u k ys := by
  obtain ⟨g', cap, w', hr, h2, h3, h4⟩ := run_appL w t ty res z size bytes hinf hund hzs hsz base v n xs hown g c news hnl hc h1 hl1 hb hB
  obtain ⟨i0, hi, hz0, hz1, hz2⟩ := info_parts hinf
  have hbb : (n + 1) * bytes ≤ 1000000000 * 1000 := Nat.mul_le_mul hl1 hb
  obtain ⟨v2, w2, hr2, _, _, h5⟩ := run_append_keep (P := Tryz.prog) w base t res ty i0 z size bytes hund hi hz0 hz1 hz2 hzs hsz v n xs hown ⟨g, 0, none⟩ 1 c news (by omega) (by omega)
    (by intro j u hj
        refine add_cell ?_
        rw [Nat.zero_add]
        exact hc j u hj) h1 (by unfold maxLen; omega) (by omega) hB
  rw [hr] at hr2
  simp only [Result.ok.injEq] at hr2
  obtain ⟨_, rfl⟩ := hr2
  exact ⟨g', cap, w', hr, h2, h3, h4, h5⟩
theorem appK {ops : Array Oper} {rest : List Oper} {o : Oper} {a : Act} {Q : Exit → Act → World → Prop} (w : World) (hgd : o.guard = none) (s y : Operand) (t ty : TypeId)
    (ho : o.op = .call { callee := .builtin .append, args := #[s, y], argTypes := #[t, t] }) (z : Value) (size bytes : Nat) (hinf : (Tryz.prog.info? ty).map (fun i => (i.zero, i.size, i.bytes)) = some (some z, size, bytes)) (hund : Tryz.prog.underlying t = some (.slice ty)) (hzs : z.cells.size = size) (hsz : 0 < size)
    (base : Nat) (v : Value) (n : Nat) (xs : List Value) (hs : a.eval s = v) (hown : w.ownsRow base ty size v n xs)
    (g c : Nat) (news : List Value) (hx : a.eval y = .slice (some ⟨g, 0, none⟩) 1 c) (hnl : news.length = size) (hc : ∀ j u, news[j]? = some u → w.cell? ⟨g, j, none⟩ = some u) (h1 : ∀ u ∈ news, u.oneCell' = true) (hl1 : n + 1 ≤ 1000000000) (hb : bytes ≤ 1000) (hB : base ≤ w.heap.size)
    (h : ∀ g' cap w', w'.ownsRow base ty size (.slice (some ⟨g', 0, none⟩) (n + 1) cap) (n + 1) (xs ++ news) → w.grownBy w' v.ownBlock → (v.ownBlock = some g' ∨ g' = w.heap.size) → (∀ base' u k ys, w.ownsRow base' ty size u k ys → k ≤ n → w'.ownsRow base' ty size u k ys) → wpList Tryz.prog ops Q rest (a.put o.dst (.slice (some ⟨g', 0, none⟩) (n + 1) cap)) w') : wpList Tryz.prog ops Q (o :: rest) a w := by
  obtain ⟨g', cap, w', hr, h2, h3, h4, h5⟩ := run_appK w t ty o.type z size bytes hinf hund hzs hsz base v n xs hown g c news hnl hc h1 hl1 hb hB
  refine wpList_plain hgd fun _ hK => ?_
  unfold Oper.wp execOp
  simp only [ho, resolve, invoke, builtin, Sem.run_bind, Sem.run_pure, Result.andThen_ok, List.map_toArray, List.map_cons, List.map_nil, hs, hx, hr]
  exact hK _ _ (h g' cap w' h2 h3 h4 h5)
structure LW0 (w : World) (K : Nat → Prop) (lb pb rb : Nat) (x : LX) (cnt : Int) (l : LL) : Prop where
  root : w.heap[lb]? = some (.cells #[.pointer (some ⟨pb, 0, none⟩), .pointer (some ⟨rb, 0, none⟩), .int .i64 cnt, x.m, x.p, x.t, x.r] 42 (0, 0))
  kroot : K lb
  m : OwnsIn K w 60 2 x.m l.m.length (kC l.m)
  p : OwnsIn K w 65 2 x.p l.p.length (kC l.p)
  t : OwnsIn K w 70 2 x.t l.t.length (kC l.t)
  r : OwnsIn K w 75 2 x.r l.r.length (kC l.r)
  km : EntsOk w K 62 xM 3 l.m
  kp : EntsOk w K 67 xP 5 l.p
  kt : EntsOk w K 72 xT 2 l.t
  kr : EntsOk w K 77 xR 5 l.r
theorem LW.to0 {w : World} {K : Nat → Prop} {lb pb rb : Nat} {x : LX} {cnt : Int} {l : LL} (h : LW w K lb pb rb x cnt l) (B : Nat) : LW0 w (fun b => K b ∨ B ≤ b) lb pb rb x cnt l :=
  ⟨h.root, .inl h.kroot, h.m.mono fun _ h => .inl h, h.p.mono fun _ h => .inl h, h.t.mono fun _ h => .inl h, h.r.mono fun _ h => .inl h, h.km.map fun _ _ _ h => h.mono fun _ h => .inl h, h.kp.map fun _ _ _ h => h.mono fun _ h => .inl h, h.kt.map fun _ _ _ h => h.mono fun _ h => .inl h, h.kr.map fun _ _ _ h => h.mono fun _ h => .inl h⟩
theorem LW0.done {w w' : World} {K : Nat → Prop} {lb pb rb : Nat} {x : LX} {cnt : Int} {l : LL} (h : LW0 w' (fun b => K b ∨ w.heap.size ≤ b) lb pb rb x cnt l) (hk : ∀ b, K b → b < w.heap.size) (hz : w.heap.size ≤ w'.heap.size) (hf : l.m.length ≤ 900000000 ∧ l.p.length ≤ 900000000 ∧ l.t.length ≤ 900000000 ∧ l.r.length ≤ 900000000) : LW w' (fun b => K b ∨ (w.heap.size ≤ b ∧ b < w'.heap.size)) lb pb rb x cnt l := by
  have key : ∀ {ty : TypeId} {sz : Nat} {u : Value} {m : Nat} {ys : List Value}, OwnsIn (fun b => K b ∨ w.heap.size ≤ b) w' ty sz u m ys → OwnsIn (fun b => K b ∨ (w.heap.size ≤ b ∧ b < w'.heap.size)) w' ty sz u m ys := fun ho => ⟨ho.1, fun b hb => by
    rcases ho.2 b hb with h | h
    · exact .inl h
    · exact .inr ⟨h, (World.ownsRow.lt ho.1 b hb).2⟩⟩
  refine ⟨h.root, ?_, fun b hb => ?_, key h.m, key h.p, key h.t, key h.r, h.km.map fun _ _ _ h => key h, h.kp.map fun _ _ _ h => key h, h.kt.map fun _ _ _ h => key h, h.kr.map fun _ _ _ h => key h, hf⟩
  · rcases h.kroot with h1 | h1
    · exact .inl h1
    · exact .inr ⟨h1, (Array.getElem?_eq_some_iff.1 h.root).1⟩
  · rcases hb with hb | hb
    · exact Nat.lt_of_lt_of_le (hk b hb) hz
    · exact hb.2
theorem LW0.map {w w' : World} {K : Nat → Prop} {lb pb rb : Nat} {x : LX} {cnt : Int} {l : LL} (h : LW0 w K lb pb rb x cnt l) (hr : w'.heap[lb]? = w.heap[lb]?) (hf : ∀ (ty : TypeId) (sz : Nat) (u : Value) (m : Nat) (ys : List Value), OwnsIn K w ty sz u m ys → OwnsIn K w' ty sz u m ys) : LW0 w' K lb pb rb x cnt l :=
  ⟨hr.trans h.root, h.kroot, hf _ _ _ _ _ h.m, hf _ _ _ _ _ h.p, hf _ _ _ _ _ h.t, hf _ _ _ _ _ h.r, h.km.map fun _ _ _ h => hf _ _ _ _ _ h, h.kp.map fun _ _ _ h => hf _ _ _ _ _ h, h.kt.map fun _ _ _ h => hf _ _ _ _ _ h, h.kr.map fun _ _ _ h => hf _ _ _ _ _ h⟩
theorem LW0.bw {w w' : World} {K : Nat → Prop} {lb pb rb : Nat} {x : LX} {cnt : Int} {l : LL} (h : LW0 w K lb pb rb x cnt l) (hb : Bw w w') : LW0 w' K lb pb rb x cnt l :=
  h.map (Below.block hb _ (Array.getElem?_eq_some_iff.1 h.root).1) fun _ _ _ _ _ ho => ho.frame fun b _ hl => Below.block hb b hl
theorem entCells_snoc (l : List Ent) (e : Ent) : kC (l ++ [e]) = kC l ++ e.cells := by simp [kC]
theorem EntsOk.snoc {w : World} {K : Nat → Prop} {ty : TypeId} {X : Int → List Value} {sz : Nat} {l : List Ent} {e : Ent} (h : EntsOk w K ty X sz l) (he : EntOk w K ty X sz e) (hl : e.len ≤ 1000000000) : EntsOk w K ty X sz (l ++ [e]) := by
  intro i hi
  by_cases h1 : i < l.length
  · have : kV (l ++ [e]) i = kV l i := by simp [kV, List.getD, List.getElem?_append_left h1]
    rw [this]; exact h i h1
  · have h2 : i = l.length := by simp at hi; omega
    have : kV (l ++ [e]) i = e := by subst h2; simp [kV, List.getD]
    rw [this]; exact ⟨he, hl⟩
theorem LW0.addM {w0 w w4 : World} {K : Nat → Prop} {lb pb rb g' cap : Nat} {x : LX} {cnt : Int} {l : LL} {e : Ent} (h : LW0 w0 K lb pb rb x cnt l) (he : EntOk w0 K 62 xM 3 e) (hel : e.len ≤ 1000000000)
    (ho : w4.ownsRow 0 60 2 (.slice (some ⟨g', 0, none⟩) (l.m.length + 1) cap) (l.m.length + 1) (kC l.m ++ e.cells)) (hg : w.grownBy w4 x.m.ownBlock) (hK : K g') (hb : Bw w0 w) :
    w4.heap[lb]? = some (.cells #[.pointer (some ⟨pb, 0, none⟩), .pointer (some ⟨rb, 0, none⟩), .int .i64 cnt, x.m, x.p, x.t, x.r] 42 (0, 0)) ∧
    LW0 (w4.setCell ⟨lb, 3, none⟩ (.slice (some ⟨g', 0, none⟩) (l.m.length + 1) cap)) K lb pb rb { x with m := .slice (some ⟨g', 0, none⟩) (l.m.length + 1) cap } cnt { l with m := l.m ++ [e] } := by
  have h := h.bw hb
  have he : EntOk w K 62 xM 3 e := OwnsIn.frame he fun b _ hl => Below.block hb b hl
  have hr4 := qW h.m.1 hg h.root (.inl (by decide))
  have fr : ∀ {ty : TypeId} {sz m : Nat} {u : Value} {ys : List Value}, OwnsIn K w ty sz u m ys → ty ≠ 60 → ty ≠ 42 → OwnsIn K (w4.setCell ⟨lb, 3, none⟩ (.slice (some ⟨g', 0, none⟩) (l.m.length + 1) cap)) ty sz u m ys := fun ho' h1 h2 => (ho'.grown h.m.1 hg h1).set hr4 h2
  refine ⟨hr4, (qU hr4).trans rfl, h.kroot, ?_, fr h.p (by decide) (by decide), fr h.t (by decide) (by decide), fr h.r (by decide) (by decide), (h.km.snoc he hel).map fun _ _ _ h => fr h (by decide) (by decide), h.kp.map fun _ _ _ h => fr h (by decide) (by decide), h.kt.map fun _ _ _ h => fr h (by decide) (by decide), h.kr.map fun _ _ _ h => fr h (by decide) (by decide)⟩
  refine ⟨?_, fun b hb => ?_⟩
  · rw [entCells_snoc, List.length_append]
    exact qN hr4 ho (by decide)
  · simp only [Value.ownBlock, Option.some.injEq] at hb
    subst hb
    exact hK
theorem kP {w : World} {base n sz cap g p : Nat} {ty : TypeId} {xs : List Value} {u : Value} (h : w.ownsRow base ty sz (.slice (some ⟨g, 0, none⟩) n cap) n xs) (hp : p < xs.length) : (w.setCell ⟨g, p, none⟩ u).ownsRow base ty sz (.slice (some ⟨g, 0, none⟩) n cap) n (xs.set p u) := by
  obtain ⟨hl, h⟩ := h
  refine ⟨by rw [List.length_set]; exact hl, ?_⟩
  rcases h with ⟨h, _⟩ | ⟨g', cap', cur, e1, hb, hc, h1, h2, h3, h4⟩
  · simp at h
  · simp only [Value.slice.injEq, Option.some.injEq, Addr.mk.injEq, and_true, true_and] at e1
    obtain ⟨rfl, rfl⟩ := e1
    refine .inr ⟨g, cap, _, rfl, hb, qU hc, h1, h2, by simpa using h3, ?_⟩
    have hpn : p < n * sz := by omega
    rw [Array.toList_setIfInBounds, ← h4]
    apply List.ext_getElem?
    intro j
    by_cases hj : j < n * sz
    · rw [List.getElem?_take_of_lt hj]
      by_cases e : p = j
      · subst e
        rw [List.getElem?_set_self (by simp; rw [h3]; exact Nat.lt_of_lt_of_le hpn (Nat.mul_le_mul_right _ h1)), List.getElem?_set_self (by simp; rw [h3]; exact Nat.lt_min.2 ⟨hpn, Nat.lt_of_lt_of_le hpn (Nat.mul_le_mul_right _ h1)⟩)]
      · rw [List.getElem?_set_ne e, List.getElem?_set_ne e, List.getElem?_take_of_lt hj]
    · rw [List.getElem?_eq_none (by simp; omega), List.getElem?_eq_none (by simp; omega)]
def ovL (X : Int → List Value) (n : Int) (sz : Nat) (ys : List Value) (k : Nat) : List Value := jW X n k ++ ys.drop (k * sz)
theorem ovL_zero (X : Int → List Value) (n : Int) (sz : Nat) (ys : List Value) : ovL X n sz ys 0 = ys := by simp [ovL, jW]
theorem yG {X : Int → List Value} {n : Int} {sz k p : Nat} {ys : List Value} (hX : (X n).length = sz) : (ovL X n sz ys k)[p]? = if p < k * sz then (jW X n k)[p]? else ys[p]? := by
  have hl : (jW X n k).length = k * sz := by simp [jW, hX]
  unfold ovL
  by_cases h : p < k * sz
  · rw [if_pos h, List.getElem?_append_left (by omega)]
  · rw [if_neg h, List.getElem?_append_right (by omega), hl, List.getElem?_drop, show k * sz + (p - k * sz) = p by omega]
theorem ovL_all {X : Int → List Value} {n : Int} {sz k : Nat} {ys : List Value} (hl : ys.length = k * sz) : ovL X n sz ys k = jW X n k := by
  unfold ovL
  rw [List.drop_eq_nil_of_le (by omega), List.append_nil]
theorem LW.setCnt {w : World} {K : Nat → Prop} {lb pb rb : Nat} {x : LX} {cnt c : Int} {l : LL} (h : LW w K lb pb rb x cnt l) : LW (w.setCell ⟨lb, 2, none⟩ (.int .i64 c)) K lb pb rb x c l := by
  have fr : ∀ {ty : TypeId} {sz m : Nat} {u : Value} {ys : List Value}, OwnsIn K w ty sz u m ys → ty ≠ 42 → OwnsIn K (w.setCell ⟨lb, 2, none⟩ (.int .i64 c)) ty sz u m ys := fun ho ht => ⟨vX ho.1 h.root (qP _ _ _ _) ht, ho.2⟩
  exact ⟨(qU h.root).trans rfl, h.kroot, fun b hb => by simpa using h.klt b hb, fr h.m (by decide), fr h.p (by decide), fr h.t (by decide), fr h.r (by decide), h.km.map fun _ _ _ h => fr h (by decide), h.kp.map fun _ _ _ h => fr h (by decide), h.kt.map fun _ _ _ h => fr h (by decide), h.kr.map fun _ _ _ h => fr h (by decide), h.few⟩
theorem LW0.appM {w w' : World} {K K0 : Nat → Prop} {lb pb rb base n : Nat} {x : LX} {cnt : Int} {l : LL} {gv : Value} {xs : List Value} (h : LW0 w K lb pb rb x cnt l) (hown : w.ownsRow base 62 3 gv n xs) (hg : w.grownBy w' gv.ownBlock) (hkeep : ∀ base' u k ys, w.ownsRow base' 62 3 u k ys → k ≤ n → w'.ownsRow base' 62 3 u k ys)
    (hfam : ∀ i, i < l.m.length → (kV l.m i).len ≤ n ∨ ∀ b, (Value.slice (kV l.m i).a (kV l.m i).len (kV l.m i).cap).ownBlock = some b → K0 b) (hn : ∀ b, gv.ownBlock = some b → ¬ K0 b) : LW0 w' K lb pb rb x cnt l := by
  have fr : ∀ {ty : TypeId} {sz m : Nat} {u : Value} {ys : List Value}, OwnsIn K w ty sz u m ys → ty ≠ 62 → OwnsIn K w' ty sz u m ys := fun ho h1 => ho.grown hown hg h1
  refine ⟨qW hown hg h.root (.inl (by decide)), h.kroot, fr h.m (by decide), fr h.p (by decide), fr h.t (by decide), fr h.r (by decide), fun i hi => ?_, h.kp.map fun _ _ _ h => fr h (by decide), h.kt.map fun _ _ _ h => fr h (by decide), h.kr.map fun _ _ _ h => fr h (by decide)⟩
  obtain ⟨he, hl⟩ := h.km i hi
  refine ⟨⟨?_, he.2⟩, hl⟩
  rcases hfam i hi with h1 | h1
  · exact hkeep _ _ _ _ he.1 h1
  · exact kK he.1 fun b hb => hg.block b (World.ownsRow.lt he.1 b hb).2 (fun e => hn b e.symm (h1 b hb))
theorem one2 (e : Ent) : ∀ u ∈ Ent.cells e, u.oneCell' = true := by
  intro u hu
  simp [Ent.cells] at hu
  rcases hu with rfl | rfl <;> rfl
theorem fam_snoc {l : List Ent} {e : Ent} {n : Nat} {K0 : Nat → Prop} (h : ∀ i, i < l.length → (kV l i).len ≤ n ∨ ∀ b, (Value.slice (kV l i).a (kV l i).len (kV l i).cap).ownBlock = some b → K0 b) (he : e.len ≤ n) : ∀ i, i < (l ++ [e]).length → (kV (l ++ [e]) i).len ≤ n ∨ ∀ b, (Value.slice (kV (l ++ [e]) i).a (kV (l ++ [e]) i).len (kV (l ++ [e]) i).cap).ownBlock = some b → K0 b := by
  intro i hi
  by_cases h1 : i < l.length
  · have : kV (l ++ [e]) i = kV l i := by simp [kV, List.getD, List.getElem?_append_left h1]
    rw [this]; exact h i h1
  · have h2 : i = l.length := by simp at hi; omega
    have : kV (l ++ [e]) i = e := by subst h2; simp [kV, List.getD]
    rw [this]; exact .inl he
theorem lgive_any {K Sp Sr : Nat → Prop} {lb pb rb : Nat} {x : LX} {cnt : Int} {l : LL} {Pp Pr : World → World → Prop} (_k oa ob oc oh : Int) (E : Int) (w : World) (hL : LW w K lb pb rb x cnt l) (hlp : ¬ Sp lb) (hsp : ∀ b, Sp b → b < w.heap.size)
    (hp : ∀ w', Bw w w' → Calls Tryz.prog 28 #[.pointer (some ⟨pb, 0, none⟩), .int .i64 oa, .int .i64 ob, .int .i64 oc] w' fun e w'' => e = .returned (.int .i64 E) ∧ Chg Sp w' w'' ∧ Pp w' w'')
    (hr : ∀ a1 b1 w', Bw w a1 → Chg Sp a1 b1 → Pp a1 b1 → Bw b1 w' → Calls Tryz.prog 29 #[.pointer (some ⟨rb, 0, none⟩), .int .i64 oa, .int .i64 ob, .int .i64 oc] w' fun e w'' => e = .returned (.int .i64 E) ∧ Chg Sr w' w'' ∧ Pr w' w'')
    (hsr : ∀ b, Sr b → b < w.heap.size) (hlr : ¬ Sr lb) :
    Calls Tryz.prog 17 #[.pointer (some ⟨lb, 0, none⟩), .agg #[.int .i64 1, .int .i64 oa, .int .i64 ob, .int .i64 oc, .int .i64 oh]] w fun e w' => e = .returned (.bool true) ∧ ∃ a1 b1 a2, Bw w a1 ∧ Chg Sp a1 b1 ∧ Pp a1 b1 ∧ Bw b1 a2 ∧ Chg Sr a2 w' ∧ Pr a2 w' := by
  have Hp := qJ hp
  have Hr := qJ hr
  have c0 := qQ (o := 0) hL.root rfl
  have c1 := qQ (o := 1) hL.root rfl
  have cl := (Array.getElem?_eq_some_iff.1 hL.root).1
  clear hL hp hr
  go_enter Tryz.func17, Tryz.ntmps17
  go_wp2_with fail
  obtain ⟨w0, hw0⟩ : ∃ w0, w.alloc (.cells #[.int .i64 1, .int .i64 oa, .int .i64 ob, .int .i64 oc, .int .i64 oh] 31) = w0 := ⟨_, rfl⟩
  have hB0 : Bw w w0 := by rw [← hw0]; exact (by repeat first|exact br _|assumption|apply bd|apply bn|apply ba|refine bt ?_ (by assumption))
  have ho0 : w0.heap[w.heap.size]? = some (.cells #[.int .i64 1, .int .i64 oa, .int .i64 ob, .int .i64 oc, .int .i64 oh] 31 (0, 0)) := by rw [← hw0]; exact heap_alloc_new w _
  rw [hw0]
  clear hw0
  have hnq : ¬ Sp w.heap.size := fun h => by have := hsp _ h; omega
  obtain ⟨pq, hpq⟩ : ∃ pq, w.heap.size = pq := ⟨_, rfl⟩
  rw [hpq] at ho0 hnq
  rw [hpq]
  have ol := (Array.getElem?_eq_some_iff.1 ho0).1
  have ll := Nat.lt_of_lt_of_le cl hB0.size
  have hl0 : ∀ k, w0.cell? ⟨lb, k, none⟩ = w.cell? ⟨lb, k, none⟩ := fun k => (qS hB0).1 _ k cl
  have Hcs := qJ (fun (w' : World) (ha : w'.heap[lb]? = w0.heap[lb]?) (hb : w'.heap[pq]? = w0.heap[pq]?) => (⟨(World.cell?_of_block (a := ⟨lb, 0, none⟩) ha).trans ((hl0 0).trans c0), (World.cell?_of_block (a := ⟨lb, 1, none⟩) ha).trans ((hl0 1).trans c1), qQ (o := 1) (hb.trans ho0) rfl, qQ (o := 2) (hb.trans ho0) rfl, qQ (o := 3) (hb.trans ho0) rfl⟩ : w'.cell? ⟨lb, 0, none⟩ = some (.pointer (some ⟨pb, 0, none⟩)) ∧ w'.cell? ⟨lb, 1, none⟩ = some (.pointer (some ⟨rb, 0, none⟩)) ∧ w'.cell? ⟨pq, 1, none⟩ = some (.int .i64 oa) ∧ w'.cell? ⟨pq, 2, none⟩ = some (.int .i64 ob) ∧ w'.cell? ⟨pq, 3, none⟩ = some (.int .i64 oc)))
  obtain ⟨s0, s1, s2, s3, s4⟩ := (qK Hcs) w0 rfl rfl
  clear c0 c1 hl0
  go_region_held3 (fun w' => w'.cell? ⟨lb, 0, none⟩ = some (.pointer (some ⟨pb, 0, none⟩)) ∧ w'.cell? ⟨lb, 1, none⟩ = some (.pointer (some ⟨rb, 0, none⟩)) ∧ w'.cell? ⟨pq, 1, none⟩ = some (.int .i64 oa) ∧ w'.cell? ⟨pq, 2, none⟩ = some (.int .i64 ob) ∧ w'.cell? ⟨pq, 3, none⟩ = some (.int .i64 oc)) (go_keep) ((go_at_call 28; refine ((qK Hp) _ (hB0.trans (by repeat first|exact br _|assumption|apply bd|apply bn|apply ba|refine bt ?_ (by assumption)))).mono ?_; rintro e1 w1 ⟨rfl, hc1, hp1⟩; have hl1 : w1.heap[lb]? = w0.heap[lb]? := (hc1.block lb (by simpa using ll) hlp).trans rfl; have hq1 : w1.heap[pq]? = w0.heap[pq]? := (hc1.block pq (by simpa using ol) hnq).trans rfl; obtain ⟨t0, t1, t2, t3, t4⟩ := (qK Hcs) w1 hl1 hq1))
  have hB1 : Bw w w0.drew := hB0.trans (by repeat first|exact br _|assumption|apply bd|apply bn|apply ba|refine bt ?_ (by assumption))
  clear s0 s1 s2 s3 s4
  have hz1 := hc1.size
  have hnq2 : ¬ Sr pq := fun h => by have := hsr _ h; omega
  go_wp2_with fail
  go_region_held3 (fun w' => w'.cell? ⟨lb, 0, none⟩ = some (.pointer (some ⟨pb, 0, none⟩)) ∧ w'.cell? ⟨lb, 1, none⟩ = some (.pointer (some ⟨rb, 0, none⟩)) ∧ w'.cell? ⟨pq, 1, none⟩ = some (.int .i64 oa) ∧ w'.cell? ⟨pq, 2, none⟩ = some (.int .i64 ob) ∧ w'.cell? ⟨pq, 3, none⟩ = some (.int .i64 oc)) (go_keep) ((go_at_call 29; refine ((qK Hr) _ _ _ hB1 hc1 hp1 (show Bw w1 w1.drew from (by repeat first|exact br _|assumption|apply bd|apply bn|apply ba|refine bt ?_ (by assumption)))).mono ?_; rintro e2 w2 ⟨rfl, hc2, hr2⟩; have hl2 : w2.heap[lb]? = w0.heap[lb]? := (hc2.block lb (show lb < w1.heap.size from Nat.lt_of_lt_of_le ll hz1) hlr).trans hl1; have hq2 : w2.heap[pq]? = w0.heap[pq]? := (hc2.block pq (show pq < w1.heap.size from Nat.lt_of_lt_of_le ol hz1) hnq2).trans hq1; obtain ⟨v0, v1, v2, v3, v4⟩ := (qK Hcs) w2 hl2 hq2))
  have Hfin := qJ (⟨_, _, _, hB1, hc1, hp1, (show Bw w1 w1.drew from (by repeat first|exact br _|assumption|apply bd|apply bn|apply ba|refine bt ?_ (by assumption))), hc2, hr2⟩ : ∃ a1 b1 a2, Bw w a1 ∧ Chg Sp a1 b1 ∧ Pp a1 b1 ∧ Bw b1 a2 ∧ Chg Sr a2 w2 ∧ Pr a2 w2)
  clear hc1 hc2 hp1 hr2 t0 t1 t2 t3 t4 v0 v1 v2 v3 v4
  go_wp2_with (go_at_call 16; refine (num_any _ _).mono ?_; rintro en wn ⟨rfl, rfl⟩)
  go_ret
  exact ⟨rfl, qK Hfin⟩
theorem ladvance_any {K Sp Sr : Nat → Prop} {lb pb rb : Nat} {x : LX} {cnt : Int} {l : LL} {Pp Pr : World → World → Prop} (_k oa ob oc oh : Int) (E : Int) (w : World) (hL : LW w K lb pb rb x cnt l) (hlp : ¬ Sp lb) (hsp : ∀ b, Sp b → b < w.heap.size)
    (hp : ∀ w', Bw w w' → Calls Tryz.prog 30 #[.pointer (some ⟨pb, 0, none⟩), .int .i64 oa, .int .i64 ob] w' fun e w'' => e = .returned (.int .i64 E) ∧ Chg Sp w' w'' ∧ Pp w' w'')
    (hr : ∀ a1 b1 w', Bw w a1 → Chg Sp a1 b1 → Pp a1 b1 → Bw b1 w' → Calls Tryz.prog 31 #[.pointer (some ⟨rb, 0, none⟩), .int .i64 oa, .int .i64 ob] w' fun e w'' => e = .returned (.int .i64 E) ∧ Chg Sr w' w'' ∧ Pr w' w'')
    (hsr : ∀ b, Sr b → b < w.heap.size) (hlr : ¬ Sr lb) :
    Calls Tryz.prog 17 #[.pointer (some ⟨lb, 0, none⟩), .agg #[.int .i64 2, .int .i64 oa, .int .i64 ob, .int .i64 oc, .int .i64 oh]] w fun e w' => e = .returned (.bool true) ∧ ∃ a1 b1 a2, Bw w a1 ∧ Chg Sp a1 b1 ∧ Pp a1 b1 ∧ Bw b1 a2 ∧ Chg Sr a2 w' ∧ Pr a2 w' := by
  have Hp := qJ hp
  have Hr := qJ hr
  have c0 := qQ (o := 0) hL.root rfl
  have c1 := qQ (o := 1) hL.root rfl
  have cl := (Array.getElem?_eq_some_iff.1 hL.root).1
  clear hL hp hr
  go_enter Tryz.func17, Tryz.ntmps17
  go_wp2_with fail
  obtain ⟨w0, hw0⟩ : ∃ w0, w.alloc (.cells #[.int .i64 2, .int .i64 oa, .int .i64 ob, .int .i64 oc, .int .i64 oh] 31) = w0 := ⟨_, rfl⟩
  have hB0 : Bw w w0 := by rw [← hw0]; exact (by repeat first|exact br _|assumption|apply bd|apply bn|apply ba|refine bt ?_ (by assumption))
  have ho0 : w0.heap[w.heap.size]? = some (.cells #[.int .i64 2, .int .i64 oa, .int .i64 ob, .int .i64 oc, .int .i64 oh] 31 (0, 0)) := by rw [← hw0]; exact heap_alloc_new w _
  rw [hw0]
  clear hw0
  have hnq : ¬ Sp w.heap.size := fun h => by have := hsp _ h; omega
  obtain ⟨pq, hpq⟩ : ∃ pq, w.heap.size = pq := ⟨_, rfl⟩
  rw [hpq] at ho0 hnq
  rw [hpq]
  have ol := (Array.getElem?_eq_some_iff.1 ho0).1
  have ll := Nat.lt_of_lt_of_le cl hB0.size
  have hl0 : ∀ k, w0.cell? ⟨lb, k, none⟩ = w.cell? ⟨lb, k, none⟩ := fun k => (qS hB0).1 _ k cl
  have Hcs := qJ (fun (w' : World) (ha : w'.heap[lb]? = w0.heap[lb]?) (hb : w'.heap[pq]? = w0.heap[pq]?) => (⟨(World.cell?_of_block (a := ⟨lb, 0, none⟩) ha).trans ((hl0 0).trans c0), (World.cell?_of_block (a := ⟨lb, 1, none⟩) ha).trans ((hl0 1).trans c1), qQ (o := 1) (hb.trans ho0) rfl, qQ (o := 2) (hb.trans ho0) rfl, qQ (o := 3) (hb.trans ho0) rfl⟩ : w'.cell? ⟨lb, 0, none⟩ = some (.pointer (some ⟨pb, 0, none⟩)) ∧ w'.cell? ⟨lb, 1, none⟩ = some (.pointer (some ⟨rb, 0, none⟩)) ∧ w'.cell? ⟨pq, 1, none⟩ = some (.int .i64 oa) ∧ w'.cell? ⟨pq, 2, none⟩ = some (.int .i64 ob) ∧ w'.cell? ⟨pq, 3, none⟩ = some (.int .i64 oc)))
  obtain ⟨s0, s1, s2, s3, s4⟩ := (qK Hcs) w0 rfl rfl
  clear c0 c1 hl0
  go_region_held3 (fun w' => w'.cell? ⟨lb, 0, none⟩ = some (.pointer (some ⟨pb, 0, none⟩)) ∧ w'.cell? ⟨lb, 1, none⟩ = some (.pointer (some ⟨rb, 0, none⟩)) ∧ w'.cell? ⟨pq, 1, none⟩ = some (.int .i64 oa) ∧ w'.cell? ⟨pq, 2, none⟩ = some (.int .i64 ob) ∧ w'.cell? ⟨pq, 3, none⟩ = some (.int .i64 oc)) (go_keep) ((go_at_call 30; refine ((qK Hp) _ (hB0.trans (by repeat first|exact br _|assumption|apply bd|apply bn|apply ba|refine bt ?_ (by assumption)))).mono ?_; rintro e1 w1 ⟨rfl, hc1, hp1⟩; have hl1 : w1.heap[lb]? = w0.heap[lb]? := (hc1.block lb (by simpa using ll) hlp).trans rfl; have hq1 : w1.heap[pq]? = w0.heap[pq]? := (hc1.block pq (by simpa using ol) hnq).trans rfl; obtain ⟨t0, t1, t2, t3, t4⟩ := (qK Hcs) w1 hl1 hq1))
  have hB1 : Bw w w0.drew := hB0.trans (by repeat first|exact br _|assumption|apply bd|apply bn|apply ba|refine bt ?_ (by assumption))
  clear s0 s1 s2 s3 s4
  have hz1 := hc1.size
  have hnq2 : ¬ Sr pq := fun h => by have := hsr _ h; omega
  go_wp2_with fail
  go_region_held3 (fun w' => w'.cell? ⟨lb, 0, none⟩ = some (.pointer (some ⟨pb, 0, none⟩)) ∧ w'.cell? ⟨lb, 1, none⟩ = some (.pointer (some ⟨rb, 0, none⟩)) ∧ w'.cell? ⟨pq, 1, none⟩ = some (.int .i64 oa) ∧ w'.cell? ⟨pq, 2, none⟩ = some (.int .i64 ob) ∧ w'.cell? ⟨pq, 3, none⟩ = some (.int .i64 oc)) (go_keep) ((go_at_call 31; refine ((qK Hr) _ _ _ hB1 hc1 hp1 (show Bw w1 w1.drew from (by repeat first|exact br _|assumption|apply bd|apply bn|apply ba|refine bt ?_ (by assumption)))).mono ?_; rintro e2 w2 ⟨rfl, hc2, hr2⟩; have hl2 : w2.heap[lb]? = w0.heap[lb]? := (hc2.block lb (show lb < w1.heap.size from Nat.lt_of_lt_of_le ll hz1) hlr).trans hl1; have hq2 : w2.heap[pq]? = w0.heap[pq]? := (hc2.block pq (show pq < w1.heap.size from Nat.lt_of_lt_of_le ol hz1) hnq2).trans hq1; obtain ⟨v0, v1, v2, v3, v4⟩ := (qK Hcs) w2 hl2 hq2))
  have Hfin := qJ (⟨_, _, _, hB1, hc1, hp1, (show Bw w1 w1.drew from (by repeat first|exact br _|assumption|apply bd|apply bn|apply ba|refine bt ?_ (by assumption))), hc2, hr2⟩ : ∃ a1 b1 a2, Bw w a1 ∧ Chg Sp a1 b1 ∧ Pp a1 b1 ∧ Bw b1 a2 ∧ Chg Sr a2 w2 ∧ Pr a2 w2)
  clear hc1 hc2 hp1 hr2 t0 t1 t2 t3 t4 v0 v1 v2 v3 v4
  go_wp2_with (go_at_call 16; refine (num_any _ _).mono ?_; rintro en wn ⟨rfl, rfl⟩)
  go_ret
  exact ⟨rfl, qK Hfin⟩
theorem lclose_any {K Sp Sr : Nat → Prop} {lb pb rb : Nat} {x : LX} {cnt : Int} {l : LL} {Pp Pr : World → World → Prop} (_k oa ob oc oh : Int) (E : Int) (w : World) (hL : LW w K lb pb rb x cnt l) (hlp : ¬ Sp lb) (hsp : ∀ b, Sp b → b < w.heap.size)
    (hp : ∀ w', Bw w w' → Calls Tryz.prog 32 #[.pointer (some ⟨pb, 0, none⟩), .int .i64 oa, .int .i64 ob] w' fun e w'' => e = .returned (.int .i64 E) ∧ Chg Sp w' w'' ∧ Pp w' w'')
    (hr : ∀ a1 b1 w', Bw w a1 → Chg Sp a1 b1 → Pp a1 b1 → Bw b1 w' → Calls Tryz.prog 33 #[.pointer (some ⟨rb, 0, none⟩), .int .i64 oa, .int .i64 ob] w' fun e w'' => e = .returned (.int .i64 E) ∧ Chg Sr w' w'' ∧ Pr w' w'')
    (hsr : ∀ b, Sr b → b < w.heap.size) (hlr : ¬ Sr lb) :
    Calls Tryz.prog 17 #[.pointer (some ⟨lb, 0, none⟩), .agg #[.int .i64 3, .int .i64 oa, .int .i64 ob, .int .i64 oc, .int .i64 oh]] w fun e w' => e = .returned (.bool true) ∧ ∃ a1 b1 a2, Bw w a1 ∧ Chg Sp a1 b1 ∧ Pp a1 b1 ∧ Bw b1 a2 ∧ Chg Sr a2 w' ∧ Pr a2 w' := by
  have Hp := qJ hp
  have Hr := qJ hr
  have c0 := qQ (o := 0) hL.root rfl
  have c1 := qQ (o := 1) hL.root rfl
  have cl := (Array.getElem?_eq_some_iff.1 hL.root).1
  clear hL hp hr
  go_enter Tryz.func17, Tryz.ntmps17
  go_wp2_with fail
  obtain ⟨w0, hw0⟩ : ∃ w0, w.alloc (.cells #[.int .i64 3, .int .i64 oa, .int .i64 ob, .int .i64 oc, .int .i64 oh] 31) = w0 := ⟨_, rfl⟩
  have hB0 : Bw w w0 := by rw [← hw0]; exact (by repeat first|exact br _|assumption|apply bd|apply bn|apply ba|refine bt ?_ (by assumption))
  have ho0 : w0.heap[w.heap.size]? = some (.cells #[.int .i64 3, .int .i64 oa, .int .i64 ob, .int .i64 oc, .int .i64 oh] 31 (0, 0)) := by rw [← hw0]; exact heap_alloc_new w _
  rw [hw0]
  clear hw0
  have hnq : ¬ Sp w.heap.size := fun h => by have := hsp _ h; omega
  obtain ⟨pq, hpq⟩ : ∃ pq, w.heap.size = pq := ⟨_, rfl⟩
  rw [hpq] at ho0 hnq
  rw [hpq]
  have ol := (Array.getElem?_eq_some_iff.1 ho0).1
  have ll := Nat.lt_of_lt_of_le cl hB0.size
  have hl0 : ∀ k, w0.cell? ⟨lb, k, none⟩ = w.cell? ⟨lb, k, none⟩ := fun k => (qS hB0).1 _ k cl
  have Hcs := qJ (fun (w' : World) (ha : w'.heap[lb]? = w0.heap[lb]?) (hb : w'.heap[pq]? = w0.heap[pq]?) => (⟨(World.cell?_of_block (a := ⟨lb, 0, none⟩) ha).trans ((hl0 0).trans c0), (World.cell?_of_block (a := ⟨lb, 1, none⟩) ha).trans ((hl0 1).trans c1), qQ (o := 1) (hb.trans ho0) rfl, qQ (o := 2) (hb.trans ho0) rfl, qQ (o := 3) (hb.trans ho0) rfl⟩ : w'.cell? ⟨lb, 0, none⟩ = some (.pointer (some ⟨pb, 0, none⟩)) ∧ w'.cell? ⟨lb, 1, none⟩ = some (.pointer (some ⟨rb, 0, none⟩)) ∧ w'.cell? ⟨pq, 1, none⟩ = some (.int .i64 oa) ∧ w'.cell? ⟨pq, 2, none⟩ = some (.int .i64 ob) ∧ w'.cell? ⟨pq, 3, none⟩ = some (.int .i64 oc)))
  obtain ⟨s0, s1, s2, s3, s4⟩ := (qK Hcs) w0 rfl rfl
  clear c0 c1 hl0
  go_region_held3 (fun w' => w'.cell? ⟨lb, 0, none⟩ = some (.pointer (some ⟨pb, 0, none⟩)) ∧ w'.cell? ⟨lb, 1, none⟩ = some (.pointer (some ⟨rb, 0, none⟩)) ∧ w'.cell? ⟨pq, 1, none⟩ = some (.int .i64 oa) ∧ w'.cell? ⟨pq, 2, none⟩ = some (.int .i64 ob) ∧ w'.cell? ⟨pq, 3, none⟩ = some (.int .i64 oc)) (go_keep) ((go_at_call 32; refine ((qK Hp) _ (hB0.trans (by repeat first|exact br _|assumption|apply bd|apply bn|apply ba|refine bt ?_ (by assumption)))).mono ?_; rintro e1 w1 ⟨rfl, hc1, hp1⟩; have hl1 : w1.heap[lb]? = w0.heap[lb]? := (hc1.block lb (by simpa using ll) hlp).trans rfl; have hq1 : w1.heap[pq]? = w0.heap[pq]? := (hc1.block pq (by simpa using ol) hnq).trans rfl; obtain ⟨t0, t1, t2, t3, t4⟩ := (qK Hcs) w1 hl1 hq1))
  have hB1 : Bw w w0.drew := hB0.trans (by repeat first|exact br _|assumption|apply bd|apply bn|apply ba|refine bt ?_ (by assumption))
  clear s0 s1 s2 s3 s4
  have hz1 := hc1.size
  have hnq2 : ¬ Sr pq := fun h => by have := hsr _ h; omega
  go_wp2_with fail
  go_region_held3 (fun w' => w'.cell? ⟨lb, 0, none⟩ = some (.pointer (some ⟨pb, 0, none⟩)) ∧ w'.cell? ⟨lb, 1, none⟩ = some (.pointer (some ⟨rb, 0, none⟩)) ∧ w'.cell? ⟨pq, 1, none⟩ = some (.int .i64 oa) ∧ w'.cell? ⟨pq, 2, none⟩ = some (.int .i64 ob) ∧ w'.cell? ⟨pq, 3, none⟩ = some (.int .i64 oc)) (go_keep) ((go_at_call 33; refine ((qK Hr) _ _ _ hB1 hc1 hp1 (show Bw w1 w1.drew from (by repeat first|exact br _|assumption|apply bd|apply bn|apply ba|refine bt ?_ (by assumption)))).mono ?_; rintro e2 w2 ⟨rfl, hc2, hr2⟩; have hl2 : w2.heap[lb]? = w0.heap[lb]? := (hc2.block lb (show lb < w1.heap.size from Nat.lt_of_lt_of_le ll hz1) hlr).trans hl1; have hq2 : w2.heap[pq]? = w0.heap[pq]? := (hc2.block pq (show pq < w1.heap.size from Nat.lt_of_lt_of_le ol hz1) hnq2).trans hq1; obtain ⟨v0, v1, v2, v3, v4⟩ := (qK Hcs) w2 hl2 hq2))
  have Hfin := qJ (⟨_, _, _, hB1, hc1, hp1, (show Bw w1 w1.drew from (by repeat first|exact br _|assumption|apply bd|apply bn|apply ba|refine bt ?_ (by assumption))), hc2, hr2⟩ : ∃ a1 b1 a2, Bw w a1 ∧ Chg Sp a1 b1 ∧ Pp a1 b1 ∧ Bw b1 a2 ∧ Chg Sr a2 w2 ∧ Pr a2 w2)
  clear hc1 hc2 hp1 hr2 t0 t1 t2 t3 t4 v0 v1 v2 v3 v4
  go_wp2_with (go_at_call 16; refine (num_any _ _).mono ?_; rintro en wn ⟨rfl, rfl⟩)
  go_ret
  exact ⟨rfl, qK Hfin⟩
end Go.Proofs.YtfemleimkbjehaaGreat
