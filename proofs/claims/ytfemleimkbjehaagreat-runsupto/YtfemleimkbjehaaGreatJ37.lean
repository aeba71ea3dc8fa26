import Derived.Test.YtfemleimkbjehaaGreatJ36
set_option maxRecDepth 1000000
set_option maxHeartbeats 40000000
set_option linter.unusedVariables false
set_option linter.unusedSimpArgs false
namespace Go.Proofs.YtfemleimkbjehaaGreat
open Go.RowKit
theorem Tryz.infoBel : (Tryz.prog.info? 65).map (fun i => (i.zero, i.size, i.bytes)) = some (some (.agg #[.slice none 0 0, .int .i64 0]), 2, 32) := by kernel_rfl
theorem Tryz.infoCom : (Tryz.prog.info? 70).map (fun i => (i.zero, i.size, i.bytes)) = some (some (.agg #[.slice none 0 0, .int .i64 0]), 2, 32) := by kernel_rfl
theorem LW0.addP {w0 w w4 : World} {K : Nat → Prop} {lb pb rb g' cap : Nat} {x : LX} {cnt : Int} {l : LL} {e : Ent} (h : LW0 w0 K lb pb rb x cnt l) (he : EntOk w0 K 67 xP 5 e) (hel : e.len ≤ 1000000000)
    (ho : w4.ownsRow 0 65 2 (.slice (some ⟨g', 0, none⟩) (l.p.length + 1) cap) (l.p.length + 1) (kC l.p ++ e.cells)) (hg : w.grownBy w4 x.p.ownBlock) (hK : K g') (hb : Bw w0 w) :
    w4.heap[lb]? = some (.cells #[.pointer (some ⟨pb, 0, none⟩), .pointer (some ⟨rb, 0, none⟩), .int .i64 cnt, x.m, x.p, x.t, x.r] 42 (0, 0)) ∧
    LW0 (w4.setCell ⟨lb, 4, none⟩ (.slice (some ⟨g', 0, none⟩) (l.p.length + 1) cap)) K lb pb rb { x with p := .slice (some ⟨g', 0, none⟩) (l.p.length + 1) cap } cnt { l with p := l.p ++ [e] } := by
  have h := h.bw hb
  have he : EntOk w K 67 xP 5 e := OwnsIn.frame he fun b _ hl => Below.block hb b hl
  have hr4 := qW h.p.1 hg h.root (.inl (by decide))
  have fr : ∀ {ty : TypeId} {sz m : Nat} {u : Value} {ys : List Value}, OwnsIn K w ty sz u m ys → ty ≠ 65 → ty ≠ 42 → OwnsIn K (w4.setCell ⟨lb, 4, none⟩ (.slice (some ⟨g', 0, none⟩) (l.p.length + 1) cap)) ty sz u m ys := fun ho' h1 h2 => (ho'.grown h.p.1 hg h1).set hr4 h2
  refine ⟨hr4, (qU hr4).trans rfl, h.kroot, fr h.m (by decide) (by decide), ?_, fr h.t (by decide) (by decide), fr h.r (by decide) (by decide), h.km.map fun _ _ _ h => fr h (by decide) (by decide), (h.kp.snoc he hel).map fun _ _ _ h => fr h (by decide) (by decide), h.kt.map fun _ _ _ h => fr h (by decide) (by decide), h.kr.map fun _ _ _ h => fr h (by decide) (by decide)⟩
  refine ⟨?_, fun b hb => ?_⟩
  · rw [entCells_snoc, List.length_append]
    exact qN hr4 ho (by decide)
  · simp only [Value.ownBlock, Option.some.injEq] at hb
    subst hb
    exact hK
theorem LW0.appP {w w' : World} {K K0 : Nat → Prop} {lb pb rb base n : Nat} {x : LX} {cnt : Int} {l : LL} {gv : Value} {xs : List Value} (h : LW0 w K lb pb rb x cnt l) (hown : w.ownsRow base 67 5 gv n xs) (hg : w.grownBy w' gv.ownBlock) (hkeep : ∀ base' u k ys, w.ownsRow base' 67 5 u k ys → k ≤ n → w'.ownsRow base' 67 5 u k ys)
    (hfam : ∀ i, i < l.p.length → (kV l.p i).len ≤ n ∨ ∀ b, (Value.slice (kV l.p i).a (kV l.p i).len (kV l.p i).cap).ownBlock = some b → K0 b) (hn : ∀ b, gv.ownBlock = some b → ¬ K0 b) : LW0 w' K lb pb rb x cnt l := by
  have fr : ∀ {ty : TypeId} {sz m : Nat} {u : Value} {ys : List Value}, OwnsIn K w ty sz u m ys → ty ≠ 67 → OwnsIn K w' ty sz u m ys := fun ho h1 => ho.grown hown hg h1
  refine ⟨qW hown hg h.root (.inl (by decide)), h.kroot, fr h.m (by decide), fr h.p (by decide), fr h.t (by decide), fr h.r (by decide), h.km.map fun _ _ _ h => fr h (by decide), fun i hi => ?_, h.kt.map fun _ _ _ h => fr h (by decide), h.kr.map fun _ _ _ h => fr h (by decide)⟩
  obtain ⟨he, hl⟩ := h.kp i hi
  refine ⟨⟨?_, he.2⟩, hl⟩
  rcases hfam i hi with h1 | h1
  · exact hkeep _ _ _ _ he.1 h1
  · exact kK he.1 fun b hb => hg.block b (World.ownsRow.lt he.1 b hb).2 (fun e => hn b e.symm (h1 b hb))
theorem LW0.addT {w0 w w4 : World} {K : Nat → Prop} {lb pb rb g' cap : Nat} {x : LX} {cnt : Int} {l : LL} {e : Ent} (h : LW0 w0 K lb pb rb x cnt l) (he : EntOk w0 K 72 xT 2 e) (hel : e.len ≤ 1000000000)
    (ho : w4.ownsRow 0 70 2 (.slice (some ⟨g', 0, none⟩) (l.t.length + 1) cap) (l.t.length + 1) (kC l.t ++ e.cells)) (hg : w.grownBy w4 x.t.ownBlock) (hK : K g') (hb : Bw w0 w) :
    w4.heap[lb]? = some (.cells #[.pointer (some ⟨pb, 0, none⟩), .pointer (some ⟨rb, 0, none⟩), .int .i64 cnt, x.m, x.p, x.t, x.r] 42 (0, 0)) ∧
    LW0 (w4.setCell ⟨lb, 5, none⟩ (.slice (some ⟨g', 0, none⟩) (l.t.length + 1) cap)) K lb pb rb { x with t := .slice (some ⟨g', 0, none⟩) (l.t.length + 1) cap } cnt { l with t := l.t ++ [e] } := by
  have h := h.bw hb
  have he : EntOk w K 72 xT 2 e := OwnsIn.frame he fun b _ hl => Below.block hb b hl
  have hr4 := qW h.t.1 hg h.root (.inl (by decide))
  have fr : ∀ {ty : TypeId} {sz m : Nat} {u : Value} {ys : List Value}, OwnsIn K w ty sz u m ys → ty ≠ 70 → ty ≠ 42 → OwnsIn K (w4.setCell ⟨lb, 5, none⟩ (.slice (some ⟨g', 0, none⟩) (l.t.length + 1) cap)) ty sz u m ys := fun ho' h1 h2 => (ho'.grown h.t.1 hg h1).set hr4 h2
  refine ⟨hr4, (qU hr4).trans rfl, h.kroot, fr h.m (by decide) (by decide), fr h.p (by decide) (by decide), ?_, fr h.r (by decide) (by decide), h.km.map fun _ _ _ h => fr h (by decide) (by decide), h.kp.map fun _ _ _ h => fr h (by decide) (by decide), (h.kt.snoc he hel).map fun _ _ _ h => fr h (by decide) (by decide), h.kr.map fun _ _ _ h => fr h (by decide) (by decide)⟩
  refine ⟨?_, fun b hb => ?_⟩
  · rw [entCells_snoc, List.length_append]
    exact qN hr4 ho (by decide)
  · simp only [Value.ownBlock, Option.some.injEq] at hb
    subst hb
    exact hK
theorem LW0.appT {w w' : World} {K K0 : Nat → Prop} {lb pb rb base n : Nat} {x : LX} {cnt : Int} {l : LL} {gv : Value} {xs : List Value} (h : LW0 w K lb pb rb x cnt l) (hown : w.ownsRow base 72 2 gv n xs) (hg : w.grownBy w' gv.ownBlock) (hkeep : ∀ base' u k ys, w.ownsRow base' 72 2 u k ys → k ≤ n → w'.ownsRow base' 72 2 u k ys)
    (hfam : ∀ i, i < l.t.length → (kV l.t i).len ≤ n ∨ ∀ b, (Value.slice (kV l.t i).a (kV l.t i).len (kV l.t i).cap).ownBlock = some b → K0 b) (hn : ∀ b, gv.ownBlock = some b → ¬ K0 b) : LW0 w' K lb pb rb x cnt l := by
  have fr : ∀ {ty : TypeId} {sz m : Nat} {u : Value} {ys : List Value}, OwnsIn K w ty sz u m ys → ty ≠ 72 → OwnsIn K w' ty sz u m ys := fun ho h1 => ho.grown hown hg h1
  refine ⟨qW hown hg h.root (.inl (by decide)), h.kroot, fr h.m (by decide), fr h.p (by decide), fr h.t (by decide), fr h.r (by decide), h.km.map fun _ _ _ h => fr h (by decide), h.kp.map fun _ _ _ h => fr h (by decide), fun i hi => ?_, h.kr.map fun _ _ _ h => fr h (by decide)⟩
  obtain ⟨he, hl⟩ := h.kt i hi
  refine ⟨⟨?_, he.2⟩, hl⟩
  rcases hfam i hi with h1 | h1
  · exact hkeep _ _ _ _ he.1 h1
  · exact kK he.1 fun b hb => hg.block b (World.ownsRow.lt he.1 b hb).2 (fun e => hn b e.symm (h1 b hb))
theorem pt_at {w : World} {base : Nat} {ty : TypeId} {v : Value} {A : List Pt} (h : w.ownsRow base ty 5 v A.length (qR A)) {k : Nat} (hk : k < A.length) : ∃ g, kY v = some ⟨g, 0, none⟩ ∧ g < w.heap.size ∧ w.cell? ⟨g, k * 5, none⟩ = some (.int .i64 (jN A k).node) ∧ w.cell? ⟨g, k * 5 + 1, none⟩ = some (.bool (jN A k).out) ∧ w.cell? ⟨g, k * 5 + 2, none⟩ = some (.int .i64 (jN A k).epoch) ∧ w.cell? ⟨g, k * 5 + 3, none⟩ = some (.int .i64 (jN A k).round) ∧ w.cell? ⟨g, k * 5 + 4, none⟩ = some (.int .i64 (jN A k).count) := by
  obtain ⟨g, e, hl, hc⟩ := qB h (by omega)
  have q : ∀ f, f < 5 → ∀ u, (Pt.cells (jN A k))[f]? = some u → w.cell? ⟨g, k * 5 + f, none⟩ = some u := fun f hf u hu => hc _ _ ((vL (f := Pt.cells) (d := ⟨0, false, 0, 0, 0⟩) (fun _ => rfl) A k hk f hf).trans hu)
  exact ⟨g, e, hl, q 0 (by omega) _ rfl, q 1 (by omega) _ rfl, q 2 (by omega) _ rfl, q 3 (by omega) _ rfl, q 4 (by omega) _ rfl⟩
theorem tm_at {w : World} {base : Nat} {ty : TypeId} {v : Value} {A : List Tm} (h : w.ownsRow base ty 2 v A.length (jY A)) {k : Nat} (hk : k < A.length) : ∃ g, kY v = some ⟨g, 0, none⟩ ∧ g < w.heap.size ∧ w.cell? ⟨g, k * 2, none⟩ = some (.int .i64 (yU A k).e) ∧ w.cell? ⟨g, k * 2 + 1, none⟩ = some (.int .i64 (yU A k).s) := by
  obtain ⟨g, e, hl, hc⟩ := qB h (by omega)
  have q : ∀ f, f < 2 → ∀ u, (Tm.cells (yU A k))[f]? = some u → w.cell? ⟨g, k * 2 + f, none⟩ = some u := fun f hf u hu => hc _ _ ((vL (f := Tm.cells) (d := ⟨0, 0⟩) (fun _ => rfl) A k hk f hf).trans hu)
  exact ⟨g, e, hl, q 0 (by omega) _ rfl, q 1 (by omega) _ rfl⟩
theorem tmsCells_len (a : List Tm) : (jY a).length = a.length * 2 := by
  induction a with
  | nil => rfl
  | cons x l ih => simp only [jY, List.flatMap_cons, List.length_append, List.length_cons] at ih ⊢; rw [ih]; simp [Tm.cells]; omega
theorem ovP_set {n : Int} {k : Nat} {ys : List Value} (hk : k * 5 + 5 ≤ ys.length) : ((((((ovL xP n 5 ys k).set (k * 5) (.int .i64 (-77))).set (k * 5 + 1) (.bool false)).set (k * 5 + 2) (.int .i64 n)).set (k * 5 + 3) (.int .i64 0)).set (k * 5 + 4) (.int .i64 0)) = ovL xP n 5 ys (k + 1) := by
  have hX : (xP n).length = 5 := rfl
  have hfl : ∀ j, (jW xP n j).length = j * 5 := fun j => by simp [jW, xP]
  have hlen : (ovL xP n 5 ys k).length = ys.length := by unfold ovL; rw [List.length_append, List.length_drop, hfl]; omega
  apply List.ext_getElem?
  intro p
  rw [yG hX]
  by_cases h1 : p < k * 5
  · rw [List.getElem?_set_ne (by omega), List.getElem?_set_ne (by omega), List.getElem?_set_ne (by omega), List.getElem?_set_ne (by omega), List.getElem?_set_ne (by omega), yG hX, if_pos h1, if_pos (by omega), jL, List.getElem?_append_left (by rw [hfl]; exact h1)]
  · by_cases h2 : p < (k + 1) * 5
    · rw [if_pos h2, jL, List.getElem?_append_right (by rw [hfl]; omega), hfl]
      have : p = k * 5 ∨ p = k * 5 + 1 ∨ p = k * 5 + 2 ∨ p = k * 5 + 3 ∨ p = k * 5 + 4 := by omega
      rcases this with rfl | rfl | rfl | rfl | rfl
      · rw [List.getElem?_set_ne (by omega), List.getElem?_set_ne (by omega), List.getElem?_set_ne (by omega), List.getElem?_set_ne (by omega), List.getElem?_set_self (by (try simp); omega)]; simp [xP]
      · rw [List.getElem?_set_ne (by omega), List.getElem?_set_ne (by omega), List.getElem?_set_ne (by omega), List.getElem?_set_self (by (try simp); omega)]; simp [xP, show k * 5 + 1 - k * 5 = 1 by omega]
      · rw [List.getElem?_set_ne (by omega), List.getElem?_set_ne (by omega), List.getElem?_set_self (by (try simp); omega)]; simp [xP, show k * 5 + 2 - k * 5 = 2 by omega]
      · rw [List.getElem?_set_ne (by omega), List.getElem?_set_self (by (try simp); omega)]; simp [xP, show k * 5 + 3 - k * 5 = 3 by omega]
      · rw [List.getElem?_set_self (by (try simp); omega)]; simp [xP, show k * 5 + 4 - k * 5 = 4 by omega]
    · rw [if_neg h2, List.getElem?_set_ne (by omega), List.getElem?_set_ne (by omega), List.getElem?_set_ne (by omega), List.getElem?_set_ne (by omega), List.getElem?_set_ne (by omega), yG hX, if_neg h1]
theorem ovT_set {n : Int} {k : Nat} {ys : List Value} (hk : k * 2 + 2 ≤ ys.length) : (((ovL xT n 2 ys k).set (k * 2) (.int .i64 (-77))).set (k * 2 + 1) (.int .i64 n)) = ovL xT n 2 ys (k + 1) := by
  have hX : (xT n).length = 2 := rfl
  have hfl : ∀ j, (jW xT n j).length = j * 2 := fun j => by simp [jW, xT]
  have hlen : (ovL xT n 2 ys k).length = ys.length := by unfold ovL; rw [List.length_append, List.length_drop, hfl]; omega
  apply List.ext_getElem?
  intro p
  rw [yG hX]
  by_cases h1 : p < k * 2
  · rw [List.getElem?_set_ne (by omega), List.getElem?_set_ne (by omega), yG hX, if_pos h1, if_pos (by omega), jL, List.getElem?_append_left (by rw [hfl]; exact h1)]
  · by_cases h2 : p < (k + 1) * 2
    · rw [if_pos h2, jL, List.getElem?_append_right (by rw [hfl]; omega), hfl]
      have : p = k * 2 ∨ p = k * 2 + 1 := by omega
      rcases this with rfl | rfl
      · rw [List.getElem?_set_ne (by omega), List.getElem?_set_self (by (try simp); omega)]; simp [xT]
      · rw [List.getElem?_set_self (by (try simp); omega)]; simp [xT, show k * 2 + 1 - k * 2 = 1 by omega]
    · rw [if_neg h2, List.getElem?_set_ne (by omega), List.getElem?_set_ne (by omega), yG hX, if_neg h1]
theorem lview_any {K : Nat → Prop} {lb pb rb : Nat} {x : LX} {cnt : Int} {l : LL} (ok oa ob oc oh : Int) (A : List Pt) (E : Int) (w : World) (hL : LW w K lb pb rb x cnt l)
    (hp : ∀ w', Bw w w' → Calls Tryz.prog 36 #[.pointer (some ⟨pb, 0, none⟩), .int .i64 oa] w' fun e w'' => ∃ v, e = .returned (.tuple #[v, .int .i64 E]) ∧ OwnP w' w'' v A ∧ Bw w' w'')
    (hr : ∀ w', Bw w w' → Calls Tryz.prog 37 #[.pointer (some ⟨rb, 0, none⟩), .int .i64 oa] w' fun e w'' => ∃ v, e = .returned (.tuple #[v, .int .i64 E]) ∧ OwnP w' w'' v A ∧ Bw w' w'')
    (hA : A.length ≤ 100000000) (hlm : l.p.length + 4 ≤ 900000000) (hcn : 0 ≤ cnt ∧ cnt ≤ 1000000000000) :
    Calls Tryz.prog 19 #[.pointer (some ⟨lb, 0, none⟩), .agg #[.int .i64 ok, .int .i64 oa, .int .i64 ob, .int .i64 oc, .int .i64 oh]] w fun e w' => e = .returned (.bool true) ∧ ∃ x' m', LW w' (fun b => K b ∨ (w.heap.size ≤ b ∧ b < w'.heap.size)) lb pb rb x' (cnt + 1) { l with p := m' } ∧ m'.length = l.p.length + 4 ∧ Chg K w w' := by
  have HL := qJ hL
  have Hp := qJ hp
  have Hr := qJ hr
  have klt := hL.klt
  have c0 := qQ (o := 0) hL.root rfl
  have c1 := qQ (o := 1) hL.root rfl
  have cl := (Array.getElem?_eq_some_iff.1 hL.root).1
  clear hL hp hr
  go_enter Tryz.func19, Tryz.ntmps19
  go_wp2_with fail
  obtain ⟨w0, hw0⟩ : ∃ w0, w.alloc (.cells #[.int .i64 ok, .int .i64 oa, .int .i64 ob, .int .i64 oc, .int .i64 oh] 31) = w0 := ⟨_, rfl⟩
  have hB0 : Bw w w0 := by rw [← hw0]; exact (by repeat first|exact br _|assumption|apply bd|apply bn|apply ba|refine bt ?_ (by assumption))
  have ho0 : w0.heap[w.heap.size]? = some (.cells #[.int .i64 ok, .int .i64 oa, .int .i64 ob, .int .i64 oc, .int .i64 oh] 31 (0, 0)) := by rw [← hw0]; exact heap_alloc_new w _
  rw [hw0]
  clear hw0
  obtain ⟨pq, hpq⟩ : ∃ pq, w.heap.size = pq := ⟨_, rfl⟩
  rw [hpq] at ho0
  rw [hpq]
  have Hcs := qJ (fun (w' : World) (h : Bw w0 w') => (⟨((qS (hB0.trans h)).1 _ 0 cl).trans c0, ((qS (hB0.trans h)).1 _ 1 cl).trans c1, qQ (o := 1) ((Below.block h _ (Array.getElem?_eq_some_iff.1 ho0).1).trans ho0) rfl, qQ (o := 2) ((Below.block h _ (Array.getElem?_eq_some_iff.1 ho0).1).trans ho0) rfl⟩ : w'.cell? ⟨lb, 0, none⟩ = some (.pointer (some ⟨pb, 0, none⟩)) ∧ w'.cell? ⟨lb, 1, none⟩ = some (.pointer (some ⟨rb, 0, none⟩)) ∧ w'.cell? ⟨pq, 1, none⟩ = some (.int .i64 oa) ∧ w'.cell? ⟨pq, 2, none⟩ = some (.int .i64 ob)))
  obtain ⟨s0, s1, s2, s3⟩ := (qK Hcs) w0 (Bw.refl _)
  clear c0 c1
  go_region_held3 (fun w' => w'.cell? ⟨lb, 0, none⟩ = some (.pointer (some ⟨pb, 0, none⟩)) ∧ w'.cell? ⟨lb, 1, none⟩ = some (.pointer (some ⟨rb, 0, none⟩)) ∧ w'.cell? ⟨pq, 1, none⟩ = some (.int .i64 oa) ∧ w'.cell? ⟨pq, 2, none⟩ = some (.int .i64 ob)) (first | go_keep | exact (qK Hcs) _ (by repeat first|exact br _|assumption|apply bd|apply bn|apply ba|refine bt ?_ (by assumption))) ((go_at_call 36; refine ((qK Hp) _ (hB0.trans (by repeat first|exact br _|assumption|apply bd|apply bn|apply ba|refine bt ?_ (by assumption)))).mono ?_; rintro e1 w1 ⟨v, rfl, hov, hb1⟩; obtain ⟨va, vc, hve⟩ : ∃ va vc, v = .slice va A.length vc := ⟨_, _, qV hov⟩; subst hve))
  have hB1 : Bw w0 w1 := (by repeat first|exact br _|assumption|apply bd|apply bn|apply ba|refine bt ?_ (by assumption))
  obtain ⟨t0, t1, t2, t3⟩ := (qK Hcs) w1 hB1
  clear s0 s1 s2 s3
  go_wp2_with fail
  go_region_held3 (fun w' => w'.cell? ⟨lb, 0, none⟩ = some (.pointer (some ⟨pb, 0, none⟩)) ∧ w'.cell? ⟨lb, 1, none⟩ = some (.pointer (some ⟨rb, 0, none⟩)) ∧ w'.cell? ⟨pq, 1, none⟩ = some (.int .i64 oa) ∧ w'.cell? ⟨pq, 2, none⟩ = some (.int .i64 ob)) (first | go_keep | exact (qK Hcs) _ (hB1.trans (by repeat first|exact br _|assumption|apply bd|apply bn|apply ba|refine bt ?_ (by assumption)))) ((go_at_call 37; refine ((qK Hr) _ (hB0.trans (hB1.trans (by repeat first|exact br _|assumption|apply bd|apply bn|apply ba|refine bt ?_ (by assumption))))).mono ?_; rintro e2 w2 ⟨u, rfl, hou, hb2⟩; obtain ⟨ua, uc, hue⟩ : ∃ ua uc, u = .slice ua A.length uc := ⟨_, _, qV hou⟩; subst hue))
  have hB2 : Bw w1 w2 := (by repeat first|exact br _|assumption|apply bd|apply bn|apply ba|refine bt ?_ (by assumption))
  clear t0 t1 t2 t3
  go_wp2_with fail
  have hov2 := hov.bw hB2
  go_loopw [9, 10] (fun okv i wr => ∃ k : Nat, k ≤ A.length ∧ i = .int .i64 k ∧ okv = .bool true ∧ Bw w2 wr) (fun _ i _ => A.length - (intOf i).toNat)
  case atStart => exact ⟨0, Nat.zero_le _, rfl, rfl, Bw.refl _⟩
  case round =>
    obtain ⟨k, hk, rfl, rfl, hB3⟩ := hrel
    rename World => w3
    by_cases hlt : k < A.length
    · obtain ⟨g, eg, hgl, z0, z1, z2, z3, z4⟩ := pt_at (hov2.bw hB3) hlt
      obtain ⟨g2, eg2, hgl2, y0, y1, y2, y3, y4⟩ := pt_at (hou.bw hB3) hlt
      simp only [kY] at eg eg2
      subst eg eg2
      have hk1 : (k : Int) < (A.length : Int) := by omega
      generalize jN A k = y at *
      go_wp2_with fail
      go_quiet (fail)
      go_wp2_with fail
      go_roundw
      case rel => exact ⟨k + 1, by omega, by go_num, by simp, (by repeat first|exact br _|assumption|apply bd|apply bn|apply ba|refine bt ?_ (by assumption))⟩
      case measure => simp [intOf]; omega
    · have hkk : k = A.length := by omega
      subst hkk
      have hB03 : Bw w w3 := hB0.trans (hB1.trans (hB2.trans hB3))
      have hL3 := (qK HL).bw hB03
      have r2 := qQ (o := 2) hL3.root rfl
      have r2f := qZ (o := 2) hL3.root
      have r2l := (Array.getElem?_eq_some_iff.1 hL3.root).1
      have HL4 := qJ (hL3.setCnt (c := cnt + 1))
      have hov3 : OwnP w w3 (.slice va A.length vc) A := (hov2.bw hB3).weaken (hB0.trans (by repeat first|exact br _|assumption|apply bd|apply bn|apply ba|refine bt ?_ (by assumption)))
      have hov4 := vX hov3 hL3.root (qP w3 lb 2 (.int .i64 (cnt + 1))) (by decide)
      clear hL3 hou hov hov2
      go_wp2_with fail
      have hz03 := hB03.size
      obtain ⟨w5, hw5⟩ : ∃ w5, (w3.setCell ⟨lb, 2, none⟩ (.int .i64 (cnt + 1))).alloc (.cells #[.int .i64 (-77), .bool false, .int .i64 (cnt + 1), .int .i64 0, .int .i64 0] 67) = w5 := ⟨_, rfl⟩
      have hszs : (w3.setCell ⟨lb, 2, none⟩ (.int .i64 (cnt + 1))).heap.size = w3.heap.size := by simp
      have hb5 : Bw (w3.setCell ⟨lb, 2, none⟩ (.int .i64 (cnt + 1))) w5 := by rw [← hw5]; exact (by repeat first|exact br _|assumption|apply bd|apply bn|apply ba|refine bt ?_ (by assumption))
      have hx5 : w5.heap[w3.heap.size]? = some (.cells #[.int .i64 (-77), .bool false, .int .i64 (cnt + 1), .int .i64 0, .int .i64 0] 67 (0, 0)) := by rw [← hw5, ← hszs]; exact heap_alloc_new _ _
      have hL5 := (qK HL4).bw hb5
      have hov5 := qX hov4 fun g hg => Below.block hb5 g hg
      have hC5 : Chg K w w5 := ((Chg.bw (S := K) hB03).trans (qP w3 lb 2 (.int .i64 (cnt + 1))) (fun b h => .inl (h ▸ (qK HL).kroot))).trans (Chg.bw (S := K) hb5) (fun _ h => .inl h)
      have hgx : ∀ b, (Value.slice va A.length vc).ownBlock = some b → w.heap.size ≤ b ∧ b < w3.heap.size := fun b hb => World.ownsRow.lt hov3 b hb
      rw [hw5]
      obtain ⟨xb, hxb⟩ : ∃ xb, w3.heap.size = xb := ⟨_, rfl⟩
      rw [hxb] at hx5 hgx hz03
      rw [hxb]
      obtain ⟨nn, hnn⟩ : ∃ nn, cnt + 1 = nn := ⟨_, rfl⟩
      have hnb : 0 ≤ nn ∧ nn ≤ 1000000000001 := by omega
      rw [hnn] at hx5 hL5
      rw [hnn]
      have Hnn := qJ hnn
      clear hw5 hxb hnn hov4 hov3 HL4 hb5 hszs r2 r2f r2l hB3 hB2 hB1
      have hgl3 := zB A
      go_loopw [12] (fun i wr => ∃ k : Nat, k ≤ A.length ∧ i = .int .i64 k ∧ LW wr K lb pb rb x nn l ∧ wr.ownsRow w.heap.size 67 5 (.slice va A.length vc) A.length (ovL xP nn 5 (qR A) k) ∧ wr.heap[xb]? = some (.cells #[.int .i64 (-77), .bool false, .int .i64 nn, .int .i64 0, .int .i64 0] 67 (0, 0)) ∧ Chg K w wr) (fun i _ => A.length - (intOf i).toNat)
      case atStart => exact ⟨0, Nat.zero_le _, rfl, hL5, by rw [ovL_zero]; exact hov5, hx5, hC5⟩
      case round =>
        clear hL5 hov5 hx5 hC5
        obtain ⟨k, hk, rfl, hLr, hor, hxr, hCr⟩ := hrel
        rename World => wr
        have x0 := qQ (o := 0) hxr rfl
        have x1 := qQ (o := 1) hxr rfl
        have x2 := qQ (o := 2) hxr rfl
        have x3 := qQ (o := 3) hxr rfl
        have x4 := qQ (o := 4) hxr rfl
        have xl := (Array.getElem?_eq_some_iff.1 hxr).1
        by_cases hlt : k < A.length
        · obtain ⟨g, eg, hgl, hcc⟩ := qB hor (by omega)
          simp only [kY] at eg
          subst eg
          obtain ⟨hg1, hg2⟩ := hgx g rfl
          have hol : (ovL xP nn 5 (qR A) k).length = A.length * 5 := by
            unfold ovL; rw [List.length_append, List.length_drop, hgl3]; simp [jW, xP]; omega
          have ex : ∀ q, q < A.length * 5 → ∃ u, wr.cell? ⟨g, q, none⟩ = some u := fun q hq => ⟨_, hcc q _ (List.getElem?_eq_getElem (by omega))⟩
          obtain ⟨u0, z0⟩ := ex (k * 5) (by omega)
          obtain ⟨u1, z1⟩ := ex (k * 5 + 1) (by omega)
          obtain ⟨u2, z2⟩ := ex (k * 5 + 2) (by omega)
          obtain ⟨u3, z3⟩ := ex (k * 5 + 3) (by omega)
          obtain ⟨u4, z4⟩ := ex (k * 5 + 4) (by omega)
          obtain ⟨cur, hcur⟩ := jZ hor (b := g) rfl
          have zf := fun q => qZ (o := q) hcur
          have hk1 : (k : Int) < (A.length : Int) := by omega
          have hgx2 : ¬ xb = g := by omega
          have hnK : ∀ b, K b → ¬ b = g := fun b hb e => by have := klt b hb; omega
          have Hrest := qJ (⟨hLr, hor, hxr, hCr⟩ : LW wr K lb pb rb x nn l ∧ wr.ownsRow w.heap.size 67 5 (.slice (some ⟨g, 0, none⟩) A.length vc) A.length (ovL xP nn 5 (qR A) k) ∧ wr.heap[xb]? = some (.cells #[.int .i64 (-77), .bool false, .int .i64 nn, .int .i64 0, .int .i64 0] 67 (0, 0)) ∧ Chg K w wr)
          clear hLr hor hxr hCr hcc hcur ex
          go_wp2_with fail
          go_roundw
          case rel =>
            obtain ⟨hLr, hor, hxr, hCr⟩ := qK Hrest
            have hc3 : Chg (fun b => b = g) wr (((((wr.setCell ⟨g, k * 5, none⟩ (.int .i64 (-77))).setCell ⟨g, k * 5 + 1, none⟩ (.bool false)).setCell ⟨g, k * 5 + 2, none⟩ (.int .i64 nn)).setCell ⟨g, k * 5 + 3, none⟩ (.int .i64 0)).setCell ⟨g, k * 5 + 4, none⟩ (.int .i64 0)) := (((((qP _ _ _ _).trans (qP _ _ _ _) (fun _ h => .inl h)).trans (qP _ _ _ _) (fun _ h => .inl h)).trans (qP _ _ _ _) (fun _ h => .inl h)).trans (qP _ _ _ _) (fun _ h => .inl h))
            refine ⟨k + 1, by omega, by go_num, hLr.other hc3 hnK, ?_, (hc3.block xb xl hgx2).trans hxr, hCr.trans hc3 (fun b h => .inr (h ▸ hg1))⟩
            rw [← ovP_set (by omega)]
            exact (kP (kP (kP (kP (kP hor (by (try simp); omega)) (by (try simp); omega)) (by (try simp); omega)) (by (try simp); omega)) (by (try simp); omega))
          case measure => simp [intOf]; omega
        · have hkk : k = A.length := by omega
          subst hkk
          rw [ovL_all (by omega)] at hor
          obtain ⟨ma, mc, hme⟩ : ∃ ma mc, x.p = .slice ma l.p.length mc := ⟨_, _, qV hLr.p.1⟩
          have hroot := hLr.root
          rw [hme] at hroot
          have r3 := qQ (o := 4) hroot rfl
          have r2 := qQ (o := 2) hroot rfl
          have rl := (Array.getElem?_eq_some_iff.1 hroot).1
          have Hfam := qJ (fun i (hi : i < l.p.length) => (.inr fun b hb => (hLr.kp i hi).1.2 b hb : (kV l.p i).len ≤ A.length ∨ ∀ b, (Value.slice (kV l.p i).a (kV l.p i).len (kV l.p i).cap).ownBlock = some b → K b))
          have HL0 := qJ (hLr.to0 w.heap.size)
          have Hor := qJ hor
          have Hxr := qJ hxr
          have Hme := qJ hme
          have hzr := hCr.size
          clear hLr hor hxr hroot hme x0 x1 x2 x3 x4
          go_wp2_with fail
          go_region_law (refine yT rfl _ _ _ 65 rfl _ 2 32 Tryz.infoBel Tryz.underlying38 rfl (by decide) 0 (.slice ma l.p.length mc) l.p.length (kC l.p) rfl (qX ((qK Hme) ▸ (qK HL0).p.1) fun g hg => Below.block (show Bw wr _ from (by repeat first|exact br _|assumption|apply bd|apply bn|apply ba|refine bt ?_ (by assumption))) g hg) _ _ (Ent.cells ⟨va, A.length, vc, nn⟩) rfl rfl (xD (qQ (qY _ _ (by simp)) rfl) (qQ (qY _ _ (by simp)) rfl)) (one2 _) (by omega) (by omega) (Nat.zero_le _) ?_; intro g' cap w7 ho7 hg7 hl7; have Hadd := qJ ((qK HL0).addP (e := ⟨va, A.length, vc, nn⟩) ⟨qM (qK Hor) (Nat.zero_le _), fun b hb => .inr (hgx b hb).1⟩ (by simp only; omega) ho7 ((qK Hme).symm ▸ hg7) (by rcases hl7 with h | h; exact (qK HL0).p.2 _ (by rw [qK Hme]; exact h); exact .inr (by rw [h]; exact Nat.le_trans hzr (Bw.size (show Bw wr _ from (by repeat first|exact br _|assumption|apply bd|apply bn|apply ba|refine bt ?_ (by assumption)))))) (show Bw wr _ from (by repeat first|exact br _|assumption|apply bd|apply bn|apply ba|refine bt ?_ (by assumption)))); have q3 := qQ (o := 4) (qK Hadd).1 rfl; have q3f := qZ (o := 4) (qK Hadd).1; have q3l := (Array.getElem?_eq_some_iff.1 (qK Hadd).1).1)
          all_goals (
            obtain ⟨_, hL8⟩ := qK Hadd
            have hw7 := (qK Hadd).1
            have hbY : Bw wr (wr.alloc (.cells #[.slice va A.length vc, .int .i64 nn] 65)).drew := (by repeat first|exact br _|assumption|apply bd|apply bn|apply ba|refine bt ?_ (by assumption))
            have hm7 := qX ((qK Hme) ▸ (qK HL0).p.1) fun g hg => Below.block hbY g hg
            have hor8 := qN (k := 4) (u := .slice (some ⟨g', 0, none⟩) (l.p.length + 1) cap) hw7 (kQ hm7 hg7 (qX (qK Hor) fun g hg => Below.block hbY g hg) (by decide)) (by decide)
            have hxr8 := yZ (k := 4) (u := .slice (some ⟨g', 0, none⟩) (l.p.length + 1) cap) hw7 (qW hm7 hg7 ((Below.block hbY _ xl).trans (qK Hxr)) (.inl (by decide))) (by decide)
            have hC8 : Chg K w (w7.setCell ⟨lb, 4, none⟩ (.slice (some ⟨g', 0, none⟩) (l.p.length + 1) cap)) := by
              have k1 : Chg K w (wr.alloc (.cells #[.slice va A.length vc, .int .i64 nn] 65)).drew := hCr.trans (Chg.bw (S := K) hbY) (fun _ h => .inl h)
              have k2 : Chg (fun b => (Value.slice ma l.p.length mc).ownBlock = some b) (wr.alloc (.cells #[.slice va A.length vc, .int .i64 nn] 65)).drew w7 := ⟨hg7.os, hg7.tape, hg7.output, hg7.size, fun i hi hn => hg7.block i hi (fun e => hn e.symm)⟩
              exact (k1.trans k2 (fun b hb => (qK HL0).p.2 b (by rw [qK Hme]; exact hb))).trans (qP _ _ _ _) (fun b h => (qK HL0).kroot.imp (fun hk => h ▸ hk) (fun hk => h ▸ hk))
            obtain ⟨w8, hw8⟩ : ∃ w8, w7.setCell ⟨lb, 4, none⟩ (.slice (some ⟨g', 0, none⟩) (l.p.length + 1) cap) = w8 := ⟨_, rfl⟩
            rw [hw8] at hL8 hor8 hxr8 hC8
            simp only [hw8]
            clear hw8 hw7 hm7 Hadd q3 q3f q3l ho7 hg7 hl7 hbY
            have Hfam8 := qJ (fam_snoc (e := ⟨va, A.length, vc, nn⟩) (qK Hfam) (Nat.le_refl _))
            go_wp2_with fail
            go_loopw [13, 14] (fun gv i wr => ∃ (j : Nat) (ga : Option Addr) (gc : Nat) (x' : LX) (m' : List Ent), j ≤ 3 ∧ i = .int .i64 j ∧ gv = .slice ga (A.length + j) gc ∧ LW0 wr (fun b => K b ∨ w.heap.size ≤ b) lb pb rb x' nn { l with p := m' } ∧ m'.length = l.p.length + 1 + j ∧ wr.ownsRow w.heap.size 67 5 (.slice ga (A.length + j) gc) (A.length + j) (jW xP nn (A.length + j)) ∧ wr.heap[xb]? = some (.cells #[.int .i64 (-77), .bool false, .int .i64 nn, .int .i64 0, .int .i64 0] 67 (0, 0)) ∧ Chg K w wr ∧ (∀ b, (Value.slice ga (A.length + j) gc).ownBlock = some b → b ≠ xb) ∧ ∀ i, i < m'.length → (kV m' i).len ≤ A.length + j ∨ ∀ b, (Value.slice (kV m' i).a (kV m' i).len (kV m' i).cap).ownBlock = some b → K b) (fun _ i _ => 3 - (intOf i).toNat)
            case atStart => exact ⟨0, va, vc, _, _, by omega, rfl, rfl, hL8, by simp, hor8, hxr8, hC8, fun b hb => by have := hgx b hb; omega, qK Hfam8⟩
            case round =>
              clear hL8 hor8 hxr8 hC8 Hfam8
              obtain ⟨j, ga, gc, x', m', hj, rfl, rfl, hLr, hml, hor, hxr, hCr, hnx, hfam⟩ := hrel
              rename World => wr
              have Hml := qJ hml
              have hmle : m'.length ≤ 900000000 := by omega
              clear hml
              have x0 := qQ (o := 0) hxr rfl
              have x1 := qQ (o := 1) hxr rfl
              have x2 := qQ (o := 2) hxr rfl
              have x3 := qQ (o := 3) hxr rfl
              have x4 := qQ (o := 4) hxr rfl
              have xl := (Array.getElem?_eq_some_iff.1 hxr).1
              have hzr := hCr.size
              obtain ⟨ma, mc, hme⟩ : ∃ ma mc, x'.p = .slice ma m'.length mc := ⟨_, _, qV hLr.p.1⟩
              by_cases hlt : j < 3
              · have hj1 : decide ((j : Int) < 3) = true := by simp; omega
                have hnK : ∀ b, (Value.slice ga (A.length + j) gc).ownBlock = some b → ¬ K b := fun b hb hk => by have h1 := klt b hk; have h2 := (World.ownsRow.lt hor b hb).1; omega
                have Hm := qJ (⟨hLr, hor, hxr, hCr, hfam⟩ : LW0 wr (fun b => K b ∨ w.heap.size ≤ b) lb pb rb x' nn { l with p := m' } ∧ wr.ownsRow w.heap.size 67 5 (.slice ga (A.length + j) gc) (A.length + j) (jW xP nn (A.length + j)) ∧ wr.heap[xb]? = some (.cells #[.int .i64 (-77), .bool false, .int .i64 nn, .int .i64 0, .int .i64 0] 67 (0, 0)) ∧ Chg K w wr ∧ ∀ i, i < m'.length → (kV m' i).len ≤ A.length + j ∨ ∀ b, (Value.slice (kV m' i).a (kV m' i).len (kV m' i).cap).ownBlock = some b → K b)
                have Hme := qJ hme
                clear hLr hor hxr hCr hfam hme
                go_wp2_with (at_builtin; refine appK _ rfl _ _ _ 67 rfl _ 5 40 Tryz.infoPoint Tryz.underlying63 rfl (by decide) w.heap.size (.slice ga (A.length + j) gc) (A.length + j) (jW xP nn (A.length + j)) rfl (qX (qK Hm).2.1 fun g hg => Below.block (show Bw wr _ from (by repeat first|exact br _|assumption|apply bd|apply bn|apply ba|refine bt ?_ (by assumption))) g hg) _ _ (Pt.cells ⟨-77, false, nn, 0, 0⟩) rfl rfl (xV (qQ (qY _ _ (by simp)) rfl) (qQ (qY _ _ (by simp)) rfl) (qQ (qY _ _ (by simp)) rfl) (qQ (qY _ _ (by simp)) rfl) (qQ (qY _ _ (by simp)) rfl)) (pt_one _) (by omega) (by omega) (Nat.le_trans hzr (Bw.size (show Bw wr _ from (by repeat first|exact br _|assumption|apply bd|apply bn|apply ba|refine bt ?_ (by assumption))))) ?_; intro g9 cap9 w9 ho9 hg9 hl9 hk9)
                obtain ⟨hLr, hor, hxr, hCr, hfam⟩ := qK Hm
                obtain ⟨wY, hwY, hbY⟩ : ∃ wY, wY = wr.alloc (.cells #[.int .i64 (-77), .bool false, .int .i64 nn, .int .i64 0, .int .i64 0] 67) ∧ Bw wr wY := ⟨_, rfl, (by repeat first|exact br _|assumption|apply bd|apply bn|apply ba|refine bt ?_ (by assumption))⟩
                rw [← hwY] at hg9 hl9 hk9
                have horY := qX hor fun g hg => Below.block hbY g hg
                have hL9 := (hLr.bw hbY).appP (K0 := K) horY hg9 hk9 hfam hnK
                have hx9 : w9.heap[xb]? = some (.cells #[.int .i64 (-77), .bool false, .int .i64 nn, .int .i64 0, .int .i64 0] 67 (0, 0)) := (hg9.block xb (Nat.lt_of_lt_of_le xl hbY.size) (fun e => hnx xb e.symm rfl)).trans ((Below.block hbY _ xl).trans hxr)
                have hzY := hbY.size
                have hC9 : Chg K w w9 := by
                  have k1 : Chg K w wY := hCr.trans (Chg.bw (S := K) hbY) (fun _ h => .inl h)
                  have k2 : Chg (fun b => (Value.slice ga (A.length + j) gc).ownBlock = some b) wY w9 := ⟨hg9.os, hg9.tape, hg9.output, hg9.size, fun i hi hn => hg9.block i hi (fun e => hn e.symm)⟩
                  exact k1.trans k2 (fun b hb => .inr (World.ownsRow.lt horY b hb).1)
                have ho9' : w9.ownsRow w.heap.size 67 5 (.slice (some ⟨g9, 0, none⟩) (A.length + j + 1) cap9) (A.length + j + 1) (jW xP nn (A.length + j + 1)) := by rw [jL]; exact ho9
                have hg9n : g9 ≠ xb ∧ w.heap.size ≤ g9 := by
                  refine ⟨?_, (World.ownsRow.lt ho9 g9 rfl).1⟩
                  rcases hl9 with h | h
                  · exact hnx _ h
                  · omega
                have hfam9 : ∀ i, i < m'.length → (kV m' i).len ≤ A.length + j + 1 ∨ ∀ b, (Value.slice (kV m' i).a (kV m' i).len (kV m' i).cap).ownBlock = some b → K b := fun i hi => (hfam i hi).imp (fun h => by omega) id
                have hroot := hL9.root
                rw [qK Hme] at hroot
                have r3 := qQ (o := 4) hroot rfl
                have r2 := qQ (o := 2) hroot rfl
                have rl := (Array.getElem?_eq_some_iff.1 hroot).1
                have HL9 := qJ hL9
                have Ho9 := qJ ho9'
                have Hx9 := qJ hx9
                have HC9 := qJ hC9
                have Hfam9 := qJ hfam9
                have hz9 := hC9.size
                clear hLr hor hxr hCr hfam horY hL9 hx9 hC9 ho9' ho9 hg9 hl9 hk9 hwY hbY hzY hroot Hm x0 x1 x2 x3 x4 xl hzr hfam9
                go_region_law (refine yT rfl _ _ _ 65 rfl _ 2 32 Tryz.infoBel Tryz.underlying38 rfl (by decide) 0 (.slice ma m'.length mc) m'.length (kC m') rfl (qX ((qK Hme) ▸ (qK HL9).p.1) fun g hg => Below.block (show Bw w9 _ from (by repeat first|exact br _|assumption|apply bd|apply bn|apply ba|refine bt ?_ (by assumption))) g hg) _ _ (Ent.cells ⟨some ⟨g9, 0, none⟩, A.length + j + 1, cap9, nn⟩) rfl rfl (xD (qQ (qY _ _ (by simp)) rfl) (qQ (qY _ _ (by simp)) rfl)) (one2 _) (by omega) (by omega) (Nat.zero_le _) ?_; intro g' cap w7 ho7 hg7 hl7; have Hadd := qJ ((qK HL9).addP (e := ⟨some ⟨g9, 0, none⟩, A.length + j + 1, cap9, nn⟩) ⟨qM (qK Ho9) (Nat.zero_le _), fun b hb => .inr (by simp only [Value.ownBlock, Option.some.injEq] at hb; exact hb ▸ hg9n.2)⟩ (by simp only; omega) ho7 ((qK Hme).symm ▸ hg7) (by rcases hl7 with h | h; exact (qK HL9).p.2 _ (by rw [qK Hme]; exact h); exact .inr (by rw [h]; exact Nat.le_trans hz9 (Bw.size (show Bw w9 _ from (by repeat first|exact br _|assumption|apply bd|apply bn|apply ba|refine bt ?_ (by assumption)))))) (show Bw w9 _ from (by repeat first|exact br _|assumption|apply bd|apply bn|apply ba|refine bt ?_ (by assumption)))); have q3 := qQ (o := 4) (qK Hadd).1 rfl; have q3f := qZ (o := 4) (qK Hadd).1; have q3l := (Array.getElem?_eq_some_iff.1 (qK Hadd).1).1)
                all_goals (
                  have Hfin := qJ (⟨hg7, qK Hadd⟩ : _ ∧ _)
                  go_wp2_with fail
                  go_roundw
                  case rel =>
                    obtain ⟨hg7, hw7, hL8⟩ := qK Hfin
                    have hbY : Bw w9 (w9.alloc (.cells #[.slice (some ⟨g9, 0, none⟩) (A.length + j + 1) cap9, .int .i64 nn] 65)).drew := (by repeat first|exact br _|assumption|apply bd|apply bn|apply ba|refine bt ?_ (by assumption))
                    have hm7 := qX ((qK Hme) ▸ (qK HL9).p.1) fun g hg => Below.block hbY g hg
                    have hor8 := qN (k := 4) (u := .slice (some ⟨g', 0, none⟩) (m'.length + 1) cap) hw7 (kQ hm7 hg7 (qX (qK Ho9) fun g hg => Below.block hbY g hg) (by decide)) (by decide)
                    have xl := (Array.getElem?_eq_some_iff.1 (qK Hx9)).1
                    have hxr8 := yZ (k := 4) (u := .slice (some ⟨g', 0, none⟩) (m'.length + 1) cap) hw7 (qW hm7 hg7 ((Below.block hbY _ xl).trans (qK Hx9)) (.inl (by decide))) (by decide)
                    refine ⟨j + 1, some ⟨g9, 0, none⟩, cap9, _, _, by omega, by go_num, rfl, hL8, by have := qK Hml; simp; omega, hor8, hxr8, ?_, ?_, fam_snoc (e := ⟨some ⟨g9, 0, none⟩, A.length + j + 1, cap9, nn⟩) (qK Hfam9) (Nat.le_refl _)⟩
                    · have k1 : Chg K w (w9.alloc (.cells #[.slice (some ⟨g9, 0, none⟩) (A.length + j + 1) cap9, .int .i64 nn] 65)).drew := (qK HC9).trans (Chg.bw (S := K) hbY) (fun _ h => .inl h)
                      have k2 : Chg (fun b => (Value.slice ma m'.length mc).ownBlock = some b) (w9.alloc (.cells #[.slice (some ⟨g9, 0, none⟩) (A.length + j + 1) cap9, .int .i64 nn] 65)).drew w7 := ⟨hg7.os, hg7.tape, hg7.output, hg7.size, fun i hi hn => hg7.block i hi (fun e => hn e.symm)⟩
                      exact (k1.trans k2 (fun b hb => (qK HL9).p.2 b (by rw [qK Hme]; exact hb))).trans (qP _ _ _ _) (fun b h => (qK HL9).kroot.imp (fun hk => h ▸ hk) (fun hk => h ▸ hk))
                    · intro b hb
                      simp only [Value.ownBlock, Option.some.injEq] at hb
                      exact hb ▸ hg9n.1
                  case measure => simp [intOf]; omega)
              · have hj3 : j = 3 := by omega
                subst hj3
                have HLr := qJ hLr
                have HCr := qJ hCr
                clear hLr hor hxr hCr hfam x0 x1 x2 x3 x4 hnx
                go_wp2_with (go_at_call 16; refine (num_any _ _).mono ?_; rintro en wn ⟨rfl, rfl⟩)
                go_ret
                have hml := qK Hml
                have hnn := qK Hnn
                subst hnn
                exact ⟨rfl, x', m', (qK HLr).done klt (qK HCr).size ⟨(qK HL).few.1, by simp only; omega, (qK HL).few.2.2⟩, by omega, qK HCr⟩)
end Go.Proofs.YtfemleimkbjehaaGreat
