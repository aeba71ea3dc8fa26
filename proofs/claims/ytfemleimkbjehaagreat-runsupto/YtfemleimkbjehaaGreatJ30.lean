import Derived.Test.YtfemleimkbjehaaGreatJ29
import Derived.Test.YtfemleimkbjehaaGreatJ20
set_option maxRecDepth 1000000
set_option maxHeartbeats 40000000
set_option linter.unusedVariables false
set_option linter.unusedSimpArgs false
namespace Go.Proofs.YtfemleimkbjehaaGreat
open Go.RowKit
/-- The cells of a tally are set. -/
theorem PRow.setTl {w : World} {S : Nat → Prop} {warr arr' : Array Value} {L W i m : Nat} {st : PSt} {f : Nat → Value} (h : PRow w S warr L W st) (hL : L ≤ 8) (hi : i < W) (hm : m < L) (hs : arr'.size = warr.size) (ho : ∀ p, (p < i * 3684 + 32 + m * 408 ∨ i * 3684 + 32 + m * 408 + 408 ≤ p) → arr'[p]? = warr[p]?) (hT : ∀ k, k < 408 → arr'[i * 3684 + 32 + m * 408 + k]? = some (f k)) (hn : ∀ k, k < 408 → Value.ownBlock (f k) = none) : PRow w S arr' L W { st with tl := kF st.tl i m f } := by
  have far : ∀ a r, r < 3684 → (a ≠ i ∨ r < 32 + m * 408 ∨ 32 + m * 408 + 408 ≤ r) → (a * 3684 + r < i * 3684 + 32 + m * 408 ∨ i * 3684 + 32 + m * 408 + 408 ≤ a * 3684 + r) := by
    intro a r hr h1
    by_cases e : a = i
    · subst e; omega
    · rcases Nat.lt_or_gt_of_ne e with h2 | h2
      · have := Nat.mul_le_mul_right 3684 (show a + 1 ≤ i from h2); rw [Nat.add_mul] at this; omega
      · have := Nat.mul_le_mul_right 3684 (show i + 1 ≤ a from h2); rw [Nat.add_mul] at this; omega
  refine h.plain (Q := fun p => i * 3684 + 32 + m * 408 ≤ p ∧ p < i * 3684 + 32 + m * 408 + 408) hL hs (fun p hp => ho p (by omega)) (fun p v hp hv => ?_) (fun a ha => ⟨fun n hn' e => ?_, fun j hj e => ?_⟩) (fun a b ha hb => ⟨?_, ?_⟩) (fun a b ha hb k hk => ?_) (fun a ha k hk => ?_) rfl rfl rfl
  · have h1 := hT (p - (i * 3684 + 32 + m * 408)) (by omega)
    rw [show i * 3684 + 32 + m * 408 + (p - (i * 3684 + 32 + m * 408)) = p by omega, hv] at h1
    simp at h1; subst h1; exact hn _ (by omega)
  · have := far a (16 + n) (by omega) (by omega); omega
  · have := far a (3680 + j) (by omega) (by omega); omega
  · rw [ho _ (by have := far a (b * 2) (by omega) (by omega); omega)]; exact (h.src a b ha hb).1
  · rw [ho _ (by have := far a (b * 2 + 1) (by omega) (by omega); omega)]; exact (h.src a b ha hb).2
  · by_cases e : a = i ∧ b = m
    · obtain ⟨rfl, rfl⟩ := e
      simp only [yF]
      exact hT k hk
    · simp only [upd2_ne _ _ e]
      rw [ho _ (by have := far a (32 + b * 408 + k) (by omega) (by omega); omega)]; exact h.tal a b ha hb k hk
  · rw [ho _ (by have := far a (3296 + k) (by omega) (by omega); omega)]; exact h.bel a ha k hk
theorem tal_none {ns : List Nd} {R B : Nat} {p : PSt} (h : PInv ns R p B) {a b : Nat} (hk : (qT ns b).kind = 6) : ∀ k, k < 408 → Value.ownBlock (p.tl a b k) = none := by
  intro k hk4
  by_cases h1 : k < 24
  · obtain ⟨t, e⟩ := h.wn a b k h1; rw [e]; rfl
  · have h2 := h.gs a b hk ((k - 24) / 64) ((k - 24) % 64 / 16) ((k - 24) % 8) (by omega) (by omega) (by omega)
    by_cases h3 : (k - 24) % 16 < 8
    · obtain ⟨t, e⟩ := h2.1
      rw [show 24 + (k - 24) / 64 * 64 + (k - 24) % 64 / 16 * 16 + (k - 24) % 8 = k by omega] at e
      rw [e]; rfl
    · obtain ⟨t, e⟩ := h2.2
      rw [show 24 + (k - 24) / 64 * 64 + (k - 24) % 64 / 16 * 16 + 8 + (k - 24) % 8 = k by omega] at e
      rw [e]; rfl
theorem add_cells {arr : Array Value} {o e s g : Nat} {v q : Int} {f : Nat → Value} (he : e < 6) (hs4 : s < 4) (hg : (v % q).toNat = g) (hg8 : g < 8) (h : ∀ k, k < 408 → arr[o + k]? = some (f k)) : ∀ k, k < 408 → (((arr.setIfInBounds (o + 24 + e * 64 + s * 16 + g) (.int .i64 (wrap64 (intOf (f (24 + e * 64 + s * 16 + g)) + v)))).setIfInBounds (o + 24 + e * 64 + s * 16 + 8 + g) (.bool true)).setIfInBounds (o + e * 4 + s) (.bool true))[o + k]? = some (talAdd f e s v q k) := by
  intro k hk
  have hz : o + k < arr.size := (Array.getElem?_eq_some_iff.1 (h k hk)).1
  unfold talAdd
  rw [hg]
  by_cases e1 : k = e * 4 + s
  · subst e1
    rw [if_pos rfl, ← Nat.add_assoc, Array.getElem?_setIfInBounds_self_of_lt (by simp; omega)]
  · rw [if_neg e1, Array.getElem?_setIfInBounds_ne (by omega)]
    by_cases e2 : k = 24 + e * 64 + s * 16 + 8 + g
    · rw [if_pos e2, show o + k = o + 24 + e * 64 + s * 16 + 8 + g by omega, Array.getElem?_setIfInBounds_self_of_lt (by simp; omega)]
    · rw [if_neg e2, Array.getElem?_setIfInBounds_ne (by omega)]
      by_cases e3 : k = 24 + e * 64 + s * 16 + g
      · rw [if_pos e3, show o + k = o + 24 + e * 64 + s * 16 + g by omega, Array.getElem?_setIfInBounds_self_of_lt (by omega)]
      · rw [if_neg e3, Array.getElem?_setIfInBounds_ne (by omega)]
        exact h k hk
theorem take_cells {arr : Array Value} {o e s : Nat} {f : Nat → Value} (he : e < 6) (hs4 : s < 4) (h : ∀ k, k < 408 → arr[o + k]? = some (f k)) : ∀ k, k < 408 → ((setL arr (o + 24 + e * 64 + s * 16) [.int .i64 0, .int .i64 0, .int .i64 0, .int .i64 0, .int .i64 0, .int .i64 0, .int .i64 0, .int .i64 0, .bool false, .bool false, .bool false, .bool false, .bool false, .bool false, .bool false, .bool false]).setIfInBounds (o + e * 4 + s) (.bool false))[o + k]? = some (yH f e s k) := by
  intro k hk
  have hz : o + k < arr.size := (Array.getElem?_eq_some_iff.1 (h k hk)).1
  have hz2 : o + 407 < arr.size := (Array.getElem?_eq_some_iff.1 (h 407 (by omega))).1
  unfold yH
  by_cases e1 : k = e * 4 + s
  · subst e1
    rw [if_pos rfl, ← Nat.add_assoc, Array.getElem?_setIfInBounds_self_of_lt (by rw [setL_size]; omega)]
  · rw [if_neg e1, Array.getElem?_setIfInBounds_ne (by omega)]
    by_cases e2 : 24 + e * 64 + s * 16 ≤ k ∧ k < 24 + e * 64 + s * 16 + 16
    · obtain ⟨j, hj⟩ : ∃ j, k = 24 + e * 64 + s * 16 + j := ⟨k - (24 + e * 64 + s * 16), by omega⟩
      subst hj
      have hj16 : j < 16 := by omega
      rw [show o + (24 + e * 64 + s * 16 + j) = o + 24 + e * 64 + s * 16 + j by omega, setL_in _ _ _ _ (by simpa using hj16) (by simp; omega)]
      by_cases e3 : j < 8
      · rw [if_pos ⟨by omega, by omega⟩]
        match j, e3 with
        | 0, _ => rfl
        | 1, _ => rfl
        | 2, _ => rfl
        | 3, _ => rfl
        | 4, _ => rfl
        | 5, _ => rfl
        | 6, _ => rfl
        | 7, _ => rfl
      · rw [if_neg (by omega), if_pos ⟨by omega, by omega⟩]
        obtain ⟨d, rfl⟩ : ∃ d, j = 8 + d := ⟨j - 8, by omega⟩
        have hd : d < 8 := by omega
        match d, hd with
        | 0, _ => rfl
        | 1, _ => rfl
        | 2, _ => rfl
        | 3, _ => rfl
        | 4, _ => rfl
        | 5, _ => rfl
        | 6, _ => rfl
        | 7, _ => rfl
    · rw [setL_out _ _ _ _ (by simp; omega), if_neg (by omega), if_neg (by omega)]
      exact h k hk
theorem POwn.addRec {w wa w4 : World} {S : Nat → Prop} {pb g' c : Nat} {x : PX} {ns : List Nd} {R W : Nat} {D : Nat → Nat → Int} {st : PSt} {y : Nd} (h : POwn w S pb x ns R W D st) (hb : Bw w wa)
    (ho : w4.ownsRow 0 77 5 (.slice (some ⟨g', 0, none⟩) (st.rc.length + 1) c) (st.rc.length + 1) (qL st.rc ++ y.cells)) (hg : wa.grownBy w4 x.vr.ownBlock) (hf : st.rc.length + 1 ≤ 100000000) :
    POwn (w4.setCell ⟨pb, 5, none⟩ (.slice (some ⟨g', 0, none⟩) (st.rc.length + 1) c)) (fun b => S b ∨ b = g') pb { x with rarr := x.rarr.setIfInBounds 5 (.slice (some ⟨g', 0, none⟩) (st.rc.length + 1) c), vr := .slice (some ⟨g', 0, none⟩) (st.rc.length + 1) c } ns R W D { st with rc := st.rc ++ [y] } := by
  have ha := h.bw hb
  have hgp := xN (fun b hbb => jZ ha.recs.1 hbb) hg
  have hroot := (hgp _ (by decide) _ _ ha.root).trans ha.root
  have hwork := (hgp _ (by decide) _ _ ha.work).trans ha.work
  have hne : x.wb ≠ pb := fun e => by have h1 := h.work; rw [e, h.root] at h1; simp at h1
  have hr5 : 5 < x.rarr.size := (Array.getElem?_eq_some_iff.1 h.r5).1
  have fr : ∀ (t : TypeId) (b : Nat) (cur : Array Value), t ≠ 77 → t ≠ 92 → w.heap[b]? = some (.cells cur t (0, 0)) → (w4.setCell ⟨pb, 5, none⟩ (.slice (some ⟨g', 0, none⟩) (st.rc.length + 1) c)).heap[b]? = w.heap[b]? := by
    intro t b cur h1 h2 hc
    have hlt := (Array.getElem?_eq_some_iff.1 hc).1
    have hca := (Below.block hb b hlt).trans hc
    have hbp : b ≠ pb := by
      intro e
      subst e
      rw [h.root] at hc
      simp only [Option.some.injEq, Obj.cells.injEq] at hc
      exact h2 hc.2.1.symm
    exact (Below.heap_setCell w4 ⟨pb, 5, none⟩ _ b hbp).trans ((hgp t h1 b cur hca).trans (Below.block hb b hlt))
  have frO : ∀ (t : TypeId) (s : Nat) (u : Value) (m : Nat) (ys : List Value), t ≠ 77 → t ≠ 92 → OwnsIn S w t s u m ys → OwnsIn (fun b => S b ∨ b = g') (w4.setCell ⟨pb, 5, none⟩ (.slice (some ⟨g', 0, none⟩) (st.rc.length + 1) c)) t s u m ys := by
    intro t s u m ys h1 h2 ho'
    refine ⟨kK ho'.1 fun b hbb => ?_, fun b hbb => .inl (ho'.2 b hbb)⟩
    obtain ⟨cur, hc⟩ := jZ ho'.1 hbb
    exact fr t b cur h1 h2 hc
  have hz := hg.size
  refine ⟨qU hroot, (Array.getElem?_setIfInBounds_ne (by decide)).trans h.r0, (Array.getElem?_setIfInBounds_ne (by decide)).trans h.r1, (Array.getElem?_setIfInBounds_ne (by decide)).trans h.r2, (Array.getElem?_setIfInBounds_ne (by decide)).trans h.r3, (Array.getElem?_setIfInBounds_ne (by decide)).trans h.r4, Array.getElem?_setIfInBounds_self_of_lt hr5, (Below.heap_setCell w4 ⟨pb, 5, none⟩ _ x.wb hne).trans hwork, .inl h.sroot, .inl h.swork, fun b hb' => ?_, frO _ _ _ _ _ (by decide) (by decide) h.nodes, h.dist.map fun t _ _ _ _ ht ho => frO _ _ _ _ _ (by rcases ht with rfl | rfl <;> decide) (by rcases ht with rfl | rfl <;> decide) ho, ⟨?_, fun b hb => .inr (by simpa [Value.ownBlock] using hb.symm)⟩, ?_, h.small, ⟨h.few.1, by simpa using hf⟩⟩
  · rw [show (w4.setCell ⟨pb, 5, none⟩ (.slice (some ⟨g', 0, none⟩) (st.rc.length + 1) c)).heap.size = w4.heap.size by simp]
    rcases hb' with hb' | rfl
    · exact Nat.lt_of_lt_of_le (ha.slt b hb') hz
    · exact (World.ownsRow.lt ho b rfl).2
  · show World.ownsRow _ 0 _ 5 _ (st.rc ++ [y]).length (qL (st.rc ++ [y]))
    rw [show qL (st.rc ++ [y]) = qL st.rc ++ y.cells by simp [qL], List.length_append]
    exact qN hroot ho (by decide)
  · obtain ⟨a1, a2, a3, a4, a5, a6, a7, a8, a9⟩ := h.row.map (S' := fun b => S b ∨ b = g') (w' := w4.setCell ⟨pb, 5, none⟩ (.slice (some ⟨g', 0, none⟩) (st.rc.length + 1) c)) (fun b hb => .inl hb) (fun t _ _ _ _ ht ho => frO _ _ _ _ _ (by rcases ht with rfl | rfl <;> decide) (by rcases ht with rfl | rfl <;> decide) ho) (fun b cur _ hb => fr _ b cur (by decide) (by decide) hb)
    exact ⟨a1, a2, a3, a4, a5, a6, a7, a8, a9⟩
theorem ownP_one {w : World} {g base : Nat} {p : Pt} (hb : base ≤ g) (h : w.heap[g]? = some (.cells #[.int .i64 p.node, .bool p.out, .int .i64 p.epoch, .int .i64 p.round, .int .i64 p.count] 67 (0, 0))) : w.ownsRow base 67 5 (.slice (some ⟨g, 0, none⟩) 1 1) 1 (qR [p]) :=
  ⟨rfl, .inr ⟨g, 1, _, rfl, hb, h, Nat.le_refl _, by unfold maxLen; omega, rfl, rfl⟩⟩
theorem nd_cells5 {w : World} {g : Nat} {ty : TypeId} {x : Nd} (h : w.heap[g]? = some (.cells #[.int .i64 x.kind, .int .i64 x.a, .int .i64 x.b, .int .i64 x.k, .int .i64 x.m] ty (0, 0))) : ∀ j u, x.cells[j]? = some u → w.cell? ⟨g, j, none⟩ = some u := by
  intro j u hj
  unfold Nd.cells at hj
  match j, hj with
  | 0, hj => simp at hj; subst hj; exact qQ h rfl
  | 1, hj => simp at hj; subst hj; exact qQ h rfl
  | 2, hj => simp at hj; subst hj; exact qQ h rfl
  | 3, hj => simp at hj; subst hj; exact qQ h rfl
  | 4, hj => simp at hj; subst hj; exact qQ h rfl
theorem alloc_at0 (w : World) (A B : Obj) : ((w.alloc A).alloc B).heap[w.heap.size]? = some A := (alloc2 w A B).1
theorem pwa5 {S : Nat → Prop} {pb : Nat} {x : PX} {ns : List Nd} {R W : Nat} {D : Nat → Nat → Int} {st : PSt} (i n e s : Nat) (v : Int) (w : World) (hO : POwn w S pb x ns R W D st) (hi : i < W) (hn : n < ns.length) (he : e < 6) (hs : s < R) (hk : (qT ns n).kind = 5) (hlb : (st.lb i n).length + 1 ≤ 100000000) (h6 : ∀ k, k < ns.length → (qT ns k).kind = 6 → 1 ≤ (qT ns k).k ∧ (qT ns k).k ≤ 8) (hf : ∀ a b, (st.wt a b).length ≤ 90000000) :
    Calls Tryz.prog 122 #[.pointer (some ⟨pb, 0, none⟩), .int .i64 (i : Int), .int .i64 (n : Int), .agg #[.int .i64 (e : Int), .int .i64 (s : Int)], .int .i64 v] w fun en w' => ∃ u, en = .returned u ∧ OwnP w w' u (pwQ ns R st i n e s v) ∧ POwn.After w w' S pb ns R W D (pwS ns R W st i n e s v) := by
  have h8 := hO.small
  obtain ⟨na, nc, hvn, hnd⟩ := hO.ns
  obtain ⟨nb, noff, rfl, hnb, hnc⟩ := hnd n hn
  obtain ⟨d0, d1, d2, d3, d4⟩ := hnc n hn
  have c0 := qQ (o := 0) hO.root (hvn ▸ hO.r0)
  have lt0 := hO.slt _ hO.sroot
  have HO := qJ hO
  have hn1 : (n : Int) < (ns.length : Int) := by omega
  have Hlet := qJ (fun (w' : World) (h : Bw w w') => plets_any i n e s v w' (hO.bw h) hi hn hlb)
  have HU : Hid (pwU ns R (st.lb i n) n e s v = !lbTo (st.lb i n) ⟨e, s, v⟩ (st.lb i n).length) := qJ (by unfold pwU; rw [hk]; rfl)
  have HM : Hid (pwM ns n e s v = ⟨e, s, v⟩) := qJ (by unfold pwM; rw [hk]; rfl)
  have HS : Hid (pwS ns R W st i n e s v = { st with wt := if pwU ns R (st.lb i n) n e s v then zM ns W i n (pwM ns n e s v) st.wt ns.length else st.wt, lb := (letSt st i n ⟨e, s, v⟩).lb }) := qJ (by unfold pwS; rw [hk]; rfl)
  have HQ : Hid (pwQ ns R st i n e s v = if pwU ns R (st.lb i n) n e s v then jR ns n (pwM ns n e s v) ns.length else []) := qJ (by unfold pwQ; rw [hk]; rfl)
  have HL : Hid (letSt st i n ⟨e, s, v⟩ = { st with lb := (letSt st i n ⟨e, s, v⟩).lb }) := qJ (by unfold letSt; split <;> rfl)
  have Hwt : Hid ((letSt st i n ⟨e, s, v⟩).wt = st.wt) := qJ (by unfold letSt; split <;> rfl)
  rw [qK HM] at HS HQ
  rw [qK HU] at HS HQ
  have hnS : ¬ S w.heap.size := fun h => by have := hO.slt _ h; omega
  have hSlt := hO.slt
  rw [hk] at d0
  generalize qT ns n = y at *
  clear hO hnd hnc HM HU
  cases hU : lbTo (st.lb i n) ⟨e, s, v⟩ (st.lb i n).length with
  | false =>
    rw [hU, Bool.not_false, if_pos rfl] at HS HQ
    rw [hU, Bool.not_false] at Hlet
    go_enter Tryz.func122, Tryz.ntmps122
    go_wp2_with fail
    refine ((qK Hlet) _ (by repeat first|exact br _|assumption|apply bd|apply bn|apply ba|refine bt ?_ (by assumption))).mono ?_
    rintro en w1 ⟨rfl, hA1⟩
    have hbx := hA1.box hnS (alloc_at0 w (.cells #[.int .i64 (e : Int), .int .i64 (s : Int)] 72) (.cells #[.int .i64 5, .int .i64 y.a, .int .i64 y.b, .int .i64 y.k, .int .i64 y.m] 46))
    obtain ⟨S1, x1, hO1, hC1, hS1⟩ := hA1
    have t0 := qQ (o := 0) hbx rfl
    have t1 := qQ (o := 1) hbx rfl
    have tl := (Array.getElem?_eq_some_iff.1 hbx).1
    have Hput := qJ (fun (w' : World) (h : Bw w1 w') => pput_any i n e s v w' (hO1.bw h) hi h6 (by rw [qK Hwt]; exact hf))
    clear hO1 hbx
    go_wp2_with (go_at_call 88; refine ((qK Hput) _ (by repeat first|exact br _|assumption|apply bd|apply bn|apply ba|refine bt ?_ (by assumption))).mono ?_; rintro en w2 ⟨u, rfl, hou, hA2⟩)
    go_ret
    have hz1 : w.heap.size ≤ w1.heap.size := by have := hC1.size; simp at this; omega
    have hC01 : Chg S w w1 := (Chg.bw (S := S) (show Bw w _ from (by repeat first|exact br _|assumption|apply bd|apply bn|apply ba|refine bt ?_ (by assumption)))).trans hC1 (fun _ h => .inl h)
    have hS01 : ∀ b, S1 b → S b ∨ w.heap.size ≤ b := fun b hb => (hS1 b hb).imp id (fun h => by simp at h; omega)
    rw [qK HS, qK HQ]
    refine ⟨_, rfl, qM hou hz1, After.of hC01 hS01 ?_⟩
    rw [qK HL] at hA2
    exact hA2
  | true =>
    rw [hU] at HS HQ
    rw [hU, Bool.not_true] at Hlet
    go_enter Tryz.func122, Tryz.ntmps122
    go_wp2_with fail
    refine ((qK Hlet) _ (by repeat first|exact br _|assumption|apply bd|apply bn|apply ba|refine bt ?_ (by assumption))).mono ?_
    rintro en w1 ⟨rfl, hA1⟩
    go_wp2_with fail
    go_ret
    have hB0 : Bw w ((w.alloc (.cells #[.int .i64 (e : Int), .int .i64 (s : Int)] 72)).alloc (.cells #[.int .i64 5, .int .i64 y.a, .int .i64 y.b, .int .i64 y.k, .int .i64 y.m] 46)) := (by repeat first|exact br _|assumption|apply bd|apply bn|apply ba|refine bt ?_ (by assumption))
    rw [qK HS, qK HQ]
    refine ⟨_, rfl, OwnP.nil _ _, ?_⟩
    rw [qK HL] at hA1
    exact After.of (Chg.bw (S := S) hB0) (fun _ h => .inl h) hA1
theorem pwa7 {S : Nat → Prop} {pb : Nat} {x : PX} {ns : List Nd} {R W : Nat} {D : Nat → Nat → Int} {st : PSt} (i n e s : Nat) (v : Int) (w : World) (hO : POwn w S pb x ns R W D st) (hi : i < W) (hn : n < ns.length) (he : e < 6) (hs : s < R) (hk : (qT ns n).kind = 7) (hrc : st.rc.length + 1 ≤ 100000000) :
    Calls Tryz.prog 122 #[.pointer (some ⟨pb, 0, none⟩), .int .i64 (i : Int), .int .i64 (n : Int), .agg #[.int .i64 (e : Int), .int .i64 (s : Int)], .int .i64 v] w fun en w' => ∃ u, en = .returned u ∧ OwnP w w' u (pwQ ns R st i n e s v) ∧ POwn.After w w' S pb ns R W D (pwS ns R W st i n e s v) := by
  have h8 := hO.small
  obtain ⟨na, nc, hvn, hnd⟩ := hO.ns
  obtain ⟨nb, noff, rfl, hnb, hnc⟩ := hnd n hn
  obtain ⟨d0, d1, d2, d3, d4⟩ := hnc n hn
  have c0 := qQ (o := 0) hO.root (hvn ▸ hO.r0)
  have lt0 := hO.slt _ hO.sroot
  have HO := qJ hO
  have hn1 : (n : Int) < (ns.length : Int) := by omega
  have HS : Hid (pwS ns R W st i n e s v = { st with rc := st.rc ++ [⟨n, i, e, s, v⟩] }) := qJ (by unfold pwS pwU; rw [hk]; rfl)
  have HQ : Hid (pwQ ns R st i n e s v = []) := qJ (by unfold pwQ pwU; rw [hk]; rfl)
  obtain ⟨qa, qc, hqe⟩ : ∃ qa qc, x.vr = .slice qa st.rc.length qc := ⟨_, _, qV hO.recs.1⟩
  have c5 := qQ (o := 5) hO.root (hqe ▸ hO.r5)
  have c5f := qZ (o := 5) hO.root
  have Hown := qJ (show w.ownsRow 0 77 5 (.slice qa st.rc.length qc) st.rc.length (qL st.rc) from hqe ▸ hO.recs.1)
  have HqS : Hid (∀ b, Value.ownBlock (.slice qa st.rc.length qc) = some b → S b) := qJ (hqe ▸ hO.recs.2)
  have Hqe := qJ hqe
  rw [hk] at d0
  generalize qT ns n = y at *
  clear hO hnd hnc hqe
  go_enter Tryz.func122, Tryz.ntmps122
  go_wp2_with fail
  obtain ⟨w0, hw0⟩ : ∃ w0, (w.alloc (.cells #[.int .i64 (e : Int), .int .i64 (s : Int)] 72)).alloc (.cells #[.int .i64 7, .int .i64 y.a, .int .i64 y.b, .int .i64 y.k, .int .i64 y.m] 46) = w0 := ⟨_, rfl⟩
  have hA := alloc2 w (.cells #[.int .i64 (e : Int), .int .i64 (s : Int)] 72) (.cells #[.int .i64 7, .int .i64 y.a, .int .i64 y.b, .int .i64 y.k, .int .i64 y.m] 46)
  rw [hw0] at hA
  rw [hw0]
  obtain ⟨ht0, hm0, hB0⟩ := hA
  clear hw0 hm0
  have t0 := qQ (o := 0) ht0 rfl
  have t1 := qQ (o := 1) ht0 rfl
  have tlt := (Array.getElem?_eq_some_iff.1 ht0).1
  have hO0 := (qK HO).bw hB0
  have k5 := qQ (o := 5) hO0.root ((qK Hqe) ▸ hO0.r5)
  have k5f := qZ (o := 5) hO0.root
  have plt := hO0.slt _ hO0.sroot
  have HO0 := qJ hO0
  clear hO0 c5 c5f c0 ht0
  go_region_law (refine yT rfl _ _ _ 77 rfl _ 5 40 Tryz.infoRec Tryz.underlying73 rfl (by decide) 0 (.slice qa st.rc.length qc) st.rc.length (qL st.rc) rfl (qX (qK Hown) fun g hg => Below.block (hB0.trans (show Bw w0 _ from (by repeat first|exact br _|assumption|apply bd|apply bn|apply ba|refine bt ?_ (by assumption)))) g hg) _ _ (Nd.cells ⟨n, i, e, s, v⟩) rfl rfl (nd_cells5 (qY _ _ (by simp))) (nd_one' _) (by omega) (by omega) (Nat.zero_le _) ?_; intro g' cap w4 ho4 hg4 hl4; have q4 := qW (qX (qK Hown) fun g hg => Below.block (hB0.trans (show Bw w0 _ from (by repeat first|exact br _|assumption|apply bd|apply bn|apply ba|refine bt ?_ (by assumption)))) g hg) hg4 ((qK HO0).bw (show Bw w0 _ from (by repeat first|exact br _|assumption|apply bd|apply bn|apply ba|refine bt ?_ (by assumption)))).root (.inl (by decide)); have q7l := (Array.getElem?_eq_some_iff.1 q4).1; have q7 := qQ (o := 5) q4 (qK HO0).r5; have q7f := qZ (o := 5) q4; clear q4)
  all_goals (
    obtain ⟨wB, hwB, hBB⟩ : ∃ wB, wB = (w0.alloc (.cells #[.int .i64 (n : Int), .int .i64 (i : Int), .int .i64 (e : Int), .int .i64 (s : Int), .int .i64 v] 77)).drew ∧ Bw w0 wB := ⟨_, rfl, (by repeat first|exact br _|assumption|apply bd|apply bn|apply ba|refine bt ?_ (by assumption))⟩
    rw [← hwB] at hg4 hl4
    have hO5 := (qK HO0).addRec (y := ⟨n, i, e, s, v⟩) hBB ho4 (by rw [qK Hqe]; exact hg4) hrc
    obtain ⟨x1, x2, _⟩ := app_chg (S := S) (S' := S) (w := w) (q := 5) (u := .slice (some ⟨g', 0, none⟩) (st.rc.length + 1) cap) (Chg.bw hB0) (fun _ h => .inl h) hBB hg4 (qK HqS) (qK HO0).sroot hl4
    go_wp2_with fail
    go_ret
    rw [qK HS, qK HQ]
    exact ⟨_, rfl, OwnP.nil _ _, _, _, hO5, x1, x2⟩)
theorem pwa6 {B : Nat} {S : Nat → Prop} {pb : Nat} {x : PX} {ns : List Nd} {R W : Nat} {D : Nat → Nat → Int} {st : PSt} (i n e s : Nat) (v : Int) (w : World) (hO : POwn w S pb x ns R W D st) (hi : i < W) (hn : n < ns.length) (he : e < 6) (hs : s < R) (hk : (qT ns n).kind = 6) (hK : 1 ≤ (qT ns n).k ∧ (qT ns n).k ≤ 8) (hI : PInv ns R st B) :
    Calls Tryz.prog 122 #[.pointer (some ⟨pb, 0, none⟩), .int .i64 (i : Int), .int .i64 (n : Int), .agg #[.int .i64 (e : Int), .int .i64 (s : Int)], .int .i64 v] w fun en w' => ∃ u, en = .returned u ∧ OwnP w w' u (pwQ ns R st i n e s v) ∧ POwn.After w w' S pb ns R W D (pwS ns R W st i n e s v) := by
  have h8 := hO.small
  obtain ⟨na, nc, hvn, hnd⟩ := hO.ns
  obtain ⟨nb, noff, rfl, hnb, hnc⟩ := hnd n hn
  obtain ⟨d0, d1, d2, d3, d4⟩ := hnc n hn
  have c0 := qQ (o := 0) hO.root (hvn ▸ hO.r0)
  have lt0 := hO.slt _ hO.sroot
  have HO := qJ hO
  have hn1 : (n : Int) < (ns.length : Int) := by omega
  have hs4 : s < 4 := by omega
  have HnS : Hid (∀ z, w.heap.size ≤ z → ¬ S z) := qJ (fun z hz h => by have := hO.slt z h; omega)
  obtain ⟨g, hg⟩ := Int.eq_ofNat_of_zero_le (Int.emod_nonneg v (show (qT ns n).k ≠ 0 by omega))
  have hg8 : g < 8 := by have := Int.emod_lt_of_pos v (show 0 < (qT ns n).k by omega); omega
  have Htal := qJ (fun k hk => hO.row.tal i n hi hn k hk)
  have Hnone : Hid (∀ k, k < 408 → Value.ownBlock (talAdd (st.tl i n) e s v (qT ns n).k k) = none) := qJ (fun k hk4 => by
    unfold talAdd
    split
    · rfl
    · split
      · rfl
      · split
        · rfl
        · exact tal_none hI hk k hk4)
  have Hadd := qJ (fun (w' : World) (h : Bw w w') => ptadd_any v (qT ns n).k x.wb (i * 3684 + 32 + n * 408) e s g x.warr 147 (fun g => intOf (st.tl i n (24 + e * 64 + s * 16 + g))) (fun g => wnOf (st.tl i n) (24 + e * 64 + s * 16 + 8 + g)) (wnOf (st.tl i n) (e * 4 + s)) w' (hO.bw h).work he hs4 (fun g' hg' => by
      rw [show i * 3684 + 32 + n * 408 + 24 + e * 64 + s * 16 + g' = i * 3684 + 32 + n * 408 + (24 + e * 64 + s * 16 + g') by omega, qK Htal _ (by omega)]
      obtain ⟨t, et⟩ := (hI.gs i n hk e s g' he hs4 hg').1
      rw [et]; rfl) (fun g' hg' => by
      rw [show i * 3684 + 32 + n * 408 + 24 + e * 64 + s * 16 + 8 + g' = i * 3684 + 32 + n * 408 + (24 + e * 64 + s * 16 + 8 + g') by omega, qK Htal _ (by omega)]
      obtain ⟨t, et⟩ := (hI.gs i n hk e s g' he hs4 hg').2
      unfold wnOf
      rw [et]) (by
      rw [show i * 3684 + 32 + n * 408 + e * 4 + s = i * 3684 + 32 + n * 408 + (e * 4 + s) by omega, qK Htal _ (by omega)]
      obtain ⟨t, et⟩ := hI.wn i n (e * 4 + s) (by omega)
      unfold wnOf
      rw [et]) hK.1 hK.2 hg hg8)
  have HP : Hid (∀ w0 w1 : World, Bw w w0 → w1.heap[x.wb]? = some (.cells (((x.warr.setIfInBounds (i * 3684 + 32 + n * 408 + 24 + e * 64 + s * 16 + g) (.int .i64 (wrap64 (intOf (st.tl i n (24 + e * 64 + s * 16 + g)) + v)))).setIfInBounds (i * 3684 + 32 + n * 408 + 24 + e * 64 + s * 16 + 8 + g) (.bool true)).setIfInBounds (i * 3684 + 32 + n * 408 + e * 4 + s) (.bool true)) 147 (0, 0)) → Chg (fun z => z = x.wb) w0 w1 → ∃ arr', POwn w1 S pb { x with warr := arr' } ns R W D { st with tl := kF st.tl i n (talAdd (st.tl i n) e s v (qT ns n).k) }) := qJ (fun w0 w1 hb h1 hC => by
    refine ⟨_, (hO.bw hb).setRow hC h1 ((hO.bw hb).row.setTl h8.1 hi hn (by simp) (fun p hp => ?_) (add_cells he hs4 (by rw [hg]; rfl) hg8 (qK Htal)) (qK Hnone)) ⟨rfl, rfl⟩ hO.few.1⟩
    rw [Array.getElem?_setIfInBounds_ne (by omega), Array.getElem?_setIfInBounds_ne (by omega), Array.getElem?_setIfInBounds_ne (by omega)])
  have HS : Hid (pwS ns R W st i n e s v = { st with tl := kF st.tl i n (talAdd (st.tl i n) e s v (qT ns n).k) }) := qJ (by unfold pwS pwU; rw [hk]; rfl)
  have HQ : Hid (pwQ ns R st i n e s v = if wnOf (st.tl i n) (e * 4 + s) then [] else [⟨n, true, e, s, 1⟩]) := qJ (by unfold pwQ; rw [hk]; rfl)
  have c3 := qQ (o := 3) hO.root hO.r3
  have hi1 : (i : Int) < (W : Int) := by omega
  have hn8 : (n : Int) < 8 := by omega
  have hpw : ¬ pb = x.wb := fun e9 => by have h1 := hO.work; rw [← e9, hO.root] at h1; simp at h1
  have lt1 := hO.slt _ hO.swork
  have hsw := hO.swork
  rw [hk] at d0
  generalize wnOf (st.tl i n) (e * 4 + s) = B0 at *
  generalize qT ns n = y at *
  clear hO hnd hnc hI Hnone Htal
  go_enter Tryz.func122, Tryz.ntmps122
  go_wp2_with fail
  obtain ⟨w0, hw0⟩ : ∃ w0, (w.alloc (.cells #[.int .i64 (e : Int), .int .i64 (s : Int)] 72)).alloc (.cells #[.int .i64 6, .int .i64 y.a, .int .i64 y.b, .int .i64 y.k, .int .i64 y.m] 46) = w0 := ⟨_, rfl⟩
  have hA := alloc2 w (.cells #[.int .i64 (e : Int), .int .i64 (s : Int)] 72) (.cells #[.int .i64 6, .int .i64 y.a, .int .i64 y.b, .int .i64 y.k, .int .i64 y.m] 46)
  rw [hw0] at hA
  rw [hw0]
  obtain ⟨ht0, hm0, hB0⟩ := hA
  clear hw0
  have hnt := (qK HnS) w.heap.size (Nat.le_refl _)
  have hnm := (qK HnS) (w.heap.size + 1) (by omega)
  obtain ⟨tb, htb⟩ : ∃ tb, w.heap.size = tb := ⟨_, rfl⟩
  rw [htb] at ht0 hm0 hnt hnm
  rw [htb]
  obtain ⟨mb, hmb⟩ : ∃ mb, tb + 1 = mb := ⟨_, rfl⟩
  rw [hmb] at hm0 hnm
  rw [hmb]
  have htw : ¬ tb = x.wb := fun e9 => hnt (e9 ▸ hsw)
  have hmw : ¬ mb = x.wb := fun e9 => hnm (e9 ▸ hsw)
  have k3 := ((qS hB0).1 _ 3 lt0).trans c3
  have t0 := qQ (o := 0) ht0 rfl
  have t1 := qQ (o := 1) ht0 rfl
  have m3 := qQ (o := 3) hm0 rfl
  have tlt := (Array.getElem?_eq_some_iff.1 ht0).1
  have mlt := (Array.getElem?_eq_some_iff.1 hm0).1
  have plt : pb < w0.heap.size := Nat.lt_of_lt_of_le lt0 hB0.size
  have wlt : x.wb < w0.heap.size := Nat.lt_of_lt_of_le lt1 hB0.size
  go_region_held3 (fun w' => w'.cell? ⟨pb, 3, none⟩ = some (.slice (some ⟨x.wb, 0, none⟩) W x.wc) ∧ w'.cell? ⟨tb, 0, none⟩ = some (.int .i64 (e : Int)) ∧ w'.cell? ⟨tb, 1, none⟩ = some (.int .i64 (s : Int)) ∧ w'.cell? ⟨mb, 3, none⟩ = some (.int .i64 y.k)) (go_keep) ((go_at_call 128; refine ((qK Hadd) _ (by repeat first|exact br _|assumption|apply bd|apply bn|apply ba|refine bt ?_ (by assumption))).mono ?_; rintro en w1 ⟨rfl, hb1, hC1⟩; have j3 := (World.cell?_of_block (a := ⟨pb, 3, none⟩) (hC1.block pb (by simpa using plt) hpw)).trans k3; have j0 := (World.cell?_of_block (a := ⟨tb, 0, none⟩) (hC1.block tb (by simpa using tlt) htw)).trans t0; have j1 := (World.cell?_of_block (a := ⟨tb, 1, none⟩) (hC1.block tb (by simpa using tlt) htw)).trans t1; have jm := (World.cell?_of_block (a := ⟨mb, 3, none⟩) (hC1.block mb (by simpa using mlt) hmw)).trans m3; have jt : tb < w1.heap.size := Nat.lt_of_lt_of_le (by simpa using tlt) hC1.size))
  obtain ⟨arr', hO1⟩ := (qK HP) w0.drew w1 (hB0.trans (by repeat first|exact br _|assumption|apply bd|apply bn|apply ba|refine bt ?_ (by assumption))) hb1 hC1
  have HO1 := qJ hO1
  have HC : Hid (Chg S w w1) := qJ ((Chg.bw (S := S) (hB0.trans (show Bw w0 w0.drew from (by repeat first|exact br _|assumption|apply bd|apply bn|apply ba|refine bt ?_ (by assumption))))).trans hC1 (fun b h => .inl (h ▸ hsw)))
  have hz1 : w.heap.size ≤ w1.heap.size := (qK HC).size
  clear hO1 hC1 hb1 k3 t0 t1 m3 ht0 hm0 Hadd HP htb
  cases B0 with
  | true =>
    rw [if_pos rfl] at HQ
    go_wp2_with fail
    go_ret
    rw [qK HS, qK HQ]
    exact ⟨_, rfl, OwnP.nil _ _, S, _, qK HO1, qK HC, fun _ h => .inl h⟩
  | false =>
    rw [if_neg (by simp)] at HQ
    have Hout := qJ (fun (w' : World) => pout_any (n : Int) (e : Int) (s : Int) 1 w')
    simp only [Pt.val] at Hout
    go_wp2_with (go_at_call 81; refine ((qK Hout) _).mono ?_; rintro en w2 ⟨rfl, hb2⟩)
    go_ret
    rw [qK HS, qK HQ]
    have hB2 : Bw w1 (w2.alloc (.cells #[.int .i64 (n : Int), .bool true, .int .i64 (e : Int), .int .i64 (s : Int), .int .i64 1] 67)) := hb2.trans (by repeat first|exact br _|assumption|apply bd|apply bn|apply ba|refine bt ?_ (by assumption))
    exact ⟨_, rfl, ownP_one (p := ⟨n, true, e, s, 1⟩) (Nat.le_trans hz1 hb2.size) (heap_alloc_new w2 _), S, _, (qK HO1).bw hB2, (qK HC).trans (Chg.bw (S := S) hB2) (fun _ h => .inl h), fun _ h => .inl h⟩
theorem gvn_app {op : List Gv} {g : Gv} {i : Nat} (hi : i < op.length) : vR (op ++ [g]) i = vR op i := by simp [vR, List.getD, List.getElem?_append_left hi]
theorem gvn_last (op : List Gv) (g : Gv) : vR (op ++ [g]) op.length = g := by simp [vR, List.getD]
theorem doneTo_app (op : List Gv) (g : Gv) (w n kd : Int) : ∀ k, k ≤ op.length → qC (op ++ [g]) w n kd k = qC op w n kd k := by
  intro k
  induction k with
  | zero => intro _; rfl
  | succ k ih =>
    intro hk
    rw [qC, qC, ih (by omega)]
    unfold doneB
    rw [gvn_app (by omega)]
theorem zC (op : List Gv) (g : Gv) (w n kd : Int) : qC (op ++ [g]) w n kd (op ++ [g]).length = qC op w n kd op.length + (if (g.epoch == w) && (g.node == n) && (g.value == kd) then 1 else 0) := by
  rw [List.length_append, List.length_singleton, qC, doneTo_app op g w n kd _ (Nat.le_refl _)]
  unfold doneB
  rw [gvn_last]
  split <;> rfl
theorem giveTo_app (op : List Gv) (g : Gv) : ∀ k, k ≤ op.length → kG (op ++ [g]) k = kG op k := by
  intro k
  induction k with
  | zero => intro _; rfl
  | succ k ih =>
    intro hk
    rw [kG, kG, ih (by omega), gvn_app (by omega)]
theorem xQ (op : List Gv) (g : Gv) : kG (op ++ [g]) (op ++ [g]).length = kG op op.length + (if g.value == 1 then 1 else 0) := by
  rw [List.length_append, List.length_singleton, kG, giveTo_app op g _ (Nat.le_refl _), gvn_last]
  split <;> rfl
def wL (ms : List Ml) (w n : Int) : Nat → List Gv
  | 0 => []
  | i + 1 => if xK ms w n i then wL ms w n i ++ [xJ (xX ms i)] else wL ms w n i
theorem wL_eq (ms : List Ml) (w n : Int) : ∀ k, (kJ ms w n k).map (fun z => xJ (xX ms z.toNat)) = wL ms w n k := by
  intro k
  induction k with
  | zero => rfl
  | succ k ih =>
    rw [kJ, wL]
    split
    · rw [List.map_append, ih]; simp
    · exact ih
theorem waitL_eq (ms : List Ml) (w n : Int) : jQ ms w n = wL ms w n ms.length := wL_eq ms w n ms.length
theorem mln_app {ms : List Ml} {x : Ml} {i : Nat} (hi : i < ms.length) : xX (ms ++ [x]) i = xX ms i := by simp [xX, List.getD, List.getElem?_append_left hi]
theorem mln_last (ms : List Ml) (x : Ml) : xX (ms ++ [x]) ms.length = x := by simp [xX, List.getD]
theorem wL_app (ms : List Ml) (x : Ml) (w n : Int) : ∀ k, k ≤ ms.length → wL (ms ++ [x]) w n k = wL ms w n k := by
  intro k
  induction k with
  | zero => intro _; rfl
  | succ k ih =>
    intro hk
    rw [wL, wL, ih (by omega)]
    unfold xK
    rw [mln_app (by omega)]
theorem waitL_snoc (ms : List Ml) (x : Ml) (w n : Int) : jQ (ms ++ [x]) w n = jQ ms w n ++ (if !x.gone && (x.worker == w) && (x.node == n) then [xJ x] else []) := by
  rw [waitL_eq, waitL_eq, List.length_append, List.length_singleton, wL, wL_app ms x w n _ (Nat.le_refl _)]
  unfold xK
  rw [mln_last]
  split <;> simp
theorem waitL_put (ns : List Nd) (W : Nat) (i : Nat) (hi : i < W) (n : Int) (m : Gv) (ms : List Ml) : ∀ k (a b : Nat), jQ (ms ++ yC ns W i n m k) a b = zM ns W i n m (fun p q => jQ ms p q) k a b := by
  intro k
  induction k with
  | zero => intro a b; simp [yC, zM]
  | succ k ih =>
    intro a b
    obtain ⟨h0, h1⟩ := atI_lt (ns := ns) (k := k) (v := m.value) hi
    obtain ⟨t, ht⟩ := Int.eq_ofNat_of_zero_le h0
    unfold yC zM
    split
    · rw [← List.append_assoc, waitL_snoc, ih a b]
      simp only [ht, Int.toNat_natCast, Bool.not_false, Bool.true_and]
      unfold kF
      by_cases e : a = t ∧ b = k
      · obtain ⟨rfl, rfl⟩ := e
        simp [xJ]
      · rw [if_neg e]
        have : ((t : Int) == (a : Int) && ((k : Int) == (b : Int))) = false := by
          rw [Bool.eq_false_iff]
          intro h
          simp at h
          omega
        simp [this]
    · exact ih a b
theorem cgn_app {cs : List Cg} {c : Cg} {i : Nat} (hi : i < cs.length) : jF (cs ++ [c]) i = jF cs i := by simp [jF, List.getD, List.getElem?_append_left hi]
theorem cgn_last (cs : List Cg) (c : Cg) : jF (cs ++ [c]) cs.length = c := by simp [jF, List.getD]
theorem seenT_app (cs : List Cg) (c : Cg) : ∀ k, k ≤ cs.length → jT (cs ++ [c]) k = jT cs k := by
  intro k
  induction k with
  | zero => intro _; rfl
  | succ k ih => intro hk; rw [jT, jT, ih (by omega), cgn_app (by omega)]
theorem tabLog_app (ns : List Nd) (R W : Nat) (cs : List Cg) (c : Cg) (told : Nat → Nat → Int) (w : Nat) : ∀ k, k ≤ cs.length → qD ns R W (cs ++ [c]) told w k = qD ns R W cs told w k := by
  intro k
  induction k with
  | zero => intro _; rfl
  | succ k ih =>
    intro hk
    have hl : lateB (cs ++ [c]) told w k = lateB cs told w k := by
      unfold lateB
      rw [cgn_app (by omega), seenT_app cs c _ (by omega)]
    rw [qD, qD, ih (by omega), hl, cgn_app (by omega)]
theorem tabLog_snoc (ns : List Nd) (R W : Nat) (cs : List Cg) (c : Cg) (told : Nat → Nat → Int) (w i : Nat) (hc : c.worker = (i : Int)) (ht : w ≠ i → told w i ≤ jT cs cs.length i) : qD ns R W (cs ++ [c]) told w (cs ++ [c]).length = if w = i then kU R (qD ns R W cs told w cs.length) c.pts c.pts.length else qD ns R W cs told w cs.length := by
  rw [List.length_append, List.length_singleton, qD, tabLog_app ns R W cs c _ w _ (Nat.le_refl _)]
  unfold lateB
  rw [cgn_last, hc, jT, seenT_app cs c _ (Nat.le_refl _), cgn_last, hc, Int.toNat_natCast, xW]
  by_cases e : w = i
  · subst e; simp
  · have h2 : decide (told w i < jT cs cs.length i + 1) = true := by have := ht e; simp; omega
    rw [h2, Bool.and_true, if_neg e, if_pos (by simp; omega)]
end Go.Proofs.YtfemleimkbjehaaGreat
