import Derived.Test.YtfemleimkbjehaaGreatJ30
namespace Go.Proofs.YtfemleimkbjehaaGreat
set_option linter.unusedVariables false
set_option linter.unusedSimpArgs false
open Go.RowKit

/-- What waits when a value is put out. -/
def wtPut (ns : List Nd) (W : Nat) (w n : Int) (m : Gv) (wt : Nat → Nat → List Gv) : Nat → (Nat → Nat → List Gv)
  | 0 => wt
  | k + 1 => if takesB (ndn ns k) n then upd2 (wtPut ns W w n m wt k) (atI ns W w m.value k).toNat k (wtPut ns W w n m wt k (atI ns W w m.value k).toNat k ++ [m]) else wtPut ns W w n m wt k
theorem wtPut_len (ns : List Nd) (W : Nat) (w n : Int) (m : Gv) (wt : Nat → Nat → List Gv) (B : Nat) (h : ∀ i j, (wt i j).length ≤ B) : ∀ k i j, (wtPut ns W w n m wt k i j).length ≤ B + (if j < k then 1 else 0) := by
  intro k
  induction k with
  | zero => intro i j; simpa [wtPut] using h i j
  | succ k ih =>
    intro i j
    unfold wtPut
    split
    · unfold upd2
      split
      · rename_i e
        have := ih (atI ns W w m.value k).toNat k
        rw [if_neg (by omega)] at this
        rw [List.length_append, e.2, if_pos (by omega)]
        simp
        omega
      · have := ih i j
        split <;> split at this <;> omega
    · have := ih i j
      split <;> split at this <;> omega
theorem atI_lt {ns : List Nd} {W : Nat} {i k : Nat} {v : Int} (hi : i < W) : 0 ≤ atI ns W (i : Int) v k ∧ atI ns W (i : Int) v k < W := by
  unfold atI
  split
  · exact ⟨Int.emod_nonneg _ (by omega), Int.emod_lt_of_pos _ (by omega)⟩
  · split
    · exact ⟨Int.emod_nonneg _ (by omega), Int.emod_lt_of_pos _ (by omega)⟩
    · omega
/-- A message begins to wait. -/
theorem POwn.waits {w wa w4 : World} {S : Nat → Prop} {pb i m g' c : Nat} {x : PX} {ns : List Nd} {R W : Nat} {D : Nat → Nat → Int} {st : PSt} {v : Value} {y : Gv} {ms : List Gv} (h : POwn w S pb x ns R W D st) (hms : st.wt i m = ms) (hi : i < W) (hm : m < ns.length) (hb : Bw w wa) (hq : x.warr[i * 3684 + 16 + m]? = some v) (hown : wa.ownsRow 0 62 3 v ms.length (gvCells ms))
    (ho : w4.ownsRow 0 62 3 (.slice (some ⟨g', 0, none⟩) (ms.length + 1) c) (ms.length + 1) (gvCells ms ++ y.cells)) (hg : wa.grownBy w4 v.ownBlock) (hl : v.ownBlock = some g' ∨ g' = wa.heap.size) (hf : ∀ a b, (upd2 st.wt i m (ms ++ [y]) a b).length ≤ 1000000) :
    POwn (w4.setCell ⟨x.wb, i * 3684 + 16 + m, none⟩ (.slice (some ⟨g', 0, none⟩) (ms.length + 1) c)) (fun b => S b ∨ b = g') pb { x with warr := x.warr.setIfInBounds (i * 3684 + 16 + m) (.slice (some ⟨g', 0, none⟩) (ms.length + 1) c) } ns R W D { st with wt := upd2 st.wt i m (ms ++ [y]) } := by
  subst hms
  exact h.appRow hb hown hg (.inl rfl) (World.ownsRow.lt ho g' rfl).2 (fun hw4 => h.row.addWait h.small.1 hi hm h.work h.slt hb hq ho hg hl hw4) rfl ⟨hf, h.few.2⟩

theorem own_blk {w : World} {base n size : Nat} {ty : TypeId} {v : Value} {xs : List Value} (h : w.ownsRow base ty size v n xs) {b : Nat} (hb : v.ownBlock = some b) : ∃ cur, w.heap[b]? = some (.cells cur ty (0, 0)) := by
  obtain ⟨_, h0 | ⟨g, cap, cur, e1, _, hc, _⟩⟩ := h
  · rw [h0.1] at hb; simp [Value.ownBlock] at hb
  · rw [e1] at hb
    simp only [Value.ownBlock, Option.some.injEq] at hb
    subst hb
    exact ⟨cur, hc⟩
theorem nd_eta (y : Nd) : Nd.val y = .agg #[.int .i64 y.kind, .int .i64 y.a, .int .i64 y.b, .int .i64 y.k, .int .i64 y.m] := rfl

set_option maxRecDepth 100000 in
set_option maxHeartbeats 4000000 in
theorem pput_any {S : Nat → Prop} {pb : Nat} {x : PX} {ns : List Nd} {R W : Nat} {D : Nat → Nat → Int} {st : PSt} (i : Nat) (n e v : Int) (w : World) (hO : POwn w S pb x ns R W D st) (hi : i < W) (h6 : ∀ k, k < ns.length → (ndn ns k).kind = 6 → 1 ≤ (ndn ns k).k ∧ (ndn ns k).k ≤ 8) (hf : ∀ a b, (st.wt a b).length ≤ 900000) :
    Calls Tryz.prog 88 #[.pointer (some ⟨pb, 0, none⟩), .int .i64 (i : Int), .int .i64 n, .agg #[.int .i64 e, .int .i64 0], .int .i64 v] w fun en w' => ∃ u, en = .returned u ∧ OwnP w w' u (putP ns n ⟨e, 0, v⟩ ns.length) ∧ POwn.After w w' S pb ns R W D { st with wt := wtPut ns W i n ⟨e, 0, v⟩ st.wt ns.length } := by
  have h8 := hO.small
  have HO := hide hO
  obtain ⟨na, nc, hvn, hnd⟩ := hO.ns
  have c0 := cell_of_block (o := 0) hO.root (hvn ▸ hO.r0)
  have lt0 := hO.slt _ hO.sroot
  clear hO
  go_enter Tryz.func88, Tryz.ntmps88
  go_wp2_with fail
  obtain ⟨w0, hw0⟩ : ∃ w0, (w.alloc (.cells #[.int .i64 e, .int .i64 0] 72)).alloc (.cells #[.int .i64 e, .int .i64 0, .int .i64 v] 62) = w0 := ⟨_, rfl⟩
  have hA := alloc2 w (.cells #[.int .i64 e, .int .i64 0] 72) (.cells #[.int .i64 e, .int .i64 0, .int .i64 v] 62)
  rw [hw0] at hA
  rw [hw0]
  obtain ⟨ht0, hm0, hB0⟩ := hA
  clear hw0
  have hnt : ¬ S w.heap.size := fun h => by have := (unhide HO).slt _ h; omega
  have hnm : ¬ S (w.heap.size + 1) := fun h => by have := (unhide HO).slt _ h; omega
  obtain ⟨tb, htb⟩ : ∃ tb, w.heap.size = tb := ⟨_, rfl⟩
  rw [htb] at ht0 hm0 hnt hnm
  rw [htb]
  obtain ⟨mb, hmb⟩ : ∃ mb, tb + 1 = mb := ⟨_, rfl⟩
  rw [hmb] at hm0 hnm
  rw [hmb]
  clear htb hmb
  have hO0 := (unhide HO).bw hB0
  have hC0 : Chg S w w0 := Chg.bw hB0
  have Hvn := hide hvn
  have HO0 := hide hO0
  clear hO0 hvn hnd c0 lt0
  go_loopw [12, 29] (fun u idx wr => ∃ (k : Nat) (S' : Nat → Prop) (x' : PX), k ≤ ns.length ∧ idx = .int .i64 k ∧ x'.vn = .slice na ns.length nc ∧ POwn wr S' pb x' ns R W D { st with wt := wtPut ns W i n ⟨e, 0, v⟩ st.wt k } ∧ wr.heap[tb]? = some (.cells #[.int .i64 e, .int .i64 0] 72 (0, 0)) ∧ wr.heap[mb]? = some (.cells #[.int .i64 e, .int .i64 0, .int .i64 v] 62 (0, 0)) ∧ ¬ S' tb ∧ ¬ S' mb ∧ Chg S w wr ∧ (∀ b, S' b → S b ∨ w.heap.size ≤ b) ∧ OwnP w wr u (putP ns n ⟨e, 0, v⟩ k) ∧ (∀ b, u.ownBlock = some b → ¬ S' b)) (fun _ idx _ => ns.length - (intOf idx).toNat)
  case atStart => exact ⟨0, S, x, Nat.zero_le _, rfl, unhide Hvn, unhide HO0, ht0, hm0, hnt, hnm, hC0, fun _ h => .inl h, OwnP.nil _ _, by simp [Value.ownBlock]⟩
  case round =>
    clear hC0 ht0 hm0 hnt hnm HO0 hB0
    obtain ⟨k, S', x', hk, rfl, hvn, hOr, ht, hm, hnt, hnm, hC, hS', hu, hnu⟩ := hrel
    rename World => wr
    have hz := hC.size
    have hpl := putP_len ns n ⟨e, 0, v⟩ k
    obtain ⟨ua, uc, hue⟩ : ∃ ua uc, u12 = .slice ua (putP ns n ⟨e, 0, v⟩ k).length uc := ⟨_, _, ownsRow_val hu⟩
    subst hue
    by_cases hlt : k < ns.length
    · obtain ⟨b, off, eb, hb, hc⟩ := (show NodesAt wr na ns from by have := nodesAt_row hOr.nodes.1; rw [hvn] at this; exact this) k hlt
      subst eb
      obtain ⟨d0, d1, d2, d3, d4⟩ := hc k hlt
      clear hc
      have HT := hide (fun w => takes_any (ndn ns k) n w)
      have Hwp : Hid (wtPut ns W i n ⟨e, 0, v⟩ st.wt (k + 1) = if takesB (ndn ns k) n then upd2 (wtPut ns W i n ⟨e, 0, v⟩ st.wt k) (atI ns W i v k).toNat k (wtPut ns W i n ⟨e, 0, v⟩ st.wt k (atI ns W i v k).toNat k ++ [⟨e, 0, v⟩]) else wtPut ns W i n ⟨e, 0, v⟩ st.wt k) := hide rfl
      have Hpp : Hid (putP ns n ⟨e, 0, v⟩ (k + 1) = if takesB (ndn ns k) n then putP ns n ⟨e, 0, v⟩ k ++ [⟨k, false, e, 0, 1⟩] else putP ns n ⟨e, 0, v⟩ k) := hide rfl
      have Hwl := hide (wtPut_len ns W i n ⟨e, 0, v⟩ st.wt 900000 hf)
      cases htk : takesB (ndn ns k) n with
      | false =>
        have HW : Hid (wtPut ns W i n ⟨e, 0, v⟩ st.wt (k + 1) = wtPut ns W i n ⟨e, 0, v⟩ st.wt k) := hide (by rw [unhide Hwp, htk]; rfl)
        have HP : Hid (putP ns n ⟨e, 0, v⟩ (k + 1) = putP ns n ⟨e, 0, v⟩ k) := hide (by rw [unhide Hpp, htk]; rfl)
        rw [htk] at HT
        have HOr := hide hOr
        have Htb := hide ht
        have Hmb := hide hm
        have ltb := (Array.getElem?_eq_some_iff.1 ht).1
        have lmb := (Array.getElem?_eq_some_iff.1 hm).1
        generalize ndn ns k = y at *
        clear htk hOr ht hm Hwp Hpp
        go_wp2_with (go_at_call 112; refine ((unhide HT) _).mono ?_; rintro en w1 ⟨rfl, hb1⟩)
        go_roundw
        case rel =>
          have hB : Bw wr w1 := (by repeat (first | exact Bw.refl _ | assumption | refine Bw.drew ?_ | refine Bw.drewN ?_ _ | refine Bw.alloc ?_ _ | refine Bw.trans ?_ (by assumption)))
          exact ⟨k + 1, S', x', by omega, by go_num, hvn, by rw [unhide HW]; exact (unhide HOr).bw hB, (Below.block hB _ ltb).trans (unhide Htb), (Below.block hB _ lmb).trans (unhide Hmb), hnt, hnm, hC.trans (Chg.bw (S := S) hB) (fun _ h => .inl h), hS', by rw [unhide HP]; exact hu.bw hB, hnu⟩
        case measure => simp [intOf]; omega
      | true =>
        obtain ⟨ha0, ha1⟩ := atI_lt (ns := ns) (k := k) (v := v) hi
        have h6k := h6 k hlt
        have Hat : Hid (atN (ndn ns k) W (i : Int) v = atI ns W (i : Int) v k) := hide rfl
        have HWk := hide (fun (w' : World) (h : Bw wr w') => pworks_any (ndn ns k) (i : Int) v w' (hOr.bw h) h6k)
        rw [unhide Hat] at HWk
        obtain ⟨a, hae⟩ := Int.eq_ofNat_of_zero_le ha0
        rw [hae] at HWk Hwp ha1
        have ha : a < W := by omega
        rw [Int.toNat_natCast, htk, if_pos rfl] at Hwp
        rw [htk, if_pos rfl] at Hpp
        rw [htk] at HT
        clear Hat hae ha0 ha1
        obtain ⟨st1, hst1⟩ : ∃ st1 : PSt, { st with wt := wtPut ns W i n ⟨e, 0, v⟩ st.wt k } = st1 := ⟨_, rfl⟩
        have hwt : st1.wt = wtPut ns W i n ⟨e, 0, v⟩ st.wt k := by rw [← hst1]
        have Hst2 : Hid ({ st with wt := wtPut ns W i n ⟨e, 0, v⟩ st.wt (k + 1) } = { st1 with wt := upd2 st1.wt a k (st1.wt a k ++ [⟨e, 0, v⟩]) }) := hide (by rw [← hst1, unhide Hwp])
        have Hw1 : Hid (∀ p q, (upd2 st1.wt a k (st1.wt a k ++ [⟨e, 0, v⟩]) p q).length ≤ 1000000) := hide (fun p q => by
          have h1 := (unhide Hwl) (k + 1) p q
          rw [unhide Hwp] at h1
          rw [hwt]
          split at h1 <;> omega)
        have hw1k : (st1.wt a k).length ≤ 950000 := by
          have h1 := (unhide Hwl) k a k
          rw [hwt]
          split at h1 <;> omega
        rw [hst1] at hOr
        obtain ⟨vq, hq, hvq⟩ := hOr.row.wait a k ha hlt
        obtain ⟨qa, qc, hqe⟩ : ∃ qa qc, vq = .slice qa (st1.wt a k).length qc := ⟨_, _, ownsRow_val hvq.1⟩
        subst hqe
        have HOr := hide hOr
        have Htb := hide ht
        have Hmb := hide hm
        have Hq := hide hq
        have Hvq := hide hvq
        have ltb := (Array.getElem?_eq_some_iff.1 ht).1
        have lmb := (Array.getElem?_eq_some_iff.1 hm).1
        have ha1 : (a : Int) < (W : Int) := by omega
        have hk8 : (k : Int) < 8 := by omega
        generalize putP ns n ⟨e, 0, v⟩ k = pk at *
        generalize ndn ns k = y at *
        obtain ⟨ms, hms⟩ : ∃ ms, st1.wt a k = ms := ⟨_, rfl⟩
        rw [hms] at hw1k Hw1 Hst2 Hvq Hq
        have Hms := hide hms
        try simp only [hms]
        clear hms hwt
        clear htk hOr ht hm Hwp hst1 h6k hq hvq Hwl
        go_wp2_with (first | (go_at_call 112; refine ((unhide HT) _).mono ?_; rintro en w1 ⟨rfl, hb1⟩; have hB1 : Bw wr w1 := (by repeat (first | exact Bw.refl _ | assumption | refine Bw.drew ?_ | refine Bw.drewN ?_ _ | refine Bw.alloc ?_ _ | refine Bw.trans ?_ (by assumption))); have hx1 := (Below.block hb1 wr.heap.size (by simp)).trans (heap_alloc_new wr _); have y0 := cell_of_block (o := 0) hx1 rfl; have y1 := cell_of_block (o := 1) hx1 rfl; have y2 := cell_of_block (o := 2) hx1 rfl; have y3 := cell_of_block (o := 3) hx1 rfl; have y4 := cell_of_block (o := 4) hx1 rfl; have yl := (Array.getElem?_eq_some_iff.1 hx1).1; clear hx1) | (go_at_call 113; refine ((unhide HWk) _ hB1).mono ?_; rintro en w2 ⟨rfl, hb2⟩; have hB2 : Bw wr w2 := hB1.trans hb2; have hO2 := (unhide HOr).bw hB2; have p3 := cell_of_block (o := 3) hO2.root hO2.r3; have l0 := hO2.slt _ hO2.sroot; have l1 := hO2.slt _ hO2.swork; have pq := cell_of_block (o := a * 3684 + 16 + k) hO2.work (unhide Hq); have hm2 := (Below.block hB2 _ lmb).trans (unhide Hmb); have m0 := cell_of_block (o := 0) hm2 rfl; have m1 := cell_of_block (o := 1) hm2 rfl; have m2 := cell_of_block (o := 2) hm2 rfl; have ml := (Array.getElem?_eq_some_iff.1 hm2).1; clear hO2 hm2))
        go_region_law (refine stepL rfl _ _ _ 62 rfl _ 3 24 Tryz.infoMessage Tryz.underlying58 rfl (by decide) 0 (.slice qa ms.length qc) ms.length (gvCells ms) rfl (ownsRow_bw (unhide Hvq).1 fun g hg => Below.block (show Bw wr _ from (by repeat (first | exact Bw.refl _ | assumption | refine Bw.drew ?_ | refine Bw.drewN ?_ _ | refine Bw.alloc ?_ _ | refine Bw.trans ?_ (by assumption)))) g hg) _ _ (Gv.cells ⟨e, 0, v⟩) rfl rfl (gv_cells (cell_of_block (alloc_at _ _ (by simp)) rfl) (cell_of_block (alloc_at _ _ (by simp)) rfl) (cell_of_block (alloc_at _ _ (by simp)) rfl)) (gv_one _) (by omega) (by omega) (Nat.zero_le _) ?_; intro g' cap w4 ho4 hg4 hl4; have q4 := grown_block (ownsRow_bw (unhide Hvq).1 fun g hg => Below.block (show Bw wr _ from (by repeat (first | exact Bw.refl _ | assumption | refine Bw.drew ?_ | refine Bw.drewN ?_ _ | refine Bw.alloc ?_ _ | refine Bw.trans ?_ (by assumption)))) g hg) hg4 ((unhide HOr).bw (show Bw wr _ from (by repeat (first | exact Bw.refl _ | assumption | refine Bw.drew ?_ | refine Bw.drewN ?_ _ | refine Bw.alloc ?_ _ | refine Bw.trans ?_ (by assumption))))).work (.inl (by decide)); have q7 := cell_of_block q4 (unhide Hq); have q7f := frozen_of_block (o := a * 3684 + 16 + k) q4; have q7l := (Array.getElem?_eq_some_iff.1 q4).1; clear q4)
        all_goals (
          obtain ⟨wB, hwB, hBB⟩ : ∃ wB, wB = (w2.alloc (.cells #[.int .i64 e, .int .i64 0, .int .i64 v] 62)).drew ∧ Bw wr wB := ⟨_, rfl, (by repeat (first | exact Bw.refl _ | assumption | refine Bw.drew ?_ | refine Bw.drewN ?_ _ | refine Bw.alloc ?_ _ | refine Bw.trans ?_ (by assumption)))⟩
          rw [← hwB] at hg4 hl4
          have hvB := ownsRow_bw (unhide Hvq).1 fun g hg => Below.block hBB g hg
          have hO5 := (unhide HOr).waits (unhide Hms) ha hlt hBB (unhide Hq) hvB ho4 hg4 hl4 (unhide Hw1)
          rw [← unhide Hst2] at hO5
          have q4 := grown_block hvB hg4 ((unhide HOr).bw hBB).work (.inl (by decide))
          obtain ⟨x1, x2, x3⟩ := app_chg (q := a * 3684 + 16 + k) (u := .slice (some ⟨g', 0, none⟩) (ms.length + 1) cap) hC hS' hBB hg4 (unhide Hvq).2 (unhide HOr).swork hl4
          obtain ⟨t5, nt5⟩ := x3 tb _ _ hnt (unhide Htb)
          obtain ⟨m5, nm5⟩ := x3 mb _ _ hnm (unhide Hmb)
          have hu5 := ownsRow_setT (k := a * 3684 + 16 + k) (u := .slice (some ⟨g', 0, none⟩) (ms.length + 1) cap) q4 (ownsRow_grown hvB hg4 (hu.bw hBB) (by decide)) (by decide)
          have nu5 : ∀ b, (Value.slice ua pk.length uc).ownBlock = some b → ¬ (S' b ∨ b = g') := fun b hb => by
            obtain ⟨cur, hcur⟩ := own_blk hu hb
            exact (x3 b _ _ (hnu b hb) hcur).2
          obtain ⟨w5, hw5⟩ : ∃ w5, w4.setCell ⟨x'.wb, a * 3684 + 16 + k, none⟩ (.slice (some ⟨g', 0, none⟩) (ms.length + 1) cap) = w5 := ⟨_, rfl⟩
          rw [hw5] at hO5 x1 t5 m5 hu5
          simp only [hw5]
          have z0 := cell_of_block (o := 0) t5 rfl
          have z1 := cell_of_block (o := 1) t5 rfl
          have zl := (Array.getElem?_eq_some_iff.1 t5).1
          have HO5 := hide hO5
          have Ht5 := hide t5
          have Hm5 := hide m5
          have lm5 := (Array.getElem?_eq_some_iff.1 m5).1
          have hz5 := x1.size
          clear hO5 t5 m5 hw5 hwB hvB q4 x3 q7 q7f q7l ho4 hg4 hl4 m0 m1 m2 ml pq p3 l0 l1 hBB
          go_wp2_with (first | (go_at_call 114; refine (pin_any (k : Int) e 0 1 w5).mono ?_; rintro en w6 ⟨rfl, hb6⟩; simp only [Pt.val]) | (at_builtin; refine appL _ rfl _ _ _ 67 rfl _ 5 40 Tryz.infoPoint Tryz.underlying63 rfl (by decide) w.heap.size (.slice ua pk.length uc) pk.length (ptsCells pk) rfl (ownsRow_bw hu5 fun g hg => Below.block (show Bw w5 _ from (by repeat (first | exact Bw.refl _ | assumption | refine Bw.drew ?_ | refine Bw.drewN ?_ _ | refine Bw.alloc ?_ _ | refine Bw.trans ?_ (by assumption)))) g hg) _ _ (Pt.cells ⟨k, false, e, 0, 1⟩) rfl rfl (pt_cells (cell_of_block (alloc_at _ _ (by simp)) rfl) (cell_of_block (alloc_at _ _ (by simp)) rfl) (cell_of_block (alloc_at _ _ (by simp)) rfl) (cell_of_block (alloc_at _ _ (by simp)) rfl) (cell_of_block (alloc_at _ _ (by simp)) rfl)) (pt_one _) (by omega) (by omega) (Nat.le_trans hz5 (Bw.size (show Bw w5 _ from (by repeat (first | exact Bw.refl _ | assumption | refine Bw.drew ?_ | refine Bw.drewN ?_ _ | refine Bw.alloc ?_ _ | refine Bw.trans ?_ (by assumption)))))) ?_; intro g6 cap6 w7 ho7 hg7 hl7))
          go_roundw
          case rel =>
            obtain ⟨wC, hwC, hBC⟩ : ∃ wC, wC = w6.alloc (.cells #[.int .i64 (k : Int), .bool false, .int .i64 e, .int .i64 0, .int .i64 1] 67) ∧ Bw w5 wC := ⟨_, rfl, (by repeat (first | exact Bw.refl _ | assumption | refine Bw.drew ?_ | refine Bw.drewN ?_ _ | refine Bw.alloc ?_ _ | refine Bw.trans ?_ (by assumption)))⟩
            rw [← hwC] at hg7 hl7
            have huC := ownsRow_bw hu5 fun g hg => Below.block hBC g hg
            have hOC := (unhide HO5).bw hBC
            refine ⟨k + 1, _, _, by omega, by go_num, ?_, hOC.frame hg7.size (fun b hb hl => hg7.block b hl (fun e => nu5 b e.symm hb)), grown_block huC hg7 ((Below.block hBC _ zl).trans (unhide Ht5)) (.inl (by decide)), grown_block huC hg7 ((Below.block hBC _ lm5).trans (unhide Hm5)) (.inl (by decide)), nt5, nm5, ?_, x2, ?_, ?_⟩
            · exact hvn
            · have k2 : Chg (fun b => (Value.slice ua pk.length uc).ownBlock = some b) wC w7 := ⟨hg7.os, hg7.tape, hg7.output, hg7.size, fun i hi hn => hg7.block i hi (fun e => hn e.symm)⟩
              exact (x1.trans (Chg.bw (S := S) hBC) (fun _ h => .inl h)).trans k2 (fun b hb => .inr (World.ownsRow.lt huC b hb).1)
            · rw [unhide Hpp]; exact OwnP.snoc ho7
            · intro b hb
              simp only [Value.ownBlock, Option.some.injEq] at hb
              subst hb
              rcases hl7 with h | h
              · exact nu5 _ h
              · intro hs
                have h1 := (unhide HO5).slt _ hs
                have h2 := hBC.size
                omega
          case measure => simp [intOf]; omega)
    · have hkk : k = ns.length := by omega
      subst hkk
      have HOr := hide hOr
      clear hOr ht hm
      go_wp2_with fail
      go_ret
      exact ⟨_, rfl, hu, S', x', unhide HOr, hC, hS'⟩
end Go.Proofs.YtfemleimkbjehaaGreat
namespace Go.Proofs.YtfemleimkbjehaaGreat
set_option linter.unusedVariables false
set_option linter.unusedSimpArgs false
open Go.RowKit

theorem PRow.gvAny {w : World} {S : Nat → Prop} {warr : Array Value} {L W : Nat} {st : PSt} (h : PRow w S warr L W st) (v : Int) : PRow w S warr L W { st with gv := v } := ⟨h.size, h.src, h.wait, h.bel, h.way, h.own, h.inj⟩
theorem POwn.setGv {w : World} {S : Nat → Prop} {pb : Nat} {x : PX} {ns : List Nd} {R W : Nat} {D : Nat → Nat → Int} {st : PSt} (h : POwn w S pb x ns R W D st) (v : Int) : POwn (w.setCell ⟨pb, 4, none⟩ (.int .i64 v)) S pb { x with rarr := x.rarr.setIfInBounds 4 (.int .i64 v) } ns R W D { st with gv := v } := by
  have hne : x.wb ≠ pb := fun e => by have h1 := h.work; rw [e, h.root] at h1; simp at h1
  have h4 : 4 < x.rarr.size := (Array.getElem?_eq_some_iff.1 h.r4).1
  have frO : ∀ (ty : TypeId) (sz : Nat) (u : Value) (m : Nat) (ys : List Value), ty ≠ 92 → OwnsIn S w ty sz u m ys → OwnsIn S (w.setCell ⟨pb, 4, none⟩ (.int .i64 v)) ty sz u m ys := fun ty sz u m ys ht ho => ho.set h.root ht
  exact ⟨heap_setCell_at h.root, (Array.getElem?_setIfInBounds_ne (by decide)).trans h.r0, (Array.getElem?_setIfInBounds_ne (by decide)).trans h.r1, (Array.getElem?_setIfInBounds_ne (by decide)).trans h.r2, (Array.getElem?_setIfInBounds_ne (by decide)).trans h.r3, Array.getElem?_setIfInBounds_self_of_lt h4, (Below.heap_setCell w ⟨pb, 4, none⟩ _ x.wb hne).trans h.work, h.sroot, h.swork, fun b hb => by simpa using h.slt b hb, frO _ _ _ _ _ (by decide) h.nodes, h.dist.map fun ty _ _ _ _ ht ho => frO _ _ _ _ _ (by rcases ht with rfl | rfl <;> decide) ho, (h.row.map (fun _ h => h) fun ty _ _ _ _ ht ho => frO _ _ _ _ _ (by rcases ht with rfl | rfl <;> decide) ho).gvAny v, h.small, h.few⟩
theorem After.of {w w1 w2 : World} {S S1 : Nat → Prop} {pb : Nat} {ns : List Nd} {R W : Nat} {D : Nat → Nat → Int} {st : PSt} (hC : Chg S w w1) (hS : ∀ b, S1 b → S b ∨ w.heap.size ≤ b) (h : POwn.After w1 w2 S1 pb ns R W D st) : POwn.After w w2 S pb ns R W D st := by
  obtain ⟨S2, x2, h1, h2, h3⟩ := h
  have hz := hC.size
  exact ⟨S2, x2, h1, hC.trans h2 hS, fun b hb => by
    rcases h3 b hb with h | h
    · exact hS b h
    · exact .inr (by omega)⟩

def pgiveE (ns : List Nd) (W : Nat) (st : PSt) (w n : Int) : Int := if psrcE ns W st.cl w n != 0 then psrcE ns W st.cl w n else if decide (20 ≤ st.gv) then 5 else 0
def pgiveSt (ns : List Nd) (W : Nat) (st : PSt) (i m : Nat) (v : Int) : PSt := { st with gv := st.gv + 1, wt := wtPut ns W i m ⟨st.ep i m, 0, v⟩ st.wt ns.length, tb := upd1 st.tb i (tabPts 4 (st.tb i) (putP ns m ⟨st.ep i m, 0, v⟩ ns.length) (putP ns m ⟨st.ep i m, 0, v⟩ ns.length).length), lim := st.lim + W }
def pgiveS (ns : List Nd) (W : Nat) (st : PSt) (w n v : Int) : PSt := if pgiveE ns W st w n == 0 then pgiveSt ns W st w.toNat n.toNat v else st
theorem putP_ok {ns : List Nd} {n : Int} {m : Gv} {e : Nat} (h8 : ns.length ≤ 8) (he : m.node = e) (h6 : e < 6) (hr : m.epoch = 0) : ∀ k, k ≤ ns.length → ∀ p ∈ putP ns n m k, PtOk 8 4 p := by
  intro k
  induction k with
  | zero => intro _ p hp; simp [putP] at hp
  | succ k ih =>
    intro hk p hp
    unfold putP at hp
    split at hp
    · rcases List.mem_append.1 hp with h | h
      · exact ih (by omega) p h
      · simp at h
        subst h
        exact ⟨k, e, 0, rfl, by omega, he, h6, by simpa using hr, by omega⟩
    · exact ih (by omega) p hp
theorem psrcE_zero {ns : List Nd} {W : Nat} {cl : Nat → Nat → Bool} {w n : Int} (h : psrcE ns W cl w n = 0) : ∃ i m : Nat, w = i ∧ n = m ∧ i < W ∧ m < ns.length := by
  unfold psrcE at h
  split at h
  · rename_i hb
    simp only [Bool.and_eq_true] at hb
    obtain ⟨h1, h2, _⟩ := hb
    obtain ⟨i, rfl, hi⟩ := isWk_iff.1 h1
    obtain ⟨b1, b2⟩ := isNodeB_iff.1 h2
    obtain ⟨m, rfl⟩ := Int.eq_ofNat_of_zero_le b1
    exact ⟨i, m, rfl, rfl, hi, by omega⟩
  · simp at h

set_option maxRecDepth 100000 in
set_option maxHeartbeats 4000000 in
theorem prgive_any {S : Nat → Prop} {pb : Nat} {x : PX} {ns : List Nd} {R W : Nat} {D : Nat → Nat → Int} {st : PSt} (wk n v : Int) (w : World) (hO : POwn w S pb x ns R W D st) (h6 : ∀ k, k < ns.length → (ndn ns k).kind = 6 → 1 ≤ (ndn ns k).k ∧ (ndn ns k).k ≤ 8) (hf : ∀ a b, (st.wt a b).length ≤ 900000) (hlim : st.lim + 4 ≤ 1000000) (hep : ∀ a b, ∃ k : Nat, st.ep a b = k ∧ k < 6) (hgv : 0 ≤ st.gv ∧ st.gv ≤ 1000) :
    Calls Tryz.prog 56 #[.pointer (some ⟨pb, 0, none⟩), .int .i64 wk, .int .i64 n, .int .i64 v] w fun e w' => e = .returned (.int .i64 (pgiveE ns W st wk n)) ∧ POwn.After w w' S pb ns R W D (pgiveS ns W st wk n v) := by
  have Hsrc := hide (psrc_any wk n w hO)
  have HO := hide hO
  cases hse : (psrcE ns W st.cl wk n != 0) with
  | true =>
    have He : Hid (pgiveE ns W st wk n = psrcE ns W st.cl wk n) := hide (by unfold pgiveE; rw [if_pos hse])
    have Hne : Hid (psrcE ns W st.cl wk n ≠ 0) := hide (by simpa using hse)
    have Hs : Hid (pgiveS ns W st wk n v = st) := hide (by unfold pgiveS; rw [unhide He, if_neg (by simpa using unhide Hne)])
    generalize psrcE ns W st.cl wk n = se at *
    clear hO hep hf h6
    go_enter Tryz.func56, Tryz.ntmps56
    go_wp2_with (go_at_call 86; refine (unhide Hsrc).mono ?_; rintro e w1 ⟨rfl, hb1⟩)
    go_ret
    exact ⟨ret_int (unhide He).symm, by rw [unhide Hs]; exact ⟨S, x, (unhide HO).bw hb1, Chg.bw hb1, fun _ h => .inl h⟩⟩
  | false =>
    have hs0 : psrcE ns W st.cl wk n = 0 := by simpa using hse
    have HE : Hid (pgiveE ns W st wk n = if decide (20 ≤ st.gv) then 5 else 0) := hide (by unfold pgiveE; rw [hse]; rfl)
    obtain ⟨i, m, rfl, rfl, hi, hm⟩ := psrcE_zero hs0
    rw [hs0] at Hsrc
    by_cases h20 : 20 ≤ st.gv
    · have hd20 : decide (20 ≤ st.gv) = true := by simpa using h20
      have He : Hid (pgiveE ns W st i m = 5) := hide (by rw [unhide HE, hd20]; rfl)
      have Hs : Hid (pgiveS ns W st i m v = st) := hide (by unfold pgiveS; rw [unhide He]; rfl)
      clear hO hep hf h6 hse hs0 HE
      go_enter Tryz.func56, Tryz.ntmps56
      go_wp2_with (go_at_call 86; refine (unhide Hsrc).mono ?_; rintro e w1 ⟨rfl, hb1⟩; have hO1 := (unhide HO).bw hb1; have c4 := cell_of_block (o := 4) hO1.root hO1.r4; have l0 := hO1.slt _ hO1.sroot; clear hO1)
      go_ret
      exact ⟨ret_int (unhide He).symm, by rw [unhide Hs]; exact ⟨S, x, (unhide HO).bw hb1, Chg.bw hb1, fun _ h => .inl h⟩⟩
    · have hd20 : decide (20 ≤ st.gv) = false := by simpa using h20
      have He : Hid (pgiveE ns W st i m = 0) := hide (by rw [unhide HE, hd20]; rfl)
      have Hs : Hid (pgiveS ns W st i m v = pgiveSt ns W st i m v) := hide (by unfold pgiveS; rw [unhide He]; rfl)
      have h8 := hO.small
      clear hO hse hs0 HE
      go_enter Tryz.func56, Tryz.ntmps56
      go_wp2_with (go_at_call 86; refine (unhide Hsrc).mono ?_; rintro e w1 ⟨rfl, hb1⟩; have hO1 := (unhide HO).bw hb1; have c4 := cell_of_block (o := 4) hO1.root hO1.r4; have c4f := frozen_of_block (o := 4) hO1.root; have l0 := hO1.slt _ hO1.sroot; have HO2 := hide (hO1.setGv (st.gv + 1)); clear hO1)
      obtain ⟨w2, hw2⟩ : ∃ w2, w1.setCell ⟨pb, 4, none⟩ (.int .i64 (st.gv + 1)) = w2 := ⟨_, rfl⟩
      have hC2 : Chg S w w2 := by rw [← hw2]; exact (Chg.bw (S := S) hb1).trans (chg_set _ _ _ _) (fun b h => .inl (h ▸ (unhide HO).sroot))
      rw [hw2] at HO2
      rw [hw2]
      clear hw2 c4 c4f l0 Hsrc
      obtain ⟨ep, hepe, hep6⟩ := hep i m
      have Htm := hide (psrcTime_any i m w2 (unhide HO2) hi hm)
      simp only [hepe] at Htm
      refine (unhide Htm).mono ?_
      rintro e3 w3 ⟨rfl, hb3⟩
      go_wp2_with fail
      obtain ⟨w4, hw4, hb4⟩ : ∃ w4, w3.alloc (.cells #[.int .i64 (ep : Int), .int .i64 0] 72) = w4 ∧ Bw w3 (w3.alloc (.cells #[.int .i64 (ep : Int), .int .i64 0] 72)) := ⟨_, rfl, (by repeat (first | exact Bw.refl _ | assumption | refine Bw.drew ?_ | refine Bw.drewN ?_ _ | refine Bw.alloc ?_ _ | refine Bw.trans ?_ (by assumption)))⟩
      rw [hw4] at hb4
      rw [hw4]
      clear hw4
      have hb24 : Bw w2 w4 := hb3.trans hb4
      refine (pput_any i (m : Int) (ep : Int) v w4 ((unhide HO2).bw hb24) hi h6 hf).mono ?_
      rintro e5 w5 ⟨u, rfl, hou, S5, x5, hO5, hC5, hS5⟩
      obtain ⟨ua, uc, hue⟩ : ∃ ua uc, u = .slice ua (putP ns m ⟨ep, 0, v⟩ ns.length).length uc := ⟨_, _, ownsRow_val hou⟩
      subst hue
      have hC25 : Chg S w w5 := (hC2.trans (Chg.bw (S := S) hb24) (fun _ h => .inl h)).trans hC5 (fun _ h => .inl h)
      have hz2 := hC2.size
      have hz24 := hb24.size
      have hS25 : ∀ b, S5 b → S b ∨ w.heap.size ≤ b := fun b hb => by
        rcases hS5 b hb with h | h
        · exact .inl h
        · exact .inr (by omega)
      have hpl := putP_len ns (m : Int) ⟨ep, 0, v⟩ ns.length
      go_wp2_with fail
      refine (pmake_any i (putP ns m ⟨ep, 0, v⟩ ns.length) ua uc w5 hO5 hi (cellsAt_own hou) (fun j hj => putP_ok h8.1 rfl hep6 rfl _ (Nat.le_refl _) _ (ptn_mem hj)) (by omega) hlim).mono ?_
      rintro e6 w6 ⟨rfl, hA6⟩
      have HA := hide (After.of hC25 hS25 hA6)
      clear hA6 hO5
      go_wp2_with fail
      go_ret
      exact ⟨ret_int (unhide He).symm, by rw [unhide Hs]; unfold pgiveSt; rw [hepe]; exact unhide HA⟩
end Go.Proofs.YtfemleimkbjehaaGreat
