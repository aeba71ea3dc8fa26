import Derived.Test.YtfemleimkbjehaaGreatJ18
set_option maxRecDepth 1000000
set_option maxHeartbeats 40000000
set_option linter.unusedVariables false
set_option linter.unusedSimpArgs false
namespace Go.Proofs.YtfemleimkbjehaaGreat
open Go.RowKit
def zM (ns : List Nd) (W : Nat) (w n : Int) (m : Gv) (wt : Nat → Nat → List Gv) : Nat → (Nat → Nat → List Gv)
  | 0 => wt
  | k + 1 => if kZ (qT ns k) n then kF (zM ns W w n m wt k) (atI ns W w m.value k).toNat k (zM ns W w n m wt k (atI ns W w m.value k).toNat k ++ [m]) else zM ns W w n m wt k
theorem wtPut_len (ns : List Nd) (W : Nat) (w n : Int) (m : Gv) (wt : Nat → Nat → List Gv) (B : Nat) (h : ∀ i j, (wt i j).length ≤ B) : ∀ k i j, (zM ns W w n m wt k i j).length ≤ B + (if j < k then 1 else 0) := by
  intro k
  induction k with
  | zero => intro i j; simpa [zM] using h i j
  | succ k ih =>
    intro i j
    unfold zM
    split
    · unfold kF
      split
      · rename_i e
        have := ih (atI ns W w m.value k).toNat k
        rw [if_neg (by omega)] at this
        rw [List.length_append, e.2, if_pos (by omega)]
        simp
        omega
      · have := ih i j
        split <;> split at this <;> omega
    · have := ih i j
      split <;> split at this <;> omega
theorem atI_lt {ns : List Nd} {W : Nat} {i k : Nat} {v : Int} (hi : i < W) : 0 ≤ atI ns W (i : Int) v k ∧ atI ns W (i : Int) v k < W := by
  unfold atI
  split
  · exact ⟨Int.emod_nonneg _ (by omega), Int.emod_lt_of_pos _ (by omega)⟩
  · split
    · exact ⟨Int.emod_nonneg _ (by omega), Int.emod_lt_of_pos _ (by omega)⟩
    · omega
theorem POwn.waits {w wa w4 : World} {S : Nat → Prop} {pb i m g' c : Nat} {x : PX} {ns : List Nd} {R W : Nat} {D : Nat → Nat → Int} {st : PSt} {v : Value} {y : Gv} {ms : List Gv} (h : POwn w S pb x ns R W D st) (hms : st.wt i m = ms) (hi : i < W) (hm : m < ns.length) (hb : Bw w wa) (hq : x.warr[i * 3684 + 16 + m]? = some v) (hown : wa.ownsRow 0 62 3 v ms.length (qH ms))
    (ho : w4.ownsRow 0 62 3 (.slice (some ⟨g', 0, none⟩) (ms.length + 1) c) (ms.length + 1) (qH ms ++ y.cells)) (hg : wa.grownBy w4 v.ownBlock) (hl : v.ownBlock = some g' ∨ g' = wa.heap.size) (hf : ∀ a b, (kF st.wt i m (ms ++ [y]) a b).length ≤ 100000000) :
    POwn (w4.setCell ⟨x.wb, i * 3684 + 16 + m, none⟩ (.slice (some ⟨g', 0, none⟩) (ms.length + 1) c)) (fun b => S b ∨ b = g') pb { x with warr := x.warr.setIfInBounds (i * 3684 + 16 + m) (.slice (some ⟨g', 0, none⟩) (ms.length + 1) c) } ns R W D { st with wt := kF st.wt i m (ms ++ [y]) } := by
  subst hms
  have hgp := xN (fun b hbb => jZ hown hbb) hg
  refine h.appRow hb 62 (.inl rfl) hg.size hgp (World.ownsRow.lt ho g' rfl).2 (fun hw4 => h.row.addMsg 16 h.small.1 hi hm (.inl rfl) h.work h.slt hb hq (hgp _ (by decide)) ho hg hl hw4 ⟨rfl, rfl, rfl, rfl, rfl⟩ (fun a b _ _ => ?_) (fun a b _ _ => ?_)) ⟨rfl, rfl⟩ (fun a b => ⟨hf a b, (h.few.1 a b).2⟩)
  · simp [kF]
  · rw [if_neg (fun h => by omega)]
theorem POwn.lets {w wa w4 : World} {S : Nat → Prop} {pb i m g' c : Nat} {x : PX} {ns : List Nd} {R W : Nat} {D : Nat → Nat → Int} {st : PSt} {v : Value} {y : Gv} {ms : List Gv} (h : POwn w S pb x ns R W D st) (hms : st.lb i m = ms) (hi : i < W) (hm : m < ns.length) (hb : Bw w wa) (hq : x.warr[i * 3684 + 24 + m]? = some v) (hown : wa.ownsRow 0 62 3 v ms.length (qH ms))
    (ho : w4.ownsRow 0 62 3 (.slice (some ⟨g', 0, none⟩) (ms.length + 1) c) (ms.length + 1) (qH ms ++ y.cells)) (hg : wa.grownBy w4 v.ownBlock) (hl : v.ownBlock = some g' ∨ g' = wa.heap.size) (hf : ms.length + 1 ≤ 100000000) :
    POwn (w4.setCell ⟨x.wb, i * 3684 + 24 + m, none⟩ (.slice (some ⟨g', 0, none⟩) (ms.length + 1) c)) (fun b => S b ∨ b = g') pb { x with warr := x.warr.setIfInBounds (i * 3684 + 24 + m) (.slice (some ⟨g', 0, none⟩) (ms.length + 1) c) } ns R W D { st with lb := kF st.lb i m (ms ++ [y]) } := by
  subst hms
  have hgp := xN (fun b hbb => jZ hown hbb) hg
  refine h.appRow hb 62 (.inl rfl) hg.size hgp (World.ownsRow.lt ho g' rfl).2 (fun hw4 => h.row.addMsg 24 h.small.1 hi hm (.inr rfl) h.work h.slt hb hq (hgp _ (by decide)) ho hg hl hw4 ⟨rfl, rfl, rfl, rfl, rfl⟩ (fun a b _ _ => ?_) (fun a b _ _ => ?_)) ⟨rfl, rfl⟩ (fun a b => ⟨(h.few.1 a b).1, ?_, (h.few.1 a b).2.2⟩)
  · rw [if_neg (fun h => by omega)]
  · simp [kF]
  · simp only [kF]
    split
    · rw [List.length_append]; exact hf
    · exact (h.few.1 a b).2.1
theorem pput_any {S : Nat → Prop} {pb : Nat} {x : PX} {ns : List Nd} {R W : Nat} {D : Nat → Nat → Int} {st : PSt} (i : Nat) (n e rr v : Int) (w : World) (hO : POwn w S pb x ns R W D st) (hi : i < W) (h6 : ∀ k, k < ns.length → (qT ns k).kind = 6 → 1 ≤ (qT ns k).k ∧ (qT ns k).k ≤ 8) (hf : ∀ a b, (st.wt a b).length ≤ 90000000) :
    Calls Tryz.prog 88 #[.pointer (some ⟨pb, 0, none⟩), .int .i64 (i : Int), .int .i64 n, .agg #[.int .i64 e, .int .i64 rr], .int .i64 v] w fun en w' => ∃ u, en = .returned u ∧ OwnP w w' u (jR ns n ⟨e, rr, v⟩ ns.length) ∧ POwn.After w w' S pb ns R W D { st with wt := zM ns W i n ⟨e, rr, v⟩ st.wt ns.length } := by
  have h8 := hO.small
  have HO := qJ hO
  obtain ⟨na, nc, hvn, hnd⟩ := hO.ns
  have c0 := qQ (o := 0) hO.root (hvn ▸ hO.r0)
  have lt0 := hO.slt _ hO.sroot
  clear hO
  go_enter Tryz.func88, Tryz.ntmps88
  go_wp2_with fail
  obtain ⟨w0, hw0⟩ : ∃ w0, (w.alloc (.cells #[.int .i64 e, .int .i64 rr] 72)).alloc (.cells #[.int .i64 e, .int .i64 rr, .int .i64 v] 62) = w0 := ⟨_, rfl⟩
  have hA := alloc2 w (.cells #[.int .i64 e, .int .i64 rr] 72) (.cells #[.int .i64 e, .int .i64 rr, .int .i64 v] 62)
  rw [hw0] at hA
  rw [hw0]
  obtain ⟨ht0, hm0, hB0⟩ := hA
  clear hw0
  have hnt : ¬ S w.heap.size := fun h => by have := (qK HO).slt _ h; omega
  have hnm : ¬ S (w.heap.size + 1) := fun h => by have := (qK HO).slt _ h; omega
  obtain ⟨tb, htb⟩ : ∃ tb, w.heap.size = tb := ⟨_, rfl⟩
  rw [htb] at ht0 hm0 hnt hnm
  rw [htb]
  obtain ⟨mb, hmb⟩ : ∃ mb, tb + 1 = mb := ⟨_, rfl⟩
  rw [hmb] at hm0 hnm
  rw [hmb]
  clear htb hmb
  have hO0 := (qK HO).bw hB0
  have hC0 : Chg S w w0 := Chg.bw hB0
  have Hvn := qJ hvn
  have HO0 := qJ hO0
  clear hO0 hvn hnd c0 lt0
  go_loopw [12, 29] (fun u idx wr => ∃ (k : Nat) (S' : Nat → Prop) (x' : PX), k ≤ ns.length ∧ idx = .int .i64 k ∧ x'.vn = .slice na ns.length nc ∧ POwn wr S' pb x' ns R W D { st with wt := zM ns W i n ⟨e, rr, v⟩ st.wt k } ∧ wr.heap[tb]? = some (.cells #[.int .i64 e, .int .i64 rr] 72 (0, 0)) ∧ wr.heap[mb]? = some (.cells #[.int .i64 e, .int .i64 rr, .int .i64 v] 62 (0, 0)) ∧ ¬ S' tb ∧ ¬ S' mb ∧ Chg S w wr ∧ (∀ b, S' b → S b ∨ w.heap.size ≤ b) ∧ OwnP w wr u (jR ns n ⟨e, rr, v⟩ k) ∧ (∀ b, u.ownBlock = some b → ¬ S' b)) (fun _ idx _ => ns.length - (intOf idx).toNat)
  case atStart => exact ⟨0, S, x, Nat.zero_le _, rfl, qK Hvn, qK HO0, ht0, hm0, hnt, hnm, hC0, fun _ h => .inl h, OwnP.nil _ _, by simp [Value.ownBlock]⟩
  case round =>
    clear hC0 ht0 hm0 hnt hnm HO0 hB0
    obtain ⟨k, S', x', hk, rfl, hvn, hOr, ht, hm, hnt, hnm, hC, hS', hu, hnu⟩ := hrel
    rename World => wr
    have hz := hC.size
    have hpl := xY ns n ⟨e, rr, v⟩ k
    obtain ⟨ua, uc, hue⟩ : ∃ ua uc, u12 = .slice ua (jR ns n ⟨e, rr, v⟩ k).length uc := ⟨_, _, qV hu⟩
    subst hue
    by_cases hlt : k < ns.length
    · obtain ⟨b, off, eb, hb, hc⟩ := (show NodesAt wr na ns from by have := nodesAt_row hOr.nodes.1; rw [hvn] at this; exact this) k hlt
      subst eb
      obtain ⟨d0, d1, d2, d3, d4⟩ := hc k hlt
      clear hc
      have HT := qJ (fun w => vG (qT ns k) n w)
      have Hwp : Hid (zM ns W i n ⟨e, rr, v⟩ st.wt (k + 1) = if kZ (qT ns k) n then kF (zM ns W i n ⟨e, rr, v⟩ st.wt k) (atI ns W i v k).toNat k (zM ns W i n ⟨e, rr, v⟩ st.wt k (atI ns W i v k).toNat k ++ [⟨e, rr, v⟩]) else zM ns W i n ⟨e, rr, v⟩ st.wt k) := qJ rfl
      have Hpp : Hid (jR ns n ⟨e, rr, v⟩ (k + 1) = if kZ (qT ns k) n then jR ns n ⟨e, rr, v⟩ k ++ [⟨k, false, e, rr, 1⟩] else jR ns n ⟨e, rr, v⟩ k) := qJ rfl
      have Hwl := qJ (wtPut_len ns W i n ⟨e, rr, v⟩ st.wt 90000000 hf)
      cases htk : kZ (qT ns k) n with
      | false =>
        have HW : Hid (zM ns W i n ⟨e, rr, v⟩ st.wt (k + 1) = zM ns W i n ⟨e, rr, v⟩ st.wt k) := qJ (by rw [qK Hwp, htk]; rfl)
        have HP : Hid (jR ns n ⟨e, rr, v⟩ (k + 1) = jR ns n ⟨e, rr, v⟩ k) := qJ (by rw [qK Hpp, htk]; rfl)
        rw [htk] at HT
        have HOr := qJ hOr
        have Htb := qJ ht
        have Hmb := qJ hm
        have ltb := (Array.getElem?_eq_some_iff.1 ht).1
        have lmb := (Array.getElem?_eq_some_iff.1 hm).1
        generalize qT ns k = y at *
        clear htk hOr ht hm Hwp Hpp
        go_wp2_with (go_at_call 112; refine ((qK HT) _).mono ?_; rintro en w1 ⟨rfl, hb1⟩)
        go_roundw
        case rel =>
          have hB : Bw wr w1 := (by repeat first|exact br _|assumption|apply bd|apply bn|apply ba|refine bt ?_ (by assumption))
          exact ⟨k + 1, S', x', by omega, by go_num, hvn, by rw [qK HW]; exact (qK HOr).bw hB, (Below.block hB _ ltb).trans (qK Htb), (Below.block hB _ lmb).trans (qK Hmb), hnt, hnm, hC.trans (Chg.bw (S := S) hB) (fun _ h => .inl h), hS', by rw [qK HP]; exact hu.bw hB, hnu⟩
        case measure => simp [intOf]; omega
      | true =>
        obtain ⟨ha0, ha1⟩ := atI_lt (ns := ns) (k := k) (v := v) hi
        have h6k := h6 k hlt
        have Hat : Hid (atN (qT ns k) W (i : Int) v = atI ns W (i : Int) v k) := qJ rfl
        have HWk := qJ (fun (w' : World) (h : Bw wr w') => pworks_any (qT ns k) (i : Int) v w' (hOr.bw h) h6k)
        rw [qK Hat] at HWk
        obtain ⟨a, hae⟩ := Int.eq_ofNat_of_zero_le ha0
        rw [hae] at HWk Hwp ha1
        have ha : a < W := by omega
        rw [Int.toNat_natCast, htk, if_pos rfl] at Hwp
        rw [htk, if_pos rfl] at Hpp
        rw [htk] at HT
        clear Hat hae ha0 ha1
        obtain ⟨st1, hst1⟩ : ∃ st1 : PSt, { st with wt := zM ns W i n ⟨e, rr, v⟩ st.wt k } = st1 := ⟨_, rfl⟩
        have hwt : st1.wt = zM ns W i n ⟨e, rr, v⟩ st.wt k := by rw [← hst1]
        have Hst2 : Hid ({ st with wt := zM ns W i n ⟨e, rr, v⟩ st.wt (k + 1) } = { st1 with wt := kF st1.wt a k (st1.wt a k ++ [⟨e, rr, v⟩]) }) := qJ (by rw [← hst1, qK Hwp])
        have Hw1 : Hid (∀ p q, (kF st1.wt a k (st1.wt a k ++ [⟨e, rr, v⟩]) p q).length ≤ 100000000) := qJ (fun p q => by
          have h1 := (qK Hwl) (k + 1) p q
          rw [qK Hwp] at h1
          rw [hwt]
          split at h1 <;> omega)
        have hw1k : (st1.wt a k).length ≤ 95000000 := by
          have h1 := (qK Hwl) k a k
          rw [hwt]
          split at h1 <;> omega
        rw [hst1] at hOr
        obtain ⟨vq, hq, hvq⟩ := hOr.row.wait a k ha hlt
        obtain ⟨qa, qc, hqe⟩ : ∃ qa qc, vq = .slice qa (st1.wt a k).length qc := ⟨_, _, qV hvq.1⟩
        subst hqe
        have HOr := qJ hOr
        have Htb := qJ ht
        have Hmb := qJ hm
        have Hq := qJ hq
        have Hvq := qJ hvq
        have ltb := (Array.getElem?_eq_some_iff.1 ht).1
        have lmb := (Array.getElem?_eq_some_iff.1 hm).1
        have ha1 : (a : Int) < (W : Int) := by omega
        have hk8 : (k : Int) < 8 := by omega
        generalize jR ns n ⟨e, rr, v⟩ k = pk at *
        generalize qT ns k = y at *
        obtain ⟨ms, hms⟩ : ∃ ms, st1.wt a k = ms := ⟨_, rfl⟩
        rw [hms] at hw1k Hw1 Hst2 Hvq Hq
        have Hms := qJ hms
        try simp only [hms]
        clear hms hwt
        clear htk hOr ht hm Hwp hst1 h6k hq hvq Hwl
        go_wp2_with (first | (go_at_call 112; refine ((qK HT) _).mono ?_; rintro en w1 ⟨rfl, hb1⟩; have hB1 : Bw wr w1 := (by repeat first|exact br _|assumption|apply bd|apply bn|apply ba|refine bt ?_ (by assumption)); have hx1 := (Below.block hb1 wr.heap.size (by simp)).trans (heap_alloc_new wr _); have y0 := qQ (o := 0) hx1 rfl; have y1 := qQ (o := 1) hx1 rfl; have y2 := qQ (o := 2) hx1 rfl; have y3 := qQ (o := 3) hx1 rfl; have y4 := qQ (o := 4) hx1 rfl; have yl := (Array.getElem?_eq_some_iff.1 hx1).1; clear hx1) | (go_at_call 113; refine ((qK HWk) _ hB1).mono ?_; rintro en w2 ⟨rfl, hb2⟩; have hB2 : Bw wr w2 := hB1.trans hb2; have hO2 := (qK HOr).bw hB2; have p3 := qQ (o := 3) hO2.root hO2.r3; have l0 := hO2.slt _ hO2.sroot; have l1 := hO2.slt _ hO2.swork; have pq := qQ (o := a * 3684 + 16 + k) hO2.work (qK Hq); have hm2 := (Below.block hB2 _ lmb).trans (qK Hmb); have m0 := qQ (o := 0) hm2 rfl; have m1 := qQ (o := 1) hm2 rfl; have m2 := qQ (o := 2) hm2 rfl; have ml := (Array.getElem?_eq_some_iff.1 hm2).1; clear hO2 hm2))
        go_region_law (refine yT rfl _ _ _ 62 rfl _ 3 24 Tryz.infoMessage Tryz.underlying58 rfl (by decide) 0 (.slice qa ms.length qc) ms.length (qH ms) rfl (qX (qK Hvq).1 fun g hg => Below.block (show Bw wr _ from (by repeat first|exact br _|assumption|apply bd|apply bn|apply ba|refine bt ?_ (by assumption))) g hg) _ _ (Gv.cells ⟨e, rr, v⟩) rfl rfl (gv_cells (qQ (qY _ _ (by simp)) rfl) (qQ (qY _ _ (by simp)) rfl) (qQ (qY _ _ (by simp)) rfl)) (gv_one _) (by omega) (by omega) (Nat.zero_le _) ?_; intro g' cap w4 ho4 hg4 hl4; have q4 := qW (qX (qK Hvq).1 fun g hg => Below.block (show Bw wr _ from (by repeat first|exact br _|assumption|apply bd|apply bn|apply ba|refine bt ?_ (by assumption))) g hg) hg4 ((qK HOr).bw (show Bw wr _ from (by repeat first|exact br _|assumption|apply bd|apply bn|apply ba|refine bt ?_ (by assumption)))).work (.inl (by decide)); have q7 := qQ q4 (qK Hq); have q7f := qZ (o := a * 3684 + 16 + k) q4; have q7l := (Array.getElem?_eq_some_iff.1 q4).1; clear q4)
        all_goals (
          obtain ⟨wB, hwB, hBB⟩ : ∃ wB, wB = (w2.alloc (.cells #[.int .i64 e, .int .i64 rr, .int .i64 v] 62)).drew ∧ Bw wr wB := ⟨_, rfl, (by repeat first|exact br _|assumption|apply bd|apply bn|apply ba|refine bt ?_ (by assumption))⟩
          rw [← hwB] at hg4 hl4
          have hvB := qX (qK Hvq).1 fun g hg => Below.block hBB g hg
          have hO5 := (qK HOr).waits (qK Hms) ha hlt hBB (qK Hq) hvB ho4 hg4 hl4 (qK Hw1)
          rw [← qK Hst2] at hO5
          have q4 := qW hvB hg4 ((qK HOr).bw hBB).work (.inl (by decide))
          obtain ⟨x1, x2, x3⟩ := app_chg (q := a * 3684 + 16 + k) (u := .slice (some ⟨g', 0, none⟩) (ms.length + 1) cap) hC hS' hBB hg4 (qK Hvq).2 (qK HOr).swork hl4
          obtain ⟨t5, nt5⟩ := x3 tb _ _ hnt (qK Htb)
          obtain ⟨m5, nm5⟩ := x3 mb _ _ hnm (qK Hmb)
          have hu5 := qN (k := a * 3684 + 16 + k) (u := .slice (some ⟨g', 0, none⟩) (ms.length + 1) cap) q4 (kQ hvB hg4 (hu.bw hBB) (by decide)) (by decide)
          have nu5 : ∀ b, (Value.slice ua pk.length uc).ownBlock = some b → ¬ (S' b ∨ b = g') := fun b hb => by
            obtain ⟨cur, hcur⟩ := jZ hu hb
            exact (x3 b _ _ (hnu b hb) hcur).2
          obtain ⟨w5, hw5⟩ : ∃ w5, w4.setCell ⟨x'.wb, a * 3684 + 16 + k, none⟩ (.slice (some ⟨g', 0, none⟩) (ms.length + 1) cap) = w5 := ⟨_, rfl⟩
          rw [hw5] at hO5 x1 t5 m5 hu5
          simp only [hw5]
          have z0 := qQ (o := 0) t5 rfl
          have z1 := qQ (o := 1) t5 rfl
          have zl := (Array.getElem?_eq_some_iff.1 t5).1
          have HO5 := qJ hO5
          have Ht5 := qJ t5
          have Hm5 := qJ m5
          have lm5 := (Array.getElem?_eq_some_iff.1 m5).1
          have hz5 := x1.size
          clear hO5 t5 m5 hw5 hwB hvB q4 x3 q7 q7f q7l ho4 hg4 hl4 m0 m1 m2 ml pq p3 l0 l1 hBB
          go_wp2_with (first | (go_at_call 114; refine (pin_any (k : Int) e rr 1 w5).mono ?_; rintro en w6 ⟨rfl, hb6⟩; simp only [Pt.val]) | (at_builtin; refine appL _ rfl _ _ _ 67 rfl _ 5 40 Tryz.infoPoint Tryz.underlying63 rfl (by decide) w.heap.size (.slice ua pk.length uc) pk.length (qR pk) rfl (qX hu5 fun g hg => Below.block (show Bw w5 _ from (by repeat first|exact br _|assumption|apply bd|apply bn|apply ba|refine bt ?_ (by assumption))) g hg) _ _ (Pt.cells ⟨k, false, e, rr, 1⟩) rfl rfl (xV (qQ (qY _ _ (by simp)) rfl) (qQ (qY _ _ (by simp)) rfl) (qQ (qY _ _ (by simp)) rfl) (qQ (qY _ _ (by simp)) rfl) (qQ (qY _ _ (by simp)) rfl)) (pt_one _) (by omega) (by omega) (Nat.le_trans hz5 (Bw.size (show Bw w5 _ from (by repeat first|exact br _|assumption|apply bd|apply bn|apply ba|refine bt ?_ (by assumption))))) ?_; intro g6 cap6 w7 ho7 hg7 hl7))
          go_roundw
          case rel =>
            obtain ⟨wC, hwC, hBC⟩ : ∃ wC, wC = w6.alloc (.cells #[.int .i64 (k : Int), .bool false, .int .i64 e, .int .i64 rr, .int .i64 1] 67) ∧ Bw w5 wC := ⟨_, rfl, (by repeat first|exact br _|assumption|apply bd|apply bn|apply ba|refine bt ?_ (by assumption))⟩
            rw [← hwC] at hg7 hl7
            have huC := qX hu5 fun g hg => Below.block hBC g hg
            have hOC := (qK HO5).bw hBC
            refine ⟨k + 1, _, _, by omega, by go_num, ?_, hOC.frame hg7.size (fun b hb hl => hg7.block b hl (fun e => nu5 b e.symm hb)), qW huC hg7 ((Below.block hBC _ zl).trans (qK Ht5)) (.inl (by decide)), qW huC hg7 ((Below.block hBC _ lm5).trans (qK Hm5)) (.inl (by decide)), nt5, nm5, ?_, x2, ?_, ?_⟩
            · exact hvn
            · have k2 : Chg (fun b => (Value.slice ua pk.length uc).ownBlock = some b) wC w7 := ⟨hg7.os, hg7.tape, hg7.output, hg7.size, fun i hi hn => hg7.block i hi (fun e => hn e.symm)⟩
              exact (x1.trans (Chg.bw (S := S) hBC) (fun _ h => .inl h)).trans k2 (fun b hb => .inr (World.ownsRow.lt huC b hb).1)
            · rw [qK Hpp]; exact OwnP.snoc ho7
            · intro b hb
              simp only [Value.ownBlock, Option.some.injEq] at hb
              subst hb
              rcases hl7 with h | h
              · exact nu5 _ h
              · intro hs
                have h1 := (qK HO5).slt _ hs
                have h2 := hBC.size
                omega
          case measure => simp [intOf]; omega)
    · have hkk : k = ns.length := by omega
      subst hkk
      have HOr := qJ hOr
      clear hOr ht hm
      go_wp2_with fail
      go_ret
      exact ⟨_, rfl, hu, S', x', qK HOr, hC, hS'⟩
theorem PRow.gvAny {w : World} {S : Nat → Prop} {warr : Array Value} {L W : Nat} {st : PSt} (h : PRow w S warr L W st) (v : Int) : PRow w S warr L W { st with gv := v } := ⟨h.size, h.src, h.wait, h.letb, h.tal, h.bel, h.way, h.own, h.inj⟩
theorem POwn.setGv {w : World} {S : Nat → Prop} {pb : Nat} {x : PX} {ns : List Nd} {R W : Nat} {D : Nat → Nat → Int} {st : PSt} (h : POwn w S pb x ns R W D st) (v : Int) : POwn (w.setCell ⟨pb, 4, none⟩ (.int .i64 v)) S pb { x with rarr := x.rarr.setIfInBounds 4 (.int .i64 v) } ns R W D { st with gv := v } := by
  have hne : x.wb ≠ pb := fun e => by have h1 := h.work; rw [e, h.root] at h1; simp at h1
  have h4 : 4 < x.rarr.size := (Array.getElem?_eq_some_iff.1 h.r4).1
  have frO : ∀ (ty : TypeId) (sz : Nat) (u : Value) (m : Nat) (ys : List Value), ty ≠ 92 → OwnsIn S w ty sz u m ys → OwnsIn S (w.setCell ⟨pb, 4, none⟩ (.int .i64 v)) ty sz u m ys := fun ty sz u m ys ht ho => ho.set h.root ht
  exact ⟨qU h.root, (Array.getElem?_setIfInBounds_ne (by decide)).trans h.r0, (Array.getElem?_setIfInBounds_ne (by decide)).trans h.r1, (Array.getElem?_setIfInBounds_ne (by decide)).trans h.r2, (Array.getElem?_setIfInBounds_ne (by decide)).trans h.r3, Array.getElem?_setIfInBounds_self_of_lt h4, (Array.getElem?_setIfInBounds_ne (by decide)).trans h.r5, (Below.heap_setCell w ⟨pb, 4, none⟩ _ x.wb hne).trans h.work, h.sroot, h.swork, fun b hb => by simpa using h.slt b hb, frO _ _ _ _ _ (by decide) h.nodes, h.dist.map fun ty _ _ _ _ ht ho => frO _ _ _ _ _ (by rcases ht with rfl | rfl <;> decide) ho, frO _ _ _ _ _ (by decide) h.recs, (h.row.map (fun _ h => h) (fun ty _ _ _ _ ht ho => frO _ _ _ _ _ (by rcases ht with rfl | rfl <;> decide) ho) (fun b cur _ hb => Below.heap_setCell w ⟨pb, 4, none⟩ _ b (fun e => by simp only at e; rw [e, h.root] at hb; simp at hb))).gvAny v, h.small, h.few⟩
theorem After.of {w w1 w2 : World} {S S1 : Nat → Prop} {pb : Nat} {ns : List Nd} {R W : Nat} {D : Nat → Nat → Int} {st : PSt} (hC : Chg S w w1) (hS : ∀ b, S1 b → S b ∨ w.heap.size ≤ b) (h : POwn.After w1 w2 S1 pb ns R W D st) : POwn.After w w2 S pb ns R W D st := by
  obtain ⟨S2, x2, h1, h2, h3⟩ := h
  have hz := hC.size
  exact ⟨S2, x2, h1, hC.trans h2 hS, fun b hb => by
    rcases h3 b hb with h | h
    · exact hS b h
    · exact .inr (by omega)⟩
def pgiveE (ns : List Nd) (W : Nat) (st : PSt) (w n : Int) : Int := if zR ns W st.cl w n != 0 then zR ns W st.cl w n else if decide (20 ≤ st.gv) then 5 else 0
def pgiveSt (ns : List Nd) (W : Nat) (st : PSt) (i m : Nat) (v : Int) : PSt := { st with gv := st.gv + 1, wt := zM ns W i m ⟨st.ep i m, 0, v⟩ st.wt ns.length, tb := upd1 st.tb i (kU 4 (st.tb i) (jR ns m ⟨st.ep i m, 0, v⟩ ns.length) (jR ns m ⟨st.ep i m, 0, v⟩ ns.length).length), wy := vZ st.wy i (jR ns m ⟨st.ep i m, 0, v⟩ ns.length) W }
def uJ (ns : List Nd) (W : Nat) (st : PSt) (w n v : Int) : PSt := if pgiveE ns W st w n == 0 then pgiveSt ns W st w.toNat n.toNat v else st
theorem putP_ok {ns : List Nd} {n : Int} {m : Gv} {e : Nat} (h8 : ns.length ≤ 8) (he : m.node = e) (h6 : e < 6) (hr : m.epoch = 0) : ∀ k, k ≤ ns.length → ∀ p ∈ jR ns n m k, PtOk 8 4 p := by
  intro k
  induction k with
  | zero => intro _ p hp; simp [jR] at hp
  | succ k ih =>
    intro hk p hp
    unfold jR at hp
    split at hp
    · rcases List.mem_append.1 hp with h | h
      · exact ih (by omega) p h
      · simp at h
        subst h
        exact ⟨k, e, 0, rfl, by omega, he, h6, by simpa using hr, by omega⟩
    · exact ih (by omega) p hp
theorem psrcE_zero {ns : List Nd} {W : Nat} {cl : Nat → Nat → Bool} {w n : Int} (h : zR ns W cl w n = 0) : ∃ i m : Nat, w = i ∧ n = m ∧ i < W ∧ m < ns.length := by
  unfold zR at h
  split at h
  · rename_i hb
    simp only [Bool.and_eq_true] at hb
    obtain ⟨h1, h2, _⟩ := hb
    obtain ⟨i, rfl, hi⟩ := isWk_iff.1 h1
    obtain ⟨b1, b2⟩ := isNodeB_iff.1 h2
    obtain ⟨m, rfl⟩ := Int.eq_ofNat_of_zero_le b1
    exact ⟨i, m, rfl, rfl, hi, by omega⟩
  · simp at h
theorem prgive_any {S : Nat → Prop} {pb : Nat} {x : PX} {ns : List Nd} {R W : Nat} {D : Nat → Nat → Int} {st : PSt} (wk n v : Int) (w : World) (hO : POwn w S pb x ns R W D st) (h6 : ∀ k, k < ns.length → (qT ns k).kind = 6 → 1 ≤ (qT ns k).k ∧ (qT ns k).k ≤ 8) (hf : ∀ a b, (st.wt a b).length ≤ 90000000) (hlim : ∀ a b, (st.wy a b).length + 1 ≤ 100000000) (hep : ∀ a b, ∃ k : Nat, st.ep a b = k ∧ k < 6) (hgv : 0 ≤ st.gv ∧ st.gv ≤ 1000) :
    Calls Tryz.prog 56 #[.pointer (some ⟨pb, 0, none⟩), .int .i64 wk, .int .i64 n, .int .i64 v] w fun e w' => e = .returned (.int .i64 (pgiveE ns W st wk n)) ∧ POwn.After w w' S pb ns R W D (uJ ns W st wk n v) := by
  have Hsrc := qJ (psrc_any wk n w hO)
  have HO := qJ hO
  cases hse : (zR ns W st.cl wk n != 0) with
  | true =>
    have He : Hid (pgiveE ns W st wk n = zR ns W st.cl wk n) := qJ (by unfold pgiveE; rw [if_pos hse])
    have Hne : Hid (zR ns W st.cl wk n ≠ 0) := qJ (by simpa using hse)
    have Hs : Hid (uJ ns W st wk n v = st) := qJ (by unfold uJ; rw [qK He, if_neg (by simpa using qK Hne)])
    generalize zR ns W st.cl wk n = se at *
    clear hO hep hf h6
    go_enter Tryz.func56, Tryz.ntmps56
    go_wp2_with (go_at_call 86; refine (qK Hsrc).mono ?_; rintro e w1 ⟨rfl, hb1⟩)
    go_ret
    exact ⟨qF (qK He).symm, by rw [qK Hs]; exact ⟨S, x, (qK HO).bw hb1, Chg.bw hb1, fun _ h => .inl h⟩⟩
  | false =>
    have hs0 : zR ns W st.cl wk n = 0 := by simpa using hse
    have HE : Hid (pgiveE ns W st wk n = if decide (20 ≤ st.gv) then 5 else 0) := qJ (by unfold pgiveE; rw [hse]; rfl)
    obtain ⟨i, m, rfl, rfl, hi, hm⟩ := psrcE_zero hs0
    rw [hs0] at Hsrc
    by_cases h20 : 20 ≤ st.gv
    · have hd20 : decide (20 ≤ st.gv) = true := by simpa using h20
      have He : Hid (pgiveE ns W st i m = 5) := qJ (by rw [qK HE, hd20]; rfl)
      have Hs : Hid (uJ ns W st i m v = st) := qJ (by unfold uJ; rw [qK He]; rfl)
      clear hO hep hf h6 hse hs0 HE
      go_enter Tryz.func56, Tryz.ntmps56
      go_wp2_with (go_at_call 86; refine (qK Hsrc).mono ?_; rintro e w1 ⟨rfl, hb1⟩; have hO1 := (qK HO).bw hb1; have c4 := qQ (o := 4) hO1.root hO1.r4; have l0 := hO1.slt _ hO1.sroot; clear hO1)
      go_ret
      exact ⟨qF (qK He).symm, by rw [qK Hs]; exact ⟨S, x, (qK HO).bw hb1, Chg.bw hb1, fun _ h => .inl h⟩⟩
    · have hd20 : decide (20 ≤ st.gv) = false := by simpa using h20
      have He : Hid (pgiveE ns W st i m = 0) := qJ (by rw [qK HE, hd20]; rfl)
      have Hs : Hid (uJ ns W st i m v = pgiveSt ns W st i m v) := qJ (by unfold uJ; rw [qK He]; rfl)
      have h8 := hO.small
      clear hO hse hs0 HE
      go_enter Tryz.func56, Tryz.ntmps56
      go_wp2_with (go_at_call 86; refine (qK Hsrc).mono ?_; rintro e w1 ⟨rfl, hb1⟩; have hO1 := (qK HO).bw hb1; have c4 := qQ (o := 4) hO1.root hO1.r4; have c4f := qZ (o := 4) hO1.root; have l0 := hO1.slt _ hO1.sroot; have HO2 := qJ (hO1.setGv (st.gv + 1)); clear hO1)
      obtain ⟨w2, hw2⟩ : ∃ w2, w1.setCell ⟨pb, 4, none⟩ (.int .i64 (st.gv + 1)) = w2 := ⟨_, rfl⟩
      have hC2 : Chg S w w2 := by rw [← hw2]; exact (Chg.bw (S := S) hb1).trans (qP _ _ _ _) (fun b h => .inl (h ▸ (qK HO).sroot))
      rw [hw2] at HO2
      rw [hw2]
      clear hw2 c4 c4f l0 Hsrc
      obtain ⟨ep, hepe, hep6⟩ := hep i m
      have Htm := qJ (psrcTime_any i m w2 (qK HO2) hi hm)
      simp only [hepe] at Htm
      refine (qK Htm).mono ?_
      rintro e3 w3 ⟨rfl, hb3⟩
      go_wp2_with fail
      obtain ⟨w4, hw4, hb4⟩ : ∃ w4, w3.alloc (.cells #[.int .i64 (ep : Int), .int .i64 0] 72) = w4 ∧ Bw w3 (w3.alloc (.cells #[.int .i64 (ep : Int), .int .i64 0] 72)) := ⟨_, rfl, (by repeat first|exact br _|assumption|apply bd|apply bn|apply ba|refine bt ?_ (by assumption))⟩
      rw [hw4] at hb4
      rw [hw4]
      clear hw4
      have hb24 : Bw w2 w4 := hb3.trans hb4
      refine (pput_any i (m : Int) (ep : Int) 0 v w4 ((qK HO2).bw hb24) hi h6 hf).mono ?_
      rintro e5 w5 ⟨u, rfl, hou, S5, x5, hO5, hC5, hS5⟩
      obtain ⟨ua, uc, hue⟩ : ∃ ua uc, u = .slice ua (jR ns m ⟨ep, 0, v⟩ ns.length).length uc := ⟨_, _, qV hou⟩
      subst hue
      have hC25 : Chg S w w5 := (hC2.trans (Chg.bw (S := S) hb24) (fun _ h => .inl h)).trans hC5 (fun _ h => .inl h)
      have hz2 := hC2.size
      have hz24 := hb24.size
      have hS25 : ∀ b, S5 b → S b ∨ w.heap.size ≤ b := fun b hb => by
        rcases hS5 b hb with h | h
        · exact .inl h
        · exact .inr (by omega)
      have hpl := xY ns (m : Int) ⟨ep, 0, v⟩ ns.length
      go_wp2_with fail
      refine (pmake_any i (jR ns m ⟨ep, 0, v⟩ ns.length) ua uc w5 hO5 hi (jC hou) (fun j hj => putP_ok h8.1 rfl hep6 rfl _ (Nat.le_refl _) _ (xH hj)) (by omega) hlim).mono ?_
      rintro e6 w6 ⟨rfl, hA6⟩
      have HA := qJ (After.of hC25 hS25 hA6)
      clear hA6 hO5
      go_wp2_with fail
      go_ret
      exact ⟨qF (qK He).symm, by rw [qK Hs]; unfold pgiveSt; rw [hepe]; exact qK HA⟩
end Go.Proofs.YtfemleimkbjehaaGreat
