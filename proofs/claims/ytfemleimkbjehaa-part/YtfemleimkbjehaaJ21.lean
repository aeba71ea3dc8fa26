import Derived.Test.YtfemleimkbjehaaJ20
import Derived.Test.YtfemleimkbjehaaJ15
set_option maxRecDepth 1000000
set_option maxHeartbeats 40000000
set_option linter.unusedVariables false
set_option linter.unusedSimpArgs false
namespace Go.Proofs.Ytfemleimkbjehaa
open Go.RowKit
set_option maxRecDepth 100000 in
set_option maxHeartbeats 4000000 in
theorem pwa5 {S : Nat → Prop} {pb : Nat} {x : PX} {ns : List Nd} {R W : Nat} {D : Nat → Nat → Int} {st : PSt} (i n e s : Nat) (v : Int) (w : World) (hO : POwn w S pb x ns R W D st) (hi : i < W) (hn : n < ns.length) (he : e < 6) (hs : s < R) (hk : (qV ns n).kind = 5) (hlb : (st.lb i n).length + 1 ≤ 100000000) (h6 : ∀ k, k < ns.length → (qV ns k).kind = 6 → 1 ≤ (qV ns k).k ∧ (qV ns k).k ≤ 8) (hf : ∀ a b, (st.wt a b).length ≤ 90000000) :
    Calls Try.prog 146 #[.pointer (some ⟨pb, 0, none⟩), .int .i64 (i : Int), .int .i64 (n : Int), .agg #[.int .i64 (e : Int), .int .i64 (s : Int)], .int .i64 v] w fun en w' => ∃ u, en = .returned u ∧ OwnP w w' u (tK ns R st i n e s v) ∧ POwn.After w w' S pb ns R W D (hH ns R W st i n e s v) := by
  have h8 := hO.small
  obtain ⟨na, nc, hvn, hnd⟩ := hO.ns
  obtain ⟨nb, noff, rfl, hnb, hnc⟩ := hnd n hn
  obtain ⟨d0, d1, d2, d3, d4⟩ := hnc n hn
  have c0 := qQ (o := 0) hO.root (hvn ▸ hO.r0)
  have lt0 := hO.slt _ hO.sroot
  have HO := qJ hO
  have hn1 : (n : Int) < (ns.length : Int) := by omega
  have Hlet := qJ (fun (w' : World) (h : Bw w w') => plets_any i n e s v w' (hO.bw h) hi hn hlb)
  have HU : Hid (rN ns R (st.lb i n) n e s v = !wH (st.lb i n) ⟨e, s, v⟩ (st.lb i n).length) := qJ (by unfold rN; rw [hk]; rfl)
  have HM : Hid (pH ns n e s v = ⟨e, s, v⟩) := qJ (by unfold pH; rw [hk]; rfl)
  have HS : Hid (hH ns R W st i n e s v = { st with wt := if rN ns R (st.lb i n) n e s v then jB ns W i n (pH ns n e s v) st.wt ns.length else st.wt, lb := (tB st i n ⟨e, s, v⟩).lb }) := qJ (by unfold hH; rw [hk]; rfl)
  have HQ : Hid (tK ns R st i n e s v = if rN ns R (st.lb i n) n e s v then jX ns n (pH ns n e s v) ns.length else []) := qJ (by unfold tK; rw [hk]; rfl)
  have HL : Hid (tB st i n ⟨e, s, v⟩ = { st with lb := (tB st i n ⟨e, s, v⟩).lb }) := qJ (by unfold tB; split <;> rfl)
  have Hwt : Hid ((tB st i n ⟨e, s, v⟩).wt = st.wt) := qJ (by unfold tB; split <;> rfl)
  rw [qK HM] at HS HQ
  rw [qK HU] at HS HQ
  have hnS : ¬ S w.heap.size := fun h => by have := hO.slt _ h; omega
  have hSlt := hO.slt
  rw [hk] at d0
  generalize qV ns n = y at *
  clear hO hnd hnc HM HU
  cases hU : wH (st.lb i n) ⟨e, s, v⟩ (st.lb i n).length with
  | false =>
    rw [hU, Bool.not_false, if_pos rfl] at HS HQ
    rw [hU, Bool.not_false] at Hlet
    go_enter Try.func146, Try.ntmps146
    go_wp2_with fail
    refine ((qK Hlet) _ (by repeat first|exact br _|assumption|apply bd|apply bn|apply ba|refine bt ?_ (by assumption))).mono ?_
    rintro en w1 ⟨rfl, hA1⟩
    have hbx := hA1.box hnS (alloc_at0 w (.cells #[.int .i64 (e : Int), .int .i64 (s : Int)] 75) (.cells #[.int .i64 5, .int .i64 y.a, .int .i64 y.b, .int .i64 y.k, .int .i64 y.m] 32))
    obtain ⟨S1, x1, hO1, hC1, hS1⟩ := hA1
    have t0 := qQ (o := 0) hbx rfl
    have t1 := qQ (o := 1) hbx rfl
    have tl := (Array.getElem?_eq_some_iff.1 hbx).1
    have Hput := qJ (fun (w' : World) (h : Bw w1 w') => rQ i n e s v w' (hO1.bw h) hi h6 (by rw [qK Hwt]; exact hf))
    clear hO1 hbx
    go_wp2_with (go_at_call 114; refine ((qK Hput) _ (by repeat first|exact br _|assumption|apply bd|apply bn|apply ba|refine bt ?_ (by assumption))).mono ?_; rintro en w2 ⟨u, rfl, hou, hA2⟩)
    go_ret
    have hz1 : w.heap.size ≤ w1.heap.size := by have := hC1.size; simp at this; omega
    have hC01 : Chg S w w1 := (Chg.bw (S := S) (show Bw w _ from (by repeat first|exact br _|assumption|apply bd|apply bn|apply ba|refine bt ?_ (by assumption)))).trans hC1 (fun _ h => .inl h)
    have hS01 : ∀ b, S1 b → S b ∨ w.heap.size ≤ b := fun b hb => (hS1 b hb).imp id (fun h => by simp at h; omega)
    rw [qK HS, qK HQ]
    refine ⟨_, rfl, kU hou hz1, After.of hC01 hS01 ?_⟩
    rw [qK HL] at hA2
    exact hA2
  | true =>
    rw [hU] at HS HQ
    rw [hU, Bool.not_true] at Hlet
    go_enter Try.func146, Try.ntmps146
    go_wp2_with fail
    refine ((qK Hlet) _ (by repeat first|exact br _|assumption|apply bd|apply bn|apply ba|refine bt ?_ (by assumption))).mono ?_
    rintro en w1 ⟨rfl, hA1⟩
    go_wp2_with fail
    go_ret
    have hB0 : Bw w ((w.alloc (.cells #[.int .i64 (e : Int), .int .i64 (s : Int)] 75)).alloc (.cells #[.int .i64 5, .int .i64 y.a, .int .i64 y.b, .int .i64 y.k, .int .i64 y.m] 32)) := (by repeat first|exact br _|assumption|apply bd|apply bn|apply ba|refine bt ?_ (by assumption))
    rw [qK HS, qK HQ]
    refine ⟨_, rfl, OwnP.nil _ _, ?_⟩
    rw [qK HL] at hA1
    exact After.of (Chg.bw (S := S) hB0) (fun _ h => .inl h) hA1
set_option maxRecDepth 100000 in
set_option maxHeartbeats 4000000 in
theorem pwa7 {S : Nat → Prop} {pb : Nat} {x : PX} {ns : List Nd} {R W : Nat} {D : Nat → Nat → Int} {st : PSt} (i n e s : Nat) (v : Int) (w : World) (hO : POwn w S pb x ns R W D st) (hi : i < W) (hn : n < ns.length) (he : e < 6) (hs : s < R) (hk : (qV ns n).kind = 7) (hrc : st.rc.length + 1 ≤ 100000000) :
    Calls Try.prog 146 #[.pointer (some ⟨pb, 0, none⟩), .int .i64 (i : Int), .int .i64 (n : Int), .agg #[.int .i64 (e : Int), .int .i64 (s : Int)], .int .i64 v] w fun en w' => ∃ u, en = .returned u ∧ OwnP w w' u (tK ns R st i n e s v) ∧ POwn.After w w' S pb ns R W D (hH ns R W st i n e s v) := by
  have h8 := hO.small
  obtain ⟨na, nc, hvn, hnd⟩ := hO.ns
  obtain ⟨nb, noff, rfl, hnb, hnc⟩ := hnd n hn
  obtain ⟨d0, d1, d2, d3, d4⟩ := hnc n hn
  have c0 := qQ (o := 0) hO.root (hvn ▸ hO.r0)
  have lt0 := hO.slt _ hO.sroot
  have HO := qJ hO
  have hn1 : (n : Int) < (ns.length : Int) := by omega
  have HS : Hid (hH ns R W st i n e s v = { st with rc := st.rc ++ [⟨n, i, e, s, v⟩] }) := qJ (by unfold hH rN; rw [hk]; rfl)
  have HQ : Hid (tK ns R st i n e s v = []) := qJ (by unfold tK rN; rw [hk]; rfl)
  obtain ⟨qa, qc, hqe⟩ : ∃ qa qc, x.vr = .slice qa st.rc.length qc := ⟨_, _, qW hO.recs.1⟩
  have c5 := qQ (o := 5) hO.root (hqe ▸ hO.r5)
  have c5f := qZ (o := 5) hO.root
  have Hown := qJ (show w.ownsRow 0 110 5 (.slice qa st.rc.length qc) st.rc.length (qM st.rc) from hqe ▸ hO.recs.1)
  have HqS : Hid (∀ b, Value.ownBlock (.slice qa st.rc.length qc) = some b → S b) := qJ (hqe ▸ hO.recs.2)
  have Hqe := qJ hqe
  rw [hk] at d0
  generalize qV ns n = y at *
  clear hO hnd hnc hqe
  go_enter Try.func146, Try.ntmps146
  go_wp2_with fail
  obtain ⟨w0, hw0⟩ : ∃ w0, (w.alloc (.cells #[.int .i64 (e : Int), .int .i64 (s : Int)] 75)).alloc (.cells #[.int .i64 7, .int .i64 y.a, .int .i64 y.b, .int .i64 y.k, .int .i64 y.m] 32) = w0 := ⟨_, rfl⟩
  have hA := yU w (.cells #[.int .i64 (e : Int), .int .i64 (s : Int)] 75) (.cells #[.int .i64 7, .int .i64 y.a, .int .i64 y.b, .int .i64 y.k, .int .i64 y.m] 32)
  rw [hw0] at hA
  rw [hw0]
  obtain ⟨ht0, hm0, hB0⟩ := hA
  clear hw0 hm0
  have t0 := qQ (o := 0) ht0 rfl
  have t1 := qQ (o := 1) ht0 rfl
  have tlt := (Array.getElem?_eq_some_iff.1 ht0).1
  have hO0 := (qK HO).bw hB0
  have k5 := qQ (o := 5) hO0.root ((qK Hqe) ▸ hO0.r5)
  have k5f := qZ (o := 5) hO0.root
  have plt := hO0.slt _ hO0.sroot
  have HO0 := qJ hO0
  clear hO0 c5 c5f c0 ht0
  go_region_law (refine pF rfl _ _ _ 110 rfl _ 5 40 Try.infoRec Try.underlying52 rfl (by decide) 0 (.slice qa st.rc.length qc) st.rc.length (qM st.rc) rfl (qP (qK Hown) fun g hg => Below.block (hB0.trans (show Bw w0 _ from (by repeat first|exact br _|assumption|apply bd|apply bn|apply ba|refine bt ?_ (by assumption)))) g hg) _ _ (Nd.cells ⟨n, i, e, s, v⟩) rfl rfl (nd_cells5 (qN _ _ (by simp))) (nd_one' _) (by omega) (by omega) (Nat.zero_le _) ?_; intro g' cap w4 ho4 hg4 hl4; have q4 := kZ (qP (qK Hown) fun g hg => Below.block (hB0.trans (show Bw w0 _ from (by repeat first|exact br _|assumption|apply bd|apply bn|apply ba|refine bt ?_ (by assumption)))) g hg) hg4 ((qK HO0).bw (show Bw w0 _ from (by repeat first|exact br _|assumption|apply bd|apply bn|apply ba|refine bt ?_ (by assumption)))).root (.inl (by decide)); have q7l := (Array.getElem?_eq_some_iff.1 q4).1; have q7 := qQ (o := 5) q4 (qK HO0).r5; have q7f := qZ (o := 5) q4; clear q4)
  all_goals (
    obtain ⟨wB, hwB, hBB⟩ : ∃ wB, wB = (w0.alloc (.cells #[.int .i64 (n : Int), .int .i64 (i : Int), .int .i64 (e : Int), .int .i64 (s : Int), .int .i64 v] 110)).drew ∧ Bw w0 wB := ⟨_, rfl, (by repeat first|exact br _|assumption|apply bd|apply bn|apply ba|refine bt ?_ (by assumption))⟩
    rw [← hwB] at hg4 hl4
    have hO5 := (qK HO0).addRec (y := ⟨n, i, e, s, v⟩) hBB ho4 (by rw [qK Hqe]; exact hg4) hrc
    obtain ⟨x1, x2, _⟩ := bS (S := S) (S' := S) (w := w) (q := 5) (u := .slice (some ⟨g', 0, none⟩) (st.rc.length + 1) cap) (Chg.bw hB0) (fun _ h => .inl h) hBB hg4 (qK HqS) (qK HO0).sroot hl4
    go_wp2_with fail
    go_ret
    rw [qK HS, qK HQ]
    exact ⟨_, rfl, OwnP.nil _ _, _, _, hO5, x1, x2⟩)
set_option maxRecDepth 100000 in
set_option maxHeartbeats 8000000 in
theorem pwa6 {B : Nat} {S : Nat → Prop} {pb : Nat} {x : PX} {ns : List Nd} {R W : Nat} {D : Nat → Nat → Int} {st : PSt} (i n e s : Nat) (v : Int) (w : World) (hO : POwn w S pb x ns R W D st) (hi : i < W) (hn : n < ns.length) (he : e < 6) (hs : s < R) (hk : (qV ns n).kind = 6) (hK : 1 ≤ (qV ns n).k ∧ (qV ns n).k ≤ 8) (hI : PInv ns R st B) :
    Calls Try.prog 146 #[.pointer (some ⟨pb, 0, none⟩), .int .i64 (i : Int), .int .i64 (n : Int), .agg #[.int .i64 (e : Int), .int .i64 (s : Int)], .int .i64 v] w fun en w' => ∃ u, en = .returned u ∧ OwnP w w' u (tK ns R st i n e s v) ∧ POwn.After w w' S pb ns R W D (hH ns R W st i n e s v) := by
  have h8 := hO.small
  obtain ⟨na, nc, hvn, hnd⟩ := hO.ns
  obtain ⟨nb, noff, rfl, hnb, hnc⟩ := hnd n hn
  obtain ⟨d0, d1, d2, d3, d4⟩ := hnc n hn
  have c0 := qQ (o := 0) hO.root (hvn ▸ hO.r0)
  have lt0 := hO.slt _ hO.sroot
  have HO := qJ hO
  have hn1 : (n : Int) < (ns.length : Int) := by omega
  have hs4 : s < 4 := by omega
  have HnS : Hid (∀ z, w.heap.size ≤ z → ¬ S z) := qJ (fun z hz h => by have := hO.slt z h; omega)
  obtain ⟨g, hg⟩ := Int.eq_ofNat_of_zero_le (Int.emod_nonneg v (show (qV ns n).k ≠ 0 by omega))
  have hg8 : g < 8 := by have := Int.emod_lt_of_pos v (show 0 < (qV ns n).k by omega); omega
  have Htal := qJ (fun k hk => hO.row.tal i n hi hn k hk)
  have Hnone : Hid (∀ k, k < 408 → Value.ownBlock (yP (st.tl i n) e s v (qV ns n).k k) = none) := qJ (fun k hk4 => by
    unfold yP
    split
    · rfl
    · split
      · rfl
      · split
        · rfl
        · exact tal_none hI hk k hk4)
  have Hadd := qJ (fun (w' : World) (h : Bw w w') => ptadd_any v (qV ns n).k x.wb (i * 3684 + 32 + n * 408) e s g x.warr 162 (fun g => intOf (st.tl i n (24 + e * 64 + s * 16 + g))) (fun g => wnOf (st.tl i n) (24 + e * 64 + s * 16 + 8 + g)) (wnOf (st.tl i n) (e * 4 + s)) w' (hO.bw h).work he hs4 (fun g' hg' => by
      rw [show i * 3684 + 32 + n * 408 + 24 + e * 64 + s * 16 + g' = i * 3684 + 32 + n * 408 + (24 + e * 64 + s * 16 + g') by omega, qK Htal _ (by omega)]
      obtain ⟨t, et⟩ := (hI.gs i n hk e s g' he hs4 hg').1
      rw [et]; rfl) (fun g' hg' => by
      rw [show i * 3684 + 32 + n * 408 + 24 + e * 64 + s * 16 + 8 + g' = i * 3684 + 32 + n * 408 + (24 + e * 64 + s * 16 + 8 + g') by omega, qK Htal _ (by omega)]
      obtain ⟨t, et⟩ := (hI.gs i n hk e s g' he hs4 hg').2
      unfold wnOf
      rw [et]) (by
      rw [show i * 3684 + 32 + n * 408 + e * 4 + s = i * 3684 + 32 + n * 408 + (e * 4 + s) by omega, qK Htal _ (by omega)]
      obtain ⟨t, et⟩ := hI.wn i n (e * 4 + s) (by omega)
      unfold wnOf
      rw [et]) hK.1 hK.2 hg hg8)
  have HP : Hid (∀ w0 w1 : World, Bw w w0 → w1.heap[x.wb]? = some (.cells (((x.warr.setIfInBounds (i * 3684 + 32 + n * 408 + 24 + e * 64 + s * 16 + g) (.int .i64 (wrap64 (intOf (st.tl i n (24 + e * 64 + s * 16 + g)) + v)))).setIfInBounds (i * 3684 + 32 + n * 408 + 24 + e * 64 + s * 16 + 8 + g) (.bool true)).setIfInBounds (i * 3684 + 32 + n * 408 + e * 4 + s) (.bool true)) 162 (0, 0)) → Chg (fun z => z = x.wb) w0 w1 → ∃ arr', POwn w1 S pb { x with warr := arr' } ns R W D { st with tl := kY st.tl i n (yP (st.tl i n) e s v (qV ns n).k) }) := qJ (fun w0 w1 hb h1 hC => by
    refine ⟨_, (hO.bw hb).setRow hC h1 ((hO.bw hb).row.setTl h8.1 hi hn (by simp) (fun p hp => ?_) (add_cells he hs4 (by rw [hg]; rfl) hg8 (qK Htal)) (qK Hnone)) ⟨rfl, rfl⟩ hO.few.1⟩
    rw [Array.getElem?_setIfInBounds_ne (by omega), Array.getElem?_setIfInBounds_ne (by omega), Array.getElem?_setIfInBounds_ne (by omega)])
  have HS : Hid (hH ns R W st i n e s v = { st with tl := kY st.tl i n (yP (st.tl i n) e s v (qV ns n).k) }) := qJ (by unfold hH rN; rw [hk]; rfl)
  have HQ : Hid (tK ns R st i n e s v = if wnOf (st.tl i n) (e * 4 + s) then [] else [⟨n, true, e, s, 1⟩]) := qJ (by unfold tK; rw [hk]; rfl)
  have c3 := qQ (o := 3) hO.root hO.r3
  have hi1 : (i : Int) < (W : Int) := by omega
  have hn8 : (n : Int) < 8 := by omega
  have hpw : ¬ pb = x.wb := fun e9 => by have h1 := hO.work; rw [← e9, hO.root] at h1; simp at h1
  have lt1 := hO.slt _ hO.swork
  have hsw := hO.swork
  rw [hk] at d0
  generalize wnOf (st.tl i n) (e * 4 + s) = B0 at *
  generalize qV ns n = y at *
  clear hO hnd hnc hI Hnone Htal
  go_enter Try.func146, Try.ntmps146
  go_wp2_with fail
  obtain ⟨w0, hw0⟩ : ∃ w0, (w.alloc (.cells #[.int .i64 (e : Int), .int .i64 (s : Int)] 75)).alloc (.cells #[.int .i64 6, .int .i64 y.a, .int .i64 y.b, .int .i64 y.k, .int .i64 y.m] 32) = w0 := ⟨_, rfl⟩
  have hA := yU w (.cells #[.int .i64 (e : Int), .int .i64 (s : Int)] 75) (.cells #[.int .i64 6, .int .i64 y.a, .int .i64 y.b, .int .i64 y.k, .int .i64 y.m] 32)
  rw [hw0] at hA
  rw [hw0]
  obtain ⟨ht0, hm0, hB0⟩ := hA
  clear hw0
  have hnt := (qK HnS) w.heap.size (Nat.le_refl _)
  have hnm := (qK HnS) (w.heap.size + 1) (by omega)
  obtain ⟨tb, htb⟩ : ∃ tb, w.heap.size = tb := ⟨_, rfl⟩
  rw [htb] at ht0 hm0 hnt hnm
  rw [htb]
  obtain ⟨mb, hmb⟩ : ∃ mb, tb + 1 = mb := ⟨_, rfl⟩
  rw [hmb] at hm0 hnm
  rw [hmb]
  have htw : ¬ tb = x.wb := fun e9 => hnt (e9 ▸ hsw)
  have hmw : ¬ mb = x.wb := fun e9 => hnm (e9 ▸ hsw)
  have k3 := ((qX hB0).1 _ 3 lt0).trans c3
  have t0 := qQ (o := 0) ht0 rfl
  have t1 := qQ (o := 1) ht0 rfl
  have m3 := qQ (o := 3) hm0 rfl
  have tlt := (Array.getElem?_eq_some_iff.1 ht0).1
  have mlt := (Array.getElem?_eq_some_iff.1 hm0).1
  have plt : pb < w0.heap.size := Nat.lt_of_lt_of_le lt0 hB0.size
  have wlt : x.wb < w0.heap.size := Nat.lt_of_lt_of_le lt1 hB0.size
  go_region_held3 (fun w' => w'.cell? ⟨pb, 3, none⟩ = some (.slice (some ⟨x.wb, 0, none⟩) W x.wc) ∧ w'.cell? ⟨tb, 0, none⟩ = some (.int .i64 (e : Int)) ∧ w'.cell? ⟨tb, 1, none⟩ = some (.int .i64 (s : Int)) ∧ w'.cell? ⟨mb, 3, none⟩ = some (.int .i64 y.k)) (go_keep) ((go_at_call 154; refine ((qK Hadd) _ (by repeat first|exact br _|assumption|apply bd|apply bn|apply ba|refine bt ?_ (by assumption))).mono ?_; rintro en w1 ⟨rfl, hb1, hC1⟩; have j3 := (World.cell?_of_block (a := ⟨pb, 3, none⟩) (hC1.block pb (by simpa using plt) hpw)).trans k3; have j0 := (World.cell?_of_block (a := ⟨tb, 0, none⟩) (hC1.block tb (by simpa using tlt) htw)).trans t0; have j1 := (World.cell?_of_block (a := ⟨tb, 1, none⟩) (hC1.block tb (by simpa using tlt) htw)).trans t1; have jm := (World.cell?_of_block (a := ⟨mb, 3, none⟩) (hC1.block mb (by simpa using mlt) hmw)).trans m3; have jt : tb < w1.heap.size := Nat.lt_of_lt_of_le (by simpa using tlt) hC1.size))
  obtain ⟨arr', hO1⟩ := (qK HP) w0.drew w1 (hB0.trans (by repeat first|exact br _|assumption|apply bd|apply bn|apply ba|refine bt ?_ (by assumption))) hb1 hC1
  have HO1 := qJ hO1
  have HC : Hid (Chg S w w1) := qJ ((Chg.bw (S := S) (hB0.trans (show Bw w0 w0.drew from (by repeat first|exact br _|assumption|apply bd|apply bn|apply ba|refine bt ?_ (by assumption))))).trans hC1 (fun b h => .inl (h ▸ hsw)))
  have hz1 : w.heap.size ≤ w1.heap.size := (qK HC).size
  clear hO1 hC1 hb1 k3 t0 t1 m3 ht0 hm0 Hadd HP htb
  cases B0 with
  | true =>
    rw [if_pos rfl] at HQ
    go_wp2_with fail
    go_ret
    rw [qK HS, qK HQ]
    exact ⟨_, rfl, OwnP.nil _ _, S, _, qK HO1, qK HC, fun _ h => .inl h⟩
  | false =>
    rw [if_neg (by simp)] at HQ
    have Hout := qJ (fun (w' : World) => mM (n : Int) (e : Int) (s : Int) 1 w')
    simp only [Pt.val] at Hout
    go_wp2_with (go_at_call 137; refine ((qK Hout) _).mono ?_; rintro en w2 ⟨rfl, hb2⟩)
    go_ret
    rw [qK HS, qK HQ]
    have hB2 : Bw w1 (w2.alloc (.cells #[.int .i64 (n : Int), .bool true, .int .i64 (e : Int), .int .i64 (s : Int), .int .i64 1] 194)) := hb2.trans (by repeat first|exact br _|assumption|apply bd|apply bn|apply ba|refine bt ?_ (by assumption))
    exact ⟨_, rfl, ownP_one (p := ⟨n, true, e, s, 1⟩) (Nat.le_trans hz1 hb2.size) (heap_alloc_new w2 _), S, _, (qK HO1).bw hB2, (qK HC).trans (Chg.bw (S := S) hB2) (fun _ h => .inl h), fun _ h => .inl h⟩
theorem fV {op : List Gv} {g : Gv} {i : Nat} (hi : i < op.length) : vR (op ++ [g]) i = vR op i := by simp [vR, List.getD, List.getElem?_append_left hi]
theorem fY (op : List Gv) (g : Gv) : vR (op ++ [g]) op.length = g := by simp [vR, List.getD]
theorem doneTo_app (op : List Gv) (g : Gv) (w n kd : Int) : ∀ k, k ≤ op.length → kQ (op ++ [g]) w n kd k = kQ op w n kd k := by
  intro k
  induction k with
  | zero => intro _; rfl
  | succ k ih =>
    intro hk
    rw [kQ, kQ, ih (by omega)]
    unfold doneB
    rw [fV (by omega)]
theorem jV (op : List Gv) (g : Gv) (w n kd : Int) : kQ (op ++ [g]) w n kd (op ++ [g]).length = kQ op w n kd op.length + (if (g.epoch == w) && (g.node == n) && (g.value == kd) then 1 else 0) := by
  rw [List.length_append, List.length_singleton, kQ, doneTo_app op g w n kd _ (Nat.le_refl _)]
  unfold doneB
  rw [fY]
  split <;> rfl
theorem giveTo_app (op : List Gv) (g : Gv) : ∀ k, k ≤ op.length → jM (op ++ [g]) k = jM op k := by
  intro k
  induction k with
  | zero => intro _; rfl
  | succ k ih =>
    intro hk
    rw [jM, jM, ih (by omega), fV (by omega)]
theorem vV (op : List Gv) (g : Gv) : jM (op ++ [g]) (op ++ [g]).length = jM op op.length + (if g.value == 1 then 1 else 0) := by
  rw [List.length_append, List.length_singleton, jM, giveTo_app op g _ (Nat.le_refl _), fY]
  split <;> rfl
def wL (ms : List Ml) (w n : Int) : Nat → List Gv
  | 0 => []
  | i + 1 => if yX ms w n i then wL ms w n i ++ [lB (rS ms i)] else wL ms w n i
theorem wL_eq (ms : List Ml) (w n : Int) : ∀ k, (kS ms w n k).map (fun z => lB (rS ms z.toNat)) = wL ms w n k := by
  intro k
  induction k with
  | zero => rfl
  | succ k ih =>
    rw [kS, wL]
    split
    · rw [List.map_append, ih]; simp
    · exact ih
theorem mF (ms : List Ml) (w n : Int) : vD ms w n = wL ms w n ms.length := wL_eq ms w n ms.length
theorem mln_app {ms : List Ml} {x : Ml} {i : Nat} (hi : i < ms.length) : rS (ms ++ [x]) i = rS ms i := by simp [rS, List.getD, List.getElem?_append_left hi]
theorem mln_last (ms : List Ml) (x : Ml) : rS (ms ++ [x]) ms.length = x := by simp [rS, List.getD]
theorem wL_app (ms : List Ml) (x : Ml) (w n : Int) : ∀ k, k ≤ ms.length → wL (ms ++ [x]) w n k = wL ms w n k := by
  intro k
  induction k with
  | zero => intro _; rfl
  | succ k ih =>
    intro hk
    rw [wL, wL, ih (by omega)]
    unfold yX
    rw [mln_app (by omega)]
theorem waitL_snoc (ms : List Ml) (x : Ml) (w n : Int) : vD (ms ++ [x]) w n = vD ms w n ++ (if !x.gone && (x.worker == w) && (x.node == n) then [lB x] else []) := by
  rw [mF, mF, List.length_append, List.length_singleton, wL, wL_app ms x w n _ (Nat.le_refl _)]
  unfold yX
  rw [mln_last]
  split <;> simp
theorem cG (ns : List Nd) (W : Nat) (i : Nat) (hi : i < W) (n : Int) (m : Gv) (ms : List Ml) : ∀ k (a b : Nat), vD (ms ++ tW ns W i n m k) a b = jB ns W i n m (fun p q => vD ms p q) k a b := by
  intro k
  induction k with
  | zero => intro a b; simp [tW, jB]
  | succ k ih =>
    intro a b
    obtain ⟨h0, h1⟩ := atI_lt (ns := ns) (k := k) (v := m.value) hi
    obtain ⟨t, ht⟩ := Int.eq_ofNat_of_zero_le h0
    unfold tW jB
    split
    · rw [← List.append_assoc, waitL_snoc, ih a b]
      simp only [ht, Int.toNat_natCast, Bool.not_false, Bool.true_and]
      unfold kY
      by_cases e : a = t ∧ b = k
      · obtain ⟨rfl, rfl⟩ := e
        simp [lB]
      · rw [if_neg e]
        have : ((t : Int) == (a : Int) && ((k : Int) == (b : Int))) = false := by
          rw [Bool.eq_false_iff]
          intro h
          simp at h
          omega
        simp [this]
    · exact ih a b
theorem mB {cs : List Cg} {c : Cg} {i : Nat} (hi : i < cs.length) : mC (cs ++ [c]) i = mC cs i := by simp [mC, List.getD, List.getElem?_append_left hi]
theorem mJ (cs : List Cg) (c : Cg) : mC (cs ++ [c]) cs.length = c := by simp [mC, List.getD]
theorem seenT_app (cs : List Cg) (c : Cg) : ∀ k, k ≤ cs.length → nF (cs ++ [c]) k = nF cs k := by
  intro k
  induction k with
  | zero => intro _; rfl
  | succ k ih => intro hk; rw [nF, nF, ih (by omega), mB (by omega)]
theorem tabLog_app (ns : List Nd) (R W : Nat) (cs : List Cg) (c : Cg) (told : Nat → Nat → Int) (w : Nat) : ∀ k, k ≤ cs.length → zY ns R W (cs ++ [c]) told w k = zY ns R W cs told w k := by
  intro k
  induction k with
  | zero => intro _; rfl
  | succ k ih =>
    intro hk
    have hl : pR (cs ++ [c]) told w k = pR cs told w k := by
      unfold pR
      rw [mB (by omega), seenT_app cs c _ (by omega)]
    rw [zY, zY, ih (by omega), hl, mB (by omega)]
theorem tabLog_snoc (ns : List Nd) (R W : Nat) (cs : List Cg) (c : Cg) (told : Nat → Nat → Int) (w i : Nat) (hc : c.worker = (i : Int)) (ht : w ≠ i → told w i ≤ nF cs cs.length i) : zY ns R W (cs ++ [c]) told w (cs ++ [c]).length = if w = i then kT R (zY ns R W cs told w cs.length) c.pts c.pts.length else zY ns R W cs told w cs.length := by
  rw [List.length_append, List.length_singleton, zY, tabLog_app ns R W cs c _ w _ (Nat.le_refl _)]
  unfold pR
  rw [mJ, hc, nF, seenT_app cs c _ (Nat.le_refl _), mJ, hc, Int.toNat_natCast, rC]
  by_cases e : w = i
  · subst e; simp
  · have h2 : decide (told w i < nF cs cs.length i + 1) = true := by have := ht e; simp; omega
    rw [h2, Bool.and_true, if_neg e, if_pos (by simp; omega)]
theorem cP {R n e s n' e' s' : Nat} {o o' : Bool} (hR : 1 ≤ R ∧ R ≤ 4) (he : e < 6) (hs : s < R) (he' : e' < 6) (hs' : s' < R) (h : jZ R n e s o = jZ R n' e' s' o') : n = n' ∧ e = e' ∧ s = s' ∧ o = o' := by
  unfold jZ at h
  have : R = 1 ∨ R = 2 ∨ R = 3 ∨ R = 4 := by omega
  rcases this with rfl | rfl | rfl | rfl <;> cases o <;> cases o' <;> simp at h ⊢ <;> omega
def TabRel (L R : Nat) (Tp Tr : Nat → Int) : Prop := ∀ n e s o, n < 8 → e < 6 → s < 4 → (n < L → s < R → Tp (jZ 4 n e s o) = Tr (jZ R n e s o)) ∧ (L ≤ n ∨ R ≤ s → Tp (jZ 4 n e s o) = 0)
theorem TabRel.upd {L R : Nat} {Tp Tr : Nat → Int} (h : TabRel L R Tp Tr) (hR : 1 ≤ R ∧ R ≤ 4) {n e s : Nat} {o : Bool} (hn : n < L) (he : e < 6) (hs : s < R) (v : Int) : TabRel L R (bW Tp (jZ 4 n e s o) v) (bW Tr (jZ R n e s o) v) := by
  intro n' e' s' o' hn' he' hs'
  obtain ⟨h1, h2⟩ := h n' e' s' o' hn' he' hs'
  by_cases hq : n' = n ∧ e' = e ∧ s' = s ∧ o' = o
  · obtain ⟨rfl, rfl, rfl, rfl⟩ := hq
    exact ⟨fun _ _ => by rw [rC, rC], fun h => by omega⟩
  · have d4 : jZ 4 n' e' s' o' ≠ jZ 4 n e s o := fun e0 => hq (by
      obtain ⟨a, b, c, d⟩ := cP ⟨by omega, by omega⟩ he' hs' he (by omega) e0
      exact ⟨a, b, c, d⟩)
    refine ⟨fun a b => ?_, fun a => by rw [tT _ _ d4]; exact h2 a⟩
    have dR : jZ R n' e' s' o' ≠ jZ R n e s o := fun e0 => hq (by
      obtain ⟨a, b, c, d⟩ := cP hR he' b he hs e0
      exact ⟨a, b, c, d⟩)
    rw [tT _ _ d4, tT _ _ dR]
    exact h1 a b
theorem TabRel.get {L R : Nat} {Tp Tr : Nat → Int} (h : TabRel L R Tp Tr) (hL : L ≤ 8) (hR : R ≤ 4) {n e s : Nat} {o : Bool} (hn : n < L) (he : e < 6) (hs : s < R) : Tp (jZ 4 n e s o) = Tr (jZ R n e s o) := (h n e s o (by omega) he (by omega)).1 hn hs
theorem TabRel.src {ns : List Nd} {R W : Nat} (hL : ns.length ≤ 8) (hR : 1 ≤ R ∧ R ≤ 4) : ∀ k, k ≤ ns.length → TabRel ns.length R (xJ ns 4 W k) (xJ ns R W k) := by
  intro k
  induction k with
  | zero => intro _ n e s o _ _ _; exact ⟨fun _ _ => rfl, fun _ => rfl⟩
  | succ k ih =>
    intro hk
    unfold xJ
    split
    · exact (ih (by omega)).upd hR (by omega) (by omega) (by omega) _
    · exact ih (by omega)
theorem TabRel.pts {L R : Nat} {Tp Tr : Nat → Int} {ps : List Pt} (h : TabRel L R Tp Tr) (hL : L ≤ 8) (hR : 1 ≤ R ∧ R ≤ 4) (hok : ∀ j, j < ps.length → wP L R (vU ps j)) : ∀ k, k ≤ ps.length → TabRel L R (kT 4 Tp ps k) (kT R Tr ps k) := by
  intro k
  induction k with
  | zero => intro _; exact h
  | succ k ih =>
    intro hk
    have hi := ih (by omega)
    obtain ⟨n, e, s, h1, h2, h3, h4, h5, h6⟩ := hok k (by omega)
    have e4 : rY 4 (vU ps k) = jZ 4 n e s (vU ps k).out := by unfold rY; rw [h1, h3, h5]; rfl
    have eR : rY R (vU ps k) = jZ R n e s (vU ps k).out := by unfold rY; rw [h1, h3, h5]; rfl
    unfold kT
    rw [e4, eR, hi.get hL hR.2 h2 h4 h6]
    exact hi.upd hR h2 h4 h6 _
theorem TabRel.log {ns : List Nd} {R W : Nat} {cs : List Cg} {told : Nat → Nat → Int} {w : Nat} (hL : ns.length ≤ 8) (hR : 1 ≤ R ∧ R ≤ 4) (hok : ∀ i, i < cs.length → CgOk ns.length R W (mC cs i)) : ∀ k, k ≤ cs.length → TabRel ns.length R (zY ns 4 W cs told w k) (zY ns R W cs told w k) := by
  intro k
  induction k with
  | zero => intro _; exact TabRel.src hL hR _ (Nat.le_refl _)
  | succ k ih =>
    intro hk
    unfold zY
    split
    · exact ih (by omega)
    · exact (ih (by omega)).pts hL hR (hok k (by omega)).2 _ (Nat.le_refl _)
theorem vS_rel {L R : Nat} {Tp Tr : Nat → Int} (h : TabRel L R Tp Tr) (hL : L ≤ 8) (hR : R ≤ 4) {n k e : Nat} (hn : n < L) (he : e < 6) : vS Tp 4 n k e 4 = vS Tr R n k e R := by
  have a1 : ∀ s, s ≤ R → vS Tp 4 n k e s = vS Tr R n k e s := by
    intro s
    induction s with
    | zero => intro _; rfl
    | succ s ih => intro hs; rw [vS, vS, ih (by omega), h.get hL hR hn he (by omega)]
  have a2 : ∀ d, R + d ≤ 4 → vS Tp 4 n k e (R + d) = vS Tp 4 n k e R := by
    intro d
    induction d with
    | zero => intro _; rfl
    | succ d ih =>
      intro hd
      rw [← Nat.add_assoc, vS, (h n e (R + d) (kB k) (by omega) he (by omega)).2 (.inr (by omega)), ih (by omega)]
      rfl
  have := a2 (4 - R) (by omega)
  rw [show R + (4 - R) = 4 by omega] at this
  rw [this, a1 R (Nat.le_refl _)]
theorem vE_rel {L R : Nat} {Tp Tr : Nat → Int} (h : TabRel L R Tp Tr) (hL : L ≤ 8) (hR : R ≤ 4) {n k : Nat} (hn : n < L) : ∀ e, e ≤ 6 → vE Tp 4 n k e = vE Tr R n k e := by
  intro e
  induction e with
  | zero => intro _; rfl
  | succ e ih => intro he; rw [vE, vE, ih (by omega), vS_rel h hL hR hn (by omega)]
theorem vE_none {L R : Nat} {Tp Tr : Nat → Int} (h : TabRel L R Tp Tr) {n k : Nat} (hn : L ≤ n) (h8 : n < 8) : ∀ e, e ≤ 6 → vE Tp 4 n k e = [] := by
  intro e
  induction e with
  | zero => intro _; rfl
  | succ e ih =>
    intro he
    have a : ∀ s, s ≤ 4 → vS Tp 4 n k e s = [] := by
      intro s
      induction s with
      | zero => intro _; rfl
      | succ s ih2 => intro hs; rw [vS, (h n e s (kB k) h8 (by omega) (by omega)).2 (.inl hn), ih2 (by omega)]; rfl
    rw [vE, ih (by omega), a 4 (by omega)]; rfl
theorem view_eq {L R : Nat} {Tp Tr : Nat → Int} (h : TabRel L R Tp Tr) (hL : L ≤ 8) (hR : R ≤ 4) : vN Tp 4 8 = vN Tr R L := by
  have a1 : ∀ n, n ≤ L → vN Tp 4 n = vN Tr R n := by
    intro n
    induction n with
    | zero => intro _; rfl
    | succ n ih =>
      intro hn
      rw [vN, vN, ih (by omega)]
      simp only [vK]
      rw [vE_rel h hL hR (by omega) 6 (by omega), vE_rel h hL hR (by omega) 6 (by omega)]
  have a2 : ∀ d, L + d ≤ 8 → vN Tp 4 (L + d) = vN Tp 4 L := by
    intro d
    induction d with
    | zero => intro _; rfl
    | succ d ih =>
      intro hd
      rw [← Nat.add_assoc, vN, ih (by omega)]
      simp only [vK]
      rw [vE_none h (by omega) (by omega) 6 (by omega), vE_none h (by omega) (by omega) 6 (by omega)]
      simp
  have := a2 (8 - L) (by omega)
  rw [show L + (8 - L) = 8 by omega] at this
  rw [this, a1 L (Nat.le_refl _)]
theorem inTo_iff {ts : List Tm} {e s : Nat} : ∀ k, inTo ts e s k = true ↔ ∃ i, i < k ∧ (nB ts i).e = (e : Int) ∧ (nB ts i).s = (s : Int) := by
  intro k
  induction k with
  | zero => simp [inTo]
  | succ k ih =>
    rw [inTo, Bool.or_eq_true, ih]
    constructor
    · rintro (⟨i, h1, h2⟩ | h)
      · exact ⟨i, by omega, h2⟩
      · simp only [eqB, Bool.and_eq_true, beq_iff_eq] at h
        exact ⟨k, by omega, h⟩
    · rintro ⟨i, h1, h2⟩
      by_cases e0 : i = k
      · subst e0; right; simp only [eqB, Bool.and_eq_true, beq_iff_eq]; exact h2
      · exact .inl ⟨i, by omega, h2⟩
theorem inT_iff {ts : List Tm} {e s : Nat} : inT ts e s = true ↔ ∃ i, i < ts.length ∧ (nB ts i).e = (e : Int) ∧ (nB ts i).s = (s : Int) := inTo_iff _
end Go.Proofs.Ytfemleimkbjehaa
