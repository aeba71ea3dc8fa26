import Derived.Test.YtfemleimkbjehaaGreatJ33
set_option maxRecDepth 1000000
set_option maxHeartbeats 40000000
set_option linter.unusedVariables false
set_option linter.unusedSimpArgs false
namespace Go.Proofs.YtfemleimkbjehaaGreat
open Go.RowKit
theorem getS {w : World} {base : Nat} {ty : TypeId} {a : Option Addr} {c k : Nat} {l : List Int} (h : w.ownsRow base ty 1 (.slice a l.length c) l.length (l.map (Value.int .i64))) (hk : k < l.length) : ∃ g, a = some ⟨g, 0, none⟩ ∧ g < w.heap.size ∧ w.cell? ⟨g, k, none⟩ = some (.int .i64 (jD l k)) := by
  obtain ⟨hl, h0 | ⟨g, cap, cur, e1, _, hc, h1, h2, h3, h4⟩⟩ := h
  · omega
  · simp only [Value.slice.injEq] at e1
    refine ⟨g, e1.1, (Array.getElem?_eq_some_iff.1 hc).1, qQ hc ?_⟩
    have h5 : (cur.toList.take (l.length * 1))[k]? = (l.map (Value.int .i64))[k]? := by rw [h4]
    rw [List.getElem?_take_of_lt (by omega), Array.getElem?_toList] at h5
    rw [h5, List.getElem?_map, List.getElem?_eq_getElem hk]
    simp [jD, List.getD, List.getElem?_eq_getElem hk]
theorem pnotify_any {S : Nat → Prop} {pb : Nat} {x : PX} {ns : List Nd} {R W B : Nat} {D : Nat → Nat → Int} {st : PSt} (i n e s : Nat) (w : World) (hO : POwn w S pb x ns R W D st) (hi : i < W) (hn : n < ns.length) (he : e < 6) (hs4 : s < 4) (hI : PInv ns R st B) (hB : B ≤ 80000000) (hk : ∀ k, k < ns.length → vD (qT ns k)) (hk6 : (qT ns n).kind = 6) :
    Calls Tryz.prog 100 #[.pointer (some ⟨pb, 0, none⟩), .int .i64 (i : Int), .int .i64 (n : Int), .agg #[.int .i64 (e : Int), .int .i64 (s : Int)]] w fun en w' => en = .returned (.tuple #[]) ∧ POwn.After w w' S pb ns R W D (pnoteS ns W st i n e s) := by
  have h8 := hO.small
  have h6 : Hid (∀ k, k < ns.length → (qT ns k).kind = 6 → 1 ≤ (qT ns k).k ∧ (qT ns k).k ≤ 8) := qJ fun k h1 h2 => (hk k h1).2.1 h2
  have HnS : Hid (∀ z, w.heap.size ≤ z → ¬ S z) := qJ (fun z hz h => by have := hO.slt z h; omega)
  have Htal := qJ (fun k hk => hO.row.tal i n hi hn k hk)
  have Hnone : Hid (∀ k, k < 408 → Value.ownBlock (yH (st.tl i n) e s k) = none) := qJ (fun k hk4 => by
    unfold yH
    split
    · rfl
    · split
      · rfl
      · split
        · rfl
        · exact tal_none hI hk6 k hk4)
  have Htake := qJ (fun (w' : World) (h : Bw w w') => pttake_any x.wb (i * 3684 + 32 + n * 408) e s x.warr 147 (fun g => intOf (st.tl i n (24 + e * 64 + s * 16 + g))) (fun g => wnOf (st.tl i n) (24 + e * 64 + s * 16 + 8 + g)) (wnOf (st.tl i n) (e * 4 + s)) w' (hO.bw h).work he hs4 (fun g' hg' => by
      rw [show i * 3684 + 32 + n * 408 + 24 + e * 64 + s * 16 + g' = i * 3684 + 32 + n * 408 + (24 + e * 64 + s * 16 + g') by omega, qK Htal _ (by omega)]
      obtain ⟨t, et⟩ := (hI.gs i n hk6 e s g' he hs4 hg').1
      rw [et]; rfl) (fun g' hg' => by
      rw [show i * 3684 + 32 + n * 408 + 24 + e * 64 + s * 16 + 8 + g' = i * 3684 + 32 + n * 408 + (24 + e * 64 + s * 16 + 8 + g') by omega, qK Htal _ (by omega)]
      obtain ⟨t, et⟩ := (hI.gs i n hk6 e s g' he hs4 hg').2
      unfold wnOf
      rw [et]) (by
      rw [show i * 3684 + 32 + n * 408 + e * 4 + s = i * 3684 + 32 + n * 408 + (e * 4 + s) by omega, qK Htal _ (by omega)]
      obtain ⟨t, et⟩ := hI.wn i n (e * 4 + s) (by omega)
      unfold wnOf
      rw [et]))
  have HP : Hid (∀ w0 w1 : World, Bw w w0 → w1.heap[x.wb]? = some (.cells ((setL x.warr (i * 3684 + 32 + n * 408 + 24 + e * 64 + s * 16) [.int .i64 0, .int .i64 0, .int .i64 0, .int .i64 0, .int .i64 0, .int .i64 0, .int .i64 0, .int .i64 0, .bool false, .bool false, .bool false, .bool false, .bool false, .bool false, .bool false, .bool false]).setIfInBounds (i * 3684 + 32 + n * 408 + e * 4 + s) (.bool false)) 147 (0, 0)) → Chg (fun z => z = x.wb) w0 w1 → ∃ arr', POwn w1 S pb { x with warr := arr' } ns R W D { st with tl := kF st.tl i n (yH (st.tl i n) e s) }) := qJ (fun w0 w1 hb h1 hC => by
    refine ⟨_, (hO.bw hb).setRow hC h1 ((hO.bw hb).row.setTl h8.1 hi hn (by simp [setL_size]) (fun p hp => ?_) (take_cells he hs4 (qK Htal)) (qK Hnone)) ⟨rfl, rfl⟩ hO.few.1⟩
    rw [Array.getElem?_setIfInBounds_ne (by omega), setL_out _ _ _ _ (by simp; omega)])
  have Hf : Hid (∀ k a b, k ≤ 8 → (ntW ns W i n e s (sumL (st.tl i n) e s) st.wt k a b).length ≤ 90000000) := qJ (fun k a b hk8 => by
    have := ntW_len ns W i n e s (sumL (st.tl i n) e s) st.wt B (fun a b => (hI.few a b).1) k a b
    omega)
  have Hlim : Hid (∀ a b, (st.wy a b).length + 1 ≤ 100000000) := qJ (fun a b => by have := (hI.few a b).2.2; omega)
  have HS : Hid (pnoteS ns W st i n e s = pchg W { st with tl := kF st.tl i n (yH (st.tl i n) e s), wt := ntW ns W i n e s (sumL (st.tl i n) e s) st.wt (sumL (st.tl i n) e s).length } i (ntP ns n e s (sumL (st.tl i n) e s) (sumL (st.tl i n) e s).length)) := qJ rfl
  have hl8 := sumL_len (st.tl i n) e s
  have HL : Hid (vQ (fun g => intOf (st.tl i n (24 + e * 64 + s * 16 + g))) (fun g => wnOf (st.tl i n) (24 + e * 64 + s * 16 + 8 + g)) 8 = sumL (st.tl i n) e s) := qJ rfl
  rw [qK HL] at Htake
  generalize sumL (st.tl i n) e s = L at *
  have Hpl := qJ (fun k => ntP_len ns n e s L k)
  have Hpo := qJ (fun k p hp => ntP_ok (ns := ns) (L := 8) (R := 4) (n := n) (e := e) (s := s) (l := L) h8.1 (by omega) he hs4 k p hp)
  obtain ⟨st1, hst1⟩ : ∃ st1 : PSt, { st with tl := kF st.tl i n (yH (st.tl i n) e s) } = st1 := ⟨_, rfl⟩
  have hwt1 : st1.wt = st.wt := by rw [← hst1]
  have hwy1 : st1.wy = st.wy := by rw [← hst1]
  have HS1 : Hid (pnoteS ns W st i n e s = pchg W { st1 with wt := ntW ns W i n e s L st1.wt L.length } i (ntP ns n e s L L.length)) := qJ (by rw [qK HS, ← hst1])
  rw [hst1] at HP
  rw [← hwt1] at Hf
  rw [← hwy1] at Hlim
  have c3 := qQ (o := 3) hO.root hO.r3
  have hi1 : (i : Int) < (W : Int) := by omega
  have hn8 : (n : Int) < 8 := by omega
  have hpw : ¬ pb = x.wb := fun e9 => by have h1 := hO.work; rw [← e9, hO.root] at h1; simp at h1
  have lt0 := hO.slt _ hO.sroot
  have lt1 := hO.slt _ hO.swork
  have hsw := hO.swork
  clear hO hI Hnone Htal HS HL hst1 hwt1 hwy1 hk
  go_enter Tryz.func100, Tryz.ntmps100
  go_wp2_with fail
  obtain ⟨w0, hw0⟩ : ∃ w0, w.alloc (.cells #[.int .i64 (e : Int), .int .i64 (s : Int)] 72) = w0 := ⟨_, rfl⟩
  have ht0 := heap_alloc_new w (.cells #[.int .i64 (e : Int), .int .i64 (s : Int)] 72)
  have hB0 : Bw w (w.alloc (.cells #[.int .i64 (e : Int), .int .i64 (s : Int)] 72)) := (by repeat first|exact br _|assumption|apply bd|apply bn|apply ba|refine bt ?_ (by assumption))
  rw [hw0] at ht0 hB0
  rw [hw0]
  clear hw0
  have hnt := (qK HnS) w.heap.size (Nat.le_refl _)
  obtain ⟨tb, htb⟩ : ∃ tb, w.heap.size = tb := ⟨_, rfl⟩
  rw [htb] at ht0 hnt
  rw [htb]
  have htw : ¬ tb = x.wb := fun e9 => hnt (e9 ▸ hsw)
  have k3 := ((qS hB0).1 _ 3 lt0).trans c3
  have t0 := qQ (o := 0) ht0 rfl
  have t1 := qQ (o := 1) ht0 rfl
  have tlt := (Array.getElem?_eq_some_iff.1 ht0).1
  have plt : pb < w0.heap.size := Nat.lt_of_lt_of_le lt0 hB0.size
  have wlt : x.wb < w0.heap.size := Nat.lt_of_lt_of_le lt1 hB0.size
  go_region_held3 (fun w' => w'.cell? ⟨pb, 3, none⟩ = some (.slice (some ⟨x.wb, 0, none⟩) W x.wc) ∧ w'.cell? ⟨tb, 0, none⟩ = some (.int .i64 (e : Int)) ∧ w'.cell? ⟨tb, 1, none⟩ = some (.int .i64 (s : Int))) (go_keep) ((go_at_call 123; refine ((qK Htake) _ (hB0.trans (by repeat first|exact br _|assumption|apply bd|apply bn|apply ba|refine bt ?_ (by assumption)))).mono ?_; rintro en w1 ⟨u, rfl, hou1, hC1, hb1⟩; have j3 := (World.cell?_of_block (a := ⟨pb, 3, none⟩) (hC1.block pb (by simpa using plt) hpw)).trans k3; have j0 := (World.cell?_of_block (a := ⟨tb, 0, none⟩) (hC1.block tb (by simpa using tlt) htw)).trans t0; have j1 := (World.cell?_of_block (a := ⟨tb, 1, none⟩) (hC1.block tb (by simpa using tlt) htw)).trans t1; have jt : tb < w1.heap.size := Nat.lt_of_lt_of_le (by simpa using tlt) hC1.size))
  obtain ⟨arr', hO1⟩ := (qK HP) w0.drew w1 (hB0.trans (by repeat first|exact br _|assumption|apply bd|apply bn|apply ba|refine bt ?_ (by assumption))) hb1 hC1
  obtain ⟨ua, uc, hue⟩ : ∃ ua uc, u = .slice ua L.length uc := ⟨_, _, qV hou1.1⟩
  subst hue
  have hC01 : Chg S w w1 := (Chg.bw (S := S) (hB0.trans (show Bw w0 w0.drew from (by repeat first|exact br _|assumption|apply bd|apply bn|apply ba|refine bt ?_ (by assumption))))).trans hC1 (fun b h => .inl (h ▸ hsw))
  have ht1 := (hC1.block tb (by simpa using tlt) htw).trans (show w0.drew.heap[tb]? = _ from ht0)
  have HO1 := qJ hO1
  have HC01 := qJ hC01
  have Ht1 := qJ ht1
  have Hu1 := qJ hou1
  have hz1 : w.heap.size ≤ w1.heap.size := hC01.size
  clear hO1 hC01 hC1 hb1 k3 t0 t1 ht0 Htake HP ht1 hou1 j3 c3
  have Hout := qJ (fun (w' : World) => pout_any (n : Int) (e : Int) (s : Int) (-1) w')
  simp only [Pt.val] at Hout
  go_wp2_with fail
  refine ((qK Hout) _).mono ?_
  rintro en w2 ⟨rfl, hb2⟩
  go_wp2_with fail
  obtain ⟨wE, hwE⟩ : ∃ wE, w2.alloc (.cells #[.int .i64 (n : Int), .bool true, .int .i64 (e : Int), .int .i64 (s : Int), .int .i64 (-1)] 67) = wE := ⟨_, rfl⟩
  have hgE := heap_alloc_new w2 (.cells #[.int .i64 (n : Int), .bool true, .int .i64 (e : Int), .int .i64 (s : Int), .int .i64 (-1)] 67)
  have hbE : Bw w1 (w2.alloc (.cells #[.int .i64 (n : Int), .bool true, .int .i64 (e : Int), .int .i64 (s : Int), .int .i64 (-1)] 67)) := hb2.trans (by repeat first|exact br _|assumption|apply bd|apply bn|apply ba|refine bt ?_ (by assumption))
  rw [hwE] at hgE hbE
  rw [hwE]
  have hz2 := hb2.size
  have H0 : Hid (∃ (k : Nat) (S' : Nat → Prop) (x' : PX), k ≤ L.length ∧ (Value.int .i64 0) = .int .i64 k ∧ POwn wE S' pb x' ns R W D { st1 with wt := ntW ns W i n e s L st1.wt k } ∧ wE.heap[tb]? = some (.cells #[.int .i64 (e : Int), .int .i64 (s : Int)] 72 (0, 0)) ∧ ¬ S' tb ∧ wE.ownsRow 0 3 1 (.slice ua L.length uc) L.length (L.map (Value.int .i64)) ∧ (∀ b, Value.ownBlock (.slice ua L.length uc) = some b → ¬ S' b) ∧ Chg S w wE ∧ (∀ b, S' b → S b ∨ w.heap.size ≤ b) ∧ OwnP w wE (.slice (some ⟨w2.heap.size, 0, none⟩) 1 1) (ntP ns n e s L k) ∧ (∀ b, Value.ownBlock (.slice (some ⟨w2.heap.size, 0, none⟩) 1 1) = some b → ¬ S' b)) := qJ
    ⟨0, S, _, Nat.zero_le _, rfl, (qK HO1).bw hbE, (Below.block hbE _ jt).trans (qK Ht1), hnt, qM (qX (qK Hu1).1 fun g hg => Below.block hbE g hg) (Nat.zero_le _), fun b hb => (qK HnS) b (by have h5 := (qK Hu1).2 b hb; have h6 := hB0.size; simp at h5; omega), (qK HC01).trans (Chg.bw (S := S) hbE) (fun _ h => .inl h), fun _ h => .inl h, ownP_one (p := ⟨n, true, e, s, -1⟩) (by omega) hgE, fun b hb => (qK HnS) b (by simp only [Value.ownBlock, Option.some.injEq] at hb; omega)⟩
  clear HO1 HC01 Ht1 Hu1 hgE hbE hwE j0 j1 jt hb2 hz2 hz1 Hout tlt plt wlt lt0 lt1 hB0
  go_loopw [9, 30] (fun v idx wr => ∃ (k : Nat) (S' : Nat → Prop) (x' : PX), k ≤ L.length ∧ idx = .int .i64 k ∧ POwn wr S' pb x' ns R W D { st1 with wt := ntW ns W i n e s L st1.wt k } ∧ wr.heap[tb]? = some (.cells #[.int .i64 (e : Int), .int .i64 (s : Int)] 72 (0, 0)) ∧ ¬ S' tb ∧ wr.ownsRow 0 3 1 (.slice ua L.length uc) L.length (L.map (Value.int .i64)) ∧ (∀ b, Value.ownBlock (.slice ua L.length uc) = some b → ¬ S' b) ∧ Chg S w wr ∧ (∀ b, S' b → S b ∨ w.heap.size ≤ b) ∧ OwnP w wr v (ntP ns n e s L k) ∧ (∀ b, v.ownBlock = some b → ¬ S' b)) (fun _ idx _ => L.length - (intOf idx).toNat)
  case atStart => exact qK H0
  case round =>
    clear H0
    obtain ⟨k, S', x', hk, rfl, hOr, ht, hnt', hur, hnu, hC, hS', hv, hnv⟩ := hrel
    rename World => wr
    have hz := hC.size
    have hpl := (qK Hpl) k
    have hkl : k * ns.length ≤ 8 * 8 := Nat.mul_le_mul (by omega) h8.1
    obtain ⟨va, vc, hve⟩ : ∃ va vc, u9 = .slice va (ntP ns n e s L k).length vc := ⟨_, _, qV hv⟩
    subst hve
    by_cases hlt : k < L.length
    · have hk1 : (k : Int) < (L.length : Int) := by omega
      obtain ⟨gu, rfl, hgu, hcu⟩ := getS hur hlt
      have t0 := qQ (o := 0) ht rfl
      have t1 := qQ (o := 1) ht rfl
      have tlt := (Array.getElem?_eq_some_iff.1 ht).1
      have hpp := xY ns n ⟨e, s, jD L k⟩ ns.length
      have Hnx : Hid (ntP ns n e s L (k + 1) = ntP ns n e s L k ++ jR ns n ⟨e, s, jD L k⟩ ns.length) := qJ rfl
      have HnW : Hid (ntW ns W i n e s L st1.wt (k + 1) = zM ns W i n ⟨e, s, jD L k⟩ (ntW ns W i n e s L st1.wt k) ns.length) := qJ rfl
      have Hput := qJ (fun (w' : World) (h : Bw wr w') => pput_any i n e s (jD L k) w' (hOr.bw h) hi (qK h6) (fun a b => (qK Hf) k a b (by omega)))
      have HOr := qJ hOr
      have Hv := qJ hv
      have Hur := qJ hur
      have Ht := qJ ht
      generalize jD L k = vk at *
      generalize hP0 : ntP ns n e s L k = P0 at *
      generalize hQ0 : jR ns n ⟨e, s, vk⟩ ns.length = Q0 at *
      clear hOr hv hur ht hP0 hQ0
      go_wp2_with fail
      refine ((qK Hput) _ (Bw.refl _)).mono ?_
      rintro en w3 ⟨u3, rfl, hou3, S3, x3, hO3, hC3, hS3⟩
      obtain ⟨qa, qc, hqe⟩ : ∃ qa qc, u3 = .slice qa Q0.length qc := ⟨_, _, qV hou3⟩
      subst hqe
      have hz3 := hC3.size
      have hvl : ∀ b, Value.ownBlock (.slice va P0.length vc) = some b → w.heap.size ≤ b ∧ b < wr.heap.size := fun b hb => World.ownsRow.lt (qK Hv) b hb
      have hv3 := kK (qK Hv) fun b hb => hC3.block b (hvl b hb).2 (hnv b hb)
      have hnv3 : ∀ b, Value.ownBlock (.slice va P0.length vc) = some b → ¬ S3 b := fun b hb h => by
        rcases hS3 b h with h | h
        · exact hnv b hb h
        · have := (hvl b hb).2; omega
      have Hv3 := qJ hv3
      have HO3 := qJ hO3
      have HC3 := qJ hC3
      have HS3 := qJ hS3
      have Hou3 := qJ hou3
      clear hv3 hO3 hC3 hS3 hou3 Hput
      go_wp2_with (at_builtin; refine appG w3 rfl _ _ _ 67 rfl _ 5 40 Tryz.infoPoint Tryz.underlying63 rfl (by decide) w.heap.size (.slice va P0.length vc) P0.length (qR P0) rfl (qK Hv3) _ Q0.length _ (qR Q0) rfl (zB Q0) (jC (qK Hou3)) (pts_one Q0) (by omega) (by omega) (by omega) ?_; intro v4 w4 hown4 hgr4 hl4; obtain ⟨ya, yc, hye⟩ : ∃ ya yc, v4 = .slice ya (P0.length + Q0.length) yc := ⟨_, _, qV hown4⟩; subst hye)
      have hgpt := xN (fun b hb => jZ (qK Hv3) hb) hgr4
      have Hown4 := qJ hown4
      clear hown4
      go_roundw
      case rel =>
        refine ⟨k + 1, S3, x3, by omega, by go_num, ?_, ?_, ?_, ?_, ?_, ?_, ?_, ?_, ?_⟩
        · rw [qK HnW]
          exact (qK HO3).frame hgr4.size (fun b hb hl => hgr4.block b hl (fun e9 => hnv3 b e9.symm hb))
        · have h3 := ((qK HC3).block tb tlt hnt').trans (qK Ht)
          exact (hgpt _ (by decide) tb _ h3).trans h3
        · intro h
          rcases (qK HS3) tb h with h | h
          · exact hnt' h
          · omega
        · refine kK (qK Hur) fun b hb => ?_
          obtain ⟨cur, hc⟩ := jZ (qK Hur) hb
          have h3 := (qK HC3).block b (Array.getElem?_eq_some_iff.1 hc).1 (hnu b hb)
          exact (hgpt _ (by decide) b cur (h3.trans hc)).trans h3
        · intro b hb h
          rcases (qK HS3) b h with h | h
          · exact hnu b hb h
          · have := (World.ownsRow.lt (qK Hur) b hb).2; omega
        · have k2 : Chg (fun b => Value.ownBlock (.slice va P0.length vc) = some b) w3 w4 := ⟨hgr4.os, hgr4.tape, hgr4.output, hgr4.size, fun i hi hn => hgr4.block i hi (fun e => hn e.symm)⟩
          exact (hC.trans (qK HC3) (fun b h => hS' b h)).trans k2 (fun b h => .inr (hvl b h).1)
        · intro b h
          rcases (qK HS3) b h with h | h
          · exact hS' b h
          · exact .inr (by omega)
        · rw [qK Hnx]
          show World.ownsRow _ _ _ _ _ (P0 ++ Q0).length (qR (P0 ++ Q0))
          rw [List.length_append, xS]
          exact qK Hown4
        · intro b hb h
          rcases hl4 b hb with h5 | h5
          · exact hnv3 b h5 h
          · have := (qK HO3).slt b h; omega
      case measure => simp [intOf]; omega
    · have hkk : k = L.length := by omega
      subst hkk
      have hk1 : ¬ (L.length : Int) < (L.length : Int) := by omega
      have Hmk := qJ (fun (w' : World) (h : Bw wr w') => pmake_any i (ntP ns n e s L L.length) va vc w' (hOr.bw h) hi (jC (OwnP.bw hv h)) (fun j hj => (qK Hpo) _ _ (xH hj)) (by omega) (qK Hlim))
      clear hOr hv hur ht
      go_wp2_with (go_at_call 89; refine ((qK Hmk) _ (by repeat first|exact br _|assumption|apply bd|apply bn|apply ba|refine bt ?_ (by assumption))).mono ?_; rintro en w5 ⟨rfl, hA⟩)
      go_end0
      refine ⟨rfl, ?_⟩
      rw [qK HS1]
      exact After.of hC hS' hA
end Go.Proofs.YtfemleimkbjehaaGreat
