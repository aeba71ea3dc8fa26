import Derived.Test.YtfemleimkbjehaaGreatAcG
import Derived.Test.YtfemleimkbjehaaGreatJ23
set_option maxRecDepth 1000000
set_option maxHeartbeats 40000000
set_option linter.unusedVariables false
set_option linter.unusedSimpArgs false
namespace Go.Proofs.YtfemleimkbjehaaGreat
open Go.RowKit
theorem ROwn.After.answer {w a b c : World} {S : Nat → Prop} {rb g : Nat} {ns : List Nd} {R W : Nat} {D : Nat → Nat → Int} {st : RSt} (hB : Bw w a) (h : ROwn.After a b S rb ns R W D st) (hc : Chg (fun x => x = g) b c) (hg : w.heap.size ≤ g) (hga : g < a.heap.size) (hS : ∀ z, S z → z < w.heap.size) : ROwn.After w c S rb ns R W D st := by
  obtain ⟨S', x', h1, h2, h3⟩ := h
  have hz := hB.size
  refine ⟨S', x', h1.other hc (fun z hz e => ?_), ((Chg.bw (S := S) hB).trans h2 (fun _ h => .inl h)).trans hc (fun z e => .inr (e ▸ hg)), fun z hz => (h3 z hz).imp id (fun h => by omega)⟩
  subst e
  rcases h3 z hz with h | h
  · have := hS z h; omega
  · omega
theorem rdo_none {S : Nat → Prop} {rb : Nat} {x : RX} {ns : List Nd} {R W : Nat} {D : Nat → Nat → Int} {st : RSt} {l : List Ev} (k : Int) (w : World) (hO : ROwn w S rb x ns R W D st) (hact : ∀ w', Bw w w' → Calls Tryz.prog 23 #[.pointer (some ⟨rb, 0, none⟩)] w' fun en w2 => ∃ v, en = .returned v ∧ OwnE w' w2 v l ∧ Bw w' w2) (hk : k < 0 ∨ (l.length : Int) ≤ k) :
    Calls Tryz.prog 48 #[.pointer (some ⟨rb, 0, none⟩), .int .i64 k] w fun en w' => en = .returned (.tuple #[Ev.val ev0, .int .i64 3]) ∧ ROwn.After w w' S rb ns R W D (st) := by
  have HnS : Hid (∀ z, S z → z < w.heap.size) := qJ hO.slt
  have Hact := qJ hact
  have HO := qJ hO
  clear hO hact
  go_enter Tryz.func48, Tryz.ntmps48
  go_wp2_with fail
  refine ((qK Hact) _ (by repeat first|exact br _|assumption|apply bd|apply bn|apply ba|refine bt ?_ (by assumption))).mono ?_
  rintro en w1 ⟨v1, rfl, ho1, hb1⟩
  obtain ⟨a1, c1, hve⟩ := ho1.val
  subst hve
  have hbx := (Below.block hb1 w.heap.size (by simp)).trans (heap_alloc_new w (.cells #[.int .i64 0, .int .i64 0, .int .i64 0, .int .i64 0, .int .i64 0, .int .i64 0, .int .i64 0] 110))
  have hB1 : Bw w w1 := (show Bw w (w.alloc (.cells #[.int .i64 0, .int .i64 0, .int .i64 0, .int .i64 0, .int .i64 0, .int .i64 0, .int .i64 0] 110)) from (by repeat first|exact br _|assumption|apply bd|apply bn|apply ba|refine bt ?_ (by assumption))).trans hb1
  have bl := (Array.getElem?_eq_some_iff.1 hbx).1
  have b0 := qQ (o := 0) hbx rfl
  have b1 := qQ (o := 1) hbx rfl
  have b2 := qQ (o := 2) hbx rfl
  have b3 := qQ (o := 3) hbx rfl
  have b4 := qQ (o := 4) hbx rfl
  have b5 := qQ (o := 5) hbx rfl
  have b6 := qQ (o := 6) hbx rfl
  have bf := fun o => qZ (o := o) hbx
  rcases hk with hk | hk
  · have d1 : decide (k < 0) = true := by simpa using hk
    go_wp2_with fail
    obtain ⟨x0, x2⟩ := set7 hbx (.int .i64 0) (.int .i64 0) (.int .i64 0) (.int .i64 0) (.int .i64 0) (.int .i64 0) (.int .i64 0)
    obtain ⟨wE, hwE⟩ : ∃ wE, ((((((w1.setCell ⟨w.heap.size, 0, none⟩ (.int .i64 0)).setCell ⟨w.heap.size, 1, none⟩ (.int .i64 0)).setCell ⟨w.heap.size, 2, none⟩ (.int .i64 0)).setCell ⟨w.heap.size, 3, none⟩ (.int .i64 0)).setCell ⟨w.heap.size, 4, none⟩ (.int .i64 0)).setCell ⟨w.heap.size, 5, none⟩ (.int .i64 0)).setCell ⟨w.heap.size, 6, none⟩ (.int .i64 0) = wE := ⟨_, rfl⟩
    rw [hwE] at x0 x2
    rw [hwE]
    clear hwE
    clear b0 b1 b2 b3 b4 b5 b6 bf
    have e0 := qQ (o := 0) x0 rfl
    have e1 := qQ (o := 1) x0 rfl
    have e2 := qQ (o := 2) x0 rfl
    have e3 := qQ (o := 3) x0 rfl
    have e4 := qQ (o := 4) x0 rfl
    have e5 := qQ (o := 5) x0 rfl
    have e6 := qQ (o := 6) x0 rfl
    refine bodyPost_ret (v := .tuple #[Ev.val ev0, .int .i64 3]) (by simp [results, Tryz.results48, go_sem, e0, e1, e2, e3, e4, e5, e6, Ev.val, ev0]) rfl ⟨rfl, ?_⟩
    exact ROwn.After.answer hB1 ((qK HO).bw hB1).after_same x2 (Nat.le_refl _) bl (qK HnS)
  · have hk0 : ¬ k < 0 := by omega
    have d1 : decide (k < 0) = false := by simpa using hk0
    have d2 : decide ((l.length : Int) ≤ k) = true := by simpa using hk
    go_wp2_with fail
    obtain ⟨x0, x2⟩ := set7 hbx (.int .i64 0) (.int .i64 0) (.int .i64 0) (.int .i64 0) (.int .i64 0) (.int .i64 0) (.int .i64 0)
    obtain ⟨wE, hwE⟩ : ∃ wE, ((((((w1.setCell ⟨w.heap.size, 0, none⟩ (.int .i64 0)).setCell ⟨w.heap.size, 1, none⟩ (.int .i64 0)).setCell ⟨w.heap.size, 2, none⟩ (.int .i64 0)).setCell ⟨w.heap.size, 3, none⟩ (.int .i64 0)).setCell ⟨w.heap.size, 4, none⟩ (.int .i64 0)).setCell ⟨w.heap.size, 5, none⟩ (.int .i64 0)).setCell ⟨w.heap.size, 6, none⟩ (.int .i64 0) = wE := ⟨_, rfl⟩
    rw [hwE] at x0 x2
    rw [hwE]
    clear hwE
    clear b0 b1 b2 b3 b4 b5 b6 bf
    have e0 := qQ (o := 0) x0 rfl
    have e1 := qQ (o := 1) x0 rfl
    have e2 := qQ (o := 2) x0 rfl
    have e3 := qQ (o := 3) x0 rfl
    have e4 := qQ (o := 4) x0 rfl
    have e5 := qQ (o := 5) x0 rfl
    have e6 := qQ (o := 6) x0 rfl
    refine bodyPost_ret (v := .tuple #[Ev.val ev0, .int .i64 3]) (by simp [results, Tryz.results48, go_sem, e0, e1, e2, e3, e4, e5, e6, Ev.val, ev0]) rfl ⟨rfl, ?_⟩
    exact ROwn.After.answer hB1 ((qK HO).bw hB1).after_same x2 (Nat.le_refl _) bl (qK HnS)
theorem ev_cells7 {w : World} {g : Nat} {ty : TypeId} {x : Ev} (h : w.heap[g]? = some (.cells #[.int .i64 x.kind, .int .i64 x.worker, .int .i64 x.node, .int .i64 x.index, .int .i64 x.epoch, .int .i64 x.round, .int .i64 x.value] ty (0, 0))) : ∀ j u, x.cells[j]? = some u → w.cell? ⟨g, j, none⟩ = some u := by
  intro j u hj
  unfold Ev.cells at hj
  match j, hj with
  | 0, hj => simp at hj; subst hj; exact qQ h rfl
  | 1, hj => simp at hj; subst hj; exact qQ h rfl
  | 2, hj => simp at hj; subst hj; exact qQ h rfl
  | 3, hj => simp at hj; subst hj; exact qQ h rfl
  | 4, hj => simp at hj; subst hj; exact qQ h rfl
  | 5, hj => simp at hj; subst hj; exact qQ h rfl
  | 6, hj => simp at hj; subst hj; exact qQ h rfl
theorem ev_at {w : World} {base : Nat} {ty : TypeId} {v : Value} {A : List Ev} (h : w.ownsRow base ty 7 v A.length (kH A)) {k : Nat} (hk : k < A.length) : ∃ g, kY v = some ⟨g, 0, none⟩ ∧ g < w.heap.size ∧ w.cell? ⟨g, k * 7, none⟩ = some (.int .i64 (zH A k).kind) ∧ w.cell? ⟨g, k * 7 + 1, none⟩ = some (.int .i64 (zH A k).worker) ∧ w.cell? ⟨g, k * 7 + 2, none⟩ = some (.int .i64 (zH A k).node) ∧ w.cell? ⟨g, k * 7 + 3, none⟩ = some (.int .i64 (zH A k).index) ∧ w.cell? ⟨g, k * 7 + 4, none⟩ = some (.int .i64 (zH A k).epoch) ∧ w.cell? ⟨g, k * 7 + 5, none⟩ = some (.int .i64 (zH A k).round) ∧ w.cell? ⟨g, k * 7 + 6, none⟩ = some (.int .i64 (zH A k).value) := by
  obtain ⟨g, e, hl, hc⟩ := qB h (by omega)
  have q : ∀ f, f < 7 → ∀ u, (Ev.cells (zH A k))[f]? = some u → w.cell? ⟨g, k * 7 + f, none⟩ = some u := fun f hf u hu => hc _ _ ((vL (f := Ev.cells) (d := ev0) (fun _ => rfl) A k hk f hf).trans hu)
  exact ⟨g, e, hl, q 0 (by omega) _ rfl, q 1 (by omega) _ rfl, q 2 (by omega) _ rfl, q 3 (by omega) _ rfl, q 4 (by omega) _ rfl, q 5 (by omega) _ rfl, q 6 (by omega) _ rfl⟩
theorem rdo_tell {S : Nat → Prop} {rb : Nat} {x : RX} {ns : List Nd} {R W : Nat} {D : Nat → Nat → Int} {st : RSt} {l : List Ev} (k : Int) (w : World) (hO : ROwn w S rb x ns R W D st) (hact : ∀ w', Bw w w' → Calls Tryz.prog 23 #[.pointer (some ⟨rb, 0, none⟩)] w' fun en w2 => ∃ v, en = .returned v ∧ OwnE w' w2 v l ∧ Bw w' w2) (kn : Nat) (hkn : k = kn) (hkl : kn < l.length) (a y t : Nat) (ha : a < W) (hy : y < W) (ht : st.told a y = t) (htb : t ≤ 100000000) (hlev : st.evs.length + 1 ≤ 100000000) (hA : zH l kn = ⟨3, a, 0, y, 0, 0, 0⟩) :
    Calls Tryz.prog 48 #[.pointer (some ⟨rb, 0, none⟩), .int .i64 k] w fun en w' => en = .returned (.tuple #[Ev.val ⟨3, a, 0, y, 0, 0, 0⟩, .int .i64 0]) ∧ ROwn.After w w' S rb ns R W D (doS ns R W st ⟨3, a, 0, y, 0, 0, 0⟩) := by
  subst hkn
  have HnS : Hid (∀ z, S z → z < w.heap.size) := qJ hO.slt
  have Hact := qJ hact
  have HO := qJ hO
  clear hO hact
  go_enter Tryz.func48, Tryz.ntmps48
  go_wp2_with fail
  refine ((qK Hact) _ (by repeat first|exact br _|assumption|apply bd|apply bn|apply ba|refine bt ?_ (by assumption))).mono ?_
  rintro en w1 ⟨v1, rfl, ho1, hb1⟩
  obtain ⟨a1, c1, hve⟩ := ho1.val
  subst hve
  have hbx := (Below.block hb1 w.heap.size (by simp)).trans (heap_alloc_new w (.cells #[.int .i64 0, .int .i64 0, .int .i64 0, .int .i64 0, .int .i64 0, .int .i64 0, .int .i64 0] 110))
  have hB1 : Bw w w1 := (show Bw w (w.alloc (.cells #[.int .i64 0, .int .i64 0, .int .i64 0, .int .i64 0, .int .i64 0, .int .i64 0, .int .i64 0] 110)) from (by repeat first|exact br _|assumption|apply bd|apply bn|apply ba|refine bt ?_ (by assumption))).trans hb1
  have bl := (Array.getElem?_eq_some_iff.1 hbx).1
  obtain ⟨gl1, eg1, hgl1, y0, y1, y2, y3, y4, y5, y6⟩ := ev_at ho1 hkl
  simp only [kY] at eg1
  subst eg1
  rw [hA] at y0 y1 y2 y3 y4 y5 y6
  simp only at y0 y1 y2 y3 y4 y5 y6
  have hkl1 : (kn : Int) < (l.length : Int) := by omega
  have d1 : decide ((kn : Int) < 0) = false := by simp
  have d2 : decide ((l.length : Int) ≤ (kn : Int)) = false := by simp; omega
  clear ho1 hA
  go_wp2_with fail
  obtain ⟨w0, hw0⟩ : ∃ w0, w1.alloc (.cells #[.int .i64 (3), .int .i64 (a), .int .i64 (0), .int .i64 (y), .int .i64 (0), .int .i64 (0), .int .i64 (0)] 110) = w0 := ⟨_, rfl⟩
  obtain ⟨hev, hb0, hz0⟩ : w0.heap[w1.heap.size]? = some (.cells #[.int .i64 (3), .int .i64 (a), .int .i64 (0), .int .i64 (y), .int .i64 (0), .int .i64 (0), .int .i64 (0)] 110) ∧ Bw w1 w0 ∧ w0.heap.size = w1.heap.size + 1 := by
    rw [← hw0]; exact ⟨heap_alloc_new w1 _, (by repeat first|exact br _|assumption|apply bd|apply bn|apply ba|refine bt ?_ (by assumption)), by simp⟩
  rw [hw0]
  have hbx0 := (Below.block hb0 _ bl).trans hbx
  have hB0 := hB1.trans hb0
  have hz1 : w.heap.size < w1.heap.size := bl
  obtain ⟨eb, heb⟩ : ∃ eb, w1.heap.size = eb := ⟨_, rfl⟩
  rw [heb] at hev hz0 hz1
  rw [heb]
  clear hw0 y0 y1 y2 y3 y4 y5 y6 heb
  have hO0 := (qK HO).bw hB0
  have hne0 : ¬ S eb := fun h => by have := (qK HnS) _ h; omega
  have hnb0 : ¬ S w.heap.size := fun h => by have := (qK HnS) _ h; omega
  have v0 := qQ (o := 0) hev rfl
  have v1 := qQ (o := 1) hev rfl
  have v2 := qQ (o := 2) hev rfl
  have v3 := qQ (o := 3) hev rfl
  have v4 := qQ (o := 4) hev rfl
  have v5 := qQ (o := 5) hev rfl
  have v6 := qQ (o := 6) hev rfl
  have evl := (Array.getElem?_eq_some_iff.1 hev).1
  obtain ⟨g, c, cur, hts, hSg, hcur, hO2⟩ := hO0.setTold ha hy
  have r7 := qQ (o := 7) (u := x.t) hO0.root rfl
  have rl := (Array.getElem?_eq_some_iff.1 hO0.root).1
  obtain ⟨gt, et, hgt, hct⟩ := qB hO0.trow.1 (by omega)
  have ta := hct a _ hts
  obtain ⟨vs, hv1, hv2⟩ := hO0.told
  have hvs := ownsRow_uniq hv1.1 hO0.trow.1
  subst hvs
  obtain ⟨u, hu, huo⟩ := hv2 a ha
  rw [hts] at hu
  simp only [Option.some.injEq] at hu
  subst hu
  obtain ⟨gq, eq, hgq, hcq⟩ := qB huo.1 (by omega)
  have tb := hcq y (.int .i64 (st.told a y)) (by simp [hy])
  simp only [kY] at eq
  obtain ⟨xa, xc, hxt⟩ : ∃ xa xc, x.t = .slice xa W xc := ⟨_, _, qV hO0.trow.1⟩
  rw [hxt] at r7 et
  simp only [kY] at et
  subst et
  simp only [Option.some.injEq, Addr.mk.injEq, and_true] at eq
  subst eq
  rw [ht] at tb
  have tbf := qZ (o := y) hcur
  have hgl := (Array.getElem?_eq_some_iff.1 hcur).1
  have ha1 : (a : Int) < (W : Int) := by omega
  have hy1 : (y : Int) < (W : Int) := by omega
  rw [ht] at hO2
  have HO2 := qJ hO2
  have Hev0 := qJ hev
  have Hbx0 := qJ hbx0
  clear hO0 hO2 hv1 hv2 huo hct hcq hcur hev hbx0
  go_wp2_with fail
  go_region
  obtain ⟨wz, hwz⟩ : ∃ wz, (w0.setCell ⟨g, y, none⟩ (.int .i64 ((t : Int) + 1))).drew = wz := ⟨_, rfl⟩
  have hOz := (qK HO2).bw (show Bw _ (w0.setCell ⟨g, y, none⟩ (.int .i64 ((t : Int) + 1))).drew from (by repeat first|exact br _|assumption|apply bd|apply bn|apply ba|refine bt ?_ (by assumption)))
  have hCz : Chg S w (w0.setCell ⟨g, y, none⟩ (.int .i64 ((t : Int) + 1))).drew := ((Chg.bw (S := S) hB0).trans (qP w0 g y _) (fun b h => .inl (h ▸ hSg))).trans (Chg.bw (S := S) (by repeat first|exact br _|assumption|apply bd|apply bn|apply ba|refine bt ?_ (by assumption))) (fun _ h => .inl h)
  have hevz : (w0.setCell ⟨g, y, none⟩ (.int .i64 ((t : Int) + 1))).drew.heap[eb]? = _ := (Below.heap_setCell w0 ⟨g, y, none⟩ _ eb (fun e9 => hne0 (by rw [e9]; exact hSg))).trans (qK Hev0)
  have hbxz : (w0.setCell ⟨g, y, none⟩ (.int .i64 ((t : Int) + 1))).drew.heap[w.heap.size]? = _ := (Below.heap_setCell w0 ⟨g, y, none⟩ _ w.heap.size (fun e9 => hnb0 (by rw [e9]; exact hSg))).trans (qK Hbx0)
  rw [hwz] at hOz hCz hevz hbxz
  rw [hwz]
  have hSz : ∀ b, S b → S b ∨ w.heap.size ≤ b := fun _ h => .inl h
  have hnez := hne0
  have hnbz := hnb0
  have HWz : Hid (doS ns R W st ⟨3, a, 0, y, 0, 0, 0⟩ = { { st with told := jH st.told a y } with evs := st.evs ++ [⟨3, a, 0, y, 0, 0, 0⟩] }) := qJ rfl
  clear hwz v0 v1 v2 v3 v4 v5 v6 r7 ta tb tbf
  have r5 := qQ (o := 5) (u := x.e) hOz.root rfl
  have rlz := (Array.getElem?_eq_some_iff.1 hOz.root).1
  have ez0 := qQ (o := 0) hevz rfl
  have ez1 := qQ (o := 1) hevz rfl
  have ez2 := qQ (o := 2) hevz rfl
  have ez3 := qQ (o := 3) hevz rfl
  have ez4 := qQ (o := 4) hevz rfl
  have ez5 := qQ (o := 5) hevz rfl
  have ez6 := qQ (o := 6) hevz rfl
  have ezl := (Array.getElem?_eq_some_iff.1 hevz).1
  have Hezz := qJ hevz
  have Hbxz := qJ hbxz
  have bzl := (Array.getElem?_eq_some_iff.1 hbxz).1
  have Hev := qJ hOz.evs
  have HOz := qJ hOz
  clear hOz hevz hbxz
  go_wp2_with fail
  go_region_law (refine yT rfl _ _ _ 110 rfl _ 7 56 Tryz.infoEvent Tryz.underlying56 rfl (by decide) 0 x.e st.evs.length (kH st.evs) rfl (qX (qK Hev).1 fun g hg => Below.block (show Bw wz _ from (by repeat first|exact br _|assumption|apply bd|apply bn|apply ba|refine bt ?_ (by assumption))) g hg) _ _ (Ev.cells ⟨3, a, 0, y, 0, 0, 0⟩) rfl rfl (ev_cells7 (qY _ _ (by simp))) (ev_one _) (by omega) (by omega) (Nat.zero_le _) ?_; intro g' cap w5 ho5 hg5 hl5; have hr5 := qW (qX (qK Hev).1 fun g hg => Below.block (show Bw wz _ from (by repeat first|exact br _|assumption|apply bd|apply bn|apply ba|refine bt ?_ (by assumption))) g hg) hg5 ((qK HOz).bw (show Bw wz _ from (by repeat first|exact br _|assumption|apply bd|apply bn|apply ba|refine bt ?_ (by assumption)))).root (.inl (by decide)); have q5 := qQ (o := 5) (u := x.e) hr5 rfl; have q5f := qZ (o := 5) hr5; have q5l := (Array.getElem?_eq_some_iff.1 hr5).1; clear hr5)
  all_goals (
    obtain ⟨wB, hwB, hBB⟩ : ∃ wB, wB = (wz.alloc (.cells #[.int .i64 (3), .int .i64 (a), .int .i64 (0), .int .i64 (y), .int .i64 (0), .int .i64 (0), .int .i64 (0)] 110)).drew ∧ Bw wz wB := ⟨_, rfl, (by repeat first|exact br _|assumption|apply bd|apply bn|apply ba|refine bt ?_ (by assumption))⟩
    rw [← hwB] at hg5 hl5
    have hOB := (qK HOz).bw hBB
    have hO6 := hOB.addEvs (y := ⟨3, a, 0, y, 0, 0, 0⟩) ho5 hg5 hlev
    have hC6 := yX (k := 5) (v' := .slice (some ⟨g', 0, none⟩) (st.evs.length + 1) cap) hOB.evs hg5 hOB.sroot rfl
    have hzB := hBB.size
    have hzw := hCz.size
    have hbx6 := (hC6.block _ (Nat.lt_of_lt_of_le bzl hzB) hnbz).trans ((Below.block hBB _ bzl).trans (qK Hbxz))
    have hev6 := (hC6.block _ (Nat.lt_of_lt_of_le ezl hzB) hnez).trans ((Below.block hBB _ ezl).trans (qK Hezz))
    have g0 := qQ (o := 0) hbx6 rfl
    have g1 := qQ (o := 1) hbx6 rfl
    have g2 := qQ (o := 2) hbx6 rfl
    have g3 := qQ (o := 3) hbx6 rfl
    have g4 := qQ (o := 4) hbx6 rfl
    have g5 := qQ (o := 5) hbx6 rfl
    have g6 := qQ (o := 6) hbx6 rfl
    have f0 := qQ (o := 0) hev6 rfl
    have f1 := qQ (o := 1) hev6 rfl
    have f2 := qQ (o := 2) hev6 rfl
    have f3 := qQ (o := 3) hev6 rfl
    have f4 := qQ (o := 4) hev6 rfl
    have f5 := qQ (o := 5) hev6 rfl
    have f6 := qQ (o := 6) hev6 rfl
    have gf := fun o => qZ (o := o) hbx6
    have gl := (Array.getElem?_eq_some_iff.1 hbx6).1
    have fl := (Array.getElem?_eq_some_iff.1 hev6).1
    have HO6 := qJ hO6
    have HC6 := qJ hC6
    clear hO6 hC6 hOB hev6 q5 q5f
    obtain ⟨w6, hw6⟩ : ∃ w6, w5.setCell ⟨rb, 5, none⟩ (.slice (some ⟨g', 0, none⟩) (st.evs.length + 1) cap) = w6 := ⟨_, rfl⟩
    rw [hw6] at HO6 HC6 hbx6 g0 g1 g2 g3 g4 g5 g6 gf gl f0 f1 f2 f3 f4 f5 f6 fl
    rw [hw6]
    clear hw6
    go_wp2_with fail
    obtain ⟨x0, x2⟩ := set7 hbx6 (.int .i64 (3)) (.int .i64 (a)) (.int .i64 (0)) (.int .i64 (y)) (.int .i64 (0)) (.int .i64 (0)) (.int .i64 (0))
    obtain ⟨wE, hwE⟩ : ∃ wE, ((((((w6.setCell ⟨w.heap.size, 0, none⟩ (.int .i64 (3))).setCell ⟨w.heap.size, 1, none⟩ (.int .i64 (a))).setCell ⟨w.heap.size, 2, none⟩ (.int .i64 (0))).setCell ⟨w.heap.size, 3, none⟩ (.int .i64 (y))).setCell ⟨w.heap.size, 4, none⟩ (.int .i64 (0))).setCell ⟨w.heap.size, 5, none⟩ (.int .i64 (0))).setCell ⟨w.heap.size, 6, none⟩ (.int .i64 (0)) = wE := ⟨_, rfl⟩
    rw [hwE] at x0 x2
    rw [hwE]
    clear hwE
    clear g0 g1 g2 g3 g4 g5 g6 gf f0 f1 f2 f3 f4 f5 f6
    have e0 := qQ (o := 0) x0 rfl
    have e1 := qQ (o := 1) x0 rfl
    have e2 := qQ (o := 2) x0 rfl
    have e3 := qQ (o := 3) x0 rfl
    have e4 := qQ (o := 4) x0 rfl
    have e5 := qQ (o := 5) x0 rfl
    have e6 := qQ (o := 6) x0 rfl
    refine bodyPost_ret (v := .tuple #[Ev.val ⟨3, a, 0, y, 0, 0, 0⟩, .int .i64 0]) (by simp [results, Tryz.results48, go_sem, e0, e1, e2, e3, e4, e5, e6, Ev.val, ev0]) rfl ⟨rfl, ?_⟩
    rw [qK HWz]
    refine ⟨_, _, (qK HO6).other x2 (fun b hb e9 => ?_), ((hCz.trans (Chg.bw (S := S) hBB) (fun _ h => .inl h)).trans (qK HC6) hSz).trans x2 (fun b e9 => .inr (by omega)), fun b hb => ?_⟩
    · subst e9
      rcases hb with hb | hb
      · exact hnbz hb
      · rcases hl5 with h | h
        · exact hnbz ((qK HOz).evs.2 _ (by rw [hb]; exact h))
        · omega
    · rcases hb with hb | rfl
      · exact hSz b hb
      · rcases hl5 with h | h
        · exact hSz _ ((qK HOz).evs.2 _ h)
        · exact .inr (by omega))
theorem rdo_work {S : Nat → Prop} {rb : Nat} {x : RX} {ns : List Nd} {R W : Nat} {D : Nat → Nat → Int} {st : RSt} {l : List Ev} (k : Int) (w : World) (hO : ROwn w S rb x ns R W D st) (hact : ∀ w', Bw w w' → Calls Tryz.prog 23 #[.pointer (some ⟨rb, 0, none⟩)] w' fun en w2 => ∃ v, en = .returned v ∧ OwnE w' w2 v l ∧ Bw w' w2) (kn : Nat) (hkn : k = kn) (hkl : kn < l.length) (a n i e s z : Nat) (v : Int) (hn : n < ns.length) (hs : s < 4) (hi : i < (kJ st.mails a n st.mails.length).length) (hz : jD (kJ st.mails a n st.mails.length) i = z) (hlm : st.mails.length + 8 ≤ 100000000) (hll : st.log.length + 1 ≤ 100000000) (h6 : ∀ k, k < ns.length → (qT ns k).kind = 6 → 1 ≤ (qT ns k).k ∧ (qT ns k).k ≤ 8) (h2 : ∀ k, k < ns.length → (qT ns k).kind = 2 → 1 ≤ (qT ns k).k ∧ (qT ns k).k ≤ 100) (hlev : st.evs.length + 1 ≤ 100000000) (hA : zH l kn = ⟨1, a, n, i, e, s, v⟩) :
    Calls Tryz.prog 48 #[.pointer (some ⟨rb, 0, none⟩), .int .i64 k] w fun en w' => en = .returned (.tuple #[Ev.val ⟨1, a, n, i, e, s, v⟩, .int .i64 0]) ∧ ROwn.After w w' S rb ns R W D (doS ns R W st ⟨1, a, n, i, e, s, v⟩) := by
  subst hkn
  have HnS : Hid (∀ z, S z → z < w.heap.size) := qJ hO.slt
  have Hact := qJ hact
  have HO := qJ hO
  clear hO hact
  go_enter Tryz.func48, Tryz.ntmps48
  go_wp2_with fail
  refine ((qK Hact) _ (by repeat first|exact br _|assumption|apply bd|apply bn|apply ba|refine bt ?_ (by assumption))).mono ?_
  rintro en w1 ⟨v1, rfl, ho1, hb1⟩
  obtain ⟨a1, c1, hve⟩ := ho1.val
  subst hve
  have hbx := (Below.block hb1 w.heap.size (by simp)).trans (heap_alloc_new w (.cells #[.int .i64 0, .int .i64 0, .int .i64 0, .int .i64 0, .int .i64 0, .int .i64 0, .int .i64 0] 110))
  have hB1 : Bw w w1 := (show Bw w (w.alloc (.cells #[.int .i64 0, .int .i64 0, .int .i64 0, .int .i64 0, .int .i64 0, .int .i64 0, .int .i64 0] 110)) from (by repeat first|exact br _|assumption|apply bd|apply bn|apply ba|refine bt ?_ (by assumption))).trans hb1
  have bl := (Array.getElem?_eq_some_iff.1 hbx).1
  obtain ⟨gl1, eg1, hgl1, y0, y1, y2, y3, y4, y5, y6⟩ := ev_at ho1 hkl
  simp only [kY] at eg1
  subst eg1
  rw [hA] at y0 y1 y2 y3 y4 y5 y6
  simp only at y0 y1 y2 y3 y4 y5 y6
  have hkl1 : (kn : Int) < (l.length : Int) := by omega
  have d1 : decide ((kn : Int) < 0) = false := by simp
  have d2 : decide ((l.length : Int) ≤ (kn : Int)) = false := by simp; omega
  clear ho1 hA
  go_wp2_with fail
  obtain ⟨w0, hw0⟩ : ∃ w0, w1.alloc (.cells #[.int .i64 (1), .int .i64 (a), .int .i64 (n), .int .i64 (i), .int .i64 (e), .int .i64 (s), .int .i64 (v)] 110) = w0 := ⟨_, rfl⟩
  obtain ⟨hev, hb0, hz0⟩ : w0.heap[w1.heap.size]? = some (.cells #[.int .i64 (1), .int .i64 (a), .int .i64 (n), .int .i64 (i), .int .i64 (e), .int .i64 (s), .int .i64 (v)] 110) ∧ Bw w1 w0 ∧ w0.heap.size = w1.heap.size + 1 := by
    rw [← hw0]; exact ⟨heap_alloc_new w1 _, (by repeat first|exact br _|assumption|apply bd|apply bn|apply ba|refine bt ?_ (by assumption)), by simp⟩
  rw [hw0]
  have hbx0 := (Below.block hb0 _ bl).trans hbx
  have hB0 := hB1.trans hb0
  have hz1 : w.heap.size < w1.heap.size := bl
  obtain ⟨eb, heb⟩ : ∃ eb, w1.heap.size = eb := ⟨_, rfl⟩
  rw [heb] at hev hz0 hz1
  rw [heb]
  clear hw0 y0 y1 y2 y3 y4 y5 y6 heb
  have hO0 := (qK HO).bw hB0
  have hne0 : ¬ S eb := fun h => by have := (qK HnS) _ h; omega
  have hnb0 : ¬ S w.heap.size := fun h => by have := (qK HnS) _ h; omega
  have v0 := qQ (o := 0) hev rfl
  have v1 := qQ (o := 1) hev rfl
  have v2 := qQ (o := 2) hev rfl
  have v3 := qQ (o := 3) hev rfl
  have v4 := qQ (o := 4) hev rfl
  have v5 := qQ (o := 5) hev rfl
  have v6 := qQ (o := 6) hev rfl
  have evl := (Array.getElem?_eq_some_iff.1 hev).1
  have Hwk := qJ (rwork_any ⟨1, a, n, i, e, s, v⟩ a n i z s w0 hO0 rfl rfl rfl rfl hn hs hi hz hlm hll h6 h2)
  have Hev0 := qJ hev
  have Hbx0 := qJ hbx0
  have bl0 := (Array.getElem?_eq_some_iff.1 hbx0).1
  clear hO0 hev hbx0
  go_wp2_with fail
  refine (qK Hwk).mono ?_
  rintro en wz ⟨rfl, Sz, xz, hOz', hC0, hS0⟩
  have hOz : ROwn wz Sz rb xz ns R W D { st with mails := (workS ns R W st ⟨1, a, n, i, e, s, v⟩ z).mails, log := (workS ns R W st ⟨1, a, n, i, e, s, v⟩ z).log } := hOz'
  have hCz : Chg S w wz := (Chg.bw (S := S) hB0).trans hC0 (fun _ h => .inl h)
  have hzB0 := hB0.size
  have hSz : ∀ b, Sz b → S b ∨ w.heap.size ≤ b := fun b h => (hS0 b h).imp id (fun h => by omega)
  have hevz := (hC0.block eb evl hne0).trans (qK Hev0)
  have hbxz := (hC0.block w.heap.size bl0 hnb0).trans (qK Hbx0)
  have hnez : ¬ Sz eb := fun h => by rcases hS0 _ h with h | h; exact hne0 h; omega
  have hnbz : ¬ Sz w.heap.size := fun h => by rcases hS0 _ h with h | h; exact hnb0 h; omega
  have HWz : Hid (doS ns R W st ⟨1, a, n, i, e, s, v⟩ = { st with mails := (workS ns R W st ⟨1, a, n, i, e, s, v⟩ z).mails, log := (workS ns R W st ⟨1, a, n, i, e, s, v⟩ z).log, evs := st.evs ++ [⟨1, a, n, i, e, s, v⟩] }) := qJ (by
    unfold doS doneS
    rw [if_neg (by simp), if_neg (by simp)]
    simp only [Int.toNat_natCast]
    rw [hz, Int.toNat_natCast]
    rfl)
  clear hOz' hC0 hS0 v0 v1 v2 v3 v4 v5 v6 Hwk
  have r5 := qQ (o := 5) (u := xz.e) hOz.root rfl
  have rlz := (Array.getElem?_eq_some_iff.1 hOz.root).1
  have ez0 := qQ (o := 0) hevz rfl
  have ez1 := qQ (o := 1) hevz rfl
  have ez2 := qQ (o := 2) hevz rfl
  have ez3 := qQ (o := 3) hevz rfl
  have ez4 := qQ (o := 4) hevz rfl
  have ez5 := qQ (o := 5) hevz rfl
  have ez6 := qQ (o := 6) hevz rfl
  have ezl := (Array.getElem?_eq_some_iff.1 hevz).1
  have Hezz := qJ hevz
  have Hbxz := qJ hbxz
  have bzl := (Array.getElem?_eq_some_iff.1 hbxz).1
  have Hev := qJ hOz.evs
  have HOz := qJ hOz
  clear hOz hevz hbxz
  go_wp2_with fail
  go_region_law (refine yT rfl _ _ _ 110 rfl _ 7 56 Tryz.infoEvent Tryz.underlying56 rfl (by decide) 0 xz.e st.evs.length (kH st.evs) rfl (qX (qK Hev).1 fun g hg => Below.block (show Bw wz _ from (by repeat first|exact br _|assumption|apply bd|apply bn|apply ba|refine bt ?_ (by assumption))) g hg) _ _ (Ev.cells ⟨1, a, n, i, e, s, v⟩) rfl rfl (ev_cells7 (qY _ _ (by simp))) (ev_one _) (by omega) (by omega) (Nat.zero_le _) ?_; intro g' cap w5 ho5 hg5 hl5; have hr5 := qW (qX (qK Hev).1 fun g hg => Below.block (show Bw wz _ from (by repeat first|exact br _|assumption|apply bd|apply bn|apply ba|refine bt ?_ (by assumption))) g hg) hg5 ((qK HOz).bw (show Bw wz _ from (by repeat first|exact br _|assumption|apply bd|apply bn|apply ba|refine bt ?_ (by assumption)))).root (.inl (by decide)); have q5 := qQ (o := 5) (u := xz.e) hr5 rfl; have q5f := qZ (o := 5) hr5; have q5l := (Array.getElem?_eq_some_iff.1 hr5).1; clear hr5)
  all_goals (
    obtain ⟨wB, hwB, hBB⟩ : ∃ wB, wB = (wz.alloc (.cells #[.int .i64 (1), .int .i64 (a), .int .i64 (n), .int .i64 (i), .int .i64 (e), .int .i64 (s), .int .i64 (v)] 110)).drew ∧ Bw wz wB := ⟨_, rfl, (by repeat first|exact br _|assumption|apply bd|apply bn|apply ba|refine bt ?_ (by assumption))⟩
    rw [← hwB] at hg5 hl5
    have hOB := (qK HOz).bw hBB
    have hO6 := hOB.addEvs (y := ⟨1, a, n, i, e, s, v⟩) ho5 hg5 hlev
    have hC6 := yX (k := 5) (v' := .slice (some ⟨g', 0, none⟩) (st.evs.length + 1) cap) hOB.evs hg5 hOB.sroot rfl
    have hzB := hBB.size
    have hzw := hCz.size
    have hbx6 := (hC6.block _ (Nat.lt_of_lt_of_le bzl hzB) hnbz).trans ((Below.block hBB _ bzl).trans (qK Hbxz))
    have hev6 := (hC6.block _ (Nat.lt_of_lt_of_le ezl hzB) hnez).trans ((Below.block hBB _ ezl).trans (qK Hezz))
    have g0 := qQ (o := 0) hbx6 rfl
    have g1 := qQ (o := 1) hbx6 rfl
    have g2 := qQ (o := 2) hbx6 rfl
    have g3 := qQ (o := 3) hbx6 rfl
    have g4 := qQ (o := 4) hbx6 rfl
    have g5 := qQ (o := 5) hbx6 rfl
    have g6 := qQ (o := 6) hbx6 rfl
    have f0 := qQ (o := 0) hev6 rfl
    have f1 := qQ (o := 1) hev6 rfl
    have f2 := qQ (o := 2) hev6 rfl
    have f3 := qQ (o := 3) hev6 rfl
    have f4 := qQ (o := 4) hev6 rfl
    have f5 := qQ (o := 5) hev6 rfl
    have f6 := qQ (o := 6) hev6 rfl
    have gf := fun o => qZ (o := o) hbx6
    have gl := (Array.getElem?_eq_some_iff.1 hbx6).1
    have fl := (Array.getElem?_eq_some_iff.1 hev6).1
    have HO6 := qJ hO6
    have HC6 := qJ hC6
    clear hO6 hC6 hOB hev6 q5 q5f
    obtain ⟨w6, hw6⟩ : ∃ w6, w5.setCell ⟨rb, 5, none⟩ (.slice (some ⟨g', 0, none⟩) (st.evs.length + 1) cap) = w6 := ⟨_, rfl⟩
    rw [hw6] at HO6 HC6 hbx6 g0 g1 g2 g3 g4 g5 g6 gf gl f0 f1 f2 f3 f4 f5 f6 fl
    rw [hw6]
    clear hw6
    go_wp2_with fail
    obtain ⟨x0, x2⟩ := set7 hbx6 (.int .i64 (1)) (.int .i64 (a)) (.int .i64 (n)) (.int .i64 (i)) (.int .i64 (e)) (.int .i64 (s)) (.int .i64 (v))
    obtain ⟨wE, hwE⟩ : ∃ wE, ((((((w6.setCell ⟨w.heap.size, 0, none⟩ (.int .i64 (1))).setCell ⟨w.heap.size, 1, none⟩ (.int .i64 (a))).setCell ⟨w.heap.size, 2, none⟩ (.int .i64 (n))).setCell ⟨w.heap.size, 3, none⟩ (.int .i64 (i))).setCell ⟨w.heap.size, 4, none⟩ (.int .i64 (e))).setCell ⟨w.heap.size, 5, none⟩ (.int .i64 (s))).setCell ⟨w.heap.size, 6, none⟩ (.int .i64 (v)) = wE := ⟨_, rfl⟩
    rw [hwE] at x0 x2
    rw [hwE]
    clear hwE
    clear g0 g1 g2 g3 g4 g5 g6 gf f0 f1 f2 f3 f4 f5 f6
    have e0 := qQ (o := 0) x0 rfl
    have e1 := qQ (o := 1) x0 rfl
    have e2 := qQ (o := 2) x0 rfl
    have e3 := qQ (o := 3) x0 rfl
    have e4 := qQ (o := 4) x0 rfl
    have e5 := qQ (o := 5) x0 rfl
    have e6 := qQ (o := 6) x0 rfl
    refine bodyPost_ret (v := .tuple #[Ev.val ⟨1, a, n, i, e, s, v⟩, .int .i64 0]) (by simp [results, Tryz.results48, go_sem, e0, e1, e2, e3, e4, e5, e6, Ev.val, ev0]) rfl ⟨rfl, ?_⟩
    rw [qK HWz]
    refine ⟨_, _, (qK HO6).other x2 (fun b hb e9 => ?_), ((hCz.trans (Chg.bw (S := S) hBB) (fun _ h => .inl h)).trans (qK HC6) hSz).trans x2 (fun b e9 => .inr (by omega)), fun b hb => ?_⟩
    · subst e9
      rcases hb with hb | hb
      · exact hnbz hb
      · rcases hl5 with h | h
        · exact hnbz ((qK HOz).evs.2 _ (by rw [hb]; exact h))
        · omega
    · rcases hb with hb | rfl
      · exact hSz b hb
      · rcases hl5 with h | h
        · exact hSz _ ((qK HOz).evs.2 _ h)
        · exact .inr (by omega))
theorem rdo_note {S : Nat → Prop} {rb : Nat} {x : RX} {ns : List Nd} {R W : Nat} {D : Nat → Nat → Int} {st : RSt} {l : List Ev} (k : Int) (w : World) (hO : ROwn w S rb x ns R W D st) (hact : ∀ w', Bw w w' → Calls Tryz.prog 23 #[.pointer (some ⟨rb, 0, none⟩)] w' fun en w2 => ∃ v, en = .returned v ∧ OwnE w' w2 v l ∧ Bw w' w2) (kn : Nat) (hkn : k = kn) (hkl : kn < l.length) (a n e s : Nat) (hn : n < ns.length) (hk1 : 1 ≤ (qT ns n).k) (hk8 : (qT ns n).k ≤ 8) (hle : st.evs.length ≤ 1000000) (hlm : st.mails.length + 100 ≤ 100000000) (hll : st.log.length + 1 ≤ 100000000) (h6 : ∀ k, k < ns.length → (qT ns k).kind = 6 → 1 ≤ (qT ns k).k ∧ (qT ns k).k ≤ 8) (hlev : st.evs.length + 1 ≤ 100000000) (hA : zH l kn = ⟨2, a, n, 0, e, s, 0⟩) :
    Calls Tryz.prog 48 #[.pointer (some ⟨rb, 0, none⟩), .int .i64 k] w fun en w' => en = .returned (.tuple #[Ev.val ⟨2, a, n, 0, e, s, 0⟩, .int .i64 0]) ∧ ROwn.After w w' S rb ns R W D (doS ns R W st ⟨2, a, n, 0, e, s, 0⟩) := by
  subst hkn
  have HnS : Hid (∀ z, S z → z < w.heap.size) := qJ hO.slt
  have Hact := qJ hact
  have HO := qJ hO
  clear hO hact
  go_enter Tryz.func48, Tryz.ntmps48
  go_wp2_with fail
  refine ((qK Hact) _ (by repeat first|exact br _|assumption|apply bd|apply bn|apply ba|refine bt ?_ (by assumption))).mono ?_
  rintro en w1 ⟨v1, rfl, ho1, hb1⟩
  obtain ⟨a1, c1, hve⟩ := ho1.val
  subst hve
  have hbx := (Below.block hb1 w.heap.size (by simp)).trans (heap_alloc_new w (.cells #[.int .i64 0, .int .i64 0, .int .i64 0, .int .i64 0, .int .i64 0, .int .i64 0, .int .i64 0] 110))
  have hB1 : Bw w w1 := (show Bw w (w.alloc (.cells #[.int .i64 0, .int .i64 0, .int .i64 0, .int .i64 0, .int .i64 0, .int .i64 0, .int .i64 0] 110)) from (by repeat first|exact br _|assumption|apply bd|apply bn|apply ba|refine bt ?_ (by assumption))).trans hb1
  have bl := (Array.getElem?_eq_some_iff.1 hbx).1
  obtain ⟨gl1, eg1, hgl1, y0, y1, y2, y3, y4, y5, y6⟩ := ev_at ho1 hkl
  simp only [kY] at eg1
  subst eg1
  rw [hA] at y0 y1 y2 y3 y4 y5 y6
  simp only at y0 y1 y2 y3 y4 y5 y6
  have hkl1 : (kn : Int) < (l.length : Int) := by omega
  have d1 : decide ((kn : Int) < 0) = false := by simp
  have d2 : decide ((l.length : Int) ≤ (kn : Int)) = false := by simp; omega
  clear ho1 hA
  go_wp2_with fail
  obtain ⟨w0, hw0⟩ : ∃ w0, w1.alloc (.cells #[.int .i64 (2), .int .i64 (a), .int .i64 (n), .int .i64 (0), .int .i64 (e), .int .i64 (s), .int .i64 (0)] 110) = w0 := ⟨_, rfl⟩
  obtain ⟨hev, hb0, hz0⟩ : w0.heap[w1.heap.size]? = some (.cells #[.int .i64 (2), .int .i64 (a), .int .i64 (n), .int .i64 (0), .int .i64 (e), .int .i64 (s), .int .i64 (0)] 110) ∧ Bw w1 w0 ∧ w0.heap.size = w1.heap.size + 1 := by
    rw [← hw0]; exact ⟨heap_alloc_new w1 _, (by repeat first|exact br _|assumption|apply bd|apply bn|apply ba|refine bt ?_ (by assumption)), by simp⟩
  rw [hw0]
  have hbx0 := (Below.block hb0 _ bl).trans hbx
  have hB0 := hB1.trans hb0
  have hz1 : w.heap.size < w1.heap.size := bl
  obtain ⟨eb, heb⟩ : ∃ eb, w1.heap.size = eb := ⟨_, rfl⟩
  rw [heb] at hev hz0 hz1
  rw [heb]
  clear hw0 y0 y1 y2 y3 y4 y5 y6 heb
  have hO0 := (qK HO).bw hB0
  have hne0 : ¬ S eb := fun h => by have := (qK HnS) _ h; omega
  have hnb0 : ¬ S w.heap.size := fun h => by have := (qK HnS) _ h; omega
  have v0 := qQ (o := 0) hev rfl
  have v1 := qQ (o := 1) hev rfl
  have v2 := qQ (o := 2) hev rfl
  have v3 := qQ (o := 3) hev rfl
  have v4 := qQ (o := 4) hev rfl
  have v5 := qQ (o := 5) hev rfl
  have v6 := qQ (o := 6) hev rfl
  have evl := (Array.getElem?_eq_some_iff.1 hev).1
  have Hadd := qJ (radded_any (a : Int) (n : Int) (e : Int) (s : Int) w0 hO0.read)
  have hal := acTo_len st.evs a n e s st.evs.length
  have hO0n := (nodesAt_row hO0.nodes.1)
  obtain ⟨na, nc, hvn⟩ : ∃ na nc, x.n = .slice na ns.length nc := ⟨_, _, qV hO0.nodes.1⟩
  obtain ⟨nb, noff, hnae, hnb, hnc⟩ := hO0n n hn
  rw [hvn] at hnae
  simp only [kY] at hnae
  subst hnae
  obtain ⟨_, _, _, d3, _⟩ := hnc n hn
  have r0 := qQ (o := 0) (u := x.n) hO0.root rfl
  rw [hvn] at r0
  have rl := (Array.getElem?_eq_some_iff.1 hO0.root).1
  have hn1 : (n : Int) < (ns.length : Int) := by omega
  have HL : Hid (adL ns st a n e s = yM (jU st.evs a n e s st.evs.length) (qT ns n).k (qT ns n).k.toNat) := qJ rfl
  have hLl := adL_len ns st a n e s
  have Hd3 := qJ (fun w' (h : Bw w0 w') => (⟨((qS h).1 _ 0 rl).trans r0, ((qS h).1 _ 2 evl).trans v2, ((qS h).1 _ _ hnb).trans d3⟩ : w'.cell? ⟨rb, 0, none⟩ = some (.slice (some ⟨nb, noff, none⟩) ns.length nc) ∧ w'.cell? ⟨eb, 2, none⟩ = some (.int .i64 (n : Int)) ∧ w'.cell? ⟨nb, noff + n * 5 + 3, none⟩ = some (.int .i64 (qT ns n).k)))
  generalize hK : (qT ns n).k = kk at *
  generalize hAL : jU st.evs a n e s st.evs.length = AL at *
  generalize hLL : adL ns st a n e s = L at *
  have HLL := qJ hLL
  have HO0 := qJ hO0
  have Hev0 := qJ hev
  have Hbx0 := qJ hbx0
  have bl0 := (Array.getElem?_eq_some_iff.1 hbx0).1
  clear hO0 hO0n hnc hev hbx0 hAL hLL hK d3 r0
  go_wp2_with fail
  refine (qK Hadd).mono ?_
  rintro en w2 ⟨v2', rfl, hov2, hb2⟩
  obtain ⟨qa, qc, hqe⟩ : ∃ qa qc, v2' = .slice qa AL.length qc := ⟨_, _, qV (n := AL.length) (by simpa [Own] using hov2)⟩
  subst hqe
  obtain ⟨z0, z2, z3⟩ := (qK Hd3) w2 hb2
  have rl2 := Nat.lt_of_lt_of_le rl hb2.size
  have el2 := Nat.lt_of_lt_of_le evl hb2.size
  have nl2 := Nat.lt_of_lt_of_le hnb hb2.size
  have Hgrp := qJ (fun w' (h : Bw w2 w') => groups_any AL kk qa qc w' ((hov2.bw h).form'.1) (by omega) hk1 hk8)
  clear hov2
  go_wp2_with fail
  go_region_held3 (fun w' => w'.cell? ⟨rb, 0, none⟩ = some (.slice (some ⟨nb, noff, none⟩) ns.length nc) ∧ w'.cell? ⟨eb, 2, none⟩ = some (.int .i64 (n : Int)) ∧ w'.cell? ⟨nb, noff + n * 5 + 3, none⟩ = some (.int .i64 kk)) (go_keep) ((go_at_call 75; refine ((qK Hgrp) _ (by repeat first|exact br _|assumption|apply bd|apply bn|apply ba|refine bt ?_ (by assumption))).mono ?_; rintro en w3 ⟨v3, rfl, hov3, hb3⟩; obtain ⟨t0, t2, t3⟩ := (qK Hd3) w3 (hb2.trans ((show Bw w2 _ from (by repeat first|exact br _|assumption|apply bd|apply bn|apply ba|refine bt ?_ (by assumption))).trans hb3))))
  rw [← qK HL] at hov3
  obtain ⟨ua, uc, hue⟩ : ∃ ua uc, v3 = .slice ua L.length uc := ⟨_, _, qV (n := L.length) (by simpa [Own] using hov3)⟩
  subst hue
  have hB3 : Bw w0 w3 := hb2.trans ((show Bw w2 w2.drew from (by repeat first|exact br _|assumption|apply bd|apply bn|apply ba|refine bt ?_ (by assumption))).trans hb3)
  have hu3 : w3.ownsRow w2.drew.heap.size 3 1 (.slice ua L.length uc) L.length (L.map (Value.int .i64)) := by simpa [Own] using hov3
  have hev3 := (Below.block hB3 _ evl).trans (qK Hev0)
  have e2c := qQ (o := 2) hev3 rfl
  have e4c := qQ (o := 4) hev3 rfl
  have e5c := qQ (o := 5) hev3 rfl
  have el3 := (Array.getElem?_eq_some_iff.1 hev3).1
  have hz3 := hB3.size
  have hb2z := hb2.size
  clear z0 z2 z3 t0 t2 t3 v0 v1 v2 v3 v4 v5 v6 hov3
  go_wp2_with fail
  obtain ⟨wE, hwE⟩ : ∃ wE, w3.alloc (.cells #[.int .i64 (n : Int), .bool true, .int .i64 (e : Int), .int .i64 (s : Int), .int .i64 (-1)] 67) = wE := ⟨_, rfl⟩
  have hgE := heap_alloc_new w3 (.cells #[.int .i64 (n : Int), .bool true, .int .i64 (e : Int), .int .i64 (s : Int), .int .i64 (-1)] 67)
  have hbE : Bw w3 (w3.alloc (.cells #[.int .i64 (n : Int), .bool true, .int .i64 (e : Int), .int .i64 (s : Int), .int .i64 (-1)] 67)) := (by repeat first|exact br _|assumption|apply bd|apply bn|apply ba|refine bt ?_ (by assumption))
  rw [hwE] at hgE hbE
  rw [hwE]
  have hzB0 := hB0.size
  have hub : ∀ b, Value.ownBlock (.slice ua L.length uc) = some b → w0.heap.size ≤ b := fun b hb => by have := (World.ownsRow.lt hu3 b hb).1; simp at this; omega
  have H0 : Hid (∃ (k : Nat) (S' : Nat → Prop) (x' : RX), k ≤ L.length ∧ (Value.int .i64 0) = .int .i64 k ∧ ROwn wE S' rb x' ns R W D { st with mails := st.mails ++ ntM ns W a n e s L k } ∧ wE.heap[eb]? = some (.cells #[.int .i64 2, .int .i64 (a : Int), .int .i64 (n : Int), .int .i64 0, .int .i64 (e : Int), .int .i64 (s : Int), .int .i64 0] 110 (0, 0)) ∧ wE.heap[w.heap.size]? = some (.cells #[.int .i64 0, .int .i64 0, .int .i64 0, .int .i64 0, .int .i64 0, .int .i64 0, .int .i64 0] 110 (0, 0)) ∧ ¬ S' eb ∧ ¬ S' w.heap.size ∧ wE.ownsRow 0 3 1 (.slice ua L.length uc) L.length (L.map (Value.int .i64)) ∧ (∀ b, Value.ownBlock (.slice ua L.length uc) = some b → ¬ S' b) ∧ Chg S w wE ∧ (∀ b, S' b → S b ∨ w.heap.size ≤ b) ∧ OwnP w wE (.slice (some ⟨w3.heap.size, 0, none⟩) 1 1) (ntP ns n e s L k) ∧ (∀ b, Value.ownBlock (.slice (some ⟨w3.heap.size, 0, none⟩) 1 1) = some b → ¬ S' b)) := qJ
    ⟨0, S, x, Nat.zero_le _, rfl, by simpa [ntM] using (qK HO0).bw (hB3.trans hbE), (Below.block hbE _ el3).trans hev3, (Below.block (hB3.trans hbE) _ bl0).trans (qK Hbx0), hne0, hnb0, qM (qX hu3 fun g hg => Below.block hbE g hg) (Nat.zero_le _), fun b hb h => by have h5 := hub b hb; have := (qK HnS) b h; omega, Chg.bw (hB0.trans (hB3.trans hbE)), fun _ h => .inl h, ownP_one (p := ⟨n, true, e, s, -1⟩) (by omega) hgE, fun b hb h => by simp only [Value.ownBlock, Option.some.injEq] at hb; have := (qK HnS) b h; omega⟩
  clear hgE hbE hwE hev3 hu3 e2c e4c e5c el3 el2 rl2 nl2 hB3 hb2 hb3 Hgrp Hadd Hd3 hub
  have hL8 : L.length ≤ 8 := by omega
  have Hpl := qJ (fun k => ntP_len ns n e s L k)
  have Hml := qJ (fun k => ntM_len ns W a n e s L k)
  obtain ⟨z1, z2, z3, z4, z5⟩ := (qK HO0).small
  go_loopw [10, 11] (fun v idx wr => ∃ (k : Nat) (S' : Nat → Prop) (x' : RX), k ≤ L.length ∧ idx = .int .i64 k ∧ ROwn wr S' rb x' ns R W D { st with mails := st.mails ++ ntM ns W a n e s L k } ∧ wr.heap[eb]? = some (.cells #[.int .i64 2, .int .i64 (a : Int), .int .i64 (n : Int), .int .i64 0, .int .i64 (e : Int), .int .i64 (s : Int), .int .i64 0] 110 (0, 0)) ∧ wr.heap[w.heap.size]? = some (.cells #[.int .i64 0, .int .i64 0, .int .i64 0, .int .i64 0, .int .i64 0, .int .i64 0, .int .i64 0] 110 (0, 0)) ∧ ¬ S' eb ∧ ¬ S' w.heap.size ∧ wr.ownsRow 0 3 1 (.slice ua L.length uc) L.length (L.map (Value.int .i64)) ∧ (∀ b, Value.ownBlock (.slice ua L.length uc) = some b → ¬ S' b) ∧ Chg S w wr ∧ (∀ b, S' b → S b ∨ w.heap.size ≤ b) ∧ OwnP w wr v (ntP ns n e s L k) ∧ (∀ b, v.ownBlock = some b → ¬ S' b)) (fun _ idx _ => L.length - (intOf idx).toNat)
  case atStart => exact qK H0
  case round =>
    clear H0
    obtain ⟨k, S', x', hk, rfl, hOr, hev, hbx, hne', hnb', hur, hnu, hC, hS', hv, hnv⟩ := hrel
    rename World => wr
    have hz := hC.size
    have hpl := (qK Hpl) k
    have hml := (qK Hml) k
    have hkl8 : k * ns.length ≤ 8 * 8 := Nat.mul_le_mul (by omega) z1
    obtain ⟨va, vc, hve⟩ : ∃ va vc, u10 = .slice va (ntP ns n e s L k).length vc := ⟨_, _, qV hv⟩
    subst hve
    by_cases hlt : k < L.length
    · have hk1' : (k : Int) < (L.length : Int) := by omega
      obtain ⟨gu, rfl, hgu, hcu⟩ := getS hur hlt
      have q1 := qQ (o := 1) hev rfl
      have q2 := qQ (o := 2) hev rfl
      have q4 := qQ (o := 4) hev rfl
      have q5 := qQ (o := 5) hev rfl
      have tlt := (Array.getElem?_eq_some_iff.1 hev).1
      have blt := (Array.getElem?_eq_some_iff.1 hbx).1
      have hpp := xY ns n ⟨e, s, jD L k⟩ ns.length
      have Hnx : Hid (ntP ns n e s L (k + 1) = ntP ns n e s L k ++ jR ns n ⟨e, s, jD L k⟩ ns.length) := qJ rfl
      have HnM : Hid (st.mails ++ ntM ns W a n e s L (k + 1) = (st.mails ++ ntM ns W a n e s L k) ++ yC ns W a n ⟨e, s, jD L k⟩ ns.length) := qJ (by rw [ntM, List.append_assoc])
      have Hput := qJ (fun (w' : World) (h : Bw wr w') => rput_any (a : Int) (n : Int) ⟨e, s, jD L k⟩ w' (hOr.bw h) (by simp only [List.length_append]; omega) h6)
      have Hv := qJ hv
      have Hur := qJ hur
      have Hev := qJ hev
      have Hbx := qJ hbx
      have Hcs := qJ (fun (w' : World) (h1 : w'.heap[eb]? = wr.heap[eb]?) (h2 : w'.heap[gu]? = wr.heap[gu]?) => (⟨(World.cell?_of_block (a := ⟨eb, 1, none⟩) h1).trans q1, (World.cell?_of_block (a := ⟨eb, 2, none⟩) h1).trans q2, (World.cell?_of_block (a := ⟨eb, 4, none⟩) h1).trans q4, (World.cell?_of_block (a := ⟨eb, 5, none⟩) h1).trans q5, (World.cell?_of_block (a := ⟨gu, k, none⟩) h2).trans hcu⟩ : w'.cell? ⟨eb, 1, none⟩ = some (.int .i64 (a : Int)) ∧ w'.cell? ⟨eb, 2, none⟩ = some (.int .i64 (n : Int)) ∧ w'.cell? ⟨eb, 4, none⟩ = some (.int .i64 (e : Int)) ∧ w'.cell? ⟨eb, 5, none⟩ = some (.int .i64 (s : Int)) ∧ w'.cell? ⟨gu, k, none⟩ = some (.int .i64 (jD L k))))
      have hngu := hnu gu rfl
      generalize jD L k = vk at *
      generalize hP0 : ntP ns n e s L k = P0 at *
      generalize hQ0 : jR ns n ⟨e, s, vk⟩ ns.length = Q0 at *
      clear hOr hv hur hev hbx hP0 hQ0
      go_wp2_with fail
      go_region_held3 (fun w' => w'.cell? ⟨eb, 1, none⟩ = some (.int .i64 (a : Int)) ∧ w'.cell? ⟨eb, 2, none⟩ = some (.int .i64 (n : Int)) ∧ w'.cell? ⟨eb, 4, none⟩ = some (.int .i64 (e : Int)) ∧ w'.cell? ⟨eb, 5, none⟩ = some (.int .i64 (s : Int)) ∧ w'.cell? ⟨gu, k, none⟩ = some (.int .i64 vk)) (go_keep) ((go_at_call 59; refine ((qK Hput) _ (show Bw wr wr.drew from (by repeat first|exact br _|assumption|apply bd|apply bn|apply ba|refine bt ?_ (by assumption)))).mono ?_; rintro en w3 ⟨v3, rfl, hou3, S3, x3, hO3, hC3, hS3⟩; obtain ⟨f1, f2, f4, f5, fu⟩ := (qK Hcs) w3 (hC3.block eb (by simpa using tlt) hne') (hC3.block gu (by simpa using hgu) hngu)))
      obtain ⟨qa, qc, hqe⟩ : ∃ qa qc, v3 = .slice qa Q0.length qc := ⟨_, _, qV hou3⟩
      subst hqe
      have hz3 := hC3.size
      simp at hz3
      have hvl : ∀ b, Value.ownBlock (.slice va P0.length vc) = some b → w.heap.size ≤ b ∧ b < wr.heap.size := fun b hb => World.ownsRow.lt (qK Hv) b hb
      have hv3 := kK (qK Hv) fun b hb => hC3.block b (by simpa using (hvl b hb).2) (hnv b hb)
      have hnv3 : ∀ b, Value.ownBlock (.slice va P0.length vc) = some b → ¬ S3 b := fun b hb h => by
        rcases hS3 b h with h | h
        · exact hnv b hb h
        · have := (hvl b hb).2; simp at h; omega
      have Hv3 := qJ hv3
      have HO3 := qJ hO3
      have HC3 := qJ hC3
      have HS3 := qJ hS3
      have Hou3 := qJ hou3
      clear hv3 hO3 hC3 hS3 hou3 Hput f1 f2 f4 f5 fu q1 q2 q4 q5
      go_wp2_with (at_builtin; refine appG w3 rfl _ _ _ 67 rfl _ 5 40 Tryz.infoPoint Tryz.underlying63 rfl (by decide) w.heap.size (.slice va P0.length vc) P0.length (qR P0) rfl (qK Hv3) _ Q0.length _ (qR Q0) rfl (zB Q0) (jC (qK Hou3)) (pts_one Q0) (by omega) (by omega) (by omega) ?_; intro v4 w4 hown4 hgr4 hl4; obtain ⟨ya, yc, hye⟩ : ∃ ya yc, v4 = .slice ya (P0.length + Q0.length) yc := ⟨_, _, qV hown4⟩; subst hye)
      have hgpt := xN (fun b hb => jZ (qK Hv3) hb) hgr4
      have Hown4 := qJ hown4
      clear hown4
      have keep : ∀ (t : TypeId) (b : Nat) (cur : Array Value), t ≠ 67 → ¬ S' b → wr.heap[b]? = some (.cells cur t (0, 0)) → w4.heap[b]? = some (.cells cur t (0, 0)) := fun t b cur ht hb hc => by
        have h3 := ((qK HC3).block b (by simpa using (Array.getElem?_eq_some_iff.1 hc).1) hb).trans (show wr.drew.heap[b]? = _ from hc)
        exact (hgpt t ht b cur h3).trans h3
      have nin : ∀ b, b < wr.heap.size → ¬ S' b → ¬ S3 b := fun b hb hn h => by
        rcases (qK HS3) b h with h | h
        · exact hn h
        · simp at h; omega
      go_roundw
      case rel =>
        refine ⟨k + 1, S3, x3, by omega, by go_num, ?_, keep _ _ _ (by decide) hne' (qK Hev), keep _ _ _ (by decide) hnb' (qK Hbx), nin _ tlt hne', nin _ blt hnb', ?_, ?_, ?_, ?_, ?_, ?_⟩
        · rw [qK HnM]
          exact (qK HO3).frame hgr4.size (fun b hb hl => hgr4.block b hl (fun e9 => hnv3 b e9.symm hb))
        · refine kK (qK Hur) fun b hb => ?_
          obtain ⟨cur, hc⟩ := jZ (qK Hur) hb
          exact (keep _ b cur (by decide) (hnu b hb) hc).trans hc.symm
        · intro b hb
          exact nin b (World.ownsRow.lt (qK Hur) b hb).2 (hnu b hb)
        · have k2 : Chg (fun b => Value.ownBlock (.slice va P0.length vc) = some b) w3 w4 := ⟨hgr4.os, hgr4.tape, hgr4.output, hgr4.size, fun i hi hn => hgr4.block i hi (fun e => hn e.symm)⟩
          exact ((hC.trans (Chg.bw (S := S) (show Bw wr wr.drew from (by repeat first|exact br _|assumption|apply bd|apply bn|apply ba|refine bt ?_ (by assumption)))) (fun _ h => .inl h)).trans (qK HC3) (fun b h => hS' b h)).trans k2 (fun b h => .inr (hvl b h).1)
        · intro b h
          rcases (qK HS3) b h with h | h
          · exact hS' b h
          · simp at h; exact .inr (by omega)
        · rw [qK Hnx]
          show World.ownsRow _ _ _ _ _ (P0 ++ Q0).length (qR (P0 ++ Q0))
          rw [List.length_append, xS]
          exact qK Hown4
        · intro b hb h
          rcases hl4 b hb with h5 | h5
          · exact hnv3 b h5 h
          · have := (qK HO3).slt b h; omega
      case measure => simp [intOf]; omega
    · have hkk : k = L.length := by omega
      subst hkk
      have hk1' : ¬ (L.length : Int) < (L.length : Int) := by omega
      obtain ⟨QQ, hQQ⟩ : ∃ QQ, ntP ns n e s L L.length = QQ := ⟨_, rfl⟩
      rw [hQQ] at hv hnv hpl
      rw [hQQ]
      have HQQ := qJ hQQ
      clear hQQ hur hnu
      obtain ⟨vs, hvl, hl1, hl2⟩ := hOr.log
      have r4 := qQ (o := 4) (u := x'.l) hOr.root rfl
      have rlz := (Array.getElem?_eq_some_iff.1 hOr.root).1
      have q1 := qQ (o := 1) hev rfl
      have zlz := (Array.getElem?_eq_some_iff.1 hev).1
      have zbz := (Array.getElem?_eq_some_iff.1 hbx).1
      have HOr := qJ hOr
      have Hl1 := qJ hl1
      have Hl2 := qJ hl2
      have Hv := qJ hv
      have Hev := qJ hev
      have Hbx := qJ hbx
      clear hOr hl1 hl2 hv hev hbx
      simp only at hvl
      go_wp2_with fail
      go_region_law (refine yT rfl _ _ _ 113 rfl _ 2 32 Tryz.infoChange Tryz.underlying79 rfl (by decide) 0 x'.l st.log.length (jM st.log vs) rfl (qX (qK Hl1).1 fun g hg => Below.block (show Bw wr _ from (by repeat first|exact br _|assumption|apply bd|apply bn|apply ba|refine bt ?_ (by assumption))) g hg) _ _ [.int .i64 (a : Int), .slice va QQ.length vc] rfl rfl (xD (qQ (qY _ _ (by simp)) rfl) (qQ (qY _ _ (by simp)) rfl)) (by simp [Value.oneCell']) (by omega) (by omega) (Nat.zero_le _) ?_; intro g' cap w5 ho5 hg5 hl5; have hr5 := qW (qX (qK Hl1).1 fun g hg => Below.block (show Bw wr _ from (by repeat first|exact br _|assumption|apply bd|apply bn|apply ba|refine bt ?_ (by assumption))) g hg) hg5 ((qK HOr).bw (show Bw wr _ from (by repeat first|exact br _|assumption|apply bd|apply bn|apply ba|refine bt ?_ (by assumption)))).root (.inl (by decide)); have q4 := qQ (o := 4) (u := x'.l) hr5 rfl; have q4f := qZ (o := 4) hr5; have q4l := (Array.getElem?_eq_some_iff.1 hr5).1; clear hr5)
      all_goals (
        obtain ⟨wB, hwB, hBB⟩ : ∃ wB, wB = (wr.alloc (.cells #[.int .i64 (a : Int), .slice va QQ.length vc] 113)).drew ∧ Bw wr wB := ⟨_, rfl, (by repeat first|exact br _|assumption|apply bd|apply bn|apply ba|refine bt ?_ (by assumption))⟩
        rw [← hwB] at hg5 hl5
        have hOB := (qK HOr).bw hBB
        have hl1B := (qK Hl1).frame (fun b _ hlt => Below.block hBB b hlt)
        have hl2B : ∀ i, i < st.log.length → ∃ u, vs[i]? = some u ∧ OwnsIn S' wB 67 5 u (jF st.log i).pts.length (qR (jF st.log i).pts) := fun i hi => by
          obtain ⟨u, e, h⟩ := (qK Hl2) i hi
          exact ⟨u, e, h.frame (fun b _ hlt => Below.block hBB b hlt)⟩
        have hvB := OwnP.bw (qK Hv) hBB
        have hO6 := hOB.addLog (c := ⟨a, QQ⟩) hvl hl1B hl2B hvB ho5 hg5 hll
        have hC6 := yX (k := 4) (v' := .slice (some ⟨g', 0, none⟩) (st.log.length + 1) cap) hl1B hg5 hOB.sroot rfl
        have hzB := hBB.size
        obtain ⟨wz, hwz⟩ : ∃ wz, w5.setCell ⟨rb, 4, none⟩ (.slice (some ⟨g', 0, none⟩) (st.log.length + 1) cap) = wz := ⟨_, rfl⟩
        rw [hwz] at hO6 hC6
        rw [hwz]
        have hgn : ∀ b, b < wr.heap.size → ¬ S' b → (∀ c, Value.ownBlock (.slice va QQ.length vc) = some c → c ≠ b) → ¬ ((S' b ∨ Value.ownBlock (.slice va QQ.length vc) = some b) ∨ b = g') := fun b hb hn hc h => by
          rcases h with (h | h) | h
          · exact hn h
          · exact hc b h rfl
          · rcases hl5 with h5 | h5
            · exact hn (h ▸ hl1B.2 _ h5)
            · omega
        have hvt : ∀ c, Value.ownBlock (.slice va QQ.length vc) = some c → c ≠ eb ∧ c ≠ w.heap.size := fun c hc => by
          obtain ⟨cur, hcc⟩ := jZ (qK Hv) hc
          constructor
          · intro e9
            rw [e9, qK Hev] at hcc
            simp only [Option.some.injEq, Obj.cells.injEq] at hcc
            exact absurd hcc.2.1 (by decide)
          · intro e9
            rw [e9, qK Hbx] at hcc
            simp only [Option.some.injEq, Obj.cells.injEq] at hcc
            exact absurd hcc.2.1 (by decide)
        have hnez := hgn eb zlz hne' (fun c hc => (hvt c hc).1)
        have hnbz := hgn w.heap.size zbz hnb' (fun c hc => (hvt c hc).2)
        have hevz := (hC6.block eb (Nat.lt_of_lt_of_le zlz hzB) hne').trans ((Below.block hBB _ zlz).trans (qK Hev))
        have hbxz := (hC6.block w.heap.size (Nat.lt_of_lt_of_le zbz hzB) hnb').trans ((Below.block hBB _ zbz).trans (qK Hbx))
        have hCz : Chg S w wz := (hC.trans (Chg.bw (S := S) hBB) (fun _ h => .inl h)).trans hC6 hS'
        have hSz : ∀ b, ((S' b ∨ Value.ownBlock (.slice va QQ.length vc) = some b) ∨ b = g') → S b ∨ w.heap.size ≤ b := fun b hb => by
          rcases hb with (hb | hb) | rfl
          · exact hS' b hb
          · exact .inr (World.ownsRow.lt (qK Hv) b hb).1
          · rcases hl5 with h | h
            · exact hS' _ (hl1B.2 _ h)
            · exact .inr (by omega)
        have HWz : Hid (doS ns R W st ⟨2, a, n, 0, e, s, 0⟩ = { st with mails := st.mails ++ ntM ns W a n e s L L.length, log := st.log ++ [⟨a, QQ⟩], evs := st.evs ++ [⟨2, a, n, 0, e, s, 0⟩] }) := qJ (by
          have e0 : doS ns R W st ⟨2, a, n, 0, e, s, 0⟩ = { noteS ns W st a n e s with evs := st.evs ++ [⟨2, a, n, 0, e, s, 0⟩] } := rfl
          rw [e0]
          unfold noteS
          rw [qK HLL, qK HQQ])
        have hOz := hO6
        clear hO6 hC6 hOB hl1B hl2B hvB hwz hgn hvt ho5 hg5 hC q4 q4f hzB hBB hwB hl5 r4 q1
        have r5 := qQ (o := 5) (u := x'.e) hOz.root rfl
        have rlz := (Array.getElem?_eq_some_iff.1 hOz.root).1
        have ez0 := qQ (o := 0) hevz rfl
        have ez1 := qQ (o := 1) hevz rfl
        have ez2 := qQ (o := 2) hevz rfl
        have ez3 := qQ (o := 3) hevz rfl
        have ez4 := qQ (o := 4) hevz rfl
        have ez5 := qQ (o := 5) hevz rfl
        have ez6 := qQ (o := 6) hevz rfl
        have ezl := (Array.getElem?_eq_some_iff.1 hevz).1
        have Hezz := qJ hevz
        have Hbxz := qJ hbxz
        have bzl := (Array.getElem?_eq_some_iff.1 hbxz).1
        have Hev := qJ hOz.evs
        have HOz := qJ hOz
        clear hOz hevz hbxz
        go_wp2_with fail
        go_region_law (refine yT rfl _ _ _ 110 rfl _ 7 56 Tryz.infoEvent Tryz.underlying56 rfl (by decide) 0 x'.e st.evs.length (kH st.evs) rfl (qX (qK Hev).1 fun g hg => Below.block (show Bw wz _ from (by repeat first|exact br _|assumption|apply bd|apply bn|apply ba|refine bt ?_ (by assumption))) g hg) _ _ (Ev.cells ⟨2, a, n, 0, e, s, 0⟩) rfl rfl (ev_cells7 (qY _ _ (by simp))) (ev_one _) (by omega) (by omega) (Nat.zero_le _) ?_; intro g' cap w5 ho5 hg5 hl5; have hr5 := qW (qX (qK Hev).1 fun g hg => Below.block (show Bw wz _ from (by repeat first|exact br _|assumption|apply bd|apply bn|apply ba|refine bt ?_ (by assumption))) g hg) hg5 ((qK HOz).bw (show Bw wz _ from (by repeat first|exact br _|assumption|apply bd|apply bn|apply ba|refine bt ?_ (by assumption)))).root (.inl (by decide)); have q5 := qQ (o := 5) (u := x'.e) hr5 rfl; have q5f := qZ (o := 5) hr5; have q5l := (Array.getElem?_eq_some_iff.1 hr5).1; clear hr5)
        all_goals (
          obtain ⟨wB, hwB, hBB⟩ : ∃ wB, wB = (wz.alloc (.cells #[.int .i64 (2), .int .i64 (a), .int .i64 (n), .int .i64 (0), .int .i64 (e), .int .i64 (s), .int .i64 (0)] 110)).drew ∧ Bw wz wB := ⟨_, rfl, (by repeat first|exact br _|assumption|apply bd|apply bn|apply ba|refine bt ?_ (by assumption))⟩
          rw [← hwB] at hg5 hl5
          have hOB := (qK HOz).bw hBB
          have hO6 := hOB.addEvs (y := ⟨2, a, n, 0, e, s, 0⟩) ho5 hg5 hlev
          have hC6 := yX (k := 5) (v' := .slice (some ⟨g', 0, none⟩) (st.evs.length + 1) cap) hOB.evs hg5 hOB.sroot rfl
          have hzB := hBB.size
          have hzw := hCz.size
          have hbx6 := (hC6.block _ (Nat.lt_of_lt_of_le bzl hzB) hnbz).trans ((Below.block hBB _ bzl).trans (qK Hbxz))
          have hev6 := (hC6.block _ (Nat.lt_of_lt_of_le ezl hzB) hnez).trans ((Below.block hBB _ ezl).trans (qK Hezz))
          have g0 := qQ (o := 0) hbx6 rfl
          have g1 := qQ (o := 1) hbx6 rfl
          have g2 := qQ (o := 2) hbx6 rfl
          have g3 := qQ (o := 3) hbx6 rfl
          have g4 := qQ (o := 4) hbx6 rfl
          have g5 := qQ (o := 5) hbx6 rfl
          have g6 := qQ (o := 6) hbx6 rfl
          have f0 := qQ (o := 0) hev6 rfl
          have f1 := qQ (o := 1) hev6 rfl
          have f2 := qQ (o := 2) hev6 rfl
          have f3 := qQ (o := 3) hev6 rfl
          have f4 := qQ (o := 4) hev6 rfl
          have f5 := qQ (o := 5) hev6 rfl
          have f6 := qQ (o := 6) hev6 rfl
          have gf := fun o => qZ (o := o) hbx6
          have gl := (Array.getElem?_eq_some_iff.1 hbx6).1
          have fl := (Array.getElem?_eq_some_iff.1 hev6).1
          have HO6 := qJ hO6
          have HC6 := qJ hC6
          clear hO6 hC6 hOB hev6 q5 q5f
          obtain ⟨w6, hw6⟩ : ∃ w6, w5.setCell ⟨rb, 5, none⟩ (.slice (some ⟨g', 0, none⟩) (st.evs.length + 1) cap) = w6 := ⟨_, rfl⟩
          rw [hw6] at HO6 HC6 hbx6 g0 g1 g2 g3 g4 g5 g6 gf gl f0 f1 f2 f3 f4 f5 f6 fl
          rw [hw6]
          clear hw6
          go_wp2_with fail
          obtain ⟨x0, x2⟩ := set7 hbx6 (.int .i64 (2)) (.int .i64 (a)) (.int .i64 (n)) (.int .i64 (0)) (.int .i64 (e)) (.int .i64 (s)) (.int .i64 (0))
          obtain ⟨wE, hwE⟩ : ∃ wE, ((((((w6.setCell ⟨w.heap.size, 0, none⟩ (.int .i64 (2))).setCell ⟨w.heap.size, 1, none⟩ (.int .i64 (a))).setCell ⟨w.heap.size, 2, none⟩ (.int .i64 (n))).setCell ⟨w.heap.size, 3, none⟩ (.int .i64 (0))).setCell ⟨w.heap.size, 4, none⟩ (.int .i64 (e))).setCell ⟨w.heap.size, 5, none⟩ (.int .i64 (s))).setCell ⟨w.heap.size, 6, none⟩ (.int .i64 (0)) = wE := ⟨_, rfl⟩
          rw [hwE] at x0 x2
          rw [hwE]
          clear hwE
          clear g0 g1 g2 g3 g4 g5 g6 gf f0 f1 f2 f3 f4 f5 f6
          have e0 := qQ (o := 0) x0 rfl
          have e1 := qQ (o := 1) x0 rfl
          have e2 := qQ (o := 2) x0 rfl
          have e3 := qQ (o := 3) x0 rfl
          have e4 := qQ (o := 4) x0 rfl
          have e5 := qQ (o := 5) x0 rfl
          have e6 := qQ (o := 6) x0 rfl
          refine bodyPost_ret (v := .tuple #[Ev.val ⟨2, a, n, 0, e, s, 0⟩, .int .i64 0]) (by simp [results, Tryz.results48, go_sem, e0, e1, e2, e3, e4, e5, e6, Ev.val, ev0]) rfl ⟨rfl, ?_⟩
          rw [qK HWz]
          refine ⟨_, _, (qK HO6).other x2 (fun b hb e9 => ?_), ((hCz.trans (Chg.bw (S := S) hBB) (fun _ h => .inl h)).trans (qK HC6) hSz).trans x2 (fun b e9 => .inr (by omega)), fun b hb => ?_⟩
          · subst e9
            rcases hb with hb | hb
            · exact hnbz hb
            · rcases hl5 with h | h
              · exact hnbz ((qK HOz).evs.2 _ (by rw [hb]; exact h))
              · omega
          · rcases hb with hb | rfl
            · exact hSz b hb
            · rcases hl5 with h | h
              · exact hSz _ ((qK HOz).evs.2 _ h)
              · exact .inr (by omega)))
end Go.Proofs.YtfemleimkbjehaaGreat
