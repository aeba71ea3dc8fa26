import Derived.Test.YtfemleimkbjehaaJ10
import Derived.Deep.MidRow
import Derived.Test.YtfemleimkbjehaaJ7
import Derived.Test.YtfemleimkbjehaaJ8
import Derived.Deep.AppendSrc
set_option maxRecDepth 1000000
set_option maxHeartbeats 40000000
set_option linter.unusedVariables false
set_option linter.unusedSimpArgs false
namespace Go.Proofs.Ytfemleimkbjehaa
open Go.RowKit
theorem alloc3 (w : World) (A B C : Obj) : (((w.alloc A).alloc B).alloc C).heap[w.heap.size]? = some A ∧ (((w.alloc A).alloc B).alloc C).heap[w.heap.size + 1]? = some B ∧ (((w.alloc A).alloc B).alloc C).heap[w.heap.size + 1 + 1]? = some C ∧ Bw w (((w.alloc A).alloc B).alloc C) := by
  refine ⟨(Below.block (show Bw (w.alloc A) _ from (by repeat first|exact br _|assumption|apply bd|apply bn|apply ba|refine bt ?_ (by assumption))) _ (by simp)).trans (heap_alloc_new w _), ?_, ?_, (by repeat first|exact br _|assumption|apply bd|apply bn|apply ba|refine bt ?_ (by assumption))⟩
  · have h : ((w.alloc A).alloc B).heap[w.heap.size + 1]? = some B := by rw [show w.heap.size + 1 = (w.alloc A).heap.size by simp]; exact heap_alloc_new _ _
    exact (Below.block (show Bw ((w.alloc A).alloc B) _ from (by repeat first|exact br _|assumption|apply bd|apply bn|apply ba|refine bt ?_ (by assumption))) _ (by simp)).trans h
  · rw [show w.heap.size + 1 + 1 = ((w.alloc A).alloc B).heap.size by simp]; exact heap_alloc_new _ _
def inT (ts : List Tm) (e s : Nat) : Bool := inTo ts e s ts.length
theorem inTo_app (ts : List Tm) (t : Tm) (e s : Nat) : ∀ i, i ≤ ts.length → inTo (ts ++ [t]) e s i = inTo ts e s i := by
  intro i
  induction i with
  | zero => intro _; rfl
  | succ i ih =>
    intro h
    rw [inTo, inTo, ih (by omega)]
    congr 1
    unfold nB
    simp [List.getD, List.getElem?_append_left (show i < ts.length by omega)]
theorem inT_snoc (ts : List Tm) (t : Tm) (e s : Nat) : inT (ts ++ [t]) e s = (inT ts e s || eqB t e s) := by
  unfold inT
  rw [List.length_append, List.length_singleton, inTo, inTo_app ts t e s _ (Nat.le_refl _)]
  congr 2
  unfold nB
  simp [List.getD]
theorem Try.sizeComing : (Try.prog.info? 192).map (·.size) = some 24 := by kernel_rfl
def ComIn (w : World) (cb : Nat) (C : Nat → Nat → Bool) : Prop := ∃ arr : Array Value, w.heap[cb]? = some (.cells arr 192 (0, 0)) ∧ arr.size = 24 ∧ ∀ e s, e < 6 → s < 4 → arr[e * 4 + s]? = some (.bool (C e s))
theorem ComIn.bw {w w' : World} {cb : Nat} {C : Nat → Nat → Bool} (h : ComIn w cb C) (hb : Bw w w') : ComIn w' cb C := by
  obtain ⟨arr, h1, r⟩ := h
  exact ⟨arr, (Below.block hb _ (Array.getElem?_eq_some_iff.1 h1).1).trans h1, r⟩
theorem ComIn.set {w : World} {cb e0 s0 : Nat} {C : Nat → Nat → Bool} (h : ComIn w cb C) (he : e0 < 6) (hs : s0 < 4) : ComIn (w.setCell ⟨cb, e0 * 4 + s0, none⟩ (.bool true)) cb (fun e s => C e s || eqB ⟨e0, s0⟩ e s) := by
  obtain ⟨arr, h1, h2, h3⟩ := h
  refine ⟨_, qY h1, by simpa using h2, fun e s h4 h5 => ?_⟩
  by_cases hq : e = e0 ∧ s = s0
  · obtain ⟨rfl, rfl⟩ := hq
    rw [Array.getElem?_setIfInBounds_self_of_lt (by omega)]
    simp [eqB]
  · rw [Array.getElem?_setIfInBounds_ne (by omega), h3 e s h4 h5]
    have : eqB ⟨(e0 : Int), (s0 : Int)⟩ e s = false := by
      simp only [eqB, Bool.and_eq_false_iff, beq_eq_false_iff_ne, ne_eq]
      by_cases h : e = e0
      · right; intro h'; apply hq; exact ⟨h, by omega⟩
      · left; omega
    simp only [this, Bool.or_false]
theorem ComIn.cell {w : World} {cb : Nat} {C : Nat → Nat → Bool} (h : ComIn w cb C) {e s : Nat} (he : e < 6) (hs : s < 4) : w.cell? ⟨cb, e * 4 + s, none⟩ = some (.bool (C e s)) ∧ w.frozen? ⟨cb, e * 4 + s, none⟩ = false ∧ cb < w.heap.size := by
  obtain ⟨arr, h1, _, h3⟩ := h
  exact ⟨qQ h1 (h3 e s he hs), qZ h1, (Array.getElem?_eq_some_iff.1 h1).1⟩
theorem ComIn.congr {w : World} {cb : Nat} {C C' : Nat → Nat → Bool} (h : ComIn w cb C) (hc : ∀ e s, e < 6 → s < 4 → C e s = C' e s) : ComIn w cb C' := by
  obtain ⟨arr, h1, h2, h3⟩ := h
  exact ⟨arr, h1, h2, fun e s h4 h5 => by rw [← hc e s h4 h5]; exact h3 e s h4 h5⟩
set_option maxRecDepth 100000 in
set_option maxHeartbeats 4000000 in
theorem pfrontier_any {ns : List Nd} {D : Nat → Nat → Int} {na da la : Option Addr} {nc dc lc R : Nat} (ps : List Pt) (y : Nat) (w : World) (hnd : NodesAt w na ns) (hdt : TabAt w da ns.length ns.length D) (hps : PtsAt w la ps) (h8 : ns.length ≤ 8) (hR : R ≤ 4) (hy : y < ns.length) (hD : ∀ a b, D a b ≤ 1000) (hD1 : ∀ a b, -1 ≤ D a b) (hok : ∀ p ∈ ps, wP ns.length R p) (hl : ps.length ≤ 1000) :
    Calls Try.prog 88 #[.agg #[.slice na ns.length nc, .int .i64 (R : Int)], .agg #[.slice da ns.length dc], .slice la ps.length lc, .int .i64 (y : Int)] w fun en w' => ∃ v, en = .returned v ∧ OwnT w w' v (wK (inT (yG ns D R ps y ps.length)) 6) ∧ Bw w w' := by
  go_enter Try.func88, Try.ntmps88
  go_wp2_with fail
  obtain ⟨w0, hw0⟩ : ∃ w0, ((w.alloc (.cells #[.slice na ns.length nc, .int .i64 (R : Int)] 24)).alloc (.cells #[.slice da ns.length dc] 101)).alloc (.cells #[.bool false, .bool false, .bool false, .bool false, .bool false, .bool false, .bool false, .bool false, .bool false, .bool false, .bool false, .bool false, .bool false, .bool false, .bool false, .bool false, .bool false, .bool false, .bool false, .bool false, .bool false, .bool false, .bool false, .bool false] 192) = w0 := ⟨_, rfl⟩
  have hA := alloc3 w (.cells #[.slice na ns.length nc, .int .i64 (R : Int)] 24) (.cells #[.slice da ns.length dc] 101) (.cells #[.bool false, .bool false, .bool false, .bool false, .bool false, .bool false, .bool false, .bool false, .bool false, .bool false, .bool false, .bool false, .bool false, .bool false, .bool false, .bool false, .bool false, .bool false, .bool false, .bool false, .bool false, .bool false, .bool false, .bool false] 192)
  rw [hw0] at hA
  rw [hw0]
  obtain ⟨hg0, hd0, hc0, hB0⟩ := hA
  clear hw0
  obtain ⟨gb, hgb⟩ : ∃ gb, w.heap.size = gb := ⟨_, rfl⟩
  rw [hgb] at hg0 hd0 hc0
  rw [hgb]
  obtain ⟨db, hdb⟩ : ∃ db, gb + 1 = db := ⟨_, rfl⟩
  obtain ⟨cb, hcb⟩ : ∃ cb, gb + 1 + 1 = cb := ⟨_, rfl⟩
  rw [hcb] at hc0
  rw [hdb] at hd0
  simp only [hcb]
  simp only [hdb]
  have hq : w.heap.size ≤ cb ∧ gb ≠ cb ∧ db ≠ cb := by omega
  clear hgb hdb hcb
  have hcom0 : ComIn w0 cb (inT (yG ns D R ps y 0)) := ⟨_, hc0, rfl, fun e s h4 h5 => by
    have : inT (yG ns D R ps y 0) e s = false := rfl
    rw [this]
    have hk : e * 4 + s < 24 := by omega
    generalize e * 4 + s = k at hk
    match k, hk with
    | (m + 24), hm => exact absurd hm (by omega)
    | 0, _ | 1, _ | 2, _ | 3, _ | 4, _ | 5, _ | 6, _ | 7, _ | 8, _ | 9, _ | 10, _ | 11, _ | 12, _ | 13, _ | 14, _ | 15, _ | 16, _ | 17, _ | 18, _ | 19, _ | 20, _ | 21, _ | 22, _ | 23, _ => rfl⟩
  go_loopw [15] (fun i wr => ∃ k : Nat, k ≤ ps.length ∧ i = .int .i64 k ∧ ComIn wr cb (inT (yG ns D R ps y k)) ∧ wr.heap[gb]? = some (.cells #[.slice na ns.length nc, .int .i64 (R : Int)] 24 (0, 0)) ∧ wr.heap[db]? = some (.cells #[.slice da ns.length dc] 101 (0, 0)) ∧ Bw w wr) (fun i _ => ps.length - (intOf i).toNat)
  case atStart => exact ⟨0, Nat.zero_le _, rfl, hcom0, hg0, hd0, hB0⟩
  case round =>
    clear hcom0 hg0 hd0 hB0 hc0
    obtain ⟨k, hk, rfl, hcom, hg, hd, hB⟩ := hrel
    rename World => wr
    have g0 := qQ (o := 0) hg rfl
    have g1 := qQ (o := 1) hg rfl
    have gl := (Array.getElem?_eq_some_iff.1 hg).1
    have dd0 := qQ (o := 0) hd rfl
    have dl := (Array.getElem?_eq_some_iff.1 hd).1
    have Hg := qJ hg
    have Hd := qJ hd
    have Hcom := qJ hcom
    clear hg hd hcom
    by_cases hlt : k < ps.length
    · have hpk := hok _ (tU hlt)
      have Hcan := qJ (canB_of hpk h8 hR)
      obtain ⟨pb, poff, rfl, hpb, hpc⟩ := (hps.below hB) k hlt
      obtain ⟨p0, p1, p2, p3, p4⟩ := hpc k hlt
      clear hpc
      obtain ⟨n, ep, s, h1, h2, h3, h4, h5, h6⟩ := hpk
      have Hyes := qJ (@comTo_yes ns D R ps y k)
      have Hno := qJ (@comTo_no ns D R ps y k)
      have Hcb : Hid (comB ns D R ps y k = (decide (0 < (vU ps k).count) && (decide (0 ≤ jN ns D n (vU ps k).out s y) && decide (jN ns D n (vU ps k).out s y < R)))) := qJ (by unfold comB; rw [h1, h5]; rfl)
      rw [h1, h3, h5, Int.toNat_natCast, Int.toNat_natCast] at Hyes
      rw [h1] at p0
      rw [h3] at p2
      rw [h5] at p3
      have Hp : Hid (vU ps k = ⟨n, (vU ps k).out, ep, s, (vU ps k).count⟩) := qJ (by cases hq : vU ps k; simp [hq] at h1 h3 h5; simp [h1, h3, h5])
      rw [qK Hp] at Hcan
      clear h1 h3 h5 Hp
      have Hf := qJ (fun (w' : World) (hB' : Bw w w') => pfirst_any (na := na) (da := da) (nc := nc) (dc := dc) n ep s y (R : Int) (vU ps k).out (vU ps k).count w' (hnd.below hB') (hdt.below hB') h8 h2 hy (by omega) (hD n y) (hD1 n y))
      have Hcbe := qJ (fun w => pcanBe_any ⟨n, (vU ps k).out, ep, s, (vU ps k).count⟩ w)
      generalize (vU ps k).out = ou at *
      generalize (vU ps k).count = ct at *
      generalize jN ns D n ou s y = z at *
      by_cases hct : 0 < ct
      · have hct1 : decide (ct ≤ 0) = false := by simp; omega
        have hct2 : decide (0 < ct) = true := by simpa using hct
        by_cases hz0 : 0 ≤ z
        · obtain ⟨zn, rfl⟩ := Int.eq_ofNat_of_zero_le hz0
          by_cases hzR : zn < R
          · have hz1 : decide ((0 : Int) ≤ (zn : Int)) = true := by simp
            have hz2 : decide ((zn : Int) < (R : Int)) = true := by simp; omega
            have hz3 : decide ((zn : Int) < 4) = true := by simp; omega
            have hz4 : (zn : Int) < 4 := by omega
            have he6 : (ep : Int) < 6 := by omega
            have Hs := qJ ((qK Hyes) (by rw [qK Hcb, hct2, hz1, hz2]; rfl))
            clear Hyes Hno Hcb hz0
            go_wp2_with (first | (go_at_call 117; refine ((qK Hcbe) _).mono ?_; rintro en w1 ⟨rfl, hb1⟩; rw [qK Hcan]; have hw1 : Bw wr w1 := (by repeat first|exact br _|assumption|apply bd|apply bn|apply ba|refine bt ?_ (by assumption)); have hx1 := (Below.block hb1 wr.heap.size (by simp)).trans (heap_alloc_new wr _); have x0 := qQ (o := 0) hx1 rfl; have x1 := qQ (o := 1) hx1 rfl; have x2 := qQ (o := 2) hx1 rfl; have x3 := qQ (o := 3) hx1 rfl; have x4 := qQ (o := 4) hx1 rfl; have xl := (Array.getElem?_eq_some_iff.1 hx1).1; have Hx1 := qJ hx1; have hg1 := (Below.block hw1 _ gl).trans (qK Hg); have e0 := qQ (o := 0) hg1 rfl; have e1 := qQ (o := 1) hg1 rfl; have el := (Array.getElem?_eq_some_iff.1 hg1).1; have hd1 := (Below.block hw1 _ dl).trans (qK Hd); have f0 := qQ (o := 0) hd1 rfl; have fl := (Array.getElem?_eq_some_iff.1 hd1).1; clear hg1 hd1 hx1) | (go_at_call 118; refine ((qK Hf) _ (hB.trans hw1)).mono ?_; rintro en w2 ⟨rfl, hb2⟩; have hw2 : Bw wr w2 := hw1.trans hb2; have hx2 := (Below.block hb2 _ xl).trans (qK Hx1); have y2 := qQ (o := 2) hx2 rfl; have yl := (Array.getElem?_eq_some_iff.1 hx2).1; have hg2 := (Below.block hw2 _ gl).trans (qK Hg); have k1 := qQ (o := 1) hg2 rfl; have kl := (Array.getElem?_eq_some_iff.1 hg2).1; have Hcom2 := qJ ((qK Hcom).bw hw2); have Hg2 := qJ hg2; have Hd2 := qJ ((Below.block hw2 _ dl).trans (qK Hd)); clear hg2 hx2; obtain ⟨q0, q1, q2⟩ := (qK Hcom2).cell h4 (show zn < 4 by omega)))
            go_roundw
            case rel =>
              refine ⟨k + 1, by omega, by go_num, ?_, ?_, ?_, ?_⟩
              · rw [qK Hs]
                exact ((qK Hcom2).set h4 (show zn < 4 by omega)).congr fun e s _ _ => (inT_snoc _ _ e s).symm
              · exact (Below.heap_setCell w2 ⟨cb, ep * 4 + zn, none⟩ _ gb hq.2.1).trans (qK Hg2)
              · exact (Below.heap_setCell w2 ⟨cb, ep * 4 + zn, none⟩ _ db hq.2.2).trans (qK Hd2)
              · exact Chg.toBw (S := fun b => b = cb) (hB.trans hw2) (qC _ _ _ _) (fun x hx => hx ▸ hq.1)
            case measure => simp [intOf]; omega
          · have hz2 : decide ((zn : Int) < (R : Int)) = false := by simp; omega
            have hz1 : decide ((0 : Int) ≤ (zn : Int)) = true := by simp
            have hz5 : ¬ zn < R := hzR
            have Hs := qJ ((qK Hno) (by rw [qK Hcb, hct2, hz1, hz2]; rfl))
            clear Hyes Hno Hcb hz0
            go_wp2_with (first | (go_at_call 117; refine ((qK Hcbe) _).mono ?_; rintro en w1 ⟨rfl, hb1⟩; rw [qK Hcan]; have hw1 : Bw wr w1 := (by repeat first|exact br _|assumption|apply bd|apply bn|apply ba|refine bt ?_ (by assumption)); have hx1 := (Below.block hb1 wr.heap.size (by simp)).trans (heap_alloc_new wr _); have x0 := qQ (o := 0) hx1 rfl; have x1 := qQ (o := 1) hx1 rfl; have x2 := qQ (o := 2) hx1 rfl; have x3 := qQ (o := 3) hx1 rfl; have x4 := qQ (o := 4) hx1 rfl; have xl := (Array.getElem?_eq_some_iff.1 hx1).1; have Hx1 := qJ hx1; have hg1 := (Below.block hw1 _ gl).trans (qK Hg); have e0 := qQ (o := 0) hg1 rfl; have e1 := qQ (o := 1) hg1 rfl; have el := (Array.getElem?_eq_some_iff.1 hg1).1; have hd1 := (Below.block hw1 _ dl).trans (qK Hd); have f0 := qQ (o := 0) hd1 rfl; have fl := (Array.getElem?_eq_some_iff.1 hd1).1; clear hg1 hd1 hx1) | (go_at_call 118; refine ((qK Hf) _ (hB.trans hw1)).mono ?_; rintro en w2 ⟨rfl, hb2⟩; have hw2 : Bw wr w2 := hw1.trans hb2; have hx2 := (Below.block hb2 _ xl).trans (qK Hx1); have y2 := qQ (o := 2) hx2 rfl; have yl := (Array.getElem?_eq_some_iff.1 hx2).1; have hg2 := (Below.block hw2 _ gl).trans (qK Hg); have k1 := qQ (o := 1) hg2 rfl; have kl := (Array.getElem?_eq_some_iff.1 hg2).1; have Hcom2 := qJ ((qK Hcom).bw hw2); have Hg2 := qJ hg2; have Hd2 := qJ ((Below.block hw2 _ dl).trans (qK Hd)); clear hg2 hx2))
            go_roundw
            case rel => exact ⟨k + 1, by omega, by go_num, by rw [qK Hs]; exact qK Hcom2, qK Hg2, qK Hd2, hB.trans hw2⟩
            case measure => simp [intOf]; omega
        · have hz1 : decide (0 ≤ z) = false := by simpa using hz0
          have Hs := qJ ((qK Hno) (by rw [qK Hcb, hct2, hz1]; rfl))
          clear Hyes Hno Hcb
          go_wp2_with (first | (go_at_call 117; refine ((qK Hcbe) _).mono ?_; rintro en w1 ⟨rfl, hb1⟩; rw [qK Hcan]; have hw1 : Bw wr w1 := (by repeat first|exact br _|assumption|apply bd|apply bn|apply ba|refine bt ?_ (by assumption)); have hx1 := (Below.block hb1 wr.heap.size (by simp)).trans (heap_alloc_new wr _); have x0 := qQ (o := 0) hx1 rfl; have x1 := qQ (o := 1) hx1 rfl; have x2 := qQ (o := 2) hx1 rfl; have x3 := qQ (o := 3) hx1 rfl; have x4 := qQ (o := 4) hx1 rfl; have xl := (Array.getElem?_eq_some_iff.1 hx1).1; have Hx1 := qJ hx1; have hg1 := (Below.block hw1 _ gl).trans (qK Hg); have e0 := qQ (o := 0) hg1 rfl; have e1 := qQ (o := 1) hg1 rfl; have el := (Array.getElem?_eq_some_iff.1 hg1).1; have hd1 := (Below.block hw1 _ dl).trans (qK Hd); have f0 := qQ (o := 0) hd1 rfl; have fl := (Array.getElem?_eq_some_iff.1 hd1).1; clear hg1 hd1 hx1) | (go_at_call 118; refine ((qK Hf) _ (hB.trans hw1)).mono ?_; rintro en w2 ⟨rfl, hb2⟩; have hw2 : Bw wr w2 := hw1.trans hb2; have hx2 := (Below.block hb2 _ xl).trans (qK Hx1); have y2 := qQ (o := 2) hx2 rfl; have yl := (Array.getElem?_eq_some_iff.1 hx2).1; have hg2 := (Below.block hw2 _ gl).trans (qK Hg); have k1 := qQ (o := 1) hg2 rfl; have kl := (Array.getElem?_eq_some_iff.1 hg2).1; have Hcom2 := qJ ((qK Hcom).bw hw2); have Hg2 := qJ hg2; have Hd2 := qJ ((Below.block hw2 _ dl).trans (qK Hd)); clear hg2 hx2))
          go_roundw
          case rel => exact ⟨k + 1, by omega, by go_num, by rw [qK Hs]; exact qK Hcom2, qK Hg2, qK Hd2, hB.trans hw2⟩
          case measure => simp [intOf]; omega
      · have hct1 : decide (ct ≤ 0) = true := by simp; omega
        have Hs := qJ ((qK Hno) (by rw [qK Hcb, show decide (0 < ct) = false by simpa using hct]; rfl))
        go_wp2_with fail
        go_roundw
        case rel => exact ⟨k + 1, by omega, by go_num, by rw [qK Hs]; exact (qK Hcom).bw (by repeat first|exact br _|assumption|apply bd|apply bn|apply ba|refine bt ?_ (by assumption)), (Below.block (show Bw wr _ from (by repeat first|exact br _|assumption|apply bd|apply bn|apply ba|refine bt ?_ (by assumption))) _ gl).trans (qK Hg), (Below.block (show Bw wr _ from (by repeat first|exact br _|assumption|apply bd|apply bn|apply ba|refine bt ?_ (by assumption))) _ dl).trans (qK Hd), (by repeat first|exact br _|assumption|apply bd|apply bn|apply ba|refine bt ?_ (by assumption))⟩
        case measure => simp [intOf]; omega
    · have hkk : k = ps.length := by omega
      subst hkk
      obtain ⟨arr, ha1, ha2, ha3⟩ := qK Hcom
      have Hrange : Hid (wr.rangeAt cb 0 arr.toList) := qJ (fun j v hj => by rw [Nat.zero_add]; exact qQ ha1 (by simpa using hj))
      have Hsize : Hid ((Try.prog.info? 192).map (·.size) = some arr.toList.length) := qJ (by rw [Try.sizeComing]; simp [ha2])
      clear Hcom ha1
      go_wp2_with (refine wpList_load_mid rfl 192 _ rfl cb 0 rfl arr.toList _ (qK Hrange) Try.underlying192 rfl (qK Hsize) ?_)
      refine (pleast_any _ arr _ ha2 ha3).mono ?_
      rintro en w1 ⟨v, rfl, hov, hb1⟩
      go_wp2_with fail
      go_ret
      exact ⟨v, rfl, hov.weaken hB, hB.trans hb1⟩
theorem TabIn.map {S S' : Nat → Prop} {w w' : World} {v : Value} {n m : Nat} {f : Nat → Nat → Int} (h : TabIn S w v n m f) (hf : ∀ (ty : TypeId) (sz : Nat) (u : Value) (m : Nat) (ys : List Value), ty = 26 ∨ ty = 3 → OwnsIn S w ty sz u m ys → OwnsIn S' w' ty sz u m ys) : TabIn S' w' v n m f := by
  obtain ⟨vs, h1, h2⟩ := h
  refine ⟨vs, hf _ _ _ _ _ (.inl rfl) h1, fun i hi => ?_⟩
  obtain ⟨u, e, h3⟩ := h2 i hi
  exact ⟨u, e, hf _ _ _ _ _ (.inr rfl) h3⟩
def advE (ns : List Nd) (W : Nat) (op : List Gv) (w n : Int) : Int := if yN ns W op w n != 0 then yN ns W op w n else if decide (5 ≤ kQ op w n 2 op.length) then 5 else 0
def tH (st : RSt) (w n : Int) (k : Nat) : RSt := { st with log := st.log ++ [⟨w, [⟨n, true, k, 0, -1⟩, ⟨n, true, (k : Int) + 1, 0, 1⟩]⟩], opened := st.opened ++ [⟨n, w, 2⟩] }
def dM (ns : List Nd) (W : Nat) (st : RSt) (w n : Int) : RSt := if advE ns W st.opened w n == 0 then tH st w n (kQ st.opened w n 2 st.opened.length) else st
def tQ (st : RSt) (w n : Int) (k : Nat) : RSt := { st with log := st.log ++ [⟨w, [⟨n, true, k, 0, -1⟩]⟩], opened := st.opened ++ [⟨n, w, 3⟩] }
def dF (ns : List Nd) (W : Nat) (st : RSt) (w n : Int) : RSt := if yN ns W st.opened w n == 0 then tQ st w n (kQ st.opened w n 2 st.opened.length) else st
def atI (ns : List Nd) (W : Nat) (w : Int) (v : Int) (x : Nat) : Int := if (qV ns x).kind == 5 then v % W else if (qV ns x).kind == 6 then (v % (qV ns x).k) % W else w
def tW (ns : List Nd) (W : Nat) (w n : Int) (m : Gv) : Nat → List Ml
  | 0 => []
  | x + 1 => if qL (qV ns x) n then tW ns W w n m x ++ [⟨atI ns W w m.value x, x, m.node, m.epoch, m.value, false⟩] else tW ns W w n m x
def jX (ns : List Nd) (n : Int) (m : Gv) : Nat → List Pt
  | 0 => []
  | x + 1 => if qL (qV ns x) n then jX ns n m x ++ [⟨x, false, m.node, m.epoch, 1⟩] else jX ns n m x
theorem putM_len (ns : List Nd) (W : Nat) (w n : Int) (m : Gv) (k : Nat) : (tW ns W w n m k).length ≤ k := by
  induction k with
  | zero => simp [tW]
  | succ k ih => unfold tW; split <;> (try simp) <;> omega
theorem wW (ns : List Nd) (n : Int) (m : Gv) (k : Nat) : (jX ns n m k).length ≤ k := by
  induction k with
  | zero => simp [jX]
  | succ k ih => unfold jX; split <;> (try simp) <;> omega
def jM (op : List Gv) : Nat → Nat
  | 0 => 0
  | i + 1 => if (vR op i).value == 1 then jM op i + 1 else jM op i
def giveE (ns : List Nd) (W : Nat) (op : List Gv) (w n : Int) : Int := if yN ns W op w n != 0 then yN ns W op w n else if decide (20 ≤ jM op op.length) then 5 else 0
def yT (ns : List Nd) (W : Nat) (st : RSt) (w n v : Int) (k : Nat) : RSt := { st with mails := st.mails ++ tW ns W w n ⟨k, 0, v⟩ ns.length, log := st.log ++ [⟨w, jX ns n ⟨k, 0, v⟩ ns.length⟩], opened := st.opened ++ [⟨n, w, 1⟩] }
def pU (ns : List Nd) (W : Nat) (st : RSt) (w n v : Int) : RSt := if giveE ns W st.opened w n == 0 then yT ns W st w n v (kQ st.opened w n 2 st.opened.length) else st
theorem Try.infoChangeP : (Try.prog.info? 183).map (fun i => (i.zero, i.size, i.bytes)) = some (some (.agg #[.slice none 0 0]), 1, 24) := by kernel_rfl
def rowO (w : World) (ty : TypeId) (v : Value) (n : Nat) (vs : List Value) : Prop :=
  vs.length = n ∧ ((v = .slice none 0 0 ∧ n = 0) ∨ ∃ g off cap cur, v = .slice (some ⟨g, off, none⟩) n cap ∧ w.heap[g]? = some (.cells cur ty (0, 0)) ∧ n ≤ cap ∧ off + cap ≤ cur.size ∧ cap ≤ maxLen ∧ ∀ k u, vs[k]? = some u → cur[off + k]? = some u)
theorem rowO.val {w : World} {ty : TypeId} {v : Value} {n : Nat} {vs : List Value} (h : rowO w ty v n vs) : ∃ a c, v = .slice a n c := by
  obtain ⟨_, ⟨e, h0⟩ | ⟨g, off, cap, cur, e, _⟩⟩ := h
  · exact ⟨none, 0, by rw [e, h0]⟩
  · exact ⟨_, _, e⟩
theorem rowO.frame {w w' : World} {ty : TypeId} {v : Value} {n : Nat} {vs : List Value} (h : rowO w ty v n vs) (hf : ∀ b, Value.ownBlock v = some b → w'.heap[b]? = w.heap[b]?) : rowO w' ty v n vs := by
  obtain ⟨hl, h⟩ := h
  refine ⟨hl, ?_⟩
  rcases h with h | ⟨g, off, cap, cur, e, hc, r⟩
  · exact .inl h
  · exact .inr ⟨g, off, cap, cur, e, (hf g (by rw [e]; rfl)).trans hc, r⟩
theorem rowO.blk {w : World} {ty : TypeId} {v : Value} {n b : Nat} {vs : List Value} (h : rowO w ty v n vs) (hb : Value.ownBlock v = some b) : ∃ cur, w.heap[b]? = some (.cells cur ty (0, 0)) := by
  obtain ⟨_, ⟨e, _⟩ | ⟨g, off, cap, cur, e, hc, _⟩⟩ := h
  · rw [e] at hb; simp [Value.ownBlock] at hb
  · rw [e] at hb
    simp only [Value.ownBlock, Option.some.injEq] at hb
    subst hb
    exact ⟨cur, hc⟩
theorem rowO.bw {w w' : World} {ty : TypeId} {v : Value} {n : Nat} {vs : List Value} (h : rowO w ty v n vs) (hb : Bw w w') : rowO w' ty v n vs := h.frame fun b hbb => by
  obtain ⟨cur, hc⟩ := h.blk hbb
  exact Below.block hb b (Array.getElem?_eq_some_iff.1 hc).1
theorem setCells_one (w : World) (b o : Nat) (u : Value) : w.setCells b o [u] = w.setCell ⟨b, o, none⟩ u := rfl
theorem run_appO (w : World) (res : TypeId) (v : Value) (n : Nat) (vs : List Value) (h : rowO w 183 v n vs) (h1 : ∀ u ∈ vs, u.oneCell' = true) (g c : Nat) (u : Value) (hc : w.cell? ⟨g, 0, none⟩ = some u) (hu : u.oneCell' = true) (hl : n + 1 ≤ 1000000000) :
    ∃ g' off' cap w', (Builtin.append_ #[159, 159] res #[v, .slice (some ⟨g, 0, none⟩) 1 c]).run Try.prog w = .ok (.slice (some ⟨g', off', none⟩) (n + 1) cap) w' ∧ rowO w' 183 (.slice (some ⟨g', off', none⟩) (n + 1) cap) (n + 1) (vs ++ [u]) ∧ w.grownBy w' v.ownBlock ∧ (v.ownBlock = some g' ∨ g' = w.heap.size) := by
  obtain ⟨i0, hi, hz0, hz1, hz2⟩ := info_parts Try.infoChangeP
  have hsrc : Src Try.prog i0.size 159 (.slice (some ⟨g, 0, none⟩) 1 c) 1 [u] w := by
    rw [hz1]
    exact Src.ofSlice w Try.underlying159 ⟨g, 0, none⟩ 1 c [u] rfl (fun j x hj => by
      match j, hj with
      | 0, hj => simp at hj; subst hj; simpa [Addr.add] using hc) (by intro x hx; simp at hx; subst hx; exact hu)
  obtain ⟨hvl, h⟩ := h
  have grow : ∀ (base : Option Addr) (cap : Nat), v = .slice base n cap → cap < n + 1 → (∀ w0 : World, w0 = w.drew → (Builtin.firstCells i0.size n (.slice base n cap)).run Try.prog w0 = .ok vs.toArray w0) →
      ∃ g' off' cap w', (Builtin.append_ #[159, 159] res #[v, .slice (some ⟨g, 0, none⟩) 1 c]).run Try.prog w = .ok (.slice (some ⟨g', off', none⟩) (n + 1) cap) w' ∧ rowO w' 183 (.slice (some ⟨g', off', none⟩) (n + 1) cap) (n + 1) (vs ++ [u]) ∧ w.grownBy w' v.ownBlock ∧ (v.ownBlock = some g' ∨ g' = w.heap.size) := by
    intro base cap e hcap hold
    have hr := run_append_grow_src (P := Try.prog) w 159 159 res 183 i0 (.agg #[.slice none 0 0]) Try.underlying159 hi hz0 base n cap vs (hold _ rfl) (.slice (some ⟨g, 0, none⟩) 1 c) 1 [u] hsrc hcap (by omega) (growslice_fits hcap (by rw [hz2]; omega))
    refine ⟨w.heap.size, 0, _, _, by rw [e]; exact hr, ⟨by simp [hvl], .inr ⟨w.heap.size, 0, _, _, rfl, heap_alloc_new w.drew _, grownCap_ge w (n + 1) cap _, ?_, grownCap_le_maxLen w (n + 1) cap _ (by unfold maxLen; omega), ?_⟩⟩, ⟨rfl, rfl, rfl, by simp, fun k hk _ => Below.heap_alloc w.drew _ k hk⟩, .inr rfl⟩
    · have := grownCap_ge w (n + 1) cap 183
      simp [size_zeroCells, hvl, Value.cells]
      omega
    · intro k x hk
      have hlt := (List.getElem?_eq_some_iff.1 hk).1
      rw [Nat.zero_add, Array.getElem?_append_left (by simpa using hlt)]
      simpa using hk
  rcases h with ⟨e, h0⟩ | ⟨gv, off, cap, cur, e, hcur, hncap, hoc, hcm, hvs⟩
  · subst h0
    have hv0 : vs = [] := List.length_eq_zero_iff.1 hvl
    refine grow none 0 e (by omega) (fun w0 _ => ?_)
    rw [hv0]
    exact run_firstCells_none w0 _ _ _ _
  · by_cases hroom : n + 1 ≤ cap
    · have hr := run_append_room_src (P := Try.prog) w 159 159 res 183 i0 Try.underlying159 hi gv off n cap (.slice (some ⟨g, 0, none⟩) 1 c) 1 [u] hsrc hroom (fun j hj => by
          have : j = 0 := by simpa using hj
          subst this
          rw [hz1]
          have hlt : off + n * 1 + 0 < cur.size := by omega
          rw [qQ hcur (Array.getElem?_eq_getElem hlt)]
          rfl) (fun j _ => qZ hcur)
      rw [hz1, setCells_one] at hr
      refine ⟨gv, off, cap, _, by rw [e]; exact hr, ⟨by simp [hvl], .inr ⟨gv, off, cap, _, rfl, qY hcur, hroom, by simpa using hoc, hcm, ?_⟩⟩, ⟨rfl, rfl, rfl, by simp, fun k hk hn => Below.heap_setCell w ⟨gv, off + n * 1, none⟩ u k (fun e2 => hn (by rw [e, e2]; rfl))⟩, .inl (by rw [e]; rfl)⟩
      intro k x hk
      by_cases hkn : k < n
      · rw [List.getElem?_append_left (by omega)] at hk
        rw [Array.getElem?_setIfInBounds_ne (by omega)]
        exact hvs k x hk
      · have hkk : k = n := by have := (List.getElem?_eq_some_iff.1 hk).1; simp at this; omega
        subst hkk
        rw [List.getElem?_append_right (by omega), hvl] at hk
        simp at hk
        subst hk
        rw [Nat.mul_one, Array.getElem?_setIfInBounds_self_of_lt (by omega)]
    · refine grow _ cap e (by omega) (fun w0 hw0 => ?_)
      rw [hz1]
      refine run_firstCells_some w0 1 n ⟨gv, off, none⟩ n cap vs (by simp [hvl]) (fun j x hj => ?_)
      refine uD ?_
      rw [hw0]
      have := qQ hcur (hvs j x hj)
      simpa using this
theorem stepO {ops : Array Oper} {o : Oper} {a : Act} {w : World} {K : Act → World → Prop} {Q : Exit → Act → World → Prop} {E : Prop} (hgd : o.guard = none) (s y : Operand)
    (ho : o.op = .call { callee := .builtin .append, args := #[s, y], argTypes := #[159, 159] }) (v : Value) (n : Nat) (vs : List Value) (hs : a.eval s = v) (h : rowO w 183 v n vs) (h1 : ∀ u ∈ vs, u.oneCell' = true)
    (g c : Nat) (u : Value) (hx : a.eval y = .slice (some ⟨g, 0, none⟩) 1 c) (hc : w.cell? ⟨g, 0, none⟩ = some u) (hu : u.oneCell' = true) (hl : n + 1 ≤ 1000000000)
    (hK : ∀ g' off' cap w', rowO w' 183 (.slice (some ⟨g', off', none⟩) (n + 1) cap) (n + 1) (vs ++ [u]) → w.grownBy w' v.ownBlock → (v.ownBlock = some g' ∨ g' = w.heap.size) → K (a.put o.dst (.slice (some ⟨g', off', none⟩) (n + 1) cap)) w') :
    if Region.wanted o (yielded ops a.tmps) = true then Oper.wp Try.prog o a w K Q else E := by
  obtain ⟨g', off', cap, w', hr, h2, h3, h4⟩ := run_appO w o.type v n vs h h1 g c u hc hu hl
  have hw : Region.wanted o (yielded ops a.tmps) = true := by simp [Region.wanted, hgd]
  rw [if_pos hw]
  unfold Oper.wp
  simp only [execOp, ho, resolve, invoke, builtin, Sem.run_bind, Sem.run_pure, Result.andThen_ok, List.map_toArray, List.map_cons, List.map_nil, hs, hx, hr]
  exact hK g' off' cap w' h2 h3 h4
end Go.Proofs.Ytfemleimkbjehaa
