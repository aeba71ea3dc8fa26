import Derived.Test.YtfemleimkbjehaaGreatJ13
import Derived.Deep.MidRow
import Derived.Test.YtfemleimkbjehaaGreatJ9
set_option maxRecDepth 1000000
set_option maxHeartbeats 40000000
set_option linter.unusedVariables false
set_option linter.unusedSimpArgs false
namespace Go.Proofs.YtfemleimkbjehaaGreat
open Go.RowKit
theorem alloc3 (w : World) (A B C : Obj) : (((w.alloc A).alloc B).alloc C).heap[w.heap.size]? = some A ∧ (((w.alloc A).alloc B).alloc C).heap[w.heap.size + 1]? = some B ∧ (((w.alloc A).alloc B).alloc C).heap[w.heap.size + 1 + 1]? = some C ∧ Bw w (((w.alloc A).alloc B).alloc C) := by
  refine ⟨(Below.block (show Bw (w.alloc A) _ from (by repeat first|exact br _|assumption|apply bd|apply bn|apply ba|refine bt ?_ (by assumption))) _ (by simp)).trans (heap_alloc_new w _), ?_, ?_, (by repeat first|exact br _|assumption|apply bd|apply bn|apply ba|refine bt ?_ (by assumption))⟩
  · have h : ((w.alloc A).alloc B).heap[w.heap.size + 1]? = some B := by rw [show w.heap.size + 1 = (w.alloc A).heap.size by simp]; exact heap_alloc_new _ _
    exact (Below.block (show Bw ((w.alloc A).alloc B) _ from (by repeat first|exact br _|assumption|apply bd|apply bn|apply ba|refine bt ?_ (by assumption))) _ (by simp)).trans h
  · rw [show w.heap.size + 1 + 1 = ((w.alloc A).alloc B).heap.size by simp]; exact heap_alloc_new _ _
def inT (ts : List Tm) (e s : Nat) : Bool := inTo ts e s ts.length
theorem inTo_app (ts : List Tm) (t : Tm) (e s : Nat) : ∀ i, i ≤ ts.length → inTo (ts ++ [t]) e s i = inTo ts e s i := by
  intro i
  induction i with
  | zero => intro _; rfl
  | succ i ih =>
    intro h
    rw [inTo, inTo, ih (by omega)]
    congr 1
    unfold yU
    simp [List.getD, List.getElem?_append_left (show i < ts.length by omega)]
theorem inT_snoc (ts : List Tm) (t : Tm) (e s : Nat) : inT (ts ++ [t]) e s = (inT ts e s || eqB t e s) := by
  unfold inT
  rw [List.length_append, List.length_singleton, inTo, inTo_app ts t e s _ (Nat.le_refl _)]
  congr 2
  unfold yU
  simp [List.getD]
theorem Tryz.sizeComing : (Tryz.prog.info? 201).map (·.size) = some 24 := by kernel_rfl
def ComIn (w : World) (cb : Nat) (C : Nat → Nat → Bool) : Prop := ∃ arr : Array Value, w.heap[cb]? = some (.cells arr 201 (0, 0)) ∧ arr.size = 24 ∧ ∀ e s, e < 6 → s < 4 → arr[e * 4 + s]? = some (.bool (C e s))
theorem ComIn.bw {w w' : World} {cb : Nat} {C : Nat → Nat → Bool} (h : ComIn w cb C) (hb : Bw w w') : ComIn w' cb C := by
  obtain ⟨arr, h1, r⟩ := h
  exact ⟨arr, (Below.block hb _ (Array.getElem?_eq_some_iff.1 h1).1).trans h1, r⟩
theorem ComIn.set {w : World} {cb e0 s0 : Nat} {C : Nat → Nat → Bool} (h : ComIn w cb C) (he : e0 < 6) (hs : s0 < 4) : ComIn (w.setCell ⟨cb, e0 * 4 + s0, none⟩ (.bool true)) cb (fun e s => C e s || eqB ⟨e0, s0⟩ e s) := by
  obtain ⟨arr, h1, h2, h3⟩ := h
  refine ⟨_, qU h1, by simpa using h2, fun e s h4 h5 => ?_⟩
  by_cases hq : e = e0 ∧ s = s0
  · obtain ⟨rfl, rfl⟩ := hq
    rw [Array.getElem?_setIfInBounds_self_of_lt (by omega)]
    simp [eqB]
  · rw [Array.getElem?_setIfInBounds_ne (by omega), h3 e s h4 h5]
    have : eqB ⟨(e0 : Int), (s0 : Int)⟩ e s = false := by
      simp only [eqB, Bool.and_eq_false_iff, beq_eq_false_iff_ne, ne_eq]
      by_cases h : e = e0
      · right; intro h'; apply hq; exact ⟨h, by omega⟩
      · left; omega
    simp only [this, Bool.or_false]
theorem ComIn.cell {w : World} {cb : Nat} {C : Nat → Nat → Bool} (h : ComIn w cb C) {e s : Nat} (he : e < 6) (hs : s < 4) : w.cell? ⟨cb, e * 4 + s, none⟩ = some (.bool (C e s)) ∧ w.frozen? ⟨cb, e * 4 + s, none⟩ = false ∧ cb < w.heap.size := by
  obtain ⟨arr, h1, _, h3⟩ := h
  exact ⟨qQ h1 (h3 e s he hs), qZ h1, (Array.getElem?_eq_some_iff.1 h1).1⟩
theorem ComIn.congr {w : World} {cb : Nat} {C C' : Nat → Nat → Bool} (h : ComIn w cb C) (hc : ∀ e s, e < 6 → s < 4 → C e s = C' e s) : ComIn w cb C' := by
  obtain ⟨arr, h1, h2, h3⟩ := h
  exact ⟨arr, h1, h2, fun e s h4 h5 => by rw [← hc e s h4 h5]; exact h3 e s h4 h5⟩
theorem pfrontier_any {ns : List Nd} {D : Nat → Nat → Int} {na da la : Option Addr} {nc dc lc R : Nat} (ps : List Pt) (y : Nat) (w : World) (hnd : NodesAt w na ns) (hdt : TabAt w da ns.length ns.length D) (hps : PtsAt w la ps) (h8 : ns.length ≤ 8) (hR : R ≤ 4) (hy : y < ns.length) (hD : ∀ a b, D a b ≤ 1000) (hD1 : ∀ a b, -1 ≤ D a b) (hok : ∀ p ∈ ps, PtOk ns.length R p) (hl : ps.length ≤ 1000) :
    Calls Tryz.prog 94 #[.agg #[.slice na ns.length nc, .int .i64 (R : Int)], .agg #[.slice da ns.length dc], .slice la ps.length lc, .int .i64 (y : Int)] w fun en w' => ∃ v, en = .returned v ∧ OwnT w w' v (lstE (inT (jB ns D R ps y ps.length)) 6) ∧ Bw w w' := by
  go_enter Tryz.func94, Tryz.ntmps94
  go_wp2_with fail
  obtain ⟨w0, hw0⟩ : ∃ w0, ((w.alloc (.cells #[.slice na ns.length nc, .int .i64 (R : Int)] 24)).alloc (.cells #[.slice da ns.length dc] 85)).alloc (.cells #[.bool false, .bool false, .bool false, .bool false, .bool false, .bool false, .bool false, .bool false, .bool false, .bool false, .bool false, .bool false, .bool false, .bool false, .bool false, .bool false, .bool false, .bool false, .bool false, .bool false, .bool false, .bool false, .bool false, .bool false] 201) = w0 := ⟨_, rfl⟩
  have hA := alloc3 w (.cells #[.slice na ns.length nc, .int .i64 (R : Int)] 24) (.cells #[.slice da ns.length dc] 85) (.cells #[.bool false, .bool false, .bool false, .bool false, .bool false, .bool false, .bool false, .bool false, .bool false, .bool false, .bool false, .bool false, .bool false, .bool false, .bool false, .bool false, .bool false, .bool false, .bool false, .bool false, .bool false, .bool false, .bool false, .bool false] 201)
  rw [hw0] at hA
  rw [hw0]
  obtain ⟨hg0, hd0, hc0, hB0⟩ := hA
  clear hw0
  obtain ⟨gb, hgb⟩ : ∃ gb, w.heap.size = gb := ⟨_, rfl⟩
  rw [hgb] at hg0 hd0 hc0
  rw [hgb]
  obtain ⟨db, hdb⟩ : ∃ db, gb + 1 = db := ⟨_, rfl⟩
  obtain ⟨cb, hcb⟩ : ∃ cb, gb + 1 + 1 = cb := ⟨_, rfl⟩
  rw [hcb] at hc0
  rw [hdb] at hd0
  simp only [hcb]
  simp only [hdb]
  have hq : w.heap.size ≤ cb ∧ gb ≠ cb ∧ db ≠ cb := by omega
  clear hgb hdb hcb
  have hcom0 : ComIn w0 cb (inT (jB ns D R ps y 0)) := ⟨_, hc0, rfl, fun e s h4 h5 => by
    have : inT (jB ns D R ps y 0) e s = false := rfl
    rw [this]
    have hk : e * 4 + s < 24 := by omega
    generalize e * 4 + s = k at hk
    match k, hk with
    | (m + 24), hm => exact absurd hm (by omega)
    | 0, _ | 1, _ | 2, _ | 3, _ | 4, _ | 5, _ | 6, _ | 7, _ | 8, _ | 9, _ | 10, _ | 11, _ | 12, _ | 13, _ | 14, _ | 15, _ | 16, _ | 17, _ | 18, _ | 19, _ | 20, _ | 21, _ | 22, _ | 23, _ => rfl⟩
  go_loopw [15] (fun i wr => ∃ k : Nat, k ≤ ps.length ∧ i = .int .i64 k ∧ ComIn wr cb (inT (jB ns D R ps y k)) ∧ wr.heap[gb]? = some (.cells #[.slice na ns.length nc, .int .i64 (R : Int)] 24 (0, 0)) ∧ wr.heap[db]? = some (.cells #[.slice da ns.length dc] 85 (0, 0)) ∧ Bw w wr) (fun i _ => ps.length - (intOf i).toNat)
  case atStart => exact ⟨0, Nat.zero_le _, rfl, hcom0, hg0, hd0, hB0⟩
  case round =>
    clear hcom0 hg0 hd0 hB0 hc0
    obtain ⟨k, hk, rfl, hcom, hg, hd, hB⟩ := hrel
    rename World => wr
    have g0 := qQ (o := 0) hg rfl
    have g1 := qQ (o := 1) hg rfl
    have gl := (Array.getElem?_eq_some_iff.1 hg).1
    have dd0 := qQ (o := 0) hd rfl
    have dl := (Array.getElem?_eq_some_iff.1 hd).1
    have Hg := qJ hg
    have Hd := qJ hd
    have Hcom := qJ hcom
    clear hg hd hcom
    by_cases hlt : k < ps.length
    · have hpk := hok _ (xH hlt)
      have Hcan := qJ (canB_of hpk h8 hR)
      obtain ⟨pb, poff, rfl, hpb, hpc⟩ := (hps.below hB) k hlt
      obtain ⟨p0, p1, p2, p3, p4⟩ := hpc k hlt
      clear hpc
      obtain ⟨n, ep, s, h1, h2, h3, h4, h5, h6⟩ := hpk
      have Hyes := qJ (@comTo_yes ns D R ps y k)
      have Hno := qJ (@comTo_no ns D R ps y k)
      have Hcb : Hid (comB ns D R ps y k = (decide (0 < (jN ps k).count) && (decide (0 ≤ jX ns D n (jN ps k).out s y) && decide (jX ns D n (jN ps k).out s y < R)))) := qJ (by unfold comB; rw [h1, h5]; rfl)
      rw [h1, h3, h5, Int.toNat_natCast, Int.toNat_natCast] at Hyes
      rw [h1] at p0
      rw [h3] at p2
      rw [h5] at p3
      have Hp : Hid (jN ps k = ⟨n, (jN ps k).out, ep, s, (jN ps k).count⟩) := qJ (by cases hq : jN ps k; simp [hq] at h1 h3 h5; simp [h1, h3, h5])
      rw [qK Hp] at Hcan
      clear h1 h3 h5 Hp
      have Hf := qJ (fun (w' : World) (hB' : Bw w w') => pfirst_any (na := na) (da := da) (nc := nc) (dc := dc) n ep s y (R : Int) (jN ps k).out (jN ps k).count w' (hnd.below hB') (hdt.below hB') h8 h2 hy (by omega) (hD n y) (hD1 n y))
      have Hcbe := qJ (fun w => pcanBe_any ⟨n, (jN ps k).out, ep, s, (jN ps k).count⟩ w)
      generalize (jN ps k).out = ou at *
      generalize (jN ps k).count = ct at *
      generalize jX ns D n ou s y = z at *
      by_cases hct : 0 < ct
      · have hct1 : decide (ct ≤ 0) = false := by simp; omega
        have hct2 : decide (0 < ct) = true := by simpa using hct
        by_cases hz0 : 0 ≤ z
        · obtain ⟨zn, rfl⟩ := Int.eq_ofNat_of_zero_le hz0
          by_cases hzR : zn < R
          · have hz1 : decide ((0 : Int) ≤ (zn : Int)) = true := by simp
            have hz2 : decide ((zn : Int) < (R : Int)) = true := by simp; omega
            have hz3 : decide ((zn : Int) < 4) = true := by simp; omega
            have hz4 : (zn : Int) < 4 := by omega
            have he6 : (ep : Int) < 6 := by omega
            have Hs := qJ ((qK Hyes) (by rw [qK Hcb, hct2, hz1, hz2]; rfl))
            clear Hyes Hno Hcb hz0
            go_wp2_with (first | (go_at_call 82; refine ((qK Hcbe) _).mono ?_; rintro en w1 ⟨rfl, hb1⟩; rw [qK Hcan]; have hw1 : Bw wr w1 := (by repeat first|exact br _|assumption|apply bd|apply bn|apply ba|refine bt ?_ (by assumption)); have hx1 := (Below.block hb1 wr.heap.size (by simp)).trans (heap_alloc_new wr _); have x0 := qQ (o := 0) hx1 rfl; have x1 := qQ (o := 1) hx1 rfl; have x2 := qQ (o := 2) hx1 rfl; have x3 := qQ (o := 3) hx1 rfl; have x4 := qQ (o := 4) hx1 rfl; have xl := (Array.getElem?_eq_some_iff.1 hx1).1; have Hx1 := qJ hx1; have hg1 := (Below.block hw1 _ gl).trans (qK Hg); have e0 := qQ (o := 0) hg1 rfl; have e1 := qQ (o := 1) hg1 rfl; have el := (Array.getElem?_eq_some_iff.1 hg1).1; have hd1 := (Below.block hw1 _ dl).trans (qK Hd); have f0 := qQ (o := 0) hd1 rfl; have fl := (Array.getElem?_eq_some_iff.1 hd1).1; clear hg1 hd1 hx1) | (go_at_call 117; refine ((qK Hf) _ (hB.trans hw1)).mono ?_; rintro en w2 ⟨rfl, hb2⟩; have hw2 : Bw wr w2 := hw1.trans hb2; have hx2 := (Below.block hb2 _ xl).trans (qK Hx1); have y2 := qQ (o := 2) hx2 rfl; have yl := (Array.getElem?_eq_some_iff.1 hx2).1; have hg2 := (Below.block hw2 _ gl).trans (qK Hg); have k1 := qQ (o := 1) hg2 rfl; have kl := (Array.getElem?_eq_some_iff.1 hg2).1; have Hcom2 := qJ ((qK Hcom).bw hw2); have Hg2 := qJ hg2; have Hd2 := qJ ((Below.block hw2 _ dl).trans (qK Hd)); clear hg2 hx2; obtain ⟨q0, q1, q2⟩ := (qK Hcom2).cell h4 (show zn < 4 by omega)))
            go_roundw
            case rel =>
              refine ⟨k + 1, by omega, by go_num, ?_, ?_, ?_, ?_⟩
              · rw [qK Hs]
                exact ((qK Hcom2).set h4 (show zn < 4 by omega)).congr fun e s _ _ => (inT_snoc _ _ e s).symm
              · exact (Below.heap_setCell w2 ⟨cb, ep * 4 + zn, none⟩ _ gb hq.2.1).trans (qK Hg2)
              · exact (Below.heap_setCell w2 ⟨cb, ep * 4 + zn, none⟩ _ db hq.2.2).trans (qK Hd2)
              · exact Chg.toBw (S := fun b => b = cb) (hB.trans hw2) (qP _ _ _ _) (fun x hx => hx ▸ hq.1)
            case measure => simp [intOf]; omega
          · have hz2 : decide ((zn : Int) < (R : Int)) = false := by simp; omega
            have hz1 : decide ((0 : Int) ≤ (zn : Int)) = true := by simp
            have hz5 : ¬ zn < R := hzR
            have Hs := qJ ((qK Hno) (by rw [qK Hcb, hct2, hz1, hz2]; rfl))
            clear Hyes Hno Hcb hz0
            go_wp2_with (first | (go_at_call 82; refine ((qK Hcbe) _).mono ?_; rintro en w1 ⟨rfl, hb1⟩; rw [qK Hcan]; have hw1 : Bw wr w1 := (by repeat first|exact br _|assumption|apply bd|apply bn|apply ba|refine bt ?_ (by assumption)); have hx1 := (Below.block hb1 wr.heap.size (by simp)).trans (heap_alloc_new wr _); have x0 := qQ (o := 0) hx1 rfl; have x1 := qQ (o := 1) hx1 rfl; have x2 := qQ (o := 2) hx1 rfl; have x3 := qQ (o := 3) hx1 rfl; have x4 := qQ (o := 4) hx1 rfl; have xl := (Array.getElem?_eq_some_iff.1 hx1).1; have Hx1 := qJ hx1; have hg1 := (Below.block hw1 _ gl).trans (qK Hg); have e0 := qQ (o := 0) hg1 rfl; have e1 := qQ (o := 1) hg1 rfl; have el := (Array.getElem?_eq_some_iff.1 hg1).1; have hd1 := (Below.block hw1 _ dl).trans (qK Hd); have f0 := qQ (o := 0) hd1 rfl; have fl := (Array.getElem?_eq_some_iff.1 hd1).1; clear hg1 hd1 hx1) | (go_at_call 117; refine ((qK Hf) _ (hB.trans hw1)).mono ?_; rintro en w2 ⟨rfl, hb2⟩; have hw2 : Bw wr w2 := hw1.trans hb2; have hx2 := (Below.block hb2 _ xl).trans (qK Hx1); have y2 := qQ (o := 2) hx2 rfl; have yl := (Array.getElem?_eq_some_iff.1 hx2).1; have hg2 := (Below.block hw2 _ gl).trans (qK Hg); have k1 := qQ (o := 1) hg2 rfl; have kl := (Array.getElem?_eq_some_iff.1 hg2).1; have Hcom2 := qJ ((qK Hcom).bw hw2); have Hg2 := qJ hg2; have Hd2 := qJ ((Below.block hw2 _ dl).trans (qK Hd)); clear hg2 hx2))
            go_roundw
            case rel => exact ⟨k + 1, by omega, by go_num, by rw [qK Hs]; exact qK Hcom2, qK Hg2, qK Hd2, hB.trans hw2⟩
            case measure => simp [intOf]; omega
        · have hz1 : decide (0 ≤ z) = false := by simpa using hz0
          have Hs := qJ ((qK Hno) (by rw [qK Hcb, hct2, hz1]; rfl))
          clear Hyes Hno Hcb
          go_wp2_with (first | (go_at_call 82; refine ((qK Hcbe) _).mono ?_; rintro en w1 ⟨rfl, hb1⟩; rw [qK Hcan]; have hw1 : Bw wr w1 := (by repeat first|exact br _|assumption|apply bd|apply bn|apply ba|refine bt ?_ (by assumption)); have hx1 := (Below.block hb1 wr.heap.size (by simp)).trans (heap_alloc_new wr _); have x0 := qQ (o := 0) hx1 rfl; have x1 := qQ (o := 1) hx1 rfl; have x2 := qQ (o := 2) hx1 rfl; have x3 := qQ (o := 3) hx1 rfl; have x4 := qQ (o := 4) hx1 rfl; have xl := (Array.getElem?_eq_some_iff.1 hx1).1; have Hx1 := qJ hx1; have hg1 := (Below.block hw1 _ gl).trans (qK Hg); have e0 := qQ (o := 0) hg1 rfl; have e1 := qQ (o := 1) hg1 rfl; have el := (Array.getElem?_eq_some_iff.1 hg1).1; have hd1 := (Below.block hw1 _ dl).trans (qK Hd); have f0 := qQ (o := 0) hd1 rfl; have fl := (Array.getElem?_eq_some_iff.1 hd1).1; clear hg1 hd1 hx1) | (go_at_call 117; refine ((qK Hf) _ (hB.trans hw1)).mono ?_; rintro en w2 ⟨rfl, hb2⟩; have hw2 : Bw wr w2 := hw1.trans hb2; have hx2 := (Below.block hb2 _ xl).trans (qK Hx1); have y2 := qQ (o := 2) hx2 rfl; have yl := (Array.getElem?_eq_some_iff.1 hx2).1; have hg2 := (Below.block hw2 _ gl).trans (qK Hg); have k1 := qQ (o := 1) hg2 rfl; have kl := (Array.getElem?_eq_some_iff.1 hg2).1; have Hcom2 := qJ ((qK Hcom).bw hw2); have Hg2 := qJ hg2; have Hd2 := qJ ((Below.block hw2 _ dl).trans (qK Hd)); clear hg2 hx2))
          go_roundw
          case rel => exact ⟨k + 1, by omega, by go_num, by rw [qK Hs]; exact qK Hcom2, qK Hg2, qK Hd2, hB.trans hw2⟩
          case measure => simp [intOf]; omega
      · have hct1 : decide (ct ≤ 0) = true := by simp; omega
        have Hs := qJ ((qK Hno) (by rw [qK Hcb, show decide (0 < ct) = false by simpa using hct]; rfl))
        go_wp2_with fail
        go_roundw
        case rel => exact ⟨k + 1, by omega, by go_num, by rw [qK Hs]; exact (qK Hcom).bw (by repeat first|exact br _|assumption|apply bd|apply bn|apply ba|refine bt ?_ (by assumption)), (Below.block (show Bw wr _ from (by repeat first|exact br _|assumption|apply bd|apply bn|apply ba|refine bt ?_ (by assumption))) _ gl).trans (qK Hg), (Below.block (show Bw wr _ from (by repeat first|exact br _|assumption|apply bd|apply bn|apply ba|refine bt ?_ (by assumption))) _ dl).trans (qK Hd), (by repeat first|exact br _|assumption|apply bd|apply bn|apply ba|refine bt ?_ (by assumption))⟩
        case measure => simp [intOf]; omega
    · have hkk : k = ps.length := by omega
      subst hkk
      obtain ⟨arr, ha1, ha2, ha3⟩ := qK Hcom
      have Hrange : Hid (wr.rangeAt cb 0 arr.toList) := qJ (fun j v hj => by rw [Nat.zero_add]; exact qQ ha1 (by simpa using hj))
      have Hsize : Hid ((Tryz.prog.info? 201).map (·.size) = some arr.toList.length) := qJ (by rw [Tryz.sizeComing]; simp [ha2])
      clear Hcom ha1
      go_wp2_with (refine wpList_load_mid rfl 201 _ rfl cb 0 rfl arr.toList _ (qK Hrange) Tryz.underlying201 rfl (qK Hsize) ?_)
      refine (pleast_any _ arr _ ha2 ha3).mono ?_
      rintro en w1 ⟨v, rfl, hov, hb1⟩
      go_wp2_with fail
      go_ret
      exact ⟨v, rfl, hov.weaken hB, hB.trans hb1⟩
theorem trans_add {S : Nat → Prop} {w w' : World} {rb k g' base n size : Nat} {arr : Array Value} {fr : Nat × Nat} {t : TypeId} {v v' : Value} {xs : List Value} (hroot : w.heap[rb]? = some (.cells arr 83 fr)) (hown : w.ownsRow base t size v n xs) (hg : w.grownBy w' v.ownBlock) (ht : t ≠ 83) :
    ∀ (ty : TypeId) (sz : Nat) (u : Value) (m : Nat) (ys : List Value), ty ≠ t → ty ≠ 83 → OwnsIn S w ty sz u m ys → OwnsIn (fun b => S b ∨ b = g') (w'.setCell ⟨rb, k, none⟩ v') ty sz u m ys := by
  intro ty sz u m ys h1 h2 h
  exact ((h.grown hown hg h1).set (qW hown hg hroot (.inl (Ne.symm ht))) h2).mono fun b hb => .inl hb
theorem yX {S : Nat → Prop} {w w' : World} {rb k base n size : Nat} {t : TypeId} {v v' : Value} {xs : List Value} (hown : OwnsIn S w t size v n xs) (hg : w.grownBy w' v.ownBlock) (hrb : S rb) (_hb : base = 0) : Chg S w (w'.setCell ⟨rb, k, none⟩ v') := by
  refine ⟨hg.os, hg.tape, hg.output, by simpa using hg.size, fun i hi hn => ?_⟩
  refine (Below.heap_setCell w' ⟨rb, k, none⟩ v' i (by simp only; intro e; subst e; exact hn hrb)).trans (hg.block i hi fun e => hn (hown.2 i e.symm))
theorem TabIn.map {S S' : Nat → Prop} {w w' : World} {v : Value} {n m : Nat} {f : Nat → Nat → Int} (h : TabIn S w v n m f) (hf : ∀ (ty : TypeId) (sz : Nat) (u : Value) (m : Nat) (ys : List Value), ty = 94 ∨ ty = 3 → OwnsIn S w ty sz u m ys → OwnsIn S' w' ty sz u m ys) : TabIn S' w' v n m f := by
  obtain ⟨vs, h1, h2⟩ := h
  refine ⟨vs, hf _ _ _ _ _ (.inl rfl) h1, fun i hi => ?_⟩
  obtain ⟨u, e, h3⟩ := h2 i hi
  exact ⟨u, e, hf _ _ _ _ _ (.inr rfl) h3⟩
theorem LogIn.map {S S' : Nat → Prop} {w w' : World} {v : Value} {cs : List Cg} (h : LogIn S w v cs) (hf : ∀ (ty : TypeId) (sz : Nat) (u : Value) (m : Nat) (ys : List Value), ty = 113 ∨ ty = 67 → OwnsIn S w ty sz u m ys → OwnsIn S' w' ty sz u m ys) : LogIn S' w' v cs := by
  obtain ⟨vs, hl, h1, h2⟩ := h
  refine ⟨vs, hl, hf _ _ _ _ _ (.inl rfl) h1, fun i hi => ?_⟩
  obtain ⟨u, e, h3⟩ := h2 i hi
  exact ⟨u, e, hf _ _ _ _ _ (.inr rfl) h3⟩
theorem ROwn.addOpened {w w' : World} {S : Nat → Prop} {rb g' cap : Nat} {x : RX} {ns : List Nd} {R W : Nat} {D : Nat → Nat → Int} {st : RSt} {y : Gv} (h : ROwn w S rb x ns R W D st)
    (h2 : w'.ownsRow 0 152 3 (.slice (some ⟨g', 0, none⟩) (st.opened.length + 1) cap) (st.opened.length + 1) (qH st.opened ++ y.cells)) (hg : w.grownBy w' x.o.ownBlock) (hlen : st.opened.length + 1 ≤ 100000000) :
    ROwn (w'.setCell ⟨rb, 6, none⟩ (.slice (some ⟨g', 0, none⟩) (st.opened.length + 1) cap)) (fun b => S b ∨ b = g') rb { x with o := .slice (some ⟨g', 0, none⟩) (st.opened.length + 1) cap } ns R W D { st with opened := st.opened ++ [y] } := by
  have tr := trans_add (S := S) (k := 6) (g' := g') (v' := .slice (some ⟨g', 0, none⟩) (st.opened.length + 1) cap) h.root h.opened.1 hg (by decide)
  have hr := qW h.opened.1 hg h.root (.inl (by decide))
  refine ⟨?_, .inl h.sroot, ?_, tr _ _ _ _ _ (by decide) (by decide) h.nodes, tr _ _ _ _ _ (by decide) (by decide) h.mails, h.log.map fun ty sz u m ys hty ho => tr ty sz u m ys (by rcases hty with rfl | rfl <;> decide) (by rcases hty with rfl | rfl <;> decide) ho, tr _ _ _ _ _ (by decide) (by decide) h.evs, ?_, h.told.map fun ty sz u m ys hty ho => tr ty sz u m ys (by rcases hty with rfl | rfl <;> decide) (by rcases hty with rfl | rfl <;> decide) ho, h.dist.map fun ty sz u m ys hty ho => tr ty sz u m ys (by rcases hty with rfl | rfl <;> decide) (by rcases hty with rfl | rfl <;> decide) ho, h.small, ⟨by simpa using hlen, h.few.2⟩, tr _ _ _ _ _ (by decide) (by decide) h.trow, tr _ _ _ _ _ (by decide) (by decide) h.drow, h.tsep⟩
  · rw [setCell_eq_setRow w' rb 6 _ 83 (0, 0) _ hr]
    exact setRow_heap w' rb _ _ _ _ hr
  · intro b hb
    rcases hb with hb | rfl
    · have := h.slt b hb; have := hg.size; simp; omega
    · have := (World.ownsRow.lt h2 b rfl).2; simpa using this
  · refine ⟨?_, fun b hb => .inr (by simpa [Value.ownBlock] using hb.symm)⟩
    show World.ownsRow _ 0 _ 3 _ (st.opened ++ [y]).length _
    rw [gvCells_snoc, List.length_append]
    exact qN hr h2 (by decide)
theorem mlsCells_snoc (l : List Ml) (y : Ml) : jS (l ++ [y]) = jS l ++ y.cells := by simp [jS]
theorem ROwn.addMails {w w' : World} {S : Nat → Prop} {rb g' cap : Nat} {x : RX} {ns : List Nd} {R W : Nat} {D : Nat → Nat → Int} {st : RSt} {y : Ml} (h : ROwn w S rb x ns R W D st)
    (h2 : w'.ownsRow 0 108 6 (.slice (some ⟨g', 0, none⟩) (st.mails.length + 1) cap) (st.mails.length + 1) (jS st.mails ++ y.cells)) (hg : w.grownBy w' x.m.ownBlock) (hlen : st.mails.length + 1 ≤ 100000000) :
    ROwn (w'.setCell ⟨rb, 3, none⟩ (.slice (some ⟨g', 0, none⟩) (st.mails.length + 1) cap)) (fun b => S b ∨ b = g') rb { x with m := .slice (some ⟨g', 0, none⟩) (st.mails.length + 1) cap } ns R W D { st with mails := st.mails ++ [y] } := by
  have tr := trans_add (S := S) (k := 3) (g' := g') (v' := .slice (some ⟨g', 0, none⟩) (st.mails.length + 1) cap) h.root h.mails.1 hg (by decide)
  have hr := qW h.mails.1 hg h.root (.inl (by decide))
  refine ⟨?_, .inl h.sroot, ?_, tr _ _ _ _ _ (by decide) (by decide) h.nodes, ?_, h.log.map fun ty sz u m ys hty ho => tr ty sz u m ys (by rcases hty with rfl | rfl <;> decide) (by rcases hty with rfl | rfl <;> decide) ho, tr _ _ _ _ _ (by decide) (by decide) h.evs, tr _ _ _ _ _ (by decide) (by decide) h.opened, h.told.map fun ty sz u m ys hty ho => tr ty sz u m ys (by rcases hty with rfl | rfl <;> decide) (by rcases hty with rfl | rfl <;> decide) ho, h.dist.map fun ty sz u m ys hty ho => tr ty sz u m ys (by rcases hty with rfl | rfl <;> decide) (by rcases hty with rfl | rfl <;> decide) ho, h.small, ⟨h.few.1, by simpa using hlen, h.few.2.2⟩, tr _ _ _ _ _ (by decide) (by decide) h.trow, tr _ _ _ _ _ (by decide) (by decide) h.drow, h.tsep⟩
  · rw [setCell_eq_setRow w' rb 3 _ 83 (0, 0) _ hr]
    exact setRow_heap w' rb _ _ _ _ hr
  · intro b hb
    rcases hb with hb | rfl
    · have := h.slt b hb; have := hg.size; simp; omega
    · have := (World.ownsRow.lt h2 b rfl).2; simpa using this
  · refine ⟨?_, fun b hb => .inr (by simpa [Value.ownBlock] using hb.symm)⟩
    show World.ownsRow _ 0 _ 6 _ (st.mails ++ [y]).length _
    rw [mlsCells_snoc, List.length_append]
    exact qN hr h2 (by decide)
theorem ROwn.addLog {w w' : World} {S : Nat → Prop} {rb g' cap : Nat} {x : RX} {ns : List Nd} {R W : Nat} {D : Nat → Nat → Int} {st : RSt} {c : Cg} {vp : Value} {n0 : Nat} {vs : List Value} (h : ROwn w S rb x ns R W D st) (hvl : vs.length = st.log.length) (hl1 : OwnsIn S w 113 2 x.l st.log.length (jM st.log vs)) (hl2 : ∀ i, i < st.log.length → ∃ u, vs[i]? = some u ∧ OwnsIn S w 67 5 u (jF st.log i).pts.length (qR (jF st.log i).pts)) (hp : w.ownsRow n0 67 5 vp c.pts.length (qR c.pts))
    (h2' : w'.ownsRow 0 113 2 (.slice (some ⟨g', 0, none⟩) (st.log.length + 1) cap) (st.log.length + 1) (jM st.log vs ++ [.int .i64 c.worker, vp])) (hg : w.grownBy w' x.l.ownBlock) (hlen : st.log.length + 1 ≤ 100000000) :
    ROwn (w'.setCell ⟨rb, 4, none⟩ (.slice (some ⟨g', 0, none⟩) (st.log.length + 1) cap)) (fun b => (S b ∨ vp.ownBlock = some b) ∨ b = g') rb { x with l := .slice (some ⟨g', 0, none⟩) (st.log.length + 1) cap } ns R W D { st with log := st.log ++ [c] } := by
  have tr0 := trans_add (S := fun b => S b ∨ vp.ownBlock = some b) (k := 4) (g' := g') (v' := .slice (some ⟨g', 0, none⟩) (st.log.length + 1) cap) h.root hl1.1 hg (by decide)
  have tr : ∀ (ty : TypeId) (sz : Nat) (u : Value) (m : Nat) (ys : List Value), ty ≠ 113 → ty ≠ 83 → OwnsIn S w ty sz u m ys → OwnsIn (fun b => (S b ∨ vp.ownBlock = some b) ∨ b = g') (w'.setCell ⟨rb, 4, none⟩ (.slice (some ⟨g', 0, none⟩) (st.log.length + 1) cap)) ty sz u m ys := fun ty sz u m ys a b ho => tr0 ty sz u m ys a b (ho.mono fun b hb => .inl hb)
  have hr := qW hl1.1 hg h.root (.inl (by decide))
  refine ⟨?_, .inl (.inl h.sroot), ?_, tr _ _ _ _ _ (by decide) (by decide) h.nodes, tr _ _ _ _ _ (by decide) (by decide) h.mails, ?_, tr _ _ _ _ _ (by decide) (by decide) h.evs, tr _ _ _ _ _ (by decide) (by decide) h.opened, h.told.map fun ty sz u m ys hty ho => tr ty sz u m ys (by rcases hty with rfl | rfl <;> decide) (by rcases hty with rfl | rfl <;> decide) ho, h.dist.map fun ty sz u m ys hty ho => tr ty sz u m ys (by rcases hty with rfl | rfl <;> decide) (by rcases hty with rfl | rfl <;> decide) ho, h.small, ⟨h.few.1, h.few.2.1, by simpa using hlen, h.few.2.2.2⟩, tr _ _ _ _ _ (by decide) (by decide) h.trow, tr _ _ _ _ _ (by decide) (by decide) h.drow, h.tsep⟩
  · rw [setCell_eq_setRow w' rb 4 _ 83 (0, 0) _ hr]
    exact setRow_heap w' rb _ _ _ _ hr
  · intro b hb
    rcases hb with (hb | hb) | rfl
    · have := h.slt b hb; have := hg.size; simp; omega
    · have := (World.ownsRow.lt hp b hb).2; have := hg.size; simp; omega
    · have := (World.ownsRow.lt h2' b rfl).2; simpa using this
  · refine ⟨vs ++ [vp], by simp [hvl], ⟨?_, fun b hb => .inr (by simpa [Value.ownBlock] using hb.symm)⟩, fun i hi => ?_⟩
    · show World.ownsRow _ 0 _ 2 _ (st.log ++ [c]).length _
      rw [logCells_snoc _ _ _ _ hvl, List.length_append]
      exact qN hr h2' (by decide)
    · by_cases e : i < st.log.length
      · obtain ⟨u, eu, hu⟩ := hl2 i e
        have e2 : jF (st.log ++ [c]) i = jF st.log i := by unfold jF; simp [List.getD, List.getElem?_append_left e]
        refine ⟨u, by rw [List.getElem?_append_left (by omega)]; exact eu, ?_⟩
        show OwnsIn _ _ _ 5 u (jF (st.log ++ [c]) i).pts.length (qR (jF (st.log ++ [c]) i).pts)
        rw [e2]
        exact tr _ _ _ _ _ (by decide) (by decide) hu
      · have hi' : i = st.log.length := by
          have : i < (st.log ++ [c]).length := hi
          simp at this; omega
        subst hi'
        have e2 : jF (st.log ++ [c]) st.log.length = c := by unfold jF; simp [List.getD]
        refine ⟨vp, by rw [← hvl]; simp, ?_⟩
        show OwnsIn _ _ _ 5 vp (jF (st.log ++ [c]) st.log.length).pts.length (qR (jF (st.log ++ [c]) st.log.length).pts)
        rw [e2]
        exact tr0 _ _ _ _ _ (by decide) (by decide) ⟨qM hp (Nat.zero_le _), fun b hb => .inr hb⟩
theorem Tryz.infoChange : (Tryz.prog.info? 113).map (fun i => (i.zero, i.size, i.bytes)) = some (some (.agg #[.int .i64 0, .slice none 0 0]), 2, 32) := by kernel_rfl
theorem Tryz.infoGivenR : (Tryz.prog.info? 152).map (fun i => (i.zero, i.size, i.bytes)) = some (some (.agg #[.int .i64 0, .int .i64 0, .int .i64 0]), 3, 24) := by kernel_rfl
theorem xD {w : World} {g : Nat} {a b : Value} (h0 : w.cell? ⟨g, 0, none⟩ = some a) (h1 : w.cell? ⟨g, 1, none⟩ = some b) : ∀ j u, [a, b][j]? = some u → w.cell? ⟨g, j, none⟩ = some u := by
  intro j u hj
  match j, hj with
  | 0, hj => simp at hj; subst hj; exact h0
  | 1, hj => simp at hj; subst hj; exact h1
def ROwn.After (w w' : World) (S : Nat → Prop) (rb : Nat) (ns : List Nd) (R W : Nat) (D : Nat → Nat → Int) (st : RSt) : Prop :=
  ∃ (S' : Nat → Prop) (x' : RX), ROwn w' S' rb x' ns R W D st ∧ Chg S w w' ∧ ∀ b, S' b → S b ∨ w.heap.size ≤ b
theorem ROwn.after_same {w : World} {S : Nat → Prop} {rb : Nat} {x : RX} {ns : List Nd} {R W : Nat} {D : Nat → Nat → Int} {st : RSt} (h : ROwn w S rb x ns R W D st) : ROwn.After w w S rb ns R W D st := ⟨S, x, h, Chg.refl _ _, fun _ hb => .inl hb⟩
def advE (ns : List Nd) (W : Nat) (op : List Gv) (w n : Int) : Int := if kS ns W op w n != 0 then kS ns W op w n else if decide (5 ≤ qC op w n 2 op.length) then 5 else 0
def advSt (st : RSt) (w n : Int) (k : Nat) : RSt := { st with log := st.log ++ [⟨w, [⟨n, true, k, 0, -1⟩, ⟨n, true, (k : Int) + 1, 0, 1⟩]⟩], opened := st.opened ++ [⟨n, w, 2⟩] }
def advS (ns : List Nd) (W : Nat) (st : RSt) (w n : Int) : RSt := if advE ns W st.opened w n == 0 then advSt st w n (qC st.opened w n 2 st.opened.length) else st
theorem radvance_any {S : Nat → Prop} {rb : Nat} {x : RX} {ns : List Nd} {R W : Nat} {D : Nat → Nat → Int} {st : RSt} (wk n : Int) (w : World) (hO : ROwn w S rb x ns R W D st) (hlo : st.opened.length + 1 ≤ 100000000) (hll : st.log.length + 1 ≤ 100000000) :
    Calls Tryz.prog 31 #[.pointer (some ⟨rb, 0, none⟩), .int .i64 wk, .int .i64 n] w fun e w' => e = .returned (.int .i64 (advE ns W st.opened wk n)) ∧ ROwn.After w w' S rb ns R W D (advS ns W st wk n) := by
  have HO := qJ hO
  have HR := qJ hO.read
  have Hsrc := qJ (rsource_any wk n w hO.read)
  have Hdone := qJ (rdone_any wk n 2 w hO.read)
  have hdl := doneTo_le st.opened wk n 2 st.opened.length
  cases hse : (kS ns W st.opened wk n != 0) with
  | true =>
    have He : Hid (advE ns W st.opened wk n = kS ns W st.opened wk n) := qJ (by unfold advE; rw [if_pos hse])
    have Hne : Hid (kS ns W st.opened wk n ≠ 0) := qJ (by simpa using hse)
    have Hs : Hid (advS ns W st wk n = st) := qJ (by unfold advS; rw [qK He, if_neg (by simpa using qK Hne)])
    generalize kS ns W st.opened wk n = se at *
    clear hO
    go_enter Tryz.func31, Tryz.ntmps31
    go_wp2_with (go_at_call 57; refine (qK Hsrc).mono ?_; rintro e w' ⟨rfl, rfl⟩)
    go_ret
    exact ⟨qF (qK He).symm, by rw [qK Hs]; exact (qK HO).after_same⟩
  | false =>
    have hs0 : kS ns W st.opened wk n = 0 := by simpa using hse
    rw [hs0] at Hsrc
    by_cases h5 : 5 ≤ qC st.opened wk n 2 st.opened.length
    · have He : Hid (advE ns W st.opened wk n = 5) := qJ (by unfold advE; rw [hse, show decide (5 ≤ qC st.opened wk n 2 st.opened.length) = true by simpa using h5]; rfl)
      have Hs : Hid (advS ns W st wk n = st) := qJ (by unfold advS; rw [qK He]; rfl)
      generalize qC st.opened wk n 2 st.opened.length = k at *
      clear hO hse hs0
      go_enter Tryz.func31, Tryz.ntmps31
      go_wp2_with (first | (go_at_call 57; refine (qK Hsrc).mono ?_; rintro e w' ⟨rfl, rfl⟩) | (go_at_call 58; refine (qK Hdone).mono ?_; rintro e w' ⟨rfl, rfl⟩))
      go_ret
      exact ⟨qF (qK He).symm, by rw [qK Hs]; exact (qK HO).after_same⟩
    · have He : Hid (advE ns W st.opened wk n = 0) := qJ (by unfold advE; rw [hse, show decide (5 ≤ qC st.opened wk n 2 st.opened.length) = false by simpa using h5]; rfl)
      have Hs : Hid (advS ns W st wk n = advSt st wk n (qC st.opened wk n 2 st.opened.length)) := qJ (by unfold advS; rw [qK He]; rfl)
      generalize qC st.opened wk n 2 st.opened.length = k at *
      obtain ⟨wA, hwA⟩ : ∃ wA, (w.alloc (.cells #[.int .i64 n, .bool true, .int .i64 (k : Int), .int .i64 0, .int .i64 (-1), .int .i64 n, .bool true, .int .i64 ((k : Int) + 1), .int .i64 0, .int .i64 1] 67)).alloc (.cells #[.int .i64 wk, .slice (some ⟨w.heap.size, 0, none⟩) 2 2] 113) = wA := ⟨_, rfl⟩
      obtain ⟨hBA, hpA, hcA, hzA⟩ : Bw w wA ∧ wA.heap[w.heap.size]? = some (.cells #[.int .i64 n, .bool true, .int .i64 (k : Int), .int .i64 0, .int .i64 (-1), .int .i64 n, .bool true, .int .i64 ((k : Int) + 1), .int .i64 0, .int .i64 1] 67) ∧ wA.heap[w.heap.size + 1]? = some (.cells #[.int .i64 wk, .slice (some ⟨w.heap.size, 0, none⟩) 2 2] 113) ∧ wA.heap.size = w.heap.size + 2 := by
        rw [← hwA]
        exact ⟨(by repeat first|exact br _|assumption|apply bd|apply bn|apply ba|refine bt ?_ (by assumption)), (Below.heap_alloc _ _ _ (by simp)).trans (heap_alloc_new w _), qY _ _ (by simp), by simp⟩
      have hOA := hO.bw hBA
      obtain ⟨vs, hvl, hl1, hl2⟩ := hOA.log
      have r4 := qQ (o := 4) (u := x.l) hO.root rfl
      have rlt := (Array.getElem?_eq_some_iff.1 hO.root).1
      have HOA := qJ hOA
      have Hl1 := qJ hl1
      have Hl2 := qJ hl2
      have hPown : wA.ownsRow 0 67 5 (.slice (some ⟨w.heap.size, 0, none⟩) 2 2) 2 (qR [⟨n, true, k, 0, -1⟩, ⟨n, true, (k : Int) + 1, 0, 1⟩]) := ⟨rfl, .inr ⟨w.heap.size, 2, _, rfl, Nat.zero_le _, hpA, Nat.le_refl _, by unfold maxLen; omega, rfl, rfl⟩⟩
      have HPown := qJ hPown
      have hc0 := qQ (o := 0) hcA rfl
      have hc1 := qQ (o := 1) hcA rfl
      clear hO hse hs0 hl1 hl2 hOA hPown hpA hcA
      have hk5 : (k : Int) < 5 := by omega
      go_enter Tryz.func31, Tryz.ntmps31
      go_wp2_with (first | (go_at_call 57; refine (qK Hsrc).mono ?_; rintro e w' ⟨rfl, rfl⟩) | (go_at_call 58; refine (qK Hdone).mono ?_; rintro e w' ⟨rfl, rfl⟩) | (at_builtin; refine appL wA rfl _ _ _ 113 rfl _ 2 32 Tryz.infoChange Tryz.underlying79 rfl (by decide) 0 x.l st.log.length (jM st.log vs) rfl (qK Hl1).1 _ _ [.int .i64 wk, .slice (some ⟨_, 0, none⟩) 2 2] rfl rfl (xD hc0 hc1) (by simp [Value.oneCell']) (by omega) (by omega) (Nat.zero_le _) ?_; intro g' cap w2 ho2 hg2 hl2'; have hr2 := qW (qK Hl1).1 hg2 (qK HOA).root (.inl (by decide)); have q4 := qQ (o := 4) (u := x.l) hr2 rfl; have q4f := qZ (o := 4) hr2; have q4l := (Array.getElem?_eq_some_iff.1 hr2).1; have HO3 := qJ ((qK HOA).addLog (c := ⟨wk, [⟨n, true, k, 0, -1⟩, ⟨n, true, (k : Int) + 1, 0, 1⟩]⟩) hvl (qK Hl1) (qK Hl2) (qK HPown) ho2 hg2 hll); have q6 := qQ (o := 6) (u := x.o) hr2 rfl; have q6f := qZ (o := 6) hr2; clear hr2) | (at_builtin; refine appL _ rfl _ _ _ 152 rfl _ 3 24 Tryz.infoGivenR Tryz.underlying80 rfl (by decide) 0 x.o st.opened.length (qH st.opened) rfl ((qK HO3).bw ((Bw.refl _).alloc _)).opened.1 _ _ (Gv.cells ⟨n, wk, 2⟩) rfl rfl (gv_cells (qQ (qY _ _ (by simp)) rfl) (qQ (qY _ _ (by simp)) rfl) (qQ (qY _ _ (by simp)) rfl)) (gv_one _) (by omega) (by omega) (Nat.zero_le _) ?_; intro g2 cap2 w5 ho5 hg5 hl5; have hr5 := qW ((qK HO3).bw ((Bw.refl _).alloc _)).opened.1 hg5 ((qK HO3).bw ((Bw.refl _).alloc _)).root (.inl (by decide)); have p6 := qQ (o := 6) (u := x.o) hr5 rfl; have p6f := qZ (o := 6) hr5; have p6l := (Array.getElem?_eq_some_iff.1 hr5).1; have HO6 := qJ (((qK HO3).bw ((Bw.refl _).alloc _)).addOpened (y := ⟨n, wk, 2⟩) ho5 hg5 hlo); clear hr5))
      go_ret
      refine ⟨qF (qK He).symm, ?_⟩
      rw [qK Hs]
      have hz2 := hg2.size
      have hz5 := hg5.size
      simp at hz5
      have hS3 : ∀ b, ((S b ∨ (Value.slice (some ⟨w'.heap.size, 0, none⟩) 2 2).ownBlock = some b) ∨ b = g') → S b ∨ w'.heap.size ≤ b := by
        intro b hb
        rcases hb with (hb | hb) | rfl
        · exact .inl hb
        · simp [Value.ownBlock] at hb; exact .inr (by omega)
        · rcases hl2' with h | h
          · exact .inl ((qK Hl1).2 _ h)
          · exact .inr (by omega)
      refine ⟨_, _, qK HO6, ?_, ?_⟩
      · have k1 : Chg S w' wA := Chg.bw hBA
        have k2 := yX (k := 4) (base := 0) (v' := .slice (some ⟨g', 0, none⟩) (st.log.length + 1) cap) (qK Hl1) hg2 (qK HOA).sroot rfl
        have k4 := yX (k := 6) (base := 0) (v' := .slice (some ⟨g2, 0, none⟩) (st.opened.length + 1) cap2) ((qK HO3).bw ((Bw.refl _).alloc _)).opened hg5 (qK HO3).sroot rfl
        exact ((k1.trans k2 fun _ h => .inl h).trans (Chg.bw (S := S) ((Bw.refl _).alloc _)) fun _ h => .inl h).trans k4 hS3
      · intro b hb
        rcases hb with hb | rfl
        · exact hS3 b hb
        · rcases hl5 with h | h
          · exact hS3 _ (((qK HO3).opened).2 _ h)
          · simp at h; exact .inr (by omega)
end Go.Proofs.YtfemleimkbjehaaGreat
