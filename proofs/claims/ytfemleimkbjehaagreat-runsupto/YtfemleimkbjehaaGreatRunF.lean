import Derived.Test.YtfemleimkbjehaaGreatJ7
set_option maxRecDepth 1000000
set_option maxHeartbeats 40000000
set_option linter.unusedVariables false
set_option linter.unusedSimpArgs false
namespace Go.Proofs.YtfemleimkbjehaaGreat
open Go.RowKit
theorem rupto_any (a b c d : Int) (w : World) : Calls Tryz.prog 69 #[.agg #[.int .i64 a, .int .i64 b], .agg #[.int .i64 c, .int .i64 d]] w fun e w' => e = .returned (.bool (decide (a ≤ c) && decide (b ≤ d))) ∧ Bw w w' := by
  cases h1 : decide (a ≤ c) with
  | false =>
    go_enter Tryz.func69, Tryz.ntmps69
    go_wp2_with fail
    go_ret
    exact ⟨rfl, (by repeat first|exact br _|assumption|apply bd|apply bn|apply ba|refine bt ?_ (by assumption))⟩
  | true =>
    go_enter Tryz.func69, Tryz.ntmps69
    go_wp2_with fail
    go_ret
    exact ⟨ret_bool (by simp), (by repeat first|exact br _|assumption|apply bd|apply bn|apply ba|refine bt ?_ (by assumption))⟩
def IntTab (w : World) (g M : Nat) (t : Nat → Int) : Prop := ∃ arr : Array Value, w.heap[g]? = some (.cells arr 3 (0, 0)) ∧ arr.size = M ∧ ∀ k, k < M → arr[k]? = some (.int .i64 (t k))
def updT (t : Nat → Int) (k : Nat) (v : Int) : Nat → Int := fun j => if j = k then v else t j
theorem xW (t : Nat → Int) (k : Nat) (v : Int) : updT t k v k = v := by simp [updT]
theorem updT_ne (t : Nat → Int) {j k : Nat} (v : Int) (h : j ≠ k) : updT t k v j = t j := by simp [updT, h]
theorem IntTab.bw {a b : World} {g M : Nat} {t : Nat → Int} (h : IntTab a g M t) (hb : Bw a b) : IntTab b g M t := by
  obtain ⟨arr, h1, h2⟩ := h
  exact ⟨arr, (Below.block hb g (Array.getElem?_eq_some_iff.1 h1).1).trans h1, h2⟩
theorem IntTab.lt {w : World} {g M : Nat} {t : Nat → Int} (h : IntTab w g M t) : g < w.heap.size := by obtain ⟨arr, h1, _⟩ := h; exact (Array.getElem?_eq_some_iff.1 h1).1
theorem IntTab.cell {w : World} {g M : Nat} {t : Nat → Int} (h : IntTab w g M t) {k : Nat} (hk : k < M) : w.cell? ⟨g, k, none⟩ = some (.int .i64 (t k)) := by obtain ⟨arr, h1, _, h3⟩ := h; exact qQ h1 (h3 k hk)
theorem IntTab.fr {w : World} {g M : Nat} {t : Nat → Int} (h : IntTab w g M t) (k : Nat) : w.frozen? ⟨g, k, none⟩ = false := by obtain ⟨arr, h1, _⟩ := h; exact qZ h1
theorem IntTab.set {w : World} {g M : Nat} {t : Nat → Int} (h : IntTab w g M t) {k : Nat} {v : Int} : IntTab (w.setCell ⟨g, k, none⟩ (.int .i64 v)) g M (updT t k v) := by
  obtain ⟨arr, h1, h2, h3⟩ := h
  refine ⟨arr.setIfInBounds k (.int .i64 v), ?_, by simpa using h2, fun i hi => ?_⟩
  · rw [setCell_eq_setRow w g k arr 3 (0, 0) _ h1]
    exact setRow_heap w g arr _ _ _ h1
  · by_cases e : i = k
    · subst e; rw [Array.getElem?_setIfInBounds_self_of_lt (by omega), xW]
    · rw [Array.getElem?_setIfInBounds_ne (by omega), updT_ne _ _ e]; exact h3 i hi
theorem IntTab.setOther {w : World} {g g' M k : Nat} {t : Nat → Int} {u : Value} (h : IntTab w g M t) (hg : g ≠ g') : IntTab (w.setCell ⟨g', k, none⟩ u) g M t := by
  obtain ⟨arr, h1, h2⟩ := h
  exact ⟨arr, (Below.heap_setCell w ⟨g', k, none⟩ u g hg).trans h1, h2⟩
theorem intTab_made {w : World} {g M : Nat} (hg : g = w.heap.size) : IntTab (w.alloc (.cells (madeCells #[.int .i64 0] M) 3)) g M (fun _ => 0) := by
  subst hg
  refine ⟨_, heap_alloc_new w _, by simp [size_madeCells], fun j hj => ?_⟩
  rw [← Array.getElem?_toList, toList_madeCells_one]
  simp [hj]
theorem make_ints (X : Int) (n : Nat) (hX : X = n) (hn : n ≤ 100000) : ∀ w : World, (Instr.makeSlice 94 (.int .i64 X) (.int .i64 X)).run Tryz.prog w = .ok (.slice (some ⟨w.heap.size, 0, none⟩) n n) (w.alloc (.cells (madeCells #[.int .i64 0] n) 3)) := by
  subst hX
  intro w
  obtain ⟨i0, hi, hz0, hz1, hz2⟩ := info_parts Tryz.infoInt
  have hmk := run_make (P := Tryz.prog) w 94 3 i0 _ Tryz.underlying94 hi hz0 .i64 .i64 (n : Int) (n : Int) (by omega) (by omega) (by rw [hz2]; omega) (by omega)
  rw [Int.toNat_natCast, hz1, Nat.mul_one] at hmk
  exact hmk
def zX (ns : List Nd) (R W : Nat) : Nat → (Nat → Int)
  | 0 => fun _ => 0
  | n + 1 => if (qT ns n).kind == 0 then updT (zX ns R W n) (kN R n 0 0 true) W else zX ns R W n
def spP (R : Nat) (p : Pt) : Nat := kN R p.node.toNat p.epoch.toNat p.round.toNat p.out
def kU (R : Nat) (t : Nat → Int) (ps : List Pt) : Nat → (Nat → Int)
  | 0 => t
  | j + 1 => updT (kU R t ps j) (spP R (jN ps j)) (wrap64 (kU R t ps j (spP R (jN ps j)) + (jN ps j).count))
def jT (cs : List Cg) : Nat → (Nat → Int)
  | 0 => fun _ => 0
  | i + 1 => updT (jT cs i) (jF cs i).worker.toNat (jT cs i (jF cs i).worker.toNat + 1)
def lateB (cs : List Cg) (told : Nat → Nat → Int) (w i : Nat) : Bool := ((jF cs i).worker != (w : Int)) && decide (told w (jF cs i).worker.toNat < jT cs (i + 1) (jF cs i).worker.toNat)
def qD (ns : List Nd) (R W : Nat) (cs : List Cg) (told : Nat → Nat → Int) (w : Nat) : Nat → (Nat → Int)
  | 0 => zX ns R W ns.length
  | i + 1 => if lateB cs told w i then qD ns R W cs told w i else kU R (qD ns R W cs told w i) (jF cs i).pts (jF cs i).pts.length
def PtOk (L R : Nat) (p : Pt) : Prop := ∃ n e s : Nat, p.node = n ∧ n < L ∧ p.epoch = e ∧ e < 6 ∧ p.round = s ∧ s < R
def CgOk (L R W : Nat) (c : Cg) : Prop := (∃ k : Nat, c.worker = k ∧ k < W) ∧ ∀ j, j < c.pts.length → PtOk L R (jN c.pts j)
theorem seenT_bd (cs : List Cg) (k i : Nat) : 0 ≤ jT cs i k ∧ jT cs i k ≤ i := by
  induction i with
  | zero => simp [jT]
  | succ i ih =>
    unfold jT
    by_cases e : k = (jF cs i).worker.toNat
    · subst e; rw [xW]; omega
    · rw [updT_ne _ _ e]; omega
theorem rtable_any {rb : Nat} {x : RV} {ns : List Nd} {R W : Nat} {D : Nat → Nat → Int} {st : RSt} (wk : Nat) (w : World) (hR : RRead w rb x ns R W D st) (hw : wk < W) (hL : 1 ≤ ns.length) (hok : ∀ i, i < st.log.length → CgOk ns.length R W (jF st.log i) ∧ (jF st.log i).pts.length ≤ 100000000) :
    Calls Tryz.prog 65 #[.pointer (some ⟨rb, 0, none⟩), .int .i64 (wk : Int)] w fun e w' => ∃ g, e = .returned (.slice (some ⟨g, 0, none⟩) (2 * ns.length * 6 * R) (2 * ns.length * 6 * R)) ∧ w.heap.size ≤ g ∧ IntTab w' g (2 * ns.length * 6 * R) (qD ns R W st.log st.told wk st.log.length) ∧ Bw w w' := by
  have HR := qJ hR
  have hsm := hR.small
  have hfew := hR.few.2.2.1
  have c0 := hR.c0
  have c1 := hR.c1
  have hlt0 := hR.lt
  obtain ⟨M, hM⟩ : ∃ M, 2 * ns.length * 6 * R = M := ⟨_, rfl⟩
  have hM1 : M ≤ 1000 := by
    rw [← hM]
    calc 2 * ns.length * 6 * R ≤ (2 * 8 * 6) * 4 := Nat.mul_le_mul (by omega) hsm.2.1
      _ ≤ 1000 := by omega
  have hMi : wrap64 (2 * (ns.length : Int) * 6 * (R : Int)) = (M : Int) := by
    have : 2 * (ns.length : Int) * 6 * (R : Int) = (M : Int) := by rw [← hM]; simp
    rw [this]; unfold wrap64; omega
  have hmk := make_ints (M : Int) M rfl (by omega)
  have hmk2 := make_ints (W : Int) W rfl (by omega)
  rw [hM]
  go_enter Tryz.func65, Tryz.ntmps65
  go_wp2_with fail
  go_region
  all_goals go_wp2_with fail
  obtain ⟨w1, hw1⟩ : ∃ w1, (w.alloc (.cells (madeCells #[.int .i64 0] M) 3)).drew = w1 := ⟨_, rfl⟩
  rw [hw1, hMi]
  clear hMi hmk
  obtain ⟨hT1, hB1⟩ : IntTab w1 w.heap.size M (fun _ => 0) ∧ Bw w w1 := by
    rw [← hw1]; exact ⟨(intTab_made rfl).bw (by repeat first|exact br _|assumption|apply bd|apply bn|apply ba|refine bt ?_ (by assumption)), (by repeat first|exact br _|assumption|apply bd|apply bn|apply ba|refine bt ?_ (by assumption))⟩
  clear hw1 c0 c1 hlt0
  go_loopw [6] (fun i wr => ∃ n : Nat, n ≤ ns.length ∧ i = .int .i64 n ∧ IntTab wr w.heap.size M (zX ns R W n) ∧ Bw w wr) (fun i _ => ns.length - (intOf i).toNat)
  case atStart => exact ⟨0, Nat.zero_le _, rfl, hT1, hB1⟩
  case round =>
    clear hT1 hB1
    obtain ⟨n, hnL, rfl, hT, hB⟩ := hrel
    rename World => w2
    have hR2 := (qK HR).below hB
    have c0 := hR2.c0
    have c2 := hR2.c2
    have c4 := hR2.c4
    have hlt0 := hR2.lt
    have hnd := hR2.nodes
    by_cases hlt : n < ns.length
    · obtain ⟨b, off, e, hb, hc⟩ := hnd n hlt
      have d0 := (hc n hlt).1
      rw [e] at c0
      clear hc hnd c4 e
      cases k0 : ((qT ns n).kind == 0) with
      | false =>
        have Hs : Hid (zX ns R W (n + 1) = zX ns R W n) := qJ (by rw [zX, k0]; rfl)
        go_wp2_with fail
        go_roundw
        case rel => exact ⟨n + 1, by omega, by go_num, by rw [qK Hs]; exact hT, hB⟩
        case measure => simp [intOf]; omega
      | true =>
        have Hs : Hid (zX ns R W (n + 1) = updT (zX ns R W n) (kN R n 0 0 true) W) := qJ (by rw [zX, k0]; rfl)
        have hsp : kN R n 0 0 true < M := by rw [← hM]; exact spotN_lt hlt (by omega) (by omega)
        have Hspot := qJ (fun w' h => rspot_any (rb := rb) (x := x) (D := D) (st := st) (ns := ns) (R := R) (W := W) n 0 0 true 0 w' h hlt (by omega) (by omega))
        generalize kN R n 0 0 true = sp at *
        have Hc := qJ (hT.cell hsp)
        have hcT := hT.cell hsp
        have hfT := hT.fr sp
        have hgT := hT.lt
        go_wp2_with fail
        go_region_law (go_simp; go_at_call 66; refine ((qK Hspot) _ (hR2.below (by repeat first|exact br _|assumption|apply bd|apply bn|apply ba|refine bt ?_ (by assumption)))).mono ?_; rintro e w3 ⟨rfl, hB3⟩; have c2' : w3.cell? ⟨rb, 2, none⟩ = some (.int .i64 (W : Int)) := (hR2.below (show Bw w2 w3 from (by repeat first|exact br _|assumption|apply bd|apply bn|apply ba|refine bt ?_ (by assumption)))).c2; have hcT' : w3.cell? ⟨w.heap.size, sp, none⟩ = some (.int .i64 (zX ns R W n sp)) := (hT.bw (show Bw w2 w3 from (by repeat first|exact br _|assumption|apply bd|apply bn|apply ba|refine bt ?_ (by assumption)))).cell hsp; have hfT' := (hT.bw (show Bw w2 w3 from (by repeat first|exact br _|assumption|apply bd|apply bn|apply ba|refine bt ?_ (by assumption)))).fr sp; have hgT' := (hT.bw (show Bw w2 w3 from (by repeat first|exact br _|assumption|apply bd|apply bn|apply ba|refine bt ?_ (by assumption)))).lt)
        all_goals go_wp2_with fail
        all_goals go_roundw
        all_goals first | exact ⟨n + 1, by omega, by go_num, by rw [qK Hs]; exact (hT.bw (by repeat first|exact br _|assumption|apply bd|apply bn|apply ba|refine bt ?_ (by assumption))).set, Bw.setCell (by repeat first|exact br _|assumption|apply bd|apply bn|apply ba|refine bt ?_ (by assumption)) (Nat.le_refl _) _⟩ | (simp [intOf]; omega)
    · have hnn : n = ns.length := by omega
      subst hnn
      clear hnd
      go_wp2_with fail
      obtain ⟨w3, hw3⟩ : ∃ w3, w2.alloc (.cells (madeCells #[.int .i64 0] W) 3) = w3 := ⟨_, rfl⟩
      rw [hw3]
      obtain ⟨hS3, hB23⟩ : IntTab w3 w2.heap.size W (fun _ => 0) ∧ Bw w2 w3 := by
        rw [← hw3]; exact ⟨intTab_made rfl, (by repeat first|exact br _|assumption|apply bd|apply bn|apply ba|refine bt ?_ (by assumption))⟩
      have hT3 := hT.bw hB23
      have hB3 : Bw w w3 := hB.trans hB23
      have hg2 : w.heap.size < w2.heap.size := hT.lt
      clear hw3 c0 c2 c4 hlt0 hmk2
      go_loopw [8] (fun i wr => ∃ n : Nat, n ≤ st.log.length ∧ i = .int .i64 n ∧ IntTab wr w.heap.size M (qD ns R W st.log st.told wk n) ∧ IntTab wr w2.heap.size W (jT st.log n) ∧ Bw w wr) (fun i _ => st.log.length - (intOf i).toNat)
      case atStart => exact ⟨0, Nat.zero_le _, rfl, hT3, hS3, hB3⟩
      case round =>
        clear hT3 hS3 hB3 hB23
        obtain ⟨i, hiL, rfl, hT4, hS4, hB4⟩ := hrel
        rename World => w4
        have hR4 := (qK HR).below hB4
        have c4 := hR4.c4
        have c7 := hR4.c7
        have hlt0 := hR4.lt
        by_cases hli : i < st.log.length
        · obtain ⟨b, off, e, hb', hc⟩ := (qK HR).log i hli
          obtain ⟨d0', pa, pc, d1', hpts⟩ := hc i hli
          have d0 := ((qS hB4).1 _ _ hb').trans d0'
          have d1 := ((qS hB4).1 _ _ hb').trans d1'
          have hb : b < w4.heap.size := Nat.lt_of_lt_of_le hb' hB4.size
          rw [e] at c4
          clear hc e d0' d1' hb'
          have Hpts := qJ hpts
          clear hpts
          obtain ⟨⟨⟨wi, ewi, hwi⟩, hpok⟩, hplen⟩ := hok i hli
          rw [ewi] at d0
          have hse := seenT_bd st.log wi i
          have Hseen : Hid (jT st.log (i + 1) = updT (jT st.log i) wi (jT st.log i wi + 1)) := qJ (by rw [jT, ewi, Int.toNat_natCast])
          have hsn := hS4.cell hwi
          have hsf := hS4.fr wi
          have hsl := hS4.lt
          obtain ⟨tb, toff, te, htb, tpb, tpo, tpc, td0, htpb, tdc⟩ := hR4.told wk hw
          have td1 := tdc wi hwi
          rw [te] at c7
          clear tdc te
          have hj1 : (wi : Int) < (W : Int) := by omega
          have hj2 : (wk : Int) < (W : Int) := by omega
          have hj3 : (i : Int) < (st.log.length : Int) := by omega
          have Hlate : Hid (lateB st.log st.told wk i = (((wi : Int) != (wk : Int)) && decide (st.told wk wi < jT st.log i wi + 1))) := qJ (by unfold lateB; rw [qK Hseen, ewi, Int.toNat_natCast, xW])
          go_wp2_with fail
          obtain ⟨w5, hw5⟩ : ∃ w5, ((w4.setCell ⟨w2.heap.size, wi, none⟩ (.int .i64 (jT st.log i wi + 1))).alloc (.cells #[.int .i64 (wi : Int), .slice pa (jF st.log i).pts.length pc] 113)) = w5 := ⟨_, rfl⟩
          rw [hw5]
          obtain ⟨hT5, hS5, hB5, hn5⟩ : IntTab w5 w.heap.size M (qD ns R W st.log st.told wk i) ∧ IntTab w5 w2.heap.size W (jT st.log (i + 1)) ∧ Bw w w5 ∧ w5.heap[w4.heap.size]? = some (.cells #[.int .i64 (wi : Int), .slice pa (jF st.log i).pts.length pc] 113 (0, 0)) := by
            rw [← hw5]
            have hTa : IntTab (w4.setCell ⟨w2.heap.size, wi, none⟩ (.int .i64 (jT st.log i wi + 1))) w.heap.size M (qD ns R W st.log st.told wk i) := hT4.setOther (by omega)
            have hSa : IntTab (w4.setCell ⟨w2.heap.size, wi, none⟩ (.int .i64 (jT st.log i wi + 1))) w2.heap.size W (updT (jT st.log i) wi (jT st.log i wi + 1)) := hS4.set
            have hBa : Bw w (w4.setCell ⟨w2.heap.size, wi, none⟩ (.int .i64 (jT st.log i wi + 1))) := Bw.setCell hB4 (by simp only; omega) _
            rw [qK Hseen]
            exact ⟨hTa.bw (by repeat first|exact br _|assumption|apply bd|apply bn|apply ba|refine bt ?_ (by assumption)), hSa.bw (by repeat first|exact br _|assumption|apply bd|apply bn|apply ba|refine bt ?_ (by assumption)), hBa.alloc _, qY _ _ (by simp)⟩
          have hT5' := hT5
          have hg4 : w.heap.size < w4.heap.size := hT4.lt
          clear hT4 hS4 hsn hsf hsl d0 d1 td0 td1 c4 c7 hlt0 hb htb htpb hw5
          have hR5 := (qK HR).below hB5
          have c7 := hR5.c7
          have hlt0 := hR5.lt
          obtain ⟨tb, toff, te, htb, tpb, tpo, tpc, td0, htpb, tdc⟩ := hR5.told wk hw
          have td1 := tdc wi hwi
          rw [te] at c7
          clear tdc te
          have n0 := qQ (o := 0) hn5 rfl
          have n1 := qQ (o := 1) hn5 rfl
          have gn := (Array.getElem?_eq_some_iff.1 hn5).1
          have hsn : w5.cell? ⟨w2.heap.size, wi, none⟩ = some (.int .i64 (jT st.log i wi + 1)) := by
            have := hS5.cell hwi
            rw [qK Hseen, xW] at this
            exact this
          have hsl := hS5.lt
          cases hne : ((wi : Int) != (wk : Int)) with
          | true =>
            by_cases htl : st.told wk wi < jT st.log i wi + 1
            · have hd1 : decide (st.told wk wi < jT st.log i wi + 1) = true := by simpa using htl
              have Hs : Hid (qD ns R W st.log st.told wk (i + 1) = qD ns R W st.log st.told wk i) := qJ (by rw [qD, qK Hlate, hne, hd1]; rfl)
              generalize jT st.log i wi = sv at *
              go_quiet (fail)
              go_wp2_with fail
              go_roundw
              case rel => exact ⟨i + 1, by omega, by go_num, by rw [qK Hs]; exact hT5.bw (by repeat first|exact br _|assumption|apply bd|apply bn|apply ba|refine bt ?_ (by assumption)), hS5.bw (by repeat first|exact br _|assumption|apply bd|apply bn|apply ba|refine bt ?_ (by assumption)), (by repeat first|exact br _|assumption|apply bd|apply bn|apply ba|refine bt ?_ (by assumption))⟩
              case measure => simp [intOf]; omega
            · have hd1 : decide (st.told wk wi < jT st.log i wi + 1) = false := by simpa using htl
              have Hs : Hid (qD ns R W st.log st.told wk (i + 1) = kU R (qD ns R W st.log st.told wk i) (jF st.log i).pts (jF st.log i).pts.length) := qJ (by rw [qD, qK Hlate, hne, hd1]; rfl)
              generalize jT st.log i wi = sv at *
              go_quiet (fail)
              go_wp2_with fail
              go_loopw [10] (fun v wr => ∃ j : Nat, j ≤ (jF st.log i).pts.length ∧ v = .int .i64 j ∧ IntTab wr w.heap.size M (kU R (qD ns R W st.log st.told wk i) (jF st.log i).pts j) ∧ IntTab wr w2.heap.size W (jT st.log (i + 1)) ∧ wr.heap[w4.heap.size]? = some (.cells #[.int .i64 (wi : Int), .slice pa (jF st.log i).pts.length pc] 113 (0, 0)) ∧ Bw w wr) (fun v _ => (jF st.log i).pts.length - (intOf v).toNat)
              case atStart => exact ⟨0, Nat.zero_le _, rfl, hT5.bw (by repeat first|exact br _|assumption|apply bd|apply bn|apply ba|refine bt ?_ (by assumption)), hS5.bw (by repeat first|exact br _|assumption|apply bd|apply bn|apply ba|refine bt ?_ (by assumption)), (Below.block (show Bw w5 _ from (by repeat first|exact br _|assumption|apply bd|apply bn|apply ba|refine bt ?_ (by assumption))) _ gn).trans hn5, (by repeat first|exact br _|assumption|apply bd|apply bn|apply ba|refine bt ?_ (by assumption))⟩
              case round =>
                obtain ⟨j, hjl, rfl, hT6, hS6, hn6, hB6⟩ := hrel
                rename World => w6
                clear hT5 hS5 hn5 hB5 hR5 c7 hlt0 htb htpb td0 td1 n0 n1 gn hsn hsl hT5'
                have n1 := qQ (o := 1) hn6 rfl
                have gn := (Array.getElem?_eq_some_iff.1 hn6).1
                by_cases hlj : j < (jF st.log i).pts.length
                · obtain ⟨pb, poff, pe, hpb, hpc⟩ := ((qK Hpts).below hB6) j hlj
                  obtain ⟨p0, p1, p2, p3, p4⟩ := hpc j hlj
                  obtain ⟨pn, pep, pr, en, hpn, ee, hpe, er, hpr⟩ := hpok j hlj
                  rw [en] at p0
                  rw [ee] at p2
                  rw [er] at p3
                  rw [pe] at n1
                  clear hpc pe
                  have hR6 := (qK HR).below hB6
                  have hlt0 := hR6.lt
                  have hsp : kN R pn pep pr (jN (jF st.log i).pts j).out < M := by rw [← hM]; exact spotN_lt hpn hpe hpr
                  have Hstep : Hid (kU R (qD ns R W st.log st.told wk i) (jF st.log i).pts (j + 1) = updT (kU R (qD ns R W st.log st.told wk i) (jF st.log i).pts j) (kN R pn pep pr (jN (jF st.log i).pts j).out) (wrap64 (kU R (qD ns R W st.log st.told wk i) (jF st.log i).pts j (kN R pn pep pr (jN (jF st.log i).pts j).out) + (jN (jF st.log i).pts j).count))) := qJ (by rw [kU]; unfold spP; rw [en, ee, er]; simp)
                  have Hspot := qJ (fun w' h => rspot_any (rb := rb) (x := x) (D := D) (st := st) (ns := ns) (R := R) (W := W) pn pep pr (jN (jF st.log i).pts j).out (jN (jF st.log i).pts j).count w' h hpn hpe hpr)
                  clear en ee er
                  generalize jN (jF st.log i).pts j = p at *
                  generalize kN R pn pep pr p.out = sp at *
                  generalize kU R (qD ns R W st.log st.told wk i) (jF st.log i).pts j = tj at *
                  have hjj : (j : Int) < ((jF st.log i).pts.length : Int) := by omega
                  have hjM : (sp : Int) < (M : Int) := by omega
                  go_wp2_with fail
                  refine ((qK Hspot) _ hR6).mono ?_
                  rintro en w7 ⟨rfl, hB7⟩
                  obtain ⟨q7, _⟩ := qS hB7
                  have hT7 := hT6.bw hB7
                  have t0 := hT7.cell hsp
                  have t1 := hT7.fr sp
                  have t2 := hT7.lt
                  have m1 := (q7 _ _ gn).trans n1
                  have m4 := (q7 _ _ hpb).trans p4
                  have gn7 : w4.heap.size < w7.heap.size := Nat.lt_of_lt_of_le gn hB7.size
                  have gp7 : pb < w7.heap.size := Nat.lt_of_lt_of_le hpb hB7.size
                  clear q7 n1 p0 p1 p2 p3 p4
                  have hTn : IntTab (w7.setCell ⟨w.heap.size, sp, none⟩ (.int .i64 (wrap64 (tj sp + p.count)))) w.heap.size M (updT tj sp (wrap64 (tj sp + p.count))) := hT7.set
                  have hSn : IntTab (w7.setCell ⟨w.heap.size, sp, none⟩ (.int .i64 (wrap64 (tj sp + p.count)))) w2.heap.size W (jT st.log (i + 1)) := (hS6.bw hB7).setOther (by omega)
                  have hnn7 : (w7.setCell ⟨w.heap.size, sp, none⟩ (.int .i64 (wrap64 (tj sp + p.count)))).heap[w4.heap.size]? = some (.cells #[.int .i64 (wi : Int), .slice pa (jF st.log i).pts.length pc] 113 (0, 0)) := (Below.heap_setCell _ ⟨w.heap.size, sp, none⟩ _ _ (show w4.heap.size ≠ w.heap.size by omega)).trans ((Below.block hB7 _ gn).trans hn6)
                  have hBn : Bw w (w7.setCell ⟨w.heap.size, sp, none⟩ (.int .i64 (wrap64 (tj sp + p.count)))) := Bw.setCell (hB6.trans hB7) (Nat.le_refl _) _
                  have HTn := qJ hTn
                  have HSn := qJ hSn
                  have Hnn7 := qJ hnn7
                  have HBn := qJ hBn
                  clear hTn hSn hnn7 hBn
                  go_wp2_with fail
                  go_region
                  all_goals go_wp2_with fail
                  all_goals go_roundw
                  all_goals first | (simp [intOf]; omega) | exact ⟨j + 1, by omega, by go_num, by rw [qK Hstep]; exact (qK HTn).bw ((Bw.refl _).drew), (qK HSn).bw ((Bw.refl _).drew), qK Hnn7, (qK HBn).drew⟩
                · have hjj : j = (jF st.log i).pts.length := by omega
                  subst hjj
                  go_wp2_with fail
                  go_roundw
                  case rel => exact ⟨i + 1, by omega, by go_num, by rw [qK Hs]; exact hT6, hS6, hB6⟩
                  case measure => simp [intOf]; omega
          | false =>
            have Hs : Hid (qD ns R W st.log st.told wk (i + 1) = kU R (qD ns R W st.log st.told wk i) (jF st.log i).pts (jF st.log i).pts.length) := qJ (by rw [qD, qK Hlate, hne]; rfl)
            generalize jT st.log i wi = sv at *
            go_quiet (fail)
            go_wp2_with fail
            go_loopw [10] (fun v wr => ∃ j : Nat, j ≤ (jF st.log i).pts.length ∧ v = .int .i64 j ∧ IntTab wr w.heap.size M (kU R (qD ns R W st.log st.told wk i) (jF st.log i).pts j) ∧ IntTab wr w2.heap.size W (jT st.log (i + 1)) ∧ wr.heap[w4.heap.size]? = some (.cells #[.int .i64 (wi : Int), .slice pa (jF st.log i).pts.length pc] 113 (0, 0)) ∧ Bw w wr) (fun v _ => (jF st.log i).pts.length - (intOf v).toNat)
            case atStart => exact ⟨0, Nat.zero_le _, rfl, hT5.bw (by repeat first|exact br _|assumption|apply bd|apply bn|apply ba|refine bt ?_ (by assumption)), hS5.bw (by repeat first|exact br _|assumption|apply bd|apply bn|apply ba|refine bt ?_ (by assumption)), (Below.block (show Bw w5 _ from (by repeat first|exact br _|assumption|apply bd|apply bn|apply ba|refine bt ?_ (by assumption))) _ gn).trans hn5, (by repeat first|exact br _|assumption|apply bd|apply bn|apply ba|refine bt ?_ (by assumption))⟩
            case round =>
              obtain ⟨j, hjl, rfl, hT6, hS6, hn6, hB6⟩ := hrel
              rename World => w6
              clear hT5 hS5 hn5 hB5 hR5 c7 hlt0 htb htpb td0 td1 n0 n1 gn hsn hsl hT5'
              have n1 := qQ (o := 1) hn6 rfl
              have gn := (Array.getElem?_eq_some_iff.1 hn6).1
              by_cases hlj : j < (jF st.log i).pts.length
              · obtain ⟨pb, poff, pe, hpb, hpc⟩ := ((qK Hpts).below hB6) j hlj
                obtain ⟨p0, p1, p2, p3, p4⟩ := hpc j hlj
                obtain ⟨pn, pep, pr, en, hpn, ee, hpe, er, hpr⟩ := hpok j hlj
                rw [en] at p0
                rw [ee] at p2
                rw [er] at p3
                rw [pe] at n1
                clear hpc pe
                have hR6 := (qK HR).below hB6
                have hlt0 := hR6.lt
                have hsp : kN R pn pep pr (jN (jF st.log i).pts j).out < M := by rw [← hM]; exact spotN_lt hpn hpe hpr
                have Hstep : Hid (kU R (qD ns R W st.log st.told wk i) (jF st.log i).pts (j + 1) = updT (kU R (qD ns R W st.log st.told wk i) (jF st.log i).pts j) (kN R pn pep pr (jN (jF st.log i).pts j).out) (wrap64 (kU R (qD ns R W st.log st.told wk i) (jF st.log i).pts j (kN R pn pep pr (jN (jF st.log i).pts j).out) + (jN (jF st.log i).pts j).count))) := qJ (by rw [kU]; unfold spP; rw [en, ee, er]; simp)
                have Hspot := qJ (fun w' h => rspot_any (rb := rb) (x := x) (D := D) (st := st) (ns := ns) (R := R) (W := W) pn pep pr (jN (jF st.log i).pts j).out (jN (jF st.log i).pts j).count w' h hpn hpe hpr)
                clear en ee er
                generalize jN (jF st.log i).pts j = p at *
                generalize kN R pn pep pr p.out = sp at *
                generalize kU R (qD ns R W st.log st.told wk i) (jF st.log i).pts j = tj at *
                have hjj : (j : Int) < ((jF st.log i).pts.length : Int) := by omega
                have hjM : (sp : Int) < (M : Int) := by omega
                go_wp2_with fail
                refine ((qK Hspot) _ hR6).mono ?_
                rintro en w7 ⟨rfl, hB7⟩
                obtain ⟨q7, _⟩ := qS hB7
                have hT7 := hT6.bw hB7
                have t0 := hT7.cell hsp
                have t1 := hT7.fr sp
                have t2 := hT7.lt
                have m1 := (q7 _ _ gn).trans n1
                have m4 := (q7 _ _ hpb).trans p4
                have gn7 : w4.heap.size < w7.heap.size := Nat.lt_of_lt_of_le gn hB7.size
                have gp7 : pb < w7.heap.size := Nat.lt_of_lt_of_le hpb hB7.size
                clear q7 n1 p0 p1 p2 p3 p4
                have hTn : IntTab (w7.setCell ⟨w.heap.size, sp, none⟩ (.int .i64 (wrap64 (tj sp + p.count)))) w.heap.size M (updT tj sp (wrap64 (tj sp + p.count))) := hT7.set
                have hSn : IntTab (w7.setCell ⟨w.heap.size, sp, none⟩ (.int .i64 (wrap64 (tj sp + p.count)))) w2.heap.size W (jT st.log (i + 1)) := (hS6.bw hB7).setOther (by omega)
                have hnn7 : (w7.setCell ⟨w.heap.size, sp, none⟩ (.int .i64 (wrap64 (tj sp + p.count)))).heap[w4.heap.size]? = some (.cells #[.int .i64 (wi : Int), .slice pa (jF st.log i).pts.length pc] 113 (0, 0)) := (Below.heap_setCell _ ⟨w.heap.size, sp, none⟩ _ _ (show w4.heap.size ≠ w.heap.size by omega)).trans ((Below.block hB7 _ gn).trans hn6)
                have hBn : Bw w (w7.setCell ⟨w.heap.size, sp, none⟩ (.int .i64 (wrap64 (tj sp + p.count)))) := Bw.setCell (hB6.trans hB7) (Nat.le_refl _) _
                have HTn := qJ hTn
                have HSn := qJ hSn
                have Hnn7 := qJ hnn7
                have HBn := qJ hBn
                clear hTn hSn hnn7 hBn
                go_wp2_with fail
                go_region
                all_goals go_wp2_with fail
                all_goals go_roundw
                all_goals first | (simp [intOf]; omega) | exact ⟨j + 1, by omega, by go_num, by rw [qK Hstep]; exact (qK HTn).bw ((Bw.refl _).drew), (qK HSn).bw ((Bw.refl _).drew), qK Hnn7, (qK HBn).drew⟩
              · have hjj : j = (jF st.log i).pts.length := by omega
                subst hjj
                go_wp2_with fail
                go_roundw
                case rel => exact ⟨i + 1, by omega, by go_num, by rw [qK Hs]; exact hT6, hS6, hB6⟩
                case measure => simp [intOf]; omega
        · have hii : i = st.log.length := by omega
          subst hii
          go_wp2_with fail
          go_ret
          exact ⟨_, rfl, Nat.le_refl _, hT4, hB4⟩
end Go.Proofs.YtfemleimkbjehaaGreat
