import Derived.Test.YtfemleimkbjehaaGreatJ25
set_option maxRecDepth 1000000
set_option maxHeartbeats 40000000
set_option linter.unusedVariables false
set_option linter.unusedSimpArgs false
namespace Go.Proofs.YtfemleimkbjehaaGreat
open Go.RowKit
def vB (f : Nat → List Gv) : Nat → Nat
  | 0 => 0
  | n + 1 => vB f n + (f n).length
theorem cwTo_le {f : Nat → List Gv} {B : Nat} (h : ∀ n, (f n).length ≤ B) (k : Nat) : vB f k ≤ k * B := by
  induction k with
  | zero => simp [vB]
  | succ k ih => unfold vB; have := h k; rw [Nat.add_mul]; omega
theorem pcount_any {S : Nat → Prop} {pb : Nat} {x : PX} {ns : List Nd} {R W : Nat} {D : Nat → Nat → Int} {st : PSt} (i : Nat) (w : World) (hO : POwn w S pb x ns R W D st) (hi : i < W) :
    Calls Tryz.prog 71 #[.pointer (some ⟨pb, 0, none⟩), .int .i64 (i : Int)] w fun en w' => en = .returned (.int .i64 (vB (st.wt i) ns.length : Nat)) ∧ w' = w := by
  have h8 := hO.small
  obtain ⟨na, nc, hvn, hnd⟩ := hO.ns
  have c0 := qQ (o := 0) hO.root (hvn ▸ hO.r0)
  have c3 := qQ (o := 3) hO.root hO.r3
  have lt0 := hO.slt _ hO.sroot
  have lt1 := hO.slt _ hO.swork
  have Hq : Hid (∀ n, n < ns.length → ∃ a c, w.cell? ⟨x.wb, i * 3684 + 16 + n, none⟩ = some (.slice a (st.wt i n).length c)) := qJ (fun n hn => by
    obtain ⟨v, e, hv⟩ := hO.row.wait i n hi hn
    exact ⟨_, _, by rw [← qV hv.1]; exact qQ hO.work e⟩)
  have Hb := qJ (cwTo_le (f := st.wt i) (B := 100000000) (fun n => (hO.few.1 i n).1))
  have hi1 : (i : Int) < (W : Int) := by omega
  clear hO hnd hvn
  go_enter Tryz.func71, Tryz.ntmps71
  go_wp2_with fail
  go_loopw [5, 13] (fun c j wr => ∃ n : Nat, n ≤ ns.length ∧ j = .int .i64 n ∧ c = .int .i64 (vB (st.wt i) n : Nat) ∧ wr = w) (fun _ j _ => ns.length - (intOf j).toNat)
  case atStart => exact ⟨0, Nat.zero_le _, rfl, rfl, rfl⟩
  case round =>
    obtain ⟨n, hn, rfl, rfl, rfl⟩ := hrel
    have hb1 := (qK Hb) n
    have hb3 : n * 100000000 ≤ 8 * 100000000 := Nat.mul_le_mul (by omega) (Nat.le_refl _)
    by_cases hlt : n < ns.length
    · obtain ⟨qa, qc, hq⟩ := (qK Hq) n hlt
      have hn1 : (n : Int) < (ns.length : Int) := by omega
      have hn8 : (n : Int) < 8 := by omega
      have hb2 := (qK Hb) (n + 1)
      have hb4 : (n + 1) * 100000000 ≤ 9 * 100000000 := Nat.mul_le_mul (by omega) (Nat.le_refl _)
      have Hs : Hid (vB (st.wt i) (n + 1) = vB (st.wt i) n + (st.wt i n).length) := qJ rfl
      rw [qK Hs] at hb2
      generalize hcv : vB (st.wt i) (n + 1) = cv at Hs
      have Hcv := qJ hcv
      clear hcv
      generalize vB (st.wt i) n = c0v at *
      generalize (st.wt i n).length = ln at *
      go_wp2_with fail
      go_roundw
      case rel => exact ⟨n + 1, by omega, by go_num, by rw [qK Hcv, qK Hs]; go_num, by trivial⟩
      case measure => simp [intOf]; omega
    · have hnn : n = ns.length := by omega
      subst hnn
      go_wp2_with fail
      go_ret
      exact ⟨rfl, rfl⟩
def ptX (f : Nat → List (List Pt)) (i : Nat) : Nat → List Ev
  | 0 => []
  | k + 1 => if (f k).length = 0 then ptX f i k else ptX f i k ++ [⟨3, i, 0, k, 0, 0, 0⟩]
theorem ptX_len (f : Nat → List (List Pt)) (i k : Nat) : (ptX f i k).length ≤ k := by
  induction k with
  | zero => simp [ptX]
  | succ k ih => unfold ptX; split <;> (try simp) <;> omega
theorem ptells_any {S : Nat → Prop} {pb : Nat} {x : PX} {ns : List Nd} {R W : Nat} {D : Nat → Nat → Int} {st : PSt} (i : Nat) (w : World) (hO : POwn w S pb x ns R W D st) (hi : i < W) :
    Calls Tryz.prog 96 #[.pointer (some ⟨pb, 0, none⟩), .int .i64 (i : Int)] w fun en w' => ∃ v, en = .returned v ∧ OwnE w w' v (ptX (st.wy i) i W) ∧ Bw w w' := by
  have h8 := hO.small
  have c3 := qQ (o := 3) hO.root hO.r3
  have lt0 := hO.slt _ hO.sroot
  have lt1 := hO.slt _ hO.swork
  have Hq : Hid (∀ n, n < 4 → ∃ a c, w.cell? ⟨x.wb, i * 3684 + 3680 + n, none⟩ = some (.slice a (st.wy i n).length c)) := qJ (fun n hn => by
    obtain ⟨v, e, vs, hv, _⟩ := hO.row.way i n hi hn
    obtain ⟨a, c, hv2⟩ := hv.val
    exact ⟨a, c, by rw [← hv2]; exact qQ hO.work e⟩)
  have hfw := fun n => (hO.few.1 i n).2.2
  have hi1 : (i : Int) < (W : Int) := by omega
  have Hc3 := qJ c3
  clear hO c3
  go_enter Tryz.func96, Tryz.ntmps96
  have c3 := qK Hc3
  go_wp2_with fail
  go_loopw [5, 12] (fun v j wr => ∃ n : Nat, n ≤ W ∧ j = .int .i64 n ∧ OwnE w wr v (ptX (st.wy i) i n) ∧ Bw w wr) (fun _ j _ => W - (intOf j).toNat)
  case atStart => exact ⟨0, Nat.zero_le _, rfl, OwnE.nil _ _, Bw.refl _⟩
  case round =>
    obtain ⟨n, hn, rfl, hown, hB⟩ := hrel
    rename World => wr
    have hln := ptX_len (st.wy i) i n
    have c3r := ((qS hB).1 _ _ lt0).trans (qK Hc3)
    have lt0r : pb < wr.heap.size := Nat.lt_of_lt_of_le lt0 hB.size
    have lt1r : x.wb < wr.heap.size := Nat.lt_of_lt_of_le lt1 hB.size
    by_cases hlt : n < W
    · obtain ⟨qa, qc, hq⟩ := (qK Hq) n (by omega)
      have hqr := ((qS hB).1 _ _ lt1).trans hq
      have hn1 : (n : Int) < (W : Int) := by omega
      have hn4 : (n : Int) < 4 := by omega
      have hl1 := hfw n
      have Hs : Hid (ptX (st.wy i) i (n + 1) = if (st.wy i n).length = 0 then ptX (st.wy i) i n else ptX (st.wy i) i n ++ [⟨3, i, 0, n, 0, 0, 0⟩]) := qJ rfl
      generalize (st.wy i n).length = ln at *
      generalize hA1 : ptX (st.wy i) i n = A1 at *
      clear hA1 c3 hq
      by_cases h0 : ln = 0
      · have Hs2 := qJ (show ptX (st.wy i) i (n + 1) = A1 from by rw [qK Hs, if_pos h0])
        subst h0
        go_wp2_with fail
        go_roundw
        case rel => exact ⟨n + 1, by omega, by go_num, by rw [qK Hs2]; exact hown, hB⟩
        case measure => simp [intOf]; omega
      · have Hs2 := qJ (show ptX (st.wy i) i (n + 1) = A1 ++ [⟨3, i, 0, n, 0, 0, 0⟩] from by rw [qK Hs, if_neg h0])
        have hg0 : (0 : Int) < (ln : Int) := by omega
        obtain ⟨va, vc, hve⟩ := hown.val
        subst hve
        go_wp2_with (at_builtin; refine appL _ rfl _ _ _ 110 rfl _ 7 56 Tryz.infoEvent Tryz.underlying56 rfl (by decide) w.heap.size (.slice va A1.length vc) A1.length (kH A1) rfl (hown.bw (by repeat first|exact br _|assumption|apply bd|apply bn|apply ba|refine bt ?_ (by assumption))) _ _ (Ev.cells ⟨3, i, 0, n, 0, 0, 0⟩) rfl rfl (fun j u hj => qQ (qY _ _ (by simp)) (by simpa [Ev.cells] using hj)) (ev_one _) (by omega) (by omega) (Bw.size (show Bw w _ from (by repeat first|exact br _|assumption|apply bd|apply bn|apply ba|refine bt ?_ (by assumption)))) ?_; intro g' cap w9 ho9 hg9 hl9)
        go_roundw
        case rel => exact ⟨n + 1, by omega, by go_num, by rw [qK Hs2]; exact OwnE.snoc ho9, yK (hown.bw (show Bw wr _ from (by repeat first|exact br _|assumption|apply bd|apply bn|apply ba|refine bt ?_ (by assumption)))) hg9 (hB.trans (show Bw wr _ from (by repeat first|exact br _|assumption|apply bd|apply bn|apply ba|refine bt ?_ (by assumption)))) (Nat.le_refl _)⟩
        case measure => simp [intOf]; omega
    · have hnn : n = W := by omega
      subst hnn
      go_wp2_with fail
      go_ret
      exact ⟨_, rfl, hown, hB⟩
def pnT (i n : Nat) (fr ts : List Tm) : Nat → List Ev
  | 0 => []
  | j + 1 => if zQ fr (yU ts j).e.toNat (yU ts j).s.toNat fr.length then pnT i n fr ts j ++ [⟨2, i, n, 0, (yU ts j).e, (yU ts j).s, 0⟩] else pnT i n fr ts j
def pnN (i : Nat) (frs tms : Nat → List Tm) : Nat → List Ev
  | 0 => []
  | n + 1 => pnN i frs tms n ++ pnT i n (frs n) (tms n) (tms n).length
theorem pnT_len (i n : Nat) (fr ts : List Tm) (k : Nat) : (pnT i n fr ts k).length ≤ k := by
  induction k with
  | zero => simp [pnT]
  | succ k ih => unfold pnT; split <;> (try simp) <;> omega
theorem pnN_len {i : Nat} {frs tms : Nat → List Tm} (h : ∀ n, (tms n).length ≤ 24) (k : Nat) : (pnN i frs tms k).length ≤ k * 24 := by
  induction k with
  | zero => simp [pnN]
  | succ k ih => unfold pnN; have := pnT_len i k (frs k) (tms k) (tms k).length; have := h k; rw [List.length_append]; omega
theorem tmS_mem {wn : Nat → Bool} {e s : Nat} : ∀ t ∈ tmS wn e s, ∃ r : Nat, t = ⟨e, r⟩ ∧ r < s := by
  induction s with
  | zero => intro t ht; simp [tmS] at ht
  | succ s ih =>
    intro t ht
    unfold tmS at ht
    split at ht
    · rcases List.mem_append.1 ht with ht | ht
      · obtain ⟨r, e1, h1⟩ := ih t ht; exact ⟨r, e1, by omega⟩
      · simp at ht; exact ⟨s, ht, by omega⟩
    · obtain ⟨r, e1, h1⟩ := ih t ht; exact ⟨r, e1, by omega⟩
theorem tmE_mem {wn : Nat → Bool} {k : Nat} : ∀ t ∈ tmE wn k, ∃ e r : Nat, t = ⟨e, r⟩ ∧ e < k ∧ r < 4 := by
  induction k with
  | zero => intro t ht; simp [tmE] at ht
  | succ k ih =>
    intro t ht
    unfold tmE at ht
    rcases List.mem_append.1 ht with ht | ht
    · obtain ⟨e, r, e1, h1, h2⟩ := ih t ht; exact ⟨e, r, e1, by omega, h2⟩
    · obtain ⟨r, e1, h1⟩ := tmS_mem t ht; exact ⟨k, r, e1, by omega, h1⟩
theorem tmn_mem {l : List Tm} {j : Nat} (h : j < l.length) : yU l j ∈ l := by
  unfold yU
  rw [List.getD, List.getElem?_eq_getElem h]
  exact List.getElem_mem _
def wnOf (f : Nat → Value) : Nat → Bool := fun k => match f k with | .bool b => b | _ => false
theorem pnotifies_any {S : Nat → Prop} {pb : Nat} {x : PX} {ns : List Nd} {R W : Nat} {D : Nat → Nat → Int} {st : PSt} (frs : Nat → List Tm) (i : Nat) (w : World) (hO : POwn w S pb x ns R W D st) (hi : i < W) (hT : ∀ n k, n < ns.length → k < 24 → ∃ b, st.tl i n k = .bool b) (hfl : ∀ n, (frs n).length ≤ 100)
    (hfr : ∀ n : Nat, n < ns.length → ∀ w' : World, POwn w' S pb x ns R W D st → Calls Tryz.prog 67 #[.pointer (some ⟨pb, 0, none⟩), .int .i64 (i : Int), .int .i64 (n : Int)] w' fun e w2 => ∃ v, e = .returned (.tuple #[v, .int .i64 0]) ∧ OwnT w' w2 v (frs n) ∧ Bw w' w2) :
    Calls Tryz.prog 95 #[.pointer (some ⟨pb, 0, none⟩), .int .i64 (i : Int)] w fun en w' => ∃ v, en = .returned v ∧ OwnE w w' v (pnN i frs (fun n => tmE (wnOf (st.tl i n)) 6) ns.length) ∧ Bw w w' := by
  have h8 := hO.small
  obtain ⟨na, nc, hvn, hnd⟩ := hO.ns
  have c0 := qQ (o := 0) hO.root (hvn ▸ hO.r0)
  have lt0 := hO.slt _ hO.sroot
  have lt1 := hO.slt _ hO.swork
  have hi1 : (i : Int) < (W : Int) := by omega
  have HO := qJ hO
  have Hfr := qJ hfr
  have HT := qJ hT
  have Hlen := qJ (pnN_len (i := i) (frs := frs) (tms := fun n => tmE (wnOf (st.tl i n)) 6) (fun n => tmE_len _ 6))
  clear hO hnd hvn hfr hT
  go_enter Tryz.func95, Tryz.ntmps95
  go_wp2_with fail
  go_loopw [5, 18] (fun v j wr => ∃ n : Nat, n ≤ ns.length ∧ j = .int .i64 n ∧ OwnE w wr v (pnN i frs (fun n => tmE (wnOf (st.tl i n)) 6) n) ∧ Bw w wr) (fun _ j _ => ns.length - (intOf j).toNat)
  case atStart => exact ⟨0, Nat.zero_le _, rfl, OwnE.nil _ _, Bw.refl _⟩
  case round =>
    clear c0
    obtain ⟨n, hn, rfl, hown, hB⟩ := hrel
    rename World => wr
    have hln := (qK Hlen) n
    by_cases hlt : n < ns.length
    · have hn1 : (n : Int) < (ns.length : Int) := by omega
      have hn8 : (n : Int) < 8 := by omega
      have hOr := (qK HO).bw hB
      have c3 := qQ (o := 3) hOr.root hOr.r3
      have lt0r := hOr.slt _ hOr.sroot
      have lt1r := hOr.slt _ hOr.swork
      have Htm := qJ (fun (w' : World) (h : Bw wr w') => ptimes_any (wnOf (st.tl i n)) x.wb (i * 3684 + 32 + n * 408) w' (Nat.lt_of_lt_of_le lt1r h.size) (fun k hk => by
        obtain ⟨b, hb⟩ := (qK HT) n k hlt hk
        have h1 := qQ (hOr.bw h).work (hOr.row.tal i n hi hlt k (by omega))
        rw [hb] at h1
        unfold wnOf
        rw [hb]
        exact h1))
      have Hmem := qJ (@tmE_mem (wnOf (st.tl i n)) 6)
      have htl := tmE_len (wnOf (st.tl i n)) 6
      have Hs : Hid (pnN i frs (fun n => tmE (wnOf (st.tl i n)) 6) (n + 1) = pnN i frs (fun n => tmE (wnOf (st.tl i n)) 6) n ++ pnT i n (frs n) (tmE (wnOf (st.tl i n)) 6) (tmE (wnOf (st.tl i n)) 6).length) := qJ rfl
      generalize hA0 : pnN i frs (fun n => tmE (wnOf (st.tl i n)) 6) n = A0 at *
      generalize hts : tmE (wnOf (st.tl i n)) 6 = ts at *
      have HOr := qJ hOr
      have hfln := hfl n
      have Hfn := qJ ((qK Hfr) n hlt)
      generalize frs n = fr at *
      clear hOr hA0 hts
      go_wp2_with fail
      refine ((qK Htm) _ (by repeat first|exact br _|assumption|apply bd|apply bn|apply ba|refine bt ?_ (by assumption))).mono ?_
      rintro en w2 ⟨vt, rfl, hot, hb2⟩
      have hB2 : Bw wr w2 := (show Bw wr _ from (by repeat first|exact br _|assumption|apply bd|apply bn|apply ba|refine bt ?_ (by assumption))).trans hb2
      obtain ⟨ta, tc, hve⟩ : ∃ ta tc, vt = .slice ta ts.length tc := ⟨_, _, qV hot⟩
      subst hve
      have htt : w2.ownsRow 0 72 2 (.slice ta ts.length tc) ts.length (jY ts) := qM hot (Nat.zero_le _)
      clear hot Htm c3
      by_cases ht0 : ts.length = 0
      · have Hs2 := qJ (show pnN i frs (fun n => tmE (wnOf (st.tl i n)) 6) (n + 1) = A0 from by rw [qK Hs, ht0, pnT, List.append_nil])
        have h00 : (ts.length : Int) = 0 := by omega
        go_wp2_with fail
        go_roundw
        case rel => exact ⟨n + 1, by omega, by go_num, by rw [qK Hs2]; exact hown.bw hB2, hB.trans hB2⟩
        case measure => simp [intOf]; omega
      · have h00 : ¬ (ts.length : Int) = 0 := by omega
        go_wp2_with fail
        refine ((qK Hfn) _ ((qK HOr).bw hB2)).mono ?_
        rintro en w3 ⟨vf, rfl, hof, hb3⟩
        obtain ⟨fa, fc, hve⟩ : ∃ fa fc, vf = .slice fa fr.length fc := ⟨_, _, qV hof⟩
        subst hve
        have hft : w3.ownsRow 0 72 2 (.slice fa fr.length fc) fr.length (jY fr) := qM hof (Nat.zero_le _)
        have htt3 := qX htt fun g hg => Below.block hb3 g hg
        have hB3 : Bw wr w3 := hB2.trans hb3
        have Hown := qJ (hown.bw hB3)
        clear hof htt hown
        go_wp2_with fail
        go_loopw [5, 43] (fun v q wj => ∃ j : Nat, j ≤ ts.length ∧ q = .int .i64 j ∧ OwnE w wj v (A0 ++ pnT i n fr ts j) ∧ wj.ownsRow 0 72 2 (.slice ta ts.length tc) ts.length (jY ts) ∧ wj.ownsRow 0 72 2 (.slice fa fr.length fc) fr.length (jY fr) ∧ Bw w wj) (fun _ q _ => ts.length - (intOf q).toNat)
        case atStart => exact ⟨0, Nat.zero_le _, rfl, by rw [pnT, List.append_nil]; exact qK Hown, htt3, hft, hB.trans hB3⟩
        case round =>
          clear Hown htt3 hft
          obtain ⟨j, hj, rfl, hown, htt, hft, hBj⟩ := hrel
          rename World => wj
          have hpl := pnT_len i n fr ts j
          by_cases hltj : j < ts.length
          · have hj1 : (j : Int) < (ts.length : Int) := by omega
            obtain ⟨e, s, hts, he, hs⟩ := (qK Hmem) _ (tmn_mem hltj)
            obtain ⟨tb, toff, hte, htb, htc⟩ := tmsAt_of htt j hltj
            simp only [kY] at hte
            subst hte
            obtain ⟨t0, t1⟩ := htc j hltj
            rw [hts] at t0 t1
            simp only at t0 t1
            have Hx : Hid (pnT i n fr ts (j + 1) = if zQ fr (yU ts j).e.toNat (yU ts j).s.toNat fr.length then pnT i n fr ts j ++ [⟨2, i, n, 0, (yU ts j).e, (yU ts j).s, 0⟩] else pnT i n fr ts j) := qJ rfl
            rw [hts] at Hx
            simp only [Int.toNat_natCast] at Hx
            have Hup := qJ (fun (w' : World) (h : Bw wj w') => phasUp_any fr fa fc e s w' ((show TmsAt wj fa fr from tmsAt_of hft).below h) (by omega))
            have Htt := qJ htt
            have Hft := qJ hft
            generalize hff : zQ fr e s fr.length = ff at *
            generalize hP0 : pnT i n fr ts j = P0 at *
            obtain ⟨A1, hA1⟩ : ∃ A1, A0 ++ P0 = A1 := ⟨_, rfl⟩
            have hA1l : A1.length ≤ 10000 := by rw [← hA1, List.length_append]; omega
            rw [hA1] at hown
            have HA1 := qJ hA1
            clear hff hP0 hA1 hts htt hft htc
            cases ff with
            | false =>
              have Hx2 := qJ (show pnT i n fr ts (j + 1) = P0 from by rw [qK Hx]; rfl)
              go_wp2_with (go_at_call 120; refine ((qK Hup) _ (by repeat first|exact br _|assumption|apply bd|apply bn|apply ba|refine bt ?_ (by assumption))).mono ?_; rintro en w5 ⟨rfl, hb5⟩)
              go_roundw
              case rel =>
                have hB5 : Bw wj w5 := (show Bw wj _ from (by repeat first|exact br _|assumption|apply bd|apply bn|apply ba|refine bt ?_ (by assumption))).trans hb5
                exact ⟨j + 1, by omega, by go_num, by rw [qK Hx2, qK HA1]; exact hown.bw hB5, qX (qK Htt) fun g hg => Below.block hB5 g hg, qX (qK Hft) fun g hg => Below.block hB5 g hg, hBj.trans hB5⟩
              case measure => simp [intOf]; omega
            | true =>
              have Hx2 := qJ (show pnT i n fr ts (j + 1) = P0 ++ [⟨2, i, n, 0, e, s, 0⟩] from by rw [qK Hx]; rfl)
              obtain ⟨va, vc, hve⟩ := hown.val
              subst hve
              go_wp2_with (first | (go_at_call 120; refine ((qK Hup) _ (by repeat first|exact br _|assumption|apply bd|apply bn|apply ba|refine bt ?_ (by assumption))).mono ?_; rintro en w5 ⟨rfl, hb5⟩; have hB5 : Bw wj w5 := (show Bw wj (wj.alloc (.cells #[.int .i64 (e : Int), .int .i64 (s : Int)] 72)) from (by repeat first|exact br _|assumption|apply bd|apply bn|apply ba|refine bt ?_ (by assumption))).trans hb5; have hx5 := (Below.block hb5 wj.heap.size (by simp)).trans (heap_alloc_new wj (.cells #[.int .i64 (e : Int), .int .i64 (s : Int)] 72)); have z0 := qQ (o := 0) hx5 rfl; have z1 := qQ (o := 1) hx5 rfl; have zl := (Array.getElem?_eq_some_iff.1 hx5).1; clear hx5) | (at_builtin; refine appL _ rfl _ _ _ 110 rfl _ 7 56 Tryz.infoEvent Tryz.underlying56 rfl (by decide) w.heap.size (.slice va A1.length vc) A1.length (kH A1) rfl (hown.bw (hB5.trans (show Bw w5 _ from (by repeat first|exact br _|assumption|apply bd|apply bn|apply ba|refine bt ?_ (by assumption))))) _ _ (Ev.cells ⟨2, i, n, 0, e, s, 0⟩) rfl rfl (fun j u hj => qQ (qY _ _ (by simp)) (by simpa [Ev.cells] using hj)) (ev_one _) (by omega) (by omega) (Bw.size (hBj.trans (hB5.trans (show Bw w5 _ from (by repeat first|exact br _|assumption|apply bd|apply bn|apply ba|refine bt ?_ (by assumption)))))) ?_; intro g' cap w9 ho9 hg9 hl9))
              go_roundw
              case rel =>
                have hB6 : Bw wj (w5.alloc (.cells #[.int .i64 2, .int .i64 (i : Int), .int .i64 (n : Int), .int .i64 0, .int .i64 (e : Int), .int .i64 (s : Int), .int .i64 0] 110)) := hB5.trans (by repeat first|exact br _|assumption|apply bd|apply bn|apply ba|refine bt ?_ (by assumption))
                exact ⟨j + 1, by omega, by go_num, by rw [qK Hx2, ← List.append_assoc, qK HA1]; exact OwnE.snoc ho9, kQ (hown.bw hB6) hg9 (qX (qK Htt) fun g hg => Below.block hB6 g hg) (by decide), kQ (hown.bw hB6) hg9 (qX (qK Hft) fun g hg => Below.block hB6 g hg) (by decide), yK (hown.bw hB6) hg9 (hBj.trans hB6) (Nat.le_refl _)⟩
              case measure => simp [intOf]; omega
          · have hjj : j = ts.length := by omega
            have hj1 : ¬ (j : Int) < (ts.length : Int) := by omega
            have HoN := qJ (show OwnE w wj _ (pnN i frs (fun n => tmE (wnOf (st.tl i n)) 6) (n + 1)) from by rw [qK Hs, ← hjj]; exact hown)
            clear hown htt hft
            go_wp2_with fail
            go_roundw
            case rel => exact ⟨n + 1, by omega, by go_num, qK HoN, hBj⟩
            case measure => simp [intOf]; omega
    · have hnn : n = ns.length := by omega
      subst hnn
      go_wp2_with fail
      go_ret
      exact ⟨_, rfl, hown, hB⟩
theorem wkN_cw (f : Nat → List Gv) (w : Nat) (k : Nat) : (wkN f w k).length = vB f k := by
  induction k with
  | zero => rfl
  | succ k ih => rw [wkN, List.length_append, wkTo_len, ih]; rfl
theorem evn_left {l m : List Ev} {k : Nat} (h : k < l.length) : zH (l ++ m) k = zH l k := by simp [zH, List.getD, List.getElem?_append_left h]
theorem evn_right {l m : List Ev} {k : Nat} : zH (l ++ m) (l.length + k) = zH m k := by simp [zH, List.getD, List.getElem?_append_right]
theorem wkTo_get (w n : Nat) (l : List Gv) : ∀ k j, j < k → zH (wkTo w n l k) j = ⟨1, w, n, j, (vR l j).node, (vR l j).epoch, (vR l j).value⟩ := by
  intro k
  induction k with
  | zero => intro j h; omega
  | succ k ih =>
    intro j hj
    rw [wkTo]
    by_cases e : j < k
    · rw [evn_left (by rw [wkTo_len]; exact e)]; exact ih j e
    · have : j = k := by omega
      subst this
      have h := evn_right (l := wkTo w n l j) (m := [⟨1, w, n, j, (vR l j).node, (vR l j).epoch, (vR l j).value⟩]) (k := 0)
      rw [wkTo_len] at h
      exact h
theorem wkN_get (f : Nat → List Gv) (w : Nat) : ∀ L n j, n < L → j < (f n).length → zH (wkN f w L) (vB f n + j) = ⟨1, w, n, j, (vR (f n) j).node, (vR (f n) j).epoch, (vR (f n) j).value⟩ := by
  intro L
  induction L with
  | zero => intro n j h; omega
  | succ L ih =>
    intro n j hn hj
    rw [wkN]
    by_cases e : n < L
    · have hm : vB f (n + 1) ≤ vB f L := by
        have : ∀ d, vB f (n + 1) ≤ vB f (n + 1 + d) := by
          intro d
          induction d with
          | zero => exact Nat.le_refl _
          | succ d ihd => rw [← Nat.add_assoc]; exact Nat.le_trans ihd (by rw [vB]; omega)
        have h1 := this (L - (n + 1))
        rw [show n + 1 + (L - (n + 1)) = L by omega] at h1
        exact h1
      rw [evn_left (by rw [wkN_cw]; rw [vB] at hm; omega)]
      exact ih n j e hj
    · have : n = L := by omega
      subst this
      rw [← wkN_cw f w n, evn_right]
      exact wkTo_get w n (f n) _ j hj
theorem set7 {w : World} {q : Nat} {t : TypeId} {z0 z1 z2 z3 z4 z5 z6 : Value} (h : w.heap[q]? = some (.cells #[z0, z1, z2, z3, z4, z5, z6] t (0, 0))) (a b c d e f g : Value) : (((((((w.setCell ⟨q, 0, none⟩ a).setCell ⟨q, 1, none⟩ b).setCell ⟨q, 2, none⟩ c).setCell ⟨q, 3, none⟩ d).setCell ⟨q, 4, none⟩ e).setCell ⟨q, 5, none⟩ f).setCell ⟨q, 6, none⟩ g).heap[q]? = some (.cells #[a, b, c, d, e, f, g] t (0, 0)) ∧ Chg (fun x => x = q) w (((((((w.setCell ⟨q, 0, none⟩ a).setCell ⟨q, 1, none⟩ b).setCell ⟨q, 2, none⟩ c).setCell ⟨q, 3, none⟩ d).setCell ⟨q, 4, none⟩ e).setCell ⟨q, 5, none⟩ f).setCell ⟨q, 6, none⟩ g) := by
  have h1 := qU (k := 0) (v := a) h
  have h2 := qU (k := 1) (v := b) h1
  have h3 := qU (k := 2) (v := c) h2
  have h4 := qU (k := 3) (v := d) h3
  have h5 := qU (k := 4) (v := e) h4
  have h6 := qU (k := 5) (v := f) h5
  have h7 := qU (k := 6) (v := g) h6
  refine ⟨h7.trans rfl, ?_⟩
  exact ((((((qP _ _ _ _).trans (qP _ _ _ _) (fun _ h => .inl h)).trans (qP _ _ _ _) (fun _ h => .inl h)).trans (qP _ _ _ _) (fun _ h => .inl h)).trans (qP _ _ _ _) (fun _ h => .inl h)).trans (qP _ _ _ _) (fun _ h => .inl h)).trans (qP _ _ _ _) (fun _ h => .inl h)
theorem gvAt_own {w : World} {v : Value} {base : Nat} {ty : TypeId} {l : List Gv} (h : w.ownsRow base ty 3 v l.length (qH l)) : GvAt w (kY v) l := by
  intro i hi
  obtain ⟨g, e, hg, hc⟩ := qB h (by omega)
  refine ⟨g, 0, e, hg, fun j hj => ?_⟩
  have key : ∀ f u, f < 3 → (Gv.cells (vR l j))[f]? = some u → w.cell? ⟨g, 0 + j * 3 + f, none⟩ = some u := fun f u hf hu => by
    rw [Nat.zero_add]; exact hc _ _ (by unfold qH; rw [vL (f := Gv.cells) (k := 3) (d := ⟨0, 0, 0⟩) (fun a => rfl) l j hj f hf]; exact hu)
  exact ⟨key 0 _ (by omega) rfl, key 1 _ (by omega) rfl, key 2 _ (by omega) rfl⟩
theorem pworkNo_any {S : Nat → Prop} {pb : Nat} {x : PX} {ns : List Nd} {R W : Nat} {D : Nat → Nat → Int} {st : PSt} (i k : Nat) (w : World) (hO : POwn w S pb x ns R W D st) (hi : i < W) (hk : k < vB (st.wt i) ns.length) :
    Calls Tryz.prog 121 #[.pointer (some ⟨pb, 0, none⟩), .int .i64 (i : Int), .int .i64 (k : Int)] w fun en w' => en = .returned (Ev.val (zH (wkN (st.wt i) i ns.length) k)) ∧ Bw w w' := by
  have h8 := hO.small
  obtain ⟨na, nc, hvn, hnd⟩ := hO.ns
  have HO := qJ hO
  have Hvn := qJ hvn
  have hi1 : (i : Int) < (W : Int) := by omega
  have Hb := qJ (cwTo_le (f := st.wt i) (B := 100000000) (fun n => (hO.few.1 i n).1))
  have c0 := qQ (o := 0) hO.root (hvn ▸ hO.r0)
  have lt0 := hO.slt _ hO.sroot
  have Hg := qJ (wkN_get (st.wt i) i ns.length)
  clear hO hvn hnd
  go_enter Tryz.func121, Tryz.ntmps121
  go_wp2_with fail
  go_loopw [2, 16] (fun q j wr => ∃ n d : Nat, n ≤ ns.length ∧ j = .int .i64 n ∧ q = .int .i64 d ∧ k = vB (st.wt i) n + d ∧ Bw w wr ∧ wr.heap[w.heap.size]? = some (.cells #[.int .i64 0, .int .i64 0, .int .i64 0, .int .i64 0, .int .i64 0, .int .i64 0, .int .i64 0] 110 (0, 0))) (fun _ j _ => ns.length - (intOf j).toNat)
  case atStart => exact ⟨0, k, Nat.zero_le _, rfl, rfl, by simp [vB], (by repeat first|exact br _|assumption|apply bd|apply bn|apply ba|refine bt ?_ (by assumption)), heap_alloc_new w _⟩
  case round =>
    clear c0 lt0
    obtain ⟨n, d, hn, rfl, rfl, hkd, hB, hbx⟩ := hrel
    rename World => wr
    have Hkd := qJ hkd
    by_cases hlt : n < ns.length
    · have hOr := (qK HO).bw hB
      have c3 := qQ (o := 3) hOr.root hOr.r3
      have lt0 := hOr.slt _ hOr.sroot
      have lt1 := hOr.slt _ hOr.swork
      obtain ⟨v, hq, hv⟩ := hOr.row.wait i n hi hlt
      obtain ⟨qa, qc, hqe⟩ : ∃ qa qc, v = .slice qa (st.wt i n).length qc := ⟨_, _, qV hv.1⟩
      subst hqe
      have cq := qQ (o := i * 3684 + 16 + n) hOr.work hq
      have hn1 : (n : Int) < (ns.length : Int) := by omega
      have hn8 : (n : Int) < 8 := by omega
      have hll := (hOr.few.1 i n).1
      have bxl := (Array.getElem?_eq_some_iff.1 hbx).1
      have bxf := fun o => qZ (o := o) hbx
      have b0 := qQ (o := 0) hbx rfl
      have b1 := qQ (o := 1) hbx rfl
      have b2 := qQ (o := 2) hbx rfl
      have b3 := qQ (o := 3) hbx rfl
      have b4 := qQ (o := 4) hbx rfl
      have b5 := qQ (o := 5) hbx rfl
      have b6 := qQ (o := 6) hbx rfl
      have Hbx := qJ hbx
      have hkb := (qK Hb) ns.length
      have hkb2 : ns.length * 100000000 ≤ 8 * 100000000 := Nat.mul_le_mul h8.1 (Nat.le_refl _)
      by_cases hd : d < (st.wt i n).length
      · have hd1 : (d : Int) < ((st.wt i n).length : Int) := by omega
        have He := qJ (show zH (wkN (st.wt i) i ns.length) k = ⟨1, i, n, d, (vR (st.wt i n) d).node, (vR (st.wt i n) d).epoch, (vR (st.wt i n) d).value⟩ from by rw [hkd]; exact (qK Hg) n d hlt hd)
        obtain ⟨gb, goff, hge, hgb, hgc⟩ := gvAt_own hv.1 d hd
        simp only [kY] at hge
        subst hge
        obtain ⟨m0, m1, m2⟩ := hgc d hd
        generalize vR (st.wt i n) d = y at *
        generalize (st.wt i n).length = ln at *
        clear hOr hq hv hbx hgc hkd
        go_wp2_with fail
        obtain ⟨x0, x2⟩ := set7 (qK Hbx) (.int .i64 1) (.int .i64 (i : Int)) (.int .i64 (n : Int)) (.int .i64 (d : Int)) (.int .i64 y.node) (.int .i64 y.epoch) (.int .i64 y.value)
        obtain ⟨wE, hwE⟩ : ∃ wE, ((((((wr.setCell ⟨w.heap.size, 0, none⟩ (.int .i64 1)).setCell ⟨w.heap.size, 1, none⟩ (.int .i64 (i : Int))).setCell ⟨w.heap.size, 2, none⟩ (.int .i64 (n : Int))).setCell ⟨w.heap.size, 3, none⟩ (.int .i64 (d : Int))).setCell ⟨w.heap.size, 4, none⟩ (.int .i64 y.node)).setCell ⟨w.heap.size, 5, none⟩ (.int .i64 y.epoch)).setCell ⟨w.heap.size, 6, none⟩ (.int .i64 y.value) = wE := ⟨_, rfl⟩
        rw [hwE] at x0 x2
        rw [hwE]
        clear hwE b0 b1 b2 b3 b4 b5 b6 bxf
        have x1 := (Below.block (show Bw wE (wE.alloc (.cells #[.int .i64 y.node, .int .i64 y.epoch, .int .i64 y.value] 62)) from (by repeat first|exact br _|assumption|apply bd|apply bn|apply ba|refine bt ?_ (by assumption))) _ (Array.getElem?_eq_some_iff.1 x0).1).trans x0
        have e0 := qQ (o := 0) x1 rfl
        have e1 := qQ (o := 1) x1 rfl
        have e2 := qQ (o := 2) x1 rfl
        have e3 := qQ (o := 3) x1 rfl
        have e4 := qQ (o := 4) x1 rfl
        have e5 := qQ (o := 5) x1 rfl
        have e6 := qQ (o := 6) x1 rfl
        refine bodyPost_ret (v := .agg #[.int .i64 1, .int .i64 (i : Int), .int .i64 (n : Int), .int .i64 (d : Int), .int .i64 y.node, .int .i64 y.epoch, .int .i64 y.value]) (by simp [results, Tryz.results121, go_sem, e0, e1, e2, e3, e4, e5, e6]) rfl ⟨by rw [qK He]; rfl, ?_⟩
        exact (Chg.toBw hB x2 (fun z hz => hz ▸ Nat.le_refl _)).trans (by repeat first|exact br _|assumption|apply bd|apply bn|apply ba|refine bt ?_ (by assumption))
      · have hd1 : ¬ (d : Int) < ((st.wt i n).length : Int) := by omega
        have Hnx := qJ (show k = vB (st.wt i) (n + 1) + (d - (st.wt i n).length) from by rw [vB]; omega)
        have hdk : d ≤ k := by omega
        generalize (st.wt i n).length = ln at *
        clear hOr hq hv hbx hkd
        go_wp2_with fail
        go_roundw
        case rel => exact ⟨n + 1, d - ln, by omega, by go_num, by congr 1; omega, qK Hnx, hB, qK Hbx⟩
        case measure => simp [intOf]; omega
    · have hnn : n = ns.length := by omega
      subst hnn
      omega
def oth (L W : Nat) (st : PSt) (frs : Nat → Nat → List Tm) (i : Nat) : List Ev := pnN i (frs i) (fun n => tmE (wnOf (st.tl i n)) 6) L ++ ptX (st.wy i) i W
def kR (L W : Nat) (st : PSt) (frs : Nat → Nat → List Tm) : Nat → List Ev
  | 0 => []
  | k + 1 => kR L W st frs k ++ (wkN (st.wt k) k L ++ oth L W st frs k)
theorem oth_len {L W : Nat} {st : PSt} {frs : Nat → Nat → List Tm} (hL : L ≤ 8) (hW : W ≤ 4) (i : Nat) : (oth L W st frs i).length ≤ 200 := by
  unfold oth
  have h1 := pnN_len (i := i) (frs := frs i) (tms := fun n => tmE (wnOf (st.tl i n)) 6) (fun n => tmE_len _ 6) L
  have h2 := ptX_len (st.wy i) i W
  rw [List.length_append]
  omega
theorem pacts_len {L W : Nat} {st : PSt} {frs : Nat → Nat → List Tm} (hL : L ≤ 8) (hW : W ≤ 4) (hw : ∀ i n, (st.wt i n).length ≤ 100000000) (k : Nat) : (kR L W st frs k).length ≤ k * 800000200 := by
  induction k with
  | zero => simp [kR]
  | succ k ih =>
    have h1 := cwTo_le (f := st.wt k) (B := 100000000) (hw k) L
    have h2 := oth_len (st := st) (frs := frs) hL hW k
    rw [kR, List.length_append, List.length_append, wkN_cw]
    omega
def FrOk (S : Nat → Prop) (pb : Nat) (x : PX) (ns : List Nd) (R W : Nat) (D : Nat → Nat → Int) (st : PSt) (frs : Nat → Nat → List Tm) : Prop :=
  (∀ i n, (frs i n).length ≤ 100) ∧ (∀ i n k, i < W → n < ns.length → k < 24 → ∃ b, st.tl i n k = .bool b) ∧ ∀ i n : Nat, i < W → n < ns.length → ∀ w' : World, POwn w' S pb x ns R W D st → Calls Tryz.prog 67 #[.pointer (some ⟨pb, 0, none⟩), .int .i64 (i : Int), .int .i64 (n : Int)] w' fun e w2 => ∃ v, e = .returned (.tuple #[v, .int .i64 0]) ∧ OwnT w' w2 v (frs i n) ∧ Bw w' w2
theorem pnt_any {S : Nat → Prop} {pb : Nat} {x : PX} {ns : List Nd} {R W : Nat} {D : Nat → Nat → Int} {st : PSt} (frs : Nat → Nat → List Tm) (i : Nat) (w : World) (hO : POwn w S pb x ns R W D st) (hF : FrOk S pb x ns R W D st frs) (hi : i < W) :
    Calls Tryz.prog 72 #[.pointer (some ⟨pb, 0, none⟩), .int .i64 (i : Int)] w fun en w' => ∃ v, en = .returned v ∧ OwnE w w' v (oth ns.length W st frs i) ∧ Bw w w' := by
  have h8 := hO.small
  have Hn := qJ (fun (w' : World) (h : Bw w w') => pnotifies_any (frs i) i w' (hO.bw h) hi (fun n k hn hk => hF.2.1 i n k hi hn hk) (hF.1 i) (fun n hn => hF.2.2 i n hi hn))
  have Ht := qJ (fun (w' : World) (h : Bw w w') => ptells_any i w' (hO.bw h) hi)
  have h1 := pnN_len (i := i) (frs := frs i) (tms := fun n => tmE (wnOf (st.tl i n)) 6) (fun n => tmE_len _ 6) ns.length
  have h2 := ptX_len (st.wy i) i W
  have He : Hid (oth ns.length W st frs i = pnN i (frs i) (fun n => tmE (wnOf (st.tl i n)) 6) ns.length ++ ptX (st.wy i) i W) := qJ rfl
  generalize pnN i (frs i) (fun n => tmE (wnOf (st.tl i n)) 6) ns.length = N1 at *
  generalize ptX (st.wy i) i W = T1 at *
  clear hO hF
  go_enter Tryz.func72, Tryz.ntmps72
  go_wp2_with fail
  refine ((qK Hn) _ (by repeat first|exact br _|assumption|apply bd|apply bn|apply ba|refine bt ?_ (by assumption))).mono ?_
  rintro en w1 ⟨v1, rfl, ho1, hb1⟩
  obtain ⟨a1, c1, hve⟩ := ho1.val
  subst hve
  go_wp2_with fail
  refine ((qK Ht) _ (by repeat first|exact br _|assumption|apply bd|apply bn|apply ba|refine bt ?_ (by assumption))).mono ?_
  rintro en w2 ⟨v2, rfl, ho2, hb2⟩
  obtain ⟨a2, c2, hve⟩ := ho2.val
  subst hve
  have hN1 : N1.length ≤ 1000 := by omega
  have hT1 : T1.length ≤ 1000 := by omega
  go_wp2_with (at_builtin; refine appG _ rfl _ _ _ 110 rfl _ 7 56 Tryz.infoEvent Tryz.underlying56 rfl (by decide) w.heap.size (.slice a1 N1.length c1) N1.length (kH N1) rfl (ho1.bw hb2) _ T1.length _ (kH T1) rfl (evCells_len T1) (OwnE.cells ho2) (evs_one T1) (by omega) (by omega) (Bw.size (hb1.trans hb2)) ?_; intro v9 w9 ho9 hg9 hl9; obtain ⟨ea, ec, hee⟩ : ∃ ea ec, v9 = .slice ea (N1.length + T1.length) ec := ⟨_, _, qV ho9⟩; subst hee)
  go_ret
  exact ⟨_, rfl, by rw [qK He]; exact OwnE.app ho9, yK (ho1.bw hb2) hg9 (hb1.trans hb2) (Nat.le_refl _)⟩
theorem pactions_any {S : Nat → Prop} {pb : Nat} {x : PX} {ns : List Nd} {R W : Nat} {D : Nat → Nat → Int} {st : PSt} (frs : Nat → Nat → List Tm) (w : World) (hO : POwn w S pb x ns R W D st) (hF : FrOk S pb x ns R W D st frs) :
    Calls Tryz.prog 43 #[.pointer (some ⟨pb, 0, none⟩)] w fun en w' => en = .returned (.int .i64 ((kR ns.length W st frs W).length : Nat)) ∧ Bw w w' := by
  have h8 := hO.small
  have Hl := qJ (fun k => pacts_len (st := st) (frs := frs) h8.1 h8.2.2.1 (fun i n => (hO.few.1 i n).1) k)
  have Ho := qJ (fun k => oth_len (st := st) (frs := frs) h8.1 h8.2.2.1 k)
  have Hw := qJ (fun i => cwTo_le (f := st.wt i) (B := 100000000) (fun n => (hO.few.1 i n).1) ns.length)
  have c3 := qQ (o := 3) hO.root hO.r3
  have lt0 := hO.slt _ hO.sroot
  have HO := qJ hO
  have HF := qJ hF
  clear hO hF
  go_enter Tryz.func43, Tryz.ntmps43
  go_wp2_with fail
  go_loopw [3, 12] (fun c j wr => ∃ a : Nat, a ≤ W ∧ j = .int .i64 a ∧ c = .int .i64 ((kR ns.length W st frs a).length : Nat) ∧ Bw w wr) (fun _ j _ => W - (intOf j).toNat)
  case atStart => exact ⟨0, Nat.zero_le _, rfl, rfl, Bw.refl _⟩
  case round =>
    clear c3 lt0
    obtain ⟨a, ha, rfl, rfl, hB⟩ := hrel
    rename World => wr
    have hl1 := (qK Hl) a
    by_cases hlt : a < W
    · have ha1 : (a : Int) < (W : Int) := by omega
      have Hc := qJ (pcount_any a wr ((qK HO).bw hB) hlt)
      have Hn := qJ (pnt_any frs a wr ((qK HO).bw hB) (qK HF) hlt)
      have hl2 := (qK Ho) a
      have hl3 := (qK Hw) a
      have Hs : Hid ((kR ns.length W st frs (a + 1)).length = (kR ns.length W st frs a).length + (vB (st.wt a) ns.length + (oth ns.length W st frs a).length)) := qJ (by rw [kR, List.length_append, List.length_append, wkN_cw])
      generalize (kR ns.length W st frs a).length = P0 at *
      generalize hP1 : (kR ns.length W st frs (a + 1)).length = P1 at Hs
      have HP1 := qJ hP1
      clear hP1
      generalize vB (st.wt a) ns.length = C0 at *
      generalize oth ns.length W st frs a = O0 at *
      go_wp2_with (go_at_call 71; refine (qK Hc).mono ?_; rintro en w1 ⟨rfl, rfl⟩)
      refine (qK Hn).mono ?_
      rintro en w2 ⟨v2, rfl, ho2, hb2⟩
      obtain ⟨a2, c2, hve⟩ := ho2.val
      subst hve
      go_wp2_with fail
      go_roundw
      case rel => exact ⟨a + 1, by omega, by go_num, by rw [qK HP1, qK Hs]; go_num, hB.trans hb2⟩
      case measure => simp [intOf]; omega
    · have haa : a = W := by omega
      subst haa
      go_wp2_with fail
      go_ret
      exact ⟨rfl, hB⟩
end Go.Proofs.YtfemleimkbjehaaGreat
