import Derived.Test.YtfemleimkbjehaaJ43
import Derived.Deep.CutBlock
import Derived.Test.YtfemleimkbjehaaJ39
import Derived.Test.YtfemleimkbjehaaJ29
import Derived.Test.YtfemleimkbjehaaJ30
set_option maxRecDepth 1000000
set_option maxHeartbeats 40000000
set_option linter.unusedVariables false
set_option linter.unusedSimpArgs false
namespace Go.Proofs.Ytfemleimkbjehaa
open Go.RowKit
theorem rem_nat {k l : Nat} (hl : 0 < l) (h : l ≤ 4611686018427387904) : Int.tmod (k : Int) (l : Int) = ((k % l : Nat) : Int) ∧ IntKind.i64.wrap ((k % l : Nat) : Int) = ((k % l : Nat) : Int) := by
  refine ⟨by rw [Int.tmod_eq_emod_of_nonneg (by omega)]; rfl, ?_⟩
  have := Nat.mod_lt k hl
  rw [IntKind.wrap_i64]
  omega
theorem BAt.leng {w : World} {U : Nat → Prop} {bb : Nat} {ns : List Nd} {R W : Nat} {gs : List Gv} {p : PSt} {st : RSt} (g : GOk ns R W) (h : BAt w U bb ns R W gs p st) {na : Option Addr} {nc : Nat} (c1 : w.cell? ⟨bb, 1, none⟩ = some (.slice na ns.length nc)) (c2 : w.cell? ⟨bb, 2, none⟩ = some (.int .i64 (R : Int))) (c3 : w.cell? ⟨bb, 3, none⟩ = some (.int .i64 (W : Int))) (c6 : w.cell? ⟨bb, 6, none⟩ = some (.int .i64 (st.opened.length : Int))) (cl : bb < w.heap.size) (hnd : NodesAt w na ns) (w' : World) (hb : Bw w w') (I O : Tb) (FI : Nat → Nat → Nat → List Int) (V : World) (hT : TF V w' I ns.length R FI) (hF : ∀ e s n, e < 6 → s < R → n < ns.length → FI e s n = dT ns gs n e s) :
    Calls Try.prog 35 #[.pointer (some ⟨bb, 0, none⟩), .agg #[I.val ns.length, O.val ns.length]] w' fun en w2 => en = .returned (.int .i64 (lenN ns R W gs st.opened.length : Nat)) ∧ Bw w' w2 :=
  klength_any g (h.kept.gvk g) bb w' na nc st.opened.length (by have := (h.kept.small g).1; omega) (((qX hb).1 _ 1 cl).trans c1) (((qX hb).1 _ 2 cl).trans c2) (((qX hb).1 _ 3 cl).trans c3) (((qX hb).1 _ 6 cl).trans c6) (Nat.lt_of_lt_of_le cl hb.size) (hnd.below hb) I O FI hT hF
set_option maxRecDepth 100000 in
set_option maxHeartbeats 8000000 in
theorem kfinish_any {U : Nat → Prop} {bb : Nat} {ns : List Nd} {R W : Nat} {gs : List Gv} {p : PSt} {st : RSt} (g : GOk ns R W) (h0 : (qV ns 0).kind = 0) (cs : List Int) (ca : Option Addr) (cc : Nat) (w : World) (hB : BAt w U bb ns R W gs p st) (hc : IntsAt w ca cs) (hcl : cs.length ≤ 140737488355328) (hc64 : nJ cs) (hU : ∀ i, i < cs.length → ∀ a, ca = some a → ¬ U a.block) :
    Calls Try.prog 23 #[.pointer (some ⟨bb, 0, none⟩), .slice ca cs.length cc] w fun e w' => e = .returned (.bool true) ∧ ∃ p' st', BAt.After w w' U bb ns R W gs p' st' ∧ Mv ns R W p p' ∧ gS ns W p' ∧ jW ns R W p' = [] := by
  have HB := qJ hB
  clear hB
  go_enter Try.func23, Try.ntmps23
  go_wp2_with (go_at_call 34; refine (kshut_any g _ (qK HB)).mono ?_; rintro e1 w1 ⟨rfl, p1, st1, hA1, hM1, hev1, hcl1⟩)
  obtain ⟨U1, hB1, hC1, hU1⟩ := hA1
  obtain ⟨pb, na, va, nc, vc, c0, c1, c2, c3, c5, c6, c7, cl, hnd, hgv, _⟩ := hB1.all
  have Hfl := qJ (fun (w' : World) (hb : Bw w1 w') => hB1.flow g h0 hnd hgv nc vc w' hb)
  have Hln := qJ (hB1.leng g c1 c2 c3 c6 cl hnd)
  have H1 := qJ (⟨hB1, hC1, hU1, hM1, hev1, hcl1⟩ : _ ∧ _ ∧ _ ∧ _ ∧ _ ∧ _)
  clear c0 c3 c6 c7 hnd hgv hB1 hC1 hU1 hM1 hev1 hcl1
  refine wp_region_held_drew (S := (fun w' => w'.cell? ⟨bb, 1, none⟩ = some (.slice na ns.length nc) ∧ w'.cell? ⟨bb, 2, none⟩ = some (.int .i64 (R : Int)) ∧ w'.cell? ⟨bb, 5, none⟩ = some (.slice va gs.length vc))) (by kernel_rfl) (by (try dsimp only); go_keep) (fun hHeld => ?_)
  refine tk 0 ?_; try simp only [Act.put, qT, qS, qR]
  refine tk 1 ?_; try simp only [Act.put, qT, qS, qR]
  refine tk 2 ?_; try simp only [Act.put, qT, qS, qR]
  refine tk 3 ?_; try simp only [Act.put, qT, qS, qR]
  refine tk 4 ?_; try simp only [Act.put, qT, qS, qR]
  refine tk 5 ?_; try simp only [Act.put, qT, qS, qR]
  refine tk 6 ?_; try simp only [Act.put, qT, qS, qR]
  refine tk 7 ?_; try simp only [Act.put, qT, qS, qR]
  refine tk 8 ?_; try simp only [Act.put, qT, qS, qR]
  refine wpAnyH_ready (rs := [9]) (by kernel_rfl) (by simp) ?_
  refine AllReadyH.cons rfl (fun K hK => ?_) AllReadyH.nil
  go_simp
  go_at_call 27
  refine ((qK Hfl) _ (by repeat first|exact br _|assumption|apply bd|apply bn|apply ba|refine bt ?_ (by assumption))).mono ?_
  rintro e8 w8 ⟨I, O, FI, rfl, hT8, hF8, hB8⟩
  have hb8 := Bw.trans (show Bw w1 _ from (by repeat first|exact br _|assumption|apply bd|apply bn|apply ba|refine bt ?_ (by assumption))) hB8
  have t1 := ((qX hb8).1 _ 1 cl).trans c1
  have t2 := ((qX hb8).1 _ 2 cl).trans c2
  have t5 := ((qX hb8).1 _ 5 cl).trans c5
  (try go_wp2_with fail)
  refine hK.out _ _ (by (try dsimp only); go_keep) (fun hHeld => ?_)
  clear hK K
  try simp only [Act.put, qT, qS, qR]
  refine wpAnyH_ready (rs := [10]) (by kernel_rfl) (by simp) ?_
  refine AllReadyH.cons rfl (fun K hK => ?_) AllReadyH.nil
  go_simp
  go_at_call 35
  refine ((qK Hln) _ (Bw.trans hb8 (by repeat first|exact br _|assumption|apply bd|apply bn|apply ba|refine bt ?_ (by assumption))) I O FI _ (hT8.bw (by repeat first|exact br _|assumption|apply bd|apply bn|apply ba|refine bt ?_ (by assumption))) hF8).mono ?_
  rintro e9 w9 ⟨rfl, hB9⟩
  have hb9 := hb8.trans (Bw.trans (show Bw w8 _ from (by repeat first|exact br _|assumption|apply bd|apply bn|apply ba|refine bt ?_ (by assumption))) hB9)
  have t1 := ((qX hb9).1 _ 1 cl).trans c1
  have t2 := ((qX hb9).1 _ 2 cl).trans c2
  have t5 := ((qX hb9).1 _ 5 cl).trans c5
  (try go_wp2_with fail)
  refine hK.out _ _ (by (try dsimp only); go_keep) (fun hHeld => ?_)
  clear hK K
  try simp only [Act.put, qT, qS, qR]
  refine tk 11 ?_; try simp only [Act.put, qT, qS, qR]
  refine wpAnyH_done (by kernel_rfl) ?_ _
  clear Hfl Hln t1 t2 t5 hT8 hF8 c1 c2 c5 cl
  obtain ⟨N, hN⟩ : ∃ N, lenN ns R W gs st1.opened.length = N := ⟨_, rfl⟩
  have HN := qJ hN
  rw [hN]
  clear hN
  go_wp2_with fail
  go_loopw [7] (fun i wr => ∃ (k : Nat) (p' : PSt) (st' : RSt), i = .int .i64 k ∧ BAt.After w wr U bb ns R W gs p' st' ∧ Mv ns R W p p' ∧ gS ns W p' ∧ st'.opened = st1.opened ∧ st'.evs.length = st1.evs.length + k) (fun i _ => N - (st1.evs.length + (intOf i).toNat))
  case atStart =>
    obtain ⟨hB1, hC1, hU1, hM1, hev1, hcl1⟩ := qK H1
    exact ⟨0, p1, st1, rfl, ⟨U1, hB1.bw hb9, hC1.trans (Chg.bw hb9) hU1, hU1⟩, hM1, hcl1, rfl, rfl⟩
  case round =>
    clear H1 hb8 hB8 hB9 hb9
    obtain ⟨k, p2, st2, rfl, hA2, hM2, hcl2, hop2, hev2⟩ := hrel
    rename World => wr
    obtain ⟨U2, hB2, hC2, hU2⟩ := id hA2
    obtain ⟨pb, na, va, nc, vc, c0, c1, c2, c3, c5, c6, c7, cl, hnd, hgv, _⟩ := hB2.all
    have hlen := hB2.kept.len g hcl2
    rw [hop2, qK HN] at hlen
    obtain ⟨hle, hiff⟩ := hlen
    have hsm := (hB2.kept.small g).2.1
    have hal := hB2.acts_len g
    have Hac := qJ (hB2.acts g c0)
    have hcc := hc.chg hC2 hU
    have H2 := qJ (⟨hA2, hM2, hcl2, hop2, hev2, hB2, hC2, hU2, hiff⟩ : _ ∧ _ ∧ _ ∧ _ ∧ _ ∧ _ ∧ _ ∧ _ ∧ _)
    have hkb : k ≤ 30000000 := by omega
    have hkN : N - (st1.evs.length + k) = N - st2.evs.length := by omega
    have HkN := qJ hkN
    by_cases hlt : st2.evs.length < N
    · have hne : jW ns R W p2 ≠ [] := fun e => by have := hiff.1 e; omega
      have hpos : 0 < (jW ns R W p2).length := Nat.pos_of_ne_zero fun e => hne (List.eq_nil_of_length_eq_zero e)
      have hf1 : oneIf ns R W p2 = 1 := by unfold oneIf; rw [if_neg hne]
      have Hf := qJ hf1
      have hlt1 : (st2.evs.length : Int) < (N : Int) := by omega
      obtain ⟨na2, hna2⟩ : ∃ na2, (jW ns R W p2).length = na2 := ⟨_, rfl⟩
      rw [hna2] at hpos hal Hac
      have hn1 : ¬ (na2 : Int) < 1 := by omega
      have Hev := qJ hev2
      clear hne hf1 hna2 hiff hA2 hM2 hcl2 hop2 hev2 hC2 hU2 hnd hgv c1 c2 c3 c5 c6 hkN hle hB2
      by_cases hcz : cs.length = 0
      · have hcz1 : ¬ (0 : Int) < (cs.length : Int) := by omega
        clear hcc hcz
        go_wp2_with first | (go_at_call 36; refine ((qK Hac) _ (Bw.refl _)).mono ?_; rintro e3 w3 ⟨rfl, hB3⟩; have HB3 := qJ ((qK H2).2.2.2.2.2.1.bw hB3)) | (go_at_call 37; refine (kact_any g 0 _ (qK HB3) (by omega) (by omega)).mono ?_; rintro e4 w4 ⟨rfl, p4, st4, hA4, hM4, hop4, hcl4, hev4⟩)
        go_roundw
        case rel =>
          obtain ⟨hA2, hM2, hcl2, hop2, hev2, hB2, hC2, hU2, _⟩ := qK H2
          refine ⟨k + 1, p4, st4, by go_num, BAt.After.then (hC2.trans (Chg.bw hB3) hU2) hU2 hA4, hM2.trans hM4, fun i n hi hn h => by rw [hcl4]; exact hcl2 i n hi hn h, hop4.trans hop2, ?_⟩
          have := qK Hf
          omega
        case measure =>
          have := qK HkN
          have := qK Hev
          simp [intOf]; omega
      · have hcp : 0 < cs.length := Nat.pos_of_ne_zero hcz
        have hcz1 : (0 : Int) < (cs.length : Int) := by omega
        have hjl := Nat.mod_lt k hcp
        obtain ⟨b, off, rfl, hb, hcell⟩ := hcc _ hjl
        have hcj := hcell _ hjl
        have hj64 : mQ (kC cs (k % cs.length)) := by rw [jL hjl]; exact hc64 _ (List.getElem_mem hjl)
        obtain ⟨hr1, hr2⟩ := rem_nat (k := k) hcp (by omega)
        obtain ⟨cj, hcj'⟩ : ∃ cj, kC cs (k % cs.length) = cj := ⟨_, rfl⟩
        rw [hcj'] at hcj hj64
        obtain ⟨j, hj⟩ : ∃ j, k % cs.length = j := ⟨_, rfl⟩
        rw [hj] at hcj hr1 hr2 hjl
        clear hj
        have hj1 : (j : Int) < (cs.length : Int) := by omega
        have hcz2 : ((cs.length : Int) == 0) = false := by rw [beq_eq_false_iff_ne]; omega
        clear hcell hcc hcz hcj'
        go_wp2_with first | (go_at_call 36; refine ((qK Hac) _ (Bw.refl _)).mono ?_; rintro e3 w3 ⟨rfl, hB3⟩; have HB3 := qJ ((qK H2).2.2.2.2.2.1.bw hB3); have cj3 := ((qX hB3).1 _ _ hb).trans hcj; have bl3 := Nat.lt_of_lt_of_le hb hB3.size) | (go_at_call 37; refine (kact_any g cj _ (qK HB3) hj64.1 hj64.2).mono ?_; rintro e4 w4 ⟨rfl, p4, st4, hA4, hM4, hop4, hcl4, hev4⟩)
        go_roundw
        case rel =>
          obtain ⟨hA2, hM2, hcl2, hop2, hev2, hB2, hC2, hU2, _⟩ := qK H2
          refine ⟨k + 1, p4, st4, by go_num, BAt.After.then (hC2.trans (Chg.bw hB3) hU2) hU2 hA4, hM2.trans hM4, fun i n hi hn h => by rw [hcl4]; exact hcl2 i n hi hn h, hop4.trans hop2, ?_⟩
          have := qK Hf
          omega
        case measure =>
          have := qK HkN
          have := qK Hev
          simp [intOf]; omega
    · have hee : st2.evs.length = N := by omega
      have hlt1 : ¬ (st2.evs.length : Int) < (N : Int) := by omega
      have hnil := hiff.2 hee
      rw [hnil] at Hac
      have Hnil := qJ hnil
      clear hnil hiff hA2 hM2 hcl2 hop2 hev2 hC2 hU2 hnd hgv c1 c2 c3 c5 c6 hkN hle hcc hB2 hee
      go_wp2_with (go_at_call 36; refine ((qK Hac) _ (Bw.refl _)).mono ?_; rintro e3 w3 ⟨rfl, hB3⟩)
      go_ret
      obtain ⟨hA2, hM2, hcl2, _⟩ := qK H2
      exact ⟨rfl, p2, st2, hA2.to hB3, hM2, hcl2, qK Hnil⟩
set_option maxRecDepth 100000 in
set_option maxHeartbeats 4000000 in
theorem pnew_ok (ns : List Nd) (ga : Option Addr) (gc : Nat) (R W : Nat) (w : World) (hn : NodesAt w ga ns) (hE : xY ns R = 0) (h1 : 1 ≤ ns.length) (h8 : ns.length ≤ 8) (hW1 : 1 ≤ W) (hW4 : W ≤ 4) (hR1 : 1 ≤ R) (hR4 : R ≤ 4) :
    Calls Try.prog 51 #[.agg #[.slice ga ns.length gc, .int .i64 (R : Int)], .int .i64 (W : Int)] w fun e w' => ∃ pb x, e = .returned (.tuple #[.pointer (some ⟨pb, 0, none⟩), .int .i64 0]) ∧ POwn w' (fun b => w.heap.size ≤ b ∧ b < w'.heap.size) pb x ns R W (zQ ns) (rP (tF ns W)) ∧ Bw w w' := by
  have H := qJ (fun (w' : World) (h : Bw w w') => prnew_ok ns ga gc R W w' (hn.below h) hE h1 h8 hW1 hW4 hR4)
  clear hE hn
  go_enter Try.func51, Try.ntmps51
  go_wp2_with (go_at_call 80; refine ((qK H) _ (by repeat first|exact br _|assumption|apply bd|apply bn|apply ba|refine bt ?_ (by assumption))).mono ?_; rintro e w1 ⟨vn, vd, wb, wc, warr, rfl, hnd, hds, hwk, hwl, hws, hwt, hb1⟩; obtain ⟨na, nc, hne⟩ : ∃ na nc, vn = .slice na ns.length nc := ⟨_, _, qW hnd⟩; subst hne; obtain ⟨da, dc, hde⟩ : ∃ da dc, vd = .slice da ns.length dc := (by obtain ⟨vs, h, _⟩ := hds; exact ⟨_, _, qW h⟩); subst hde)
  go_ret2
  obtain ⟨hA0, hA1, hAB⟩ := yU w1 (.cells #[.slice na ns.length nc, .int .i64 (R : Int), .slice da ns.length dc, .slice (some ⟨wb, 0, none⟩) W wc, .int .i64 0, .slice none 0 0] 104) (.cells #[.slice na ns.length nc, .int .i64 (R : Int), .slice da ns.length dc, .slice (some ⟨wb, 0, none⟩) W wc, .int .i64 0, .slice none 0 0] 106)
  obtain ⟨w2, hw2⟩ : ∃ w2, (w1.alloc (.cells #[.slice na ns.length nc, .int .i64 (R : Int), .slice da ns.length dc, .slice (some ⟨wb, 0, none⟩) W wc, .int .i64 0, .slice none 0 0] 104)).alloc (.cells #[.slice na ns.length nc, .int .i64 (R : Int), .slice da ns.length dc, .slice (some ⟨wb, 0, none⟩) W wc, .int .i64 0, .slice none 0 0] 106) = w2 := ⟨_, rfl⟩
  rw [hw2] at hA1 hAB
  rw [hw2]
  have hB : Bw w w2 := (show Bw w w1 from (by repeat first|exact br _|assumption|apply bd|apply bn|apply ba|refine bt ?_ (by assumption))).trans hAB
  have hz : w.heap.size ≤ (w.alloc (.cells #[.slice ga ns.length gc, .int .i64 (R : Int)] 24)).heap.size := by simp
  have hz1 : w.heap.size ≤ w1.heap.size := Bw.size (by repeat first|exact br _|assumption|apply bd|apply bn|apply ba|refine bt ?_ (by assumption))
  have hnd2 := qP hnd fun g hg => Below.block hAB g hg
  have hwk2 := (Below.block hAB _ (Array.getElem?_eq_some_iff.1 hwk).1).trans hwk
  have hds2 : TabB w.heap.size w2 (.slice da ns.length dc) ns.length ns.length (zQ ns) := by
    obtain ⟨vs, a1, a2⟩ := (hds.bw hAB).weak hz
    refine ⟨vs, a1, fun i hi => ?_⟩
    obtain ⟨u, eu, a3⟩ := a2 i hi
    refine ⟨u, eu, ?_⟩
    have : rB ns.length (zQ ns i) = rB ns.length (mX ns i) := by
      unfold rB
      refine List.map_congr_left fun j hj => ?_
      rw [distD_far h1 (by simpa using hj)]
    rw [this]
    exact a3
  refine ⟨w1.heap.size + 1, ⟨#[.slice na ns.length nc, .int .i64 (R : Int), .slice da ns.length dc, .slice (some ⟨wb, 0, none⟩) W wc, .int .i64 0, .slice none 0 0], .slice na ns.length nc, .slice da ns.length dc, wb, wc, warr, .slice none 0 0⟩, rfl, ?_, hB⟩
  refine ⟨hA1, rfl, rfl, rfl, rfl, rfl, rfl, hwk2, ⟨by omega, (Array.getElem?_eq_some_iff.1 hA1).1⟩, ⟨Nat.le_trans hz hwl, (Array.getElem?_eq_some_iff.1 hwk2).1⟩, fun b hb => hb.2, ⟨kU hnd2 (Nat.zero_le _), fun b hb => ⟨Nat.le_trans hz (World.ownsRow.lt hnd2 b hb).1, (World.ownsRow.lt hnd2 b hb).2⟩⟩, hds2.tabIn fun b a1 a2 => ⟨a1, a2⟩, ⟨World.ownsRow_nil _ _ _ _, by simp [Value.ownBlock]⟩, PRow.first h8 hws hwt, ⟨h8, hR4, hW4, hW1, hR1, h1⟩, ⟨fun _ _ => by simp [rP], by simp [rP]⟩⟩
theorem ptn_app {ps : List Pt} {p : Pt} {i : Nat} (hi : i < ps.length) : vU (ps ++ [p]) i = vU ps i := by simp [vU, List.getD, List.getElem?_append_left hi]
theorem ptn_last (ps : List Pt) (p : Pt) : vU (ps ++ [p]) ps.length = p := by simp [vU, List.getD]
theorem tabPts_app (R : Nat) (t : Nat → Int) (ps : List Pt) (p : Pt) : ∀ k, k ≤ ps.length → kT R t (ps ++ [p]) k = kT R t ps k := by
  intro k
  induction k with
  | zero => intro _; rfl
  | succ k ih => intro hk; rw [kT, kT, ih (by omega), ptn_app (by omega)]
theorem tabPts_snoc (R : Nat) (t : Nat → Int) (ps : List Pt) (p : Pt) : kT R t (ps ++ [p]) (ps ++ [p]).length = bW (kT R t ps ps.length) (rY R p) (wrap64 (kT R t ps ps.length (rY R p) + p.count)) := by
  rw [List.length_append, List.length_singleton, kT, tabPts_app R t ps p _ (Nat.le_refl _), ptn_last]
theorem tabSrc_far (ns : List Nd) (W : Nat) : ∀ k n, k ≤ n → xJ ns 4 W k (jZ 4 n 0 0 true) = 0 := by
  intro k
  induction k with
  | zero => intro n _; rfl
  | succ k ih =>
    intro n hn
    unfold xJ
    split
    · rw [tT _ _ (fun e => by have := cP (R := 4) ⟨by omega, by omega⟩ (by omega) (by omega) (by omega) (by omega) e; omega)]
      exact ih n (by omega)
    · exact ih n (by omega)
theorem begT_eq (ns : List Nd) (W : Nat) (hW : W ≤ 4) : ∀ k, kT 4 (fun _ => 0) (vP ns W k) (vP ns W k).length = xJ ns 4 W k := by
  intro k
  induction k with
  | zero => rfl
  | succ k ih =>
    unfold vP xJ
    split
    · rw [tabPts_snoc, ih]
      have e : rY 4 ⟨(k : Int), true, 0, 0, (W : Int)⟩ = jZ 4 k 0 0 true := rfl
      rw [e, tabSrc_far ns W k k (Nat.le_refl _)]
      congr 1
      simp only
      unfold wrap64
      omega
    · exact ih
theorem zwT_bool : ∀ k, k < 24 → zwT.getD k undef = .bool false := by
  intro k hk
  unfold zwT
  rw [List.getD, List.getElem?_append_left (by simp; exact hk), List.getElem?_replicate, if_pos hk]
  rfl
theorem zwT_grp : ∀ e s g, e < 6 → s < 4 → g < 16 → zwT.getD (24 + e * 64 + s * 16 + g) undef = if g < 8 then .int .i64 0 else .bool false := by
  intro e s g he hs hg
  unfold zwT
  rw [List.getD, List.getElem?_append_right (by simp; omega), List.length_replicate, show 24 + e * 64 + s * 16 + g - 24 = (e * 4 + s) * 16 + g by omega, flat_rep _ (c := 16) (by simp) 24 (e * 4 + s) g (by omega) hg]
  by_cases h : g < 8
  · rw [if_pos h, List.getElem?_append_left (by simpa using h), List.getElem?_replicate, if_pos h]; rfl
  · rw [if_neg h, List.getElem?_append_right (by simp; omega), List.length_replicate, List.getElem?_replicate, if_pos (by omega)]; rfl
theorem Sim.begun (ns : List Nd) (W : Nat) (hW : W ≤ 4) : Sim ns W (rP (tF ns W)) rst0 := by
  refine ⟨fun _ _ => rfl, fun _ _ => rfl, fun _ _ => rfl, fun _ _ _ _ => rfl, fun _ _ => Nat.le_refl _, fun i n e s he hs => ?_, fun i n e s g h6 he hs hg => ⟨?_, ?_⟩, fun i hi => ?_, fun i j => ?_, rfl, rfl⟩
  · show zwT.getD (e * 4 + s) undef = _
    rw [zwT_bool _ (by omega)]
    simp [rst0, jS]
  · show zwT.getD (24 + e * 64 + s * 16 + g) undef = _
    rw [zwT_grp e s g he hs (by omega), if_pos hg]
    rfl
  · show zwT.getD (24 + e * 64 + s * 16 + 8 + g) undef = _
    rw [show 24 + e * 64 + s * 16 + 8 + g = 24 + e * 64 + s * 16 + (8 + g) by omega, zwT_grp e s (8 + g) he hs (by omega), if_neg (by omega)]
    rfl
  · show tF ns W = xJ ns 4 W ns.length
    unfold tF
    exact begT_eq ns W hW _
  · show [] = _
    split
    · rfl
    · rfl
theorem wf_kind {ns : List Nd} {r : Int} (h : wfB ns r = true) {n : Nat} (hn : n < ns.length) : yD (qV ns n) := by
  have h1 : pB ns ns.length = true := by simp [wfB] at h; exact h.1.2
  have h2 := mD h1 n hn
  unfold zN at h2
  generalize qV ns n = y at h2 ⊢
  refine ⟨?_, fun h6 => ?_, fun h3 => ?_⟩
  · by_cases k0 : y.kind = 0
    · exact .inl k0
    by_cases k1 : y.kind = 1
    · exact .inr (.inl k1)
    by_cases k2 : y.kind = 2
    · exact .inr (.inr (.inl k2))
    by_cases k3 : y.kind = 3
    · exact .inr (.inr (.inr (.inl k3)))
    by_cases k4 : y.kind = 4
    · exact .inr (.inr (.inr (.inr (.inl k4))))
    by_cases k5 : y.kind = 5
    · exact .inr (.inr (.inr (.inr (.inr (.inl k5)))))
    by_cases k6 : y.kind = 6
    · exact .inr (.inr (.inr (.inr (.inr (.inr (.inl k6))))))
    by_cases k7 : y.kind = 7
    · exact .inr (.inr (.inr (.inr (.inr (.inr (.inr k7))))))
    simp [k0, k1, k2, k3, k4, k5, k6, k7] at h2
  · simp [h6] at h2
    omega
  · simp [h3] at h2
    omega
theorem gOk_of {o : List Nd} {r : Int} (h : FitOk o r) {W : Nat} (hW1 : 1 ≤ W) (hW : W ≤ 4) : ∃ R : Nat, r = R ∧ GOk o R W ∧ xY o R = 0 := by
  have hc := fit_check h
  obtain ⟨hG, R, rfl, hR1, hR⟩ := good_of hc
  have hl := wfB_len h.wf
  refine ⟨R, rfl, ⟨⟨_, _, hG⟩, fun x hx h4 a ha ht => ?_, by omega, by omega, hR1, hR, hW1, hW, fun n hn => wf_kind h.wf hn⟩, hc⟩
  rw [uG] at ht
  unfold jF at ht
  rw [List.contains_iff_mem] at ht
  obtain ⟨a', e, _, h2⟩ := h.low x hx h4 _ ht
  have : a = a' := by omega
  subst this
  exact h2
structure EpL (V w : World) (bb pb : Nat) (oa : Option Addr) (L oc R W : Nat) (v4 : Value) (rs : List Nat) : Prop where
  root : w.heap[bb]? = some (.cells #[.pointer (some ⟨pb, 0, none⟩), .slice oa L oc, .int .i64 (R : Int), .int .i64 (W : Int), v4, .slice none 0 0, .int .i64 0, .int .i64 0, .slice none 0 0] 57 (0, 0))
  own : w.ownsRow V.heap.size 26 1 v4 rs.length (rs.map fun b => .slice (some ⟨b, 0, none⟩) L L)
  rows : ∀ b ∈ rs, V.heap.size ≤ b ∧ ∃ arr : Array Value, w.heap[b]? = some (.cells arr 3 (0, 0)) ∧ arr.size = L ∧ ∀ n, n < L → arr[n]? = some (.int .i64 0)
  nd : rs.Nodup
  low : V.heap.size ≤ bb
  base : Bw V w
theorem EpL.bw {V w w' : World} {bb pb : Nat} {oa : Option Addr} {L oc R W : Nat} {v4 : Value} {rs : List Nat} (h : EpL V w bb pb oa L oc R W v4 rs) (hb : Bw w w') : EpL V w' bb pb oa L oc R W v4 rs := by
  have key : ∀ g o, w.heap[g]? = some o → w'.heap[g]? = some o := fun g o hg => (Below.block hb g (Array.getElem?_eq_some_iff.1 hg).1).trans hg
  refine ⟨key _ _ h.root, qP h.own fun g hg => Below.block hb g hg, fun b hb' => ?_, h.nd, h.low, h.base.trans hb⟩
  obtain ⟨h1, arr, h2, h3⟩ := h.rows b hb'
  exact ⟨h1, arr, key _ _ h2, h3⟩
theorem EpL.next {V w wA w7 : World} {bb pb r g' cap : Nat} {oa : Option Addr} {L oc R W : Nat} {v4 : Value} {rs : List Nat} {arr : Array Value} (h : EpL V w bb pb oa L oc R W v4 rs) (hb : Bw w wA) (hr : wA.heap[r]? = some (.cells arr 3 (0, 0))) (hlo : w.heap.size ≤ r) (hs : arr.size = L) (hz : ∀ n, n < L → arr[n]? = some (.int .i64 0)) (ho : w7.ownsRow V.heap.size 26 1 (.slice (some ⟨g', 0, none⟩) (rs.length + 1) cap) (rs.length + 1) ((rs.map fun b => .slice (some ⟨b, 0, none⟩) L L) ++ [.slice (some ⟨r, 0, none⟩) L L])) (hg : wA.grownBy w7 v4.ownBlock) :
    w7.cell? ⟨bb, 4, none⟩ = some v4 ∧ bb < w7.heap.size ∧ w7.frozen? ⟨bb, 4, none⟩ = false ∧ (∀ (gb : Nat) (ar : Array Value), w.heap[gb]? = some (.cells ar 24 (0, 0)) → w7.heap[gb]? = some (.cells ar 24 (0, 0)) ∧ ∀ u, (w7.setCell ⟨bb, 4, none⟩ u).heap[gb]? = some (.cells ar 24 (0, 0))) ∧ EpL V (w7.setCell ⟨bb, 4, none⟩ (.slice (some ⟨g', 0, none⟩) (rs.length + 1) cap)) bb pb oa L oc R W (.slice (some ⟨g', 0, none⟩) (rs.length + 1) cap) (rs ++ [r]) := by
  have hA := h.bw hb
  have root7 := kZ hA.own hg hA.root (.inl (by decide))
  have hlt : ∀ b ∈ rs, b < w.heap.size := fun b hb' => by
    obtain ⟨_, a, h2, _⟩ := h.rows b hb'
    exact (Array.getElem?_eq_some_iff.1 h2).1
  refine ⟨qQ root7 rfl, (Array.getElem?_eq_some_iff.1 root7).1, qZ root7, fun gb ar hgb => ?_, (qY root7).trans (by simp), ?_, fun b hb' => ?_, ?_, h.low, (Bw.grown hA.base hA.own hg (Nat.le_refl _)).setCell h.low _⟩
  · have h1 := kZ hA.own hg ((Below.block hb _ (Array.getElem?_eq_some_iff.1 hgb).1).trans hgb) (.inl (by decide))
    exact ⟨h1, fun u => qU root7 h1 (by decide)⟩
  · have := kJ (k := 4) (u := .slice (some ⟨g', 0, none⟩) (rs.length + 1) cap) root7 ho (by decide)
    rw [List.length_append, List.map_append]
    exact this
  · rcases List.mem_append.1 hb' with h1 | h1
    · obtain ⟨h2, a, h3, h4⟩ := hA.rows b h1
      exact ⟨h2, a, qU root7 (kZ hA.own hg h3 (.inl (by decide))) (by decide), h4⟩
    · have e : b = r := by simpa using h1
      subst e
      exact ⟨Nat.le_trans h.base.size hlo, arr, qU root7 (kZ hA.own hg hr (.inl (by decide))) (by decide), hs, hz⟩
  · rw [List.nodup_append]
    refine ⟨h.nd, by simp, fun x hx y hy e => ?_⟩
    have : y = r := by simpa using hy
    have := hlt x hx
    omega
theorem EpL.book {V0 V w : World} {bb pb : Nat} {xp : PX} {oa : Option Addr} {ns : List Nd} {oc R W : Nat} {v4 : Value} {rs : List Nat} (g : GOk ns R W) (h : EpL V w bb pb oa ns.length oc R W v4 rs) (hl : rs.length = W) (hO : POwn V (fun b => V0.heap.size ≤ b ∧ b < V.heap.size) pb xp ns R W (zQ ns) (rP (tF ns W))) (hn : NodesAt V0 oa ns) (hb : Bw V0 V) : ∃ U, BAt w U bb ns R W [] (rP (tF ns W)) rst0 ∧ ∀ b, U b → V0.heap.size ≤ b := by
  have hW1 := g.hW1
  obtain ⟨hlen, ⟨_, h0⟩ | ⟨eb, ec, cur, e1, hge, hc, _, _, hsz, htk⟩⟩ := h.own
  · omega
  have hz := hb.size
  have hlt : ∀ b ∈ rs, b < w.heap.size := fun b hb' => by
    obtain ⟨_, a, h2, _⟩ := h.rows b hb'
    exact (Array.getElem?_eq_some_iff.1 h2).1
  have hget : ∀ i, i < W → rs.getD i 0 ∈ rs := fun i hi => by
    rw [List.getD_eq_getElem?_getD, List.getElem?_eq_getElem (by omega)]; exact List.getElem_mem _
  refine ⟨fun b => (b = bb ∨ b = eb ∨ b ∈ rs) ∨ (V0.heap.size ≤ b ∧ b < V.heap.size), ⟨V0, fun b => b = bb ∨ b = eb ∨ b ∈ rs, fun b => V0.heap.size ≤ b ∧ b < V.heap.size, pb, ⟨oa, oc, eb, ec, fun i => rs.getD i 0, .slice none 0 0, .slice none 0 0⟩, xp, ⟨⟨?_, .inl rfl, fun b hb' => ?_, ?_, fun i hi => ?_, ⟨.inr (.inl rfl), fun i hi => .inr (.inr (hget i hi))⟩, fun i j hi hj e => ?_, ⟨World.ownsRow_nil _ _ _ _, fun b hb' => by simp [Value.ownBlock] at hb'⟩, ⟨World.ownsRow_nil _ _ _ _, fun b hb' => by simp [Value.ownBlock] at hb'⟩⟩, hO.bw h.base, Kept.beg g (Sim.begun ns W g.hW), fun b hb' hs => ?_, hn, hb.trans h.base, fun b hb' => ?_⟩, fun b => Iff.rfl⟩, fun b hb' => ?_⟩
  · rw [h.root, e1, hl]; rfl
  · rcases hb' with rfl | rfl | hb'
    · exact (Array.getElem?_eq_some_iff.1 h.root).1
    · exact (Array.getElem?_eq_some_iff.1 hc).1
    · exact hlt b hb'
  · refine ⟨cur, hc, fun i hi => ?_⟩
    have h3 : (rs.map fun b => (Value.slice (some ⟨b, 0, none⟩) ns.length ns.length))[i]? = some (.slice (some ⟨rs.getD i 0, 0, none⟩) ns.length ns.length) := by
      rw [List.getElem?_map, List.getD_eq_getElem?_getD, List.getElem?_eq_getElem (by omega)]; rfl
    rw [← htk, List.getElem?_take_of_lt (by omega), Array.getElem?_toList] at h3
    exact h3
  · obtain ⟨_, a, h2, h3, h4⟩ := h.rows _ (hget i hi)
    exact ⟨a, h2, h3, fun n hn' => h4 n hn'⟩
  · have h3 := h.nd
    simp only [List.getD_eq_getElem?_getD] at e
    rw [List.getElem?_eq_getElem (by omega), List.getElem?_eq_getElem (by omega)] at e
    exact (List.getElem_inj h3).1 e
  · have hlow := h.low
    rcases hb' with rfl | rfl | hb'
    · omega
    · omega
    · have := (h.rows b hb').1; omega
  · have hlow := h.low
    rcases hb' with (rfl | rfl | hb') | hb'
    · omega
    · omega
    · have := (h.rows b hb').1; omega
    · exact hb'.1
  · have hlow := h.low
    rcases hb' with (rfl | rfl | hb') | hb'
    · omega
    · omega
    · have := (h.rows b hb').1; omega
    · exact hb'.1
end Go.Proofs.Ytfemleimkbjehaa
