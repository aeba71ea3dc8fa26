import Derived.Test.YtfemleimkbjehaaJ44
import Derived.Test.YtfemleimkbjehaaJ43
import Derived.Test.YtfemleimkbjehaaJ1
import Derived.ProofKit
import Derived.SizedLaws
import Derived.Lib.SmallJoins
import Derived.Deep.Slices
set_option maxRecDepth 1000000
set_option maxHeartbeats 40000000
set_option linter.unusedVariables false
set_option linter.unusedSimpArgs false
namespace Go.Proofs.Ytfemleimkbjehaa
open Go.RowKit
theorem madeI (L : Nat) : (madeCells #[.int .i64 0] L).size = L ∧ ∀ n, n < L → (madeCells #[.int .i64 0] L)[n]? = some (.int .i64 0) := by
  refine ⟨by simp [size_madeCells], fun j hj => ?_⟩
  rw [← Array.getElem?_toList, toList_madeCells_one]
  simp [hj]
set_option maxRecDepth 100000 in
set_option maxHeartbeats 8000000 in
theorem kopen_any (raw : List Nd) (ga : Option Addr) (gc : Nat) (r wk : Int) (w : World) (hn : NodesAt w ga raw) (hgl : raw.length ≤ maxLen) (hwf : ∀ j, j < raw.length → (qV raw j).wf) (hwk : mQ wk) :
    Calls Try.prog 21 #[.agg #[.slice ga raw.length gc, .int .i64 r], .int .i64 wk] w fun en w' => ∃ (bb : Nat) (ns : List Nd) (R W : Nat) (U : Nat → Prop), en = .returned (.tuple #[.pointer (some ⟨bb, 0, none⟩), .bool true]) ∧ GOk ns R W ∧ (qV ns 0).kind = 0 ∧ BAt w' U bb ns R W [] (rP (tF ns W)) rst0 ∧ Bw w w' ∧ ∀ b, U b → w.heap.size ≤ b := by
  go_enter Try.func21, Try.ntmps21
  go_wp2_with fail
  refine (fit_any raw _ _ _ _ (hn.below (by repeat first|exact br _|assumption|apply bd|apply bn|apply ba|refine bt ?_ (by assumption))) hgl hwf).mono ?_
  rintro e w1 ⟨o, oa, oc, r', rfl, hF, hN, hB1⟩
  have hB1' := Bw.trans (show Bw w _ from (by repeat first|exact br _|assumption|apply bd|apply bn|apply ba|refine bt ?_ (by assumption))) hB1
  clear hB1
  go_wp2_with fail
  refine (pS _ _ _ hwk.1 hwk.2 (by omega) (by omega)).mono ?_
  rintro e w' ⟨rfl, rfl⟩
  obtain ⟨b1, b2⟩ := jC wk (n := (4 : Int)) (by omega)
  obtain ⟨j, hj, hj4⟩ : ∃ j : Nat, jT wk 4 = j ∧ j < 4 := ⟨(jT wk 4).toNat, by omega, by omega⟩
  rw [hj]
  obtain ⟨W, hWj⟩ : ∃ W, j + 1 = W := ⟨_, rfl⟩
  have hwr : IntKind.i64.wrap (1 + (j : Int)) = (W : Int) := by rw [IntKind.wrap_i64]; omega
  obtain ⟨R, rfl, g, hce⟩ := gOk_of hF (W := W) (by omega) (by omega)
  have h0 := hF.zero
  have Hg := qJ (⟨g, h0⟩ : _ ∧ _)
  have hW4 := g.hW
  have hL8 := g.h8
  have hL1 := g.h1
  obtain ⟨W2, hW2⟩ : ∃ W2, w1.alloc (.cells #[.slice oa o.length oc, .int .i64 (R : Int)] 24) = W2 := ⟨_, rfl⟩
  have hB2 : Bw w1 W2 := hW2 ▸ (by repeat first|exact br _|assumption|apply bd|apply bn|apply ba|refine bt ?_ (by assumption))
  have gx : W2.heap[w1.heap.size]? = some (.cells #[.slice oa o.length oc, .int .i64 (R : Int)] 24 (0, 0)) := hW2 ▸ heap_alloc_new w1 _
  have Hnew := qJ (fun (w' : World) (hb : Bw W2 w') => pnew_ok o oa oc R W w' (hN.below (hB2.trans hb)) hce g.h1 g.h8 g.hW1 g.hW g.hR1 g.hR)
  have HN2 := qJ (hN.below hB2)
  have g0 := qQ (o := 0) gx rfl
  have g1 := qQ (o := 1) gx rfl
  have gl := (Array.getElem?_eq_some_iff.1 gx).1
  have HB2 := qJ (hB1'.trans hB2)
  rw [hW2]
  generalize hgb : w1.heap.size = gb at gx g0 g1 gl ⊢
  have Hgx0 := qJ gx
  clear hF hN hce hj hWj b1 b2 hwf hgl hn gx hW2 hB2 hB1' hgb g h0
  go_wp2_with fail
  refine ((qK Hnew) _ (Bw.refl _)).mono ?_
  rintro e w3 ⟨pb, xp, rfl, hO, hB3⟩
  have Hgx := qJ ((Below.block hB3 _ gl).trans (qK Hgx0))
  have g0' := ((qX hB3).1 _ 0 gl).trans g0
  have g1' := ((qX hB3).1 _ 1 gl).trans g1
  have gl' := Nat.lt_of_lt_of_le gl hB3.size
  have HO := qJ (⟨hO, hB3⟩ : _ ∧ _)
  clear hO Hnew g0 g1 gl hB3
  go_wp2_with fail
  obtain ⟨W3, hW3⟩ : ∃ W3, w3.alloc (.cells #[.pointer (some ⟨pb, 0, none⟩), .slice oa o.length oc, .int .i64 (R : Int), .int .i64 (W : Int), .slice none 0 0, .slice none 0 0, .int .i64 0, .int .i64 0, .slice none 0 0] 57) = W3 := ⟨_, rfl⟩
  have hst : EpL w3 W3 w3.heap.size pb oa o.length oc R W (.slice none 0 0) [] := ⟨hW3 ▸ heap_alloc_new w3 _, World.ownsRow_nil _ _ _ _, by simp, List.nodup_nil, Nat.le_refl _, hW3 ▸ (by repeat first|exact br _|assumption|apply bd|apply bn|apply ba|refine bt ?_ (by assumption))⟩
  rw [hW3]
  have Hst := qJ hst
  generalize hbb : w3.heap.size = bb at Hst ⊢
  clear hW3 hst
  have hmk := make_ints (o.length : Int) o.length rfl (by omega)
  go_loopw [11] (fun i wr => ∃ (k : Nat) (v4 : Value) (rs : List Nat), k ≤ W ∧ i = .int .i64 k ∧ rs.length = k ∧ EpL w3 wr bb pb oa o.length oc R W v4 rs) (fun i _ => W - (intOf i).toNat)
  case atStart => exact ⟨0, _, [], Nat.zero_le _, rfl, rfl, qK Hst⟩
  case round =>
    clear Hst
    obtain ⟨k, v4, rs, hk, rfl, hrs, hE⟩ := hrel
    rename World => wr
    subst hrs
    by_cases hlt : rs.length < W
    · have hk1 : (rs.length : Int) < (W : Int) := by omega
      have g0 := ((qX hE.base).1 _ 0 gl').trans g0'
      have gl := Nat.lt_of_lt_of_le gl' hE.base.size
      have r4 := qQ (o := 4) hE.root rfl
      have rl := (Array.getElem?_eq_some_iff.1 hE.root).1
      have Hgr := qJ ((Below.block hE.base _ gl').trans (qK Hgx))
      have HE := qJ hE
      have Hbb := qJ hbb
      clear hE hbb
      go_wp2_with fail
      refine wp_region_held_drew (S := (fun w' => w'.cell? ⟨gb, 0, none⟩ = some (.slice oa o.length oc))) (by kernel_rfl) (by (try dsimp only); go_keep) (fun hHeld => ?_)
      refine tk 0 ?_; try simp only [Act.put, qT, qS, qR]
      refine tk 1 ?_; try simp only [Act.put, qT, qS, qR]
      refine tk 2 ?_; try simp only [Act.put, qT, qS, qR]
      refine tk 3 ?_; try simp only [Act.put, qT, qS, qR]
      refine tk 5 ?_; try simp only [Act.put, qT, qS, qR]
      refine tk 6 ?_; try simp only [Act.put, qT, qS, qR]
      refine tk 7 ?_; try simp only [Act.put, qT, qS, qR]
      refine wpAnyH_ready (rs := [4, 8]) (by kernel_rfl) (by simp) ?_
      refine AllReadyH.cons rfl (fun K hK => ?_) (AllReadyH.cons rfl (fun K hK => ?_) AllReadyH.nil)
      · go_simp
        refine hK.out _ _ (by (try dsimp only); go_keep) (fun hHeld => ?_)
        clear hK K
        try simp only [Act.put, qT, qS, qR]
        refine wpAnyH_ready (rs := [8]) (by kernel_rfl) (by simp) ?_
        refine AllReadyH.cons rfl (fun K hK => ?_) AllReadyH.nil
        go_simp
        refine hK.out _ _ (by (try dsimp only); go_keep) (fun hHeld => ?_)
        clear hK K
        try simp only [Act.put, qT, qS, qR]
        refine wpAnyH_ready (rs := [9]) (by kernel_rfl) (by simp) ?_
        refine AllReadyH.cons rfl (fun K hK => ?_) AllReadyH.nil
        go_simp
        refine hK.out _ _ (by (try dsimp only); go_keep) (fun hHeld => ?_)
        clear hK K
        try simp only [Act.put, qT, qS, qR]
        refine wpAnyH_ready (rs := [10]) (by kernel_rfl) (by simp) ?_
        refine AllReadyH.cons rfl (fun K hK => ?_) AllReadyH.nil
        refine pF rfl _ _ _ 26 rfl _ 1 24 Try.infoInts Try.underlying54 rfl (by decide) w3.heap.size v4 rs.length (rs.map fun b => .slice (some ⟨b, 0, none⟩) o.length o.length) rfl ((qK HE).bw (by repeat first|exact br _|assumption|apply bd|apply bn|apply ba|refine bt ?_ (by assumption))).own _ _ [.slice (some ⟨wr.heap.size, 0, none⟩) o.length o.length] rfl rfl (nZ (qQ (qN _ _ (by simp)) rfl)) (by simp [Value.oneCell']) (by omega) (by omega) (Bw.size (Bw.trans (qK HE).base (by repeat first|exact br _|assumption|apply bd|apply bn|apply ba|refine bt ?_ (by assumption)))) ?_
        intro g' cap w7 ho7 hg7 hl7
        obtain ⟨t1, t2, t3, t4, hnx⟩ := EpL.next (qK HE) (r := wr.heap.size) (hg := hg7) (ho := ho7) (hb := by exact (by repeat first|exact br _|assumption|apply bd|apply bn|apply ba|refine bt ?_ (by assumption))) (hr := by exact (yU wr _ _).1) (hlo := Nat.le_refl _) (hs := (madeI _).1) (hz := (madeI _).2)
        have Hnx := qJ hnx
        obtain ⟨t5, t6⟩ := t4 _ _ (qK Hgr)
        have t7 := qQ (o := 0) t5 rfl
        refine hK.out _ _ (by (try dsimp only); go_keep) (fun hHeld => ?_)
        clear hK K
        try simp only [Act.put, qT, qS, qR]
        refine tk 11 ?_; try simp only [Act.put, qT, qS, qR]
        refine tk 12 ?_; try simp only [Act.put, qT, qS, qR]
        refine wpAnyH_ready (rs := [13]) (by kernel_rfl) (by simp) ?_
        refine AllReadyH.cons rfl (fun K hK => ?_) AllReadyH.nil
        go_simp
        refine hK.out _ _ (qQ (t6 _) rfl) (fun hHeld => ?_)
        clear hK K
        try simp only [Act.put, qT, qS, qR]
        refine wpAnyH_done (by kernel_rfl) ?_ _
        go_wp2_with fail
        go_roundw
        case rel => exact ⟨rs.length + 1, _, _, by omega, by go_num, by rw [List.length_append]; rfl, (qK Hnx).bw (by repeat first|exact br _|assumption|apply bd|apply bn|apply ba|refine bt ?_ (by assumption))⟩
        case measure => simp [intOf]; omega
      · go_simp
        refine hK.out _ _ (by (try dsimp only); go_keep) (fun hHeld => ?_)
        clear hK K
        try simp only [Act.put, qT, qS, qR]
        refine wpAnyH_ready (rs := [4, 9]) (by kernel_rfl) (by simp) ?_
        refine AllReadyH.cons rfl (fun K hK => ?_) (AllReadyH.cons rfl (fun K hK => ?_) AllReadyH.nil)
        · go_simp
          refine hK.out _ _ (by (try dsimp only); go_keep) (fun hHeld => ?_)
          clear hK K
          try simp only [Act.put, qT, qS, qR]
          refine wpAnyH_ready (rs := [9]) (by kernel_rfl) (by simp) ?_
          refine AllReadyH.cons rfl (fun K hK => ?_) AllReadyH.nil
          go_simp
          refine hK.out _ _ (by (try dsimp only); go_keep) (fun hHeld => ?_)
          clear hK K
          try simp only [Act.put, qT, qS, qR]
          refine wpAnyH_ready (rs := [10]) (by kernel_rfl) (by simp) ?_
          refine AllReadyH.cons rfl (fun K hK => ?_) AllReadyH.nil
          refine pF rfl _ _ _ 26 rfl _ 1 24 Try.infoInts Try.underlying54 rfl (by decide) w3.heap.size v4 rs.length (rs.map fun b => .slice (some ⟨b, 0, none⟩) o.length o.length) rfl ((qK HE).bw (by repeat first|exact br _|assumption|apply bd|apply bn|apply ba|refine bt ?_ (by assumption))).own _ _ [.slice (some ⟨wr.heap.size, 0, none⟩) o.length o.length] rfl rfl (nZ (qQ (qN _ _ (by simp)) rfl)) (by simp [Value.oneCell']) (by omega) (by omega) (Bw.size (Bw.trans (qK HE).base (by repeat first|exact br _|assumption|apply bd|apply bn|apply ba|refine bt ?_ (by assumption)))) ?_
          intro g' cap w7 ho7 hg7 hl7
          obtain ⟨t1, t2, t3, t4, hnx⟩ := EpL.next (qK HE) (r := wr.heap.size) (hg := hg7) (ho := ho7) (hb := by exact (by repeat first|exact br _|assumption|apply bd|apply bn|apply ba|refine bt ?_ (by assumption))) (hr := by exact (yU wr _ _).1) (hlo := Nat.le_refl _) (hs := (madeI _).1) (hz := (madeI _).2)
          have Hnx := qJ hnx
          obtain ⟨t5, t6⟩ := t4 _ _ (qK Hgr)
          have t7 := qQ (o := 0) t5 rfl
          refine hK.out _ _ (by (try dsimp only); go_keep) (fun hHeld => ?_)
          clear hK K
          try simp only [Act.put, qT, qS, qR]
          refine tk 11 ?_; try simp only [Act.put, qT, qS, qR]
          refine tk 12 ?_; try simp only [Act.put, qT, qS, qR]
          refine wpAnyH_ready (rs := [13]) (by kernel_rfl) (by simp) ?_
          refine AllReadyH.cons rfl (fun K hK => ?_) AllReadyH.nil
          go_simp
          refine hK.out _ _ (qQ (t6 _) rfl) (fun hHeld => ?_)
          clear hK K
          try simp only [Act.put, qT, qS, qR]
          refine wpAnyH_done (by kernel_rfl) ?_ _
          go_wp2_with fail
          go_roundw
          case rel => exact ⟨rs.length + 1, _, _, by omega, by go_num, by rw [List.length_append]; rfl, (qK Hnx).bw (by repeat first|exact br _|assumption|apply bd|apply bn|apply ba|refine bt ?_ (by assumption))⟩
          case measure => simp [intOf]; omega
        · go_simp
          refine hK.out _ _ (by (try dsimp only); go_keep) (fun hHeld => ?_)
          clear hK K
          try simp only [Act.put, qT, qS, qR]
          refine wpAnyH_ready (rs := [4]) (by kernel_rfl) (by simp) ?_
          refine AllReadyH.cons rfl (fun K hK => ?_) AllReadyH.nil
          go_simp
          refine hK.out _ _ (by (try dsimp only); go_keep) (fun hHeld => ?_)
          clear hK K
          try simp only [Act.put, qT, qS, qR]
          refine wpAnyH_ready (rs := [10]) (by kernel_rfl) (by simp) ?_
          refine AllReadyH.cons rfl (fun K hK => ?_) AllReadyH.nil
          refine pF rfl _ _ _ 26 rfl _ 1 24 Try.infoInts Try.underlying54 rfl (by decide) w3.heap.size v4 rs.length (rs.map fun b => .slice (some ⟨b, 0, none⟩) o.length o.length) rfl ((qK HE).bw (by repeat first|exact br _|assumption|apply bd|apply bn|apply ba|refine bt ?_ (by assumption))).own _ _ [.slice (some ⟨wr.heap.size, 0, none⟩) o.length o.length] rfl rfl (nZ (qQ (qN _ _ (by simp)) rfl)) (by simp [Value.oneCell']) (by omega) (by omega) (Bw.size (Bw.trans (qK HE).base (by repeat first|exact br _|assumption|apply bd|apply bn|apply ba|refine bt ?_ (by assumption)))) ?_
          intro g' cap w7 ho7 hg7 hl7
          obtain ⟨t1, t2, t3, t4, hnx⟩ := EpL.next (qK HE) (r := wr.heap.size) (hg := hg7) (ho := ho7) (hb := by exact (by repeat first|exact br _|assumption|apply bd|apply bn|apply ba|refine bt ?_ (by assumption))) (hr := by exact (yU wr _ _).1) (hlo := Nat.le_refl _) (hs := (madeI _).1) (hz := (madeI _).2)
          have Hnx := qJ hnx
          obtain ⟨t5, t6⟩ := t4 _ _ (qK Hgr)
          have t7 := qQ (o := 0) t5 rfl
          refine hK.out _ _ (by (try dsimp only); go_keep) (fun hHeld => ?_)
          clear hK K
          try simp only [Act.put, qT, qS, qR]
          refine tk 11 ?_; try simp only [Act.put, qT, qS, qR]
          refine tk 12 ?_; try simp only [Act.put, qT, qS, qR]
          refine wpAnyH_ready (rs := [13]) (by kernel_rfl) (by simp) ?_
          refine AllReadyH.cons rfl (fun K hK => ?_) AllReadyH.nil
          go_simp
          refine hK.out _ _ (qQ (t6 _) rfl) (fun hHeld => ?_)
          clear hK K
          try simp only [Act.put, qT, qS, qR]
          refine wpAnyH_done (by kernel_rfl) ?_ _
          go_wp2_with fail
          go_roundw
          case rel => exact ⟨rs.length + 1, _, _, by omega, by go_num, by rw [List.length_append]; rfl, (qK Hnx).bw (by repeat first|exact br _|assumption|apply bd|apply bn|apply ba|refine bt ?_ (by assumption))⟩
          case measure => simp [intOf]; omega
    · have hkk : rs.length = W := by omega
      have Hkk := qJ hkk
      have HE := qJ hE
      clear hkk
      clear hE
      go_wp2_with fail
      go_ret2
      obtain ⟨hO, hB3⟩ := qK HO
      obtain ⟨g, h0⟩ := qK Hg
      obtain ⟨U, hU1, hU2⟩ := (qK HE).book g (qK Hkk) hO (qK HN2) hB3
      exact ⟨bb, o, R, W, U, rfl, g, h0, hU1, (qK HB2).trans (hB3.trans (qK HE).base), fun b hb => Nat.le_trans (qK HB2).size (hU2 b hb)⟩
def BIn (V w : World) (bb : Nat) (ns : List Nd) (R W : Nat) (gs : List Gv) (p : PSt) (st : RSt) : Prop := ∃ U, BAt w U bb ns R W gs p st ∧ (∀ b, U b → V.heap.size ≤ b) ∧ Bw V w
theorem BIn.next {V w w' : World} {U : Nat → Prop} {bb : Nat} {ns : List Nd} {R W : Nat} {gs : List Gv} {p : PSt} {st : RSt} (hU : ∀ b, U b → V.heap.size ≤ b) (hb : Bw V w) (h : BAt.After w w' U bb ns R W gs p st) : BIn V w' bb ns R W gs p st := by
  obtain ⟨U', h1, h2, h3⟩ := h
  exact ⟨U', h1, fun b hb' => (h3 b hb').elim (hU b) (fun h => Nat.le_trans hb.size h), Chg.toBw hb h2 hU⟩
theorem BIn.more {V w w' : World} {bb : Nat} {ns : List Nd} {R W : Nat} {gs : List Gv} {p : PSt} {st : RSt} (h : BIn V w bb ns R W gs p st) (hb : Bw w w') : BIn V w' bb ns R W gs p st := by
  obtain ⟨U, h1, h2, h3⟩ := h
  exact ⟨U, h1.bw hb, h2, h3.trans hb⟩
theorem OpsAt.below {w w' : World} {ad : Option Addr} {l : List OpI} (h : OpsAt w ad l) (hb : Bw w w') : OpsAt w' ad l := h.chg (U := fun _ => False) (Chg.bw hb) fun _ _ _ _ h => h
theorem BAt.out {w : World} {U : Nat → Prop} {bb : Nat} {ns : List Nd} {R W : Nat} {gs : List Gv} {p : PSt} {st : RSt} (h : BAt w U bb ns R W gs p st) {pb : Nat} (c0 : w.cell? ⟨bb, 0, none⟩ = some (.pointer (some ⟨pb, 0, none⟩))) (w' : World) (hb : Bw w w') :
    Calls Try.prog 25 #[.pointer (some ⟨pb, 0, none⟩)] w' fun en w2 => ∃ ra rcap, en = .returned (.slice ra p.rc.length rcap) ∧ NodesAt w2 ra p.rc ∧ Bw w' w2 := by
  refine (h.outs c0 w' hb).mono ?_
  rintro en w2 ⟨v, rfl, ho, h2⟩
  exact ⟨yQ v, capV v, by rw [← qW ho], nodesAt_own ho, h2⟩
theorem BAt.rcl {w : World} {U : Nat → Prop} {bb : Nat} {ns : List Nd} {R W : Nat} {gs : List Gv} {p : PSt} {st : RSt} (h : BAt w U bb ns R W gs p st) : p.rc.length ≤ 1000000000 := by
  obtain ⟨W0, T, S, pb, x, xp, h, _⟩ := h
  have := h.run.few.2
  omega
theorem BAt.inside {w : World} {U : Nat → Prop} {bb : Nat} {ns : List Nd} {R W : Nat} {gs : List Gv} {p : PSt} {st : RSt} (g : GOk ns R W) (h : BAt w U bb ns R W gs p st) {na : Option Addr} {nc : Nat} (c1 : w.cell? ⟨bb, 1, none⟩ = some (.slice na ns.length nc)) (c2 : w.cell? ⟨bb, 2, none⟩ = some (.int .i64 (R : Int))) (c3 : w.cell? ⟨bb, 3, none⟩ = some (.int .i64 (W : Int))) (cl : bb < w.heap.size) (hnd : NodesAt w na ns) (all : Bool) (hall : all = true → gS ns W p ∧ jW ns R W p = []) (ra : Option Addr) (rcap : Nat) (hrec : NodesAt w ra p.rc) (w' : World) (hb : Bw w w') (I O : Tb) (FI : Nat → Nat → Nat → List Int) (V : World) (hT : TF V w' I ns.length R FI) (hF : ∀ e s n, e < 6 → s < R → n < ns.length → FI e s n = dT ns gs n e s) :
    Calls Try.prog 26 #[.pointer (some ⟨bb, 0, none⟩), .slice ra p.rc.length rcap, .agg #[I.val ns.length, O.val ns.length], .bool all] w' fun en w2 => en = .returned (.bool true) ∧ Bw w' w2 :=
  kwithin_any g (h.kept.gvk g) all p.rc ra rcap h.rcl h.kept.outs (fun _ _ _ he hs hn hk => h.kept.out_part g hn hk he hs) (fun ha _ _ _ he hs hn hk => h.kept.out_end g (hall ha).1 (hall ha).2 hn hk he hs) bb w' na nc (((qX hb).1 _ 1 cl).trans c1) (((qX hb).1 _ 2 cl).trans c2) (((qX hb).1 _ 3 cl).trans c3) (Nat.lt_of_lt_of_le cl hb.size) (hnd.below hb) (hrec.below hb) I O FI hT hF
set_option maxRecDepth 100000 in
set_option maxHeartbeats 8000000 in
theorem kpart_any (raw : List Nd) (ga : Option Addr) (gc : Nat) (r wk : Int) (ops : List OpI) (sa : Option Addr) (sc : Nat) (w : World) (hn : NodesAt w ga raw) (hgl : raw.length ≤ maxLen) (hwf : ∀ j, j < raw.length → (qV raw j).wf) (hwk : mQ wk) (ho : OpsAt w sa ops) (hol : ops.length ≤ 140737488355328) (how : ∀ j, j < ops.length → (opn ops j).wf) :
    Calls Try.prog 8 #[.agg #[.slice ga raw.length gc, .int .i64 r], .int .i64 wk, .slice sa ops.length sc] w fun e w' => e = .returned (.bool true) ∧ Bw w w' := by
  go_enter Try.func8, Try.ntmps8
  go_wp2_with fail
  refine (kopen_any raw _ _ _ _ _ (hn.below (by repeat first|exact br _|assumption|apply bd|apply bn|apply ba|refine bt ?_ (by assumption))) hgl hwf hwk).mono ?_
  rintro e1 w1 ⟨bb, ns, R, W, U, rfl, g, h0, hB1, hb1, hU1⟩
  have hUw : ∀ b, U b → w.heap.size ≤ b := fun b hb => Nat.le_trans (Bw.size (by repeat first|exact br _|assumption|apply bd|apply bn|apply ba|refine bt ?_ (by assumption))) (hU1 b hb)
  have hbw : Bw w w1 := Bw.trans (by repeat first|exact br _|assumption|apply bd|apply bn|apply ba|refine bt ?_ (by assumption)) hb1
  have Hg := qJ (⟨g, h0⟩ : _ ∧ _)
  have Hst : Hid (BIn w w1 bb ns R W [] (rP (tF ns W)) rst0) := qJ ⟨U, hB1, hUw, hbw⟩
  have hrc0 : (rP (tF ns W)).rc.length = 0 := rfl
  have Hrc0 := qJ hrc0
  clear hn hgl hwf hB1 hb1 hU1 hUw hbw g h0 hrc0
  go_wp2_with fail
  go_loopw [9, 10] (fun m i wr => ∃ (k : Nat) (gs : List Gv) (p : PSt) (st : RSt), k ≤ ops.length ∧ i = .int .i64 k ∧ BIn w wr bb ns R W gs p st ∧ ∃ mm : Nat, m = .int .i64 mm ∧ mm ≤ p.rc.length) (fun _ i _ => ops.length - (intOf i).toNat)
  case atStart => exact ⟨0, _, _, _, Nat.zero_le _, rfl, qK Hst, 0, rfl, Nat.zero_le _⟩
  case round =>
    clear Hst
    obtain ⟨k, gs, p, st, hk, rfl, hIn, mm, rfl, hmm⟩ := hrel
    rename World => wr
    obtain ⟨U1, hB1, hU1, hb1⟩ := hIn
    by_cases hlt : k < ops.length
    · have hk1 : (k : Int) < (ops.length : Int) := by omega
      obtain ⟨b, off, rfl, hb, hcc⟩ := (ho.below hb1) k hlt
      obtain ⟨z0, z1, z2, z3⟩ := hcc k hlt
      have Hst := qJ (kstep_any (qK Hg).1 (qK Hg).2 (opn ops k) (how k hlt) wr hB1)
      have HI := qJ (fun (w' : World) gs p st h => @BIn.next w wr w' U1 bb ns R W gs p st hU1 hb1 h)
      clear hcc hB1 hU1 hb1
      generalize opn ops k = o at *
      go_wp2_with fail
      refine (qK Hst).mono ?_
      rintro e2 w2 ⟨rfl, gs2, p2, st2, hA2, hM2⟩
      have HI2 := qJ ((qK HI) _ _ _ _ hA2)
      obtain ⟨U2, hB2, hU2, hb2⟩ := qK HI2
      obtain ⟨pb, na, va, nc, vc, c0, c1, c2, c3, c5, c6, c7, cl, hnd, hgv, _⟩ := hB2.all
      have Hou := qJ (hB2.out c0 w2 (Bw.refl _))
      have H4 := qJ (⟨hB2, c1, c2, c3, c5, cl, hnd, hgv⟩ : _ ∧ _ ∧ _ ∧ _ ∧ _ ∧ _ ∧ _ ∧ _)
      have hmm2 := Nat.le_trans hmm hM2.2
      have hrl := hB2.rcl
      clear hA2 hM2 HI Hst hB2 hU2 hb2 c1 c2 c3 c5 c6 c7 hnd hgv hmm z0 z1 z2 z3 hb
      go_wp2_with fail
      refine (qK Hou).mono ?_
      rintro e5 w5 ⟨ra, rcap, rfl, hrec, hB5⟩
      have Hrec := qJ hrec
      obtain ⟨q, hq⟩ : ∃ q, p2.rc.length = q := ⟨_, rfl⟩
      have Hq := qJ hq
      have hlq : ¬ (q : Int) < (mm : Int) := by omega
      rw [hq] at hmm2 hrl ⊢
      have HB5 := qJ hB5
      by_cases heq : q = mm
      · have hd : ((q : Int) == (mm : Int)) = true := by simp; omega
        clear hrec hq c0 cl hB5
        go_wp2_with fail
        go_quiet (fail)
        go_wp2_with fail
        go_roundw
        case rel => exact ⟨k + 1, gs2, p2, st2, by omega, by go_num, (qK HI2).more ((qK HB5).trans (by repeat first|exact br _|assumption|apply bd|apply bn|apply ba|refine bt ?_ (by assumption))), q, by go_num, by have := qK Hq; omega⟩
        case measure => simp [intOf]; omega
      · have hd : ((q : Int) == (mm : Int)) = false := by simp; omega
        obtain ⟨hB4', c1', c2', c3', c5', cl', hnd', hgv'⟩ := qK H4
        have c1 := ((qX hB5).1 _ 1 cl').trans c1'
        have c2 := ((qX hB5).1 _ 2 cl').trans c2'
        have c3 := ((qX hB5).1 _ 3 cl').trans c3'
        have c5 := ((qX hB5).1 _ 5 cl').trans c5'
        have cl2 := Nat.lt_of_lt_of_le cl' hB5.size
        have hB6 := hB4'.bw hB5
        have Hfl := qJ (fun (w' : World) (hb : Bw w5 w') => hB6.flow (qK Hg).1 (qK Hg).2 (hnd'.below hB5) (hgv'.below hB5) nc vc w' hb)
        have hwi := hB6.inside (qK Hg).1 c1 c2 c3 cl2 (hnd'.below hB5) false (fun h => by cases h) ra rcap hrec
        rw [hq] at hwi
        have Hwi := qJ hwi
        clear hB4' c1' c2' c3' c5' cl' hnd' hgv' hB6 hrec c0 cl H4 Hou c3 hB5 hwi hq heq
        have cl := cl2
        clear cl2
        go_wp2_with fail
        refine wp_region_held_drew (S := (fun w' => w'.cell? ⟨bb, 1, none⟩ = some (.slice na ns.length nc) ∧ w'.cell? ⟨bb, 2, none⟩ = some (.int .i64 (R : Int)) ∧ w'.cell? ⟨bb, 5, none⟩ = some (.slice va gs2.length vc))) (by kernel_rfl) (by (try dsimp only); go_keep) (fun hHeld => ?_)
        refine tk 0 ?_; try simp only [Act.put, qT, qS, qR]
        refine tk 1 ?_; try simp only [Act.put, qT, qS, qR]
        refine tk 2 ?_; try simp only [Act.put, qT, qS, qR]
        refine tk 3 ?_; try simp only [Act.put, qT, qS, qR]
        refine tk 4 ?_; try simp only [Act.put, qT, qS, qR]
        refine wpAnyH_take (i := 5) (v := ?vp5) rfl (by kernel_rfl) (by kernel_rfl) (by kernel_rfl) (fun _ _ _ h => h) (Or.inl ⟨by kernel_rfl, ?hp5⟩) (by assumption) ?rp5; (case hp5 => intro w S; (try dsimp only at S); go_simp; try with_reducible rfl); try simp only [Act.put, qT, qS, qR]
        refine wpAnyH_take (i := 6) (v := ?vp6) rfl (by kernel_rfl) (by kernel_rfl) (by kernel_rfl) (fun _ _ _ h => h) (Or.inl ⟨by kernel_rfl, ?hp6⟩) (by assumption) ?rp6; (case hp6 => intro w S; (try dsimp only at S); go_simp; try with_reducible rfl); try simp only [Act.put, qT, qS, qR]
        refine wpAnyH_take (i := 7) (v := ?vp7) rfl (by kernel_rfl) (by kernel_rfl) (by kernel_rfl) (fun _ _ _ h => h) (Or.inl ⟨by kernel_rfl, ?hp7⟩) (by assumption) ?rp7; (case hp7 => intro w S; (try dsimp only at S); go_simp; try with_reducible rfl); try simp only [Act.put, qT, qS, qR]
        refine wpAnyH_take (i := 8) (v := ?vp8) rfl (by kernel_rfl) (by kernel_rfl) (by kernel_rfl) (fun _ _ _ h => h) (Or.inl ⟨by kernel_rfl, ?hp8⟩) (by assumption) ?rp8; (case hp8 => intro w S; (try dsimp only at S); go_simp; try with_reducible rfl); try simp only [Act.put, qT, qS, qR]
        refine wpAnyH_take (i := 9) (v := ?vp9) rfl (by kernel_rfl) (by kernel_rfl) (by kernel_rfl) (fun _ _ _ h => h) (Or.inl ⟨by kernel_rfl, ?hp9⟩) (by assumption) ?rp9; (case hp9 => intro w S; (try dsimp only at S); go_simp; try with_reducible rfl); try simp only [Act.put, qT, qS, qR]
        refine wpAnyH_take (i := 10) (v := ?vp10) rfl (by kernel_rfl) (by kernel_rfl) (by kernel_rfl) (fun _ _ _ h => h) (Or.inl ⟨by kernel_rfl, ?hp10⟩) (by assumption) ?rp10; (case hp10 => intro w S; (try dsimp only at S); go_simp; try with_reducible rfl); try simp only [Act.put, qT, qS, qR]
        refine wpAnyH_take (i := 11) (v := ?vp11) rfl (by kernel_rfl) (by kernel_rfl) (by kernel_rfl) (fun _ _ _ h => h) (Or.inl ⟨by kernel_rfl, ?hp11⟩) (by assumption) ?rp11; (case hp11 => intro w S; (try dsimp only at S); go_simp; try with_reducible rfl); try simp only [Act.put, qT, qS, qR]
        refine wpAnyH_take (i := 12) (v := ?vp12) rfl (by kernel_rfl) (by kernel_rfl) (by kernel_rfl) (fun _ _ _ h => h) (Or.inl ⟨by kernel_rfl, ?hp12⟩) (by assumption) ?rp12; (case hp12 => intro w S; (try dsimp only at S); go_simp; try with_reducible rfl); try simp only [Act.put, qT, qS, qR]
        refine wpAnyH_take (i := 13) (v := ?vp13) rfl (by kernel_rfl) (by kernel_rfl) (by kernel_rfl) (fun _ _ _ h => h) (Or.inl ⟨by kernel_rfl, ?hp13⟩) (by assumption) ?rp13; (case hp13 => intro w S; (try dsimp only at S); go_simp; try with_reducible rfl); try simp only [Act.put, qT, qS, qR]
        refine wpAnyH_take (i := 14) (v := ?vp14) rfl (by kernel_rfl) (by kernel_rfl) (by kernel_rfl) (fun _ _ _ h => h) (Or.inl ⟨by kernel_rfl, ?hp14⟩) (by assumption) ?rp14; (case hp14 => intro w S; (try dsimp only at S); go_simp; try with_reducible rfl); try simp only [Act.put, qT, qS, qR]
        refine wpAnyH_ready (rs := [15]) (by kernel_rfl) (by simp) ?_
        refine AllReadyH.cons rfl (fun K hK => ?_) AllReadyH.nil
        go_simp
        go_at_call 27
        refine ((qK Hfl) _ (by repeat first|exact br _|assumption|apply bd|apply bn|apply ba|refine bt ?_ (by assumption))).mono ?_
        rintro e8 w8 ⟨I, O, FI, rfl, hT8, hF8, hB8⟩
        have hb8 := Bw.trans (show Bw w5 _ from (by repeat first|exact br _|assumption|apply bd|apply bn|apply ba|refine bt ?_ (by assumption))) hB8
        have t1 := ((qX hb8).1 _ 1 cl).trans c1
        have t2 := ((qX hb8).1 _ 2 cl).trans c2
        have t5 := ((qX hb8).1 _ 5 cl).trans c5
        (try go_wp2_with fail)
        refine hK.out _ _ (by (try dsimp only); go_keep) (fun hHeld => ?_)
        clear hK K
        try simp only [Act.put, qT, qS, qR]
        refine wpAnyH_ready (rs := [16]) (by kernel_rfl) (by simp) ?_
        refine AllReadyH.cons rfl (fun K hK => ?_) AllReadyH.nil
        go_simp
        go_at_call 26
        refine ((qK Hwi) _ (Bw.trans hb8 (by repeat first|exact br _|assumption|apply bd|apply bn|apply ba|refine bt ?_ (by assumption))) I O FI _ (hT8.bw (by repeat first|exact br _|assumption|apply bd|apply bn|apply ba|refine bt ?_ (by assumption))) hF8).mono ?_
        rintro e9 w9 ⟨rfl, hB9⟩
        have hb9 := hb8.trans (Bw.trans (show Bw w8 _ from (by repeat first|exact br _|assumption|apply bd|apply bn|apply ba|refine bt ?_ (by assumption))) hB9)
        have t1 := ((qX hb9).1 _ 1 cl).trans c1
        have t2 := ((qX hb9).1 _ 2 cl).trans c2
        have t5 := ((qX hb9).1 _ 5 cl).trans c5
        (try go_wp2_with fail)
        refine hK.out _ _ (by (try dsimp only); go_keep) (fun hHeld => ?_)
        clear hK K
        try simp only [Act.put, qT, qS, qR]
        refine tk 17 ?_; try simp only [Act.put, qT, qS, qR]
        refine tk 18 ?_; try simp only [Act.put, qT, qS, qR]
        refine wpAnyH_done (by kernel_rfl) ?_ _
        clear Hfl Hwi t1 t2 t5 hT8 hF8 c1 c2 c5 cl
        go_wp2_with fail
        go_roundw
        case rel => exact ⟨k + 1, gs2, p2, st2, by omega, by go_num, (qK HI2).more ((qK HB5).trans hb9), q, by go_num, by have := qK Hq; omega⟩
        case measure => simp [intOf]; omega
    · have hkk : k = ops.length := by omega
      subst hkk
      have Hfi := qJ (kfinish_any (qK Hg).1 (qK Hg).2 [] none 0 wr hB1 (fun i hi => absurd hi (Nat.not_lt_zero _)) (by simp) (fun v hv => by simp at hv) (fun i hi => absurd hi (Nat.not_lt_zero _)))
      have HI2 := qJ (fun (w' : World) gs p st h => @BIn.next w wr w' U1 bb ns R W gs p st hU1 hb1 h)
      clear hB1 hU1 hb1 hmm
      go_wp2_with fail
      refine (qK Hfi).mono ?_
      rintro e3 w3 ⟨rfl, p, st, hA3, _, hcl3, hac3⟩
      obtain ⟨U3, hB3, hU3, hb3⟩ := (qK HI2) _ _ _ _ hA3
      obtain ⟨pb, na, va, nc, vc, c0, c1, c2, c3, c5, c6, c7, cl, hnd, hgv, _⟩ := hB3.all
      have Hou := qJ (hB3.out c0 w3 (Bw.refl _))
      have H4 := qJ (⟨hB3, c1, c2, c3, c5, cl, hnd, hgv, hcl3, hac3, hb3⟩ : _ ∧ _ ∧ _ ∧ _ ∧ _ ∧ _ ∧ _ ∧ _ ∧ _ ∧ _ ∧ _)
      clear hA3 hB3 hU3 hb3 HI2 Hfi hcl3 hac3 c1 c2 c3 c5 c6 c7 hnd hgv
      go_wp2_with fail
      refine (qK Hou).mono ?_
      rintro e5 w5 ⟨ra, rcap, rfl, hrec, hB5⟩
      obtain ⟨hB4', c1', c2', c3', c5', cl', hnd', hgv', hcl3, hac3, hb3⟩ := qK H4
      have c1 := ((qX hB5).1 _ 1 cl').trans c1'
      have c2 := ((qX hB5).1 _ 2 cl').trans c2'
      have c3 := ((qX hB5).1 _ 3 cl').trans c3'
      have c5 := ((qX hB5).1 _ 5 cl').trans c5'
      have cl2 := Nat.lt_of_lt_of_le cl' hB5.size
      have hB6 := hB4'.bw hB5
      have Hfl := qJ (fun (w' : World) (hb : Bw w5 w') => hB6.flow (qK Hg).1 (qK Hg).2 (hnd'.below hB5) (hgv'.below hB5) nc vc w' hb)
      have Hwi := qJ (hB6.inside (qK Hg).1 c1 c2 c3 cl2 (hnd'.below hB5) true (fun _ => ⟨hcl3, hac3⟩) ra rcap hrec)
      have HB := qJ (hb3.trans hB5)
      clear hB4' c1' c2' c3' c5' cl' hnd' hgv' hB6 hrec c0 cl H4 Hou c3 hB5 hb3 hcl3 hac3
      have cl := cl2
      clear cl2
      go_wp2_with fail
      refine wp_region_held_drew (S := (fun w' => w'.cell? ⟨bb, 1, none⟩ = some (.slice na ns.length nc) ∧ w'.cell? ⟨bb, 2, none⟩ = some (.int .i64 (R : Int)) ∧ w'.cell? ⟨bb, 5, none⟩ = some (.slice va gs.length vc))) (by kernel_rfl) (by (try dsimp only); go_keep) (fun hHeld => ?_)
      refine tk 0 ?_; try simp only [Act.put, qT, qS, qR]
      refine tk 1 ?_; try simp only [Act.put, qT, qS, qR]
      refine tk 2 ?_; try simp only [Act.put, qT, qS, qR]
      refine tk 3 ?_; try simp only [Act.put, qT, qS, qR]
      refine tk 4 ?_; try simp only [Act.put, qT, qS, qR]
      refine tk 5 ?_; try simp only [Act.put, qT, qS, qR]
      refine tk 6 ?_; try simp only [Act.put, qT, qS, qR]
      refine tk 7 ?_; try simp only [Act.put, qT, qS, qR]
      refine tk 8 ?_; try simp only [Act.put, qT, qS, qR]
      refine tk 9 ?_; try simp only [Act.put, qT, qS, qR]
      refine wpAnyH_ready (rs := [10]) (by kernel_rfl) (by simp) ?_
      refine AllReadyH.cons rfl (fun K hK => ?_) AllReadyH.nil
      go_simp
      go_at_call 27
      refine ((qK Hfl) _ (by repeat first|exact br _|assumption|apply bd|apply bn|apply ba|refine bt ?_ (by assumption))).mono ?_
      rintro e8 w8 ⟨I, O, FI, rfl, hT8, hF8, hB8⟩
      have hb8 := Bw.trans (show Bw w5 _ from (by repeat first|exact br _|assumption|apply bd|apply bn|apply ba|refine bt ?_ (by assumption))) hB8
      have t1 := ((qX hb8).1 _ 1 cl).trans c1
      have t2 := ((qX hb8).1 _ 2 cl).trans c2
      have t5 := ((qX hb8).1 _ 5 cl).trans c5
      (try go_wp2_with fail)
      refine hK.out _ _ (by (try dsimp only); go_keep) (fun hHeld => ?_)
      clear hK K
      try simp only [Act.put, qT, qS, qR]
      refine wpAnyH_ready (rs := [11]) (by kernel_rfl) (by simp) ?_
      refine AllReadyH.cons rfl (fun K hK => ?_) AllReadyH.nil
      go_simp
      go_at_call 26
      refine ((qK Hwi) _ (Bw.trans hb8 (by repeat first|exact br _|assumption|apply bd|apply bn|apply ba|refine bt ?_ (by assumption))) I O FI _ (hT8.bw (by repeat first|exact br _|assumption|apply bd|apply bn|apply ba|refine bt ?_ (by assumption))) hF8).mono ?_
      rintro e9 w9 ⟨rfl, hB9⟩
      have hb9 := hb8.trans (Bw.trans (show Bw w8 _ from (by repeat first|exact br _|assumption|apply bd|apply bn|apply ba|refine bt ?_ (by assumption))) hB9)
      have t1 := ((qX hb9).1 _ 1 cl).trans c1
      have t2 := ((qX hb9).1 _ 2 cl).trans c2
      have t5 := ((qX hb9).1 _ 5 cl).trans c5
      (try go_wp2_with fail)
      refine hK.out _ _ (by (try dsimp only); go_keep) (fun hHeld => ?_)
      clear hK K
      try simp only [Act.put, qT, qS, qR]
      refine wpAnyH_ready (rs := [12]) (by kernel_rfl) (by simp) ?_
      refine AllReadyH.cons rfl (fun K hK => ?_) AllReadyH.nil
      go_simp
      refine hK.out _ _ (by (try dsimp only); go_keep) (fun hHeld => ?_)
      clear hK K
      try simp only [Act.put, qT, qS, qR]
      refine wpAnyH_done (by kernel_rfl) ?_ _
      clear Hfl Hwi t1 t2 t5 hT8 hF8 c1 c2 c5 cl
      go_wp2_with fail
      go_ret
      exact ⟨rfl, (qK HB).trans hb9⟩
end Go.Proofs.Ytfemleimkbjehaa
namespace Go.Proofs.Ytfemleimkbjehaa
open Go.ChangeShapes Go.WideShapes Go.ChangeAt Go.RowKit Go.Joins Go.Deep
theorem Try.own : ownKnob Try.prog.godebug = none := by kernel_rfl
theorem Try.laidOut : laidOutB Try.prog = true := by kernel_rfl
theorem Try.cellsInt : Try.prog.cellsOf 3 = 1 := by kernel_rfl
theorem Try.cellsNode : Try.prog.cellsOf 32 = 5 := by kernel_rfl
theorem Try.cellsGraph : Try.prog.cellsOf 24 = 2 := by kernel_rfl
theorem Try.bytesNode : Try.prog.bytesOf 32 = 40 := by kernel_rfl
section
variable {H : Type} {enc : TypeId × Value → H} {w : World} {base : Nat} {spare : Nat → Bool} {held : Bool}
theorem xM {α β : Type} {f : α → Option β} {l : List α} {r : List β} (h : l.mapM f = some r) {i : Nat} {x : α} (hx : l[i]? = some x) : ∃ y, f x = some y := by
  have hlt : i < l.length := (List.getElem?_eq_some_iff.1 hx).1
  have hr := mapM_some_length h
  exact ⟨r[i]'(by omega), by rw [mapM_some_get h i x hx]; exact List.getElem?_eq_getElem _⟩
theorem list5 {α : Type} {l : List α} (h : l.length = 5) : ∃ a b c d e, l = [a, b, c, d, e] := by
  match l, h with
  | [a, b, c, d, e], _ => exact ⟨a, b, c, d, e, rfl⟩
end
end Go.Proofs.Ytfemleimkbjehaa
