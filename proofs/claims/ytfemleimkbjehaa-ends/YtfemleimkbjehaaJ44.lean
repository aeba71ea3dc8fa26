import Derived.Test.YtfemleimkbjehaaJ43
import Derived.Test.YtfemleimkbjehaaJ42
import Derived.Test.YtfemleimkbjehaaJ1
import Derived.ProofKit
import Derived.SizedLaws
import Derived.Lib.SmallJoins
import Derived.Deep.Slices
import Derived.Test.YtfemleimkbjehaaJ2
import Derived.Carry
set_option maxRecDepth 1000000
set_option maxHeartbeats 40000000
set_option linter.unusedVariables false
set_option linter.unusedSimpArgs false
namespace Go.Proofs.Ytfemleimkbjehaa
open Go.RowKit
theorem madeI (L : Nat) : (madeCells #[.int .i64 0] L).size = L ∧ ∀ n, n < L → (madeCells #[.int .i64 0] L)[n]? = some (.int .i64 0) := by
  refine ⟨by simp [size_madeCells], fun j hj => ?_⟩
  rw [← Array.getElem?_toList, toList_madeCells_one]
  simp [hj]
set_option maxRecDepth 100000 in
set_option maxHeartbeats 8000000 in
theorem kopen_any (raw : List Nd) (ga : Option Addr) (gc : Nat) (r wk : Int) (w : World) (hn : NodesAt w ga raw) (hgl : raw.length ≤ maxLen) (hwf : ∀ j, j < raw.length → (qV raw j).wf) (hwk : mJ wk) :
    Calls Try.prog 21 #[.agg #[.slice ga raw.length gc, .int .i64 r], .int .i64 wk] w fun en w' => ∃ (bb : Nat) (ns : List Nd) (R W : Nat) (U : Nat → Prop), en = .returned (.tuple #[.pointer (some ⟨bb, 0, none⟩), .bool true]) ∧ GOk ns R W ∧ (qV ns 0).kind = 0 ∧ BAt w' U bb ns R W [] (pC (pJ ns W)) rst0 ∧ Bw w w' ∧ ∀ b, U b → w.heap.size ≤ b := by
  go_enter Try.func21, Try.ntmps21
  go_wp2_with fail
  refine (fit_any raw _ _ _ _ (hn.below (by repeat first|exact br _|assumption|apply bd|apply bn|apply ba|refine bt ?_ (by assumption))) hgl hwf).mono ?_
  rintro e w1 ⟨o, oa, oc, r', rfl, hF, hN, hB1⟩
  have hB1' := Bw.trans (show Bw w _ from (by repeat first|exact br _|assumption|apply bd|apply bn|apply ba|refine bt ?_ (by assumption))) hB1
  clear hB1
  go_wp2_with fail
  refine (pM _ _ _ hwk.1 hwk.2 (by omega) (by omega)).mono ?_
  rintro e w' ⟨rfl, rfl⟩
  obtain ⟨b1, b2⟩ := jB wk (n := (4 : Int)) (by omega)
  obtain ⟨j, hj, hj4⟩ : ∃ j : Nat, jS wk 4 = j ∧ j < 4 := ⟨(jS wk 4).toNat, by omega, by omega⟩
  rw [hj]
  obtain ⟨W, hWj⟩ : ∃ W, j + 1 = W := ⟨_, rfl⟩
  have hwr : IntKind.i64.wrap (1 + (j : Int)) = (W : Int) := by rw [IntKind.wrap_i64]; omega
  obtain ⟨R, rfl, g, hce⟩ := gOk_of hF (W := W) (by omega) (by omega)
  have h0 := hF.zero
  have Hg := qJ (⟨g, h0⟩ : _ ∧ _)
  have hW4 := g.hW
  have hL8 := g.h8
  have hL1 := g.h1
  obtain ⟨W2, hW2⟩ : ∃ W2, w1.alloc (.cells #[.slice oa o.length oc, .int .i64 (R : Int)] 24) = W2 := ⟨_, rfl⟩
  have hB2 : Bw w1 W2 := hW2 ▸ (by repeat first|exact br _|assumption|apply bd|apply bn|apply ba|refine bt ?_ (by assumption))
  have gx : W2.heap[w1.heap.size]? = some (.cells #[.slice oa o.length oc, .int .i64 (R : Int)] 24 (0, 0)) := hW2 ▸ heap_alloc_new w1 _
  have Hnew := qJ (fun (w' : World) (hb : Bw W2 w') => pnew_ok o oa oc R W w' (hN.below (hB2.trans hb)) hce g.h1 g.h8 g.hW1 g.hW g.hR1 g.hR)
  have HN2 := qJ (hN.below hB2)
  have g0 := qQ (o := 0) gx rfl
  have g1 := qQ (o := 1) gx rfl
  have gl := (Array.getElem?_eq_some_iff.1 gx).1
  have HB2 := qJ (hB1'.trans hB2)
  rw [hW2]
  generalize hgb : w1.heap.size = gb at gx g0 g1 gl ⊢
  have Hgx0 := qJ gx
  clear hF hN hce hj hWj b1 b2 hwf hgl hn gx hW2 hB2 hB1' hgb g h0
  go_wp2_with fail
  refine ((qK Hnew) _ (Bw.refl _)).mono ?_
  rintro e w3 ⟨pb, xp, rfl, hO, hB3⟩
  have Hgx := qJ ((Below.block hB3 _ gl).trans (qK Hgx0))
  have g0' := ((qX hB3).1 _ 0 gl).trans g0
  have g1' := ((qX hB3).1 _ 1 gl).trans g1
  have gl' := Nat.lt_of_lt_of_le gl hB3.size
  have HO := qJ (⟨hO, hB3⟩ : _ ∧ _)
  clear hO Hnew g0 g1 gl hB3
  go_wp2_with fail
  obtain ⟨W3, hW3⟩ : ∃ W3, w3.alloc (.cells #[.pointer (some ⟨pb, 0, none⟩), .slice oa o.length oc, .int .i64 (R : Int), .int .i64 (W : Int), .slice none 0 0, .slice none 0 0, .int .i64 0, .int .i64 0, .slice none 0 0] 57) = W3 := ⟨_, rfl⟩
  have hst : EpL w3 W3 w3.heap.size pb oa o.length oc R W (.slice none 0 0) [] := ⟨hW3 ▸ heap_alloc_new w3 _, World.ownsRow_nil _ _ _ _, by simp, List.nodup_nil, Nat.le_refl _, hW3 ▸ (by repeat first|exact br _|assumption|apply bd|apply bn|apply ba|refine bt ?_ (by assumption))⟩
  rw [hW3]
  have Hst := qJ hst
  generalize hbb : w3.heap.size = bb at Hst ⊢
  clear hW3 hst
  have hmk := make_ints (o.length : Int) o.length rfl (by omega)
  go_loopw [11] (fun i wr => ∃ (k : Nat) (v4 : Value) (rs : List Nat), k ≤ W ∧ i = .int .i64 k ∧ rs.length = k ∧ EpL w3 wr bb pb oa o.length oc R W v4 rs) (fun i _ => W - (intOf i).toNat)
  case atStart => exact ⟨0, _, [], Nat.zero_le _, rfl, rfl, qK Hst⟩
  case round =>
    clear Hst
    obtain ⟨k, v4, rs, hk, rfl, hrs, hE⟩ := hrel
    rename World => wr
    subst hrs
    by_cases hlt : rs.length < W
    · have hk1 : (rs.length : Int) < (W : Int) := by omega
      have g0 := ((qX hE.base).1 _ 0 gl').trans g0'
      have gl := Nat.lt_of_lt_of_le gl' hE.base.size
      have r4 := qQ (o := 4) hE.root rfl
      have rl := (Array.getElem?_eq_some_iff.1 hE.root).1
      have Hgr := qJ ((Below.block hE.base _ gl').trans (qK Hgx))
      have HE := qJ hE
      have Hbb := qJ hbb
      clear hE hbb
      go_wp2_with fail
      refine wp_region_held_drew (S := (fun w' => w'.cell? ⟨gb, 0, none⟩ = some (.slice oa o.length oc))) (by kernel_rfl) (by (try dsimp only); go_keep) (fun hHeld => ?_)
      refine tk 0 ?_; try simp only [Act.put, qT, qS, qR]
      refine tk 1 ?_; try simp only [Act.put, qT, qS, qR]
      refine tk 2 ?_; try simp only [Act.put, qT, qS, qR]
      refine tk 3 ?_; try simp only [Act.put, qT, qS, qR]
      refine tk 5 ?_; try simp only [Act.put, qT, qS, qR]
      refine tk 6 ?_; try simp only [Act.put, qT, qS, qR]
      refine tk 7 ?_; try simp only [Act.put, qT, qS, qR]
      refine wpAnyH_ready (rs := [4, 8]) (by kernel_rfl) (by simp) ?_
      refine AllReadyH.cons rfl (fun K hK => ?_) (AllReadyH.cons rfl (fun K hK => ?_) AllReadyH.nil)
      · go_simp
        refine hK.out _ _ (by (try dsimp only); go_keep) (fun hHeld => ?_)
        clear hK K
        try simp only [Act.put, qT, qS, qR]
        refine wpAnyH_ready (rs := [8]) (by kernel_rfl) (by simp) ?_
        refine AllReadyH.cons rfl (fun K hK => ?_) AllReadyH.nil
        go_simp
        refine hK.out _ _ (by (try dsimp only); go_keep) (fun hHeld => ?_)
        clear hK K
        try simp only [Act.put, qT, qS, qR]
        refine wpAnyH_ready (rs := [9]) (by kernel_rfl) (by simp) ?_
        refine AllReadyH.cons rfl (fun K hK => ?_) AllReadyH.nil
        go_simp
        refine hK.out _ _ (by (try dsimp only); go_keep) (fun hHeld => ?_)
        clear hK K
        try simp only [Act.put, qT, qS, qR]
        refine wpAnyH_ready (rs := [10]) (by kernel_rfl) (by simp) ?_
        refine AllReadyH.cons rfl (fun K hK => ?_) AllReadyH.nil
        refine nK rfl _ _ _ 26 rfl _ 1 24 Try.infoInts Try.underlying54 rfl (by decide) w3.heap.size v4 rs.length (rs.map fun b => .slice (some ⟨b, 0, none⟩) o.length o.length) rfl ((qK HE).bw (by repeat first|exact br _|assumption|apply bd|apply bn|apply ba|refine bt ?_ (by assumption))).own _ _ [.slice (some ⟨wr.heap.size, 0, none⟩) o.length o.length] rfl rfl (nX (qQ (qM _ _ (by simp)) rfl)) (by simp [Value.oneCell']) (by omega) (by omega) (Bw.size (Bw.trans (qK HE).base (by repeat first|exact br _|assumption|apply bd|apply bn|apply ba|refine bt ?_ (by assumption)))) ?_
        intro g' cap w7 ho7 hg7 hl7
        obtain ⟨t1, t2, t3, t4, hnx⟩ := EpL.next (qK HE) (r := wr.heap.size) (hg := hg7) (ho := ho7) (hb := by exact (by repeat first|exact br _|assumption|apply bd|apply bn|apply ba|refine bt ?_ (by assumption))) (hr := by exact (yU wr _ _).1) (hlo := Nat.le_refl _) (hs := (madeI _).1) (hz := (madeI _).2)
        have Hnx := qJ hnx
        obtain ⟨t5, t6⟩ := t4 _ _ (qK Hgr)
        have t7 := qQ (o := 0) t5 rfl
        refine hK.out _ _ (by (try dsimp only); go_keep) (fun hHeld => ?_)
        clear hK K
        try simp only [Act.put, qT, qS, qR]
        refine tk 11 ?_; try simp only [Act.put, qT, qS, qR]
        refine tk 12 ?_; try simp only [Act.put, qT, qS, qR]
        refine wpAnyH_ready (rs := [13]) (by kernel_rfl) (by simp) ?_
        refine AllReadyH.cons rfl (fun K hK => ?_) AllReadyH.nil
        go_simp
        refine hK.out _ _ (qQ (t6 _) rfl) (fun hHeld => ?_)
        clear hK K
        try simp only [Act.put, qT, qS, qR]
        refine wpAnyH_done (by kernel_rfl) ?_ _
        go_wp2_with fail
        go_roundw
        case rel => exact ⟨rs.length + 1, _, _, by omega, by go_num, by rw [List.length_append]; rfl, (qK Hnx).bw (by repeat first|exact br _|assumption|apply bd|apply bn|apply ba|refine bt ?_ (by assumption))⟩
        case measure => simp [intOf]; omega
      · go_simp
        refine hK.out _ _ (by (try dsimp only); go_keep) (fun hHeld => ?_)
        clear hK K
        try simp only [Act.put, qT, qS, qR]
        refine wpAnyH_ready (rs := [4, 9]) (by kernel_rfl) (by simp) ?_
        refine AllReadyH.cons rfl (fun K hK => ?_) (AllReadyH.cons rfl (fun K hK => ?_) AllReadyH.nil)
        · go_simp
          refine hK.out _ _ (by (try dsimp only); go_keep) (fun hHeld => ?_)
          clear hK K
          try simp only [Act.put, qT, qS, qR]
          refine wpAnyH_ready (rs := [9]) (by kernel_rfl) (by simp) ?_
          refine AllReadyH.cons rfl (fun K hK => ?_) AllReadyH.nil
          go_simp
          refine hK.out _ _ (by (try dsimp only); go_keep) (fun hHeld => ?_)
          clear hK K
          try simp only [Act.put, qT, qS, qR]
          refine wpAnyH_ready (rs := [10]) (by kernel_rfl) (by simp) ?_
          refine AllReadyH.cons rfl (fun K hK => ?_) AllReadyH.nil
          refine nK rfl _ _ _ 26 rfl _ 1 24 Try.infoInts Try.underlying54 rfl (by decide) w3.heap.size v4 rs.length (rs.map fun b => .slice (some ⟨b, 0, none⟩) o.length o.length) rfl ((qK HE).bw (by repeat first|exact br _|assumption|apply bd|apply bn|apply ba|refine bt ?_ (by assumption))).own _ _ [.slice (some ⟨wr.heap.size, 0, none⟩) o.length o.length] rfl rfl (nX (qQ (qM _ _ (by simp)) rfl)) (by simp [Value.oneCell']) (by omega) (by omega) (Bw.size (Bw.trans (qK HE).base (by repeat first|exact br _|assumption|apply bd|apply bn|apply ba|refine bt ?_ (by assumption)))) ?_
          intro g' cap w7 ho7 hg7 hl7
          obtain ⟨t1, t2, t3, t4, hnx⟩ := EpL.next (qK HE) (r := wr.heap.size) (hg := hg7) (ho := ho7) (hb := by exact (by repeat first|exact br _|assumption|apply bd|apply bn|apply ba|refine bt ?_ (by assumption))) (hr := by exact (yU wr _ _).1) (hlo := Nat.le_refl _) (hs := (madeI _).1) (hz := (madeI _).2)
          have Hnx := qJ hnx
          obtain ⟨t5, t6⟩ := t4 _ _ (qK Hgr)
          have t7 := qQ (o := 0) t5 rfl
          refine hK.out _ _ (by (try dsimp only); go_keep) (fun hHeld => ?_)
          clear hK K
          try simp only [Act.put, qT, qS, qR]
          refine tk 11 ?_; try simp only [Act.put, qT, qS, qR]
          refine tk 12 ?_; try simp only [Act.put, qT, qS, qR]
          refine wpAnyH_ready (rs := [13]) (by kernel_rfl) (by simp) ?_
          refine AllReadyH.cons rfl (fun K hK => ?_) AllReadyH.nil
          go_simp
          refine hK.out _ _ (qQ (t6 _) rfl) (fun hHeld => ?_)
          clear hK K
          try simp only [Act.put, qT, qS, qR]
          refine wpAnyH_done (by kernel_rfl) ?_ _
          go_wp2_with fail
          go_roundw
          case rel => exact ⟨rs.length + 1, _, _, by omega, by go_num, by rw [List.length_append]; rfl, (qK Hnx).bw (by repeat first|exact br _|assumption|apply bd|apply bn|apply ba|refine bt ?_ (by assumption))⟩
          case measure => simp [intOf]; omega
        · go_simp
          refine hK.out _ _ (by (try dsimp only); go_keep) (fun hHeld => ?_)
          clear hK K
          try simp only [Act.put, qT, qS, qR]
          refine wpAnyH_ready (rs := [4]) (by kernel_rfl) (by simp) ?_
          refine AllReadyH.cons rfl (fun K hK => ?_) AllReadyH.nil
          go_simp
          refine hK.out _ _ (by (try dsimp only); go_keep) (fun hHeld => ?_)
          clear hK K
          try simp only [Act.put, qT, qS, qR]
          refine wpAnyH_ready (rs := [10]) (by kernel_rfl) (by simp) ?_
          refine AllReadyH.cons rfl (fun K hK => ?_) AllReadyH.nil
          refine nK rfl _ _ _ 26 rfl _ 1 24 Try.infoInts Try.underlying54 rfl (by decide) w3.heap.size v4 rs.length (rs.map fun b => .slice (some ⟨b, 0, none⟩) o.length o.length) rfl ((qK HE).bw (by repeat first|exact br _|assumption|apply bd|apply bn|apply ba|refine bt ?_ (by assumption))).own _ _ [.slice (some ⟨wr.heap.size, 0, none⟩) o.length o.length] rfl rfl (nX (qQ (qM _ _ (by simp)) rfl)) (by simp [Value.oneCell']) (by omega) (by omega) (Bw.size (Bw.trans (qK HE).base (by repeat first|exact br _|assumption|apply bd|apply bn|apply ba|refine bt ?_ (by assumption)))) ?_
          intro g' cap w7 ho7 hg7 hl7
          obtain ⟨t1, t2, t3, t4, hnx⟩ := EpL.next (qK HE) (r := wr.heap.size) (hg := hg7) (ho := ho7) (hb := by exact (by repeat first|exact br _|assumption|apply bd|apply bn|apply ba|refine bt ?_ (by assumption))) (hr := by exact (yU wr _ _).1) (hlo := Nat.le_refl _) (hs := (madeI _).1) (hz := (madeI _).2)
          have Hnx := qJ hnx
          obtain ⟨t5, t6⟩ := t4 _ _ (qK Hgr)
          have t7 := qQ (o := 0) t5 rfl
          refine hK.out _ _ (by (try dsimp only); go_keep) (fun hHeld => ?_)
          clear hK K
          try simp only [Act.put, qT, qS, qR]
          refine tk 11 ?_; try simp only [Act.put, qT, qS, qR]
          refine tk 12 ?_; try simp only [Act.put, qT, qS, qR]
          refine wpAnyH_ready (rs := [13]) (by kernel_rfl) (by simp) ?_
          refine AllReadyH.cons rfl (fun K hK => ?_) AllReadyH.nil
          go_simp
          refine hK.out _ _ (qQ (t6 _) rfl) (fun hHeld => ?_)
          clear hK K
          try simp only [Act.put, qT, qS, qR]
          refine wpAnyH_done (by kernel_rfl) ?_ _
          go_wp2_with fail
          go_roundw
          case rel => exact ⟨rs.length + 1, _, _, by omega, by go_num, by rw [List.length_append]; rfl, (qK Hnx).bw (by repeat first|exact br _|assumption|apply bd|apply bn|apply ba|refine bt ?_ (by assumption))⟩
          case measure => simp [intOf]; omega
    · have hkk : rs.length = W := by omega
      have Hkk := qJ hkk
      have HE := qJ hE
      clear hkk
      clear hE
      go_wp2_with fail
      go_ret2
      obtain ⟨hO, hB3⟩ := qK HO
      obtain ⟨g, h0⟩ := qK Hg
      obtain ⟨U, hU1, hU2⟩ := (qK HE).book g (qK Hkk) hO (qK HN2) hB3
      exact ⟨bb, o, R, W, U, rfl, g, h0, hU1, (qK HB2).trans (hB3.trans (qK HE).base), fun b hb => Nat.le_trans (qK HB2).size (hU2 b hb)⟩
def BIn (V w : World) (bb : Nat) (ns : List Nd) (R W : Nat) (gs : List Gv) (p : PSt) (st : RSt) : Prop := ∃ U, BAt w U bb ns R W gs p st ∧ (∀ b, U b → V.heap.size ≤ b) ∧ Bw V w
theorem BIn.next {V w w' : World} {U : Nat → Prop} {bb : Nat} {ns : List Nd} {R W : Nat} {gs : List Gv} {p : PSt} {st : RSt} (hU : ∀ b, U b → V.heap.size ≤ b) (hb : Bw V w) (h : BAt.After w w' U bb ns R W gs p st) : BIn V w' bb ns R W gs p st := by
  obtain ⟨U', h1, h2, h3⟩ := h
  exact ⟨U', h1, fun b hb' => (h3 b hb').elim (hU b) (fun h => Nat.le_trans hb.size h), Chg.toBw hb h2 hU⟩
theorem OpsAt.below {w w' : World} {ad : Option Addr} {l : List OpI} (h : OpsAt w ad l) (hb : Bw w w') : OpsAt w' ad l := h.chg (U := fun _ => False) (Chg.bw hb) fun _ _ _ _ h => h
theorem OpsAt.apart {V : World} {U : Nat → Prop} {ad : Option Addr} {l : List OpI} (h : OpsAt V ad l) (hU : ∀ b, U b → V.heap.size ≤ b) : ∀ i, i < l.length → ∀ a, ad = some a → ¬ U a.block := fun i hi a e hu => by
  obtain ⟨b, off, e2, hb, _⟩ := h i hi
  rw [e2] at e
  have := hU _ hu
  injection e with e
  subst e
  simp only at this
  omega
theorem IntsAt.apart {V : World} {U : Nat → Prop} {ad : Option Addr} {l : List Int} (h : IntsAt V ad l) (hU : ∀ b, U b → V.heap.size ≤ b) : ∀ i, i < l.length → ∀ a, ad = some a → ¬ U a.block := fun i hi a e hu => by
  obtain ⟨b, off, e2, hb, _⟩ := h i hi
  rw [e2] at e
  have := hU _ hu
  injection e with e
  subst e
  simp only at this
  omega
theorem BAt.out {w : World} {U : Nat → Prop} {bb : Nat} {ns : List Nd} {R W : Nat} {gs : List Gv} {p : PSt} {st : RSt} (h : BAt w U bb ns R W gs p st) {pb : Nat} (c0 : w.cell? ⟨bb, 0, none⟩ = some (.pointer (some ⟨pb, 0, none⟩))) (w' : World) (hb : Bw w w') :
    Calls Try.prog 25 #[.pointer (some ⟨pb, 0, none⟩)] w' fun en w2 => ∃ ra rcap, en = .returned (.slice ra p.rc.length rcap) ∧ NodesAt w2 ra p.rc ∧ Bw w' w2 := by
  refine (h.outs c0 w' hb).mono ?_
  rintro en w2 ⟨v, rfl, ho, h2⟩
  exact ⟨vP v, capV v, by rw [← qU ho], nodesAt_own ho, h2⟩
theorem BAt.rcl {w : World} {U : Nat → Prop} {bb : Nat} {ns : List Nd} {R W : Nat} {gs : List Gv} {p : PSt} {st : RSt} (h : BAt w U bb ns R W gs p st) : p.rc.length ≤ 1000000000 := by
  obtain ⟨W0, T, S, pb, x, xp, h, _⟩ := h
  have := h.run.few.2
  omega
theorem BAt.inside {w : World} {U : Nat → Prop} {bb : Nat} {ns : List Nd} {R W : Nat} {gs : List Gv} {p : PSt} {st : RSt} (g : GOk ns R W) (h : BAt w U bb ns R W gs p st) {na : Option Addr} {nc : Nat} (c1 : w.cell? ⟨bb, 1, none⟩ = some (.slice na ns.length nc)) (c2 : w.cell? ⟨bb, 2, none⟩ = some (.int .i64 (R : Int))) (c3 : w.cell? ⟨bb, 3, none⟩ = some (.int .i64 (W : Int))) (cl : bb < w.heap.size) (hnd : NodesAt w na ns) (all : Bool) (hall : all = true → gQ ns W p ∧ jU ns R W p = []) (ra : Option Addr) (rcap : Nat) (hrec : NodesAt w ra p.rc) (w' : World) (hb : Bw w w') (I O : Tb) (FI : Nat → Nat → Nat → List Int) (V : World) (hT : TF V w' I ns.length R FI) (hF : ∀ e s n, e < 6 → s < R → n < ns.length → FI e s n = dH ns gs n e s) :
    Calls Try.prog 26 #[.pointer (some ⟨bb, 0, none⟩), .slice ra p.rc.length rcap, .agg #[I.val ns.length, O.val ns.length], .bool all] w' fun en w2 => en = .returned (.bool true) ∧ Bw w' w2 :=
  kwithin_any g (h.kept.gvk g) all p.rc ra rcap h.rcl h.kept.outs (fun _ _ _ he hs hn hk => h.kept.out_part g hn hk he hs) (fun ha _ _ _ he hs hn hk => h.kept.out_end g (hall ha).1 (hall ha).2 hn hk he hs) bb w' na nc (((qX hb).1 _ 1 cl).trans c1) (((qX hb).1 _ 2 cl).trans c2) (((qX hb).1 _ 3 cl).trans c3) (Nat.lt_of_lt_of_le cl hb.size) (hnd.below hb) (hrec.below hb) I O FI hT hF
set_option maxRecDepth 100000 in
set_option maxHeartbeats 8000000 in
theorem kends_any (raw : List Nd) (ga : Option Addr) (gc : Nat) (r wk : Int) (ops : List OpI) (sa : Option Addr) (sc : Nat) (cs : List Int) (ca : Option Addr) (cc : Nat) (w : World) (hn : NodesAt w ga raw) (hgl : raw.length ≤ maxLen) (hwf : ∀ j, j < raw.length → (qV raw j).wf) (hwk : mJ wk) (ho : OpsAt w sa ops) (hol : ops.length ≤ 140737488355328) (how : ∀ j, j < ops.length → (opn ops j).wf) (hc : IntsAt w ca cs) (hcl : cs.length ≤ 140737488355328) (hc64 : pK cs) :
    Calls Try.prog 7 #[.agg #[.slice ga raw.length gc, .int .i64 r], .int .i64 wk, .slice sa ops.length sc, .slice ca cs.length cc] w fun e w' => e = .returned (.bool true) ∧ Bw w w' := by
  go_enter Try.func7, Try.ntmps7
  go_wp2_with fail
  refine (kopen_any raw _ _ _ _ _ (hn.below (by repeat first|exact br _|assumption|apply bd|apply bn|apply ba|refine bt ?_ (by assumption))) hgl hwf hwk).mono ?_
  rintro e1 w1 ⟨bb, ns, R, W, U, rfl, g, h0, hB1, hb1, hU1⟩
  have hUw : ∀ b, U b → w.heap.size ≤ b := fun b hb => Nat.le_trans (Bw.size (by repeat first|exact br _|assumption|apply bd|apply bn|apply ba|refine bt ?_ (by assumption))) (hU1 b hb)
  have hbw : Bw w w1 := Bw.trans (by repeat first|exact br _|assumption|apply bd|apply bn|apply ba|refine bt ?_ (by assumption)) hb1
  have Hg := qJ (⟨g, h0⟩ : _ ∧ _)
  have Hpl := qJ (kplays_any g h0 ops sa sc w1 hB1 (ho.below hbw) (by unfold maxLen; omega) how (ho.apart hUw))
  have HI := qJ (fun (w' : World) gs p st h => @BIn.next w w1 w' U bb ns R W gs p st hUw hbw h)
  clear hn hgl hwf ho how hB1 hb1 hU1 hUw hbw g h0
  go_wp2_with fail
  refine (qK Hpl).mono ?_
  rintro e2 w2 ⟨rfl, gs, p2, st2, hA2, hM2⟩
  obtain ⟨U2, hB2, hU2, hb2⟩ := (qK HI) _ _ _ _ hA2
  have Hfi := qJ (kfinish_any (qK Hg).1 (qK Hg).2 cs ca cc w2 hB2 (hc.below hb2) hcl hc64 (hc.apart hU2))
  have HI2 := qJ (fun (w' : World) gs p st h => @BIn.next w w2 w' U2 bb ns R W gs p st hU2 hb2 h)
  clear hA2 hM2 hB2 hU2 hb2 HI Hpl
  go_wp2_with fail
  refine (qK Hfi).mono ?_
  rintro e3 w3 ⟨rfl, p, st, hA3, _, hcl3, hac3⟩
  obtain ⟨U3, hB3, hU3, hb3⟩ := (qK HI2) _ _ _ _ hA3
  have Hidl := qJ (kidle_any (qK Hg).1 w3 hB3 (hB3.kept.ended (qK Hg).1 hcl3 hac3).2.1 (hB3.kept.seen (qK Hg).1 hcl3 hac3))
  have H3 := qJ (⟨hB3, hcl3, hac3, hb3⟩ : _ ∧ _ ∧ _ ∧ _)
  clear hA3 hB3 hU3 hb3 HI2 Hfi hcl3 hac3
  go_wp2_with fail
  refine (qK Hidl).mono ?_
  rintro e4 w4 ⟨rfl, hB4⟩
  have hB5 := (qK H3).1.bw hB4
  obtain ⟨pb, na, va, nc, vc, c0, c1, c2, c3, c5, c6, c7, cl, hnd, hgv, _⟩ := hB5.all
  have Hou := qJ (hB5.out c0 w4 (Bw.refl _))
  have H4 := qJ (⟨hB5, c1, c2, c3, c5, cl, hnd, hgv⟩ : _ ∧ _ ∧ _ ∧ _ ∧ _ ∧ _ ∧ _ ∧ _)
  clear hB5 Hidl c1 c2 c3 c5 c6 c7 hnd hgv
  go_wp2_with fail
  refine (qK Hou).mono ?_
  rintro e5 w5 ⟨ra, rcap, rfl, hrec, hB5⟩
  obtain ⟨hB4', c1', c2', c3', c5', cl', hnd', hgv'⟩ := qK H4
  have c1 := ((qX hB5).1 _ 1 cl').trans c1'
  have c2 := ((qX hB5).1 _ 2 cl').trans c2'
  have c3 := ((qX hB5).1 _ 3 cl').trans c3'
  have c5 := ((qX hB5).1 _ 5 cl').trans c5'
  have cl2 := Nat.lt_of_lt_of_le cl' hB5.size
  have hB6 := hB4'.bw hB5
  have Hfl := qJ (fun (w' : World) (hb : Bw w5 w') => hB6.flow (qK Hg).1 (qK Hg).2 (hnd'.below hB5) (hgv'.below hB5) nc vc w' hb)
  have Hwi := qJ (hB6.inside (qK Hg).1 c1 c2 c3 cl2 (hnd'.below hB5) true (fun _ => ⟨(qK H3).2.1, (qK H3).2.2.1⟩) ra rcap hrec)
  have HB := qJ ((qK H3).2.2.2.trans (hB4.trans hB5))
  clear hB4' c1' c2' c3' c5' cl' hnd' hgv' hB6 hrec c0 cl H4 Hou c3 hB4 hB5 H3
  have cl := cl2
  clear cl2
  go_wp2_with fail
  refine wp_region_held_drew (S := (fun w' => w'.cell? ⟨bb, 1, none⟩ = some (.slice na ns.length nc) ∧ w'.cell? ⟨bb, 2, none⟩ = some (.int .i64 (R : Int)) ∧ w'.cell? ⟨bb, 5, none⟩ = some (.slice va gs.length vc))) (by kernel_rfl) (by (try dsimp only); go_keep) (fun hHeld => ?_)
  refine tk 0 ?_; try simp only [Act.put, qT, qS, qR]
  refine tk 1 ?_; try simp only [Act.put, qT, qS, qR]
  refine tk 2 ?_; try simp only [Act.put, qT, qS, qR]
  refine tk 3 ?_; try simp only [Act.put, qT, qS, qR]
  refine tk 4 ?_; try simp only [Act.put, qT, qS, qR]
  refine tk 5 ?_; try simp only [Act.put, qT, qS, qR]
  refine tk 6 ?_; try simp only [Act.put, qT, qS, qR]
  refine tk 7 ?_; try simp only [Act.put, qT, qS, qR]
  refine tk 8 ?_; try simp only [Act.put, qT, qS, qR]
  refine tk 9 ?_; try simp only [Act.put, qT, qS, qR]
  refine wpAnyH_ready (rs := [10]) (by kernel_rfl) (by simp) ?_
  refine AllReadyH.cons rfl (fun K hK => ?_) AllReadyH.nil
  go_simp
  go_at_call 27
  refine ((qK Hfl) _ (by repeat first|exact br _|assumption|apply bd|apply bn|apply ba|refine bt ?_ (by assumption))).mono ?_
  rintro e8 w8 ⟨I, O, FI, rfl, hT8, hF8, hB8⟩
  have hb8 := Bw.trans (show Bw w5 _ from (by repeat first|exact br _|assumption|apply bd|apply bn|apply ba|refine bt ?_ (by assumption))) hB8
  have t1 := ((qX hb8).1 _ 1 cl).trans c1
  have t2 := ((qX hb8).1 _ 2 cl).trans c2
  have t5 := ((qX hb8).1 _ 5 cl).trans c5
  (try go_wp2_with fail)
  refine hK.out _ _ (by (try dsimp only); go_keep) (fun hHeld => ?_)
  clear hK K
  try simp only [Act.put, qT, qS, qR]
  refine wpAnyH_ready (rs := [11]) (by kernel_rfl) (by simp) ?_
  refine AllReadyH.cons rfl (fun K hK => ?_) AllReadyH.nil
  go_simp
  go_at_call 26
  refine ((qK Hwi) _ (Bw.trans hb8 (by repeat first|exact br _|assumption|apply bd|apply bn|apply ba|refine bt ?_ (by assumption))) I O FI _ (hT8.bw (by repeat first|exact br _|assumption|apply bd|apply bn|apply ba|refine bt ?_ (by assumption))) hF8).mono ?_
  rintro e9 w9 ⟨rfl, hB9⟩
  have hb9 := hb8.trans (Bw.trans (show Bw w8 _ from (by repeat first|exact br _|assumption|apply bd|apply bn|apply ba|refine bt ?_ (by assumption))) hB9)
  have t1 := ((qX hb9).1 _ 1 cl).trans c1
  have t2 := ((qX hb9).1 _ 2 cl).trans c2
  have t5 := ((qX hb9).1 _ 5 cl).trans c5
  (try go_wp2_with fail)
  refine hK.out _ _ (by (try dsimp only); go_keep) (fun hHeld => ?_)
  clear hK K
  try simp only [Act.put, qT, qS, qR]
  refine tk 12 ?_; try simp only [Act.put, qT, qS, qR]
  refine wpAnyH_done (by kernel_rfl) ?_ _
  clear Hfl Hwi t1 t2 t5 hT8 hF8 c1 c2 c5 cl
  go_wp2_with fail
  go_ret
  exact ⟨rfl, (qK HB).trans hb9⟩
end Go.Proofs.Ytfemleimkbjehaa
namespace Go.Proofs.Ytfemleimkbjehaa
open Go.ChangeShapes Go.WideShapes Go.ChangeAt Go.RowKit Go.Joins Go.Deep
theorem Try.own : ownKnob Try.prog.godebug = none := by kernel_rfl
theorem Try.laidOut : laidOutB Try.prog = true := by kernel_rfl
theorem Try.cellsInt : Try.prog.cellsOf 3 = 1 := by kernel_rfl
theorem Try.cellsNode : Try.prog.cellsOf 32 = 5 := by kernel_rfl
theorem Try.cellsGraph : Try.prog.cellsOf 24 = 2 := by kernel_rfl
theorem Try.bytesNode : Try.prog.bytesOf 32 = 40 := by kernel_rfl
section
variable {H : Type} {enc : TypeId × Value → H} {w : World} {base : Nat} {spare : Nat → Bool} {held : Bool}
theorem xM {α β : Type} {f : α → Option β} {l : List α} {r : List β} (h : l.mapM f = some r) {i : Nat} {x : α} (hx : l[i]? = some x) : ∃ y, f x = some y := by
  have hlt : i < l.length := (List.getElem?_eq_some_iff.1 hx).1
  have hr := mapM_some_length h
  exact ⟨r[i]'(by omega), by rw [mapM_some_get h i x hx]; exact List.getElem?_eq_getElem _⟩
theorem list5 {α : Type} {l : List α} (h : l.length = 5) : ∃ a b c d e, l = [a, b, c, d, e] := by
  match l, h with
  | [a, b, c, d, e], _ => exact ⟨a, b, c, d, e, rfl⟩
end
theorem mL {n : Int} (h : (Lit.int .i64 n).wf = true) : mJ n := by
  have h' : (decide ((-9223372036854775808 : Int) ≤ n) && decide (n ≤ 9223372036854775807)) = true := h
  simpa [mJ] using h'
section
variable {H : Type} {enc : TypeId × Value → H} {w : World} {base : Nat} {spare : Nat → Bool} {held : Bool}
set_option maxRecDepth 100000 in
theorem open_node_wf {n : Nat} {cs : List Value} {y : DataW H × List MemPlace} (h : DataW.trod enc Try.prog w base spare held n 32 cs = some y) : ∃ x : Nd, cs = x.cells ∧ x.wf := by
  cases n with
  | zero => simp [DataW.trod] at h
  | succ n =>
    unfold DataW.trod at h
    rw [Try.underlying32] at h
    simp only at h
    rw [Try.cellsNode] at h
    split at h
    · rename_i hl
      obtain ⟨xs, hx, _⟩ := Option.map_eq_some_iff.1 h
      obtain ⟨c0, c1, c2, c3, c4, rfl⟩ := list5 hl
      obtain ⟨y0, e0⟩ := xM hx (i := 0) rfl
      obtain ⟨y1, e1⟩ := xM hx (i := 1) rfl
      obtain ⟨y2, e2⟩ := xM hx (i := 2) rfl
      obtain ⟨y3, e3⟩ := xM hx (i := 3) rfl
      obtain ⟨y4, e4⟩ := xM hx (i := 4) rfl
      obtain ⟨a0, f0, _, g0⟩ := DataW.trod_int Try.underlying3 e0
      obtain ⟨a1, f1, _, g1⟩ := DataW.trod_int Try.underlying3 e1
      obtain ⟨a2, f2, _, g2⟩ := DataW.trod_int Try.underlying3 e2
      obtain ⟨a3, f3, _, g3⟩ := DataW.trod_int Try.underlying3 e3
      obtain ⟨a4, f4, _, g4⟩ := DataW.trod_int Try.underlying3 e4
      rw [Try.cellsInt] at f0 f1 f2 f3 f4
      simp at f0 f1 f2 f3 f4
      subst f0 f1 f2 f3 f4
      exact ⟨⟨a0, a1, a2, a3, a4⟩, rfl, mL g0, mL g1, mL g2, mL g3, mL g4⟩
    · cases h
set_option maxRecDepth 100000 in
/-- A graph that came in, opened. -/
theorem open_graph_wf {r : Reach} {b0 : Nat} {v : Value} {d : DataW H} {p : List MemPlace} (hv : Value.okWide Try.prog w r b0 24 v) (h : DataW.Trod enc Try.prog w base spare held 24 v d p) :
    ∃ (ga : Option Addr) (ns : List Nd) (gc : Nat) (rr : Int), v = .agg #[.slice ga ns.length gc, .int .i64 rr] ∧ NodesAt w ga ns ∧ (∀ j, j < ns.length → (qV ns j).wf) ∧
      ∀ (ts : List TypeId) (ds : List (DataW H)) (j : Nat), (DataW.weightsEach Try.prog ts ds).all (· ≤ reachBytes) = true → ts[j]? = some 24 → ds[j]? = some d → ns.length * 40 ≤ 140737488351232 := by
  obtain ⟨c0, c1, y0, y1, m, rfl, rfl, rfl, hy0, hy1⟩ := open_agg2 Try.underlying24 (by kernel_rfl) Try.cellsGraph hv h
  obtain ⟨rr, e1, _, _⟩ := DataW.trod_int Try.underlying3 hy1
  simp at e1
  subst e1
  rcases open_slice Try.underlying22 hy0 with ⟨hcs, hx⟩ | ⟨a, len, cap, m, n, D, Pl, hcs, hb, hl, hm, hmm, hx, hel⟩
  · simp at hcs
    subst hcs
    exact ⟨none, [], 0, rr, rfl, fun i hi => absurd hi (Nat.not_lt_zero i), fun i hi => absurd hi (Nat.not_lt_zero i), fun _ _ _ _ _ _ => by simp⟩
  · simp at hcs
    subst hcs
    have hlm : len ≤ m := by rw [hmm]; split <;> omega
    rw [Try.cellsNode] at hel
    haveI : Inhabited Nd := ⟨⟨0, 0, 0, 0, 0⟩⟩
    obtain ⟨X, hX⟩ := choose_lt (α := Nd) (n := len) (p := fun i x => w.cells? base (a.add (i * 5)) 5 = some x.cells ∧ x.wf) (fun i hi => by
      obtain ⟨cs', h1, h2⟩ := hel i (by omega)
      obtain ⟨x, rfl, hx⟩ := open_node_wf h2
      exact ⟨x, h1, hx⟩)
    have hlen : ((List.range len).map X).length = len := by simp
    refine ⟨some a, (List.range len).map X, cap, rr, by rw [hlen], ?_, ?_, ?_⟩
    · intro i hi
      rw [hlen] at hi
      have hcell : ∀ j, j < len → ∀ f, f < 5 → w.cell? ((a.add (j * 5)).add f) = (X j).cells[f]? := fun j hj f hf => (World.cells?_some (hX j hj).1).2.2 f hf
      obtain ⟨b, off, spot⟩ := a
      have hspot : spot = none := by
        have := hcell 0 (by omega) 0 (by omega)
        simp only [Nat.zero_mul] at this
        exact World.cell?_spot (a := ⟨b, off, spot⟩) (v := .int .i64 (X 0).kind) (by simpa [Addr.add, Nd.cells] using this)
      subst hspot
      have hnd : ∀ j, j < len → qV ((List.range len).map X) j = X j := by
        intro j hj
        rw [ndn_lt (by simpa using hj)]
        simp
      have hc2 : ∀ j, j < len → ∀ f, f < 5 → w.cell? ⟨b, off + j * 5 + f, none⟩ = (X j).cells[f]? := by
        intro j hj f hf
        have := hcell j hj f hf
        rw [Go.WideShapes.add_plain, Go.WideShapes.add_plain] at this
        exact this
      refine ⟨b, off, rfl, ?_, ?_⟩
      · have := hc2 i hi 0 (by omega)
        exact World.block_lt_of_cell? w ⟨b, off + i * 5 + 0, none⟩ (this.trans rfl)
      · intro j hj
        rw [hlen] at hj
        rw [hnd j hj]
        exact ⟨hc2 j hj 0 (by omega), hc2 j hj 1 (by omega), hc2 j hj 2 (by omega), hc2 j hj 3 (by omega), hc2 j hj 4 (by omega)⟩
    · intro j hj
      rw [hlen] at hj
      rw [ndn_lt (by simpa using hj)]
      simpa using (hX j hj).2
    · intro ts ds j hw ht hd
      rw [hlen]
      have hmem := DataW.weights_mem_each (P := Try.prog) ht hd
      have : (len + (m - len)) * Try.prog.bytesOf 32 ∈ DataW.weightsEach Try.prog ts ds := by
        refine hmem _ ?_
        rw [hx]
        simp [DataW.weights, Try.underlying24, DataW.weightsEach, Try.underlying22]
      have hle := of_decide_eq_true (List.all_eq_true.1 hw _ this)
      rw [Try.bytesNode] at hle
      unfold reachBytes at hle
      omega
end
end Go.Proofs.Ytfemleimkbjehaa
