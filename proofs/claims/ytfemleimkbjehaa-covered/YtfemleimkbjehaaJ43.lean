import Derived.Test.YtfemleimkbjehaaJ42
import Derived.Test.YtfemleimkbjehaaJ41
set_option maxRecDepth 1000000
set_option maxHeartbeats 40000000
set_option linter.unusedVariables false
set_option linter.unusedSimpArgs false
namespace Go.Proofs.Ytfemleimkbjehaa
open Go.RowKit
theorem madeI (L : Nat) : (madeCells #[.int .i64 0] L).size = L ∧ ∀ n, n < L → (madeCells #[.int .i64 0] L)[n]? = some (.int .i64 0) := by
  refine ⟨by simp [size_madeCells], fun j hj => ?_⟩
  rw [← Array.getElem?_toList, toList_madeCells_one]
  simp [hj]
set_option maxRecDepth 100000 in
set_option maxHeartbeats 8000000 in
theorem kopen_any (raw : List Nd) (ga : Option Addr) (gc : Nat) (r wk : Int) (w : World) (hn : NodesAt w ga raw) (hgl : raw.length ≤ maxLen) (hwf : ∀ j, j < raw.length → (qV raw j).wf) (hwk : I64 wk) :
    Calls Try.prog 21 #[.agg #[.slice ga raw.length gc, .int .i64 r], .int .i64 wk] w fun en w' => ∃ (bb : Nat) (ns : List Nd) (R W : Nat) (U : Nat → Prop), en = .returned (.tuple #[.pointer (some ⟨bb, 0, none⟩), .bool true]) ∧ GOk ns R W ∧ (qV ns 0).kind = 0 ∧ BAt w' U bb ns R W [] (pst0 (begT ns W)) rst0 ∧ Bw w w' ∧ ∀ b, U b → w.heap.size ≤ b := by
  go_enter Try.func21, Try.ntmps21
  go_wp2_with fail
  refine (fit_any raw _ _ _ _ (hn.below (by repeat first|exact br _|assumption|apply bd|apply bn|apply ba|refine bt ?_ (by assumption))) hgl hwf).mono ?_
  rintro e w1 ⟨o, oa, oc, r', rfl, hF, hN, hB1⟩
  have hB1' := Bw.trans (show Bw w _ from (by repeat first|exact br _|assumption|apply bd|apply bn|apply ba|refine bt ?_ (by assumption))) hB1
  clear hB1
  go_wp2_with fail
  refine (xX _ _ _ hwk.1 hwk.2 (by omega) (by omega)).mono ?_
  rintro e w' ⟨rfl, rfl⟩
  obtain ⟨b1, b2⟩ := jX wk (n := (4 : Int)) (by omega)
  obtain ⟨j, hj, hj4⟩ : ∃ j : Nat, jQ wk 4 = j ∧ j < 4 := ⟨(jQ wk 4).toNat, by omega, by omega⟩
  rw [hj]
  obtain ⟨W, hWj⟩ : ∃ W, j + 1 = W := ⟨_, rfl⟩
  have hwr : IntKind.i64.wrap (1 + (j : Int)) = (W : Int) := by rw [IntKind.wrap_i64]; omega
  obtain ⟨R, rfl, g, hce⟩ := gOk_of hF (W := W) (by omega) (by omega)
  have h0 := hF.zero
  have Hg := qJ (⟨g, h0⟩ : _ ∧ _)
  have hW4 := g.hW
  have hL8 := g.h8
  have hL1 := g.h1
  obtain ⟨W2, hW2⟩ : ∃ W2, w1.alloc (.cells #[.slice oa o.length oc, .int .i64 (R : Int)] 24) = W2 := ⟨_, rfl⟩
  have hB2 : Bw w1 W2 := hW2 ▸ (by repeat first|exact br _|assumption|apply bd|apply bn|apply ba|refine bt ?_ (by assumption))
  have gx : W2.heap[w1.heap.size]? = some (.cells #[.slice oa o.length oc, .int .i64 (R : Int)] 24 (0, 0)) := hW2 ▸ heap_alloc_new w1 _
  have Hnew := qJ (fun (w' : World) (hb : Bw W2 w') => pnew_ok o oa oc R W w' (hN.below (hB2.trans hb)) hce g.h1 g.h8 g.hW1 g.hW g.hR1 g.hR)
  have HN2 := qJ (hN.below hB2)
  have g0 := qQ (o := 0) gx rfl
  have g1 := qQ (o := 1) gx rfl
  have gl := (Array.getElem?_eq_some_iff.1 gx).1
  have HB2 := qJ (hB1'.trans hB2)
  rw [hW2]
  generalize hgb : w1.heap.size = gb at gx g0 g1 gl ⊢
  have Hgx0 := qJ gx
  clear hF hN hce hj hWj b1 b2 hwf hgl hn gx hW2 hB2 hB1' hgb g h0
  go_wp2_with fail
  refine ((qK Hnew) _ (Bw.refl _)).mono ?_
  rintro e w3 ⟨pb, xp, rfl, hO, hB3⟩
  have Hgx := qJ ((Below.block hB3 _ gl).trans (qK Hgx0))
  have g0' := ((qX hB3).1 _ 0 gl).trans g0
  have g1' := ((qX hB3).1 _ 1 gl).trans g1
  have gl' := Nat.lt_of_lt_of_le gl hB3.size
  have HO := qJ (⟨hO, hB3⟩ : _ ∧ _)
  clear hO Hnew g0 g1 gl hB3
  go_wp2_with fail
  obtain ⟨W3, hW3⟩ : ∃ W3, w3.alloc (.cells #[.pointer (some ⟨pb, 0, none⟩), .slice oa o.length oc, .int .i64 (R : Int), .int .i64 (W : Int), .slice none 0 0, .slice none 0 0, .int .i64 0, .int .i64 0, .slice none 0 0] 57) = W3 := ⟨_, rfl⟩
  have hst : EpL w3 W3 w3.heap.size pb oa o.length oc R W (.slice none 0 0) [] := ⟨hW3 ▸ heap_alloc_new w3 _, World.ownsRow_nil _ _ _ _, by simp, List.nodup_nil, Nat.le_refl _, hW3 ▸ (by repeat first|exact br _|assumption|apply bd|apply bn|apply ba|refine bt ?_ (by assumption))⟩
  rw [hW3]
  have Hst := qJ hst
  generalize hbb : w3.heap.size = bb at Hst ⊢
  clear hW3 hst
  have hmk := make_ints (o.length : Int) o.length rfl (by omega)
  go_loopw [11] (fun i wr => ∃ (k : Nat) (v4 : Value) (rs : List Nat), k ≤ W ∧ i = .int .i64 k ∧ rs.length = k ∧ EpL w3 wr bb pb oa o.length oc R W v4 rs) (fun i _ => W - (intOf i).toNat)
  case atStart => exact ⟨0, _, [], Nat.zero_le _, rfl, rfl, qK Hst⟩
  case round =>
    clear Hst
    obtain ⟨k, v4, rs, hk, rfl, hrs, hE⟩ := hrel
    rename World => wr
    subst hrs
    by_cases hlt : rs.length < W
    · have hk1 : (rs.length : Int) < (W : Int) := by omega
      have g0 := ((qX hE.base).1 _ 0 gl').trans g0'
      have gl := Nat.lt_of_lt_of_le gl' hE.base.size
      have r4 := qQ (o := 4) hE.root rfl
      have rl := (Array.getElem?_eq_some_iff.1 hE.root).1
      have Hgr := qJ ((Below.block hE.base _ gl').trans (qK Hgx))
      have HE := qJ hE
      have Hbb := qJ hbb
      clear hE hbb
      go_wp2_with fail
      refine wp_region_held_drew (S := (fun w' => w'.cell? ⟨gb, 0, none⟩ = some (.slice oa o.length oc))) (by kernel_rfl) (by (try dsimp only); go_keep) (fun hHeld => ?_)
      refine wpAnyH_take (i := 0) (v := ?vo0) rfl (by kernel_rfl) (by kernel_rfl) (by kernel_rfl) (fun _ _ _ h => h) (Or.inl ⟨by rfl, ?ho0⟩) (by assumption) ?ro0; (case ho0 => intro w S; (try dsimp only at S); go_simp; try with_reducible rfl); try simp only [Act.put, qP, qN, qM]
      refine wpAnyH_take (i := 1) (v := ?vo1) rfl (by kernel_rfl) (by kernel_rfl) (by kernel_rfl) (fun _ _ _ h => h) (Or.inl ⟨by rfl, ?ho1⟩) (by assumption) ?ro1; (case ho1 => intro w S; (try dsimp only at S); go_simp; try with_reducible rfl); try simp only [Act.put, qP, qN, qM]
      refine wpAnyH_take (i := 2) (v := ?vo2) rfl (by kernel_rfl) (by kernel_rfl) (by kernel_rfl) (fun _ _ _ h => h) (Or.inl ⟨by rfl, ?ho2⟩) (by assumption) ?ro2; (case ho2 => intro w S; (try dsimp only at S); go_simp; try with_reducible rfl); try simp only [Act.put, qP, qN, qM]
      refine wpAnyH_take (i := 3) (v := ?vo3) rfl (by kernel_rfl) (by kernel_rfl) (by kernel_rfl) (fun _ _ _ h => h) (Or.inl ⟨by rfl, ?ho3⟩) (by assumption) ?ro3; (case ho3 => intro w S; (try dsimp only at S); go_simp; try with_reducible rfl); try simp only [Act.put, qP, qN, qM]
      refine wpAnyH_take (i := 5) (v := ?vo5) rfl (by kernel_rfl) (by kernel_rfl) (by kernel_rfl) (fun _ _ _ h => h) (Or.inl ⟨by rfl, ?ho5⟩) (by assumption) ?ro5; (case ho5 => intro w S; (try dsimp only at S); go_simp; try with_reducible rfl); try simp only [Act.put, qP, qN, qM]
      refine wpAnyH_take (i := 6) (v := ?vo6) rfl (by kernel_rfl) (by kernel_rfl) (by kernel_rfl) (fun _ _ _ h => h) (Or.inl ⟨by rfl, ?ho6⟩) (by assumption) ?ro6; (case ho6 => intro w S; (try dsimp only at S); go_simp; try with_reducible rfl); try simp only [Act.put, qP, qN, qM]
      refine wpAnyH_take (i := 7) (v := ?vo7) rfl (by kernel_rfl) (by kernel_rfl) (by kernel_rfl) (fun _ _ _ h => h) (Or.inl ⟨by rfl, ?ho7⟩) (by assumption) ?ro7; (case ho7 => intro w S; (try dsimp only at S); go_simp; try with_reducible rfl); try simp only [Act.put, qP, qN, qM]
      refine wpAnyH_ready (rs := [4, 8]) (by kernel_rfl) (by simp) ?_
      refine AllReadyH.cons rfl (fun K hK => ?_) (AllReadyH.cons rfl (fun K hK => ?_) AllReadyH.nil)
      · go_simp
        refine hK.out _ _ (by (try dsimp only); go_keep) (fun hHeld => ?_)
        clear hK K
        try simp only [Act.put, qP, qN, qM]
        refine wpAnyH_ready (rs := [8]) (by kernel_rfl) (by simp) ?_
        refine AllReadyH.cons rfl (fun K hK => ?_) AllReadyH.nil
        go_simp
        refine hK.out _ _ (by (try dsimp only); go_keep) (fun hHeld => ?_)
        clear hK K
        try simp only [Act.put, qP, qN, qM]
        refine wpAnyH_ready (rs := [9]) (by kernel_rfl) (by simp) ?_
        refine AllReadyH.cons rfl (fun K hK => ?_) AllReadyH.nil
        go_simp
        refine hK.out _ _ (by (try dsimp only); go_keep) (fun hHeld => ?_)
        clear hK K
        try simp only [Act.put, qP, qN, qM]
        refine wpAnyH_ready (rs := [10]) (by kernel_rfl) (by simp) ?_
        refine AllReadyH.cons rfl (fun K hK => ?_) AllReadyH.nil
        refine stepL rfl _ _ _ 26 rfl _ 1 24 Try.infoInts Try.underlying54 rfl (by decide) w3.heap.size v4 rs.length (rs.map fun b => .slice (some ⟨b, 0, none⟩) o.length o.length) rfl ((qK HE).bw (by repeat first|exact br _|assumption|apply bd|apply bn|apply ba|refine bt ?_ (by assumption))).own _ _ [.slice (some ⟨wr.heap.size, 0, none⟩) o.length o.length] rfl rfl (cells1f (qQ (qS _ _ (by simp)) rfl)) (by simp [Value.oneCell']) (by omega) (by omega) (Bw.size (Bw.trans (qK HE).base (by repeat first|exact br _|assumption|apply bd|apply bn|apply ba|refine bt ?_ (by assumption)))) ?_
        intro g' cap w7 ho7 hg7 hl7
        obtain ⟨t1, t2, t3, t4, hnx⟩ := EpL.next (qK HE) (r := wr.heap.size) (hg := hg7) (ho := ho7) (hb := by exact (by repeat first|exact br _|assumption|apply bd|apply bn|apply ba|refine bt ?_ (by assumption))) (hr := by exact (yY wr _ _).1) (hlo := Nat.le_refl _) (hs := (madeI _).1) (hz := (madeI _).2)
        have Hnx := qJ hnx
        obtain ⟨t5, t6⟩ := t4 _ _ (qK Hgr)
        have t7 := qQ (o := 0) t5 rfl
        refine hK.out _ _ (by (try dsimp only); go_keep) (fun hHeld => ?_)
        clear hK K
        try simp only [Act.put, qP, qN, qM]
        refine wpAnyH_take (i := 11) (v := ?vx11) rfl (by kernel_rfl) (by kernel_rfl) (by kernel_rfl) (fun _ _ _ h => h) (Or.inl ⟨by rfl, ?hx11⟩) (by assumption) ?rx11; (case hx11 => intro w S; (try dsimp only at S); go_simp; try with_reducible rfl); try simp only [Act.put, qP, qN, qM]
        refine wpAnyH_take (i := 12) (v := ?vx12) rfl (by kernel_rfl) (by kernel_rfl) (by kernel_rfl) (fun _ _ _ h => h) (Or.inl ⟨by rfl, ?hx12⟩) (by assumption) ?rx12; (case hx12 => intro w S; (try dsimp only at S); go_simp; try with_reducible rfl); try simp only [Act.put, qP, qN, qM]
        refine wpAnyH_ready (rs := [13]) (by kernel_rfl) (by simp) ?_
        refine AllReadyH.cons rfl (fun K hK => ?_) AllReadyH.nil
        go_simp
        refine hK.out _ _ (qQ (t6 _) rfl) (fun hHeld => ?_)
        clear hK K
        try simp only [Act.put, qP, qN, qM]
        refine wpAnyH_done (by kernel_rfl) ?_ _
        go_wp2_with fail
        go_roundw
        case rel => exact ⟨rs.length + 1, _, _, by omega, by go_num, by rw [List.length_append]; rfl, (qK Hnx).bw (by repeat first|exact br _|assumption|apply bd|apply bn|apply ba|refine bt ?_ (by assumption))⟩
        case measure => simp [intOf]; omega
      · go_simp
        refine hK.out _ _ (by (try dsimp only); go_keep) (fun hHeld => ?_)
        clear hK K
        try simp only [Act.put, qP, qN, qM]
        refine wpAnyH_ready (rs := [4, 9]) (by kernel_rfl) (by simp) ?_
        refine AllReadyH.cons rfl (fun K hK => ?_) (AllReadyH.cons rfl (fun K hK => ?_) AllReadyH.nil)
        · go_simp
          refine hK.out _ _ (by (try dsimp only); go_keep) (fun hHeld => ?_)
          clear hK K
          try simp only [Act.put, qP, qN, qM]
          refine wpAnyH_ready (rs := [9]) (by kernel_rfl) (by simp) ?_
          refine AllReadyH.cons rfl (fun K hK => ?_) AllReadyH.nil
          go_simp
          refine hK.out _ _ (by (try dsimp only); go_keep) (fun hHeld => ?_)
          clear hK K
          try simp only [Act.put, qP, qN, qM]
          refine wpAnyH_ready (rs := [10]) (by kernel_rfl) (by simp) ?_
          refine AllReadyH.cons rfl (fun K hK => ?_) AllReadyH.nil
          refine stepL rfl _ _ _ 26 rfl _ 1 24 Try.infoInts Try.underlying54 rfl (by decide) w3.heap.size v4 rs.length (rs.map fun b => .slice (some ⟨b, 0, none⟩) o.length o.length) rfl ((qK HE).bw (by repeat first|exact br _|assumption|apply bd|apply bn|apply ba|refine bt ?_ (by assumption))).own _ _ [.slice (some ⟨wr.heap.size, 0, none⟩) o.length o.length] rfl rfl (cells1f (qQ (qS _ _ (by simp)) rfl)) (by simp [Value.oneCell']) (by omega) (by omega) (Bw.size (Bw.trans (qK HE).base (by repeat first|exact br _|assumption|apply bd|apply bn|apply ba|refine bt ?_ (by assumption)))) ?_
          intro g' cap w7 ho7 hg7 hl7
          obtain ⟨t1, t2, t3, t4, hnx⟩ := EpL.next (qK HE) (r := wr.heap.size) (hg := hg7) (ho := ho7) (hb := by exact (by repeat first|exact br _|assumption|apply bd|apply bn|apply ba|refine bt ?_ (by assumption))) (hr := by exact (yY wr _ _).1) (hlo := Nat.le_refl _) (hs := (madeI _).1) (hz := (madeI _).2)
          have Hnx := qJ hnx
          obtain ⟨t5, t6⟩ := t4 _ _ (qK Hgr)
          have t7 := qQ (o := 0) t5 rfl
          refine hK.out _ _ (by (try dsimp only); go_keep) (fun hHeld => ?_)
          clear hK K
          try simp only [Act.put, qP, qN, qM]
          refine wpAnyH_take (i := 11) (v := ?vy11) rfl (by kernel_rfl) (by kernel_rfl) (by kernel_rfl) (fun _ _ _ h => h) (Or.inl ⟨by rfl, ?hy11⟩) (by assumption) ?ry11; (case hy11 => intro w S; (try dsimp only at S); go_simp; try with_reducible rfl); try simp only [Act.put, qP, qN, qM]
          refine wpAnyH_take (i := 12) (v := ?vy12) rfl (by kernel_rfl) (by kernel_rfl) (by kernel_rfl) (fun _ _ _ h => h) (Or.inl ⟨by rfl, ?hy12⟩) (by assumption) ?ry12; (case hy12 => intro w S; (try dsimp only at S); go_simp; try with_reducible rfl); try simp only [Act.put, qP, qN, qM]
          refine wpAnyH_ready (rs := [13]) (by kernel_rfl) (by simp) ?_
          refine AllReadyH.cons rfl (fun K hK => ?_) AllReadyH.nil
          go_simp
          refine hK.out _ _ (qQ (t6 _) rfl) (fun hHeld => ?_)
          clear hK K
          try simp only [Act.put, qP, qN, qM]
          refine wpAnyH_done (by kernel_rfl) ?_ _
          go_wp2_with fail
          go_roundw
          case rel => exact ⟨rs.length + 1, _, _, by omega, by go_num, by rw [List.length_append]; rfl, (qK Hnx).bw (by repeat first|exact br _|assumption|apply bd|apply bn|apply ba|refine bt ?_ (by assumption))⟩
          case measure => simp [intOf]; omega
        · go_simp
          refine hK.out _ _ (by (try dsimp only); go_keep) (fun hHeld => ?_)
          clear hK K
          try simp only [Act.put, qP, qN, qM]
          refine wpAnyH_ready (rs := [4]) (by kernel_rfl) (by simp) ?_
          refine AllReadyH.cons rfl (fun K hK => ?_) AllReadyH.nil
          go_simp
          refine hK.out _ _ (by (try dsimp only); go_keep) (fun hHeld => ?_)
          clear hK K
          try simp only [Act.put, qP, qN, qM]
          refine wpAnyH_ready (rs := [10]) (by kernel_rfl) (by simp) ?_
          refine AllReadyH.cons rfl (fun K hK => ?_) AllReadyH.nil
          refine stepL rfl _ _ _ 26 rfl _ 1 24 Try.infoInts Try.underlying54 rfl (by decide) w3.heap.size v4 rs.length (rs.map fun b => .slice (some ⟨b, 0, none⟩) o.length o.length) rfl ((qK HE).bw (by repeat first|exact br _|assumption|apply bd|apply bn|apply ba|refine bt ?_ (by assumption))).own _ _ [.slice (some ⟨wr.heap.size, 0, none⟩) o.length o.length] rfl rfl (cells1f (qQ (qS _ _ (by simp)) rfl)) (by simp [Value.oneCell']) (by omega) (by omega) (Bw.size (Bw.trans (qK HE).base (by repeat first|exact br _|assumption|apply bd|apply bn|apply ba|refine bt ?_ (by assumption)))) ?_
          intro g' cap w7 ho7 hg7 hl7
          obtain ⟨t1, t2, t3, t4, hnx⟩ := EpL.next (qK HE) (r := wr.heap.size) (hg := hg7) (ho := ho7) (hb := by exact (by repeat first|exact br _|assumption|apply bd|apply bn|apply ba|refine bt ?_ (by assumption))) (hr := by exact (yY wr _ _).1) (hlo := Nat.le_refl _) (hs := (madeI _).1) (hz := (madeI _).2)
          have Hnx := qJ hnx
          obtain ⟨t5, t6⟩ := t4 _ _ (qK Hgr)
          have t7 := qQ (o := 0) t5 rfl
          refine hK.out _ _ (by (try dsimp only); go_keep) (fun hHeld => ?_)
          clear hK K
          try simp only [Act.put, qP, qN, qM]
          refine wpAnyH_take (i := 11) (v := ?vz11) rfl (by kernel_rfl) (by kernel_rfl) (by kernel_rfl) (fun _ _ _ h => h) (Or.inl ⟨by rfl, ?hz11⟩) (by assumption) ?rz11; (case hz11 => intro w S; (try dsimp only at S); go_simp; try with_reducible rfl); try simp only [Act.put, qP, qN, qM]
          refine wpAnyH_take (i := 12) (v := ?vz12) rfl (by kernel_rfl) (by kernel_rfl) (by kernel_rfl) (fun _ _ _ h => h) (Or.inl ⟨by rfl, ?hz12⟩) (by assumption) ?rz12; (case hz12 => intro w S; (try dsimp only at S); go_simp; try with_reducible rfl); try simp only [Act.put, qP, qN, qM]
          refine wpAnyH_ready (rs := [13]) (by kernel_rfl) (by simp) ?_
          refine AllReadyH.cons rfl (fun K hK => ?_) AllReadyH.nil
          go_simp
          refine hK.out _ _ (qQ (t6 _) rfl) (fun hHeld => ?_)
          clear hK K
          try simp only [Act.put, qP, qN, qM]
          refine wpAnyH_done (by kernel_rfl) ?_ _
          go_wp2_with fail
          go_roundw
          case rel => exact ⟨rs.length + 1, _, _, by omega, by go_num, by rw [List.length_append]; rfl, (qK Hnx).bw (by repeat first|exact br _|assumption|apply bd|apply bn|apply ba|refine bt ?_ (by assumption))⟩
          case measure => simp [intOf]; omega
    · have hkk : rs.length = W := by omega
      have Hkk := qJ hkk
      have HE := qJ hE
      clear hkk
      clear hE
      go_wp2_with fail
      go_ret2
      obtain ⟨hO, hB3⟩ := qK HO
      obtain ⟨g, h0⟩ := qK Hg
      obtain ⟨U, hU1, hU2⟩ := (qK HE).book g (qK Hkk) hO (qK HN2) hB3
      exact ⟨bb, o, R, W, U, rfl, g, h0, hU1, (qK HB2).trans (hB3.trans (qK HE).base), fun b hb => Nat.le_trans (qK HB2).size (hU2 b hb)⟩
def BIn (V w : World) (bb : Nat) (ns : List Nd) (R W : Nat) (gs : List Gv) (p : PSt) (st : RSt) : Prop := ∃ U, BAt w U bb ns R W gs p st ∧ (∀ b, U b → V.heap.size ≤ b) ∧ Bw V w
theorem BIn.next {V w w' : World} {U : Nat → Prop} {bb : Nat} {ns : List Nd} {R W : Nat} {gs : List Gv} {p : PSt} {st : RSt} (hU : ∀ b, U b → V.heap.size ≤ b) (hb : Bw V w) (h : BAt.After w w' U bb ns R W gs p st) : BIn V w' bb ns R W gs p st := by
  obtain ⟨U', h1, h2, h3⟩ := h
  exact ⟨U', h1, fun b hb' => (h3 b hb').elim (hU b) (fun h => Nat.le_trans hb.size h), Chg.toBw hb h2 hU⟩
theorem OpsAt.below {w w' : World} {ad : Option Addr} {l : List OpI} (h : OpsAt w ad l) (hb : Bw w w') : OpsAt w' ad l := h.chg (U := fun _ => False) (Chg.bw hb) fun _ _ _ _ h => h
end Go.Proofs.Ytfemleimkbjehaa
