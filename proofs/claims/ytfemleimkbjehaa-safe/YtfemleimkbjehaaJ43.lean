import Derived.Test.YtfemleimkbjehaaJ42
import Derived.Test.YtfemleimkbjehaaJ1
import Derived.ProofKit
import Derived.SizedLaws
import Derived.Lib.SmallJoins
import Derived.Deep.Slices
set_option maxRecDepth 1000000
set_option maxHeartbeats 40000000
set_option linter.unusedVariables false
set_option linter.unusedSimpArgs false
namespace Go.Proofs.Ytfemleimkbjehaa
open Go.RowKit
theorem madeI (L : Nat) : (madeCells #[.int .i64 0] L).size = L ∧ ∀ n, n < L → (madeCells #[.int .i64 0] L)[n]? = some (.int .i64 0) := by
  refine ⟨by simp [size_madeCells], fun j hj => ?_⟩
  rw [← Array.getElem?_toList, toList_madeCells_one]
  simp [hj]
set_option maxRecDepth 100000 in
set_option maxHeartbeats 8000000 in
theorem kopen_any (raw : List Nd) (ga : Option Addr) (gc : Nat) (r wk : Int) (w : World) (hn : NodesAt w ga raw) (hgl : raw.length ≤ maxLen) (hwf : ∀ j, j < raw.length → (qV raw j).wf) (hwk : I64 wk) :
    Calls Try.prog 21 #[.agg #[.slice ga raw.length gc, .int .i64 r], .int .i64 wk] w fun en w' => ∃ (bb : Nat) (ns : List Nd) (R W : Nat) (U : Nat → Prop), en = .returned (.tuple #[.pointer (some ⟨bb, 0, none⟩), .bool true]) ∧ GOk ns R W ∧ (qV ns 0).kind = 0 ∧ BAt w' U bb ns R W [] (pst0 (begT ns W)) rst0 ∧ Bw w w' ∧ ∀ b, U b → w.heap.size ≤ b := by
  go_enter Try.func21, Try.ntmps21
  go_wp2_with fail
  refine (fit_any raw _ _ _ _ (hn.below (by repeat first|exact br _|assumption|apply bd|apply bn|apply ba|refine bt ?_ (by assumption))) hgl hwf).mono ?_
  rintro e w1 ⟨o, oa, oc, r', rfl, hF, hN, hB1⟩
  have hB1' := Bw.trans (show Bw w _ from (by repeat first|exact br _|assumption|apply bd|apply bn|apply ba|refine bt ?_ (by assumption))) hB1
  clear hB1
  go_wp2_with fail
  refine (kpick_any _ _ _ hwk.1 hwk.2 (by omega) (by omega)).mono ?_
  rintro e w' ⟨rfl, rfl⟩
  obtain ⟨b1, b2⟩ := jD wk (n := (4 : Int)) (by omega)
  obtain ⟨j, hj, hj4⟩ : ∃ j : Nat, jU wk 4 = j ∧ j < 4 := ⟨(jU wk 4).toNat, by omega, by omega⟩
  rw [hj]
  obtain ⟨W, hWj⟩ : ∃ W, j + 1 = W := ⟨_, rfl⟩
  have hwr : IntKind.i64.wrap (1 + (j : Int)) = (W : Int) := by rw [IntKind.wrap_i64]; omega
  obtain ⟨R, rfl, g, hce⟩ := gOk_of hF (W := W) (by omega) (by omega)
  have h0 := hF.zero
  have Hg := qJ (⟨g, h0⟩ : _ ∧ _)
  have hW4 := g.hW
  have hL8 := g.h8
  have hL1 := g.h1
  obtain ⟨W2, hW2⟩ : ∃ W2, w1.alloc (.cells #[.slice oa o.length oc, .int .i64 (R : Int)] 24) = W2 := ⟨_, rfl⟩
  have hB2 : Bw w1 W2 := hW2 ▸ (by repeat first|exact br _|assumption|apply bd|apply bn|apply ba|refine bt ?_ (by assumption))
  have gx : W2.heap[w1.heap.size]? = some (.cells #[.slice oa o.length oc, .int .i64 (R : Int)] 24 (0, 0)) := hW2 ▸ heap_alloc_new w1 _
  have Hnew := qJ (fun (w' : World) (hb : Bw W2 w') => pnew_ok o oa oc R W w' (hN.below (hB2.trans hb)) hce g.h1 g.h8 g.hW1 g.hW g.hR1 g.hR)
  have HN2 := qJ (hN.below hB2)
  have g0 := qQ (o := 0) gx rfl
  have g1 := qQ (o := 1) gx rfl
  have gl := (Array.getElem?_eq_some_iff.1 gx).1
  have HB2 := qJ (hB1'.trans hB2)
  rw [hW2]
  generalize hgb : w1.heap.size = gb at gx g0 g1 gl ⊢
  have Hgx0 := qJ gx
  clear hF hN hce hj hWj b1 b2 hwf hgl hn gx hW2 hB2 hB1' hgb g h0
  go_wp2_with fail
  refine ((qK Hnew) _ (Bw.refl _)).mono ?_
  rintro e w3 ⟨pb, xp, rfl, hO, hB3⟩
  have Hgx := qJ ((Below.block hB3 _ gl).trans (qK Hgx0))
  have g0' := ((qX hB3).1 _ 0 gl).trans g0
  have g1' := ((qX hB3).1 _ 1 gl).trans g1
  have gl' := Nat.lt_of_lt_of_le gl hB3.size
  have HO := qJ (⟨hO, hB3⟩ : _ ∧ _)
  clear hO Hnew g0 g1 gl hB3
  go_wp2_with fail
  obtain ⟨W3, hW3⟩ : ∃ W3, w3.alloc (.cells #[.pointer (some ⟨pb, 0, none⟩), .slice oa o.length oc, .int .i64 (R : Int), .int .i64 (W : Int), .slice none 0 0, .slice none 0 0, .int .i64 0, .int .i64 0, .slice none 0 0] 57) = W3 := ⟨_, rfl⟩
  have hst : EpL w3 W3 w3.heap.size pb oa o.length oc R W (.slice none 0 0) [] := ⟨hW3 ▸ heap_alloc_new w3 _, World.ownsRow_nil _ _ _ _, by simp, List.nodup_nil, Nat.le_refl _, hW3 ▸ (by repeat first|exact br _|assumption|apply bd|apply bn|apply ba|refine bt ?_ (by assumption))⟩
  rw [hW3]
  have Hst := qJ hst
  generalize hbb : w3.heap.size = bb at Hst ⊢
  clear hW3 hst
  have hmk := make_ints (o.length : Int) o.length rfl (by omega)
  go_loopw [11] (fun i wr => ∃ (k : Nat) (v4 : Value) (rs : List Nat), k ≤ W ∧ i = .int .i64 k ∧ rs.length = k ∧ EpL w3 wr bb pb oa o.length oc R W v4 rs) (fun i _ => W - (intOf i).toNat)
  case atStart => exact ⟨0, _, [], Nat.zero_le _, rfl, rfl, qK Hst⟩
  case round =>
    clear Hst
    obtain ⟨k, v4, rs, hk, rfl, hrs, hE⟩ := hrel
    rename World => wr
    subst hrs
    by_cases hlt : rs.length < W
    · have hk1 : (rs.length : Int) < (W : Int) := by omega
      have g0 := ((qX hE.base).1 _ 0 gl').trans g0'
      have gl := Nat.lt_of_lt_of_le gl' hE.base.size
      have r4 := qQ (o := 4) hE.root rfl
      have rl := (Array.getElem?_eq_some_iff.1 hE.root).1
      have Hgr := qJ ((Below.block hE.base _ gl').trans (qK Hgx))
      have HE := qJ hE
      have Hbb := qJ hbb
      clear hE hbb
      go_wp2_with fail
      refine wp_region_held_drew (S := (fun w' => w'.cell? ⟨gb, 0, none⟩ = some (.slice oa o.length oc))) (by kernel_rfl) (by (try dsimp only); go_keep) (fun hHeld => ?_)
      refine wpAnyH_take (i := 0) (v := ?vo0) rfl (by kernel_rfl) (by kernel_rfl) (by kernel_rfl) (fun _ _ _ h => h) (Or.inl ⟨by rfl, ?ho0⟩) (by assumption) ?ro0; (case ho0 => intro w S; (try dsimp only at S); go_simp; try with_reducible rfl); try simp only [Act.put, qP, qN, qM]
      refine wpAnyH_take (i := 1) (v := ?vo1) rfl (by kernel_rfl) (by kernel_rfl) (by kernel_rfl) (fun _ _ _ h => h) (Or.inl ⟨by rfl, ?ho1⟩) (by assumption) ?ro1; (case ho1 => intro w S; (try dsimp only at S); go_simp; try with_reducible rfl); try simp only [Act.put, qP, qN, qM]
      refine wpAnyH_take (i := 2) (v := ?vo2) rfl (by kernel_rfl) (by kernel_rfl) (by kernel_rfl) (fun _ _ _ h => h) (Or.inl ⟨by rfl, ?ho2⟩) (by assumption) ?ro2; (case ho2 => intro w S; (try dsimp only at S); go_simp; try with_reducible rfl); try simp only [Act.put, qP, qN, qM]
      refine wpAnyH_take (i := 3) (v := ?vo3) rfl (by kernel_rfl) (by kernel_rfl) (by kernel_rfl) (fun _ _ _ h => h) (Or.inl ⟨by rfl, ?ho3⟩) (by assumption) ?ro3; (case ho3 => intro w S; (try dsimp only at S); go_simp; try with_reducible rfl); try simp only [Act.put, qP, qN, qM]
      refine wpAnyH_take (i := 5) (v := ?vo5) rfl (by kernel_rfl) (by kernel_rfl) (by kernel_rfl) (fun _ _ _ h => h) (Or.inl ⟨by rfl, ?ho5⟩) (by assumption) ?ro5; (case ho5 => intro w S; (try dsimp only at S); go_simp; try with_reducible rfl); try simp only [Act.put, qP, qN, qM]
      refine wpAnyH_take (i := 6) (v := ?vo6) rfl (by kernel_rfl) (by kernel_rfl) (by kernel_rfl) (fun _ _ _ h => h) (Or.inl ⟨by rfl, ?ho6⟩) (by assumption) ?ro6; (case ho6 => intro w S; (try dsimp only at S); go_simp; try with_reducible rfl); try simp only [Act.put, qP, qN, qM]
      refine wpAnyH_take (i := 7) (v := ?vo7) rfl (by kernel_rfl) (by kernel_rfl) (by kernel_rfl) (fun _ _ _ h => h) (Or.inl ⟨by rfl, ?ho7⟩) (by assumption) ?ro7; (case ho7 => intro w S; (try dsimp only at S); go_simp; try with_reducible rfl); try simp only [Act.put, qP, qN, qM]
      refine wpAnyH_ready (rs := [4, 8]) (by kernel_rfl) (by simp) ?_
      refine AllReadyH.cons rfl (fun K hK => ?_) (AllReadyH.cons rfl (fun K hK => ?_) AllReadyH.nil)
      · go_simp
        refine hK.out _ _ (by (try dsimp only); go_keep) (fun hHeld => ?_)
        clear hK K
        try simp only [Act.put, qP, qN, qM]
        refine wpAnyH_ready (rs := [8]) (by kernel_rfl) (by simp) ?_
        refine AllReadyH.cons rfl (fun K hK => ?_) AllReadyH.nil
        go_simp
        refine hK.out _ _ (by (try dsimp only); go_keep) (fun hHeld => ?_)
        clear hK K
        try simp only [Act.put, qP, qN, qM]
        refine wpAnyH_ready (rs := [9]) (by kernel_rfl) (by simp) ?_
        refine AllReadyH.cons rfl (fun K hK => ?_) AllReadyH.nil
        go_simp
        refine hK.out _ _ (by (try dsimp only); go_keep) (fun hHeld => ?_)
        clear hK K
        try simp only [Act.put, qP, qN, qM]
        refine wpAnyH_ready (rs := [10]) (by kernel_rfl) (by simp) ?_
        refine AllReadyH.cons rfl (fun K hK => ?_) AllReadyH.nil
        refine stepL rfl _ _ _ 26 rfl _ 1 24 Try.infoInts Try.underlying54 rfl (by decide) w3.heap.size v4 rs.length (rs.map fun b => .slice (some ⟨b, 0, none⟩) o.length o.length) rfl ((qK HE).bw (by repeat first|exact br _|assumption|apply bd|apply bn|apply ba|refine bt ?_ (by assumption))).own _ _ [.slice (some ⟨wr.heap.size, 0, none⟩) o.length o.length] rfl rfl (cells1f (qQ (qS _ _ (by simp)) rfl)) (by simp [Value.oneCell']) (by omega) (by omega) (Bw.size (Bw.trans (qK HE).base (by repeat first|exact br _|assumption|apply bd|apply bn|apply ba|refine bt ?_ (by assumption)))) ?_
        intro g' cap w7 ho7 hg7 hl7
        obtain ⟨t1, t2, t3, t4, hnx⟩ := EpL.next (qK HE) (r := wr.heap.size) (hg := hg7) (ho := ho7) (hb := by exact (by repeat first|exact br _|assumption|apply bd|apply bn|apply ba|refine bt ?_ (by assumption))) (hr := by exact (yY wr _ _).1) (hlo := Nat.le_refl _) (hs := (madeI _).1) (hz := (madeI _).2)
        have Hnx := qJ hnx
        obtain ⟨t5, t6⟩ := t4 _ _ (qK Hgr)
        have t7 := qQ (o := 0) t5 rfl
        refine hK.out _ _ (by (try dsimp only); go_keep) (fun hHeld => ?_)
        clear hK K
        try simp only [Act.put, qP, qN, qM]
        refine wpAnyH_take (i := 11) (v := ?vx11) rfl (by kernel_rfl) (by kernel_rfl) (by kernel_rfl) (fun _ _ _ h => h) (Or.inl ⟨by rfl, ?hx11⟩) (by assumption) ?rx11; (case hx11 => intro w S; (try dsimp only at S); go_simp; try with_reducible rfl); try simp only [Act.put, qP, qN, qM]
        refine wpAnyH_take (i := 12) (v := ?vx12) rfl (by kernel_rfl) (by kernel_rfl) (by kernel_rfl) (fun _ _ _ h => h) (Or.inl ⟨by rfl, ?hx12⟩) (by assumption) ?rx12; (case hx12 => intro w S; (try dsimp only at S); go_simp; try with_reducible rfl); try simp only [Act.put, qP, qN, qM]
        refine wpAnyH_ready (rs := [13]) (by kernel_rfl) (by simp) ?_
        refine AllReadyH.cons rfl (fun K hK => ?_) AllReadyH.nil
        go_simp
        refine hK.out _ _ (qQ (t6 _) rfl) (fun hHeld => ?_)
        clear hK K
        try simp only [Act.put, qP, qN, qM]
        refine wpAnyH_done (by kernel_rfl) ?_ _
        go_wp2_with fail
        go_roundw
        case rel => exact ⟨rs.length + 1, _, _, by omega, by go_num, by rw [List.length_append]; rfl, (qK Hnx).bw (by repeat first|exact br _|assumption|apply bd|apply bn|apply ba|refine bt ?_ (by assumption))⟩
        case measure => simp [intOf]; omega
      · go_simp
        refine hK.out _ _ (by (try dsimp only); go_keep) (fun hHeld => ?_)
        clear hK K
        try simp only [Act.put, qP, qN, qM]
        refine wpAnyH_ready (rs := [4, 9]) (by kernel_rfl) (by simp) ?_
        refine AllReadyH.cons rfl (fun K hK => ?_) (AllReadyH.cons rfl (fun K hK => ?_) AllReadyH.nil)
        · go_simp
          refine hK.out _ _ (by (try dsimp only); go_keep) (fun hHeld => ?_)
          clear hK K
          try simp only [Act.put, qP, qN, qM]
          refine wpAnyH_ready (rs := [9]) (by kernel_rfl) (by simp) ?_
          refine AllReadyH.cons rfl (fun K hK => ?_) AllReadyH.nil
          go_simp
          refine hK.out _ _ (by (try dsimp only); go_keep) (fun hHeld => ?_)
          clear hK K
          try simp only [Act.put, qP, qN, qM]
          refine wpAnyH_ready (rs := [10]) (by kernel_rfl) (by simp) ?_
          refine AllReadyH.cons rfl (fun K hK => ?_) AllReadyH.nil
          refine stepL rfl _ _ _ 26 rfl _ 1 24 Try.infoInts Try.underlying54 rfl (by decide) w3.heap.size v4 rs.length (rs.map fun b => .slice (some ⟨b, 0, none⟩) o.length o.length) rfl ((qK HE).bw (by repeat first|exact br _|assumption|apply bd|apply bn|apply ba|refine bt ?_ (by assumption))).own _ _ [.slice (some ⟨wr.heap.size, 0, none⟩) o.length o.length] rfl rfl (cells1f (qQ (qS _ _ (by simp)) rfl)) (by simp [Value.oneCell']) (by omega) (by omega) (Bw.size (Bw.trans (qK HE).base (by repeat first|exact br _|assumption|apply bd|apply bn|apply ba|refine bt ?_ (by assumption)))) ?_
          intro g' cap w7 ho7 hg7 hl7
          obtain ⟨t1, t2, t3, t4, hnx⟩ := EpL.next (qK HE) (r := wr.heap.size) (hg := hg7) (ho := ho7) (hb := by exact (by repeat first|exact br _|assumption|apply bd|apply bn|apply ba|refine bt ?_ (by assumption))) (hr := by exact (yY wr _ _).1) (hlo := Nat.le_refl _) (hs := (madeI _).1) (hz := (madeI _).2)
          have Hnx := qJ hnx
          obtain ⟨t5, t6⟩ := t4 _ _ (qK Hgr)
          have t7 := qQ (o := 0) t5 rfl
          refine hK.out _ _ (by (try dsimp only); go_keep) (fun hHeld => ?_)
          clear hK K
          try simp only [Act.put, qP, qN, qM]
          refine wpAnyH_take (i := 11) (v := ?vy11) rfl (by kernel_rfl) (by kernel_rfl) (by kernel_rfl) (fun _ _ _ h => h) (Or.inl ⟨by rfl, ?hy11⟩) (by assumption) ?ry11; (case hy11 => intro w S; (try dsimp only at S); go_simp; try with_reducible rfl); try simp only [Act.put, qP, qN, qM]
          refine wpAnyH_take (i := 12) (v := ?vy12) rfl (by kernel_rfl) (by kernel_rfl) (by kernel_rfl) (fun _ _ _ h => h) (Or.inl ⟨by rfl, ?hy12⟩) (by assumption) ?ry12; (case hy12 => intro w S; (try dsimp only at S); go_simp; try with_reducible rfl); try simp only [Act.put, qP, qN, qM]
          refine wpAnyH_ready (rs := [13]) (by kernel_rfl) (by simp) ?_
          refine AllReadyH.cons rfl (fun K hK => ?_) AllReadyH.nil
          go_simp
          refine hK.out _ _ (qQ (t6 _) rfl) (fun hHeld => ?_)
          clear hK K
          try simp only [Act.put, qP, qN, qM]
          refine wpAnyH_done (by kernel_rfl) ?_ _
          go_wp2_with fail
          go_roundw
          case rel => exact ⟨rs.length + 1, _, _, by omega, by go_num, by rw [List.length_append]; rfl, (qK Hnx).bw (by repeat first|exact br _|assumption|apply bd|apply bn|apply ba|refine bt ?_ (by assumption))⟩
          case measure => simp [intOf]; omega
        · go_simp
          refine hK.out _ _ (by (try dsimp only); go_keep) (fun hHeld => ?_)
          clear hK K
          try simp only [Act.put, qP, qN, qM]
          refine wpAnyH_ready (rs := [4]) (by kernel_rfl) (by simp) ?_
          refine AllReadyH.cons rfl (fun K hK => ?_) AllReadyH.nil
          go_simp
          refine hK.out _ _ (by (try dsimp only); go_keep) (fun hHeld => ?_)
          clear hK K
          try simp only [Act.put, qP, qN, qM]
          refine wpAnyH_ready (rs := [10]) (by kernel_rfl) (by simp) ?_
          refine AllReadyH.cons rfl (fun K hK => ?_) AllReadyH.nil
          refine stepL rfl _ _ _ 26 rfl _ 1 24 Try.infoInts Try.underlying54 rfl (by decide) w3.heap.size v4 rs.length (rs.map fun b => .slice (some ⟨b, 0, none⟩) o.length o.length) rfl ((qK HE).bw (by repeat first|exact br _|assumption|apply bd|apply bn|apply ba|refine bt ?_ (by assumption))).own _ _ [.slice (some ⟨wr.heap.size, 0, none⟩) o.length o.length] rfl rfl (cells1f (qQ (qS _ _ (by simp)) rfl)) (by simp [Value.oneCell']) (by omega) (by omega) (Bw.size (Bw.trans (qK HE).base (by repeat first|exact br _|assumption|apply bd|apply bn|apply ba|refine bt ?_ (by assumption)))) ?_
          intro g' cap w7 ho7 hg7 hl7
          obtain ⟨t1, t2, t3, t4, hnx⟩ := EpL.next (qK HE) (r := wr.heap.size) (hg := hg7) (ho := ho7) (hb := by exact (by repeat first|exact br _|assumption|apply bd|apply bn|apply ba|refine bt ?_ (by assumption))) (hr := by exact (yY wr _ _).1) (hlo := Nat.le_refl _) (hs := (madeI _).1) (hz := (madeI _).2)
          have Hnx := qJ hnx
          obtain ⟨t5, t6⟩ := t4 _ _ (qK Hgr)
          have t7 := qQ (o := 0) t5 rfl
          refine hK.out _ _ (by (try dsimp only); go_keep) (fun hHeld => ?_)
          clear hK K
          try simp only [Act.put, qP, qN, qM]
          refine wpAnyH_take (i := 11) (v := ?vz11) rfl (by kernel_rfl) (by kernel_rfl) (by kernel_rfl) (fun _ _ _ h => h) (Or.inl ⟨by rfl, ?hz11⟩) (by assumption) ?rz11; (case hz11 => intro w S; (try dsimp only at S); go_simp; try with_reducible rfl); try simp only [Act.put, qP, qN, qM]
          refine wpAnyH_take (i := 12) (v := ?vz12) rfl (by kernel_rfl) (by kernel_rfl) (by kernel_rfl) (fun _ _ _ h => h) (Or.inl ⟨by rfl, ?hz12⟩) (by assumption) ?rz12; (case hz12 => intro w S; (try dsimp only at S); go_simp; try with_reducible rfl); try simp only [Act.put, qP, qN, qM]
          refine wpAnyH_ready (rs := [13]) (by kernel_rfl) (by simp) ?_
          refine AllReadyH.cons rfl (fun K hK => ?_) AllReadyH.nil
          go_simp
          refine hK.out _ _ (qQ (t6 _) rfl) (fun hHeld => ?_)
          clear hK K
          try simp only [Act.put, qP, qN, qM]
          refine wpAnyH_done (by kernel_rfl) ?_ _
          go_wp2_with fail
          go_roundw
          case rel => exact ⟨rs.length + 1, _, _, by omega, by go_num, by rw [List.length_append]; rfl, (qK Hnx).bw (by repeat first|exact br _|assumption|apply bd|apply bn|apply ba|refine bt ?_ (by assumption))⟩
          case measure => simp [intOf]; omega
    · have hkk : rs.length = W := by omega
      have Hkk := qJ hkk
      have HE := qJ hE
      clear hkk
      clear hE
      go_wp2_with fail
      go_ret2
      obtain ⟨hO, hB3⟩ := qK HO
      obtain ⟨g, h0⟩ := qK Hg
      obtain ⟨U, hU1, hU2⟩ := (qK HE).book g (qK Hkk) hO (qK HN2) hB3
      exact ⟨bb, o, R, W, U, rfl, g, h0, hU1, (qK HB2).trans (hB3.trans (qK HE).base), fun b hb => Nat.le_trans (qK HB2).size (hU2 b hb)⟩
def BIn (V w : World) (bb : Nat) (ns : List Nd) (R W : Nat) (gs : List Gv) (p : PSt) (st : RSt) : Prop := ∃ U, BAt w U bb ns R W gs p st ∧ (∀ b, U b → V.heap.size ≤ b) ∧ Bw V w
theorem BIn.next {V w w' : World} {U : Nat → Prop} {bb : Nat} {ns : List Nd} {R W : Nat} {gs : List Gv} {p : PSt} {st : RSt} (hU : ∀ b, U b → V.heap.size ≤ b) (hb : Bw V w) (h : BAt.After w w' U bb ns R W gs p st) : BIn V w' bb ns R W gs p st := by
  obtain ⟨U', h1, h2, h3⟩ := h
  exact ⟨U', h1, fun b hb' => (h3 b hb').elim (hU b) (fun h => Nat.le_trans hb.size h), Chg.toBw hb h2 hU⟩
theorem BIn.more {V w w' : World} {bb : Nat} {ns : List Nd} {R W : Nat} {gs : List Gv} {p : PSt} {st : RSt} (h : BIn V w bb ns R W gs p st) (hb : Bw w w') : BIn V w' bb ns R W gs p st := by
  obtain ⟨U, h1, h2, h3⟩ := h
  exact ⟨U, h1.bw hb, h2, h3.trans hb⟩
theorem OpsAt.below {w w' : World} {ad : Option Addr} {l : List OpI} (h : OpsAt w ad l) (hb : Bw w w') : OpsAt w' ad l := h.chg (U := fun _ => False) (Chg.bw hb) fun _ _ _ _ h => h
theorem IntsAt.apart {V : World} {U : Nat → Prop} {ad : Option Addr} {l : List Int} (h : IntsAt V ad l) (hU : ∀ b, U b → V.heap.size ≤ b) : ∀ i, i < l.length → ∀ a, ad = some a → ¬ U a.block := fun i hi a e hu => by
  obtain ⟨b, off, e2, hb, _⟩ := h i hi
  rw [e2] at e
  have := hU _ hu
  injection e with e
  subst e
  simp only at this
  omega
theorem BAt.notes {w : World} {U : Nat → Prop} {bb : Nat} {ns : List Nd} {R W : Nat} {gs : List Gv} {p : PSt} {st : RSt} (h : BAt w U bb ns R W gs p st) : ∃ (ta : Option Addr) (tc : Nat), w.cell? ⟨bb, 8, none⟩ = some (.slice ta (ntL st.evs).length tc) ∧ GvAt w ta (ntL st.evs) ∧ bb < w.heap.size := by
  obtain ⟨W0, T, S, pb, x, xp, h, _⟩ := h
  obtain ⟨c0, c1, c2, c3, c4, c5, c6, c7, c8, cl, _⟩ := h.bt.cells
  exact ⟨vC x.vt, capV x.vt, c8.trans (congrArg some (qU h.bt.notes.1)), gvAt_own h.bt.notes.1, cl⟩
theorem Kept.none_at {ns : List Nd} {R W : Nat} {gs : List Gv} {p : PSt} {st : RSt} (h : Kept ns R W gs p st) {i n : Nat} (hk : (qV ns n).kind = 0) : p.wt i n = [] := by
  obtain ⟨k, hi⟩ := h.inv
  refine List.eq_nil_of_length_eq_zero ?_
  rcases Nat.eq_zero_or_pos (p.wt i n).length with h0 | h0
  · exact h0
  · obtain ⟨_, _, _, _, _, _, _, _, _, _, _, h7, _⟩ := h.sim.mail2 hi h0
    exact absurd hk h7
theorem ntL_len (evs : List Ev) : (ntL evs).length ≤ evs.length := by
  unfold ntL; rw [List.length_map]; exact List.length_filter_le _ _
set_option maxRecDepth 100000 in
set_option maxHeartbeats 8000000 in
theorem ksafe_any (raw : List Nd) (ga : Option Addr) (gc : Nat) (r wk : Int) (ops : List OpI) (sa : Option Addr) (sc : Nat) (cs : List Int) (ca : Option Addr) (cc : Nat) (w : World) (hn : NodesAt w ga raw) (hgl : raw.length ≤ maxLen) (hwf : ∀ j, j < raw.length → (qV raw j).wf) (hwk : I64 wk) (ho : OpsAt w sa ops) (hol : ops.length ≤ 140737488355328) (how : ∀ j, j < ops.length → (opn ops j).wf) (hc : IntsAt w ca cs) (hcl : cs.length ≤ 140737488355328) (hc64 : I64L cs) :
    Calls Try.prog 9 #[.agg #[.slice ga raw.length gc, .int .i64 r], .int .i64 wk, .slice sa ops.length sc, .slice ca cs.length cc] w fun e w' => e = .returned (.bool true) ∧ Bw w w' := by
  go_enter Try.func9, Try.ntmps9
  go_wp2_with fail
  refine (kopen_any raw _ _ _ _ _ (hn.below (by repeat first|exact br _|assumption|apply bd|apply bn|apply ba|refine bt ?_ (by assumption))) hgl hwf hwk).mono ?_
  rintro e1 w1 ⟨bb, ns, R, W, U, rfl, g, h0, hB1, hb1, hU1⟩
  have hUw : ∀ b, U b → w.heap.size ≤ b := fun b hb => Nat.le_trans (Bw.size (by repeat first|exact br _|assumption|apply bd|apply bn|apply ba|refine bt ?_ (by assumption))) (hU1 b hb)
  have hbw : Bw w w1 := Bw.trans (by repeat first|exact br _|assumption|apply bd|apply bn|apply ba|refine bt ?_ (by assumption)) hb1
  have Hg := qJ (⟨g, h0⟩ : _ ∧ _)
  have Hgi := qJ (kgive_any g 0 0 1 w1 hB1 g.hW1 g.h1 h0 ⟨by omega, by omega⟩)
  have HI := qJ (fun (w' : World) gs p st h => @BIn.next w w1 w' U bb ns R W gs p st hUw hbw h)
  clear hn hgl hwf hB1 hb1 hU1 hUw hbw
  have hW1 := g.hW1
  have hL1 := g.h1
  clear g h0
  go_wp2_with fail
  refine (qK Hgi).mono ?_
  rintro e2 w2 ⟨rfl, gs, p, st, hA2, _⟩
  have HI2 := qJ ((qK HI) _ _ _ _ hA2)
  obtain ⟨U2, hB2, hU2, hb2⟩ := qK HI2
  obtain ⟨pb, na, va, nc, vc, c0, _, _, _, _, _, _, cl, _⟩ := hB2.all
  have Hw : Hid (Calls Try.prog 30 #[.pointer (some ⟨pb, 0, none⟩), .int .i64 0, .int .i64 0] w2 fun en w3 => ∃ va vc, en = .returned (.tuple #[.slice va 0 vc, .int .i64 0]) ∧ Bw w2 w3) := qJ (by
    refine (hB2.waiting c0 (i := 0) (n := 0) hW1 hL1 w2 (Bw.refl _)).mono ?_
    rintro en w3 ⟨va, vc, rfl, _, _, h2⟩
    rw [hB2.kept.none_at (qK Hg).2]
    exact ⟨va, vc, rfl, h2⟩)
  clear hA2 HI Hgi hB2 hU2 hb2
  go_wp2_with fail
  refine (qK Hw).mono ?_
  rintro e3 w3 ⟨va, vc, rfl, hB3⟩
  have Hst := qJ ((qK HI2).more hB3)
  clear HI2 Hw c0 cl
  go_wp2_with fail
  go_loopw [14] (fun i wr => ∃ (k : Nat) (gs : List Gv) (p : PSt) (st : RSt), k ≤ ops.length ∧ i = .int .i64 k ∧ BIn w wr bb ns R W gs p st) (fun i _ => ops.length - (intOf i).toNat)
  case atStart => exact ⟨0, _, _, _, Nat.zero_le _, rfl, qK Hst⟩
  case round =>
    clear Hst hB3
    obtain ⟨k, gs, p, st, hk, rfl, hIn⟩ := hrel
    rename World => wr
    obtain ⟨U1, hB1, hU1, hb1⟩ := hIn
    by_cases hlt : k < ops.length
    · have hk1 : (k : Int) < (ops.length : Int) := by omega
      obtain ⟨b, off, rfl, hb, hcc⟩ := (ho.below hb1) k hlt
      obtain ⟨z0, z1, z2, z3⟩ := hcc k hlt
      have Hst := qJ (kstep_any (qK Hg).1 (qK Hg).2 (opn ops k) (how k hlt) wr hB1)
      have HI := qJ (fun (w' : World) gs p st h => @BIn.next w wr w' U1 bb ns R W gs p st hU1 hb1 h)
      clear hcc hB1 hU1 hb1
      generalize opn ops k = o at *
      go_wp2_with fail
      refine (qK Hst).mono ?_
      rintro e2 w2 ⟨rfl, gs2, p2, st2, hA2, hM2⟩
      have HI2 := qJ ((qK HI) _ _ _ _ hA2)
      obtain ⟨U2, hB2, hU2, hb2⟩ := qK HI2
      obtain ⟨ta, tc, c8, hta, cl⟩ := hB2.notes
      have hnl := Nat.le_trans (ntL_len st2.evs) (hB2.kept.small (qK Hg).1).2.1
      have Hnq : Hid (∀ j, j < (ntL st2.evs).length → ∃ n e s : Nat, zR (ntL st2.evs) j = ⟨n, e, s⟩ ∧ ∀ w', Bw w2 w' → Calls Try.prog 31 #[.pointer (some ⟨bb, 0, none⟩), .int .i64 (n : Int), .agg #[.int .i64 (e : Int), .int .i64 (s : Int)]] w' fun e w3 => e = .returned (.bool true) ∧ Bw w' w3) := qJ (by
        intro j hj
        have hm : zR (ntL st2.evs) j ∈ ntL st2.evs := by
          unfold zR; rw [List.getD_eq_getElem?_getD, List.getElem?_eq_getElem hj]; exact List.getElem_mem hj
        obtain ⟨n, e, s, h1, h2, _, _, h5⟩ := hB2.kept.ntq (qK Hg).1 hm
        exact ⟨n, e, s, h1, fun w' hb' => kquiet_any (qK Hg).1 n e s h2 w' (hB2.bw hb') h5⟩)
      clear hA2 hM2 HI Hst hB2 hU2 hb2 z0 z1 z2 z3 hb
      generalize ntL st2.evs = nts at *
      go_wp2_with fail
      go_loopw [15] (fun i wi => ∃ j : Nat, j ≤ nts.length ∧ i = .int .i64 j ∧ Bw w2 wi) (fun i _ => nts.length - (intOf i).toNat)
      case atStart => exact ⟨0, Nat.zero_le _, rfl, Bw.refl _⟩
      case round =>
        obtain ⟨j, hj, rfl, hBi⟩ := hrel
        rename World => wi
        have d8 := ((qX hBi).1 _ 8 cl).trans c8
        have dl := Nat.lt_of_lt_of_le cl hBi.size
        by_cases hlt2 : j < nts.length
        · have hj1 : (j : Int) < (nts.length : Int) := by omega
          obtain ⟨n, e, s, hy, hqu⟩ := (qK Hnq) j hlt2
          obtain ⟨tb, toff, rfl, htb, htc⟩ := (hta.below hBi) j hlt2
          obtain ⟨y0, y1, y2⟩ := htc j hlt2
          rw [hy] at y0 y1 y2
          simp only at y0 y1 y2
          have Hqu : Hid (∀ w', Bw wi w' → Calls Try.prog 31 #[.pointer (some ⟨bb, 0, none⟩), .int .i64 (n : Int), .agg #[.int .i64 (e : Int), .int .i64 (s : Int)]] w' fun en w3 => en = .returned (.bool true) ∧ Bw wi w3 ∧ (w3.cell? ⟨bb, 8, none⟩ = some (.slice (some ⟨tb, toff, none⟩) nts.length tc) ∧ w3.cell? ⟨tb, toff + j * 3, none⟩ = some (.int .i64 (n : Int)) ∧ w3.cell? ⟨tb, toff + j * 3 + 1, none⟩ = some (.int .i64 (e : Int)) ∧ w3.cell? ⟨tb, toff + j * 3 + 2, none⟩ = some (.int .i64 (s : Int)))) := qJ (by
            intro w' hb'
            refine (hqu w' (hBi.trans hb')).mono ?_
            rintro en w5 ⟨rfl, h2⟩
            have hbb := hb'.trans h2
            exact ⟨rfl, hbb, ((qX hbb).1 _ _ dl).trans d8, ((qX hbb).1 _ _ htb).trans y0, ((qX hbb).1 _ _ htb).trans y1, ((qX hbb).1 _ _ htb).trans y2⟩)
          have HBi := qJ hBi
          clear htc hqu hy hBi c8 cl
          go_wp2_with fail
          refine wp_region_held_drew (S := (fun w' => w'.cell? ⟨bb, 8, none⟩ = some (.slice (some ⟨tb, toff, none⟩) nts.length tc) ∧ w'.cell? ⟨tb, toff + j * 3, none⟩ = some (.int .i64 (n : Int)) ∧ w'.cell? ⟨tb, toff + j * 3 + 1, none⟩ = some (.int .i64 (e : Int)) ∧ w'.cell? ⟨tb, toff + j * 3 + 2, none⟩ = some (.int .i64 (s : Int)))) (by kernel_rfl) (by (try dsimp only); go_keep) (fun hHeld => ?_)
          refine wpAnyH_take (i := 0) (v := ?vs0) rfl (by kernel_rfl) (by kernel_rfl) (by kernel_rfl) (fun _ _ _ h => h) (Or.inl ⟨by rfl, ?hs0⟩) (by assumption) ?rs0; (case hs0 => intro w S; (try dsimp only at S); go_simp; try with_reducible rfl); try simp only [Act.put, qP, qN, qM]
          refine wpAnyH_take (i := 1) (v := ?vs1) rfl (by kernel_rfl) (by kernel_rfl) (by kernel_rfl) (fun _ _ _ h => h) (Or.inl ⟨by rfl, ?hs1⟩) (by assumption) ?rs1; (case hs1 => intro w S; (try dsimp only at S); go_simp; try with_reducible rfl); try simp only [Act.put, qP, qN, qM]
          refine wpAnyH_take (i := 2) (v := ?vs2) rfl (by kernel_rfl) (by kernel_rfl) (by kernel_rfl) (fun _ _ _ h => h) (Or.inl ⟨by rfl, ?hs2⟩) (by assumption) ?rs2; (case hs2 => intro w S; (try dsimp only at S); go_simp; try with_reducible rfl); try simp only [Act.put, qP, qN, qM]
          refine wpAnyH_take (i := 3) (v := ?vs3) rfl (by kernel_rfl) (by kernel_rfl) (by kernel_rfl) (fun _ _ _ h => h) (Or.inl ⟨by rfl, ?hs3⟩) (by assumption) ?rs3; (case hs3 => intro w S; (try dsimp only at S); go_simp; try with_reducible rfl); try simp only [Act.put, qP, qN, qM]
          refine wpAnyH_take (i := 4) (v := ?vs4) rfl (by kernel_rfl) (by kernel_rfl) (by kernel_rfl) (fun _ _ _ h => h) (Or.inl ⟨by rfl, ?hs4⟩) (by assumption) ?rs4; (case hs4 => intro w S; (try dsimp only at S); go_simp; try with_reducible rfl); try simp only [Act.put, qP, qN, qM]
          refine wpAnyH_take (i := 5) (v := ?vs5) rfl (by kernel_rfl) (by kernel_rfl) (by kernel_rfl) (fun _ _ _ h => h) (Or.inl ⟨by rfl, ?hs5⟩) (by assumption) ?rs5; (case hs5 => intro w S; (try dsimp only at S); go_simp; try with_reducible rfl); try simp only [Act.put, qP, qN, qM]
          refine wpAnyH_take (i := 6) (v := ?vs6) rfl (by kernel_rfl) (by kernel_rfl) (by kernel_rfl) (fun _ _ _ h => h) (Or.inl ⟨by rfl, ?hs6⟩) (by assumption) ?rs6; (case hs6 => intro w S; (try dsimp only at S); go_simp; try with_reducible rfl); try simp only [Act.put, qP, qN, qM]
          refine wpAnyH_take (i := 7) (v := ?vs7) rfl (by kernel_rfl) (by kernel_rfl) (by kernel_rfl) (fun _ _ _ h => h) (Or.inl ⟨by rfl, ?hs7⟩) (by assumption) ?rs7; (case hs7 => intro w S; (try dsimp only at S); go_simp; try with_reducible rfl); try simp only [Act.put, qP, qN, qM]
          refine wpAnyH_take (i := 8) (v := ?vs8) rfl (by kernel_rfl) (by kernel_rfl) (by kernel_rfl) (fun _ _ _ h => h) (Or.inl ⟨by rfl, ?hs8⟩) (by assumption) ?rs8; (case hs8 => intro w S; (try dsimp only at S); go_simp; try with_reducible rfl); try simp only [Act.put, qP, qN, qM]
          refine wpAnyH_take (i := 9) (v := ?vs9) rfl (by kernel_rfl) (by kernel_rfl) (by kernel_rfl) (fun _ _ _ h => h) (Or.inl ⟨by rfl, ?hs9⟩) (by assumption) ?rs9; (case hs9 => intro w S; (try dsimp only at S); go_simp; try with_reducible rfl); try simp only [Act.put, qP, qN, qM]
          refine wpAnyH_take (i := 10) (v := ?vs10) rfl (by kernel_rfl) (by kernel_rfl) (by kernel_rfl) (fun _ _ _ h => h) (Or.inl ⟨by rfl, ?hs10⟩) (by assumption) ?rs10; (case hs10 => intro w S; (try dsimp only at S); go_simp; try with_reducible rfl); try simp only [Act.put, qP, qN, qM]
          refine wpAnyH_take (i := 11) (v := ?vs11) rfl (by kernel_rfl) (by kernel_rfl) (by kernel_rfl) (fun _ _ _ h => h) (Or.inl ⟨by rfl, ?hs11⟩) (by assumption) ?rs11; (case hs11 => intro w S; (try dsimp only at S); go_simp; try with_reducible rfl); try simp only [Act.put, qP, qN, qM]
          refine wpAnyH_take (i := 12) (v := ?vs12) rfl (by kernel_rfl) (by kernel_rfl) (by kernel_rfl) (fun _ _ _ h => h) (Or.inl ⟨by rfl, ?hs12⟩) (by assumption) ?rs12; (case hs12 => intro w S; (try dsimp only at S); go_simp; try with_reducible rfl); try simp only [Act.put, qP, qN, qM]
          refine wpAnyH_take (i := 13) (v := ?vs13) rfl (by kernel_rfl) (by kernel_rfl) (by kernel_rfl) (fun _ _ _ h => h) (Or.inl ⟨by rfl, ?hs13⟩) (by assumption) ?rs13; (case hs13 => intro w S; (try dsimp only at S); go_simp; try with_reducible rfl); try simp only [Act.put, qP, qN, qM]
          refine wpAnyH_take (i := 14) (v := ?vs14) rfl (by kernel_rfl) (by kernel_rfl) (by kernel_rfl) (fun _ _ _ h => h) (Or.inl ⟨by rfl, ?hs14⟩) (by assumption) ?rs14; (case hs14 => intro w S; (try dsimp only at S); go_simp; try with_reducible rfl); try simp only [Act.put, qP, qN, qM]
          refine wpAnyH_take (i := 15) (v := ?vs15) rfl (by kernel_rfl) (by kernel_rfl) (by kernel_rfl) (fun _ _ _ h => h) (Or.inl ⟨by rfl, ?hs15⟩) (by assumption) ?rs15; (case hs15 => intro w S; (try dsimp only at S); go_simp; try with_reducible rfl); try simp only [Act.put, qP, qN, qM]
          refine wpAnyH_take (i := 16) (v := ?vs16) rfl (by kernel_rfl) (by kernel_rfl) (by kernel_rfl) (fun _ _ _ h => h) (Or.inl ⟨by rfl, ?hs16⟩) (by assumption) ?rs16; (case hs16 => intro w S; (try dsimp only at S); go_simp; try with_reducible rfl); try simp only [Act.put, qP, qN, qM]
          refine wpAnyH_ready (rs := [17]) (by kernel_rfl) (by simp) ?_
          refine AllReadyH.cons rfl (fun K hK => ?_) AllReadyH.nil
          go_simp
          go_at_call 31
          refine ((qK Hqu) _ (by repeat first|exact br _|assumption|apply bd|apply bn|apply ba|refine bt ?_ (by assumption))).mono ?_
          rintro _ w9 ⟨rfl, hB9, ⟨t1, t2, t3, t4⟩⟩
          (try go_wp2_with fail)
          refine hK.out _ _ (by (try dsimp only); go_keep) (fun hHeld => ?_)
          clear hK K
          try simp only [Act.put, qP, qN, qM]
          refine wpAnyH_take (i := 18) (v := ?vs18) rfl (by kernel_rfl) (by kernel_rfl) (by kernel_rfl) (fun _ _ _ h => h) (Or.inl ⟨by rfl, ?hs18⟩) (by assumption) ?rs18; (case hs18 => intro w S; (try dsimp only at S); go_simp; try with_reducible rfl); try simp only [Act.put, qP, qN, qM]
          refine wpAnyH_done (by kernel_rfl) ?_ _
          go_wp2_with fail
          go_roundw
          case rel => exact ⟨j + 1, by omega, by go_num, (qK HBi).trans (hB9.trans (by repeat first|exact br _|assumption|apply bd|apply bn|apply ba|refine bt ?_ (by assumption)))⟩
          case measure => simp [intOf]; omega
        · have hjj : j = nts.length := by omega
          subst hjj
          have HBx := qJ ((qK HI2).more hBi)
          clear hBi
          go_wp2_with fail
          go_roundw
          case rel => exact ⟨k + 1, _, _, _, by omega, by go_num, qK HBx⟩
          case measure => simp [intOf]; omega
    · have hkk : k = ops.length := by omega
      subst hkk
      have Hfi := qJ (kfinish_any (qK Hg).1 (qK Hg).2 cs ca cc wr hB1 (hc.below hb1) hcl hc64 (hc.apart hU1))
      have HI2 := qJ (fun (w' : World) gs p st h => @BIn.next w wr w' U1 bb ns R W gs p st hU1 hb1 h)
      clear hB1 hU1 hb1
      go_wp2_with fail
      refine (qK Hfi).mono ?_
      rintro e3 w3 ⟨rfl, p, st, hA3, _⟩
      obtain ⟨U3, _, _, hb3⟩ := (qK HI2) _ _ _ _ hA3
      have HB := qJ hb3
      clear hA3 hb3 HI2 Hfi
      go_wp2_with fail
      go_ret
      exact ⟨rfl, qK HB⟩
end Go.Proofs.Ytfemleimkbjehaa
namespace Go.Proofs.Ytfemleimkbjehaa
open Go.ChangeShapes Go.WideShapes Go.ChangeAt Go.RowKit Go.Joins Go.Deep
theorem Try.own : ownKnob Try.prog.godebug = none := by kernel_rfl
theorem Try.laidOut : laidOutB Try.prog = true := by kernel_rfl
theorem Try.cellsInt : Try.prog.cellsOf 3 = 1 := by kernel_rfl
theorem Try.cellsNode : Try.prog.cellsOf 32 = 5 := by kernel_rfl
theorem Try.cellsGraph : Try.prog.cellsOf 24 = 2 := by kernel_rfl
theorem Try.bytesNode : Try.prog.bytesOf 32 = 40 := by kernel_rfl
section
variable {H : Type} {enc : TypeId × Value → H} {w : World} {base : Nat} {spare : Nat → Bool} {held : Bool}
theorem xP {α β : Type} {f : α → Option β} {l : List α} {r : List β} (h : l.mapM f = some r) {i : Nat} {x : α} (hx : l[i]? = some x) : ∃ y, f x = some y := by
  have hlt : i < l.length := (List.getElem?_eq_some_iff.1 hx).1
  have hr := mapM_some_length h
  exact ⟨r[i]'(by omega), by rw [mapM_some_get h i x hx]; exact List.getElem?_eq_getElem _⟩
theorem list5 {α : Type} {l : List α} (h : l.length = 5) : ∃ a b c d e, l = [a, b, c, d, e] := by
  match l, h with
  | [a, b, c, d, e], _ => exact ⟨a, b, c, d, e, rfl⟩
end
end Go.Proofs.Ytfemleimkbjehaa
