import Derived.Test.YtfemleimkbjehaaJ41
import Derived.Test.YtfemleimkbjehaaJ28
import Derived.Test.YtfemleimkbjehaaJ29
set_option maxRecDepth 1000000
set_option maxHeartbeats 40000000
set_option linter.unusedVariables false
set_option linter.unusedSimpArgs false
namespace Go.Proofs.Ytfemleimkbjehaa
open Go.RowKit
theorem TmsAt.chg {w w' : World} {U : Nat → Prop} {ad : Option Addr} {l : List Tm} (h : TmsAt w ad l) (hc : Chg U w w') (hd : ∀ i, i < l.length → ∀ a, ad = some a → ¬ U a.block) : TmsAt w' ad l := by
  intro i hi
  obtain ⟨b, off, e, hb, hcc⟩ := h i hi
  have hbl := hc.block b hb (hd i hi ⟨b, off, none⟩ e)
  refine ⟨b, off, e, Nat.lt_of_lt_of_le hb hc.size, fun j hj => ?_⟩
  obtain ⟨c0, c1⟩ := hcc j hj
  exact ⟨(World.cell?_of_block (a := ⟨b, _, none⟩) hbl).trans c0, (World.cell?_of_block (a := ⟨b, _, none⟩) hbl).trans c1⟩
set_option maxRecDepth 100000 in
set_option maxHeartbeats 8000000 in
theorem kcovered_any {U : Nat → Prop} {bb : Nat} {ns : List Nd} {R W : Nat} {gs : List Gv} {p : PSt} {st : RSt} (g : GOk ns R W) (n : Nat) (f : List Tm) (fa : Option Addr) (fc : Nat) (hn : n < ns.length) (w : World) (hB : BAt w U bb ns R W gs p st) (hfl : f.length ≤ 1000) (hf : TmsAt w fa f) (hcv : Cov ns R W p n f) :
    Calls Try.prog 33 #[.pointer (some ⟨bb, 0, none⟩), .int .i64 (n : Int), .slice fa f.length fc] w fun e w' => e = .returned (.bool true) ∧ Bw w w' := by
  have HB := qJ hB
  have hW4 := g.hW
  have hL8 := g.h8
  have Hq : Hid (∀ i j, i < W → j < (p.wt i n).length → ∃ e s : Nat, (zG (p.wt i n) j).node = e ∧ (zG (p.wt i n) j).epoch = s ∧ jU f e s f.length = false) := qJ fun i j hi hj => Cov.let g hB.kept hn hcv hi hj
  clear hB hcv
  go_enter Try.func33, Try.ntmps33
  go_wp2_with fail
  go_loopw [7] (fun i wr => ∃ k : Nat, k ≤ W ∧ i = .int .i64 k ∧ Bw w wr) (fun i _ => W - (intOf i).toNat)
  case atStart => exact ⟨0, Nat.zero_le _, rfl, Bw.refl _⟩
  case round =>
    obtain ⟨k, hk, rfl, hBr⟩ := hrel
    rename World => wr
    have hB1 := (qK HB).bw hBr
    obtain ⟨pb, na, va, nc, vc, c0, c1, c2, c3, c5, c6, c7, cl, hnd, hgv, _⟩ := hB1.all
    have HBr := qJ hBr
    clear c1 c2 c5 c6 c7 hnd hgv hBr
    by_cases hlt : k < W
    · have hk1 : (k : Int) < (W : Int) := by omega
      have Hw := qJ (hB1.waiting c0 hlt hn)
      clear hB1
      go_wp2_with (go_at_call 30; refine ((qK Hw) _ (Bw.refl _)).mono ?_; rintro e1 w1 ⟨va, vc, rfl, hla, hll, hB2⟩)
      have Hqk := qJ ((qK Hq) k)
      generalize p.wt k n = l at *
      have HBr1 := qJ ((qK HBr).trans hB2)
      go_loopw [10] (fun i wi => ∃ j : Nat, j ≤ l.length ∧ i = .int .i64 j ∧ Bw w1 wi) (fun i _ => l.length - (intOf i).toNat)
      case atStart => exact ⟨0, Nat.zero_le _, rfl, Bw.refl _⟩
      case round =>
        clear Hw c0 c3 cl HBr hB2
        obtain ⟨j, hj, rfl, hBi⟩ := hrel
        rename World => wi
        by_cases hlt2 : j < l.length
        · have hj1 : (j : Int) < (l.length : Int) := by omega
          obtain ⟨b, off, rfl, hb, hc⟩ := (hla.below hBi) j hlt2
          obtain ⟨k0, k1, _⟩ := hc j hlt2
          obtain ⟨e, s, hy1, hy2, hfree⟩ := (qK Hqk) j hlt hlt2
          rw [hy1] at k0
          rw [hy2] at k1
          have Hfree := qJ hfree
          have HBi := qJ hBi
          clear hc hBi hfree
          go_wp2_with fail
          go_loopw [11, 12] (fun v i wj => ∃ m : Nat, m ≤ f.length ∧ i = .int .i64 m ∧ v = .bool (!jU f e s m) ∧ Bw wi wj) (fun _ i _ => f.length - (intOf i).toNat)
          case atStart => exact ⟨0, Nat.zero_le _, rfl, rfl, Bw.refl _⟩
          case round =>
            obtain ⟨m, hm, rfl, rfl, hBj⟩ := hrel
            rename World => wj
            have hbx := (qK HBr1).trans ((qK HBi).trans hBj)
            by_cases hlt3 : m < f.length
            · have hm1 : (m : Int) < (f.length : Int) := by omega
              obtain ⟨fb, fo, rfl, hfb, hfc⟩ := (hf.below hbx) m hlt3
              obtain ⟨t0, t1⟩ := hfc m hlt3
              have q0 := ((qX hBj).1 _ _ hb).trans k0
              have q1 := ((qX hBj).1 _ _ hb).trans k1
              have hbj := Nat.lt_of_lt_of_le hb hBj.size
              obtain ⟨y1, hy3⟩ : ∃ y, (tmn f m).e = y := ⟨_, rfl⟩
              obtain ⟨y2, hy4⟩ : ∃ y, (tmn f m).s = y := ⟨_, rfl⟩
              rw [hy3] at t0
              rw [hy4] at t1
              have Hnx : Hid (jU f e s (m + 1) = (jU f e s m && !(decide (y1 ≤ (e : Int)) && decide (y2 ≤ (s : Int))))) := qJ (by rw [jU]; unfold upB; rw [hy3, hy4])
              have Hu : Hid (∀ w', Bw wj w' → Calls Try.prog 61 #[.agg #[.int .i64 y1, .int .i64 y2], .agg #[.int .i64 (e : Int), .int .i64 (s : Int)]] w' fun en w2 => en = .returned (.bool (decide (y1 ≤ (e : Int)) && decide (y2 ≤ (s : Int)))) ∧ Bw wj w2 ∧ (w2.cell? ⟨fb, fo + m * 2, none⟩ = some (.int .i64 y1) ∧ w2.cell? ⟨fb, fo + m * 2 + 1, none⟩ = some (.int .i64 y2) ∧ w2.cell? ⟨b, off + j * 3, none⟩ = some (.int .i64 (e : Int)) ∧ w2.cell? ⟨b, off + j * 3 + 1, none⟩ = some (.int .i64 (s : Int)))) := qJ (by
                intro w' hb'
                refine (kupTo_any y1 y2 e s w').mono ?_
                rintro en w5 ⟨rfl, h2⟩
                have hbb := hb'.trans h2
                exact ⟨rfl, hbb, ((qX hbb).1 _ _ hfb).trans t0, ((qX hbb).1 _ _ hfb).trans t1, ((qX hbb).1 _ _ hbj).trans q0, ((qX hbb).1 _ _ hbj).trans q1⟩)
              have HBj := qJ hBj
              clear hfc hBj hbx hy3 hy4
              generalize hux : (decide (y1 ≤ (e : Int)) && decide (y2 ≤ (s : Int))) = ux at Hu Hnx
              generalize hfx : jU f e s m = fx at *
              clear hux hfx k0 k1 hb
              cases fx <;> simp only [Bool.not_false, Bool.not_true]
              all_goals go_wp2_with fail
              · refine wp_region_held_drew (S := (fun w' => w'.cell? ⟨fb, fo + m * 2, none⟩ = some (.int .i64 y1) ∧ w'.cell? ⟨fb, fo + m * 2 + 1, none⟩ = some (.int .i64 y2) ∧ w'.cell? ⟨b, off + j * 3, none⟩ = some (.int .i64 (e : Int)) ∧ w'.cell? ⟨b, off + j * 3 + 1, none⟩ = some (.int .i64 (s : Int)))) (by kernel_rfl) (by (try dsimp only); go_keep) (fun hHeld => ?_)
                refine wpAnyH_take (i := 0) (v := ?vca0) rfl (by kernel_rfl) (by kernel_rfl) (by kernel_rfl) (fun _ _ _ h => h) (Or.inl ⟨by rfl, ?hca0⟩) (by assumption) ?rca0; (case hca0 => intro w S; (try dsimp only at S); go_simp; try with_reducible rfl); try simp only [Act.put, qP, qN, qM]
                refine wpAnyH_take (i := 1) (v := ?vca1) rfl (by kernel_rfl) (by kernel_rfl) (by kernel_rfl) (fun _ _ _ h => h) (Or.inl ⟨by rfl, ?hca1⟩) (by assumption) ?rca1; (case hca1 => intro w S; (try dsimp only at S); go_simp; try with_reducible rfl); try simp only [Act.put, qP, qN, qM]
                refine wpAnyH_take (i := 2) (v := ?vca2) rfl (by kernel_rfl) (by kernel_rfl) (by kernel_rfl) (fun _ _ _ h => h) (Or.inl ⟨by rfl, ?hca2⟩) (by assumption) ?rca2; (case hca2 => intro w S; (try dsimp only at S); go_simp; try with_reducible rfl); try simp only [Act.put, qP, qN, qM]
                refine wpAnyH_take (i := 3) (v := ?vca3) rfl (by kernel_rfl) (by kernel_rfl) (by kernel_rfl) (fun _ _ _ h => h) (Or.inl ⟨by rfl, ?hca3⟩) (by assumption) ?rca3; (case hca3 => intro w S; (try dsimp only at S); go_simp; try with_reducible rfl); try simp only [Act.put, qP, qN, qM]
                refine wpAnyH_take (i := 4) (v := ?vca4) rfl (by kernel_rfl) (by kernel_rfl) (by kernel_rfl) (fun _ _ _ h => h) (Or.inl ⟨by rfl, ?hca4⟩) (by assumption) ?rca4; (case hca4 => intro w S; (try dsimp only at S); go_simp; try with_reducible rfl); try simp only [Act.put, qP, qN, qM]
                refine wpAnyH_take (i := 5) (v := ?vca5) rfl (by kernel_rfl) (by kernel_rfl) (by kernel_rfl) (fun _ _ _ h => h) (Or.inl ⟨by rfl, ?hca5⟩) (by assumption) ?rca5; (case hca5 => intro w S; (try dsimp only at S); go_simp; try with_reducible rfl); try simp only [Act.put, qP, qN, qM]
                refine wpAnyH_take (i := 6) (v := ?vca6) rfl (by kernel_rfl) (by kernel_rfl) (by kernel_rfl) (fun _ _ _ h => h) (Or.inl ⟨by rfl, ?hca6⟩) (by assumption) ?rca6; (case hca6 => intro w S; (try dsimp only at S); go_simp; try with_reducible rfl); try simp only [Act.put, qP, qN, qM]
                refine wpAnyH_take (i := 7) (v := ?vca7) rfl (by kernel_rfl) (by kernel_rfl) (by kernel_rfl) (fun _ _ _ h => h) (Or.inl ⟨by rfl, ?hca7⟩) (by assumption) ?rca7; (case hca7 => intro w S; (try dsimp only at S); go_simp; try with_reducible rfl); try simp only [Act.put, qP, qN, qM]
                refine wpAnyH_take (i := 8) (v := ?vca8) rfl (by kernel_rfl) (by kernel_rfl) (by kernel_rfl) (fun _ _ _ h => h) (Or.inl ⟨by rfl, ?hca8⟩) (by assumption) ?rca8; (case hca8 => intro w S; (try dsimp only at S); go_simp; try with_reducible rfl); try simp only [Act.put, qP, qN, qM]
                refine wpAnyH_take (i := 9) (v := ?vca9) rfl (by kernel_rfl) (by kernel_rfl) (by kernel_rfl) (fun _ _ _ h => h) (Or.inl ⟨by rfl, ?hca9⟩) (by assumption) ?rca9; (case hca9 => intro w S; (try dsimp only at S); go_simp; try with_reducible rfl); try simp only [Act.put, qP, qN, qM]
                refine wpAnyH_take (i := 10) (v := ?vca10) rfl (by kernel_rfl) (by kernel_rfl) (by kernel_rfl) (fun _ _ _ h => h) (Or.inl ⟨by rfl, ?hca10⟩) (by assumption) ?rca10; (case hca10 => intro w S; (try dsimp only at S); go_simp; try with_reducible rfl); try simp only [Act.put, qP, qN, qM]
                refine wpAnyH_take (i := 11) (v := ?vca11) rfl (by kernel_rfl) (by kernel_rfl) (by kernel_rfl) (fun _ _ _ h => h) (Or.inl ⟨by rfl, ?hca11⟩) (by assumption) ?rca11; (case hca11 => intro w S; (try dsimp only at S); go_simp; try with_reducible rfl); try simp only [Act.put, qP, qN, qM]
                refine wpAnyH_take (i := 12) (v := ?vca12) rfl (by kernel_rfl) (by kernel_rfl) (by kernel_rfl) (fun _ _ _ h => h) (Or.inl ⟨by rfl, ?hca12⟩) (by assumption) ?rca12; (case hca12 => intro w S; (try dsimp only at S); go_simp; try with_reducible rfl); try simp only [Act.put, qP, qN, qM]
                refine wpAnyH_take (i := 13) (v := ?vca13) rfl (by kernel_rfl) (by kernel_rfl) (by kernel_rfl) (fun _ _ _ h => h) (Or.inl ⟨by rfl, ?hca13⟩) (by assumption) ?rca13; (case hca13 => intro w S; (try dsimp only at S); go_simp; try with_reducible rfl); try simp only [Act.put, qP, qN, qM]
                refine wpAnyH_take (i := 14) (v := ?vca14) rfl (by kernel_rfl) (by kernel_rfl) (by kernel_rfl) (fun _ _ _ h => h) (Or.inl ⟨by rfl, ?hca14⟩) (by assumption) ?rca14; (case hca14 => intro w S; (try dsimp only at S); go_simp; try with_reducible rfl); try simp only [Act.put, qP, qN, qM]
                refine wpAnyH_ready (rs := [15]) (by kernel_rfl) (by simp) ?_
                refine AllReadyH.cons rfl (fun K hK => ?_) AllReadyH.nil
                go_simp
                go_at_call 61
                refine ((qK Hu) _ (by repeat first|exact br _|assumption|apply bd|apply bn|apply ba|refine bt ?_ (by assumption))).mono ?_
                rintro _ w9 ⟨rfl, hB9, ⟨z1, z2, z3, z4⟩⟩
                (try go_wp2_with fail)
                refine hK.out _ _ (by (try dsimp only); go_keep) (fun hHeld => ?_)
                clear hK K
                try simp only [Act.put, qP, qN, qM]
                refine wpAnyH_take (i := 16) (v := ?vca16) rfl (by kernel_rfl) (by kernel_rfl) (by kernel_rfl) (fun _ _ _ h => h) (Or.inl ⟨by rfl, ?hca16⟩) (by assumption) ?rca16; (case hca16 => intro w S; (try dsimp only at S); go_simp; try with_reducible rfl); try simp only [Act.put, qP, qN, qM]
                refine wpAnyH_done (by kernel_rfl) ?_ _
                go_wp2_with fail
                go_roundw
                case rel => exact ⟨m + 1, by omega, by go_num, by rw [qK Hnx]; cases ux <;> rfl, (qK HBj).trans (hB9.trans (by repeat first|exact br _|assumption|apply bd|apply bn|apply ba|refine bt ?_ (by assumption)))⟩
                case measure => simp [intOf]; omega
              · refine wp_region_held_drew (S := (fun w' => w'.cell? ⟨fb, fo + m * 2, none⟩ = some (.int .i64 y1) ∧ w'.cell? ⟨fb, fo + m * 2 + 1, none⟩ = some (.int .i64 y2) ∧ w'.cell? ⟨b, off + j * 3, none⟩ = some (.int .i64 (e : Int)) ∧ w'.cell? ⟨b, off + j * 3 + 1, none⟩ = some (.int .i64 (s : Int)))) (by kernel_rfl) (by (try dsimp only); go_keep) (fun hHeld => ?_)
                refine wpAnyH_take (i := 0) (v := ?vcb0) rfl (by kernel_rfl) (by kernel_rfl) (by kernel_rfl) (fun _ _ _ h => h) (Or.inl ⟨by rfl, ?hcb0⟩) (by assumption) ?rcb0; (case hcb0 => intro w S; (try dsimp only at S); go_simp; try with_reducible rfl); try simp only [Act.put, qP, qN, qM]
                refine wpAnyH_take (i := 1) (v := ?vcb1) rfl (by kernel_rfl) (by kernel_rfl) (by kernel_rfl) (fun _ _ _ h => h) (Or.inl ⟨by rfl, ?hcb1⟩) (by assumption) ?rcb1; (case hcb1 => intro w S; (try dsimp only at S); go_simp; try with_reducible rfl); try simp only [Act.put, qP, qN, qM]
                refine wpAnyH_take (i := 2) (v := ?vcb2) rfl (by kernel_rfl) (by kernel_rfl) (by kernel_rfl) (fun _ _ _ h => h) (Or.inl ⟨by rfl, ?hcb2⟩) (by assumption) ?rcb2; (case hcb2 => intro w S; (try dsimp only at S); go_simp; try with_reducible rfl); try simp only [Act.put, qP, qN, qM]
                refine wpAnyH_take (i := 3) (v := ?vcb3) rfl (by kernel_rfl) (by kernel_rfl) (by kernel_rfl) (fun _ _ _ h => h) (Or.inl ⟨by rfl, ?hcb3⟩) (by assumption) ?rcb3; (case hcb3 => intro w S; (try dsimp only at S); go_simp; try with_reducible rfl); try simp only [Act.put, qP, qN, qM]
                refine wpAnyH_take (i := 4) (v := ?vcb4) rfl (by kernel_rfl) (by kernel_rfl) (by kernel_rfl) (fun _ _ _ h => h) (Or.inl ⟨by rfl, ?hcb4⟩) (by assumption) ?rcb4; (case hcb4 => intro w S; (try dsimp only at S); go_simp; try with_reducible rfl); try simp only [Act.put, qP, qN, qM]
                refine wpAnyH_take (i := 5) (v := ?vcb5) rfl (by kernel_rfl) (by kernel_rfl) (by kernel_rfl) (fun _ _ _ h => h) (Or.inl ⟨by rfl, ?hcb5⟩) (by assumption) ?rcb5; (case hcb5 => intro w S; (try dsimp only at S); go_simp; try with_reducible rfl); try simp only [Act.put, qP, qN, qM]
                refine wpAnyH_take (i := 6) (v := ?vcb6) rfl (by kernel_rfl) (by kernel_rfl) (by kernel_rfl) (fun _ _ _ h => h) (Or.inl ⟨by rfl, ?hcb6⟩) (by assumption) ?rcb6; (case hcb6 => intro w S; (try dsimp only at S); go_simp; try with_reducible rfl); try simp only [Act.put, qP, qN, qM]
                refine wpAnyH_take (i := 7) (v := ?vcb7) rfl (by kernel_rfl) (by kernel_rfl) (by kernel_rfl) (fun _ _ _ h => h) (Or.inl ⟨by rfl, ?hcb7⟩) (by assumption) ?rcb7; (case hcb7 => intro w S; (try dsimp only at S); go_simp; try with_reducible rfl); try simp only [Act.put, qP, qN, qM]
                refine wpAnyH_take (i := 8) (v := ?vcb8) rfl (by kernel_rfl) (by kernel_rfl) (by kernel_rfl) (fun _ _ _ h => h) (Or.inl ⟨by rfl, ?hcb8⟩) (by assumption) ?rcb8; (case hcb8 => intro w S; (try dsimp only at S); go_simp; try with_reducible rfl); try simp only [Act.put, qP, qN, qM]
                refine wpAnyH_take (i := 9) (v := ?vcb9) rfl (by kernel_rfl) (by kernel_rfl) (by kernel_rfl) (fun _ _ _ h => h) (Or.inl ⟨by rfl, ?hcb9⟩) (by assumption) ?rcb9; (case hcb9 => intro w S; (try dsimp only at S); go_simp; try with_reducible rfl); try simp only [Act.put, qP, qN, qM]
                refine wpAnyH_take (i := 10) (v := ?vcb10) rfl (by kernel_rfl) (by kernel_rfl) (by kernel_rfl) (fun _ _ _ h => h) (Or.inl ⟨by rfl, ?hcb10⟩) (by assumption) ?rcb10; (case hcb10 => intro w S; (try dsimp only at S); go_simp; try with_reducible rfl); try simp only [Act.put, qP, qN, qM]
                refine wpAnyH_take (i := 11) (v := ?vcb11) rfl (by kernel_rfl) (by kernel_rfl) (by kernel_rfl) (fun _ _ _ h => h) (Or.inl ⟨by rfl, ?hcb11⟩) (by assumption) ?rcb11; (case hcb11 => intro w S; (try dsimp only at S); go_simp; try with_reducible rfl); try simp only [Act.put, qP, qN, qM]
                refine wpAnyH_take (i := 12) (v := ?vcb12) rfl (by kernel_rfl) (by kernel_rfl) (by kernel_rfl) (fun _ _ _ h => h) (Or.inl ⟨by rfl, ?hcb12⟩) (by assumption) ?rcb12; (case hcb12 => intro w S; (try dsimp only at S); go_simp; try with_reducible rfl); try simp only [Act.put, qP, qN, qM]
                refine wpAnyH_take (i := 13) (v := ?vcb13) rfl (by kernel_rfl) (by kernel_rfl) (by kernel_rfl) (fun _ _ _ h => h) (Or.inl ⟨by rfl, ?hcb13⟩) (by assumption) ?rcb13; (case hcb13 => intro w S; (try dsimp only at S); go_simp; try with_reducible rfl); try simp only [Act.put, qP, qN, qM]
                refine wpAnyH_take (i := 14) (v := ?vcb14) rfl (by kernel_rfl) (by kernel_rfl) (by kernel_rfl) (fun _ _ _ h => h) (Or.inl ⟨by rfl, ?hcb14⟩) (by assumption) ?rcb14; (case hcb14 => intro w S; (try dsimp only at S); go_simp; try with_reducible rfl); try simp only [Act.put, qP, qN, qM]
                refine wpAnyH_ready (rs := [15]) (by kernel_rfl) (by simp) ?_
                refine AllReadyH.cons rfl (fun K hK => ?_) AllReadyH.nil
                go_simp
                go_at_call 61
                refine ((qK Hu) _ (by repeat first|exact br _|assumption|apply bd|apply bn|apply ba|refine bt ?_ (by assumption))).mono ?_
                rintro _ w9 ⟨rfl, hB9, ⟨z1, z2, z3, z4⟩⟩
                (try go_wp2_with fail)
                refine hK.out _ _ (by (try dsimp only); go_keep) (fun hHeld => ?_)
                clear hK K
                try simp only [Act.put, qP, qN, qM]
                refine wpAnyH_take (i := 16) (v := ?vcb16) rfl (by kernel_rfl) (by kernel_rfl) (by kernel_rfl) (fun _ _ _ h => h) (Or.inl ⟨by rfl, ?hcb16⟩) (by assumption) ?rcb16; (case hcb16 => intro w S; (try dsimp only at S); go_simp; try with_reducible rfl); try simp only [Act.put, qP, qN, qM]
                refine wpAnyH_done (by kernel_rfl) ?_ _
                go_wp2_with fail
                go_roundw
                case rel => exact ⟨m + 1, by omega, by go_num, by rw [qK Hnx]; cases ux <;> rfl, (qK HBj).trans (hB9.trans (by repeat first|exact br _|assumption|apply bd|apply bn|apply ba|refine bt ?_ (by assumption)))⟩
                case measure => simp [intOf]; omega
            · have hmm : m = f.length := by omega
              subst hmm
              have HBj := qJ ((qK HBi).trans hBj)
              rw [qK Hfree]
              clear hBj hbx k0 k1 hb
              go_wp2_with fail
              go_roundw
              case rel => exact ⟨j + 1, by omega, by go_num, qK HBj⟩
              case measure => simp [intOf]; omega
        · have hjj : j = l.length := by omega
          subst hjj
          have HBx := qJ ((qK HBr1).trans hBi)
          clear hBi
          go_wp2_with fail
          go_roundw
          case rel => exact ⟨k + 1, by omega, by go_num, qK HBx⟩
          case measure => simp [intOf]; omega
    · have hkk : k = W := by omega
      subst hkk
      clear hB1
      go_wp2_with fail
      go_ret
      exact ⟨rfl, qK HBr⟩
set_option maxRecDepth 100000 in
set_option maxHeartbeats 4000000 in
theorem pnew_ok (ns : List Nd) (ga : Option Addr) (gc : Nat) (R W : Nat) (w : World) (hn : NodesAt w ga ns) (hE : xV ns R = 0) (h1 : 1 ≤ ns.length) (h8 : ns.length ≤ 8) (hW1 : 1 ≤ W) (hW4 : W ≤ 4) (hR1 : 1 ≤ R) (hR4 : R ≤ 4) :
    Calls Try.prog 51 #[.agg #[.slice ga ns.length gc, .int .i64 (R : Int)], .int .i64 (W : Int)] w fun e w' => ∃ pb x, e = .returned (.tuple #[.pointer (some ⟨pb, 0, none⟩), .int .i64 0]) ∧ POwn w' (fun b => w.heap.size ≤ b ∧ b < w'.heap.size) pb x ns R W (jV ns) (pst0 (begT ns W)) ∧ Bw w w' := by
  have H := qJ (fun (w' : World) (h : Bw w w') => prnew_ok ns ga gc R W w' (hn.below h) hE h1 h8 hW1 hW4 hR4)
  clear hE hn
  go_enter Try.func51, Try.ntmps51
  go_wp2_with (go_at_call 80; refine ((qK H) _ (by repeat first|exact br _|assumption|apply bd|apply bn|apply ba|refine bt ?_ (by assumption))).mono ?_; rintro e w1 ⟨vn, vd, wb, wc, warr, rfl, hnd, hds, hwk, hwl, hws, hwt, hb1⟩; obtain ⟨na, nc, hne⟩ : ∃ na nc, vn = .slice na ns.length nc := ⟨_, _, qU hnd⟩; subst hne; obtain ⟨da, dc, hde⟩ : ∃ da dc, vd = .slice da ns.length dc := (by obtain ⟨vs, h, _⟩ := hds; exact ⟨_, _, qU h⟩); subst hde)
  go_ret2
  obtain ⟨hA0, hA1, hAB⟩ := yY w1 (.cells #[.slice na ns.length nc, .int .i64 (R : Int), .slice da ns.length dc, .slice (some ⟨wb, 0, none⟩) W wc, .int .i64 0, .slice none 0 0] 104) (.cells #[.slice na ns.length nc, .int .i64 (R : Int), .slice da ns.length dc, .slice (some ⟨wb, 0, none⟩) W wc, .int .i64 0, .slice none 0 0] 106)
  obtain ⟨w2, hw2⟩ : ∃ w2, (w1.alloc (.cells #[.slice na ns.length nc, .int .i64 (R : Int), .slice da ns.length dc, .slice (some ⟨wb, 0, none⟩) W wc, .int .i64 0, .slice none 0 0] 104)).alloc (.cells #[.slice na ns.length nc, .int .i64 (R : Int), .slice da ns.length dc, .slice (some ⟨wb, 0, none⟩) W wc, .int .i64 0, .slice none 0 0] 106) = w2 := ⟨_, rfl⟩
  rw [hw2] at hA1 hAB
  rw [hw2]
  have hB : Bw w w2 := (show Bw w w1 from (by repeat first|exact br _|assumption|apply bd|apply bn|apply ba|refine bt ?_ (by assumption))).trans hAB
  have hz : w.heap.size ≤ (w.alloc (.cells #[.slice ga ns.length gc, .int .i64 (R : Int)] 24)).heap.size := by simp
  have hz1 : w.heap.size ≤ w1.heap.size := Bw.size (by repeat first|exact br _|assumption|apply bd|apply bn|apply ba|refine bt ?_ (by assumption))
  have hnd2 := qT hnd fun g hg => Below.block hAB g hg
  have hwk2 := (Below.block hAB _ (Array.getElem?_eq_some_iff.1 hwk).1).trans hwk
  have hds2 : TabB w.heap.size w2 (.slice da ns.length dc) ns.length ns.length (jV ns) := by
    obtain ⟨vs, a1, a2⟩ := (hds.bw hAB).weak hz
    refine ⟨vs, a1, fun i hi => ?_⟩
    obtain ⟨u, eu, a3⟩ := a2 i hi
    refine ⟨u, eu, ?_⟩
    have : intRow ns.length (jV ns i) = intRow ns.length (distD ns i) := by
      unfold intRow
      refine List.map_congr_left fun j hj => ?_
      rw [distD_far h1 (by simpa using hj)]
    rw [this]
    exact a3
  refine ⟨w1.heap.size + 1, ⟨#[.slice na ns.length nc, .int .i64 (R : Int), .slice da ns.length dc, .slice (some ⟨wb, 0, none⟩) W wc, .int .i64 0, .slice none 0 0], .slice na ns.length nc, .slice da ns.length dc, wb, wc, warr, .slice none 0 0⟩, rfl, ?_, hB⟩
  refine ⟨hA1, rfl, rfl, rfl, rfl, rfl, rfl, hwk2, ⟨by omega, (Array.getElem?_eq_some_iff.1 hA1).1⟩, ⟨Nat.le_trans hz hwl, (Array.getElem?_eq_some_iff.1 hwk2).1⟩, fun b hb => hb.2, ⟨kU hnd2 (Nat.zero_le _), fun b hb => ⟨Nat.le_trans hz (World.ownsRow.lt hnd2 b hb).1, (World.ownsRow.lt hnd2 b hb).2⟩⟩, hds2.tabIn fun b a1 a2 => ⟨a1, a2⟩, ⟨World.ownsRow_nil _ _ _ _, by simp [Value.ownBlock]⟩, PRow.first h8 hws hwt, ⟨h8, hR4, hW4, hW1, hR1, h1⟩, ⟨fun _ _ => by simp [pst0], by simp [pst0]⟩⟩
theorem ptn_app {ps : List Pt} {p : Pt} {i : Nat} (hi : i < ps.length) : vW (ps ++ [p]) i = vW ps i := by simp [vW, List.getD, List.getElem?_append_left hi]
theorem ptn_last (ps : List Pt) (p : Pt) : vW (ps ++ [p]) ps.length = p := by simp [vW, List.getD]
theorem tabPts_app (R : Nat) (t : Nat → Int) (ps : List Pt) (p : Pt) : ∀ k, k ≤ ps.length → kS R t (ps ++ [p]) k = kS R t ps k := by
  intro k
  induction k with
  | zero => intro _; rfl
  | succ k ih => intro hk; rw [kS, kS, ih (by omega), ptn_app (by omega)]
theorem tabPts_snoc (R : Nat) (t : Nat → Int) (ps : List Pt) (p : Pt) : kS R t (ps ++ [p]) (ps ++ [p]).length = updT (kS R t ps ps.length) (spP R p) (wrap64 (kS R t ps ps.length (spP R p) + p.count)) := by
  rw [List.length_append, List.length_singleton, kS, tabPts_app R t ps p _ (Nat.le_refl _), ptn_last]
theorem tabSrc_far (ns : List Nd) (W : Nat) : ∀ k n, k ≤ n → xQ ns 4 W k (jZ 4 n 0 0 true) = 0 := by
  intro k
  induction k with
  | zero => intro n _; rfl
  | succ k ih =>
    intro n hn
    unfold xQ
    split
    · rw [updT_ne _ _ (fun e => by have := spotN_inj (R := 4) ⟨by omega, by omega⟩ (by omega) (by omega) (by omega) (by omega) e; omega)]
      exact ih n (by omega)
    · exact ih n (by omega)
theorem begT_eq (ns : List Nd) (W : Nat) (hW : W ≤ 4) : ∀ k, kS 4 (fun _ => 0) (vP ns W k) (vP ns W k).length = xQ ns 4 W k := by
  intro k
  induction k with
  | zero => rfl
  | succ k ih =>
    unfold vP xQ
    split
    · rw [tabPts_snoc, ih]
      have e : spP 4 ⟨(k : Int), true, 0, 0, (W : Int)⟩ = jZ 4 k 0 0 true := rfl
      rw [e, tabSrc_far ns W k k (Nat.le_refl _)]
      congr 1
      simp only
      unfold wrap64
      omega
    · exact ih
theorem zwT_bool : ∀ k, k < 24 → zwT.getD k undef = .bool false := by
  intro k hk
  unfold zwT
  rw [List.getD, List.getElem?_append_left (by simp; exact hk), List.getElem?_replicate, if_pos hk]
  rfl
theorem zwT_grp : ∀ e s g, e < 6 → s < 4 → g < 16 → zwT.getD (24 + e * 64 + s * 16 + g) undef = if g < 8 then .int .i64 0 else .bool false := by
  intro e s g he hs hg
  unfold zwT
  rw [List.getD, List.getElem?_append_right (by simp; omega), List.length_replicate, show 24 + e * 64 + s * 16 + g - 24 = (e * 4 + s) * 16 + g by omega, flat_rep _ (c := 16) (by simp) 24 (e * 4 + s) g (by omega) hg]
  by_cases h : g < 8
  · rw [if_pos h, List.getElem?_append_left (by simpa using h), List.getElem?_replicate, if_pos h]; rfl
  · rw [if_neg h, List.getElem?_append_right (by simp; omega), List.length_replicate, List.getElem?_replicate, if_pos (by omega)]; rfl
theorem Sim.begun (ns : List Nd) (W : Nat) (hW : W ≤ 4) : Sim ns W (pst0 (begT ns W)) rst0 := by
  refine ⟨fun _ _ => rfl, fun _ _ => rfl, fun _ _ => rfl, fun _ _ _ _ => rfl, fun _ _ => Nat.le_refl _, fun i n e s he hs => ?_, fun i n e s g h6 he hs hg => ⟨?_, ?_⟩, fun i hi => ?_, fun i j => ?_, rfl, rfl⟩
  · show zwT.getD (e * 4 + s) undef = _
    rw [zwT_bool _ (by omega)]
    simp [rst0, jR]
  · show zwT.getD (24 + e * 64 + s * 16 + g) undef = _
    rw [zwT_grp e s g he hs (by omega), if_pos hg]
    rfl
  · show zwT.getD (24 + e * 64 + s * 16 + 8 + g) undef = _
    rw [show 24 + e * 64 + s * 16 + 8 + g = 24 + e * 64 + s * 16 + (8 + g) by omega, zwT_grp e s (8 + g) he hs (by omega), if_neg (by omega)]
    rfl
  · show begT ns W = xQ ns 4 W ns.length
    unfold begT
    exact begT_eq ns W hW _
  · show [] = _
    split
    · rfl
    · rfl
theorem wf_kind {ns : List Nd} {r : Int} (h : wfB ns r = true) {n : Nat} (hn : n < ns.length) : yG (qV ns n) := by
  have h1 : wfTo ns ns.length = true := by simp [wfB] at h; exact h.1.2
  have h2 := wfTo_get h1 n hn
  unfold zR at h2
  generalize qV ns n = y at h2 ⊢
  refine ⟨?_, fun h6 => ?_, fun h3 => ?_⟩
  · by_cases k0 : y.kind = 0
    · exact .inl k0
    by_cases k1 : y.kind = 1
    · exact .inr (.inl k1)
    by_cases k2 : y.kind = 2
    · exact .inr (.inr (.inl k2))
    by_cases k3 : y.kind = 3
    · exact .inr (.inr (.inr (.inl k3)))
    by_cases k4 : y.kind = 4
    · exact .inr (.inr (.inr (.inr (.inl k4))))
    by_cases k5 : y.kind = 5
    · exact .inr (.inr (.inr (.inr (.inr (.inl k5)))))
    by_cases k6 : y.kind = 6
    · exact .inr (.inr (.inr (.inr (.inr (.inr (.inl k6))))))
    by_cases k7 : y.kind = 7
    · exact .inr (.inr (.inr (.inr (.inr (.inr (.inr k7))))))
    simp [k0, k1, k2, k3, k4, k5, k6, k7] at h2
  · simp [h6] at h2
    omega
  · simp [h3] at h2
    omega
theorem gOk_of {o : List Nd} {r : Int} (h : FitOk o r) {W : Nat} (hW1 : 1 ≤ W) (hW : W ≤ 4) : ∃ R : Nat, r = R ∧ GOk o R W ∧ xV o R = 0 := by
  have hc := fit_check h
  obtain ⟨hG, R, rfl, hR1, hR⟩ := good_of hc
  have hl := wfB_len h.wf
  refine ⟨R, rfl, ⟨⟨_, _, hG⟩, fun x hx h4 a ha ht => ?_, by omega, by omega, hR1, hR, hW1, hW, fun n hn => wf_kind h.wf hn⟩, hc⟩
  rw [takesB_inputs] at ht
  unfold jC at ht
  rw [List.contains_iff_mem] at ht
  obtain ⟨a', e, _, h2⟩ := h.low x hx h4 _ ht
  have : a = a' := by omega
  subst this
  exact h2
structure EpL (V w : World) (bb pb : Nat) (oa : Option Addr) (L oc R W : Nat) (v4 : Value) (rs : List Nat) : Prop where
  root : w.heap[bb]? = some (.cells #[.pointer (some ⟨pb, 0, none⟩), .slice oa L oc, .int .i64 (R : Int), .int .i64 (W : Int), v4, .slice none 0 0, .int .i64 0, .int .i64 0, .slice none 0 0] 57 (0, 0))
  own : w.ownsRow V.heap.size 26 1 v4 rs.length (rs.map fun b => .slice (some ⟨b, 0, none⟩) L L)
  rows : ∀ b ∈ rs, V.heap.size ≤ b ∧ ∃ arr : Array Value, w.heap[b]? = some (.cells arr 3 (0, 0)) ∧ arr.size = L ∧ ∀ n, n < L → arr[n]? = some (.int .i64 0)
  nd : rs.Nodup
  low : V.heap.size ≤ bb
  base : Bw V w
theorem EpL.bw {V w w' : World} {bb pb : Nat} {oa : Option Addr} {L oc R W : Nat} {v4 : Value} {rs : List Nat} (h : EpL V w bb pb oa L oc R W v4 rs) (hb : Bw w w') : EpL V w' bb pb oa L oc R W v4 rs := by
  have key : ∀ g o, w.heap[g]? = some o → w'.heap[g]? = some o := fun g o hg => (Below.block hb g (Array.getElem?_eq_some_iff.1 hg).1).trans hg
  refine ⟨key _ _ h.root, qT h.own fun g hg => Below.block hb g hg, fun b hb' => ?_, h.nd, h.low, h.base.trans hb⟩
  obtain ⟨h1, arr, h2, h3⟩ := h.rows b hb'
  exact ⟨h1, arr, key _ _ h2, h3⟩
theorem EpL.next {V w wA w7 : World} {bb pb r g' cap : Nat} {oa : Option Addr} {L oc R W : Nat} {v4 : Value} {rs : List Nat} {arr : Array Value} (h : EpL V w bb pb oa L oc R W v4 rs) (hb : Bw w wA) (hr : wA.heap[r]? = some (.cells arr 3 (0, 0))) (hlo : w.heap.size ≤ r) (hs : arr.size = L) (hz : ∀ n, n < L → arr[n]? = some (.int .i64 0)) (ho : w7.ownsRow V.heap.size 26 1 (.slice (some ⟨g', 0, none⟩) (rs.length + 1) cap) (rs.length + 1) ((rs.map fun b => .slice (some ⟨b, 0, none⟩) L L) ++ [.slice (some ⟨r, 0, none⟩) L L])) (hg : wA.grownBy w7 v4.ownBlock) :
    w7.cell? ⟨bb, 4, none⟩ = some v4 ∧ bb < w7.heap.size ∧ w7.frozen? ⟨bb, 4, none⟩ = false ∧ (∀ (gb : Nat) (ar : Array Value), w.heap[gb]? = some (.cells ar 24 (0, 0)) → w7.heap[gb]? = some (.cells ar 24 (0, 0)) ∧ ∀ u, (w7.setCell ⟨bb, 4, none⟩ u).heap[gb]? = some (.cells ar 24 (0, 0))) ∧ EpL V (w7.setCell ⟨bb, 4, none⟩ (.slice (some ⟨g', 0, none⟩) (rs.length + 1) cap)) bb pb oa L oc R W (.slice (some ⟨g', 0, none⟩) (rs.length + 1) cap) (rs ++ [r]) := by
  have hA := h.bw hb
  have root7 := kJ hA.own hg hA.root (.inl (by decide))
  have hlt : ∀ b ∈ rs, b < w.heap.size := fun b hb' => by
    obtain ⟨_, a, h2, _⟩ := h.rows b hb'
    exact (Array.getElem?_eq_some_iff.1 h2).1
  refine ⟨qQ root7 rfl, (Array.getElem?_eq_some_iff.1 root7).1, qZ root7, fun gb ar hgb => ?_, (qY root7).trans (by simp), ?_, fun b hb' => ?_, ?_, h.low, (Bw.grown hA.base hA.own hg (Nat.le_refl _)).setCell h.low _⟩
  · have h1 := kJ hA.own hg ((Below.block hb _ (Array.getElem?_eq_some_iff.1 hgb).1).trans hgb) (.inl (by decide))
    exact ⟨h1, fun u => qW root7 h1 (by decide)⟩
  · have := kV (k := 4) (u := .slice (some ⟨g', 0, none⟩) (rs.length + 1) cap) root7 ho (by decide)
    rw [List.length_append, List.map_append]
    exact this
  · rcases List.mem_append.1 hb' with h1 | h1
    · obtain ⟨h2, a, h3, h4⟩ := hA.rows b h1
      exact ⟨h2, a, qW root7 (kJ hA.own hg h3 (.inl (by decide))) (by decide), h4⟩
    · have e : b = r := by simpa using h1
      subst e
      exact ⟨Nat.le_trans h.base.size hlo, arr, qW root7 (kJ hA.own hg hr (.inl (by decide))) (by decide), hs, hz⟩
  · rw [List.nodup_append]
    refine ⟨h.nd, by simp, fun x hx y hy e => ?_⟩
    have : y = r := by simpa using hy
    have := hlt x hx
    omega
theorem EpL.book {V0 V w : World} {bb pb : Nat} {xp : PX} {oa : Option Addr} {ns : List Nd} {oc R W : Nat} {v4 : Value} {rs : List Nat} (g : GOk ns R W) (h : EpL V w bb pb oa ns.length oc R W v4 rs) (hl : rs.length = W) (hO : POwn V (fun b => V0.heap.size ≤ b ∧ b < V.heap.size) pb xp ns R W (jV ns) (pst0 (begT ns W))) (hn : NodesAt V0 oa ns) (hb : Bw V0 V) : ∃ U, BAt w U bb ns R W [] (pst0 (begT ns W)) rst0 ∧ ∀ b, U b → V0.heap.size ≤ b := by
  have hW1 := g.hW1
  obtain ⟨hlen, ⟨_, h0⟩ | ⟨eb, ec, cur, e1, hge, hc, _, _, hsz, htk⟩⟩ := h.own
  · omega
  have hz := hb.size
  have hlt : ∀ b ∈ rs, b < w.heap.size := fun b hb' => by
    obtain ⟨_, a, h2, _⟩ := h.rows b hb'
    exact (Array.getElem?_eq_some_iff.1 h2).1
  have hget : ∀ i, i < W → rs.getD i 0 ∈ rs := fun i hi => by
    rw [List.getD_eq_getElem?_getD, List.getElem?_eq_getElem (by omega)]; exact List.getElem_mem _
  refine ⟨fun b => (b = bb ∨ b = eb ∨ b ∈ rs) ∨ (V0.heap.size ≤ b ∧ b < V.heap.size), ⟨V0, fun b => b = bb ∨ b = eb ∨ b ∈ rs, fun b => V0.heap.size ≤ b ∧ b < V.heap.size, pb, ⟨oa, oc, eb, ec, fun i => rs.getD i 0, .slice none 0 0, .slice none 0 0⟩, xp, ⟨⟨?_, .inl rfl, fun b hb' => ?_, ?_, fun i hi => ?_, ⟨.inr (.inl rfl), fun i hi => .inr (.inr (hget i hi))⟩, fun i j hi hj e => ?_, ⟨World.ownsRow_nil _ _ _ _, fun b hb' => by simp [Value.ownBlock] at hb'⟩, ⟨World.ownsRow_nil _ _ _ _, fun b hb' => by simp [Value.ownBlock] at hb'⟩⟩, hO.bw h.base, Kept.beg g (Sim.begun ns W g.hW), fun b hb' hs => ?_, hn, hb.trans h.base, fun b hb' => ?_⟩, fun b => Iff.rfl⟩, fun b hb' => ?_⟩
  · rw [h.root, e1, hl]; rfl
  · rcases hb' with rfl | rfl | hb'
    · exact (Array.getElem?_eq_some_iff.1 h.root).1
    · exact (Array.getElem?_eq_some_iff.1 hc).1
    · exact hlt b hb'
  · refine ⟨cur, hc, fun i hi => ?_⟩
    have h3 : (rs.map fun b => (Value.slice (some ⟨b, 0, none⟩) ns.length ns.length))[i]? = some (.slice (some ⟨rs.getD i 0, 0, none⟩) ns.length ns.length) := by
      rw [List.getElem?_map, List.getD_eq_getElem?_getD, List.getElem?_eq_getElem (by omega)]; rfl
    rw [← htk, List.getElem?_take_of_lt (by omega), Array.getElem?_toList] at h3
    exact h3
  · obtain ⟨_, a, h2, h3, h4⟩ := h.rows _ (hget i hi)
    exact ⟨a, h2, h3, fun n hn' => h4 n hn'⟩
  · have h3 := h.nd
    simp only [List.getD_eq_getElem?_getD] at e
    rw [List.getElem?_eq_getElem (by omega), List.getElem?_eq_getElem (by omega)] at e
    exact (List.getElem_inj h3).1 e
  · have hlow := h.low
    rcases hb' with rfl | rfl | hb'
    · omega
    · omega
    · have := (h.rows b hb').1; omega
  · have hlow := h.low
    rcases hb' with (rfl | rfl | hb') | hb'
    · omega
    · omega
    · have := (h.rows b hb').1; omega
    · exact hb'.1
  · have hlow := h.low
    rcases hb' with (rfl | rfl | hb') | hb'
    · omega
    · omega
    · have := (h.rows b hb').1; omega
    · exact hb'.1
end Go.Proofs.Ytfemleimkbjehaa
