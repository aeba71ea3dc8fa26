import Derived.Test.YtfemleimkbjehaaJ40
import Derived.Test.YtfemleimkbjehaaJ42
import Derived.BigQuiet
import Derived.Test.YtfemleimkbjehaaJ39
set_option maxRecDepth 1000000
set_option maxHeartbeats 40000000
set_option linter.unusedVariables false
set_option linter.unusedSimpArgs false
namespace Go.Proofs.Ytfemleimkbjehaa
open Go.RowKit
set_option maxRecDepth 100000 in
set_option maxHeartbeats 16000000 in
theorem kwithin_any {ns : List Nd} {R W : Nat} {gs : List Gv} (g : GOk ns R W) (hgv : nD ns gs) (all : Bool) (rc : List Nd) (ra : Option Addr) (rcap : Nat) (hrl : rc.length ≤ 1000000000) (hout : OutsOk ns R W rc) (hpart : PartOk ns R gs rc) (hall : all = true → ∀ e s n, e < 6 → s < R → n < ns.length → (qV ns n).kind = 7 → (rcV rc n e s).Perm (dT ns gs n e s)) (bb : Nat) (w : World) (na : Option Addr) (nc : Nat) (c1 : w.cell? ⟨bb, 1, none⟩ = some (.slice na ns.length nc)) (c2 : w.cell? ⟨bb, 2, none⟩ = some (.int .i64 (R : Int))) (c3 : w.cell? ⟨bb, 3, none⟩ = some (.int .i64 (W : Int))) (cl : bb < w.heap.size) (hnd : NodesAt w na ns) (hrec : NodesAt w ra rc) {V : World} (I O : Tb) (FI : Nat → Nat → Nat → List Int) (hT : TF V w I ns.length R FI) (hF : ∀ e s n, e < 6 → s < R → n < ns.length → FI e s n = dT ns gs n e s) :
    Calls Try.prog 26 #[.pointer (some ⟨bb, 0, none⟩), .slice ra rc.length rcap, .agg #[I.val ns.length, O.val ns.length], .bool all] w fun en w' => en = .returned (.bool true) ∧ Bw w w' := by
  have hR4 := g.hR
  have hL8 := g.h8
  have hW4 := g.hW
  have HF := qJ hF
  have Hgv := qJ hgv
  have Hpu := qJ (⟨hout, hpart, hall⟩ : _ ∧ _ ∧ _)
  clear hF hgv hout hpart hall
  have HIv : Hid (I.val ns.length = .slice (some ⟨I.ob, 0, none⟩) ns.length I.oc) := qJ rfl
  go_enter Try.func26, Try.ntmps26
  go_wp2_with fail
  refine (uU ns R _ _ _ g.h1 g.h8 g.hR).mono ?_
  rintro e1 w2 ⟨ob, oc, tb, tc, rb, rfl, hT4, hlow, hB2⟩
  obtain ⟨t, rfl, rfl, rfl, rfl, rfl⟩ : ∃ t : Tb, t.ob = ob ∧ t.oc = oc ∧ t.tb = tb ∧ t.tc = tc ∧ t.rb = rb := ⟨⟨ob, oc, tb, tc, rb⟩, rfl, rfl, rfl, rfl, rfl⟩
  obtain ⟨W1, hW1⟩ : ∃ W1, w.alloc (.cells #[I.val ns.length, O.val ns.length] 62) = W1 := ⟨_, rfl⟩
  rw [hW1] at hlow hB2
  have hB1 : Bw w W1 := hW1 ▸ (by repeat first|exact br _|assumption|apply bd|apply bn|apply ba|refine bt ?_ (by assumption))
  have b1 : W1.heap[w.heap.size]? = some (.cells #[I.val ns.length, O.val ns.length] 62 (0, 0)) := hW1 ▸ heap_alloc_new w _
  have HR0 := qJ (RL.start hT4 hlow hB2)
  have HT := qJ (hT.bw hB1)
  have Hnd := qJ (hnd.below hB1)
  have Hrec := qJ (hrec.below hB1)
  have Hlt : Hid (∀ n e, n < ns.length → e < 6 → I.rb n e < W1.heap.size) := qJ fun n e hn he => by
    obtain ⟨a, r1, _⟩ := hT.rows n hn e he
    exact Nat.lt_of_lt_of_le (Array.getElem?_eq_some_iff.1 r1).1 hB1.size
  have c1' := ((qX hB1).1 _ 1 cl).trans c1
  have c2' := ((qX hB1).1 _ 2 cl).trans c2
  have c3' := ((qX hB1).1 _ 3 cl).trans c3
  have cl' := Nat.lt_of_lt_of_le cl hB1.size
  have hfbl := (Array.getElem?_eq_some_iff.1 b1).1
  have Hb1 := qJ b1
  generalize hfb : w.heap.size = fb at hfbl Hb1 b1 ⊢
  clear hW1 b1 hT hnd hrec c1 c2 c3 cl hT4 hlow hB2 hfb
  go_wp2_with fail
  go_loopw [9, 11] (fun c i wr => ∃ (n : Nat) (lv : Nat → Nat → Nat → Value) (F : Nat → Nat → Nat → List Int), n ≤ ns.length ∧ i = .int .i64 n ∧ c = .int .i64 ((tot ns.length R F : Nat) : Int) ∧ RL W1 wr t ns.length R lv F ∧ DnF ns gs R (fun _ _ n' => n' < n) lv F) (fun _ i _ => ns.length - (intOf i).toNat)
  case atStart => exact ⟨0, _, _, Nat.zero_le _, rfl, by rw [tot_zero fun _ _ _ _ _ _ => rfl]; rfl, qK HR0, fun e s n _ _ _ => ⟨fun h => absurd h (Nat.not_lt_zero _), fun _ => ⟨rfl, rfl⟩⟩⟩
  case round =>
    clear HR0
    obtain ⟨n, lv, F, hnl, rfl, rfl, hRL, hD⟩ := hrel
    rename World => wr
    have hBr := hRL.base
    have c1 := ((qX hBr).1 _ 1 cl').trans c1'
    have cl := Nat.lt_of_lt_of_le cl' hBr.size
    have H1 := qJ (⟨hRL, hD⟩ : _ ∧ _)
    by_cases hlt : n < ns.length
    · have hn1 : (n : Int) < (ns.length : Int) := by omega
      clear hBr hRL hD
      go_wp2_with fail
      go_loopw [9, 12] (fun c i wi => ∃ (e : Nat) (lv : Nat → Nat → Nat → Value) (F : Nat → Nat → Nat → List Int), e ≤ 6 ∧ i = .int .i64 e ∧ c = .int .i64 ((tot ns.length R F : Nat) : Int) ∧ RL W1 wi t ns.length R lv F ∧ DnF ns gs R (fun e' _ n' => n' < n ∨ (n' = n ∧ e' < e)) lv F) (fun _ i _ => 6 - (intOf i).toNat)
      case atStart => exact ⟨0, lv, F, Nat.zero_le _, rfl, rfl, (qK H1).1, (qK H1).2.mono fun e s n' _ _ _ => ⟨fun h => by rcases h with h | h <;> omega, fun h => .inl h⟩⟩
      case round =>
        clear H1 c1 cl
        obtain ⟨e, lv, F, hel, rfl, rfl, hRL, hD⟩ := hrel
        rename World => wi
        have hBi := hRL.base
        have c1 := ((qX hBi).1 _ 1 cl').trans c1'
        have cl := Nat.lt_of_lt_of_le cl' hBi.size
        obtain ⟨b, off, rfl, hb, hc⟩ := ((qK Hnd).below hBi) n hlt
        obtain ⟨q0, _⟩ := hc n hlt
        have H2 := qJ (⟨hRL, hD⟩ : _ ∧ _)
        clear hc hBi hRL hD
        by_cases he : e < 6
        · have hd6 : decide ((e : Int) ≤ 5) = true := by simp only [decide_eq_true_eq]; omega
          cases hk7 : ((qV ns n).kind == 7) with
          | true =>
            have hk : (qV ns n).kind = 7 := by simpa using hk7
            have Hk := qJ hk
            clear hk
            go_wp2_with fail
            go_loopw [9, 13] (fun c i wj => ∃ (s : Nat) (lv : Nat → Nat → Nat → Value) (F : Nat → Nat → Nat → List Int), s ≤ R ∧ i = .int .i64 s ∧ c = .int .i64 ((tot ns.length R F : Nat) : Int) ∧ RL W1 wj t ns.length R lv F ∧ DnF ns gs R (fun e' s' n' => n' < n ∨ (n' = n ∧ (e' < e ∨ (e' = e ∧ s' < s)))) lv F) (fun _ i _ => R - (intOf i).toNat)
            case atStart => exact ⟨0, lv, F, Nat.zero_le _, rfl, rfl, (qK H2).1, (qK H2).2.mono fun e s n' _ _ _ => ⟨fun h => by omega, fun h => by omega⟩⟩
            case round =>
              clear H2 c1 cl q0 hb
              obtain ⟨s, lv, F, hsl, rfl, rfl, hRL, hD⟩ := hrel
              rename World => wj
              have hBj := hRL.base
              have c2 := ((qX hBj).1 _ 2 cl').trans c2'
              have cl := Nat.lt_of_lt_of_le cl' hBj.size
              have H3 := qJ (⟨hRL, hD⟩ : _ ∧ _)
              by_cases hs : s < R
              · have hs1 : (s : Int) < (R : Int) := by omega
                have he1 : (e : Int) < 6 := by omega
                obtain ⟨la, lc, hlo, ⟨z1, z2, z3, z4, z5, z6, z7⟩, ⟨s0, s1, s2, s3, s4, s5⟩, hre⟩ := hRL.reads ((qK HT).bw hBj) (qK Hlt) ((Below.block hBj _ hfbl).trans (qK Hb1)) hlt he hs
                have hFE := (qK HF) e s n he hs hlt
                rw [hFE] at hlo s5 hre
                obtain ⟨hF0, hlv0⟩ := (hD e s n he hs hlt).2 (by omega)
                have hre0 := hre wj (Bw.refl _)
                have s6 := hre0.2.1
                have s7 := hre0.2.2.1
                clear hre0
                rw [hlv0] at s6
                have hll := g.in_len (qK Hgv) (e := e) hlt hs
                have htot := tot_upd F (dT ns gs n e s) hlt he hs
                rw [hF0, List.length_nil, Nat.add_zero] at htot
                have htl : tot ns.length R F ≤ 38400000 := by
                  have h1 := tot_le (L := ns.length) (R := R) (F := F) (B := 200000) fun e' s' n' he' hs' hn' => by
                    obtain ⟨d1, d2⟩ := hD e' s' n' he' hs' hn'
                    by_cases hP : n' < n ∨ (n' = n ∧ (e' < e ∨ (e' = e ∧ s' < s)))
                    · rw [d1 hP]; unfold rD; split
                      · exact g.in_len (qK Hgv) hn' hs'
                      · simp
                    · rw [(d2 hP).1]; simp
                  have h2 := Nat.mul_le_mul hL8 (Nat.mul_le_mul_left 6 (Nat.mul_le_mul_right 200000 hR4))
                  omega
                obtain ⟨ll, hllE⟩ : ∃ ll, dT ns gs n e s = ll := ⟨_, rfl⟩
                have HllE := qJ hllE
                rw [hllE] at hlo s5 hre hll htot
                have Hre := qJ hre
                have Hlo := qJ hlo
                have Htot := qJ htot
                obtain ⟨tt, htt⟩ : ∃ tt, tot ns.length R F = tt := ⟨_, rfl⟩
                have Htt := qJ htt
                rw [htt] at htl ⊢
                have HBj := qJ hBj
                clear hre hlo hD hRL hFE hF0 hlv0 hllE htot htt hBj
                go_wp2_with fail
                refine wp_region_held_drew (S := (fun w' => w'.cell? ⟨fb, 0, none⟩ = some (.slice (some ⟨I.ob, 0, none⟩) ns.length I.oc) ∧ w'.cell? ⟨t.ob, n, none⟩ = some (.slice (some ⟨t.tb n, 0, none⟩) 6 (t.tc n)) ∧ w'.cell? ⟨t.tb n, e, none⟩ = some (.slice (some ⟨t.rb n e, 0, none⟩) R R) ∧ w'.cell? ⟨I.ob, n, none⟩ = some (.slice (some ⟨I.tb n, 0, none⟩) 6 (I.tc n)) ∧ w'.cell? ⟨I.tb n, e, none⟩ = some (.slice (some ⟨I.rb n e, 0, none⟩) R R) ∧ w'.cell? ⟨I.rb n e, s, none⟩ = some (.slice la ll.length lc))) (by kernel_rfl) (by (try dsimp only); go_keep) (fun hHeld => ?_)
                refine tk 0 ?_; try simp only [Act.put, qT, qS, qR]
                refine tk 1 ?_; try simp only [Act.put, qT, qS, qR]
                refine tk 2 ?_; try simp only [Act.put, qT, qS, qR]
                refine tk 3 ?_; try simp only [Act.put, qT, qS, qR]
                refine tk 4 ?_; try simp only [Act.put, qT, qS, qR]
                refine tk 5 ?_; try simp only [Act.put, qT, qS, qR]
                refine tk 6 ?_; try simp only [Act.put, qT, qS, qR]
                refine tk 7 ?_; try simp only [Act.put, qT, qS, qR]
                refine tk 8 ?_; try simp only [Act.put, qT, qS, qR]
                refine tk 9 ?_; try simp only [Act.put, qT, qS, qR]
                refine tk 10 ?_; try simp only [Act.put, qT, qS, qR]
                refine tk 11 ?_; try simp only [Act.put, qT, qS, qR]
                refine tk 12 ?_; try simp only [Act.put, qT, qS, qR]
                refine tk 13 ?_; try simp only [Act.put, qT, qS, qR]
                refine tk 14 ?_; try simp only [Act.put, qT, qS, qR]
                refine tk 15 ?_; try simp only [Act.put, qT, qS, qR]
                refine tk 16 ?_; try simp only [Act.put, qT, qS, qR]
                refine tk 18 ?_; try simp only [Act.put, qT, qS, qR]
                refine tk 19 ?_; try simp only [Act.put, qT, qS, qR]
                refine tk 20 ?_; try simp only [Act.put, qT, qS, qR]
                refine tk 21 ?_; try simp only [Act.put, qT, qS, qR]
                refine tk 22 ?_; try simp only [Act.put, qT, qS, qR]
                refine tk 23 ?_; try simp only [Act.put, qT, qS, qR]
                refine tk 24 ?_; try simp only [Act.put, qT, qS, qR]
                refine tk 25 ?_; try simp only [Act.put, qT, qS, qR]
                refine tk 26 ?_; try simp only [Act.put, qT, qS, qR]
                refine tk 27 ?_; try simp only [Act.put, qT, qS, qR]
                refine tk 28 ?_; try simp only [Act.put, qT, qS, qR]
                refine wpAnyH_ready (rs := [17]) (by kernel_rfl) (by simp) ?_
                refine AllReadyH.cons rfl (fun K hK => ?_) AllReadyH.nil
                go_simp
                refine hK.out _ _ (by (try dsimp only); go_keep) (fun hHeld => ?_)
                clear hK K
                try simp only [Act.put, qT, qS, qR]
                refine wpAnyH_ready (rs := [29]) (by kernel_rfl) (by simp) ?_
                refine AllReadyH.cons rfl (fun K hK => ?_) AllReadyH.nil
                refine stepG rfl _ _ _ 3 rfl _ 1 8 Try.infoInt Try.underlying26 rfl (by decide) _ (.slice none 0 0) 0 [] rfl (World.ownsRow_nil _ _ _ _) la ll.length lc (ll.map (Value.int .i64)) rfl (by simp) (vJ ((qK Hlo).bw (by repeat first|exact br _|assumption|apply bd|apply bn|apply ba|refine bt ?_ (by assumption)))) (by intro u hu; obtain ⟨z, _, rfl⟩ := List.mem_map.1 hu; rfl) (by omega) (by omega) (Nat.le_refl _) ?_
                intro v7 w7 ho7 hg7 hl7
                rw [Nat.zero_add, List.nil_append] at ho7
                obtain ⟨va7, vc7, rfl⟩ : ∃ a c, v7 = Value.slice a ll.length c := ⟨_, _, qW ho7⟩
                have hb7 := Bw.trans (show Bw wj _ from (by repeat first|exact br _|assumption|apply bd|apply bn|apply ba|refine bt ?_ (by assumption))) (gP hg7)
                obtain ⟨⟨t1, t2, t3, t4, t5, t6⟩, t7, t8, t9⟩ := (qK Hre) w7 hb7
                refine hK.out _ _ (by (try dsimp only); go_keep) (fun hHeld => ?_)
                clear hK K
                try simp only [Act.put, qT, qS, qR]
                refine tk 30 ?_; try simp only [Act.put, qT, qS, qR]
                refine wpAnyH_ready (rs := [31]) (by kernel_rfl) (by simp) ?_
                refine AllReadyH.cons rfl (fun K hK => ?_) AllReadyH.nil
                go_simp
                refine hK.out _ _ (t9 _) (fun hHeld => ?_)
                clear hK K
                try simp only [Act.put, qT, qS, qR]
                refine wpAnyH_done (by kernel_rfl) ?_ _
                obtain ⟨u1, u2, u3, u4, u5, u6⟩ := t9 (.slice va7 ll.length vc7)
                have Hnx : Hid (RL W1 (w7.setCell ⟨t.rb n e, s, none⟩ (.slice va7 ll.length vc7)) t ns.length R (updV lv e s n (.slice va7 ll.length vc7)) (wR F e s n ll) ∧ _) := qJ ⟨(qK H3).1.put hlt he hs (l := ll) (w2 := w7) (kU (show w7.ownsRow _ 3 1 (.slice va7 ll.length vc7) ll.length (ll.map (Value.int .i64)) from ho7) (Bw.size (show Bw wj _ from (by repeat first|exact br _|assumption|apply bd|apply bn|apply ba|refine bt ?_ (by assumption))))) hb7, (qK H3).2.put (e := e) (s := s) (n := n) (P' := fun e' s' n' => n' < n ∨ (n' = n ∧ (e' < e ∨ (e' = e ∧ s' < s + 1)))) (.slice va7 ll.length vc7) (qK Hk) fun e' s' n' _ _ _ => by omega⟩
                go_wp2_with fail
                go_roundw
                case rel =>
                  refine ⟨s + 1, _, _, by omega, by go_num, ?_, (qK Hnx).1, by have h := (qK Hnx).2; rw [qK HllE] at h; exact h⟩
                  have := qK Htot
                  have := qK Htt
                  go_num
                case measure => simp [intOf]; omega
              · have hss : s = R := by omega
                subst hss
                clear hBj hRL hD
                go_wp2_with fail
                go_roundw
                case rel => exact ⟨e + 1, lv, F, by omega, by go_num, rfl, (qK H3).1, (qK H3).2.mono fun e' s' n' _ _ _ => by omega⟩
                case measure => simp [intOf]; omega
          | false =>
            have hk : (qV ns n).kind ≠ 7 := by simpa using hk7
            have Hk := qJ hk
            clear hk
            go_wp2_with fail
            go_roundw
            case rel => exact ⟨n + 1, lv, F, by omega, by go_num, rfl, (qK H2).1, (qK H2).2.skip (n := n) (fun e' s' n' _ _ _ _ => by omega) (.inr (qK Hk)) (fun _ _ _ _ => by omega)⟩
            case measure => simp [intOf]; omega
        · have hee : e = 6 := by omega
          have hd6 : decide ((e : Int) ≤ 5) = false := by simp only [decide_eq_false_iff_not]; omega
          go_wp2_with fail
          go_roundw
          case rel => exact ⟨n + 1, lv, F, by omega, by go_num, rfl, (qK H2).1, (qK H2).2.skip (n := n) (fun e' s' n' _ _ _ _ => by omega) (.inl fun e' s' _ _ => by omega) (fun _ _ _ _ => by omega)⟩
          case measure => simp [intOf]; omega
    · have hnn : n = ns.length := by omega
      subst hnn
      have hL0 : LeftF ns R gs rc F 0 := LeftF.zero rc fun e s n he hs hn => (hD e s n he hs hn).1 hn
      have H4 := qJ (⟨hRL, hL0⟩ : _ ∧ _)
      clear hBr hRL hD H1 hL0
      go_wp2_with fail
      go_loopw [9, 14] (fun c i wr => ∃ (k : Nat) (lv : Nat → Nat → Nat → Value) (F : Nat → Nat → Nat → List Int), k ≤ rc.length ∧ i = .int .i64 k ∧ c = .int .i64 ((tot ns.length R F : Nat) : Int) ∧ RL W1 wr t ns.length R lv F ∧ LeftF ns R gs rc F k) (fun _ i _ => rc.length - (intOf i).toNat)
      case atStart => exact ⟨0, lv, F, Nat.zero_le _, rfl, rfl, (qK H4).1, (qK H4).2⟩
      case round =>
        clear H4 c1 cl
        obtain ⟨k, lv, F, hkl, rfl, rfl, hRL, hLF⟩ := hrel
        rename World => wk
        have hBk := hRL.base
        have H5 := qJ (⟨hRL, hLF⟩ : _ ∧ _)
        have htl : tot ns.length R F ≤ 38400000 := by
          have h1 := tot_le (L := ns.length) (R := R) (F := F) (B := 200000) fun e' s' n' he' hs' hn' => by
            have h3 := (hLF e' s' n' he' hs' hn').length_eq
            rw [List.length_append] at h3
            have h4 : (rD ns gs e' s' n').length ≤ 200000 := by
              unfold rD; split
              · exact g.in_len (qK Hgv) hn' hs'
              · simp
            omega
          have h2 := Nat.mul_le_mul hL8 (Nat.mul_le_mul_left 6 (Nat.mul_le_mul_right 200000 hR4))
          omega
        by_cases hlt2 : k < rc.length
        · have hk1 : (k : Int) < (rc.length : Int) := by omega
          obtain ⟨n, a, e, s, v, hx, hn, hk7, ha, he, hs⟩ := (qK Hpu).1 (qV rc k) (by rw [ndn_at hlt2]; exact List.getElem_mem hlt2)
          obtain ⟨j, hj1, hj2, hj3⟩ := hLF.has (qK Hpu).2.1 hlt2 hx hn hk7 he hs
          have hstep := hLF.step hlt2 hx hj2 hj3
          obtain ⟨rb', roff, rfl, hrb, hrc⟩ := ((qK Hrec).below hBk) k hlt2
          obtain ⟨r0, r1, r2, r3, r4⟩ := hrc k hlt2
          rw [hx] at r0 r1 r2 r3 r4
          simp only at r0 r1 r2 r3 r4
          obtain ⟨m, hm⟩ : ∃ m, (F e s n).length = m + 1 := ⟨(F e s n).length - 1, by omega⟩
          obtain ⟨lad, cap, hlv, hcap⟩ := (hRL.own e s n he hs hn).slice
          rw [hm] at hlv hj1 hj2 hcap
          obtain ⟨gb, hgb⟩ : ∃ gb, lad = some ⟨gb, 0, none⟩ := by
            obtain ⟨_, ⟨e1, _⟩ | ⟨g', cap', cur, e1, _⟩⟩ := hRL.own e s n he hs hn
            · rw [hlv] at e1; simp at e1
            · rw [hlv] at e1; injection e1 with e1; exact ⟨g', e1⟩
          subst hgb
          have htot := tot_upd F (cutL (F e s n) j) hn he hs
          rw [cutL_len (by omega), hm] at htot
          have hmb : m + 1 ≤ 200000 := by
            have h3 := (hLF e s n he hs hn).length_eq
            rw [List.length_append, hm] at h3
            have h4 : (rD ns gs e s n).length ≤ 200000 := by
              unfold rD; split
              · exact g.in_len (qK Hgv) hn hs
              · simp
            omega
          have Hstep := qJ (⟨hstep, htot, hj1, hj3, hm, hlv⟩ : _ ∧ _ ∧ _ ∧ _ ∧ _ ∧ _)
          have hn1 : (n : Int) < (ns.length : Int) := by omega
          have he1 : (e : Int) < 6 := by omega
          have hs1 : (s : Int) < (R : Int) := by omega
          have d1 : decide ((n : Int) < 0) = false := by simp only [decide_eq_false_iff_not]; omega
          have d2 : decide ((ns.length : Int) ≤ (n : Int)) = false := by simp only [decide_eq_false_iff_not]; omega
          have d3 : decide ((e : Int) < 0) = false := by simp only [decide_eq_false_iff_not]; omega
          have d4 : decide (5 < (e : Int)) = false := by simp only [decide_eq_false_iff_not]; omega
          have d5 : decide ((s : Int) < 0) = false := by simp only [decide_eq_false_iff_not]; omega
          have d6 : decide ((R : Int) ≤ (s : Int)) = false := by simp only [decide_eq_false_iff_not]; omega
          have d7 : decide ((a : Int) < 0) = false := by simp only [decide_eq_false_iff_not]; omega
          have d8 : decide ((W : Int) ≤ (a : Int)) = false := by simp only [decide_eq_false_iff_not]; omega
          have d2n : decide (ns.length ≤ n) = false := by simp only [decide_eq_false_iff_not]; omega
          have d6n : decide (R ≤ s) = false := by simp only [decide_eq_false_iff_not]; omega
          have d8n : decide (W ≤ a) = false := by simp only [decide_eq_false_iff_not]; omega
          have HBk := qJ hBk
          clear hrc hLF hRL hstep htot hj1 hj3 hm hlv hx hBk
          go_wp2_with fail
          obtain ⟨wX, hwX⟩ : ∃ wX, wk.alloc (.cells #[.int .i64 (n : Int), .int .i64 (a : Int), .int .i64 (e : Int), .int .i64 (s : Int), .int .i64 v] 110) = wX := ⟨_, rfl⟩
          rw [hwX]
          have hBX : Bw wk wX := hwX ▸ (by repeat first|exact br _|assumption|apply bd|apply bn|apply ba|refine bt ?_ (by assumption))
          have hxb : wX.heap[wk.heap.size]? = some (.cells #[.int .i64 (n : Int), .int .i64 (a : Int), .int .i64 (e : Int), .int .i64 (s : Int), .int .i64 v] 110 (0, 0)) := hwX ▸ heap_alloc_new wk _
          generalize hxx : wk.heap.size = xb at hxb ⊢
          have x0 := qQ (o := 0) hxb rfl
          have x1 := qQ (o := 1) hxb rfl
          have x2 := qQ (o := 2) hxb rfl
          have x3 := qQ (o := 3) hxb rfl
          have x4 := qQ (o := 4) hxb rfl
          have xl := (Array.getElem?_eq_some_iff.1 hxb).1
          have hB1X := (qK HBk).trans hBX
          have c1 := ((qX hB1X).1 _ 1 cl').trans c1'
          have c2 := ((qX hB1X).1 _ 2 cl').trans c2'
          have c3 := ((qX hB1X).1 _ 3 cl').trans c3'
          have cl := Nat.lt_of_lt_of_le cl' hB1X.size
          clear hwX hxx r0 r1 r2 r3 r4 hrb
          go_quiet (fail)
          have hRX := ((qK H5).1).bw (hBX.trans (show Bw wX (wX.drewN nq) from (by repeat first|exact br _|assumption|apply bd|apply bn|apply ba|refine bt ?_ (by assumption))))
          have hxq : (wX.drewN nq).heap[xb]? = _ := hxb
          generalize hwY : wX.drewN nq = wY at hRX hxq ⊢
          obtain ⟨⟨y1, y2, y3, y4⟩, ⟨v0, v2, v3, v5, v6⟩, v7, _, _⟩ := hRX.reads2 hxq hn he hs
          have v4 := qQ (o := 4) hxq rfl
          rw [(qK Hstep).2.2.2.2.2] at v7
          have Hxb := qJ hxq
          have HRX := qJ hRX
          have HBXY : Hid (Bw wk wY) := qJ (hwY ▸ hBX.trans (by repeat first|exact br _|assumption|apply bd|apply bn|apply ba|refine bt ?_ (by assumption)))
          clear hRX hxq x0 x1 x2 x3 x4 xl c1 c2 c3 cl hxb hwY hB1X hBX d1 d2 d3 d4 d5 d6 d7 d8 d2n d6n d8n
          go_wp2_with fail
          go_quiet (fail)
          obtain ⟨wZ, hwZ⟩ : ∃ wZ, wY.drewN nq = wZ := ⟨_, rfl⟩
          have hBZ : Bw wY wZ := hwZ ▸ (by repeat first|exact br _|assumption|apply bd|apply bn|apply ba|refine bt ?_ (by assumption))
          rw [hwZ]
          clear hwZ
          have hRZ := (qK HRX).bw hBZ
          have hxz := (Below.block hBZ _ y1).trans (qK Hxb)
          have v4' := ((qX hBZ).1 _ _ y1).trans v4
          have y1' := Nat.lt_of_lt_of_le y1 hBZ.size
          have hown := hRZ.own e s n he hs hn
          rw [(qK Hstep).2.2.2.2.2] at hown
          have HZ := qJ (⟨hRZ, hxz, hBZ⟩ : _ ∧ _ ∧ _)
          have hints := hown.ints.1
          obtain ⟨cur, hcur⟩ := zK hown (b := gb) rfl
          have hgl := (Array.getElem?_eq_some_iff.1 hcur).1
          have Hcur := qJ hcur
          obtain ⟨lst, hlst⟩ : ∃ lst, F e s n = lst := ⟨_, rfl⟩
          have Hlst := qJ hlst
          rw [hlst] at Hstep hints
          have hlen := (qK Hstep).2.2.2.2.1
          have Hints := qJ hints
          clear hRZ hxz hBZ hown hcur hints v0 v2 v3 v4 v5 v6 v7 y1 y2 y3 y4 hlst
          go_wp2_with fail
          go_loopw [17, 18] (fun c i wz => ∃ i' : Nat, i' ≤ m + 1 ∧ i = .int .i64 i' ∧ c = .int .i64 (cB lst v i') ∧ Bw wZ wz) (fun _ i _ => m + 1 - (intOf i).toNat)
          case atStart => exact ⟨0, Nat.zero_le _, rfl, rfl, Bw.refl _⟩
          case round =>
            obtain ⟨i, hi, rfl, rfl, hBz⟩ := hrel
            rename World => wz
            have u4 := ((qX hBz).1 _ _ y1').trans v4'
            have ul := Nat.lt_of_lt_of_le y1' hBz.size
            have gl := Nat.lt_of_lt_of_le hgl hBz.size
            by_cases hi2 : i < m + 1
            · have hi3 : (i : Int) < ((m + 1 : Nat) : Int) := by omega
              obtain ⟨b, off, hbe, hb, hc⟩ := ((qK Hints).below hBz) i (by omega)
              have k0 := hc i (by omega)
              simp only [Option.some.injEq, Addr.mk.injEq, and_true] at hbe
              obtain ⟨rfl, rfl⟩ := hbe
              rw [Nat.zero_add] at k0
              have HBz := qJ hBz
              have Hla : Hid (cB lst v (i + 1) = if kC lst i == v then (i : Int) else cB lst v i) := qJ rfl
              clear hc hBz
              generalize kC lst i = y at *
              cases hy : (y == v) with
              | true =>
                rw [hy] at Hla
                have hyv : y = v := by simpa using hy
                clear hy
                subst hyv
                go_wp2_with fail
                go_quiet (fail)
                go_wp2_with fail
                go_roundw
                case rel => exact ⟨i + 1, by omega, by go_num, by rw [qK Hla]; rfl, (qK HBz).trans (by repeat first|exact br _|assumption|apply bd|apply bn|apply ba|refine bt ?_ (by assumption))⟩
                case measure => simp [intOf]; omega
              | false =>
                rw [hy] at Hla
                go_wp2_with fail
                go_quiet (fail)
                go_wp2_with fail
                go_roundw
                case rel => exact ⟨i + 1, by omega, by go_num, by rw [qK Hla]; rfl, (qK HBz).trans (by repeat first|exact br _|assumption|apply bd|apply bn|apply ba|refine bt ?_ (by assumption))⟩
                case measure => simp [intOf]; omega
            · have hii : i = m + 1 := by omega
              subst hii
              rw [(qK Hstep).2.2.1]
              have hj0 : ¬ (j : Int) < 0 := by omega
              have hjm : (j : Int) < ((m + 1 : Nat) : Int) := by omega
              obtain ⟨b, off, hbe, hb, hc⟩ := ((qK Hints).below hBz) m (by omega)
              have k0 := hc m (by omega)
              simp only [Option.some.injEq, Addr.mk.injEq, and_true] at hbe
              obtain ⟨rfl, rfl⟩ := hbe
              rw [Nat.zero_add] at k0
              have kj := hc j (by omega)
              rw [Nat.zero_add] at kj
              have hw1 : IntKind.i64.wrap (((m + 1 : Nat) : Int) - 1) = (m : Int) := by rw [IntKind.wrap_i64]; omega
              have hw2 : IntKind.i64.wrap (m : Int) = (m : Int) := by rw [IntKind.wrap_i64]; omega
              have hmc : (m : Int) ≤ (cap : Int) := by omega
              have hgf : wz.frozen? ⟨gb, j, none⟩ = false := qZ ((Below.block hBz _ hgl).trans (qK Hcur))
              obtain ⟨hRZ, hxz, hBZ⟩ := qK HZ
              have hRz := hRZ.bw hBz
              have hxz2 := (Below.block hBz _ y1').trans hxz
              have hcz := (Below.block hBz _ hgl).trans (qK Hcur)
              have hleaf := hRz.leaf hn he hs (qK Hstep).2.2.2.2.2 (j := j) (by rw [qK Hlst]; omega) (kC lst m)
              have hcut := hRz.cut hn he hs (qK Hstep).2.2.2.2.2 (by rw [qK Hlst]; exact hlen) hj2
              rw [qK Hlst] at hcut
              have hxs : (wz.setCell ⟨gb, j, none⟩ (.int .i64 (kC lst m))).heap[xb]? = _ := qU hcz hxz2 (by decide)
              obtain ⟨⟨y1, y2, y3, y4⟩, ⟨v0, v2, v3, v5, v6⟩, v7c, v8, v9⟩ := hleaf.reads2 hxs hn he hs
              have Hcut := qJ hcut
              have Hv9 := qJ v9
              have htl2 := (qK Hstep).2.1
              have Hz9 := qJ htl2
              generalize hnm : kC lst m = ym at *
              generalize hnj : kC lst j = yj at kj
              clear hRZ hxz hBZ hRz hxz2 hcz hleaf hcut hxs hc hBz hnm hnj v9 htl2
              go_wp2_with fail
              obtain ⟨wC, hwC⟩ : ∃ wC, wz.setCell ⟨gb, j, none⟩ (.int .i64 ym) = wC := ⟨_, rfl⟩
              rw [hwC] at v0 v2 v3 v5 v6 v7c v8 Hv9 Hcut y1 y2 y3 y4 ⊢
              clear hwC
              refine wp_region_held_drew (S := (fun w' => w'.cell? ⟨xb, 0, none⟩ = some (.int .i64 (n : Int)) ∧ w'.cell? ⟨xb, 2, none⟩ = some (.int .i64 (e : Int)) ∧ w'.cell? ⟨xb, 3, none⟩ = some (.int .i64 (s : Int)) ∧ w'.cell? ⟨t.ob, n, none⟩ = some (.slice (some ⟨t.tb n, 0, none⟩) 6 (t.tc n)) ∧ w'.cell? ⟨t.tb n, e, none⟩ = some (.slice (some ⟨t.rb n e, 0, none⟩) R R))) (by kernel_rfl) (by (try dsimp only); go_keep) (fun hHeld => ?_)
              refine tk 0 ?_; try simp only [Act.put, qT, qS, qR]
              refine tk 1 ?_; try simp only [Act.put, qT, qS, qR]
              refine tk 2 ?_; try simp only [Act.put, qT, qS, qR]
              refine tk 3 ?_; try simp only [Act.put, qT, qS, qR]
              refine tk 4 ?_; try simp only [Act.put, qT, qS, qR]
              refine tk 5 ?_; try simp only [Act.put, qT, qS, qR]
              refine tk 6 ?_; try simp only [Act.put, qT, qS, qR]
              refine tk 7 ?_; try simp only [Act.put, qT, qS, qR]
              refine tk 8 ?_; try simp only [Act.put, qT, qS, qR]
              refine tk 9 ?_; try simp only [Act.put, qT, qS, qR]
              refine tk 10 ?_; try simp only [Act.put, qT, qS, qR]
              refine tk 11 ?_; try simp only [Act.put, qT, qS, qR]
              refine tk 12 ?_; try simp only [Act.put, qT, qS, qR]
              refine tk 13 ?_; try simp only [Act.put, qT, qS, qR]
              refine tk 14 ?_; try simp only [Act.put, qT, qS, qR]
              refine tk 15 ?_; try simp only [Act.put, qT, qS, qR]
              refine tk 16 ?_; try simp only [Act.put, qT, qS, qR]
              refine wpAnyH_ready (rs := [17]) (by kernel_rfl) (by simp) ?_
              refine AllReadyH.cons rfl (fun K hK => ?_) AllReadyH.nil
              go_simp
              refine hK.out _ _ (qK Hv9 _) (fun hHeld => ?_)
              clear hK K
              try simp only [Act.put, qT, qS, qR]
              refine wpAnyH_done (by kernel_rfl) ?_ _
              go_wp2_with fail
              go_roundw
              case rel =>
                refine ⟨k + 1, _, _, by omega, by go_num, ?_, (qK Hcut).bw (by repeat first|exact br _|assumption|apply bd|apply bn|apply ba|refine bt ?_ (by assumption)), (qK Hlst) ▸ (qK Hstep).1⟩
                have := qK Hz9
                go_num
              case measure => simp [intOf]; omega
        · have hkk : k = rc.length := by omega
          subst hkk
          have hz : all = true → tot ns.length R F = 0 := fun ha => hLF.end ((qK Hpu).2.2 ha)
          have HBk := qJ hBk
          obtain ⟨tt, htt⟩ : ∃ tt, tot ns.length R F = tt := ⟨_, rfl⟩
          rw [htt] at hz htl ⊢
          clear hRL hLF hBk H5 htt
          cases ha : all with
          | true =>
            rw [ha] at hz
            have h0 := hz rfl
            subst h0
            clear hz
            go_wp2_with fail
            go_ret
            exact ⟨rfl, hB1.trans (qK HBk)⟩
          | false =>
            clear hz
            by_cases h0 : tt = 0
            · subst h0
              go_wp2_with fail
              go_ret
              exact ⟨rfl, hB1.trans (qK HBk)⟩
            · have h1 : ((tt : Int) == 0) = false := by simp; omega
              go_wp2_with fail
              go_ret
              exact ⟨rfl, hB1.trans (qK HBk)⟩
theorem BAt.flow {w : World} {U : Nat → Prop} {bb : Nat} {ns : List Nd} {R W : Nat} {gs : List Gv} {p : PSt} {st : RSt} (g : GOk ns R W) (h0 : (qV ns 0).kind = 0) (h : BAt w U bb ns R W gs p st) {na va : Option Addr} (hn : NodesAt w na ns) (hv : GvAt w va gs) (nc vc : Nat) (w' : World) (hb : Bw w w') :
    Calls Try.prog 27 #[.agg #[.slice na ns.length nc, .int .i64 (R : Int)], .slice va gs.length vc] w' fun en w2 => ∃ (I O : Tb) (FI : Nat → Nat → Nat → List Int), en = .returned (.agg #[I.val ns.length, O.val ns.length]) ∧ TF w' w2 I ns.length R FI ∧ (∀ e s n, e < 6 → s < R → n < ns.length → FI e s n = dT ns gs n e s) ∧ Bw w' w2 := by
  obtain ⟨r, q, hG⟩ := g.good
  exact kflow_any hG g.low (h.kept.gvk g) g.kind (fun y hy => (h.kept.his.gi y hy).1) na va nc vc g.hR1 g.hR g.h1 g.h8 h0 w' (hn.below hb) (hv.below hb)
end Go.Proofs.Ytfemleimkbjehaa
