import Derived.Test.YtfemleimkbjehaaJ1
import Derived.Deep.Upon
set_option maxRecDepth 1000000
set_option maxHeartbeats 40000000
set_option linter.unusedVariables false
set_option linter.unusedSimpArgs false
namespace Go.Proofs.Ytfemleimkbjehaa
open Go.RowKit
theorem zH (n : Int) : -9223372036854775808 ≤ wrap64 n ∧ wrap64 n ≤ 9223372036854775807 := by unfold wrap64; omega
theorem nth_ne {xs : List Int} (h : xs.Nodup) {i j : Nat} (hi : i < xs.length) (hj : j < xs.length) (hij : i ≠ j) : kC xs i ≠ kC xs j := by
  rw [jL hi, jL hj]
  intro e
  exact hij ((List.getElem_inj h).1 e)
structure FitNode (ns : List Nd) (n : Nat) (y : Nd) : Prop where
  pre : rR y = true
  kind : y.kind = (qV ns n).kind ∨ ((qV ns n).kind = 3 ∧ y.kind = 1)
  inp : ∀ z ∈ qF y, ∃ a : Nat, z = a ∧ a < ns.length ∧ chB ns n a = true
def mQ (z : Int) : Prop := -9223372036854775808 ≤ z ∧ z ≤ 9223372036854775807
def Nd.wf (x : Nd) : Prop := mQ x.kind ∧ mQ x.a ∧ mQ x.b ∧ mQ x.k ∧ mQ x.m
set_option maxRecDepth 100000 in
set_option maxHeartbeats 4000000 in
theorem gJ (ns : List Nd) (ga : Option Addr) (gc : Nat) (r : Int) (n : Nat) (w : World) (hn : NodesAt w ga ns) (hg : ns.length ≤ 8) (hnl : n < ns.length)
    (hw : (qV ns n).wf) (hk0 : 0 ≤ (qV ns n).kind) (hk7 : (qV ns n).kind ≤ 7) (h0 : (qV ns 0).kind = 0) :
    Calls Try.prog 46 #[.agg #[.slice ga ns.length gc, .int .i64 r], .int .i64 (n : Int)] w fun e w' => ∃ y : Nd, e = .returned y.val ∧ FitNode ns n y ∧ Bw w w' := by
  obtain ⟨b, off, rfl, hb, hc⟩ := hn n hnl
  obtain ⟨c0, c1, c2, c3, c4⟩ := hc n hnl
  clear hc
  have n1 : (0 : Int) ≤ (n : Int) := by omega
  have n2 : (n : Int) < (ns.length : Int) := by omega
  have hcl := chTo_len ns n ns.length
  have hpos : (qV ns n).kind ≠ 0 → 0 < (zT ns n ns.length).length := by
    intro hk
    refine List.length_pos_of_mem (chTo_has (ns := ns) (n := n) ns.length 0 (by omega) ?_)
    have hn0 : 0 < n := by
      by_cases e : n = 0
      · subst e; exact absurd h0 hk
      · omega
    unfold chB
    rw [h0]
    simp [hn0]
  have hmem : ∀ i, i < (zT ns n ns.length).length → ∃ a : Nat, kC (zT ns n ns.length) i = a ∧ a < ns.length ∧ chB ns n a = true := by
    intro i hi
    obtain ⟨a, e, ha, hc⟩ := chTo_mem ns.length (kC (zT ns n ns.length) i) (by rw [jL hi]; exact List.getElem_mem hi)
    exact ⟨a, e, ha, hc⟩
  have Hpos := qJ hpos
  have Hmem := qJ hmem
  have Hfit : Hid (∀ y : Nd, rR y = true → (y.kind = (qV ns n).kind ∨ ((qV ns n).kind = 3 ∧ y.kind = 1)) → (∀ z ∈ qF y, ∃ a : Nat, z = a ∧ a < ns.length ∧ chB ns n a = true) → FitNode ns n y) := qJ (fun y a b c => ⟨a, b, c⟩)
  clear hpos hmem h0
  generalize hnd : qV ns n = x at c0 c1 c2 c3 c4 hw hk0 hk7 Hpos Hfit
  obtain ⟨κ, xa, xb, xk, xm⟩ := x
  simp only at c0 c1 c2 c3 c4 hk0 hk7 Hpos Hfit
  obtain ⟨_, ⟨wa1, wa2⟩, ⟨wb1, wb2⟩, _, ⟨wm1, wm2⟩⟩ := hw
  simp only at wa1 wa2 wb1 wb2 wm1 wm2
  clear hnd
  have h8 : κ = 0 ∨ κ = 1 ∨ κ = 2 ∨ κ = 3 ∨ κ = 4 ∨ κ = 5 ∨ κ = 6 ∨ κ = 7 := by omega
  clear hk0 hk7
  rcases h8 with rfl | rfl | rfl | rfl | rfl | rfl | rfl | rfl
  · go_enter Try.func46, Try.ntmps46
    go_wp2_with fail
    refine bodyPost_ret (v := (⟨0, 0, 0, 0, 0⟩ : Nd).val) (by simp [results, Try.results46, go_sem, Nd.val]) rfl ⟨⟨0, 0, 0, 0, 0⟩, rfl, (qK Hfit) _ rfl (.inl rfl) (by simp [qF]), ?_⟩
    exact (by repeat first|exact br _|assumption|apply bd|apply bn|apply ba|refine bt ?_ (by assumption))
  · have hp := (qK Hpos) (by omega)
    go_enter Try.func46, Try.ntmps46
    go_wp2_with (go_at_call 73; refine (yW ns _ _ _ n _ (hn.below (by repeat first|exact br _|assumption|apply bd|apply bn|apply ba|refine bt ?_ (by assumption))) hg hnl).mono ?_; rintro e w' ⟨v, rfl, hown, hbl⟩; obtain ⟨la, lc, rfl, hx, hml⟩ := hown.form; obtain ⟨hcc, hff⟩ := qX hbl; have hz0 : w.heap.size < w'.heap.size := (by have := hbl.size; (try simp at this); omega); have hz1 : w.heap.size + 1 < w'.heap.size := (by have := hbl.size; (try simp at this); omega); have hz2 : w.heap.size + 2 < w'.heap.size := (by have := hbl.size; (try simp at this); omega))
    refine (vL _ _ _ (by omega) (by omega) (by omega) (by omega)).mono ?_
    rintro e w2 ⟨rfl, rfl⟩
    obtain ⟨hi1, hi2⟩ := jC xa (n := ((zT ns n ns.length).length : Int)) (by omega)
    generalize jT xa ((zT ns n ns.length).length : Int) = pk at hi1 hi2
    obtain ⟨i, rfl⟩ := Int.eq_ofNat_of_zero_le hi1
    obtain ⟨bl, ol, rfl, hbl2, hcx⟩ := hx i (by omega)
    have hcx1 := hcx i (by omega)
    obtain ⟨a, ea, ha, hca⟩ := (qK Hmem) i (by omega)
    rw [ea] at hcx1
    have k0 := hcc (w.heap.size + 1) 0 (by simp)
    have k1 := hcc (w.heap.size + 1) 1 (by simp)
    have k2 := hcc (w.heap.size + 1) 2 (by simp)
    have k3 := hcc (w.heap.size + 1) 3 (by simp)
    have k4 := hcc (w.heap.size + 1) 4 (by simp)
    simp [go_sem] at k0 k1 k2 k3 k4
    have hBw : Bw w w2 := (by repeat first|exact br _|assumption|apply bd|apply bn|apply ba|refine bt ?_ (by assumption))
    have Hbl := qJ hbl
    clear hbl
    clear hcx ea hown hml
    go_wp2_with fail
    go_region
    go_wp2_with fail
    refine bodyPost_ret (v := (⟨1, a, 0, xk, 0⟩ : Nd).val) (by simp [results, Try.results46, go_sem, Nd.val, k0, k1, k2, k3, k4, hz1]) rfl ⟨⟨1, a, 0, xk, 0⟩, rfl, (qK Hfit) _ (by simp [rR]) (.inl rfl) (by intro z hz; simp [qF] at hz; exact ⟨a, hz, ha, hca⟩), ?_⟩
    refine Bw.drew ?_
    refine Bw.alloc ?_ _
    iterate 5 refine Bw.setCell ?_ (by simp only; omega) _
    exact hBw
  · have hp := (qK Hpos) (by omega)
    go_enter Try.func46, Try.ntmps46
    go_wp2_with (go_at_call 73; refine (yW ns _ _ _ n _ (hn.below (by repeat first|exact br _|assumption|apply bd|apply bn|apply ba|refine bt ?_ (by assumption))) hg hnl).mono ?_; rintro e w' ⟨v, rfl, hown, hbl⟩; obtain ⟨la, lc, rfl, hx, hml⟩ := hown.form; obtain ⟨hcc, hff⟩ := qX hbl; have hz0 : w.heap.size < w'.heap.size := (by have := hbl.size; (try simp at this); omega); have hz1 : w.heap.size + 1 < w'.heap.size := (by have := hbl.size; (try simp at this); omega); have hz2 : w.heap.size + 2 < w'.heap.size := (by have := hbl.size; (try simp at this); omega))
    refine (vL _ _ _ (by omega) (by omega) (by omega) (by omega)).mono ?_
    rintro e w2 ⟨rfl, rfl⟩
    obtain ⟨hi1, hi2⟩ := jC xa (n := ((zT ns n ns.length).length : Int)) (by omega)
    generalize jT xa ((zT ns n ns.length).length : Int) = pk at hi1 hi2
    obtain ⟨i, rfl⟩ := Int.eq_ofNat_of_zero_le hi1
    obtain ⟨bl, ol, rfl, hbl2, hcx⟩ := hx i (by omega)
    have hcx1 := hcx i (by omega)
    obtain ⟨a, ea, ha, hca⟩ := (qK Hmem) i (by omega)
    rw [ea] at hcx1
    have k0 := hcc (w.heap.size + 1) 0 (by simp)
    have k1 := hcc (w.heap.size + 1) 1 (by simp)
    have k2 := hcc (w.heap.size + 1) 2 (by simp)
    have k3 := hcc (w.heap.size + 1) 3 (by simp)
    have k4 := hcc (w.heap.size + 1) 4 (by simp)
    simp [go_sem] at k0 k1 k2 k3 k4
    have hBw : Bw w w2 := (by repeat first|exact br _|assumption|apply bd|apply bn|apply ba|refine bt ?_ (by assumption))
    have Hbl := qJ hbl
    clear hbl
    clear hcx ea hown hml
    go_wp2_with fail
    go_region
    go_wp2_with fail
    refine (vL _ _ _ (zH _).1 (zH _).2 (by omega) (by omega)).mono ?_
    rintro e w3 ⟨rfl, rfl⟩
    obtain ⟨p1, p2⟩ := jC (wrap64 (xk - 1)) (n := 100) (by omega)
    generalize jT (wrap64 (xk - 1)) 100 = pk2 at p1 p2
    go_wp2_with fail
    refine (vL _ _ _ (by omega) (by omega) (by omega) (by omega)).mono ?_
    rintro e w4 ⟨rfl, rfl⟩
    obtain ⟨p3, p4⟩ := jC xm (n := 1 + pk2) (by omega)
    generalize jT xm (1 + pk2) = pk3 at p3 p4
    go_wp2_with fail
    refine bodyPost_ret (v := (⟨2, a, 0, 1 + pk2, pk3⟩ : Nd).val) (by simp [results, Try.results46, go_sem, Nd.val, k0, k1, k2, k3, k4, hz1]) rfl ⟨⟨2, a, 0, 1 + pk2, pk3⟩, rfl, (qK Hfit) _ (by simp [rR]; omega) (.inl rfl) (by intro z hz; simp [qF] at hz; exact ⟨a, hz, ha, hca⟩), ?_⟩
    refine Bw.drew ?_
    refine Bw.alloc ?_ _
    iterate 5 refine Bw.setCell ?_ (by simp only; omega) _
    exact hBw
  · have hp := (qK Hpos) (by omega)
    go_enter Try.func46, Try.ntmps46
    go_wp2_with (go_at_call 73; refine (yW ns _ _ _ n _ (hn.below (by repeat first|exact br _|assumption|apply bd|apply bn|apply ba|refine bt ?_ (by assumption))) hg hnl).mono ?_; rintro e w' ⟨v, rfl, hown, hbl⟩; obtain ⟨la, lc, rfl, hx, hml⟩ := hown.form; obtain ⟨hcc, hff⟩ := qX hbl; have hz0 : w.heap.size < w'.heap.size := (by have := hbl.size; (try simp at this); omega); have hz1 : w.heap.size + 1 < w'.heap.size := (by have := hbl.size; (try simp at this); omega); have hz2 : w.heap.size + 2 < w'.heap.size := (by have := hbl.size; (try simp at this); omega))
    refine (vL _ _ _ (by omega) (by omega) (by omega) (by omega)).mono ?_
    rintro e w2 ⟨rfl, rfl⟩
    obtain ⟨hi1, hi2⟩ := jC xa (n := ((zT ns n ns.length).length : Int)) (by omega)
    generalize jT xa ((zT ns n ns.length).length : Int) = pk at hi1 hi2
    obtain ⟨i, rfl⟩ := Int.eq_ofNat_of_zero_le hi1
    obtain ⟨bl, ol, rfl, hbl2, hcx⟩ := hx i (by omega)
    have hcx1 := hcx i (by omega)
    obtain ⟨a, ea, ha, hca⟩ := (qK Hmem) i (by omega)
    rw [ea] at hcx1
    have k0 := hcc (w.heap.size + 1) 0 (by simp)
    have k1 := hcc (w.heap.size + 1) 1 (by simp)
    have k2 := hcc (w.heap.size + 1) 2 (by simp)
    have k3 := hcc (w.heap.size + 1) 3 (by simp)
    have k4 := hcc (w.heap.size + 1) 4 (by simp)
    simp [go_sem] at k0 k1 k2 k3 k4
    have hBw : Bw w w2 := (by repeat first|exact br _|assumption|apply bd|apply bn|apply ba|refine bt ?_ (by assumption))
    have Hbl := qJ hbl
    clear hbl
    have Hcx := qJ hcx
    have Hnd := qJ (chTo_nodup ns n ns.length)
    have Hea := qJ ea
    clear hcx ea hown hml
    by_cases hL1 : (zT ns n ns.length).length = 1
    · have hi0 : i = 0 := by omega
      subst hi0
      rw [Nat.add_zero] at hcx1
      have hL2 : (((zT ns n ns.length).length : Int) == 1) = true := by simp [hL1]
      have hL3 : 0 < (zT ns n ns.length).length := by omega
      have HL1 := qJ hL1
      clear hL1
      go_wp2_with fail
      go_region
      go_wp2_with fail
      refine bodyPost_ret (v := (⟨1, a, 0, 0, 0⟩ : Nd).val) (by simp [results, Try.results46, go_sem, Nd.val, k0, k1, k2, k3, k4, hz1]) rfl ⟨⟨1, a, 0, 0, 0⟩, rfl, (qK Hfit) _ (by simp [rR]) (.inr ⟨trivial, rfl⟩) (by intro z hz; simp [qF] at hz; exact ⟨a, hz, ha, hca⟩), ?_⟩
      refine Bw.drew ?_
      refine Bw.alloc ?_ _
      iterate 5 refine Bw.setCell ?_ (by simp only; omega) _
      exact hBw
    · have hL2 : (((zT ns n ns.length).length : Int) == 1) = false := by simp; omega
      have HL1 := qJ hL1
      clear hL1
      go_wp2_with fail
      go_region
      go_wp2_with fail
      refine (vL _ _ _ (by omega) (by omega) (by omega) (by omega)).mono ?_
      rintro e w3 ⟨rfl, rfl⟩
      obtain ⟨p1, p2⟩ := jC xb (n := ((zT ns n ns.length).length : Int)) (by omega)
      generalize jT xb ((zT ns n ns.length).length : Int) = pk2 at p1 p2
      obtain ⟨j, rfl⟩ := Int.eq_ofNat_of_zero_le p1
      by_cases hji : j = i
      · subst hji
        have hL4 := qK HL1
        by_cases hend : j + 1 = (zT ns n ns.length).length
        · have hc2 := (qK Hcx) 0 (by omega)
          obtain ⟨a2, ea2, ha2, hca2⟩ := (qK Hmem) 0 (by omega)
          have Hne : Hid (¬ (a : Int) = a2) := qJ <| by
            rw [← qK Hea, ← ea2]
            exact nth_ne (qK Hnd) (by omega) (by omega) (by omega)
          rw [ea2, Nat.add_zero] at hc2
          have hmod : ((j : Int) + 1) % ((zT ns n ns.length).length : Int) = 0 := by rw [← hend]; simp
          clear ea2 hend hL4
          go_wp2_with fail
          refine bodyPost_ret (v := (⟨3, a, a2, 0, 0⟩ : Nd).val) (by simp [results, Try.results46, go_sem, Nd.val, k0, k1, k2, k3, k4, hz1]) rfl ⟨⟨3, a, a2, 0, 0⟩, rfl, (qK Hfit) _ (by simp [rR]; have := qK Hne; omega) (.inl rfl) (by intro z hz; simp [qF] at hz; rcases hz with hz | hz <;> first | exact ⟨a, hz, ha, hca⟩ | exact ⟨a2, hz, ha2, hca2⟩), ?_⟩
          refine Bw.drew ?_
          refine Bw.alloc ?_ _
          iterate 5 refine Bw.setCell ?_ (by simp only; omega) _
          exact hBw
        · have hc2 := (qK Hcx) (j + 1) (by omega)
          obtain ⟨a2, ea2, ha2, hca2⟩ := (qK Hmem) (j + 1) (by omega)
          have Hne : Hid (¬ (a : Int) = a2) := qJ <| by
            rw [← qK Hea, ← ea2]
            exact nth_ne (qK Hnd) (by omega) (by omega) (by omega)
          rw [ea2] at hc2
          have hmod : ((j : Int) + 1) % ((zT ns n ns.length).length : Int) = (j : Int) + 1 := Int.emod_eq_of_lt (by omega) (by omega)
          have hj5 : (j : Int) + 1 < ((zT ns n ns.length).length : Int) := by omega
          clear ea2 hend hL4
          go_wp2_with fail
          refine bodyPost_ret (v := (⟨3, a, a2, 0, 0⟩ : Nd).val) (by simp [results, Try.results46, go_sem, Nd.val, k0, k1, k2, k3, k4, hz1]) rfl ⟨⟨3, a, a2, 0, 0⟩, rfl, (qK Hfit) _ (by simp [rR]; have := qK Hne; omega) (.inl rfl) (by intro z hz; simp [qF] at hz; rcases hz with hz | hz <;> first | exact ⟨a, hz, ha, hca⟩ | exact ⟨a2, hz, ha2, hca2⟩), ?_⟩
          refine Bw.drew ?_
          refine Bw.alloc ?_ _
          iterate 5 refine Bw.setCell ?_ (by simp only; omega) _
          exact hBw
      · have hji2 : ((j : Int) == (i : Int)) = false := by simp; omega
        have hc2 := (qK Hcx) j (by omega)
        obtain ⟨a2, ea2, ha2, hca2⟩ := (qK Hmem) j (by omega)
        have Hne : Hid (¬ (a : Int) = a2) := qJ <| by
          rw [← qK Hea, ← ea2]
          exact nth_ne (qK Hnd) (by omega) (by omega) (by omega)
        rw [ea2] at hc2
        clear ea2 hji
        go_wp2_with fail
        refine bodyPost_ret (v := (⟨3, a, a2, 0, 0⟩ : Nd).val) (by simp [results, Try.results46, go_sem, Nd.val, k0, k1, k2, k3, k4, hz1]) rfl ⟨⟨3, a, a2, 0, 0⟩, rfl, (qK Hfit) _ (by simp [rR]; have := qK Hne; omega) (.inl rfl) (by intro z hz; simp [qF] at hz; rcases hz with hz | hz <;> first | exact ⟨a, hz, ha, hca⟩ | exact ⟨a2, hz, ha2, hca2⟩), ?_⟩
        refine Bw.drew ?_
        refine Bw.alloc ?_ _
        iterate 5 refine Bw.setCell ?_ (by simp only; omega) _
        exact hBw
  · have hp := (qK Hpos) (by omega)
    go_enter Try.func46, Try.ntmps46
    go_wp2_with (go_at_call 73; refine (yW ns _ _ _ n _ (hn.below (by repeat first|exact br _|assumption|apply bd|apply bn|apply ba|refine bt ?_ (by assumption))) hg hnl).mono ?_; rintro e w' ⟨v, rfl, hown, hbl⟩; obtain ⟨la, lc, rfl, hx, hml⟩ := hown.form; obtain ⟨hcc, hff⟩ := qX hbl; have hz0 : w.heap.size < w'.heap.size := (by have := hbl.size; (try simp at this); omega); have hz1 : w.heap.size + 1 < w'.heap.size := (by have := hbl.size; (try simp at this); omega); have hz2 : w.heap.size + 2 < w'.heap.size := (by have := hbl.size; (try simp at this); omega))
    refine (vL _ _ _ (by omega) (by omega) (by omega) (by omega)).mono ?_
    rintro e w2 ⟨rfl, rfl⟩
    obtain ⟨hi1, hi2⟩ := jC xa (n := ((zT ns n ns.length).length : Int)) (by omega)
    generalize jT xa ((zT ns n ns.length).length : Int) = pk at hi1 hi2
    obtain ⟨i, rfl⟩ := Int.eq_ofNat_of_zero_le hi1
    obtain ⟨bl, ol, rfl, hbl2, hcx⟩ := hx i (by omega)
    have hcx1 := hcx i (by omega)
    obtain ⟨a, ea, ha, hca⟩ := (qK Hmem) i (by omega)
    rw [ea] at hcx1
    have k0 := hcc (w.heap.size + 1) 0 (by simp)
    have k1 := hcc (w.heap.size + 1) 1 (by simp)
    have k2 := hcc (w.heap.size + 1) 2 (by simp)
    have k3 := hcc (w.heap.size + 1) 3 (by simp)
    have k4 := hcc (w.heap.size + 1) 4 (by simp)
    simp [go_sem] at k0 k1 k2 k3 k4
    have hBw : Bw w w2 := (by repeat first|exact br _|assumption|apply bd|apply bn|apply ba|refine bt ?_ (by assumption))
    have Hbl := qJ hbl
    clear hbl
    clear hcx ea hown hml
    go_wp2_with fail
    go_region
    go_wp2_with fail
    refine bodyPost_ret (v := (⟨4, a, 0, 0, 0⟩ : Nd).val) (by simp [results, Try.results46, go_sem, Nd.val, k0, k1, k2, k3, k4, hz1]) rfl ⟨⟨4, a, 0, 0, 0⟩, rfl, (qK Hfit) _ (by simp [rR]) (.inl rfl) (by intro z hz; simp [qF] at hz; exact ⟨a, hz, ha, hca⟩), ?_⟩
    refine Bw.drew ?_
    refine Bw.alloc ?_ _
    iterate 5 refine Bw.setCell ?_ (by simp only; omega) _
    exact hBw
  · have hp := (qK Hpos) (by omega)
    go_enter Try.func46, Try.ntmps46
    go_wp2_with (go_at_call 73; refine (yW ns _ _ _ n _ (hn.below (by repeat first|exact br _|assumption|apply bd|apply bn|apply ba|refine bt ?_ (by assumption))) hg hnl).mono ?_; rintro e w' ⟨v, rfl, hown, hbl⟩; obtain ⟨la, lc, rfl, hx, hml⟩ := hown.form; obtain ⟨hcc, hff⟩ := qX hbl; have hz0 : w.heap.size < w'.heap.size := (by have := hbl.size; (try simp at this); omega); have hz1 : w.heap.size + 1 < w'.heap.size := (by have := hbl.size; (try simp at this); omega); have hz2 : w.heap.size + 2 < w'.heap.size := (by have := hbl.size; (try simp at this); omega))
    refine (vL _ _ _ (by omega) (by omega) (by omega) (by omega)).mono ?_
    rintro e w2 ⟨rfl, rfl⟩
    obtain ⟨hi1, hi2⟩ := jC xa (n := ((zT ns n ns.length).length : Int)) (by omega)
    generalize jT xa ((zT ns n ns.length).length : Int) = pk at hi1 hi2
    obtain ⟨i, rfl⟩ := Int.eq_ofNat_of_zero_le hi1
    obtain ⟨bl, ol, rfl, hbl2, hcx⟩ := hx i (by omega)
    have hcx1 := hcx i (by omega)
    obtain ⟨a, ea, ha, hca⟩ := (qK Hmem) i (by omega)
    rw [ea] at hcx1
    have k0 := hcc (w.heap.size + 1) 0 (by simp)
    have k1 := hcc (w.heap.size + 1) 1 (by simp)
    have k2 := hcc (w.heap.size + 1) 2 (by simp)
    have k3 := hcc (w.heap.size + 1) 3 (by simp)
    have k4 := hcc (w.heap.size + 1) 4 (by simp)
    simp [go_sem] at k0 k1 k2 k3 k4
    have hBw : Bw w w2 := (by repeat first|exact br _|assumption|apply bd|apply bn|apply ba|refine bt ?_ (by assumption))
    have Hbl := qJ hbl
    clear hbl
    clear hcx ea hown hml
    go_wp2_with fail
    go_region
    go_wp2_with fail
    refine bodyPost_ret (v := (⟨5, a, 0, 0, 0⟩ : Nd).val) (by simp [results, Try.results46, go_sem, Nd.val, k0, k1, k2, k3, k4, hz1]) rfl ⟨⟨5, a, 0, 0, 0⟩, rfl, (qK Hfit) _ (by simp [rR]) (.inl rfl) (by intro z hz; simp [qF] at hz; exact ⟨a, hz, ha, hca⟩), ?_⟩
    refine Bw.drew ?_
    refine Bw.alloc ?_ _
    iterate 5 refine Bw.setCell ?_ (by simp only; omega) _
    exact hBw
  · have hp := (qK Hpos) (by omega)
    go_enter Try.func46, Try.ntmps46
    go_wp2_with (go_at_call 73; refine (yW ns _ _ _ n _ (hn.below (by repeat first|exact br _|assumption|apply bd|apply bn|apply ba|refine bt ?_ (by assumption))) hg hnl).mono ?_; rintro e w' ⟨v, rfl, hown, hbl⟩; obtain ⟨la, lc, rfl, hx, hml⟩ := hown.form; obtain ⟨hcc, hff⟩ := qX hbl; have hz0 : w.heap.size < w'.heap.size := (by have := hbl.size; (try simp at this); omega); have hz1 : w.heap.size + 1 < w'.heap.size := (by have := hbl.size; (try simp at this); omega); have hz2 : w.heap.size + 2 < w'.heap.size := (by have := hbl.size; (try simp at this); omega))
    refine (vL _ _ _ (by omega) (by omega) (by omega) (by omega)).mono ?_
    rintro e w2 ⟨rfl, rfl⟩
    obtain ⟨hi1, hi2⟩ := jC xa (n := ((zT ns n ns.length).length : Int)) (by omega)
    generalize jT xa ((zT ns n ns.length).length : Int) = pk at hi1 hi2
    obtain ⟨i, rfl⟩ := Int.eq_ofNat_of_zero_le hi1
    obtain ⟨bl, ol, rfl, hbl2, hcx⟩ := hx i (by omega)
    have hcx1 := hcx i (by omega)
    obtain ⟨a, ea, ha, hca⟩ := (qK Hmem) i (by omega)
    rw [ea] at hcx1
    have k0 := hcc (w.heap.size + 1) 0 (by simp)
    have k1 := hcc (w.heap.size + 1) 1 (by simp)
    have k2 := hcc (w.heap.size + 1) 2 (by simp)
    have k3 := hcc (w.heap.size + 1) 3 (by simp)
    have k4 := hcc (w.heap.size + 1) 4 (by simp)
    simp [go_sem] at k0 k1 k2 k3 k4
    have hBw : Bw w w2 := (by repeat first|exact br _|assumption|apply bd|apply bn|apply ba|refine bt ?_ (by assumption))
    have Hbl := qJ hbl
    clear hbl
    clear hcx ea hown hml
    go_wp2_with fail
    go_region
    go_wp2_with fail
    refine (vL _ _ _ (zH _).1 (zH _).2 (by omega) (by omega)).mono ?_
    rintro e w3 ⟨rfl, rfl⟩
    obtain ⟨p1, p2⟩ := jC (wrap64 (xk - 1)) (n := 8) (by omega)
    generalize jT (wrap64 (xk - 1)) 8 = pk2 at p1 p2
    go_wp2_with fail
    refine bodyPost_ret (v := (⟨6, a, 0, 1 + pk2, 0⟩ : Nd).val) (by simp [results, Try.results46, go_sem, Nd.val, k0, k1, k2, k3, k4, hz1]) rfl ⟨⟨6, a, 0, 1 + pk2, 0⟩, rfl, (qK Hfit) _ (by simp [rR]; omega) (.inl rfl) (by intro z hz; simp [qF] at hz; exact ⟨a, hz, ha, hca⟩), ?_⟩
    refine Bw.drew ?_
    refine Bw.alloc ?_ _
    iterate 5 refine Bw.setCell ?_ (by simp only; omega) _
    exact hBw
  · have hp := (qK Hpos) (by omega)
    go_enter Try.func46, Try.ntmps46
    go_wp2_with (go_at_call 73; refine (yW ns _ _ _ n _ (hn.below (by repeat first|exact br _|assumption|apply bd|apply bn|apply ba|refine bt ?_ (by assumption))) hg hnl).mono ?_; rintro e w' ⟨v, rfl, hown, hbl⟩; obtain ⟨la, lc, rfl, hx, hml⟩ := hown.form; obtain ⟨hcc, hff⟩ := qX hbl; have hz0 : w.heap.size < w'.heap.size := (by have := hbl.size; (try simp at this); omega); have hz1 : w.heap.size + 1 < w'.heap.size := (by have := hbl.size; (try simp at this); omega); have hz2 : w.heap.size + 2 < w'.heap.size := (by have := hbl.size; (try simp at this); omega))
    refine (vL _ _ _ (by omega) (by omega) (by omega) (by omega)).mono ?_
    rintro e w2 ⟨rfl, rfl⟩
    obtain ⟨hi1, hi2⟩ := jC xa (n := ((zT ns n ns.length).length : Int)) (by omega)
    generalize jT xa ((zT ns n ns.length).length : Int) = pk at hi1 hi2
    obtain ⟨i, rfl⟩ := Int.eq_ofNat_of_zero_le hi1
    obtain ⟨bl, ol, rfl, hbl2, hcx⟩ := hx i (by omega)
    have hcx1 := hcx i (by omega)
    obtain ⟨a, ea, ha, hca⟩ := (qK Hmem) i (by omega)
    rw [ea] at hcx1
    have k0 := hcc (w.heap.size + 1) 0 (by simp)
    have k1 := hcc (w.heap.size + 1) 1 (by simp)
    have k2 := hcc (w.heap.size + 1) 2 (by simp)
    have k3 := hcc (w.heap.size + 1) 3 (by simp)
    have k4 := hcc (w.heap.size + 1) 4 (by simp)
    simp [go_sem] at k0 k1 k2 k3 k4
    have hBw : Bw w w2 := (by repeat first|exact br _|assumption|apply bd|apply bn|apply ba|refine bt ?_ (by assumption))
    have Hbl := qJ hbl
    clear hbl
    clear hcx ea hown hml
    go_wp2_with fail
    go_region
    go_wp2_with fail
    refine bodyPost_ret (v := (⟨7, a, 0, 0, 0⟩ : Nd).val) (by simp [results, Try.results46, go_sem, Nd.val, k0, k1, k2, k3, k4, hz1]) rfl ⟨⟨7, a, 0, 0, 0⟩, rfl, (qK Hfit) _ (by simp [rR]) (.inl rfl) (by intro z hz; simp [qF] at hz; exact ⟨a, hz, ha, hca⟩), ?_⟩
    refine Bw.drew ?_
    refine Bw.alloc ?_ _
    iterate 5 refine Bw.setCell ?_ (by simp only; omega) _
    exact hBw
theorem tmod_neg {v k : Int} (hv : v < 0) : v.tmod k = -((-v) % k) := by
  have : v = -(-v) := by omega
  rw [this, Int.neg_tmod, Int.tmod_eq_emod_of_nonneg (by omega)]
  simp
theorem rest_neg0 {v k : Int} (h : (-v) % k = 0) : v % k = 0 := by
  have := Int.emod_add_mul_ediv (-v) k
  have h2 : v = k * (-((-v) / k)) := by rw [Int.mul_neg]; omega
  rw [h2]; exact Int.mul_emod_right _ _
theorem rest_neg {v k : Int} (hk : 0 < k) (h : (-v) % k ≠ 0) : v % k = k - (-v) % k := by
  have e := Int.emod_add_mul_ediv (-v) k
  have b1 := Int.emod_nonneg (-v) (b := k) (by omega)
  have b2 := Int.emod_lt_of_pos (-v) hk
  have h2 : v = (k - (-v) % k) + k * (-((-v) / k) - 1) := by
    rw [Int.mul_sub, Int.mul_neg]; omega
  conv => lhs; rw [h2]
  rw [Int.add_mul_emod_self_left]
  exact Int.emod_eq_of_lt (by omega) (by omega)
set_option maxHeartbeats 1000000 in
theorem tL (v k : Int) (w : World) (h1 : 1 ≤ k) (h2 : k ≤ 1000) :
    Calls Try.prog 152 #[.int .i64 v, .int .i64 k] w fun e w' => e = .returned (.int .i64 (v % k)) ∧ w' = w := by
  have hk0 : (k == 0) = false := by simp; omega
  have hkm : ¬ k = -1 := by omega
  have hkl : ¬ k ≤ 0 := by omega
  by_cases hv : v < 0
  · have e1 := tmod_neg (k := k) hv
    have b1 := Int.emod_nonneg (-v) (b := k) (by omega)
    have b2 := Int.emod_lt_of_pos (-v) (b := k) (by omega)
    have H0 := qJ (rest_neg0 (v := v) (k := k))
    have H1 := qJ (rest_neg (v := v) (k := k) (by omega))
    go_enter Try.func152, Try.ntmps152
    go_wp2
    · go_ret
      exact ⟨kN (by rw [(qK H1) (by omega)]; omega), rfl⟩
    · go_ret
      exact ⟨kN (by rw [(qK H0) (by omega)]; omega), rfl⟩
  · have e1 : v.tmod k = v % k := Int.tmod_eq_emod_of_nonneg (by omega)
    have b1 := Int.emod_nonneg v (b := k) (by omega)
    have b2 := Int.emod_lt_of_pos v (b := k) (by omega)
    go_enter Try.func152, Try.ntmps152
    go_wp2
    go_ret
    exact ⟨rfl, rfl⟩
theorem wS {l : List Int} {k : Nat} (h : k < l.length) : l.take (k + 1) = l.take k ++ [kC l k] := by
  rw [List.take_succ_eq_append_getElem h, jL h]
theorem Own.slice {W w : World} {v : Value} {xs : List Int} (h : Own W w v xs) : ∃ ad cap, v = .slice ad xs.length cap ∧ xs.length ≤ cap := by
  obtain ⟨hl, h'⟩ := id h
  rcases h' with ⟨e, h0⟩ | ⟨g, cap, cur, e, hg, hc, h1, h2, h3, h4⟩
  · exact ⟨none, 0, by rw [e, h0], by omega⟩
  · exact ⟨_, cap, e, h1⟩
theorem src_none (ad : Option Addr) (c : Nat) (w : World) : Src Try.prog 1 26 (.slice ad 0 c) 0 [] w where
  kind := .inl ⟨_, Try.underlying26⟩
  len := fun w' => by simp [Builtin.lenOf]
  cells := by cases ad <;> simp [Builtin.firstCells, loadCells, loadCellsFrom]
  cellsD := by cases ad <;> simp [Builtin.firstCells, loadCells, loadCellsFrom]
  newsLen := rfl
  one := by simp
theorem appA {ops : Array Oper} {rest : List Oper} {o : Oper} {a : Act} {Q : Exit → Act → World → Prop} (w : World) (hgd : o.guard = none) (s x : Operand)
    (ho : o.op = .call { callee := .builtin .append, args := #[s, x], argTypes := #[26, 26] }) (W : World) (v : Value) (xs : List Int) (hs : a.eval s = v) (hown : Own W w v xs)
    (ad : Option Addr) (c : Nat) (ys : List Int) (hx : a.eval x = .slice ad ys.length c) (hy : IntsAt w ad ys) (hlen : xs.length + ys.length ≤ 1000000) (hB : Bw W w)
    (h : ∀ v' w', Own W w' v' (xs ++ ys) → Bw W w' → wpList Try.prog ops Q rest (a.put o.dst v') w') : wpList Try.prog ops Q (o :: rest) a w := by
  by_cases hpos : 0 < ys.length
  · exact appN w hgd s x ho W v xs hs hown ad c ys hx hy hpos hlen hB fun v' w' h1 h2 _ => h v' w' h1 h2
  · have h0 : ys = [] := List.eq_nil_of_length_eq_zero (by omega)
    subst h0
    obtain ⟨i0, hi, hz0, hz1, hz2⟩ := info_parts Try.infoInt
    obtain ⟨va, vc, rfl, hvc⟩ := hown.slice
    have hr := run_append_nothing (P := Try.prog) w 26 26 o.type 3 i0 Try.underlying26 hi va xs.length vc hvc (.slice ad 0 c) (by rw [hz1]; exact src_none ad c w)
    refine wpList_plain hgd fun _ hK => ?_
    unfold Oper.wp execOp
    simp only [List.length_nil] at hx
    simp only [ho, resolve, invoke, builtin, Sem.run_bind, Sem.run_pure, Result.andThen_ok, List.map_toArray, List.map_cons, List.map_nil, hs, hx, hr]
    exact hK _ _ (h _ w (by rw [List.append_nil]; exact hown) hB)
theorem hasB_iff {xs : List Int} {n : Int} : jF xs n = true ↔ n ∈ xs := by simp [jF]
theorem hasB_false {xs : List Int} {n : Int} : jF xs n = false ↔ n ∉ xs := by rw [← Bool.not_eq_true, hasB_iff]
theorem fR : ∀ {xs ys : List Int}, xs.Nodup → (∀ x ∈ xs, x ∈ ys) → xs.length ≤ ys.length := by
  intro xs
  induction xs with
  | nil => intro ys _ _; simp
  | cons x l ih =>
    intro ys hn hs
    have hx : x ∈ ys := hs x (by simp)
    have := ih (ys := ys.erase x) (List.nodup_cons.1 hn).2 (by
      intro y hy
      have hne : y ≠ x := by intro e; subst e; exact (List.nodup_cons.1 hn).1 hy
      exact (List.mem_erase_of_ne hne).2 (hs y (by simp [hy])))
    rw [List.length_erase_of_mem hx] at this
    have hpos : 0 < ys.length := List.length_pos_of_mem hx
    simp; omega
def dY (n : Nat) : List Int := (List.range n).map Int.ofNat
theorem mem_upto {n : Nat} {z : Int} : z ∈ dY n ↔ 0 ≤ z ∧ z < n := by
  unfold dY
  rw [List.mem_map]
  constructor
  · rintro ⟨k, hk, rfl⟩; rw [List.mem_range] at hk; simp; omega
  · rintro ⟨h0, h1⟩; exact ⟨z.toNat, List.mem_range.2 (by omega), by simp; omega⟩
theorem upto_len (n : Nat) : (dY n).length = n := by simp [dY]
theorem upto_nodup (n : Nat) : (dY n).Nodup := by
  unfold dY
  rw [List.nodup_iff_pairwise_ne] at *
  rw [List.pairwise_map]
  exact List.Pairwise.imp (fun h e => h (Int.ofNat.inj e)) (List.nodup_iff_pairwise_ne.1 List.nodup_range)
structure OrdOk (ns : List Nd) (o : List Int) : Prop where
  nodup : o.Nodup
  range : ∀ z ∈ o, 0 ≤ z ∧ z < ns.length
  before : ∀ i, i < o.length → jK (o.take i) (qV ns (kC o i).toNat) = true
theorem OrdOk.nil (ns : List Nd) : OrdOk ns [] := ⟨List.nodup_nil, by simp, by simp⟩
theorem OrdOk.snoc {ns : List Nd} {o : List Int} (h : OrdOk ns o) {k : Nat} (hk : k < ns.length) (h1 : jF o k = false) (h2 : jK o (qV ns k) = true) : OrdOk ns (o ++ [(k : Int)]) := by
  refine ⟨?_, ?_, ?_⟩
  · rw [List.nodup_append]
    refine ⟨h.nodup, by simp, ?_⟩
    intro a ha b hb e
    simp at hb
    subst hb; subst e
    exact hasB_false.1 h1 ha
  · intro z hz
    rw [List.mem_append] at hz
    rcases hz with hz | hz
    · exact h.range z hz
    · simp at hz; subst hz; omega
  · intro i hi
    by_cases e : i < o.length
    · rw [List.take_append_of_le_length (by omega), jL hi, List.getElem_append_left e, ← jL e]
      exact h.before i e
    · simp at hi
      have : i = o.length := by omega
      subst this
      rw [jL (by simp), List.take_left]
      simpa using h2
theorem passTo_ok {ns : List Nd} {o : List Int} (h : OrdOk ns o) : ∀ k, k ≤ ns.length → OrdOk ns (kM ns o k) := by
  intro k hk
  induction k with
  | zero => exact h
  | succ k ih =>
    have ih := ih (by omega)
    cases h1 : jF (kM ns o k) k with
    | true => rw [nS h1]; exact ih
    | false =>
      cases h2 : jK (kM ns o k) (qV ns k) with
      | false => rw [nR h2]; exact ih
      | true => rw [gX h1 h2]; exact ih.snoc (by omega) h1 h2
theorem ordTo_ok (ns : List Nd) (p : Nat) : OrdOk ns (vM ns p) := by
  induction p with
  | zero => exact OrdOk.nil ns
  | succ p ih => unfold vM; exact passTo_ok ih _ (Nat.le_refl _)
def Fix (ns : List Nd) (o : List Int) : Prop := ∀ k, k < ns.length → jF o k = true ∨ jK o (qV ns k) = false
theorem passTo_fix {ns : List Nd} {o : List Int} (h : Fix ns o) : ∀ k, k ≤ ns.length → kM ns o k = o := by
  intro k hk
  induction k with
  | zero => rfl
  | succ k ih =>
    have ih := ih (by omega)
    rcases h k (by omega) with h1 | h1
    · rw [nS (by rw [ih]; exact h1), ih]
    · rw [nR (by rw [ih]; exact h1), ih]
theorem bZ (ns : List Nd) (o : List Int) (k : Nat) : o.length ≤ (kM ns o k).length := by
  induction k with
  | zero => exact Nat.le_refl _
  | succ k ih =>
    unfold kM; split
    · simp; omega
    · exact ih
theorem passTo_same {ns : List Nd} {o : List Int} : ∀ k, (kM ns o k).length = o.length → kM ns o k = o ∧ ∀ j, j < k → jF o j = true ∨ jK o (qV ns j) = false := by
  intro k
  induction k with
  | zero => intro _; exact ⟨rfl, by intro j hj; omega⟩
  | succ k ih =>
    intro hl
    have hm := bZ ns o k
    cases h1 : jF (kM ns o k) k with
    | true =>
      rw [nS h1] at hl ⊢
      obtain ⟨e, hj⟩ := ih hl
      refine ⟨e, fun j hjk => ?_⟩
      by_cases ej : j = k
      · subst ej; rw [e] at h1; exact .inl h1
      · exact hj j (by omega)
    | false =>
      cases h2 : jK (kM ns o k) (qV ns k) with
      | false =>
        rw [nR h2] at hl ⊢
        obtain ⟨e, hj⟩ := ih hl
        refine ⟨e, fun j hjk => ?_⟩
        by_cases ej : j = k
        · subst ej; rw [e] at h2; exact .inr h2
        · exact hj j (by omega)
      | true =>
        rw [gX h1 h2] at hl
        simp at hl; omega
theorem ordTo_fix (ns : List Nd) (p : Nat) : p ≤ (vM ns p).length ∨ Fix ns (vM ns p) := by
  induction p with
  | zero => exact .inl (Nat.zero_le _)
  | succ p ih =>
    unfold vM
    have hm := bZ ns (vM ns p) ns.length
    by_cases e : (kM ns (vM ns p) ns.length).length = (vM ns p).length
    · obtain ⟨e1, hf⟩ := passTo_same _ e
      rw [e1]; exact .inr hf
    · rcases ih with ih | ih
      · exact .inl (by omega)
      · exact absurd (by rw [passTo_fix ih _ (Nat.le_refl _)]) e
theorem order_all {ns : List Nd} (h : ¬ (vW ns).length < ns.length) : ∀ k, k < ns.length → jF (vW ns) k = true := by
  intro k hk
  cases hh : jF (vW ns) k with
  | true => rfl
  | false =>
    have ok := ordTo_ok ns ns.length
    have := fR (xs := (k : Int) :: vW ns) (ys := dY ns.length) (List.nodup_cons.2 ⟨hasB_false.1 hh, ok.nodup⟩) (by
      intro z hz
      rw [List.mem_cons] at hz
      rcases hz with rfl | hz
      · exact mem_upto.2 (by omega)
      · exact mem_upto.2 (ok.range z hz))
    rw [upto_len] at this
    simp at this
    omega
theorem order_some {ns : List Nd} (h : (vW ns).length < ns.length) : ∃ k, k < ns.length ∧ jF (vW ns) k = false := by
  by_cases hx : ∃ k, k < ns.length ∧ jF (vW ns) k = false
  · exact hx
  · have := fR (xs := dY ns.length) (ys := vW ns) (upto_nodup _) (by
      intro z hz
      obtain ⟨h0, h1⟩ := mem_upto.1 hz
      cases hh : jF (vW ns) z with
      | true => exact hasB_iff.1 hh
      | false => exact absurd ⟨z.toNat, by omega, by rw [Int.toNat_of_nonneg h0]; exact hh⟩ hx)
    rw [upto_len] at this
    omega
theorem order_fix {ns : List Nd} (h : (vW ns).length < ns.length) : Fix ns (vW ns) := by
  rcases ordTo_fix ns ns.length with h1 | h1
  · unfold vW at h; omega
  · exact h1
theorem dB_lo {ns : List Nd} {x : Int} {f : Int → Int} {k : Nat} (hf : ∀ y, -1 ≤ f y) : -1 ≤ dB ns x f k := by
  have := hf k
  unfold dB; split
  · omega
  · split <;> omega
theorem leastB_lo (ns : List Nd) (x : Int) (s : Nat) : ∀ n, -1 ≤ yS ns x s n := fun n => (leastB_bd ns x s n).1
def vF (o : List Int) (z : Int) : Nat := o.idxOf z
theorem rank_take {o : List Int} {z : Int} {i : Nat} (h : z ∈ o.take i) : vF o z < i := by
  unfold vF
  have h1 : List.idxOf z (o.take i) < (o.take i).length := List.idxOf_lt_length_iff.2 h
  have h2 : List.idxOf z o = List.idxOf z (o.take i) := by
    conv => lhs; rw [← List.take_append_drop i o]
    rw [List.idxOf_append, if_pos h]
  rw [h2]
  rw [List.length_take] at h1
  omega
theorem rank_lt {ns : List Nd} {o : List Int} (ok : OrdOk ns o) {y : Nat} {n : Int} (hy : jF o y = true) (ht : qL (qV ns y) n = true) (h4 : (qV ns y).kind ≠ 4) : vF o n < vF o y := by
  have hm := hasB_iff.1 hy
  have hr : vF o y < o.length := List.idxOf_lt_length_iff.2 hm
  have hb := ok.before (vF o y) hr
  have he : kC o (vF o y) = y := by rw [jL hr]; exact List.getElem_idxOf hr
  rw [he, Int.toNat_natCast] at hb
  refine rank_take (hasB_iff.1 ?_)
  unfold qL at ht
  unfold jK at hb
  simp at ht hb
  rcases hb with (hb | hb) | hb
  · exact absurd hb ht.1
  · exact absurd hb h4
  · split at hb
    · rename_i h3
      rcases ht.2 with h | ⟨_, h⟩
      · rw [← h]; exact hb.1
      · rw [← h]; exact hb.2
    · rename_i h3
      rcases ht.2 with h | ⟨h, _⟩
      · rw [← h]; exact hb
      · exact absurd h h3
end Go.Proofs.Ytfemleimkbjehaa
