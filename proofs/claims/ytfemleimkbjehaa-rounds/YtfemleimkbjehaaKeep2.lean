import Derived.Test.YtfemleimkbjehaaKeep1
namespace Go.Proofs.Ytfemleimkbjehaa
open Go.RowKit

theorem wrap64_bd (n : Int) : -9223372036854775808 ≤ wrap64 n ∧ wrap64 n ≤ 9223372036854775807 := by unfold wrap64; omega

theorem nth_ne {xs : List Int} (h : xs.Nodup) {i j : Nat} (hi : i < xs.length) (hj : j < xs.length) (hij : i ≠ j) : nth xs i ≠ nth xs j := by
  rw [nth_lt hi, nth_lt hj]
  intro e
  exact hij ((List.getElem_inj h).1 e)

structure FitNode (ns : List Nd) (n : Nat) (y : Nd) : Prop where
  pre : preB y = true
  kind : y.kind = (ndn ns n).kind ∨ ((ndn ns n).kind = 3 ∧ y.kind = 1)
  inp : ∀ z ∈ inputsL y, ∃ a : Nat, z = a ∧ a < ns.length ∧ chB ns n a = true

def I64 (z : Int) : Prop := -9223372036854775808 ≤ z ∧ z ≤ 9223372036854775807
def Nd.wf (x : Nd) : Prop := I64 x.kind ∧ I64 x.a ∧ I64 x.b ∧ I64 x.k ∧ I64 x.m

set_option maxRecDepth 100000 in
set_option maxHeartbeats 4000000 in
theorem fitted_any (ns : List Nd) (ga : Option Addr) (gc : Nat) (r : Int) (n : Nat) (w : World) (hn : NodesAt w ga ns) (hg : ns.length ≤ 8) (hnl : n < ns.length)
    (hw : (ndn ns n).wf) (hk0 : 0 ≤ (ndn ns n).kind) (hk7 : (ndn ns n).kind ≤ 7) (h0 : (ndn ns 0).kind = 0) :
    Calls Try.prog 46 #[.agg #[.slice ga ns.length gc, .int .i64 r], .int .i64 (n : Int)] w fun e w' => ∃ y : Nd, e = .returned y.val ∧ FitNode ns n y ∧ Bw w w' := by
  obtain ⟨b, off, rfl, hb, hc⟩ := hn n hnl
  obtain ⟨c0, c1, c2, c3, c4⟩ := hc n hnl
  clear hc
  have n1 : (0 : Int) ≤ (n : Int) := by omega
  have n2 : (n : Int) < (ns.length : Int) := by omega
  have hcl := chTo_len ns n ns.length
  have hpos : (ndn ns n).kind ≠ 0 → 0 < (chTo ns n ns.length).length := by
    intro hk
    refine List.length_pos_of_mem (chTo_has (ns := ns) (n := n) ns.length 0 (by omega) ?_)
    have hn0 : 0 < n := by
      by_cases e : n = 0
      · subst e; exact absurd h0 hk
      · omega
    unfold chB
    rw [h0]
    simp [hn0]
  have hmem : ∀ i, i < (chTo ns n ns.length).length → ∃ a : Nat, nth (chTo ns n ns.length) i = a ∧ a < ns.length ∧ chB ns n a = true := by
    intro i hi
    obtain ⟨a, e, ha, hc⟩ := chTo_mem ns.length (nth (chTo ns n ns.length) i) (by rw [nth_lt hi]; exact List.getElem_mem hi)
    exact ⟨a, e, ha, hc⟩
  have Hpos := hide hpos
  have Hmem := hide hmem
  have Hfit : Hid (∀ y : Nd, preB y = true → (y.kind = (ndn ns n).kind ∨ ((ndn ns n).kind = 3 ∧ y.kind = 1)) → (∀ z ∈ inputsL y, ∃ a : Nat, z = a ∧ a < ns.length ∧ chB ns n a = true) → FitNode ns n y) := hide (fun y a b c => ⟨a, b, c⟩)
  clear hpos hmem h0
  generalize hnd : ndn ns n = x at c0 c1 c2 c3 c4 hw hk0 hk7 Hpos Hfit
  obtain ⟨κ, xa, xb, xk, xm⟩ := x
  simp only at c0 c1 c2 c3 c4 hk0 hk7 Hpos Hfit
  obtain ⟨_, ⟨wa1, wa2⟩, ⟨wb1, wb2⟩, _, ⟨wm1, wm2⟩⟩ := hw
  simp only at wa1 wa2 wb1 wb2 wm1 wm2
  clear hnd
  have h8 : κ = 0 ∨ κ = 1 ∨ κ = 2 ∨ κ = 3 ∨ κ = 4 ∨ κ = 5 ∨ κ = 6 ∨ κ = 7 := by omega
  clear hk0 hk7
  rcases h8 with rfl | rfl | rfl | rfl | rfl | rfl | rfl | rfl
  · go_enter Try.func46, Try.ntmps46
    go_wp2_with fail
    refine bodyPost_ret (v := (⟨0, 0, 0, 0, 0⟩ : Nd).val) (by simp [results, Try.results46, go_sem, Nd.val]) rfl ⟨⟨0, 0, 0, 0, 0⟩, rfl, (unhide Hfit) _ rfl (.inl rfl) (by simp [inputsL]), ?_⟩
    exact (by repeat (first | exact Bw.refl _ | assumption | refine Bw.drew ?_ | refine Bw.drewN ?_ _ | refine Bw.alloc ?_ _ | refine Bw.trans ?_ (by assumption)))
  · have hp := (unhide Hpos) (by omega)
    go_enter Try.func46, Try.ntmps46
    go_wp2_with (go_at_call 73; refine (choices_any ns _ _ _ n _ (hn.below (by repeat (first | exact Bw.refl _ | assumption | refine Bw.drew ?_ | refine Bw.drewN ?_ _ | refine Bw.alloc ?_ _ | refine Bw.trans ?_ (by assumption)))) hg hnl).mono ?_; rintro e w' ⟨v, rfl, hown, hbl⟩; obtain ⟨la, lc, rfl, hx, hml⟩ := hown.form; obtain ⟨hcc, hff⟩ := bcell hbl; have hz0 : w.heap.size < w'.heap.size := (by have := hbl.size; (try simp at this); omega); have hz1 : w.heap.size + 1 < w'.heap.size := (by have := hbl.size; (try simp at this); omega); have hz2 : w.heap.size + 2 < w'.heap.size := (by have := hbl.size; (try simp at this); omega))
    refine (pick_any _ _ _ (by omega) (by omega) (by omega) (by omega)).mono ?_
    rintro e w2 ⟨rfl, rfl⟩
    obtain ⟨hi1, hi2⟩ := pickB_bd xa (n := ((chTo ns n ns.length).length : Int)) (by omega)
    generalize pickB xa ((chTo ns n ns.length).length : Int) = pk at hi1 hi2
    obtain ⟨i, rfl⟩ := Int.eq_ofNat_of_zero_le hi1
    obtain ⟨bl, ol, rfl, hbl2, hcx⟩ := hx i (by omega)
    have hcx1 := hcx i (by omega)
    obtain ⟨a, ea, ha, hca⟩ := (unhide Hmem) i (by omega)
    rw [ea] at hcx1
    have k0 := hcc (w.heap.size + 1) 0 (by simp)
    have k1 := hcc (w.heap.size + 1) 1 (by simp)
    have k2 := hcc (w.heap.size + 1) 2 (by simp)
    have k3 := hcc (w.heap.size + 1) 3 (by simp)
    have k4 := hcc (w.heap.size + 1) 4 (by simp)
    simp [go_sem] at k0 k1 k2 k3 k4
    have hBw : Bw w w2 := (by repeat (first | exact Bw.refl _ | assumption | refine Bw.drew ?_ | refine Bw.drewN ?_ _ | refine Bw.alloc ?_ _ | refine Bw.trans ?_ (by assumption)))
    have Hbl := hide hbl
    clear hbl
    clear hcx ea hown hml
    go_wp2_with fail
    go_region
    go_wp2_with fail
    refine bodyPost_ret (v := (⟨1, a, 0, xk, 0⟩ : Nd).val) (by simp [results, Try.results46, go_sem, Nd.val, k0, k1, k2, k3, k4, hz1]) rfl ⟨⟨1, a, 0, xk, 0⟩, rfl, (unhide Hfit) _ (by simp [preB]) (.inl rfl) (by intro z hz; simp [inputsL] at hz; exact ⟨a, hz, ha, hca⟩), ?_⟩
    refine Bw.drew ?_
    refine Bw.alloc ?_ _
    iterate 5 refine Bw.setCell ?_ (by simp only; omega) _
    exact hBw
  · have hp := (unhide Hpos) (by omega)
    go_enter Try.func46, Try.ntmps46
    go_wp2_with (go_at_call 73; refine (choices_any ns _ _ _ n _ (hn.below (by repeat (first | exact Bw.refl _ | assumption | refine Bw.drew ?_ | refine Bw.drewN ?_ _ | refine Bw.alloc ?_ _ | refine Bw.trans ?_ (by assumption)))) hg hnl).mono ?_; rintro e w' ⟨v, rfl, hown, hbl⟩; obtain ⟨la, lc, rfl, hx, hml⟩ := hown.form; obtain ⟨hcc, hff⟩ := bcell hbl; have hz0 : w.heap.size < w'.heap.size := (by have := hbl.size; (try simp at this); omega); have hz1 : w.heap.size + 1 < w'.heap.size := (by have := hbl.size; (try simp at this); omega); have hz2 : w.heap.size + 2 < w'.heap.size := (by have := hbl.size; (try simp at this); omega))
    refine (pick_any _ _ _ (by omega) (by omega) (by omega) (by omega)).mono ?_
    rintro e w2 ⟨rfl, rfl⟩
    obtain ⟨hi1, hi2⟩ := pickB_bd xa (n := ((chTo ns n ns.length).length : Int)) (by omega)
    generalize pickB xa ((chTo ns n ns.length).length : Int) = pk at hi1 hi2
    obtain ⟨i, rfl⟩ := Int.eq_ofNat_of_zero_le hi1
    obtain ⟨bl, ol, rfl, hbl2, hcx⟩ := hx i (by omega)
    have hcx1 := hcx i (by omega)
    obtain ⟨a, ea, ha, hca⟩ := (unhide Hmem) i (by omega)
    rw [ea] at hcx1
    have k0 := hcc (w.heap.size + 1) 0 (by simp)
    have k1 := hcc (w.heap.size + 1) 1 (by simp)
    have k2 := hcc (w.heap.size + 1) 2 (by simp)
    have k3 := hcc (w.heap.size + 1) 3 (by simp)
    have k4 := hcc (w.heap.size + 1) 4 (by simp)
    simp [go_sem] at k0 k1 k2 k3 k4
    have hBw : Bw w w2 := (by repeat (first | exact Bw.refl _ | assumption | refine Bw.drew ?_ | refine Bw.drewN ?_ _ | refine Bw.alloc ?_ _ | refine Bw.trans ?_ (by assumption)))
    have Hbl := hide hbl
    clear hbl
    clear hcx ea hown hml
    go_wp2_with fail
    go_region
    go_wp2_with fail
    refine (pick_any _ _ _ (wrap64_bd _).1 (wrap64_bd _).2 (by omega) (by omega)).mono ?_
    rintro e w3 ⟨rfl, rfl⟩
    obtain ⟨p1, p2⟩ := pickB_bd (wrap64 (xk - 1)) (n := 100) (by omega)
    generalize pickB (wrap64 (xk - 1)) 100 = pk2 at p1 p2
    go_wp2_with fail
    refine (pick_any _ _ _ (by omega) (by omega) (by omega) (by omega)).mono ?_
    rintro e w4 ⟨rfl, rfl⟩
    obtain ⟨p3, p4⟩ := pickB_bd xm (n := 1 + pk2) (by omega)
    generalize pickB xm (1 + pk2) = pk3 at p3 p4
    go_wp2_with fail
    refine bodyPost_ret (v := (⟨2, a, 0, 1 + pk2, pk3⟩ : Nd).val) (by simp [results, Try.results46, go_sem, Nd.val, k0, k1, k2, k3, k4, hz1]) rfl ⟨⟨2, a, 0, 1 + pk2, pk3⟩, rfl, (unhide Hfit) _ (by simp [preB]; omega) (.inl rfl) (by intro z hz; simp [inputsL] at hz; exact ⟨a, hz, ha, hca⟩), ?_⟩
    refine Bw.drew ?_
    refine Bw.alloc ?_ _
    iterate 5 refine Bw.setCell ?_ (by simp only; omega) _
    exact hBw
  · have hp := (unhide Hpos) (by omega)
    go_enter Try.func46, Try.ntmps46
    go_wp2_with (go_at_call 73; refine (choices_any ns _ _ _ n _ (hn.below (by repeat (first | exact Bw.refl _ | assumption | refine Bw.drew ?_ | refine Bw.drewN ?_ _ | refine Bw.alloc ?_ _ | refine Bw.trans ?_ (by assumption)))) hg hnl).mono ?_; rintro e w' ⟨v, rfl, hown, hbl⟩; obtain ⟨la, lc, rfl, hx, hml⟩ := hown.form; obtain ⟨hcc, hff⟩ := bcell hbl; have hz0 : w.heap.size < w'.heap.size := (by have := hbl.size; (try simp at this); omega); have hz1 : w.heap.size + 1 < w'.heap.size := (by have := hbl.size; (try simp at this); omega); have hz2 : w.heap.size + 2 < w'.heap.size := (by have := hbl.size; (try simp at this); omega))
    refine (pick_any _ _ _ (by omega) (by omega) (by omega) (by omega)).mono ?_
    rintro e w2 ⟨rfl, rfl⟩
    obtain ⟨hi1, hi2⟩ := pickB_bd xa (n := ((chTo ns n ns.length).length : Int)) (by omega)
    generalize pickB xa ((chTo ns n ns.length).length : Int) = pk at hi1 hi2
    obtain ⟨i, rfl⟩ := Int.eq_ofNat_of_zero_le hi1
    obtain ⟨bl, ol, rfl, hbl2, hcx⟩ := hx i (by omega)
    have hcx1 := hcx i (by omega)
    obtain ⟨a, ea, ha, hca⟩ := (unhide Hmem) i (by omega)
    rw [ea] at hcx1
    have k0 := hcc (w.heap.size + 1) 0 (by simp)
    have k1 := hcc (w.heap.size + 1) 1 (by simp)
    have k2 := hcc (w.heap.size + 1) 2 (by simp)
    have k3 := hcc (w.heap.size + 1) 3 (by simp)
    have k4 := hcc (w.heap.size + 1) 4 (by simp)
    simp [go_sem] at k0 k1 k2 k3 k4
    have hBw : Bw w w2 := (by repeat (first | exact Bw.refl _ | assumption | refine Bw.drew ?_ | refine Bw.drewN ?_ _ | refine Bw.alloc ?_ _ | refine Bw.trans ?_ (by assumption)))
    have Hbl := hide hbl
    clear hbl
    have Hcx := hide hcx
    have Hnd := hide (chTo_nodup ns n ns.length)
    have Hea := hide ea
    clear hcx ea hown hml
    by_cases hL1 : (chTo ns n ns.length).length = 1
    · have hi0 : i = 0 := by omega
      subst hi0
      rw [Nat.add_zero] at hcx1
      have hL2 : (((chTo ns n ns.length).length : Int) == 1) = true := by simp [hL1]
      have hL3 : 0 < (chTo ns n ns.length).length := by omega
      have HL1 := hide hL1
      clear hL1
      go_wp2_with fail
      go_region
      go_wp2_with fail
      refine bodyPost_ret (v := (⟨1, a, 0, 0, 0⟩ : Nd).val) (by simp [results, Try.results46, go_sem, Nd.val, k0, k1, k2, k3, k4, hz1]) rfl ⟨⟨1, a, 0, 0, 0⟩, rfl, (unhide Hfit) _ (by simp [preB]) (.inr ⟨trivial, rfl⟩) (by intro z hz; simp [inputsL] at hz; exact ⟨a, hz, ha, hca⟩), ?_⟩
      refine Bw.drew ?_
      refine Bw.alloc ?_ _
      iterate 5 refine Bw.setCell ?_ (by simp only; omega) _
      exact hBw
    · have hL2 : (((chTo ns n ns.length).length : Int) == 1) = false := by simp; omega
      have HL1 := hide hL1
      clear hL1
      go_wp2_with fail
      go_region
      go_wp2_with fail
      refine (pick_any _ _ _ (by omega) (by omega) (by omega) (by omega)).mono ?_
      rintro e w3 ⟨rfl, rfl⟩
      obtain ⟨p1, p2⟩ := pickB_bd xb (n := ((chTo ns n ns.length).length : Int)) (by omega)
      generalize pickB xb ((chTo ns n ns.length).length : Int) = pk2 at p1 p2
      obtain ⟨j, rfl⟩ := Int.eq_ofNat_of_zero_le p1
      by_cases hji : j = i
      · subst hji
        have hL4 := unhide HL1
        by_cases hend : j + 1 = (chTo ns n ns.length).length
        · have hc2 := (unhide Hcx) 0 (by omega)
          obtain ⟨a2, ea2, ha2, hca2⟩ := (unhide Hmem) 0 (by omega)
          have Hne : Hid (¬ (a : Int) = a2) := hide <| by
            rw [← unhide Hea, ← ea2]
            exact nth_ne (unhide Hnd) (by omega) (by omega) (by omega)
          rw [ea2, Nat.add_zero] at hc2
          have hmod : ((j : Int) + 1) % ((chTo ns n ns.length).length : Int) = 0 := by rw [← hend]; simp
          clear ea2 hend hL4
          go_wp2_with fail
          refine bodyPost_ret (v := (⟨3, a, a2, 0, 0⟩ : Nd).val) (by simp [results, Try.results46, go_sem, Nd.val, k0, k1, k2, k3, k4, hz1]) rfl ⟨⟨3, a, a2, 0, 0⟩, rfl, (unhide Hfit) _ (by simp [preB]; have := unhide Hne; omega) (.inl rfl) (by intro z hz; simp [inputsL] at hz; rcases hz with hz | hz <;> first | exact ⟨a, hz, ha, hca⟩ | exact ⟨a2, hz, ha2, hca2⟩), ?_⟩
          refine Bw.drew ?_
          refine Bw.alloc ?_ _
          iterate 5 refine Bw.setCell ?_ (by simp only; omega) _
          exact hBw
        · have hc2 := (unhide Hcx) (j + 1) (by omega)
          obtain ⟨a2, ea2, ha2, hca2⟩ := (unhide Hmem) (j + 1) (by omega)
          have Hne : Hid (¬ (a : Int) = a2) := hide <| by
            rw [← unhide Hea, ← ea2]
            exact nth_ne (unhide Hnd) (by omega) (by omega) (by omega)
          rw [ea2] at hc2
          have hmod : ((j : Int) + 1) % ((chTo ns n ns.length).length : Int) = (j : Int) + 1 := Int.emod_eq_of_lt (by omega) (by omega)
          have hj5 : (j : Int) + 1 < ((chTo ns n ns.length).length : Int) := by omega
          clear ea2 hend hL4
          go_wp2_with fail
          refine bodyPost_ret (v := (⟨3, a, a2, 0, 0⟩ : Nd).val) (by simp [results, Try.results46, go_sem, Nd.val, k0, k1, k2, k3, k4, hz1]) rfl ⟨⟨3, a, a2, 0, 0⟩, rfl, (unhide Hfit) _ (by simp [preB]; have := unhide Hne; omega) (.inl rfl) (by intro z hz; simp [inputsL] at hz; rcases hz with hz | hz <;> first | exact ⟨a, hz, ha, hca⟩ | exact ⟨a2, hz, ha2, hca2⟩), ?_⟩
          refine Bw.drew ?_
          refine Bw.alloc ?_ _
          iterate 5 refine Bw.setCell ?_ (by simp only; omega) _
          exact hBw
      · have hji2 : ((j : Int) == (i : Int)) = false := by simp; omega
        have hc2 := (unhide Hcx) j (by omega)
        obtain ⟨a2, ea2, ha2, hca2⟩ := (unhide Hmem) j (by omega)
        have Hne : Hid (¬ (a : Int) = a2) := hide <| by
          rw [← unhide Hea, ← ea2]
          exact nth_ne (unhide Hnd) (by omega) (by omega) (by omega)
        rw [ea2] at hc2
        clear ea2 hji
        go_wp2_with fail
        refine bodyPost_ret (v := (⟨3, a, a2, 0, 0⟩ : Nd).val) (by simp [results, Try.results46, go_sem, Nd.val, k0, k1, k2, k3, k4, hz1]) rfl ⟨⟨3, a, a2, 0, 0⟩, rfl, (unhide Hfit) _ (by simp [preB]; have := unhide Hne; omega) (.inl rfl) (by intro z hz; simp [inputsL] at hz; rcases hz with hz | hz <;> first | exact ⟨a, hz, ha, hca⟩ | exact ⟨a2, hz, ha2, hca2⟩), ?_⟩
        refine Bw.drew ?_
        refine Bw.alloc ?_ _
        iterate 5 refine Bw.setCell ?_ (by simp only; omega) _
        exact hBw
  · have hp := (unhide Hpos) (by omega)
    go_enter Try.func46, Try.ntmps46
    go_wp2_with (go_at_call 73; refine (choices_any ns _ _ _ n _ (hn.below (by repeat (first | exact Bw.refl _ | assumption | refine Bw.drew ?_ | refine Bw.drewN ?_ _ | refine Bw.alloc ?_ _ | refine Bw.trans ?_ (by assumption)))) hg hnl).mono ?_; rintro e w' ⟨v, rfl, hown, hbl⟩; obtain ⟨la, lc, rfl, hx, hml⟩ := hown.form; obtain ⟨hcc, hff⟩ := bcell hbl; have hz0 : w.heap.size < w'.heap.size := (by have := hbl.size; (try simp at this); omega); have hz1 : w.heap.size + 1 < w'.heap.size := (by have := hbl.size; (try simp at this); omega); have hz2 : w.heap.size + 2 < w'.heap.size := (by have := hbl.size; (try simp at this); omega))
    refine (pick_any _ _ _ (by omega) (by omega) (by omega) (by omega)).mono ?_
    rintro e w2 ⟨rfl, rfl⟩
    obtain ⟨hi1, hi2⟩ := pickB_bd xa (n := ((chTo ns n ns.length).length : Int)) (by omega)
    generalize pickB xa ((chTo ns n ns.length).length : Int) = pk at hi1 hi2
    obtain ⟨i, rfl⟩ := Int.eq_ofNat_of_zero_le hi1
    obtain ⟨bl, ol, rfl, hbl2, hcx⟩ := hx i (by omega)
    have hcx1 := hcx i (by omega)
    obtain ⟨a, ea, ha, hca⟩ := (unhide Hmem) i (by omega)
    rw [ea] at hcx1
    have k0 := hcc (w.heap.size + 1) 0 (by simp)
    have k1 := hcc (w.heap.size + 1) 1 (by simp)
    have k2 := hcc (w.heap.size + 1) 2 (by simp)
    have k3 := hcc (w.heap.size + 1) 3 (by simp)
    have k4 := hcc (w.heap.size + 1) 4 (by simp)
    simp [go_sem] at k0 k1 k2 k3 k4
    have hBw : Bw w w2 := (by repeat (first | exact Bw.refl _ | assumption | refine Bw.drew ?_ | refine Bw.drewN ?_ _ | refine Bw.alloc ?_ _ | refine Bw.trans ?_ (by assumption)))
    have Hbl := hide hbl
    clear hbl
    clear hcx ea hown hml
    go_wp2_with fail
    go_region
    go_wp2_with fail
    refine bodyPost_ret (v := (⟨4, a, 0, 0, 0⟩ : Nd).val) (by simp [results, Try.results46, go_sem, Nd.val, k0, k1, k2, k3, k4, hz1]) rfl ⟨⟨4, a, 0, 0, 0⟩, rfl, (unhide Hfit) _ (by simp [preB]) (.inl rfl) (by intro z hz; simp [inputsL] at hz; exact ⟨a, hz, ha, hca⟩), ?_⟩
    refine Bw.drew ?_
    refine Bw.alloc ?_ _
    iterate 5 refine Bw.setCell ?_ (by simp only; omega) _
    exact hBw
  · have hp := (unhide Hpos) (by omega)
    go_enter Try.func46, Try.ntmps46
    go_wp2_with (go_at_call 73; refine (choices_any ns _ _ _ n _ (hn.below (by repeat (first | exact Bw.refl _ | assumption | refine Bw.drew ?_ | refine Bw.drewN ?_ _ | refine Bw.alloc ?_ _ | refine Bw.trans ?_ (by assumption)))) hg hnl).mono ?_; rintro e w' ⟨v, rfl, hown, hbl⟩; obtain ⟨la, lc, rfl, hx, hml⟩ := hown.form; obtain ⟨hcc, hff⟩ := bcell hbl; have hz0 : w.heap.size < w'.heap.size := (by have := hbl.size; (try simp at this); omega); have hz1 : w.heap.size + 1 < w'.heap.size := (by have := hbl.size; (try simp at this); omega); have hz2 : w.heap.size + 2 < w'.heap.size := (by have := hbl.size; (try simp at this); omega))
    refine (pick_any _ _ _ (by omega) (by omega) (by omega) (by omega)).mono ?_
    rintro e w2 ⟨rfl, rfl⟩
    obtain ⟨hi1, hi2⟩ := pickB_bd xa (n := ((chTo ns n ns.length).length : Int)) (by omega)
    generalize pickB xa ((chTo ns n ns.length).length : Int) = pk at hi1 hi2
    obtain ⟨i, rfl⟩ := Int.eq_ofNat_of_zero_le hi1
    obtain ⟨bl, ol, rfl, hbl2, hcx⟩ := hx i (by omega)
    have hcx1 := hcx i (by omega)
    obtain ⟨a, ea, ha, hca⟩ := (unhide Hmem) i (by omega)
    rw [ea] at hcx1
    have k0 := hcc (w.heap.size + 1) 0 (by simp)
    have k1 := hcc (w.heap.size + 1) 1 (by simp)
    have k2 := hcc (w.heap.size + 1) 2 (by simp)
    have k3 := hcc (w.heap.size + 1) 3 (by simp)
    have k4 := hcc (w.heap.size + 1) 4 (by simp)
    simp [go_sem] at k0 k1 k2 k3 k4
    have hBw : Bw w w2 := (by repeat (first | exact Bw.refl _ | assumption | refine Bw.drew ?_ | refine Bw.drewN ?_ _ | refine Bw.alloc ?_ _ | refine Bw.trans ?_ (by assumption)))
    have Hbl := hide hbl
    clear hbl
    clear hcx ea hown hml
    go_wp2_with fail
    go_region
    go_wp2_with fail
    refine bodyPost_ret (v := (⟨5, a, 0, 0, 0⟩ : Nd).val) (by simp [results, Try.results46, go_sem, Nd.val, k0, k1, k2, k3, k4, hz1]) rfl ⟨⟨5, a, 0, 0, 0⟩, rfl, (unhide Hfit) _ (by simp [preB]) (.inl rfl) (by intro z hz; simp [inputsL] at hz; exact ⟨a, hz, ha, hca⟩), ?_⟩
    refine Bw.drew ?_
    refine Bw.alloc ?_ _
    iterate 5 refine Bw.setCell ?_ (by simp only; omega) _
    exact hBw
  · have hp := (unhide Hpos) (by omega)
    go_enter Try.func46, Try.ntmps46
    go_wp2_with (go_at_call 73; refine (choices_any ns _ _ _ n _ (hn.below (by repeat (first | exact Bw.refl _ | assumption | refine Bw.drew ?_ | refine Bw.drewN ?_ _ | refine Bw.alloc ?_ _ | refine Bw.trans ?_ (by assumption)))) hg hnl).mono ?_; rintro e w' ⟨v, rfl, hown, hbl⟩; obtain ⟨la, lc, rfl, hx, hml⟩ := hown.form; obtain ⟨hcc, hff⟩ := bcell hbl; have hz0 : w.heap.size < w'.heap.size := (by have := hbl.size; (try simp at this); omega); have hz1 : w.heap.size + 1 < w'.heap.size := (by have := hbl.size; (try simp at this); omega); have hz2 : w.heap.size + 2 < w'.heap.size := (by have := hbl.size; (try simp at this); omega))
    refine (pick_any _ _ _ (by omega) (by omega) (by omega) (by omega)).mono ?_
    rintro e w2 ⟨rfl, rfl⟩
    obtain ⟨hi1, hi2⟩ := pickB_bd xa (n := ((chTo ns n ns.length).length : Int)) (by omega)
    generalize pickB xa ((chTo ns n ns.length).length : Int) = pk at hi1 hi2
    obtain ⟨i, rfl⟩ := Int.eq_ofNat_of_zero_le hi1
    obtain ⟨bl, ol, rfl, hbl2, hcx⟩ := hx i (by omega)
    have hcx1 := hcx i (by omega)
    obtain ⟨a, ea, ha, hca⟩ := (unhide Hmem) i (by omega)
    rw [ea] at hcx1
    have k0 := hcc (w.heap.size + 1) 0 (by simp)
    have k1 := hcc (w.heap.size + 1) 1 (by simp)
    have k2 := hcc (w.heap.size + 1) 2 (by simp)
    have k3 := hcc (w.heap.size + 1) 3 (by simp)
    have k4 := hcc (w.heap.size + 1) 4 (by simp)
    simp [go_sem] at k0 k1 k2 k3 k4
    have hBw : Bw w w2 := (by repeat (first | exact Bw.refl _ | assumption | refine Bw.drew ?_ | refine Bw.drewN ?_ _ | refine Bw.alloc ?_ _ | refine Bw.trans ?_ (by assumption)))
    have Hbl := hide hbl
    clear hbl
    clear hcx ea hown hml
    go_wp2_with fail
    go_region
    go_wp2_with fail
    refine (pick_any _ _ _ (wrap64_bd _).1 (wrap64_bd _).2 (by omega) (by omega)).mono ?_
    rintro e w3 ⟨rfl, rfl⟩
    obtain ⟨p1, p2⟩ := pickB_bd (wrap64 (xk - 1)) (n := 8) (by omega)
    generalize pickB (wrap64 (xk - 1)) 8 = pk2 at p1 p2
    go_wp2_with fail
    refine bodyPost_ret (v := (⟨6, a, 0, 1 + pk2, 0⟩ : Nd).val) (by simp [results, Try.results46, go_sem, Nd.val, k0, k1, k2, k3, k4, hz1]) rfl ⟨⟨6, a, 0, 1 + pk2, 0⟩, rfl, (unhide Hfit) _ (by simp [preB]; omega) (.inl rfl) (by intro z hz; simp [inputsL] at hz; exact ⟨a, hz, ha, hca⟩), ?_⟩
    refine Bw.drew ?_
    refine Bw.alloc ?_ _
    iterate 5 refine Bw.setCell ?_ (by simp only; omega) _
    exact hBw
  · have hp := (unhide Hpos) (by omega)
    go_enter Try.func46, Try.ntmps46
    go_wp2_with (go_at_call 73; refine (choices_any ns _ _ _ n _ (hn.below (by repeat (first | exact Bw.refl _ | assumption | refine Bw.drew ?_ | refine Bw.drewN ?_ _ | refine Bw.alloc ?_ _ | refine Bw.trans ?_ (by assumption)))) hg hnl).mono ?_; rintro e w' ⟨v, rfl, hown, hbl⟩; obtain ⟨la, lc, rfl, hx, hml⟩ := hown.form; obtain ⟨hcc, hff⟩ := bcell hbl; have hz0 : w.heap.size < w'.heap.size := (by have := hbl.size; (try simp at this); omega); have hz1 : w.heap.size + 1 < w'.heap.size := (by have := hbl.size; (try simp at this); omega); have hz2 : w.heap.size + 2 < w'.heap.size := (by have := hbl.size; (try simp at this); omega))
    refine (pick_any _ _ _ (by omega) (by omega) (by omega) (by omega)).mono ?_
    rintro e w2 ⟨rfl, rfl⟩
    obtain ⟨hi1, hi2⟩ := pickB_bd xa (n := ((chTo ns n ns.length).length : Int)) (by omega)
    generalize pickB xa ((chTo ns n ns.length).length : Int) = pk at hi1 hi2
    obtain ⟨i, rfl⟩ := Int.eq_ofNat_of_zero_le hi1
    obtain ⟨bl, ol, rfl, hbl2, hcx⟩ := hx i (by omega)
    have hcx1 := hcx i (by omega)
    obtain ⟨a, ea, ha, hca⟩ := (unhide Hmem) i (by omega)
    rw [ea] at hcx1
    have k0 := hcc (w.heap.size + 1) 0 (by simp)
    have k1 := hcc (w.heap.size + 1) 1 (by simp)
    have k2 := hcc (w.heap.size + 1) 2 (by simp)
    have k3 := hcc (w.heap.size + 1) 3 (by simp)
    have k4 := hcc (w.heap.size + 1) 4 (by simp)
    simp [go_sem] at k0 k1 k2 k3 k4
    have hBw : Bw w w2 := (by repeat (first | exact Bw.refl _ | assumption | refine Bw.drew ?_ | refine Bw.drewN ?_ _ | refine Bw.alloc ?_ _ | refine Bw.trans ?_ (by assumption)))
    have Hbl := hide hbl
    clear hbl
    clear hcx ea hown hml
    go_wp2_with fail
    go_region
    go_wp2_with fail
    refine bodyPost_ret (v := (⟨7, a, 0, 0, 0⟩ : Nd).val) (by simp [results, Try.results46, go_sem, Nd.val, k0, k1, k2, k3, k4, hz1]) rfl ⟨⟨7, a, 0, 0, 0⟩, rfl, (unhide Hfit) _ (by simp [preB]) (.inl rfl) (by intro z hz; simp [inputsL] at hz; exact ⟨a, hz, ha, hca⟩), ?_⟩
    refine Bw.drew ?_
    refine Bw.alloc ?_ _
    iterate 5 refine Bw.setCell ?_ (by simp only; omega) _
    exact hBw
end Go.Proofs.Ytfemleimkbjehaa
