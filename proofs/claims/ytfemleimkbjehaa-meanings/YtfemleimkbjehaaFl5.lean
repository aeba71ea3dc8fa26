import Derived.Test.YtfemleimkbjehaaFl4
import Derived.Deep.LoopGhost
namespace Go.Proofs.Ytfemleimkbjehaa
open Go.RowKit

set_option maxRecDepth 100000 in
set_option maxHeartbeats 4000000 in
theorem flowing_any {ns : List Nd} {R : Nat} {q : List Int} (hG : Good ns (R : Int) q) {gv : List Gv} (hgv : GvOk ns gv) (ga va : Option Addr) (gc vc : Nat) (w : World) (hn : NodesAt w ga ns) (hv : GvAt w va gv) (hR1 : 1 ≤ R) (hR4 : R ≤ 4) :
    Calls Try.prog 77 #[.agg #[.slice ga ns.length gc, .int .i64 (R : Int)], .slice va gv.length vc] w fun en w' =>
      ∃ fb ob oc tb tc rb F, en = .returned (.pointer (some ⟨fb, 0, none⟩)) ∧ FlowAt w w' fb ob ns.length R oc tb tc rb F ∧ (∀ e, e < 6 → ∀ s, s < R → ∀ n, n < ns.length → (ndn ns n).kind ≠ 7 → F e s n = valS ns gv e s n) ∧ Bw w w' := by
  have hl := wfB_len hG.wf
  have hmk := make_row R (by omega)
  go_enter Try.func77, Try.ntmps77
  go_wp2_with fail
  obtain ⟨W, hW⟩ : ∃ W, w.alloc (.cells #[.slice ga ns.length gc, .int .i64 (R : Int)] 24) = W := ⟨_, rfl⟩
  rw [hW]
  obtain ⟨hBW, x0, x1, gzW⟩ : Bw w W ∧ W.cell? ⟨w.heap.size, 0, none⟩ = some (.slice ga ns.length gc) ∧ W.cell? ⟨w.heap.size, 1, none⟩ = some (.int .i64 (R : Int)) ∧ W.heap.size = w.heap.size + 1 := by
    rw [← hW]; exact ⟨(by repeat (first | exact Bw.refl _ | assumption | refine Bw.drew ?_ | refine Bw.drewN ?_ _ | refine Bw.alloc ?_ _ | refine Bw.trans ?_ (by assumption))), by simp, by simp, by simp⟩
  clear hW
  go_loopw [6] (fun i wr => ∃ (n : Nat) (vo : Value) (ts : List (Value × List Nat)), n ≤ ns.length ∧ i = .int .i64 n ∧ ts.length = n ∧ OutAt W wr R (w.heap.size + 1) vo ts ∧ Bw W wr) (fun i _ => ns.length - (intOf i).toNat)
  case atStart => exact ⟨0, .slice none 0 0, [], Nat.zero_le _, rfl, rfl, ⟨alloc_at _ _ gzW.symm, World.ownsRow_nil _ _ _ _, by simp, by simp⟩, (by repeat (first | exact Bw.refl _ | assumption | refine Bw.drew ?_ | refine Bw.drewN ?_ _ | refine Bw.alloc ?_ _ | refine Bw.trans ?_ (by assumption)))⟩
  case round =>
    obtain ⟨n, vo, ts, hnn, rfl, hts, hO, hB⟩ := hrel
    rename World => w2
    obtain ⟨y0, y1⟩ : w2.cell? ⟨w.heap.size, 0, none⟩ = some (.slice ga ns.length gc) ∧ w2.cell? ⟨w.heap.size, 1, none⟩ = some (.int .i64 (R : Int)) := ⟨((bcell hB).1 _ _ (by omega)).trans x0, ((bcell hB).1 _ _ (by omega)).trans x1⟩
    have gz2 : w.heap.size < w2.heap.size := by have := hB.size; omega
    by_cases hlt : n < ns.length
    · go_wp2_with fail
      go_loopw [7, 8] (fun v i wi => ∃ (k : Nat) (rs : List Nat), k ≤ 6 ∧ i = .int .i64 k ∧ rs.length = k ∧ TimesAt w2 wi R v rs ∧ Bw w2 wi) (fun _ i _ => 6 - (intOf i).toNat)
      case atStart => exact ⟨0, [], Nat.zero_le _, rfl, rfl, TimesAt.nil _ _ _, Bw.refl _⟩
      case round =>
        obtain ⟨k, rs, hk, rfl, hrs, hT, hB2⟩ := hrel
        rename World => w3
        obtain ⟨z0, z1⟩ : w3.cell? ⟨w.heap.size, 0, none⟩ = some (.slice ga ns.length gc) ∧ w3.cell? ⟨w.heap.size, 1, none⟩ = some (.int .i64 (R : Int)) := ⟨((bcell hB2).1 _ _ gz2).trans y0, ((bcell hB2).1 _ _ gz2).trans y1⟩
        have gz3 : w.heap.size < w3.heap.size := by have := hB2.size; omega
        by_cases hlt2 : k < 6
        · have hd : decide ((k : Int) ≤ 5) = true := by simp; omega
          have Hrs := hide hrs
          have hk1 : rs.length + 1 ≤ 1000000000 := by omega
          clear hrs
          have hrow := rowAt_made (W := w2) (w := w3) (g := w3.heap.size) (L := R) rfl
          have hT2 : TimesAt w2 (w3.alloc (.cells (madeCells #[.slice none 0 0] R) 26)) R _ rs := hT.bw (by repeat (first | exact Bw.refl _ | assumption | refine Bw.drew ?_ | refine Bw.drewN ?_ _ | refine Bw.alloc ?_ _ | refine Bw.trans ?_ (by assumption)))
          go_wp2_with (at_builtin; refine appT _ rfl _ _ _ 54 rfl _ 1 24 Try.infoInts2 Try.underlying108 rfl (by decide) w2.heap.size _ rs.length (rs.map fun b => .slice (some ⟨b, 0, none⟩) R R) rfl (hT2.bw (by repeat (first | exact Bw.refl _ | assumption | refine Bw.drew ?_ | refine Bw.drewN ?_ _ | refine Bw.alloc ?_ _ | refine Bw.trans ?_ (by assumption)))).own _ _ [.slice (some ⟨w3.heap.size, 0, none⟩) R R] rfl rfl (cells1 (by simp)) (by simp [Value.oneCell']) hk1 (by omega) (Bw.size (by repeat (first | exact Bw.refl _ | assumption | refine Bw.drew ?_ | refine Bw.drewN ?_ _ | refine Bw.alloc ?_ _ | refine Bw.trans ?_ (by assumption)))) ?_; intro v' w4 hown1 hgr1)
          go_roundw
          case rel => exact ⟨k + 1, rs ++ [w3.heap.size], by omega, by go_num, by rw [List.length_append, unhide Hrs]; rfl, (hT2.bw (by repeat (first | exact Bw.refl _ | assumption | refine Bw.drew ?_ | refine Bw.drewN ?_ _ | refine Bw.alloc ?_ _ | refine Bw.trans ?_ (by assumption)))).grow (hrow.bw (by repeat (first | exact Bw.refl _ | assumption | refine Bw.drew ?_ | refine Bw.drewN ?_ _ | refine Bw.alloc ?_ _ | refine Bw.trans ?_ (by assumption)))) hB2.size (fun x hx => (hT.rows x hx).1.lt) hown1 hgr1, Bw.grown (by repeat (first | exact Bw.refl _ | assumption | refine Bw.drew ?_ | refine Bw.drewN ?_ _ | refine Bw.alloc ?_ _ | refine Bw.trans ?_ (by assumption))) (hT2.bw (by repeat (first | exact Bw.refl _ | assumption | refine Bw.drew ?_ | refine Bw.drewN ?_ _ | refine Bw.alloc ?_ _ | refine Bw.trans ?_ (by assumption)))).own hgr1 (Nat.le_refl _)⟩
          case measure => simp [intOf]; omega
        · have hkk : k = 6 := by omega
          subst hkk
          obtain ⟨ta, tc, rfl⟩ := ownsRow_slice hT.own
          have Hrs := hide hrs
          clear hrs
          have hO3 := hO.bw hB2
          have hr3 := hO3.root
          have f0 := cell_of_block (o := 0) hr3 rfl
          have ff := frozen_of_block (o := 0) hr3
          have gf := (Array.getElem?_eq_some_iff.1 hr3).1
          have hlen1 : ts.length + 1 ≤ 1000000000 := by omega
          have Hts := hide hts
          clear hr3 hts
          go_wp2_with (at_builtin; refine appT _ rfl _ _ _ 108 rfl _ 1 24 Try.infoInts3 Try.underlying60 rfl (by decide) W.heap.size _ ts.length (ts.map (·.1)) rfl (hO3.bw (by repeat (first | exact Bw.refl _ | assumption | refine Bw.drew ?_ | refine Bw.drewN ?_ _ | refine Bw.alloc ?_ _ | refine Bw.trans ?_ (by assumption)))).own _ _ [.slice ta rs.length tc] rfl rfl (cells1 (by simp)) (by simp [Value.oneCell']) hlen1 (by omega) (Bw.size (by repeat (first | exact Bw.refl _ | assumption | refine Bw.drew ?_ | refine Bw.drewN ?_ _ | refine Bw.alloc ?_ _ | refine Bw.trans ?_ (by assumption)))) ?_; intro v' w4 hown1 hgr1; obtain ⟨oa, oc, rfl⟩ := ownsRow_slice hown1; have hr4 := grown_block (hO3.bw (by repeat (first | exact Bw.refl _ | assumption | refine Bw.drew ?_ | refine Bw.drewN ?_ _ | refine Bw.alloc ?_ _ | refine Bw.trans ?_ (by assumption)))).own hgr1 (hO3.bw (by repeat (first | exact Bw.refl _ | assumption | refine Bw.drew ?_ | refine Bw.drewN ?_ _ | refine Bw.alloc ?_ _ | refine Bw.trans ?_ (by assumption)))).root (.inl (by decide)); have f1 := cell_of_block (o := 0) hr4 rfl; have ff1 := frozen_of_block (o := 0) hr4; have gf1 := (Array.getElem?_eq_some_iff.1 hr4).1; clear hr4)
          go_roundw
          case rel => exact ⟨n + 1, _, ts ++ [(.slice ta rs.length tc, rs)], by omega, by go_num, by rw [List.length_append, unhide Hts]; rfl, (hO3.bw (by repeat (first | exact Bw.refl _ | assumption | refine Bw.drew ?_ | refine Bw.drewN ?_ _ | refine Bw.alloc ?_ _ | refine Bw.trans ?_ (by assumption)))).add hO (by repeat (first | exact Bw.refl _ | assumption | refine Bw.drew ?_ | refine Bw.drewN ?_ _ | refine Bw.alloc ?_ _ | refine Bw.trans ?_ (by assumption))) (hT.bw (by repeat (first | exact Bw.refl _ | assumption | refine Bw.drew ?_ | refine Bw.drewN ?_ _ | refine Bw.alloc ?_ _ | refine Bw.trans ?_ (by assumption)))) hB (unhide Hrs) hown1 hgr1, Bw.setCell (Bw.grown (by repeat (first | exact Bw.refl _ | assumption | refine Bw.drew ?_ | refine Bw.drewN ?_ _ | refine Bw.alloc ?_ _ | refine Bw.trans ?_ (by assumption))) (hO3.bw (by repeat (first | exact Bw.refl _ | assumption | refine Bw.drew ?_ | refine Bw.drewN ?_ _ | refine Bw.alloc ?_ _ | refine Bw.trans ?_ (by assumption)))).own hgr1 (Nat.le_refl _)) (by simp only; omega) _⟩
          case measure => simp [intOf]; omega
    · have hnn' : n = ns.length := by omega
      subst hnn'
      obtain ⟨ob, oc, tb, tc, rb, hF⟩ := hO.flow hts (by omega)
      clear hO hts
      go_wp2_with fail
      go_loopg [9] (R * ns.length + 1) (fun k ag wr => ∃ (agb : Bool) (F : Nat → Nat → Nat → List Int), ag = .bool agb ∧ FlowAt W wr (w.heap.size + 1) ob ns.length R oc tb tc rb F ∧ Bw W wr ∧ (agb = true → ∃ t, t ≤ R * ns.length ∧ k = R * ns.length + 1 - t ∧ (∀ e s n, n < ns.length → (F e s n).length ≤ bdB ns q s n) ∧ (∀ e s n, e < 6 → s < R → n < ns.length → (ndn ns n).kind ≠ 7 → s * ns.length + rank q n < t → F e s n = valS ns gv e s n)) ∧ (agb = false → ∀ e, e < 6 → ∀ s, s < R → ∀ n, n < ns.length → (ndn ns n).kind ≠ 7 → F e s n = valS ns gv e s n))
      case atStart => exact ⟨true, _, rfl, hF, hB, fun _ => ⟨0, Nat.zero_le _, rfl, fun _ _ _ _ => Nat.zero_le _, fun _ _ _ _ _ _ _ h => absurd h (Nat.not_lt_zero _)⟩, fun h => by cases h⟩
      case round =>
        obtain ⟨agb, F, rfl, hF2, hB2, hmore, hfin⟩ := hrel
        clear hF hB y0 y1 gz2
        cases agb with
        | false =>
          have Hfin := hide (hfin rfl)
          clear hfin hmore
          go_wp2_with fail
          go_ret
          exact ⟨_, ob, oc, tb, tc, rb, F, rfl, hF2.weaken hBW, unhide Hfin, hBW.trans hB2⟩
        | true =>
          obtain ⟨t, ht, hgk, hbd, hrt⟩ := hmore rfl
          have Hp := hide (PInv.start hbd hrt)
          have Hgk := hide hgk
          clear hfin hmore hbd hrt hgk
          go_wp2_with fail
          rename World => w3
          go_loopw [9, 10] (fun ag i wi => ∃ (e : Nat) (agb : Bool) (F : Nat → Nat → Nat → List Int), e ≤ 6 ∧ i = .int .i64 e ∧ ag = .bool agb ∧ FlowAt W wi (w.heap.size + 1) ob ns.length R oc tb tc rb F ∧ Bw W wi ∧ PInv ns gv q R t F agb (fun e' _ _ => e' < e)) (fun _ i _ => 6 - (intOf i).toNat)
          case atStart => exact ⟨0, false, F, Nat.zero_le _, rfl, rfl, hF2, hB2, unhide Hp⟩
          case round =>
            obtain ⟨e, agb, F, he6, rfl, rfl, hF4, hB4, hP4⟩ := hrel
            rename World => w4
            have HP4 := hide hP4
            clear hP4
            obtain ⟨y0, y1⟩ : w4.cell? ⟨w.heap.size, 0, none⟩ = some (.slice ga ns.length gc) ∧ w4.cell? ⟨w.heap.size, 1, none⟩ = some (.int .i64 (R : Int)) := ⟨((bcell hB4).1 _ _ (by omega)).trans x0, ((bcell hB4).1 _ _ (by omega)).trans x1⟩
            have gz4 : w.heap.size < w4.heap.size := by have := hB4.size; omega
            by_cases he : e < 6
            · have hd : decide ((e : Int) ≤ 5) = true := by simp; omega
              go_wp2_with fail
              go_loopw [9, 11] (fun ag i wi => ∃ (s : Nat) (agb : Bool) (F : Nat → Nat → Nat → List Int), s ≤ R ∧ i = .int .i64 s ∧ ag = .bool agb ∧ FlowAt W wi (w.heap.size + 1) ob ns.length R oc tb tc rb F ∧ Bw W wi ∧ PInv ns gv q R t F agb (fun e' s' _ => e' < e ∨ (e' = e ∧ s' < s))) (fun _ i _ => R - (intOf i).toNat)
              case atStart => exact ⟨0, agb, F, Nat.zero_le _, rfl, rfl, hF4, hB4, (unhide HP4).vis fun _ _ _ _ _ _ _ h => by omega⟩
              case round =>
                obtain ⟨s, agb5, F5, hsR, rfl, rfl, hF5, hB5, hP5⟩ := hrel
                rename World => w5
                have HP5 := hide hP5
                clear hP5 HP4 y0 y1
                obtain ⟨y0, y1⟩ : w5.cell? ⟨w.heap.size, 0, none⟩ = some (.slice ga ns.length gc) ∧ w5.cell? ⟨w.heap.size, 1, none⟩ = some (.int .i64 (R : Int)) := ⟨((bcell hB5).1 _ _ (by omega)).trans x0, ((bcell hB5).1 _ _ (by omega)).trans x1⟩
                have gz5 : w.heap.size < w5.heap.size := by have := hB5.size; omega
                by_cases hs : s < R
                · go_wp2_with fail
                  go_loopw [9, 12] (fun ag i wi => ∃ (n : Nat) (agb : Bool) (F : Nat → Nat → Nat → List Int), n ≤ ns.length ∧ i = .int .i64 n ∧ ag = .bool agb ∧ FlowAt W wi (w.heap.size + 1) ob ns.length R oc tb tc rb F ∧ Bw W wi ∧ PInv ns gv q R t F agb (fun e' s' n' => e' < e ∨ (e' = e ∧ (s' < s ∨ (s' = s ∧ n' < n))))) (fun _ i _ => ns.length - (intOf i).toNat)
                  case atStart => exact ⟨0, agb5, F5, Nat.zero_le _, rfl, rfl, hF5, hB5, (unhide HP5).vis fun _ _ _ _ _ _ _ h => by omega⟩
                  case round =>
                    obtain ⟨n, agb6, F6, hnL, rfl, rfl, hF6, hB6, hP6⟩ := hrel
                    rename World => w6
                    have HP6 := hide hP6
                    clear hP6 HP5 y0 y1
                    obtain ⟨y0, y1⟩ : w6.cell? ⟨w.heap.size, 0, none⟩ = some (.slice ga ns.length gc) ∧ w6.cell? ⟨w.heap.size, 1, none⟩ = some (.int .i64 (R : Int)) := ⟨((bcell hB6).1 _ _ (by omega)).trans x0, ((bcell hB6).1 _ _ (by omega)).trans x1⟩
                    have gz6 : w.heap.size < w6.heap.size := by have := hB6.size; omega
                    have hBw6 : Bw w w6 := hBW.trans hB6
                    by_cases hnl : n < ns.length
                    · obtain ⟨b, off, rfl, hb, hc⟩ := (hn.below hBw6) n hnl
                      have c0 := (hc n hnl).1
                      clear hc
                      cases k7 : ((ndn ns n).kind == 7) with
                      | true =>
                        have HP7 := hide ((unhide HP6).vis (v' := fun e' s' n' => e' < e ∨ (e' = e ∧ (s' < s ∨ (s' = s ∧ n' < n + 1)))) fun e' s' n' _ _ _ h7 h => by
                          by_cases en : n' = n
                          · subst en; exact absurd (by simpa using k7) h7
                          · omega)
                        go_wp2_with fail
                        go_roundw
                        case rel => exact ⟨n + 1, agb6, F6, by omega, by go_num, rfl, hF6, hB6, unhide HP7⟩
                        case measure => simp [intOf]; omega
                      | false =>
                        have h7 : (ndn ns n).kind ≠ 7 := by simpa using k7
                        have H7 := hide h7
                        have Hin : Hid (∀ z ∈ inputsL (ndn ns n), ∃ a : Nat, z = a ∧ a < ns.length ∧ ∀ s', s' < R → (F6 e s' a).length ≤ 100000) := hide (by
                          intro z hz
                          obtain ⟨a, rfl, ha, _, _⟩ := hG.inp hnl hz
                          refine ⟨a, rfl, ha, fun s' hs' => ?_⟩
                          have h1 := (unhide HP6).bd e s' a ha
                          have h2 := hG.bd_le (s := s') (n := a) (by omega)
                          omega)
                        have Hpl : Hid ((putL ns gv e s n (F6 e s) (prevS (F6 e) s)).length ≤ 81920) := hide (Nat.le_trans (hG.put_len hgv.1 hnl (unhide HP6).bd) (hG.bd_le (by omega)))
                        have Hfl : Hid ((F6 e s n).length ≤ 81920) := hide (Nat.le_trans ((unhide HP6).bd e s n hnl) (hG.bd_le (by omega)))
                        clear h7
                        go_wp2_with fail
                        refine (puts_any ns _ va gc vc R _ gv W w6 (w.heap.size + 1) ob oc tb tc rb F6 n e s (hn.below hBw6) (hv.below hBw6) hgv.1 hl.2 hF6 hnl he hs hR4 (unhide Hin) (fun h => hG.pass hnl h) (fun h => hG.sum8 hnl h)).mono ?_
                        rintro en w7 ⟨vp, rfl, ho7, hB7⟩
                        obtain ⟨pa, pc, rfl, hpc⟩ := ho7.slice
                        have hF7 := hF6.bw hB7
                        obtain ⟨f0, f1, f2, ⟨la, lc, f3, fo, flc⟩, g0, g1, g2, g3⟩ := hF7.get hnl he hs
                        have hjn : (n : Int) < (ns.length : Int) := by omega
                        have hje : (e : Int) < 6 := by omega
                        have hjs : (s : Int) < (R : Int) := by omega
                        clear c0 y0 y1
                        obtain ⟨p, hp⟩ : ∃ p, putL ns gv e s n (F6 e s) (prevS (F6 e) s) = p := ⟨_, rfl⟩
                        rw [hp] at ho7 hpc Hpl ⊢
                        have Hpe := hide hp
                        clear hp
                        go_wp2_with fail
                        refine (rsame_any p (F6 e s n) pa la pc lc _ ho7.ints.1 fo.ints.1 (Nat.le_trans (unhide Hpl) (by omega)) (Nat.le_trans (unhide Hfl) (by omega))).mono ?_
                        rintro en w8 ⟨rfl, hB8⟩
                        clear f0 f1 f2 f3 fo g0 g1 g2 g3
                        obtain ⟨f0, f1, f2, ⟨la2, lc2, f3, fo, flc2⟩, g0, g1, g2, g3⟩ := (hF7.bw hB8).get hnl he hs
                        have ffr := (hF7.bw hB8).frozen hnl he s
                        cases hsm : (p == F6 e s n) with
                        | true =>
                          have HP7 := hide (((unhide HP6).same hG he hs hnl (by rw [unhide Hpe]; simpa using hsm)).vis (v' := fun e' s' n' => e' < e ∨ (e' = e ∧ (s' < s ∨ (s' = s ∧ n' < n + 1)))) fun e' s' n' _ _ _ _ h => by omega)
                          clear hsm
                          go_wp2_with fail
                          go_roundw
                          case rel => exact ⟨n + 1, agb6, F6, by omega, by go_num, rfl, hF7.bw hB8, (by repeat (first | exact Bw.refl _ | assumption | refine Bw.drew ?_ | refine Bw.drewN ?_ _ | refine Bw.alloc ?_ _ | refine Bw.trans ?_ (by assumption))), unhide HP7⟩
                          case measure => simp [intOf]; omega
                        | false =>
                          have HP7 := hide (((unhide HP6).new hG hgv.1 he hs hnl (unhide H7) (by rw [unhide Hpe]; simpa using hsm)).vis (v' := fun e' s' n' => e' < e ∨ (e' = e ∧ (s' < s ∨ (s' = s ∧ n' < n + 1)))) fun e' s' n' _ _ _ _ h => by omega)
                          clear hsm
                          go_wp2_with fail
                          go_roundw
                          case rel => exact ⟨n + 1, true, updF F6 e s n p, by omega, by go_num, rfl, (hF7.bw hB8).set hnl he ((ho7.bw hB8).weaken (by repeat (first | exact Bw.refl _ | assumption | refine Bw.drew ?_ | refine Bw.drewN ?_ _ | refine Bw.alloc ?_ _ | refine Bw.trans ?_ (by assumption)))), Bw.setCell (by repeat (first | exact Bw.refl _ | assumption | refine Bw.drew ?_ | refine Bw.drewN ?_ _ | refine Bw.alloc ?_ _ | refine Bw.trans ?_ (by assumption))) (hF6.low n hnl e he) _, (unhide Hpe) ▸ unhide HP7⟩
                          case measure => simp [intOf]; omega
                    · have hnn2 : n = ns.length := by omega
                      subst hnn2
                      have HP7 := hide ((unhide HP6).vis (v' := fun e' s' _ => e' < e ∨ (e' = e ∧ s' < s + 1)) fun _ _ _ _ _ _ _ h => by omega)
                      go_wp2_with fail
                      go_roundw
                      case rel => exact ⟨s + 1, agb6, F6, by omega, by go_num, rfl, hF6, hB6, unhide HP7⟩
                      case measure => simp [intOf]; omega
                · have hss : s = R := by omega
                  subst hss
                  have HP6 := hide ((unhide HP5).vis (v' := fun e' _ _ => e' < e + 1) fun _ _ _ _ _ _ _ h => by omega)
                  go_wp2_with fail
                  go_roundw
                  case rel => exact ⟨e + 1, agb5, F5, by omega, by go_num, rfl, hF5, hB5, unhide HP6⟩
                  case measure => simp [intOf]; omega
            · have hee : e = 6 := by omega
              subst hee
              cases agb with
              | true =>
                have Hmo := hide ((unhide HP4).more rfl)
                go_wp2_with fail
                go_roundg (R * ns.length + 1 - (t + 1))
                case rel => exact ⟨true, F, rfl, hF4, hB4, fun _ => ⟨t + 1, unhide Hmo, rfl, (unhide HP4).bd, (unhide HP4).next⟩, fun h => by cases h⟩
                case measure => have := unhide Hmo; have := unhide Hgk; omega
              | false =>
                have Hf := hide ((unhide HP4).final hG)
                go_wp2_with fail
                go_roundg 0
                case rel => exact ⟨false, F, rfl, hF4, hB4, fun h => (by cases h), fun _ => unhide Hf⟩
                case measure => have := unhide Hgk; omega
end Go.Proofs.Ytfemleimkbjehaa
