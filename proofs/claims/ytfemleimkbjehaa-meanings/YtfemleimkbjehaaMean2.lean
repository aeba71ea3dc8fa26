import Derived.Test.YtfemleimkbjehaaPureM3
import Derived.Laws.OwnMore
namespace Go.Proofs.Ytfemleimkbjehaa
open Go.RowKit

theorem Try.infoInts : (Try.prog.info? 26).map (fun i => (i.zero, i.size, i.bytes)) = some (some (.slice none 0 0), 1, 24) := by kernel_rfl

theorem rowAt_made {W w : World} {g L : Nat} (hg : g = w.heap.size) : RowAt W (w.alloc (.cells (madeCells #[.slice none 0 0] L) 26)) g L (fun _ => []) := by
  subst hg
  refine ⟨_, heap_alloc_new w _, by simp [size_madeCells], fun j hj => ⟨.slice none 0 0, ?_, Own.nil _ _⟩⟩
  rw [← Array.getElem?_toList, toList_madeCells_one]
  simp [hj]
theorem make_row (n : Nat) (hn : n ≤ 1000) : ∀ w : World, (Instr.makeSlice 54 (.int .i64 (n : Int)) (.int .i64 (n : Int))).run Try.prog w = .ok (.slice (some ⟨w.heap.size, 0, none⟩) n n) (w.alloc (.cells (madeCells #[.slice none 0 0] n) 26)) := by
  intro w
  obtain ⟨i0, hi, hz0, hz1, hz2⟩ := info_parts Try.infoInts
  have hmk := run_make (P := Try.prog) w 54 26 i0 _ Try.underlying54 hi hz0 .i64 .i64 (n : Int) (n : Int) (by omega) (by omega) (by rw [hz2]; omega) (by omega)
  rw [Int.toNat_natCast, hz1, Nat.mul_one] at hmk
  exact hmk

set_option maxRecDepth 100000 in
set_option maxHeartbeats 4000000 in
theorem outAt_any {ns : List Nd} {r : Int} {q : List Int} (hG : Good ns r q) {gv : List Gv} (hgv : GvOk ns gv) (ga qa va : Option Addr) (gc qc vc g' c' : Nat) (e s : Nat) (P : Nat → List Int) (W w : World) (hBW : Bw W w)
    (hn : NodesAt w ga ns) (hq : IntsAt w qa q) (hv : GvAt w va gv) (hP : RowAt W w g' ns.length P) (hs : s ≤ 3) (hpp : ∀ a, a < ns.length → (P a).Perm (prevS (valS ns gv e) s a)) :
    Calls Try.prog 130 #[.agg #[.slice ga ns.length gc, .int .i64 r], .slice qa q.length qc, .slice va gv.length vc, .agg #[.int .i64 (e : Int), .int .i64 (s : Int)], .slice (some ⟨g', 0, none⟩) ns.length c'] w fun en w' =>
      ∃ g F, en = .returned (.slice (some ⟨g, 0, none⟩) ns.length ns.length) ∧ RowAt W w' g ns.length F ∧ (∀ n, n < ns.length → (F n).Perm (valS ns gv e s n)) ∧ Bw w w' := by
  have hl := wfB_len hG.wf
  have hql := hG.qlen
  have hmk := make_row ns.length (by omega)
  go_enter Try.func130, Try.ntmps130
  go_wp2_with fail
  go_loopw [22] (fun i wr => ∃ (k : Nat) (F : Nat → List Int), k ≤ q.length ∧ i = .int .i64 k ∧ RowAt W wr (w.heap.size + 1 + 1) ns.length F ∧ (∀ n, n < ns.length → rank q n < k → (F n).Perm (valS ns gv e s n)) ∧ Bw ((w.alloc (.cells #[.slice ga ns.length gc, .int .i64 r] 24)).alloc (.cells #[.int .i64 (e : Int), .int .i64 (s : Int)] 75)) wr) (fun i _ => q.length - (intOf i).toNat)
  case atStart => exact ⟨0, _, Nat.zero_le _, rfl, rowAt_made (by simp), fun n _ h => by omega, (by repeat (first | exact Bw.refl _ | assumption | refine Bw.drew ?_ | refine Bw.drewN ?_ _ | refine Bw.alloc ?_ _ | refine Bw.trans ?_ (by assumption)))⟩
  case round =>
    obtain ⟨k, F, hk, rfl, hR, hF, hB⟩ := hrel
    have hBw : Bw w wr := Bw.trans (w := w) (a := ((w.alloc (.cells #[.slice ga ns.length gc, .int .i64 r] 24)).alloc (.cells #[.int .i64 (e : Int), .int .i64 (s : Int)] 75))) (by repeat (first | exact Bw.refl _ | assumption | refine Bw.drew ?_ | refine Bw.drewN ?_ _ | refine Bw.alloc ?_ _ | refine Bw.trans ?_ (by assumption))) hB
    have hBW2 : Bw W wr := hBW.trans hBw
    obtain ⟨x0, x1, x2, x3⟩ : wr.cell? ⟨w.heap.size, 0, none⟩ = some (.slice ga ns.length gc) ∧ wr.cell? ⟨w.heap.size, 1, none⟩ = some (.int .i64 r) ∧ wr.cell? ⟨w.heap.size + 1, 0, none⟩ = some (.int .i64 (e : Int)) ∧ wr.cell? ⟨w.heap.size + 1, 1, none⟩ = some (.int .i64 (s : Int)) := by
      obtain ⟨gcc, gff⟩ := bcell hB
      refine ⟨(gcc _ _ (by simp; omega)).trans (by simp [go_sem]), (gcc _ _ (by simp; omega)).trans (by simp [go_sem]), (gcc _ _ (by simp)).trans (by simp [go_sem]), (gcc _ _ (by simp)).trans (by simp [go_sem])⟩
    have gz : w.heap.size + 1 < wr.heap.size := by have := hB.size; simp at this; omega
    have gz0 : w.heap.size < wr.heap.size := by omega
    have gz2 := hR.lt
    by_cases hlt : k < q.length
    · obtain ⟨b, off, rfl, hb, hc⟩ := (hq.below hBw) k hlt
      have hc1 := hc k hlt
      clear hc
      obtain ⟨b0, b1⟩ := hG.ok.range (nth q k) (nth_mem hlt)
      obtain ⟨n, en⟩ := Int.eq_ofNat_of_zero_le b0
      rw [en] at hc1 b0 b1
      have hnl : n < ns.length := by omega
      have Hrk := hide (rank_at hG.ok.nodup hlt en)
      have Hnext : Hid (∀ l : List Int, l.Perm (valS ns gv e s n) → ∀ n', n' < ns.length → rank q n' < k + 1 → (upd F n l n').Perm (valS ns gv e s n')) := hide (by
        intro l hlp n' hn' hr'
        by_cases e' : n' = n
        · subst e'; rw [upd_eq]; exact hlp
        · rw [upd_ne _ _ e']
          refine hF n' hn' ?_
          by_cases e2 : rank q n' = k
          · exfalso
            have := hG.at_rank hn'
            rw [e2, en] at this
            omega
          · omega)
      clear en
      obtain ⟨b2, off2, rfl, hb2, hcc⟩ := (hn.below hBw) n hnl
      obtain ⟨c0, c1, c2, c3, c4⟩ := hcc n hnl
      clear hcc
      have hfr := hR.fr n
      obtain ⟨ola, olc, ocell, _, _⟩ := hR.get hnl
      by_cases k0 : (ndn ns n).kind = 0
      · have k0b : ((ndn ns n).kind == 0) = true := by simp [k0]
        have Hsrc := hide (hG.src gv e s hnl k0)
        clear k0
        go_wp2_with fail
        refine (givenAt_any gv va vc n e s _ (hv.below (by repeat (first | exact Bw.refl _ | assumption | refine Bw.drew ?_ | refine Bw.drewN ?_ _ | refine Bw.alloc ?_ _ | refine Bw.trans ?_ (by assumption)))) hgv.1).mono ?_
        rintro en w1 ⟨v, rfl, ho, hb1⟩
        obtain ⟨va1, vc1, rfl, hvc⟩ := ho.slice
        obtain ⟨q1, q2⟩ := bcell hb1
        go_wp2_with fail
        go_roundw
        case rel => exact ⟨k + 1, upd F n (srcL gv n e s), by omega, by go_num, (hR.bw (by repeat (first | exact Bw.refl _ | assumption | refine Bw.drew ?_ | refine Bw.drewN ?_ _ | refine Bw.alloc ?_ _ | refine Bw.trans ?_ (by assumption)))).set (ho.weaken (by repeat (first | exact Bw.refl _ | assumption | refine Bw.drew ?_ | refine Bw.drewN ?_ _ | refine Bw.alloc ?_ _ | refine Bw.trans ?_ (by assumption)))), (unhide Hnext) _ (by rw [unhide Hsrc]), Bw.setCell (by repeat (first | exact Bw.refl _ | assumption | refine Bw.drew ?_ | refine Bw.drewN ?_ _ | refine Bw.alloc ?_ _ | refine Bw.trans ?_ (by assumption))) (by simp) _⟩
        case measure => simp [intOf]; omega
      · have Hst := hide (hG.step hgv (e := e) hs hnl k0 (F := F) (P := P) (fun a ha hr => hF a ha (by rw [unhide Hrk] at hr; exact hr)) hpp)
        have Hin : Hid (∀ z ∈ inputsL (ndn ns n), ∃ a : Nat, z = a ∧ a < ns.length ∧ ((ndn ns n).kind = 3 → (F a).length ≤ 100000)) := hide (by
          intro z hz
          obtain ⟨a, rfl, ha, _, hr⟩ := hG.inp hnl hz
          refine ⟨a, rfl, ha, fun k3 => ?_⟩
          have hr := hr (by omega)
          rw [unhide Hrk] at hr
          rw [(hF a ha hr).length_eq]
          have := hG.val_len hgv e hs ha
          omega)
        have H2 := hide (fun h => hG.pass hnl h)
        have H6 := hide (fun h => hG.sum8 hnl h)
        have Hk0 := hide k0
        have k0b : ((ndn ns n).kind == 0) = false := by simp [k0]
        clear k0
        go_wp2_with fail
        refine (cameTo_any (ndn ns n) W (w.heap.size + 1 + 1) g' ns.length _ _ F P _ (by repeat (first | exact Bw.refl _ | assumption | refine Bw.drew ?_ | refine Bw.drewN ?_ _ | refine Bw.alloc ?_ _ | refine Bw.trans ?_ (by assumption))) (hR.bw (by repeat (first | exact Bw.refl _ | assumption | refine Bw.drew ?_ | refine Bw.drewN ?_ _ | refine Bw.alloc ?_ _ | refine Bw.trans ?_ (by assumption)))) (hP.bw (by repeat (first | exact Bw.refl _ | assumption | refine Bw.drew ?_ | refine Bw.drewN ?_ _ | refine Bw.alloc ?_ _ | refine Bw.trans ?_ (by assumption)))) hl.2 (unhide Hk0) (unhide Hin)).mono ?_
        rintro en w1 ⟨la, lc, rfl, ho, hlc, hb1⟩
        obtain ⟨q1, q2⟩ := bcell hb1
        go_wp2_with fail
        refine (outOf_any (ndn ns n) _ la lc _ ho.ints.1 (Nat.le_trans (unhide Hst).2.1 (by omega)) hlc (unhide Hst).1 (unhide H2) (unhide H6)).mono ?_
        rintro en w2 ⟨v, l, rfl, ho2, hperm, hb2⟩
        obtain ⟨va1, vc1, rfl, hvc⟩ := ho2.slice
        have hR2 : RowAt W w2 (w.heap.size + 1 + 1) ns.length F := hR.bw (by repeat (first | exact Bw.refl _ | assumption | refine Bw.drew ?_ | refine Bw.drewN ?_ _ | refine Bw.alloc ?_ _ | refine Bw.trans ?_ (by assumption)))
        obtain ⟨ola2, olc2, ocell2, _, _⟩ := hR2.get hnl
        have hfr2 := hR2.fr n
        have gz3 := hR2.lt
        clear q1 q2
        have Hperm := hide hperm
        clear hperm
        go_wp2_with fail
        go_roundw
        case rel => exact ⟨k + 1, upd F n l, by omega, by go_num, hR2.set (ho2.weaken (by repeat (first | exact Bw.refl _ | assumption | refine Bw.drew ?_ | refine Bw.drewN ?_ _ | refine Bw.alloc ?_ _ | refine Bw.trans ?_ (by assumption)))), (unhide Hnext) _ ((unhide Hst).2.2 _ (unhide Hperm)), Bw.setCell (by repeat (first | exact Bw.refl _ | assumption | refine Bw.drew ?_ | refine Bw.drewN ?_ _ | refine Bw.alloc ?_ _ | refine Bw.trans ?_ (by assumption))) (by simp) _⟩
        case measure => simp [intOf]; omega
    · have hkk : k = q.length := by omega
      subst hkk
      go_wp2_with fail
      go_ret
      exact ⟨_, F, rfl, hR, fun n hn => hF n hn (List.idxOf_lt_length_iff.2 (hasB_iff.1 (hG.all n hn))), hBw⟩
end Go.Proofs.Ytfemleimkbjehaa
