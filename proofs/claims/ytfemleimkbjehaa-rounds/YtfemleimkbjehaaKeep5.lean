import Derived.Test.YtfemleimkbjehaaKeep4
namespace Go.Proofs.Ytfemleimkbjehaa
open Go.RowKit

def turn1 (ns : List Nd) (n k : Nat) : Nd := if k = n then ⟨1, (ndn ns k).a, 0, 0, 0⟩ else ndn ns k
def turnTo (ns : List Nd) (n : Nat) : Nat → List Nd
  | 0 => []
  | k + 1 => turnTo ns n k ++ [turn1 ns n k]
theorem turnTo_len (ns : List Nd) (n k : Nat) : (turnTo ns n k).length = k := by
  induction k with
  | zero => rfl
  | succ k ih => simp [turnTo, ih]
theorem turnTo_nd (ns : List Nd) (n : Nat) : ∀ k j, j < k → ndn (turnTo ns n k) j = turn1 ns n j := by
  intro k
  induction k with
  | zero => intro j hj; omega
  | succ k ih =>
    intro j hj
    unfold turnTo
    by_cases e : j < k
    · rw [ndn_app (by rw [turnTo_len]; exact e)]; exact ih j e
    · have hjk : j = (turnTo ns n k).length := by rw [turnTo_len]; omega
      have hjk2 : j = k := by omega
      rw [hjk, ndn_last, ← hjk, hjk2]

set_option maxRecDepth 100000 in
set_option maxHeartbeats 4000000 in
theorem turned_any (ns : List Nd) (ga : Option Addr) (gc : Nat) (r : Int) (n : Nat) (w : World) (hn : NodesAt w ga ns) (hg : ns.length ≤ 8) :
    Calls Try.prog 18 #[.agg #[.slice ga ns.length gc, .int .i64 r], .int .i64 (n : Int)] w fun e w' => ∃ oa oc, e = .returned (.agg #[.slice oa (turnTo ns n ns.length).length oc, .int .i64 r]) ∧ NodesAt w' oa (turnTo ns n ns.length) ∧ Bw w w' := by
  go_enter Try.func18, Try.ntmps18
  go_wp2_with fail
  go_loopw [6] (fun i wr => ∃ (k : Nat) (v : Value), i = .int .i64 k ∧ k ≤ ns.length ∧ OwnN (((w.alloc (.cells #[.slice ga ns.length gc, .int .i64 r] 24)).alloc (.cells #[.slice none 0 0, .int .i64 0] 24)).alloc (.cells #[.slice none 0 0, .int .i64 r] 24)) wr v (turnTo ns n k) ∧
      wr.cell? ⟨w.heap.size + 1 + 1, 0, none⟩ = some v ∧ wr.cell? ⟨w.heap.size + 1 + 1, 1, none⟩ = some (.int .i64 r) ∧ (∀ k, wr.frozen? ⟨w.heap.size + 1 + 1, k, none⟩ = false) ∧ Bw ((w.alloc (.cells #[.slice ga ns.length gc, .int .i64 r] 24)).alloc (.cells #[.slice none 0 0, .int .i64 0] 24)) wr ∧ w.heap.size + 1 + 1 + 1 ≤ wr.heap.size)
    (fun i _ => ns.length - (intOf i).toNat)
  case atStart => exact ⟨0, .slice none 0 0, rfl, Nat.zero_le _, OwnN.nil _ _, by simp [go_sem], by simp [go_sem], fun k => by simp [go_sem], (by repeat (first | exact Bw.refl _ | assumption | refine Bw.drew ?_ | refine Bw.drewN ?_ _ | refine Bw.alloc ?_ _ | refine Bw.trans ?_ (by assumption))), by simp⟩
  case round =>
    obtain ⟨k, v, rfl, hk, hown, e0, e1, hfr, hB, hsz⟩ := hrel
    obtain ⟨gcc, gff⟩ := bcell hB
    obtain ⟨va, vc, rfl, hvx, _⟩ := hown.form
    have htl := turnTo_len ns n k
    rw [htl] at e0 hown
    have hsz2 : w.heap.size + 1 + 1 < wr.heap.size := by omega
    have hsz3 : w.heap.size + 1 + 1 < wr.heap.size + 1 := by omega
    by_cases hlt : k < ns.length
    · obtain ⟨b, off, rfl, hb, hc⟩ := hn k hlt
      obtain ⟨c0, c1, c2, c3, c4⟩ := hc k hlt
      have hcw : ∀ k, wr.cell? ⟨b, k, none⟩ = w.cell? ⟨b, k, none⟩ := fun k => (bcell (show Bw w wr from (by repeat (first | exact Bw.refl _ | assumption | refine Bw.drew ?_ | refine Bw.drewN ?_ _ | refine Bw.alloc ?_ _ | refine Bw.trans ?_ (by assumption))))).1 b k hb
      rw [← hcw] at c0 c1 c2 c3 c4
      clear hc hcw
      by_cases hkn : k = n
      · have hkn' : ((k : Int) == (n : Int)) = true := by simp [hkn]
        have Ht : Hid (turnTo ns n (k + 1) = turnTo ns n k ++ [⟨1, (ndn ns k).a, 0, 0, 0⟩]) := hide (by simp [turnTo, turn1, hkn])
        clear hkn
        have Htl := hide htl
        go_wp2_with (at_builtin; (refine appNd _ rfl _ _ rfl (((w.alloc (.cells #[.slice (some ⟨b, off, none⟩) ns.length gc, .int .i64 r] 24)).alloc (.cells #[.slice none 0 0, .int .i64 0] 24)).alloc (.cells #[.slice none 0 0, .int .i64 r] 24)) _ (turnTo ns n k) rfl (hown.bw (by repeat (first | exact Bw.refl _ | assumption | refine Bw.drew ?_ | refine Bw.drewN ?_ _ | refine Bw.alloc ?_ _ | refine Bw.trans ?_ (by assumption)))) _ _ ⟨1, (ndn ns k).a, 0, 0, 0⟩ rfl (cells5 (by simp) (by simp) (by simp) (by simp) (by simp)) (by omega) (by simp; omega) ?_; intro v4 w4 hown4 hcl4 hfr4 hsz4 hV4; obtain ⟨a4, cc4, e4, _, _⟩ := hown4.form; rw [lenN_snoc, htl] at e4; subst e4; have f0 : w4.cell? ⟨w.heap.size + 1 + 1, 0, none⟩ = some (.slice va k vc) := (by rw [hcl4 _ _ (by simp)]; simp [go_sem, hsz2, hsz3, e0]); have f1 : w4.cell? ⟨w.heap.size + 1 + 1, 1, none⟩ = some (.int .i64 r) := (by rw [hcl4 _ _ (by simp)]; simp [go_sem, hsz2, hsz3, e1]); have f2 : ∀ k, w4.frozen? ⟨w.heap.size + 1 + 1, k, none⟩ = false := (fun k => by rw [hfr4 _ _ (by simp)]; simp [go_sem, hsz2, hsz3, hfr]); clear hcl4 hfr4))
        go_roundw
        case rel => exact ⟨k + 1, .slice a4 (k + 1) cc4, by go_num, by omega, by rw [unhide Ht]; exact hown4.setOther (by simp), cs_eq f0, (cs_ne (by omega)).trans f1, fun k => by simp [f2], (hV4 _ (by repeat (first | exact Bw.refl _ | assumption | refine Bw.drew ?_ | refine Bw.drewN ?_ _ | refine Bw.alloc ?_ _ | refine Bw.trans ?_ (by assumption))) (by simp)).setCell (by simp) _, by have := hsz4; simp at this ⊢; omega⟩
        case measure => simp [intOf]; omega
      · have hkn' : ((k : Int) == (n : Int)) = false := by simp; omega
        have Ht : Hid (turnTo ns n (k + 1) = turnTo ns n k ++ [ndn ns k]) := hide (by simp [turnTo, turn1, hkn])
        clear hkn
        have Htl := hide htl
        go_wp2_with (at_builtin; (refine appNd _ rfl _ _ rfl (((w.alloc (.cells #[.slice (some ⟨b, off, none⟩) ns.length gc, .int .i64 r] 24)).alloc (.cells #[.slice none 0 0, .int .i64 0] 24)).alloc (.cells #[.slice none 0 0, .int .i64 r] 24)) _ (turnTo ns n k) rfl (hown.bw (by repeat (first | exact Bw.refl _ | assumption | refine Bw.drew ?_ | refine Bw.drewN ?_ _ | refine Bw.alloc ?_ _ | refine Bw.trans ?_ (by assumption)))) _ _ (ndn ns k) rfl (cells5 (by simp) (by simp) (by simp) (by simp) (by simp)) (by omega) (by simp; omega) ?_; intro v4 w4 hown4 hcl4 hfr4 hsz4 hV4; obtain ⟨a4, cc4, e4, _, _⟩ := hown4.form; rw [lenN_snoc, htl] at e4; subst e4; have f0 : w4.cell? ⟨w.heap.size + 1 + 1, 0, none⟩ = some (.slice va k vc) := (by rw [hcl4 _ _ (by simp)]; simp [go_sem, hsz2, hsz3, e0]); have f1 : w4.cell? ⟨w.heap.size + 1 + 1, 1, none⟩ = some (.int .i64 r) := (by rw [hcl4 _ _ (by simp)]; simp [go_sem, hsz2, hsz3, e1]); have f2 : ∀ k, w4.frozen? ⟨w.heap.size + 1 + 1, k, none⟩ = false := (fun k => by rw [hfr4 _ _ (by simp)]; simp [go_sem, hsz2, hsz3, hfr]); clear hcl4 hfr4))
        go_roundw
        case rel => exact ⟨k + 1, .slice a4 (k + 1) cc4, by go_num, by omega, by rw [unhide Ht]; exact hown4.setOther (by simp), cs_eq f0, (cs_ne (by omega)).trans f1, fun k => by simp [f2], (hV4 _ (by repeat (first | exact Bw.refl _ | assumption | refine Bw.drew ?_ | refine Bw.drewN ?_ _ | refine Bw.alloc ?_ _ | refine Bw.trans ?_ (by assumption))) (by simp)).setCell (by simp) _, by have := hsz4; simp at this ⊢; omega⟩
        case measure => simp [intOf]; omega
    · have hkk : k = ns.length := by omega
      subst hkk
      have hBr := hB
      have u0 : wr.cell? ⟨w.heap.size + 1, 0, none⟩ = some (.slice none 0 0) := ((bcell hBr).1 _ _ (by simp)).trans (by simp)
      have u1 : wr.cell? ⟨w.heap.size + 1, 1, none⟩ = some (.int .i64 0) := ((bcell hBr).1 _ _ (by simp)).trans (by simp)
      have uf : ∀ k, wr.frozen? ⟨w.heap.size + 1, k, none⟩ = false := fun k => ((bcell hBr).2 _ _ (by simp)).trans (by simp)
      go_wp2_with fail
      refine bodyPost_ret (v := .agg #[.slice va ns.length vc, .int .i64 r]) (by simp [results, Try.results18, go_sem, u0, u1]) rfl ⟨va, vc, by rw [htl], ?_, ?_⟩
      · exact ((hown.setOther (by simp)).setOther (by simp)).nodes
      · refine Bw.setCell (Bw.setCell ?_ (by simp only; omega) _) (by simp only; omega) _
        exact (by repeat (first | exact Bw.refl _ | assumption | refine Bw.drew ?_ | refine Bw.drewN ?_ _ | refine Bw.alloc ?_ _ | refine Bw.trans ?_ (by assumption)))
end Go.Proofs.Ytfemleimkbjehaa
