import Derived.Test.YtfemleimkbjehaaPureS
namespace Go.Proofs.Ytfemleimkbjehaa
open Go.RowKit

theorem hasB_snoc (xs : List Int) (a n : Int) : hasB (xs ++ [a]) n = (hasB xs n || (a == n)) := by
  rw [Bool.eq_iff_iff, Bool.or_eq_true, hasB_iff, hasB_iff, List.mem_append, List.mem_singleton, beq_iff_eq, @eq_comm Int a n]
theorem take_snoc {l : List Int} {k : Nat} (h : k < l.length) : l.take (k + 1) = l.take k ++ [nth l k] := by
  rw [List.take_succ_eq_append_getElem h, nth_lt h]

set_option maxRecDepth 100000 in
set_option maxHeartbeats 4000000 in
theorem on_any (ns : List Nd) (ga : Option Addr) (gc : Nat) (r : Int) (l : List Int) (la : Option Addr) (lc : Nat) (n : Int) (w : World) (hn : NodesAt w ga ns) (hx : IntsAt w la l) (_hg : ns.length ≤ 8) (hll : l.length ≤ 8) (ok : CycOk ns l) (hnl : n ∈ l) :
    Calls Try.prog 19 #[.agg #[.slice ga ns.length gc, .int .i64 r], .slice la l.length lc, .int .i64 n] w fun e w' => e = .returned (.bool true) ∧ Bw w w' := by
  have hpos := ok.pos
  have Hfin : Hid (hasB (l.take l.length) n = true) := hide (by rw [List.take_length]; exact hasB_iff.2 hnl)
  go_enter Try.func19, Try.ntmps19
  go_wp2_with fail
  go_loopw [7, 8] (fun v i wr => ∃ k : Nat, k ≤ l.length ∧ i = .int .i64 k ∧ v = .bool (hasB (l.take k) n) ∧ Bw (w.alloc (.cells #[.slice ga ns.length gc, .int .i64 r] 24)) wr) (fun _ i _ => l.length - (intOf i).toNat)
  case atStart => exact ⟨0, Nat.zero_le _, rfl, by simp [hasB], Bw.refl _⟩
  case round =>
    obtain ⟨k, hk, rfl, rfl, hB⟩ := hrel
    obtain ⟨gcc, gff⟩ := bcell hB
    have gz : w.heap.size < wr.heap.size := by have := hB.size; simp at this; omega
    by_cases hlt : k < l.length
    · obtain ⟨b2, off2, rfl, hb2, hc2⟩ := hx k hlt
      have hn1 := hc2 k hlt
      have Hc2 := hide hc2
      clear hc2
      obtain ⟨q, hq, hqm, hqt⟩ : ∃ q : Nat, q < l.length ∧ ((k : Int) + 1) % (l.length : Int) = (q : Int) ∧ takesB (ndn ns (nth l q).toNat) (nth l k) = true := by
        by_cases e : k + 1 < l.length
        · exact ⟨k + 1, e, by rw [Int.emod_eq_of_lt (by omega) (by omega)]; omega, ok.next k e⟩
        · exact ⟨0, hpos, by rw [show ((k : Int) + 1) = (l.length : Int) by omega]; simp, by have := ok.first; rw [show l.length - 1 = k by omega] at this; exact this⟩
      have hn2 := (unhide Hc2) q hq
      obtain ⟨hm0, hm1⟩ := ok.node k hlt
      obtain ⟨hq0, hq1⟩ := ok.node q hq
      have hbk := ok.back q hq
      have Honce := hide (ok.once k hlt)
      have Hts := hide (take_snoc hlt)
      have Hsn := hide (hasB_snoc (l.take k) (nth l k) n)
      generalize hnn : nth l k = a at hn1 hm0 hm1 Honce hqt Hts Hsn
      generalize hnq : nth l q = b' at hn2 hq0 hq1 hbk hqt
      clear hnn hnq
      obtain ⟨m, rfl⟩ := Int.eq_ofNat_of_zero_le hm0
      obtain ⟨p, rfl⟩ := Int.eq_ofNat_of_zero_le hq0
      rw [Int.toNat_natCast] at hbk hqt
      obtain ⟨b, off, rfl, hb, hc⟩ := hn p (by omega)
      obtain ⟨c0, c1, c2, c3, c4⟩ := hc p (by omega)
      clear hc
      have gzb : b < wr.heap.size := by omega
      have gzb2 : b2 < wr.heap.size := by omega
      have hd3 : decide (ns.length ≤ m) = false := by simp; omega
      have hd4 : decide (ns.length ≤ p) = false := by simp; omega
      have h4 : ((ndn ns p).kind != 4) = true := by simp [bne, hbk]
      unfold takesB at hqt
      simp only [Bool.and_eq_true, Bool.not_eq_true', Bool.or_eq_true] at hqt
      obtain ⟨h0, hab⟩ := hqt
      have h0' : ((ndn ns p).kind != 0) = true := by simp [bne, h0]
      generalize hfound : hasB (l.take k) n = found at Hsn
      have Hfound := hide hfound
      clear hfound
      cases ha : ((ndn ns p).a == (m : Int)) with
      | true =>
        clear hab
        go_wp2_with fail
        go_loop [13] (fun i => ∃ j : Nat, j ≤ k ∧ i = .int .i64 j) (fun i => k - (intOf i).toNat)
        case atStart => exact ⟨0, Nat.zero_le _, rfl⟩
        case round =>
          obtain ⟨j, hj, rfl⟩ := hrel
          by_cases hjk : j < k
          · have hd1 := (unhide Hc2) j (by omega)
            have hne := (unhide Honce) j hjk
            go_wp2_with fail
            go_round
            case rel => exact ⟨j + 1, by omega, by go_num⟩
            case measure => simp [intOf]; omega
          · cases found with
            | true =>
              go_wp2_with fail
              go_roundw
              case rel => exact ⟨k + 1, by omega, by go_num, by rw [unhide Hts, unhide Hsn]; rfl, (by repeat (first | exact Bw.refl _ | assumption | refine Bw.drew ?_ | refine Bw.drewN ?_ _ | refine Bw.alloc ?_ _ | refine Bw.trans ?_ (by assumption)))⟩
              case measure => simp [intOf]; omega
            | false =>
              go_wp2_with fail
              go_roundw
              case rel => exact ⟨k + 1, by omega, by go_num, by rw [unhide Hts, unhide Hsn]; rfl, (by repeat (first | exact Bw.refl _ | assumption | refine Bw.drew ?_ | refine Bw.drewN ?_ _ | refine Bw.alloc ?_ _ | refine Bw.trans ?_ (by assumption)))⟩
              case measure => simp [intOf]; omega
      | false =>
        rw [ha] at hab
        obtain ⟨hb3, hbm⟩ : ((ndn ns p).kind == 3) = true ∧ ((ndn ns p).b == (m : Int)) = true := by simpa using hab
        clear hab
        go_wp2_with fail
        go_loop [13] (fun i => ∃ j : Nat, j ≤ k ∧ i = .int .i64 j) (fun i => k - (intOf i).toNat)
        case atStart => exact ⟨0, Nat.zero_le _, rfl⟩
        case round =>
          obtain ⟨j, hj, rfl⟩ := hrel
          by_cases hjk : j < k
          · have hd1 := (unhide Hc2) j (by omega)
            have hne := (unhide Honce) j hjk
            go_wp2_with fail
            go_round
            case rel => exact ⟨j + 1, by omega, by go_num⟩
            case measure => simp [intOf]; omega
          · cases found with
            | true =>
              go_wp2_with fail
              go_roundw
              case rel => exact ⟨k + 1, by omega, by go_num, by rw [unhide Hts, unhide Hsn]; rfl, (by repeat (first | exact Bw.refl _ | assumption | refine Bw.drew ?_ | refine Bw.drewN ?_ _ | refine Bw.alloc ?_ _ | refine Bw.trans ?_ (by assumption)))⟩
              case measure => simp [intOf]; omega
            | false =>
              go_wp2_with fail
              go_roundw
              case rel => exact ⟨k + 1, by omega, by go_num, by rw [unhide Hts, unhide Hsn]; rfl, (by repeat (first | exact Bw.refl _ | assumption | refine Bw.drew ?_ | refine Bw.drewN ?_ _ | refine Bw.alloc ?_ _ | refine Bw.trans ?_ (by assumption)))⟩
              case measure => simp [intOf]; omega
    · have hkk : k = l.length := by omega
      subst hkk
      rw [unhide Hfin]
      go_wp2_with fail
      go_ret
      exact ⟨rfl, (by repeat (first | exact Bw.refl _ | assumption | refine Bw.drew ?_ | refine Bw.drewN ?_ _ | refine Bw.alloc ?_ _ | refine Bw.trans ?_ (by assumption)))⟩
end Go.Proofs.Ytfemleimkbjehaa
