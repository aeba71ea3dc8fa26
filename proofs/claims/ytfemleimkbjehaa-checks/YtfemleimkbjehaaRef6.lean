import Derived.Test.YtfemleimkbjehaaRef5
namespace Go.Proofs.Ytfemleimkbjehaa
open Go.RowKit

/-- What Check may tell as a cycle. -/
structure CycOk (ns : List Nd) (l : List Int) : Prop where
  pos : 0 < l.length
  node : ∀ i, i < l.length → 0 ≤ nth l i ∧ nth l i < ns.length
  back : ∀ i, i < l.length → ((ndn ns (nth l i).toNat).kind == 4) = false
  once : ∀ i, i < l.length → ∀ j, j < i → (nth l j == nth l i) = false
  first : takesB (ndn ns (nth l 0).toNat) (nth l (l.length - 1)) = true
  next : ∀ i, i + 1 < l.length → takesB (ndn ns (nth l (i + 1)).toNat) (nth l i) = true

set_option maxRecDepth 100000 in
set_option maxHeartbeats 2000000 in
theorem cycok_any (ns : List Nd) (ga : Option Addr) (gc : Nat) (r : Int) (l : List Int) (la : Option Addr) (lc : Nat) (w : World) (hn : NodesAt w ga ns) (hx : IntsAt w la l) (_hl : ns.length ≤ 8) (hll : l.length ≤ 8) (ok : CycOk ns l) :
    Calls Try.prog 42 #[.agg #[.slice ga ns.length gc, .int .i64 r], .slice la l.length lc] w fun e w' => e = .returned (.bool true) ∧ Bw w w' := by
  have hpos := ok.pos
  go_enter Try.func42, Try.ntmps42
  go_wp2_with fail
  go_loopw [5] (fun i wr => ∃ k : Nat, k ≤ l.length ∧ i = .int .i64 k ∧ Bw (w.alloc (.cells #[.slice ga ns.length gc, .int .i64 r] 24)) wr) (fun i _ => l.length - (intOf i).toNat)
  case atStart => exact ⟨0, Nat.zero_le _, rfl, Bw.refl _⟩
  case round =>
    obtain ⟨k, hk, rfl, hB⟩ := hrel
    obtain ⟨gcc, gff⟩ := bcell hB
    have gz : w.heap.size < wr.heap.size := by have := hB.size; simp at this; omega
    by_cases hlt : k < l.length
    · obtain ⟨b2, off2, rfl, hb2, hc2⟩ := hx k hlt
      have hn1 := hc2 k hlt
      have Hc2 := hide hc2
      clear hc2
      obtain ⟨hm0, hm1⟩ := ok.node k hlt
      have hbk := ok.back k hlt
      have Honce := hide (ok.once k hlt)
      have HT : Hid (∀ p : Nat, (k = 0 → p = l.length - 1) → (0 < k → p = k - 1) → takesB (ndn ns (nth l k).toNat) (nth l p) = true) := hide (by
        intro p h0 h1
        by_cases e : k = 0
        · subst e; rw [h0 rfl]; exact ok.first
        · obtain ⟨k', rfl⟩ : ∃ k', k = k' + 1 := ⟨k - 1, by omega⟩
          rw [h1 (by omega)]; exact ok.next k' hlt)
      generalize hnn : nth l k = n at hn1 hm0 hm1 hbk Honce HT
      have Hnn := hide hnn
      clear hnn
      obtain ⟨m, rfl⟩ := Int.eq_ofNat_of_zero_le hm0
      rw [Int.toNat_natCast] at hbk HT
      have hbk1 : ¬ (ndn ns m).kind = 4 := by simpa using hbk
      obtain ⟨b, off, rfl, hb, hc⟩ := hn m (by omega)
      obtain ⟨c0, c1, c2, c3, c4⟩ := hc m (by omega)
      clear hc
      have gzb : b < wr.heap.size := by omega
      have gzb2 : b2 < wr.heap.size := by omega
      have hmn : m < ns.length := by omega
      have hd3 : decide (ns.length ≤ m) = false := by simp; omega
      go_wp2_with fail
      go_loop [7] (fun i => ∃ j : Nat, j ≤ k ∧ i = .int .i64 j) (fun i => k - (intOf i).toNat)
      case atStart => exact ⟨0, Nat.zero_le _, rfl⟩
      case round =>
        obtain ⟨j, hj, rfl⟩ := hrel
        by_cases hjk : j < k
        · have hd1 := (unhide Hc2) j (by omega)
          have hne := (unhide Honce) j hjk
          go_wp2_with fail
          go_round
          case rel => exact ⟨j + 1, by omega, by go_num⟩
          case measure => simp [intOf]; omega
        · have hd1 := (unhide Hc2) (l.length - 1) (by omega)
          by_cases hk0 : 0 < k
          · have hd2 := (unhide Hc2) (k - 1) (by omega)
            have Ht := hide ((unhide HT) (k - 1) (by omega) (by omega))
            go_wp2_with (go_at_call 71; refine (rtakes_any (ndn ns m) _ _).mono ?_; rintro e w' ⟨rfl, hbl⟩; rw [unhide Ht])
            go_roundw
            case rel => exact ⟨k + 1, by omega, by go_num, (by repeat (first | exact Bw.refl _ | assumption | refine Bw.drew ?_ | refine Bw.drewN ?_ _ | refine Bw.alloc ?_ _ | refine Bw.trans ?_ (by assumption)))⟩
            case measure => simp [intOf]; omega
          · have Ht := hide ((unhide HT) (l.length - 1) (by omega) (by omega))
            go_wp2_with (go_at_call 71; refine (rtakes_any (ndn ns m) _ _).mono ?_; rintro e w' ⟨rfl, hbl⟩; rw [unhide Ht])
            go_roundw
            case rel => exact ⟨k + 1, by omega, by go_num, (by repeat (first | exact Bw.refl _ | assumption | refine Bw.drew ?_ | refine Bw.drewN ?_ _ | refine Bw.alloc ?_ _ | refine Bw.trans ?_ (by assumption)))⟩
            case measure => simp [intOf]; omega
    · go_wp2_with fail
      go_ret
      exact ⟨ret_bool (by simp), (by repeat (first | exact Bw.refl _ | assumption | refine Bw.drew ?_ | refine Bw.drewN ?_ _ | refine Bw.alloc ?_ _ | refine Bw.trans ?_ (by assumption)))⟩
end Go.Proofs.Ytfemleimkbjehaa
