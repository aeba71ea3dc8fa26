import Derived.Test.YtfemleimkbjehaaDist1
namespace Go.Proofs.Ytfemleimkbjehaa
open Go.RowKit

set_option maxRecDepth 100000 in
set_option maxHeartbeats 4000000 in
theorem oneMore_any (ns : List Nd) (ga : Option Addr) (gc : Nat) (r : Int) (fr : List Int) (fa : Option Addr) (fc : Nat) (w : World) (hn : NodesAt w ga ns) (hx : IntsAt w fa fr) (hg : ns.length ≤ 8) (hl1 : fr.length ≤ ns.length) (hlow : Low 8 fr) :
    Calls Try.prog 101 #[.agg #[.slice ga ns.length gc, .int .i64 r], .slice fa fr.length fc] w fun e w' => ∃ v, e = .returned v ∧ Own w w' v (moreL ns fr fr.length) ∧ Bw w w' := by
  go_enter Try.func101, Try.ntmps101
  go_wp2_with fail
  go_loopw [5, 12] (fun v i wr => ∃ k : Nat, k ≤ fr.length ∧ i = .int .i64 k ∧ Own (w.alloc (.cells #[.slice ga ns.length gc, .int .i64 r] 24)) wr v (moreL ns fr k) ∧ Bw (w.alloc (.cells #[.slice ga ns.length gc, .int .i64 r] 24)) wr) (fun _ i _ => fr.length - (intOf i).toNat)
  case atStart => exact ⟨0, Nat.zero_le _, rfl, Own.nil _ _, Bw.refl _⟩
  case round =>
    obtain ⟨k, hk, rfl, hown, hB⟩ := hrel
    rename World => wo
    have Hml := hide (moreL_len ns fr k)
    by_cases hlt : k < fr.length
    · obtain ⟨bf, of, rfl, hbf, hcf⟩ := hx k hlt
      have hfk := hcf k hlt
      have Hcf := hide hcf
      clear hcf
      obtain ⟨b, off, rfl, hb, hc⟩ := hn k (by omega)
      obtain ⟨c0, c1, c2, c3, c4⟩ := hc k (by omega)
      have Hc := hide hc
      clear hc
      have hbk := hlow k hlt
      have Hmb := hide (fun y (hy : y ≤ fr.length) => moreTo_bd (ns := ns) (x := k) hlow hbk.1 (by omega) y hy)
      obtain ⟨gcc, gff⟩ := bcell hB
      have gz : w.heap.size < wo.heap.size := by have := hB.size; simp at this; omega
      go_wp2_with fail
      go_loopw [7, 19] (fun d i wi => ∃ y : Nat, y ≤ fr.length ∧ i = .int .i64 y ∧ d = .int .i64 (moreTo ns fr k (nth fr k) y) ∧ Bw wo wi) (fun _ i _ => fr.length - (intOf i).toNat)
      case atStart => exact ⟨0, Nat.zero_le _, rfl, rfl, Bw.refl _⟩
      case round =>
        obtain ⟨y, hy, rfl, rfl, hBi⟩ := hrel
        have hBw : Bw (w.alloc (.cells #[.slice (some ⟨b, off, none⟩) ns.length gc, .int .i64 r] 24)) wr := (by repeat (first | exact Bw.refl _ | assumption | refine Bw.drew ?_ | refine Bw.drewN ?_ _ | refine Bw.alloc ?_ _ | refine Bw.trans ?_ (by assumption)))
        clear gcc gff gz
        obtain ⟨gcc, gff⟩ := bcell hBw
        have gz : w.heap.size < wr.heap.size := by have := hBw.size; simp at this; omega
        by_cases hyl : y < fr.length
        · have hfy := (unhide Hcf) y hyl
          obtain ⟨e0, _⟩ := (unhide Hc) y (by omega)
          have hby := hlow y hyl
          have hbd := (unhide Hmb) y hy
          have gzb : b < wr.heap.size := by omega
          have Hskip := hide (@moreTo_skip ns fr k (nth fr k) y)
          have Hgo := hide (@moreTo_go ns fr k (nth fr k) y)
          have Hy4 := hide (@toY_back ns fr y)
          have Hyn := hide (@toY_not ns fr y)
          generalize hdd : moreTo ns fr k (nth fr k) y = dd at hbd Hskip Hgo
          generalize hff : nth fr y = fy at hfy hby Hskip Hgo Hy4 Hyn
          have Hdd := hide hdd
          clear hdd hff
          by_cases hm1 : fy = -1
          · have hm2 : (fy == -1) = true := by simp [hm1]
            have Hs := hide ((unhide Hskip) (.inl hm1))
            clear hm1
            go_wp2_with fail
            go_roundw
            case rel => exact ⟨y + 1, by omega, by go_num, by rw [unhide Hs], (by repeat (first | exact Bw.refl _ | assumption | refine Bw.drew ?_ | refine Bw.drewN ?_ _ | refine Bw.alloc ?_ _ | refine Bw.trans ?_ (by assumption)))⟩
            case measure => simp [intOf]; omega
          · have hm2 : (fy == -1) = false := by simpa using hm1
            cases ht : takesB (ndn ns k) y with
            | false =>
              have HT := hide ht
              have Hs := hide ((unhide Hskip) (.inr ht))
              clear ht hm1
              go_wp2_with (go_at_call 128; refine (takes_any (ndn ns k) _ _).mono ?_; rintro e w' ⟨rfl, hbl⟩; rw [unhide HT]; obtain ⟨hcc, hff⟩ := bcell hbl)
              go_roundw
              case rel => exact ⟨y + 1, by omega, by go_num, by rw [unhide Hs], (by repeat (first | exact Bw.refl _ | assumption | refine Bw.drew ?_ | refine Bw.drewN ?_ _ | refine Bw.alloc ?_ _ | refine Bw.trans ?_ (by assumption)))⟩
              case measure => simp [intOf]; omega
            | true =>
              have HT := hide ht
              have Hs := hide ((unhide Hgo) hm1 ht)
              clear ht hm1
              by_cases h4 : (ndn ns y).kind = 4
              · have h4' : ((ndn ns y).kind == 4) = true := by simp [h4]
                have Hy := hide ((unhide Hy4) h4)
                clear h4
                by_cases hd1 : dd = -1
                · have hd2 : (dd == -1) = true := by simp [hd1]
                  have Hb := hide (better_yes (t := fy + 1) (.inl hd1))
                  clear hd1
                  go_wp2_with (go_at_call 128; refine (takes_any (ndn ns k) _ _).mono ?_; rintro e w' ⟨rfl, hbl⟩; rw [unhide HT]; obtain ⟨hcc, hff⟩ := bcell hbl)
                  go_roundw
                  case rel => exact ⟨y + 1, by omega, by go_num, by rw [unhide Hs, unhide Hy, unhide Hb], (by repeat (first | exact Bw.refl _ | assumption | refine Bw.drew ?_ | refine Bw.drewN ?_ _ | refine Bw.alloc ?_ _ | refine Bw.trans ?_ (by assumption)))⟩
                  case measure => simp [intOf]; omega
                · have hd2 : (dd == -1) = false := by simpa using hd1
                  by_cases hd3 : fy + 1 < dd
                  · have Hb := hide (better_yes (.inr hd3))
                    clear hd1
                    go_wp2_with (go_at_call 128; refine (takes_any (ndn ns k) _ _).mono ?_; rintro e w' ⟨rfl, hbl⟩; rw [unhide HT]; obtain ⟨hcc, hff⟩ := bcell hbl)
                    go_roundw
                    case rel => exact ⟨y + 1, by omega, by go_num, by rw [unhide Hs, unhide Hy, unhide Hb], (by repeat (first | exact Bw.refl _ | assumption | refine Bw.drew ?_ | refine Bw.drewN ?_ _ | refine Bw.alloc ?_ _ | refine Bw.trans ?_ (by assumption)))⟩
                    case measure => simp [intOf]; omega
                  · have Hb := hide (better_no hd1 (by omega : dd ≤ fy + 1))
                    clear hd1
                    go_wp2_with (go_at_call 128; refine (takes_any (ndn ns k) _ _).mono ?_; rintro e w' ⟨rfl, hbl⟩; rw [unhide HT]; obtain ⟨hcc, hff⟩ := bcell hbl)
                    go_roundw
                    case rel => exact ⟨y + 1, by omega, by go_num, by rw [unhide Hs, unhide Hy, unhide Hb], (by repeat (first | exact Bw.refl _ | assumption | refine Bw.drew ?_ | refine Bw.drewN ?_ _ | refine Bw.alloc ?_ _ | refine Bw.trans ?_ (by assumption)))⟩
                    case measure => simp [intOf]; omega
              · have h4' : ((ndn ns y).kind == 4) = false := by simpa using h4
                have Hy := hide ((unhide Hyn) h4)
                clear h4
                by_cases hd1 : dd = -1
                · have hd2 : (dd == -1) = true := by simp [hd1]
                  have Hb := hide (better_yes (t := fy) (.inl hd1))
                  clear hd1
                  go_wp2_with (go_at_call 128; refine (takes_any (ndn ns k) _ _).mono ?_; rintro e w' ⟨rfl, hbl⟩; rw [unhide HT]; obtain ⟨hcc, hff⟩ := bcell hbl)
                  go_roundw
                  case rel => exact ⟨y + 1, by omega, by go_num, by rw [unhide Hs, unhide Hy, unhide Hb], (by repeat (first | exact Bw.refl _ | assumption | refine Bw.drew ?_ | refine Bw.drewN ?_ _ | refine Bw.alloc ?_ _ | refine Bw.trans ?_ (by assumption)))⟩
                  case measure => simp [intOf]; omega
                · have hd2 : (dd == -1) = false := by simpa using hd1
                  by_cases hd3 : fy < dd
                  · have Hb := hide (better_yes (.inr hd3))
                    clear hd1
                    go_wp2_with (go_at_call 128; refine (takes_any (ndn ns k) _ _).mono ?_; rintro e w' ⟨rfl, hbl⟩; rw [unhide HT]; obtain ⟨hcc, hff⟩ := bcell hbl)
                    go_roundw
                    case rel => exact ⟨y + 1, by omega, by go_num, by rw [unhide Hs, unhide Hy, unhide Hb], (by repeat (first | exact Bw.refl _ | assumption | refine Bw.drew ?_ | refine Bw.drewN ?_ _ | refine Bw.alloc ?_ _ | refine Bw.trans ?_ (by assumption)))⟩
                    case measure => simp [intOf]; omega
                  · have Hb := hide (better_no hd1 (by omega : dd ≤ fy))
                    clear hd1
                    go_wp2_with (go_at_call 128; refine (takes_any (ndn ns k) _ _).mono ?_; rintro e w' ⟨rfl, hbl⟩; rw [unhide HT]; obtain ⟨hcc, hff⟩ := bcell hbl)
                    go_roundw
                    case rel => exact ⟨y + 1, by omega, by go_num, by rw [unhide Hs, unhide Hy, unhide Hb], (by repeat (first | exact Bw.refl _ | assumption | refine Bw.drew ?_ | refine Bw.drewN ?_ _ | refine Bw.alloc ?_ _ | refine Bw.trans ?_ (by assumption)))⟩
                    case measure => simp [intOf]; omega
        · have hyy : y = fr.length := by omega
          subst hyy
          go_wp2_with (at_builtin; refine app1 _ rfl _ _ rfl _ _ (moreL ns fr k) rfl (hown.bw (by repeat (first | exact Bw.refl _ | assumption | refine Bw.drew ?_ | refine Bw.drewN ?_ _ | refine Bw.alloc ?_ _ | refine Bw.trans ?_ (by assumption)))) _ _ (moreTo ns fr k (nth fr k) fr.length) rfl (by simp) (by have := unhide Hml; omega) (by repeat (first | exact Bw.refl _ | assumption | refine Bw.drew ?_ | refine Bw.drewN ?_ _ | refine Bw.alloc ?_ _ | refine Bw.trans ?_ (by assumption))) ?_; intro v' w1 hown1 hB1 hgr1)
          go_roundw
          case rel => exact ⟨k + 1, by omega, by go_num, hown1, hB1⟩
          case measure => simp [intOf]; omega
    · have hkk : k = fr.length := by omega
      subst hkk
      obtain ⟨la, lc, rfl, _, _⟩ := hown.form
      go_wp2_with fail
      go_ret
      exact ⟨_, rfl, hown.weaken (by repeat (first | exact Bw.refl _ | assumption | refine Bw.drew ?_ | refine Bw.drewN ?_ _ | refine Bw.alloc ?_ _ | refine Bw.trans ?_ (by assumption))), (by repeat (first | exact Bw.refl _ | assumption | refine Bw.drew ?_ | refine Bw.drewN ?_ _ | refine Bw.alloc ?_ _ | refine Bw.trans ?_ (by assumption)))⟩
end Go.Proofs.Ytfemleimkbjehaa
