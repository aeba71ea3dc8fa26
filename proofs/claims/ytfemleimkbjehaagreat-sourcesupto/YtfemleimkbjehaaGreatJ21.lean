import Derived.Test.YtfemleimkbjehaaGreatJ20
import Derived.Test.YtfemleimkbjehaaGreatJ8
import Derived.Test.YtfemleimkbjehaaGreatJ9
import Derived.Test.YtfemleimkbjehaaGreatJ10
namespace Go.Proofs.YtfemleimkbjehaaGreat
set_option linter.unusedVariables false
set_option linter.unusedSimpArgs false
open Go.RowKit

set_option maxRecDepth 100000 in
set_option maxHeartbeats 4000000 in
theorem oneMore_any (ns : List Nd) (ga : Option Addr) (gc : Nat) (r : Int) (fr : List Int) (fa : Option Addr) (fc : Nat) (w : World) (hn : NodesAt w ga ns) (hx : IntsAt w fa fr) (hg : ns.length ≤ 8) (hl1 : fr.length ≤ ns.length) (hlow : Low 8 fr) :
    Calls Tryz.prog 110 #[.agg #[.slice ga ns.length gc, .int .i64 r], .slice fa fr.length fc] w fun e w' => ∃ v, e = .returned v ∧ Own w w' v (moreL ns fr fr.length) ∧ Bw w w' := by
  go_enter Tryz.func110, Tryz.ntmps110
  go_wp2_with fail
  go_loopw [5, 12] (fun v i wr => ∃ k : Nat, k ≤ fr.length ∧ i = .int .i64 k ∧ Own (w.alloc (.cells #[.slice ga ns.length gc, .int .i64 r] 24)) wr v (moreL ns fr k) ∧ Bw (w.alloc (.cells #[.slice ga ns.length gc, .int .i64 r] 24)) wr) (fun _ i _ => fr.length - (intOf i).toNat)
  case atStart => exact ⟨0, Nat.zero_le _, rfl, Own.nil _ _, Bw.refl _⟩
  case round =>
    obtain ⟨k, hk, rfl, hown, hB⟩ := hrel
    rename World => wo
    have Hml := hide (moreL_len ns fr k)
    by_cases hlt : k < fr.length
    · obtain ⟨bf, of, rfl, hbf, hcf⟩ := hx k hlt
      have hfk := hcf k hlt
      have Hcf := hide hcf
      clear hcf
      obtain ⟨b, off, rfl, hb, hc⟩ := hn k (by omega)
      obtain ⟨c0, c1, c2, c3, c4⟩ := hc k (by omega)
      have Hc := hide hc
      clear hc
      have hbk := hlow k hlt
      have Hmb := hide (fun y (hy : y ≤ fr.length) => moreTo_bd (ns := ns) (x := k) hlow hbk.1 (by omega) y hy)
      obtain ⟨gcc, gff⟩ := bcell hB
      have gz : w.heap.size < wo.heap.size := by have := hB.size; simp at this; omega
      go_wp2_with fail
      go_loopw [7, 19] (fun d i wi => ∃ y : Nat, y ≤ fr.length ∧ i = .int .i64 y ∧ d = .int .i64 (moreTo ns fr k (nth fr k) y) ∧ Bw wo wi) (fun _ i _ => fr.length - (intOf i).toNat)
      case atStart => exact ⟨0, Nat.zero_le _, rfl, rfl, Bw.refl _⟩
      case round =>
        obtain ⟨y, hy, rfl, rfl, hBi⟩ := hrel
        have hBw : Bw (w.alloc (.cells #[.slice (some ⟨b, off, none⟩) ns.length gc, .int .i64 r] 24)) wr := (by repeat (first | exact Bw.refl _ | assumption | refine Bw.drew ?_ | refine Bw.drewN ?_ _ | refine Bw.alloc ?_ _ | refine Bw.trans ?_ (by assumption)))
        clear gcc gff gz
        obtain ⟨gcc, gff⟩ := bcell hBw
        have gz : w.heap.size < wr.heap.size := by have := hBw.size; simp at this; omega
        by_cases hyl : y < fr.length
        · have hfy := (unhide Hcf) y hyl
          obtain ⟨e0, _⟩ := (unhide Hc) y (by omega)
          have hby := hlow y hyl
          have hbd := (unhide Hmb) y hy
          have gzb : b < wr.heap.size := by omega
          have Hskip := hide (@moreTo_skip ns fr k (nth fr k) y)
          have Hgo := hide (@moreTo_go ns fr k (nth fr k) y)
          have Hy4 := hide (@toY_back ns fr y)
          have Hyn := hide (@toY_not ns fr y)
          generalize hdd : moreTo ns fr k (nth fr k) y = dd at hbd Hskip Hgo
          generalize hff : nth fr y = fy at hfy hby Hskip Hgo Hy4 Hyn
          have Hdd := hide hdd
          clear hdd hff
          by_cases hm1 : fy = -1
          · have hm2 : (fy == -1) = true := by simp [hm1]
            have Hs := hide ((unhide Hskip) (.inl hm1))
            clear hm1
            go_wp2_with fail
            go_roundw
            case rel => exact ⟨y + 1, by omega, by go_num, by rw [unhide Hs], (by repeat (first | exact Bw.refl _ | assumption | refine Bw.drew ?_ | refine Bw.drewN ?_ _ | refine Bw.alloc ?_ _ | refine Bw.trans ?_ (by assumption)))⟩
            case measure => simp [intOf]; omega
          · have hm2 : (fy == -1) = false := by simpa using hm1
            cases ht : takesB (ndn ns k) y with
            | false =>
              have HT := hide ht
              have Hs := hide ((unhide Hskip) (.inr ht))
              clear ht hm1
              go_wp2_with (go_at_call 112; refine (takes_any (ndn ns k) _ _).mono ?_; rintro e w' ⟨rfl, hbl⟩; rw [unhide HT]; obtain ⟨hcc, hff⟩ := bcell hbl)
              go_roundw
              case rel => exact ⟨y + 1, by omega, by go_num, by rw [unhide Hs], (by repeat (first | exact Bw.refl _ | assumption | refine Bw.drew ?_ | refine Bw.drewN ?_ _ | refine Bw.alloc ?_ _ | refine Bw.trans ?_ (by assumption)))⟩
              case measure => simp [intOf]; omega
            | true =>
              have HT := hide ht
              have Hs := hide ((unhide Hgo) hm1 ht)
              clear ht hm1
              by_cases h4 : (ndn ns y).kind = 4
              · have h4' : ((ndn ns y).kind == 4) = true := by simp [h4]
                have Hy := hide ((unhide Hy4) h4)
                clear h4
                by_cases hd1 : dd = -1
                · have hd2 : (dd == -1) = true := by simp [hd1]
                  have Hb := hide (better_yes (t := fy + 1) (.inl hd1))
                  clear hd1
                  go_wp2_with (go_at_call 112; refine (takes_any (ndn ns k) _ _).mono ?_; rintro e w' ⟨rfl, hbl⟩; rw [unhide HT]; obtain ⟨hcc, hff⟩ := bcell hbl)
                  go_roundw
                  case rel => exact ⟨y + 1, by omega, by go_num, by rw [unhide Hs, unhide Hy, unhide Hb], (by repeat (first | exact Bw.refl _ | assumption | refine Bw.drew ?_ | refine Bw.drewN ?_ _ | refine Bw.alloc ?_ _ | refine Bw.trans ?_ (by assumption)))⟩
                  case measure => simp [intOf]; omega
                · have hd2 : (dd == -1) = false := by simpa using hd1
                  by_cases hd3 : fy + 1 < dd
                  · have Hb := hide (better_yes (.inr hd3))
                    clear hd1
                    go_wp2_with (go_at_call 112; refine (takes_any (ndn ns k) _ _).mono ?_; rintro e w' ⟨rfl, hbl⟩; rw [unhide HT]; obtain ⟨hcc, hff⟩ := bcell hbl)
                    go_roundw
                    case rel => exact ⟨y + 1, by omega, by go_num, by rw [unhide Hs, unhide Hy, unhide Hb], (by repeat (first | exact Bw.refl _ | assumption | refine Bw.drew ?_ | refine Bw.drewN ?_ _ | refine Bw.alloc ?_ _ | refine Bw.trans ?_ (by assumption)))⟩
                    case measure => simp [intOf]; omega
                  · have Hb := hide (better_no hd1 (by omega : dd ≤ fy + 1))
                    clear hd1
                    go_wp2_with (go_at_call 112; refine (takes_any (ndn ns k) _ _).mono ?_; rintro e w' ⟨rfl, hbl⟩; rw [unhide HT]; obtain ⟨hcc, hff⟩ := bcell hbl)
                    go_roundw
                    case rel => exact ⟨y + 1, by omega, by go_num, by rw [unhide Hs, unhide Hy, unhide Hb], (by repeat (first | exact Bw.refl _ | assumption | refine Bw.drew ?_ | refine Bw.drewN ?_ _ | refine Bw.alloc ?_ _ | refine Bw.trans ?_ (by assumption)))⟩
                    case measure => simp [intOf]; omega
              · have h4' : ((ndn ns y).kind == 4) = false := by simpa using h4
                have Hy := hide ((unhide Hyn) h4)
                clear h4
                by_cases hd1 : dd = -1
                · have hd2 : (dd == -1) = true := by simp [hd1]
                  have Hb := hide (better_yes (t := fy) (.inl hd1))
                  clear hd1
                  go_wp2_with (go_at_call 112; refine (takes_any (ndn ns k) _ _).mono ?_; rintro e w' ⟨rfl, hbl⟩; rw [unhide HT]; obtain ⟨hcc, hff⟩ := bcell hbl)
                  go_roundw
                  case rel => exact ⟨y + 1, by omega, by go_num, by rw [unhide Hs, unhide Hy, unhide Hb], (by repeat (first | exact Bw.refl _ | assumption | refine Bw.drew ?_ | refine Bw.drewN ?_ _ | refine Bw.alloc ?_ _ | refine Bw.trans ?_ (by assumption)))⟩
                  case measure => simp [intOf]; omega
                · have hd2 : (dd == -1) = false := by simpa using hd1
                  by_cases hd3 : fy < dd
                  · have Hb := hide (better_yes (.inr hd3))
                    clear hd1
                    go_wp2_with (go_at_call 112; refine (takes_any (ndn ns k) _ _).mono ?_; rintro e w' ⟨rfl, hbl⟩; rw [unhide HT]; obtain ⟨hcc, hff⟩ := bcell hbl)
                    go_roundw
                    case rel => exact ⟨y + 1, by omega, by go_num, by rw [unhide Hs, unhide Hy, unhide Hb], (by repeat (first | exact Bw.refl _ | assumption | refine Bw.drew ?_ | refine Bw.drewN ?_ _ | refine Bw.alloc ?_ _ | refine Bw.trans ?_ (by assumption)))⟩
                    case measure => simp [intOf]; omega
                  · have Hb := hide (better_no hd1 (by omega : dd ≤ fy))
                    clear hd1
                    go_wp2_with (go_at_call 112; refine (takes_any (ndn ns k) _ _).mono ?_; rintro e w' ⟨rfl, hbl⟩; rw [unhide HT]; obtain ⟨hcc, hff⟩ := bcell hbl)
                    go_roundw
                    case rel => exact ⟨y + 1, by omega, by go_num, by rw [unhide Hs, unhide Hy, unhide Hb], (by repeat (first | exact Bw.refl _ | assumption | refine Bw.drew ?_ | refine Bw.drewN ?_ _ | refine Bw.alloc ?_ _ | refine Bw.trans ?_ (by assumption)))⟩
                    case measure => simp [intOf]; omega
        · have hyy : y = fr.length := by omega
          subst hyy
          go_wp2_with (at_builtin; refine app1 _ rfl _ _ rfl _ _ (moreL ns fr k) rfl (hown.bw (by repeat (first | exact Bw.refl _ | assumption | refine Bw.drew ?_ | refine Bw.drewN ?_ _ | refine Bw.alloc ?_ _ | refine Bw.trans ?_ (by assumption)))) _ _ (moreTo ns fr k (nth fr k) fr.length) rfl (by simp) (by have := unhide Hml; omega) (by repeat (first | exact Bw.refl _ | assumption | refine Bw.drew ?_ | refine Bw.drewN ?_ _ | refine Bw.alloc ?_ _ | refine Bw.trans ?_ (by assumption))) ?_; intro v' w1 hown1 hB1 hgr1)
          go_roundw
          case rel => exact ⟨k + 1, by omega, by go_num, hown1, hB1⟩
          case measure => simp [intOf]; omega
    · have hkk : k = fr.length := by omega
      subst hkk
      obtain ⟨la, lc, rfl, _, _⟩ := hown.form
      go_wp2_with fail
      go_ret
      exact ⟨_, rfl, hown.weaken (by repeat (first | exact Bw.refl _ | assumption | refine Bw.drew ?_ | refine Bw.drewN ?_ _ | refine Bw.alloc ?_ _ | refine Bw.trans ?_ (by assumption))), (by repeat (first | exact Bw.refl _ | assumption | refine Bw.drew ?_ | refine Bw.drewN ?_ _ | refine Bw.alloc ?_ _ | refine Bw.trans ?_ (by assumption)))⟩
end Go.Proofs.YtfemleimkbjehaaGreat
namespace Go.Proofs.YtfemleimkbjehaaGreat
set_option linter.unusedVariables false
set_option linter.unusedSimpArgs false
open Go.RowKit

theorem Low.mono {c d : Int} {fr : List Int} (h : Low c fr) (hcd : c ≤ d) : Low d fr := fun j hj => ⟨(h j hj).1, by have := (h j hj).2; omega⟩

set_option maxRecDepth 100000 in
set_option maxHeartbeats 4000000 in
theorem distFrom_any (ns : List Nd) (ga : Option Addr) (gc : Nat) (r n : Int) (w : World) (hn : NodesAt w ga ns) (h1 : 1 ≤ ns.length) (h8 : ns.length ≤ 8) :
    Calls Tryz.prog 80 #[.agg #[.slice ga ns.length gc, .int .i64 r], .int .i64 n] w fun e w' => ∃ v, e = .returned v ∧ Own w w' v (distL ns n (ns.length - 1)) ∧ Bw w w' := by
  go_enter Tryz.func80, Tryz.ntmps80
  go_wp2_with fail
  refine (oneStep_any ns _ _ _ _ _ (hn.below (by repeat (first | exact Bw.refl _ | assumption | refine Bw.drew ?_ | refine Bw.drewN ?_ _ | refine Bw.alloc ?_ _ | refine Bw.trans ?_ (by assumption)))) h8).mono ?_
  rintro e w1 ⟨v, rfl, hown, hbl⟩
  have hB1 : Bw (w.alloc (.cells #[.slice ga ns.length gc, .int .i64 r] 24)) w1 := (by repeat (first | exact Bw.refl _ | assumption | refine Bw.drew ?_ | refine Bw.drewN ?_ _ | refine Bw.alloc ?_ _ | refine Bw.trans ?_ (by assumption)))
  have hown1 : Own (w.alloc (.cells #[.slice ga ns.length gc, .int .i64 r] 24)) w1 v (distL ns n 0) := hown.weaken (by repeat (first | exact Bw.refl _ | assumption | refine Bw.drew ?_ | refine Bw.drewN ?_ _ | refine Bw.alloc ?_ _ | refine Bw.trans ?_ (by assumption)))
  clear hown
  go_wp2_with fail
  go_loopw [5, 6] (fun v i wr => ∃ s : Nat, s + 1 ≤ ns.length ∧ i = .int .i64 ((s : Int) + 1) ∧ Own (w.alloc (.cells #[.slice ga ns.length gc, .int .i64 r] 24)) wr v (distL ns n s) ∧ Bw (w.alloc (.cells #[.slice ga ns.length gc, .int .i64 r] 24)) wr) (fun _ i _ => ns.length - (intOf i).toNat)
  case atStart => exact ⟨0, by omega, rfl, hown1, hB1⟩
  case round =>
    clear hown1 hB1
    obtain ⟨s, hs, rfl, hown, hB⟩ := hrel
    obtain ⟨gcc, gff⟩ := bcell hB
    have gz : w.heap.size < wr.heap.size := by have := hB.size; simp at this; omega
    obtain ⟨fa, fc, rfl, hfx, hfm⟩ := hown.form
    have Hdl := hide (distL_len ns n s)
    by_cases hlt : s + 1 < ns.length
    · have hlow := (distL_low ns n s).mono (d := 8) (by omega)
      go_wp2_with (go_at_call 110; refine (oneMore_any ns _ _ _ (distL ns n s) _ _ _ (hn.below (by repeat (first | exact Bw.refl _ | assumption | refine Bw.drew ?_ | refine Bw.drewN ?_ _ | refine Bw.alloc ?_ _ | refine Bw.trans ?_ (by assumption)))) hfx h8 (by rw [unhide Hdl]; exact Nat.le_refl _) hlow).mono ?_; rintro e w2 ⟨v2, rfl, hown2, hbl2⟩)
      go_roundw
      case rel => exact ⟨s + 1, by omega, by go_num, hown2.weaken (by repeat (first | exact Bw.refl _ | assumption | refine Bw.drew ?_ | refine Bw.drewN ?_ _ | refine Bw.alloc ?_ _ | refine Bw.trans ?_ (by assumption))), (by repeat (first | exact Bw.refl _ | assumption | refine Bw.drew ?_ | refine Bw.drewN ?_ _ | refine Bw.alloc ?_ _ | refine Bw.trans ?_ (by assumption)))⟩
      case measure => simp [intOf]; omega
    · have hss : s = ns.length - 1 := by omega
      subst hss
      go_wp2_with fail
      go_ret
      exact ⟨_, rfl, hown.weaken (by repeat (first | exact Bw.refl _ | assumption | refine Bw.drew ?_ | refine Bw.drewN ?_ _ | refine Bw.alloc ?_ _ | refine Bw.trans ?_ (by assumption))), (by repeat (first | exact Bw.refl _ | assumption | refine Bw.drew ?_ | refine Bw.drewN ?_ _ | refine Bw.alloc ?_ _ | refine Bw.trans ?_ (by assumption)))⟩
end Go.Proofs.YtfemleimkbjehaaGreat
namespace Go.Proofs.YtfemleimkbjehaaGreat
set_option linter.unusedVariables false
set_option linter.unusedSimpArgs false
open Go.RowKit

def distE (ns : List Nd) (r n x : Int) : Int := if checkE ns r = 0 then (if isNodeB ns.length n && isNodeB ns.length x then 0 else 3) else checkE ns r
def distV (ns : List Nd) (r n x : Int) : Int := if distE ns r n x = 0 then nth (distL ns n (ns.length - 1)) x.toNat else 0
def rdistV (ns : List Nd) (r n x : Int) : Int := if distE ns r n x = 0 then leastB ns x ns.length n else 0

theorem distE_bad {ns : List Nd} {r n x : Int} (h : checkE ns r ≠ 0) : distE ns r n x = checkE ns r := by simp [distE, h]
theorem distE_arg {ns : List Nd} {r n x : Int} (h : checkE ns r = 0) (h2 : (isNodeB ns.length n && isNodeB ns.length x) = false) : distE ns r n x = 3 := by unfold distE; rw [if_pos h, h2]; rfl
theorem distE_ok {ns : List Nd} {r n x : Int} (h : checkE ns r = 0) (h1 : isNodeB ns.length n = true) (h2 : isNodeB ns.length x = true) : distE ns r n x = 0 := by unfold distE; rw [if_pos h, h1, h2]; rfl
theorem checkE_zero {ns : List Nd} {r : Int} (h : checkE ns r = 0) : 1 ≤ ns.length ∧ ns.length ≤ 8 := by
  unfold checkE at h
  split at h
  · rename_i hw; exact wfB_len hw
  · cases h

end Go.Proofs.YtfemleimkbjehaaGreat
namespace Go.Proofs.YtfemleimkbjehaaGreat
set_option linter.unusedVariables false
set_option linter.unusedSimpArgs false
open Go.RowKit

theorem isNodeB_out {len : Nat} {n : Int} (h : n < 0 ∨ (len : Int) ≤ n) : isNodeB len n = false := by
  cases e : isNodeB len n with
  | false => rfl
  | true => have := isNodeB_iff.1 e; omega

theorem Handed.keep {w w' : World} {g : Nat} {ns : List Nd} (h : Handed w g ns) (hb : Bw w w') : Handed w' g ns :=
  ⟨Nat.lt_of_lt_of_le h.lt hb.size, fun j hj => NodeCells.bw (h.node j hj) h.lt hb, ⟨((bcell hb).1 _ _ h.lt).trans h.room.1, ((bcell hb).1 _ _ h.lt).trans h.room.2⟩, fun o => ((bcell hb).2 _ _ h.lt).trans (h.free o)⟩

end Go.Proofs.YtfemleimkbjehaaGreat
namespace Go.Proofs.YtfemleimkbjehaaGreat
set_option linter.unusedVariables false
set_option linter.unusedSimpArgs false
open Go.RowKit

/-- A way from n over the nodes ys to x. -/
def Chain (ns : List Nd) : Int → List Nat → Nat → Prop
  | n, [], x => takesB (ndn ns x) n = true
  | n, y :: ys, x => y < ns.length ∧ takesB (ndn ns y) n = true ∧ Chain ns (y : Int) ys x
def back1 (ns : List Nd) (y : Nat) : Int := if (ndn ns y).kind = 4 then 1 else 0
/-- How many Backs lie on it. -/
def cost (ns : List Nd) : List Nat → Int
  | [] => 0
  | y :: ys => back1 ns y + cost ns ys
theorem back1_bd (ns : List Nd) (y : Nat) : 0 ≤ back1 ns y ∧ back1 ns y ≤ 1 := by unfold back1; split <;> omega
theorem cost_nonneg (ns : List Nd) (ys : List Nat) : 0 ≤ cost ns ys := by
  induction ys with
  | nil => exact Int.le_refl _
  | cons y ys ih => have := back1_bd ns y; unfold cost; omega
theorem cost_snoc (ns : List Nd) (ys : List Nat) (y : Nat) : cost ns (ys ++ [y]) = cost ns ys + back1 ns y := by
  induction ys with
  | nil => simp [cost]
  | cons z ys ih => simp only [List.cons_append, cost, ih]; omega
theorem chain_snoc {ns : List Nd} {x y : Nat} : ∀ {ys : List Nat} {n : Int}, Chain ns n (ys ++ [y]) x ↔ Chain ns n ys y ∧ y < ns.length ∧ takesB (ndn ns x) y = true := by
  intro ys
  induction ys with
  | nil => intro n; simp only [List.nil_append, Chain]; constructor
           · rintro ⟨h1, h2, h3⟩; exact ⟨h2, h1, h3⟩
           · rintro ⟨h2, h1, h3⟩; exact ⟨h1, h2, h3⟩
  | cons z ys ih => intro n; simp only [List.cons_append, Chain, ih]; constructor
                    · rintro ⟨h1, h2, h3, h4, h5⟩; exact ⟨⟨h1, h2, h3⟩, h4, h5⟩
                    · rintro ⟨⟨h1, h2, h3⟩, h4, h5⟩; exact ⟨h1, h2, h3, h4, h5⟩

/-- v is the least number of Backs on the ways of at most s steps; -1: there is none. -/
def IsMin (ns : List Nd) (n : Int) (x s : Nat) (v : Int) : Prop :=
  (v = -1 ∧ ∀ ys, Chain ns n ys x → ¬ ys.length + 1 ≤ s) ∨
  (0 ≤ v ∧ (∃ ys, Chain ns n ys x ∧ ys.length + 1 ≤ s ∧ cost ns ys = v) ∧ ∀ ys, Chain ns n ys x → ys.length + 1 ≤ s → v ≤ cost ns ys)
theorem IsMin.eq {ns : List Nd} {n : Int} {x s : Nat} {v u : Int} (h : IsMin ns n x s v) (k : IsMin ns n x s u) : v = u := by
  rcases h with ⟨e, h⟩ | ⟨h0, ⟨ys, h1, h2, h3⟩, h4⟩
  · rcases k with ⟨e', _⟩ | ⟨_, ⟨ys, k1, k2, _⟩, _⟩
    · omega
    · exact absurd k2 (h ys k1)
  · rcases k with ⟨_, k⟩ | ⟨_, ⟨zs, k1, k2, k3⟩, k4⟩
    · exact absurd h2 (k ys h1)
    · have := h4 zs k1 k2
      have := k4 ys h1 h2
      omega

theorem leastTo_min {ns : List Nd} {f : Int → Int} {n x : Int} (hf : ∀ y, -1 ≤ f y) (K : Nat) :
    (leastTo ns f n x K = -1 ∧ ∀ y, y < K → takesB (ndn ns y) n = true → dB ns x f y = -1) ∨
    (0 ≤ leastTo ns f n x K ∧ (∃ y, y < K ∧ takesB (ndn ns y) n = true ∧ dB ns x f y = leastTo ns f n x K) ∧ ∀ y, y < K → takesB (ndn ns y) n = true → 0 ≤ dB ns x f y → leastTo ns f n x K ≤ dB ns x f y) := by
  induction K with
  | zero => exact .inl ⟨rfl, fun y hy => absurd hy (Nat.not_lt_zero y)⟩
  | succ K ih =>
    cases ht : takesB (ndn ns K) n with
    | false =>
      rw [leastTo_skip ht]
      rcases ih with ⟨h1, h2⟩ | ⟨h1, ⟨y, h2, h3⟩, h4⟩
      · refine .inl ⟨h1, fun y hy hyt => ?_⟩
        by_cases e : y = K
        · subst e; rw [ht] at hyt; cases hyt
        · exact h2 y (by omega) hyt
      · refine .inr ⟨h1, ⟨y, by omega, h3⟩, fun y hy hyt => ?_⟩
        by_cases e : y = K
        · subst e; rw [ht] at hyt; cases hyt
        · exact h4 y (by omega) hyt
    | true =>
      rw [leastTo_take ht]
      have hd := dB_lo (ns := ns) (x := x) (k := K) hf
      rcases ih with ⟨h1, h2⟩ | ⟨h1, ⟨y, h2, h3, h5⟩, h4⟩
      · rw [h1]
        by_cases e0 : 0 ≤ dB ns x f K
        · rw [stepB_yes e0 (.inl (by omega))]
          refine .inr ⟨e0, ⟨K, by omega, ht, rfl⟩, fun y hy hyt hy0 => ?_⟩
          by_cases e : y = K
          · subst e; exact Int.le_refl _
          · have := h2 y (by omega) hyt; omega
        · rw [stepB_neg (by omega)]
          refine .inl ⟨rfl, fun y hy hyt => ?_⟩
          by_cases e : y = K
          · subst e; omega
          · exact h2 y (by omega) hyt
      · by_cases e0 : 0 ≤ dB ns x f K ∧ dB ns x f K < leastTo ns f n x K
        · rw [stepB_yes e0.1 (.inr e0.2)]
          refine .inr ⟨e0.1, ⟨K, by omega, ht, rfl⟩, fun y hy hyt hy0 => ?_⟩
          by_cases e : y = K
          · subst e; exact Int.le_refl _
          · have := h4 y (by omega) hyt hy0; omega
        · have es : stepB (leastTo ns f n x K) (dB ns x f K) = leastTo ns f n x K := by unfold stepB; rw [if_neg (by omega)]
          rw [es]
          refine .inr ⟨h1, ⟨y, by omega, h3, h5⟩, fun y hy hyt hy0 => ?_⟩
          by_cases e : y = K
          · subst e; omega
          · exact h4 y (by omega) hyt hy0

theorem dB_eq {ns : List Nd} {x y : Nat} {f : Int → Int} (h : y ≠ x) (h0 : 0 ≤ f y) : dB ns x f y = f y + back1 ns y := by
  have hne : ¬ (y : Int) = x := by omega
  unfold back1
  by_cases h4 : (ndn ns y).kind = 4
  · rw [dB_back hne h0 h4, if_pos h4]
  · rw [dB_not hne (fun h => h4 h.2), if_neg h4]; omega
theorem dB_neg {ns : List Nd} {x y : Nat} {f : Int → Int} (h : y ≠ x) (h0 : f y = -1) : dB ns x f y = -1 := by
  rw [dB_not (by omega) (fun h => by omega), h0]

theorem leastB_min {ns : List Nd} {x : Nat} (hx : x < ns.length) (s : Nat) : ∀ n : Int, IsMin ns n x s (leastB ns x s n) := by
  induction s with
  | zero => intro n; exact .inl ⟨rfl, fun ys _ h => by omega⟩
  | succ s ih =>
    intro n
    have hf := leastB_lo ns x s
    have hf1 : ∀ y : Nat, leastB ns x s y = -1 ∨ 0 ≤ leastB ns x s y := fun y => by have := hf y; omega
    unfold leastB
    rcases leastTo_min (ns := ns) (n := n) (x := (x : Int)) hf ns.length with ⟨h1, h2⟩ | ⟨h1, ⟨y, h2, h3, h5⟩, h4⟩
    · refine .inl ⟨h1, ?_⟩
      intro ys hc hl
      cases ys with
      | nil => have := h2 x hx hc; rw [dB_x rfl] at this; omega
      | cons y ys =>
        obtain ⟨c1, c2, c3⟩ := hc
        have hd := h2 y c1 c2
        by_cases e : y = x
        · subst e; rw [dB_x rfl] at hd; omega
        · rcases hf1 y with h | h
          · rcases ih (y : Int) with ⟨_, h6⟩ | ⟨h6, _⟩
            · simp at hl; exact h6 ys c3 (by omega)
            · omega
          · rw [dB_eq e h] at hd; have := back1_bd ns y; omega
    · refine .inr ⟨h1, ?_, ?_⟩
      · by_cases e : y = x
        · subst e
          rw [dB_x rfl] at h5
          exact ⟨[], h3, by simp, h5⟩
        · rcases hf1 y with h | h
          · rw [dB_neg e h] at h5; omega
          · rw [dB_eq e h] at h5
            rcases ih (y : Int) with ⟨h6, _⟩ | ⟨_, ⟨ys, g1, g2, g3⟩, _⟩
            · omega
            · exact ⟨y :: ys, ⟨h2, h3, g1⟩, by simp; omega, by unfold cost; omega⟩
      · intro ys hc hl
        cases ys with
        | nil => have := h4 x hx hc (by rw [dB_x rfl]; omega); rw [dB_x rfl] at this; exact this
        | cons z ys =>
          obtain ⟨c1, c2, c3⟩ := hc
          have hcz := cost_nonneg ns (z :: ys)
          by_cases e : z = x
          · subst e
            have := h4 z c1 c2 (by rw [dB_x rfl]; omega)
            rw [dB_x rfl] at this
            omega
          · rcases ih (z : Int) with ⟨_, h6⟩ | ⟨h6, _, g4⟩
            · simp at hl; exact absurd (by omega) (h6 ys c3)
            · have g := g4 ys c3 (by simp at hl; omega)
              have hb := back1_bd ns z
              have := h4 z c1 c2 (by rw [dB_eq e h6]; omega)
              rw [dB_eq e h6] at this
              unfold cost
              omega

theorem oneTo_nth (ns : List Nd) (n : Int) : ∀ k x, x < k → nth (oneTo ns n k) x = one1 ns n x := by
  intro k
  induction k with
  | zero => intro x hx; omega
  | succ k ih =>
    intro x hx
    rw [nth_lt (by rw [oneTo_len]; exact hx)]
    unfold oneTo
    by_cases e : x < k
    · rw [List.getElem_append_left (by rw [oneTo_len]; exact e), ← nth_lt (by rw [oneTo_len]; exact e)]
      exact ih x e
    · have hx' : x = (oneTo ns n k).length := by rw [oneTo_len]; omega
      have hk' : x = k := by omega
      subst hk'
      rw [List.getElem_append_right (by rw [oneTo_len]; exact Nat.le_refl _)]
      simp
theorem moreL_nth (ns : List Nd) (fr : List Int) : ∀ k x, x < k → nth (moreL ns fr k) x = moreTo ns fr x (nth fr x) fr.length := by
  intro k
  induction k with
  | zero => intro x hx; omega
  | succ k ih =>
    intro x hx
    rw [nth_lt (by rw [moreL_len]; exact hx)]
    unfold moreL
    by_cases e : x < k
    · rw [List.getElem_append_left (by rw [moreL_len]; exact e), ← nth_lt (by rw [moreL_len]; exact e)]
      exact ih x e
    · have hk' : x = k := by omega
      subst hk'
      rw [List.getElem_append_right (by rw [moreL_len]; exact Nat.le_refl _)]
      simp

theorem toY_eq (ns : List Nd) (fr : List Int) (y : Nat) : toY ns fr y = nth fr y + back1 ns y := by
  unfold toY back1; split <;> omega
theorem moreTo_min {ns : List Nd} {fr : List Int} {x : Nat} {d0 : Int} (hd : -1 ≤ d0) (hf : ∀ y, y < fr.length → -1 ≤ nth fr y) : ∀ K, K ≤ fr.length →
    (moreTo ns fr x d0 K = -1 ∧ d0 = -1 ∧ ∀ y, y < K → takesB (ndn ns x) y = true → nth fr y = -1) ∨
    (0 ≤ moreTo ns fr x d0 K ∧ (moreTo ns fr x d0 K = d0 ∨ ∃ y, y < K ∧ 0 ≤ nth fr y ∧ takesB (ndn ns x) y = true ∧ toY ns fr y = moreTo ns fr x d0 K) ∧ (0 ≤ d0 → moreTo ns fr x d0 K ≤ d0) ∧
      ∀ y, y < K → 0 ≤ nth fr y → takesB (ndn ns x) y = true → moreTo ns fr x d0 K ≤ toY ns fr y) := by
  intro K hK
  induction K with
  | zero =>
    by_cases e : 0 ≤ d0
    · exact .inr ⟨e, .inl rfl, fun _ => Int.le_refl _, fun y hy => absurd hy (Nat.not_lt_zero y)⟩
    · exact .inl ⟨by unfold moreTo; omega, by omega, fun y hy => absurd hy (Nat.not_lt_zero y)⟩
  | succ K ih =>
    have ih := ih (by omega)
    have hK0 := hf K (by omega)
    by_cases hs : nth fr K = -1 ∨ takesB (ndn ns x) K = false
    · rw [moreTo_skip hs]
      rcases ih with ⟨h1, h2, h3⟩ | ⟨h1, h2, h3, h4⟩
      · refine .inl ⟨h1, h2, fun y hy hyt => ?_⟩
        by_cases e : y = K
        · subst e
          rcases hs with hs | hs
          · exact hs
          · rw [hs] at hyt; cases hyt
        · exact h3 y (by omega) hyt
      · refine .inr ⟨h1, ?_, h3, fun y hy hy0 hyt => ?_⟩
        · rcases h2 with h2 | ⟨y, h2, h5⟩
          · exact .inl h2
          · exact .inr ⟨y, by omega, h5⟩
        · by_cases e : y = K
          · subst e
            rcases hs with hs | hs
            · omega
            · rw [hs] at hyt; cases hyt
          · exact h4 y (by omega) hy0 hyt
    · have hs1 : nth fr K ≠ -1 := fun h => hs (.inl h)
      have hs2 : takesB (ndn ns x) K = true := by
        cases h : takesB (ndn ns x) K with
        | true => rfl
        | false => exact absurd (.inr h) hs
      rw [moreTo_go hs1 hs2]
      have htY := toY_eq ns fr K
      have hb := back1_bd ns K
      rcases ih with ⟨h1, h2, h3⟩ | ⟨h1, h2, h3, h4⟩
      · rw [better_yes (.inl h1)]
        refine .inr ⟨by omega, .inr ⟨K, by omega, by omega, hs2, rfl⟩, fun h => by omega, fun y hy hy0 hyt => ?_⟩
        by_cases e : y = K
        · subst e; exact Int.le_refl _
        · have := h3 y (by omega) hyt; omega
      · by_cases e : toY ns fr K < moreTo ns fr x d0 K
        · rw [better_yes (.inr e)]
          clear h2
          refine .inr ⟨by omega, .inr ⟨K, by omega, by omega, hs2, rfl⟩, fun h => by have := h3 h; omega, fun y hy hy0 hyt => ?_⟩
          by_cases ey : y = K
          · subst ey; exact Int.le_refl _
          · have := h4 y (by omega) hy0 hyt; omega
        · rw [better_no (by clear h2; omega) (by clear h2; omega)]
          refine .inr ⟨h1, ?_, h3, fun y hy hy0 hyt => ?_⟩
          · rcases h2 with h2 | ⟨y, h2, h5⟩
            · exact .inl h2
            · exact .inr ⟨y, by omega, h5⟩
          · by_cases ey : y = K
            · subst ey; omega
            · exact h4 y (by omega) hy0 hyt

theorem distL_min {ns : List Nd} {n : Int} (s : Nat) : ∀ x, x < ns.length → IsMin ns n x (s + 1) (nth (distL ns n s) x) := by
  induction s with
  | zero =>
    intro x hx
    unfold distL
    rw [oneTo_nth ns n _ x hx]
    unfold one1
    cases ht : takesB (ndn ns x) n with
    | true => exact .inr ⟨by simp, ⟨[], ht, by simp, by simp [cost]⟩, fun ys _ _ => by simp; exact cost_nonneg ns ys⟩
    | false =>
      refine .inl ⟨by simp, fun ys hc hl => ?_⟩
      cases ys with
      | nil => unfold Chain at hc; rw [ht] at hc; cases hc
      | cons y ys => simp at hl
  | succ s ih =>
    intro x hx
    unfold distL
    have hlen := distL_len ns n s
    have hlow := distL_low ns n s
    rw [hlen, moreL_nth ns _ _ x hx]
    have hx1 := hlow x (by omega)
    rcases moreTo_min (ns := ns) (fr := distL ns n s) (x := x) (d0 := nth (distL ns n s) x) hx1.1 (fun y hy => (hlow y hy).1) _ (Nat.le_refl _) with ⟨h1, h2, h3⟩ | ⟨h1, h2, h3, h4⟩
    · refine .inl ⟨h1, fun ys hc hl => ?_⟩
      rcases ih x hx with ⟨_, g⟩ | ⟨g, _⟩
      · by_cases e : ys.length + 1 ≤ s + 1
        · exact g ys hc e
        · rcases List.eq_nil_or_concat ys with rfl | ⟨zs, y, rfl⟩
          · simp at e
          · rw [List.concat_eq_append] at hc hl
            obtain ⟨c1, c2, c3⟩ := chain_snoc.1 hc
            have := h3 y (by omega) c3
            rcases ih y c2 with ⟨_, k⟩ | ⟨k, _⟩
            · simp at hl; exact k zs c1 (by omega)
            · omega
      · omega
    · refine .inr ⟨h1, ?_, fun ys hc hl => ?_⟩
      · rcases h2 with h2 | ⟨y, g1, g2, g3, g4⟩
        · rcases ih x hx with ⟨g, _⟩ | ⟨_, ⟨ys, g1, g2, g3⟩, _⟩
          · omega
          · exact ⟨ys, g1, by omega, by omega⟩
        · rcases ih y (by omega) with ⟨k, _⟩ | ⟨_, ⟨zs, k1, k2, k3⟩, _⟩
          · omega
          · refine ⟨zs ++ [y], chain_snoc.2 ⟨k1, by omega, g3⟩, by simp; omega, ?_⟩
            rw [cost_snoc, k3, ← g4, toY_eq]
      · by_cases e : ys.length + 1 ≤ s + 1
        · rcases ih x hx with ⟨_, g⟩ | ⟨g0, _, g⟩
          · exact absurd e (g ys hc)
          · have := g ys hc e
            have := h3 g0
            omega
        · rcases List.eq_nil_or_concat ys with rfl | ⟨zs, y, rfl⟩
          · simp at e
          · rw [List.concat_eq_append] at hc hl ⊢
            obtain ⟨c1, c2, c3⟩ := chain_snoc.1 hc
            rcases ih y c2 with ⟨_, k⟩ | ⟨k0, _, k⟩
            · simp at hl; exact absurd (by omega) (k zs c1)
            · have := k zs c1 (by simp at hl; omega)
              have g := h4 y (by omega) k0 c3
              rw [toY_eq] at g
              rw [cost_snoc]
              omega

theorem dist_same (ns : List Nd) (r n x : Int) : rdistV ns r n x = distV ns r n x := by
  unfold rdistV distV
  by_cases h : distE ns r n x = 0
  · rw [if_pos h, if_pos h]
    unfold distE at h
    split at h
    · rename_i hc
      have h1 := (checkE_zero hc).1
      split at h
      · rename_i hnode
        simp only [Bool.and_eq_true] at hnode
        obtain ⟨x0, x1⟩ := isNodeB_iff.1 hnode.2
        obtain ⟨xi, rfl⟩ := Int.eq_ofNat_of_zero_le x0
        rw [Int.toNat_natCast]
        have a := leastB_min (ns := ns) (x := xi) (by omega) ns.length n
        have b := distL_min (ns := ns) (n := n) (ns.length - 1) xi (by omega)
        rw [show ns.length - 1 + 1 = ns.length by omega] at b
        exact a.eq b
      · cases h
    · rename_i hc; exact absurd h hc
  · rw [if_neg h, if_neg h]
end Go.Proofs.YtfemleimkbjehaaGreat
