import Derived.Test.YtfemleimkbjehaaOrder
namespace Go.Proofs.Ytfemleimkbjehaa
open Go.RowKit

def lenOf : Value → Nat
  | .slice _ n _ => n
  | _ => 0
theorem Own.len {W w : World} {v : Value} {xs : List Int} (h : Own W w v xs) : lenOf v = xs.length := by
  obtain ⟨ad, cap, rfl, _⟩ := h.form; rfl

/-- So many steps against the ways. -/
def backB (ns : List Nd) (ord : List Int) (n : Int) : Nat → Int
  | 0 => n
  | k + 1 => aheadB ns ord (backB ns ord n k)
def cycGo (ns : List Nd) (ord : List Int) (s : Int) : Nat → List Int → Int → List Int
  | 0, l, _ => l
  | f + 1, l, n => if n == s then l else cycGo ns ord s f (n :: l) (aheadB ns ord n)
def cycS (ns : List Nd) (ord : List Int) : Int := backB ns ord (firstB ord 0 ns.length) ns.length
def cycB (ns : List Nd) (ord : List Int) : List Int := cycGo ns ord (cycS ns ord) (ns.length - 1) [cycS ns ord] (aheadB ns ord (cycS ns ord))

theorem cycGo_stop {ns : List Nd} {ord : List Int} {s : Int} {f : Nat} {l : List Int} {n : Int} (h : (n == s) = true) : cycGo ns ord s f l n = l := by
  cases f with
  | zero => rfl
  | succ f => simp [cycGo, h]
theorem cycGo_on {ns : List Nd} {ord : List Int} {s : Int} {f : Nat} {l : List Int} {n : Int} (h : (n == s) = false) : cycGo ns ord s (f + 1) l n = cycGo ns ord s f (n :: l) (aheadB ns ord n) := by
  simp [cycGo, h]

set_option maxHeartbeats 1000000 in
theorem cycle_any (ns : List Nd) (ga : Option Addr) (gc : Nat) (r : Int) (ord : List Int) (ad : Option Addr) (cap : Nat) (w : World) (hn : NodesAt w ga ns) (hx : IntsAt w ad ord) (hl : ord.length ≤ maxLen) (hg1 : 1 ≤ ns.length) (hg : ns.length ≤ 8) :
    Calls Try.prog 68 #[.agg #[.slice ga ns.length gc, .int .i64 r], .slice ad ord.length cap] w fun e w' => ∃ v, e = .returned v ∧ Own w w' v (cycB ns ord) ∧ Bw w w' := by
  have hgl : ns.length ≤ maxLen := by unfold maxLen; omega
  go_enter Try.func68, Try.ntmps68
  go_wp2_with (go_at_call 96; refine (first_any ns.length ord _ _ _ _ _ _ (hx.below (by repeat (first | exact Bw.refl _ | assumption | refine Bw.drew ?_ | refine Bw.drewN ?_ _ | refine Bw.alloc ?_ _ | refine Bw.trans ?_ (by assumption)))) hl hgl).mono ?_; rintro e w' ⟨rfl, hbl⟩)
  go_loopw [5, 6] (fun v i wr => ∃ k : Nat, k ≤ ns.length ∧ i = .int .i64 k ∧ v = .int .i64 (backB ns ord (firstB ord 0 ns.length) k) ∧
      Bw (w.alloc (.cells #[.slice ga ns.length gc, .int .i64 r] 24)) wr)
    (fun _ i _ => ns.length - (intOf i).toNat)
  case atStart => exact ⟨0, Nat.zero_le _, rfl, rfl, (by repeat (first | exact Bw.refl _ | assumption | refine Bw.drew ?_ | refine Bw.drewN ?_ _ | refine Bw.alloc ?_ _ | refine Bw.trans ?_ (by assumption)))⟩
  case round =>
    clear hbl
    obtain ⟨k, hk, rfl, rfl, hB⟩ := hrel
    obtain ⟨gcc, gff⟩ := bcell hB
    have gz : w.heap.size < wr.heap.size := by have := hB.size; simp at this; omega
    by_cases hlt : k < ns.length
    · go_wp2_with (go_at_call 97; refine (ahead_any ns _ _ _ ord _ _ _ _ (hn.below (by repeat (first | exact Bw.refl _ | assumption | refine Bw.drew ?_ | refine Bw.drewN ?_ _ | refine Bw.alloc ?_ _ | refine Bw.trans ?_ (by assumption)))) (hx.below (by repeat (first | exact Bw.refl _ | assumption | refine Bw.drew ?_ | refine Bw.drewN ?_ _ | refine Bw.alloc ?_ _ | refine Bw.trans ?_ (by assumption)))) hl hgl).mono ?_; rintro e w' ⟨rfl, hbl⟩)
      go_roundw
      case rel => exact ⟨k + 1, by omega, by go_num, rfl, (by repeat (first | exact Bw.refl _ | assumption | refine Bw.drew ?_ | refine Bw.drewN ?_ _ | refine Bw.alloc ?_ _ | refine Bw.trans ?_ (by assumption)))⟩
      case measure => simp [intOf]; omega
    · have hkk : k = ns.length := by omega
      subst hkk
      have hs : Hid (backB ns ord (firstB ord 0 ns.length) ns.length = cycS ns ord) := rfl
      rw [unhide hs]
      clear hs
      go_wp2_with (go_at_call 97; refine (ahead_any ns _ _ _ ord _ _ _ _ (hn.below (by repeat (first | exact Bw.refl _ | assumption | refine Bw.drew ?_ | refine Bw.drewN ?_ _ | refine Bw.alloc ?_ _ | refine Bw.trans ?_ (by assumption)))) (hx.below (by repeat (first | exact Bw.refl _ | assumption | refine Bw.drew ?_ | refine Bw.drewN ?_ _ | refine Bw.alloc ?_ _ | refine Bw.trans ?_ (by assumption)))) hl hgl).mono ?_; rintro e w' ⟨rfl, hbl⟩)
      go_loopw [7, 8] (fun v i wi => ∃ (l : List Int) (n : Int) (f : Nat), i = .int .i64 n ∧ Own (w.alloc (.cells #[.slice ga ns.length gc, .int .i64 r] 24)) wi v l ∧ l.length + f = ns.length ∧ 0 < l.length ∧ cycGo ns ord (cycS ns ord) f l n = cycB ns ord ∧ Bw (w.alloc (.cells #[.slice ga ns.length gc, .int .i64 r] 24)) wi)
        (fun v _ _ => ns.length - lenOf v)
      case atStart => exact ⟨[cycS ns ord], _, ns.length - 1, rfl, (own_one _ hB).bw (by repeat (first | exact Bw.refl _ | assumption | refine Bw.drew ?_ | refine Bw.drewN ?_ _ | refine Bw.alloc ?_ _ | refine Bw.trans ?_ (by assumption))), by simp; omega, by simp, rfl, (by repeat (first | exact Bw.refl _ | assumption | refine Bw.drew ?_ | refine Bw.drewN ?_ _ | refine Bw.alloc ?_ _ | refine Bw.trans ?_ (by assumption)))⟩
      case round =>
        clear hB gcc gff gz hbl
        obtain ⟨l, n, f, rfl, hown, hlf, hl0, hcy, hB⟩ := hrel
        have Hcy := hide hcy
        clear hcy
        obtain ⟨gcc, gff⟩ := bcell hB
        have gz : w.heap.size < wr.heap.size := by have := hB.size; simp at this; omega
        obtain ⟨la, lc, rfl, hlx, hml⟩ := hown.form
        cases hns : (n == cycS ns ord) with
        | true =>
          have Hns := hide hns
          have hns' : (n != cycS ns ord) = false := by simp [bne, hns]
          clear hns
          go_wp2
          go_ret
          exact ⟨_, rfl, by rw [← unhide Hcy, cycGo_stop (unhide Hns)]; exact hown.weaken (by repeat (first | exact Bw.refl _ | assumption | refine Bw.drew ?_ | refine Bw.drewN ?_ _ | refine Bw.alloc ?_ _ | refine Bw.trans ?_ (by assumption))), (by repeat (first | exact Bw.refl _ | assumption | refine Bw.drew ?_ | refine Bw.drewN ?_ _ | refine Bw.alloc ?_ _ | refine Bw.trans ?_ (by assumption)))⟩
        | false =>
          have Hns := hide hns
          have hns' : (n != cycS ns ord) = true := by simp [bne, hns]
          clear hns
          by_cases hlt : l.length < ns.length
          · obtain ⟨f', rfl⟩ : ∃ f', f = f' + 1 := ⟨f - 1, by omega⟩
            go_wp2_with (first | (at_builtin; refine appN _ rfl _ _ rfl _ _ [n] rfl (own_one n hB) _ _ l rfl (hlx.below (by repeat (first | exact Bw.refl _ | assumption | refine Bw.drew ?_ | refine Bw.drewN ?_ _ | refine Bw.alloc ?_ _ | refine Bw.trans ?_ (by assumption)))) hl0 (by simp; omega) (by repeat (first | exact Bw.refl _ | assumption | refine Bw.drew ?_ | refine Bw.drewN ?_ _ | refine Bw.alloc ?_ _ | refine Bw.trans ?_ (by assumption))) ?_; intro v' w1 hown1 hB1 hgr1; obtain ⟨gc1, gf1⟩ := bcell hB1) | (go_at_call 97; refine (ahead_any ns _ _ _ ord _ _ _ _ (hn.below (by repeat (first | exact Bw.refl _ | assumption | refine Bw.drew ?_ | refine Bw.drewN ?_ _ | refine Bw.alloc ?_ _ | refine Bw.trans ?_ (by assumption)))) (hx.below (by repeat (first | exact Bw.refl _ | assumption | refine Bw.drew ?_ | refine Bw.drewN ?_ _ | refine Bw.alloc ?_ _ | refine Bw.trans ?_ (by assumption)))) hl hgl).mono ?_; rintro e w' ⟨rfl, hbl⟩))
            go_roundw
            case rel => exact ⟨n :: l, aheadB ns ord n, f', rfl, hown1.bw (by repeat (first | exact Bw.refl _ | assumption | refine Bw.drew ?_ | refine Bw.drewN ?_ _ | refine Bw.alloc ?_ _ | refine Bw.trans ?_ (by assumption))), by simp; omega, by simp, by rw [← unhide Hcy, cycGo_on (unhide Hns)], (by repeat (first | exact Bw.refl _ | assumption | refine Bw.drew ?_ | refine Bw.drewN ?_ _ | refine Bw.alloc ?_ _ | refine Bw.trans ?_ (by assumption)))⟩
            case measure => rw [hown1.len]; simp [lenOf]; omega
          · have hf0 : f = 0 := by omega
            subst hf0
            go_wp2
            go_ret
            exact ⟨_, rfl, by rw [← unhide Hcy]; exact hown.weaken (by repeat (first | exact Bw.refl _ | assumption | refine Bw.drew ?_ | refine Bw.drewN ?_ _ | refine Bw.alloc ?_ _ | refine Bw.trans ?_ (by assumption))), (by repeat (first | exact Bw.refl _ | assumption | refine Bw.drew ?_ | refine Bw.drewN ?_ _ | refine Bw.alloc ?_ _ | refine Bw.trans ?_ (by assumption)))⟩
end Go.Proofs.Ytfemleimkbjehaa
