import Derived.Test.YtfemleimkbjehaaGreatJ0
namespace Go.Proofs.YtfemleimkbjehaaGreat
set_option linter.unusedVariables false
set_option linter.unusedSimpArgs false
open Go.RowKit

/-- The order behind the first k nodes of a pass. -/
def passTo (ns : List Nd) (ord : List Int) : Nat → List Int
  | 0 => ord
  | k + 1 => if !hasB (passTo ns ord k) k && canFollowB (passTo ns ord k) (ndn ns k) then passTo ns ord k ++ [(k : Int)] else passTo ns ord k
/-- The order behind p passes. -/
def ordTo (ns : List Nd) : Nat → List Int
  | 0 => []
  | p + 1 => passTo ns (ordTo ns p) ns.length
def orderB (ns : List Nd) : List Int := ordTo ns ns.length

theorem passTo_len (ns : List Nd) (ord : List Int) (k : Nat) : (passTo ns ord k).length ≤ ord.length + k := by
  induction k with
  | zero => simp [passTo]
  | succ k ih =>
    unfold passTo
    split
    · simp; omega
    · omega
theorem ordTo_len (ns : List Nd) (p : Nat) : (ordTo ns p).length ≤ p * ns.length := by
  induction p with
  | zero => simp [ordTo]
  | succ p ih => unfold ordTo; have := passTo_len ns (ordTo ns p) ns.length; rw [Nat.succ_mul]; omega
theorem ordTo_len8 {ns : List Nd} {p : Nat} (h : ns.length ≤ 8) (hp : p ≤ ns.length) : (ordTo ns p).length ≤ 64 :=
  Nat.le_trans (ordTo_len ns p) (Nat.le_trans (Nat.mul_le_mul hp h) (by omega))
theorem passTo_add {ns : List Nd} {ord : List Int} {k : Nat} (h1 : hasB (passTo ns ord k) k = false) (h2 : canFollowB (passTo ns ord k) (ndn ns k) = true) : passTo ns ord (k + 1) = passTo ns ord k ++ [(k : Int)] := by
  rw [passTo, h1, h2]; rfl
theorem passTo_has {ns : List Nd} {ord : List Int} {k : Nat} (h1 : hasB (passTo ns ord k) k = true) : passTo ns ord (k + 1) = passTo ns ord k := by
  rw [passTo, h1]; rfl
theorem passTo_not {ns : List Nd} {ord : List Int} {k : Nat} (h2 : canFollowB (passTo ns ord k) (ndn ns k) = false) : passTo ns ord (k + 1) = passTo ns ord k := by
  rw [passTo, h2, Bool.and_false]; rfl

set_option maxHeartbeats 1000000 in
theorem order_any (ns : List Nd) (ga : Option Addr) (gc : Nat) (r : Int) (w : World) (hn : NodesAt w ga ns) (hg : ns.length ≤ 8) :
    Calls Tryz.prog 78 #[.agg #[.slice ga ns.length gc, .int .i64 r]] w fun e w' => ∃ v, e = .returned v ∧ Own w w' v (orderB ns) ∧ Bw w w' := by
  have hgl : ns.length ≤ maxLen := by unfold maxLen; omega
  go_enter Tryz.func78, Tryz.ntmps78
  go_wp2
  go_loopw [3, 4] (fun v i wr => ∃ p : Nat, p ≤ ns.length ∧ i = .int .i64 p ∧ Own (w.alloc (.cells #[.slice ga ns.length gc, .int .i64 r] 24)) wr v (ordTo ns p) ∧
      Bw (w.alloc (.cells #[.slice ga ns.length gc, .int .i64 r] 24)) wr)
    (fun _ i _ => ns.length - (intOf i).toNat)
  case atStart => exact ⟨0, Nat.zero_le _, rfl, Own.nil _ _, Bw.refl _⟩
  case round =>
    obtain ⟨p, hp, rfl, hown, hB⟩ := hrel
    obtain ⟨gcc, gff⟩ := bcell hB
    have gz : w.heap.size < wr.heap.size := by have := hB.size; simp at this; omega
    have h64 := ordTo_len8 hg hp
    by_cases hlt : p < ns.length
    · go_wp2
      go_loopw [3, 17] (fun v i wi => ∃ k : Nat, k ≤ ns.length ∧ i = .int .i64 k ∧ Own (w.alloc (.cells #[.slice ga ns.length gc, .int .i64 r] 24)) wi v (passTo ns (ordTo ns p) k) ∧ Bw (w.alloc (.cells #[.slice ga ns.length gc, .int .i64 r] 24)) wi)
        (fun _ i _ => ns.length - (intOf i).toNat)
      case atStart => exact ⟨0, Nat.zero_le _, rfl, hown, hB⟩
      case round =>
        clear hown hB gcc gff gz
        obtain ⟨k, hk, rfl, hown, hB⟩ := hrel
        obtain ⟨gcc, gff⟩ := bcell hB
        have gz : w.heap.size < wr.heap.size := by have := hB.size; simp at this; omega
        have hpl := passTo_len ns (ordTo ns p) k
        by_cases hkl : k < ns.length
        · obtain ⟨b, off, rfl, hb, hc⟩ := hn k hkl
          obtain ⟨c0, c1, c2, c3, c4⟩ := hc k hkl
          clear hc
          obtain ⟨ad, cap, rfl, hx, hml⟩ := hown.form
          cases hh : hasB (passTo ns (ordTo ns p) k) k with
          | true =>
            have HH := hide hh
            clear hh
            go_wp2_with (go_at_call 105; refine (contains_any (passTo ns (ordTo ns p) k) _ _ _ _ (hx.below (by repeat (first | exact Bw.refl _ | assumption | refine Bw.drew ?_ | refine Bw.drewN ?_ _ | refine Bw.alloc ?_ _ | refine Bw.trans ?_ (by assumption)))) hml).mono ?_; rintro e w' ⟨rfl, rfl⟩; rw [unhide HH])
            go_roundw
            case rel => exact ⟨k + 1, by omega, by go_num, by rw [passTo_has (unhide HH)]; exact hown.bw (by repeat (first | exact Bw.refl _ | assumption | refine Bw.drew ?_ | refine Bw.drewN ?_ _ | refine Bw.alloc ?_ _ | refine Bw.trans ?_ (by assumption))), (by repeat (first | exact Bw.refl _ | assumption | refine Bw.drew ?_ | refine Bw.drewN ?_ _ | refine Bw.alloc ?_ _ | refine Bw.trans ?_ (by assumption)))⟩
            case measure => simp [intOf]; omega
          | false =>
            have HH := hide hh
            clear hh
            cases hf : canFollowB (passTo ns (ordTo ns p) k) (ndn ns k) with
            | false =>
              have HF := hide hf
              clear hf
              go_wp2_with (first | (go_at_call 105; refine (contains_any (passTo ns (ordTo ns p) k) _ _ _ _ (hx.below (by repeat (first | exact Bw.refl _ | assumption | refine Bw.drew ?_ | refine Bw.drewN ?_ _ | refine Bw.alloc ?_ _ | refine Bw.trans ?_ (by assumption)))) hml).mono ?_; rintro e w' ⟨rfl, rfl⟩; rw [unhide HH]) | (go_at_call 106; refine (canFollow_any (passTo ns (ordTo ns p) k) (ndn ns k) _ _ _ (hx.below (by repeat (first | exact Bw.refl _ | assumption | refine Bw.drew ?_ | refine Bw.drewN ?_ _ | refine Bw.alloc ?_ _ | refine Bw.trans ?_ (by assumption)))) hml).mono ?_; rintro e w' ⟨rfl, hbl⟩; rw [unhide HF]))
              go_roundw
              case rel => exact ⟨k + 1, by omega, by go_num, by rw [passTo_not (unhide HF)]; exact hown.bw (by repeat (first | exact Bw.refl _ | assumption | refine Bw.drew ?_ | refine Bw.drewN ?_ _ | refine Bw.alloc ?_ _ | refine Bw.trans ?_ (by assumption))), (by repeat (first | exact Bw.refl _ | assumption | refine Bw.drew ?_ | refine Bw.drewN ?_ _ | refine Bw.alloc ?_ _ | refine Bw.trans ?_ (by assumption)))⟩
              case measure => simp [intOf]; omega
            | true =>
              have HF := hide hf
              clear hf
              go_wp2_with (first | (at_builtin; refine app1 _ rfl _ _ rfl _ _ (passTo ns (ordTo ns p) k) rfl (hown.bw (by repeat (first | exact Bw.refl _ | assumption | refine Bw.drew ?_ | refine Bw.drewN ?_ _ | refine Bw.alloc ?_ _ | refine Bw.trans ?_ (by assumption)))) _ _ (k : Int) rfl (by simp) (by omega) (by repeat (first | exact Bw.refl _ | assumption | refine Bw.drew ?_ | refine Bw.drewN ?_ _ | refine Bw.alloc ?_ _ | refine Bw.trans ?_ (by assumption))) ?_; intro v' w1 hown1 hB1 hgr1) | (go_at_call 105; refine (contains_any (passTo ns (ordTo ns p) k) _ _ _ _ (hx.below (by repeat (first | exact Bw.refl _ | assumption | refine Bw.drew ?_ | refine Bw.drewN ?_ _ | refine Bw.alloc ?_ _ | refine Bw.trans ?_ (by assumption)))) hml).mono ?_; rintro e w' ⟨rfl, rfl⟩; rw [unhide HH]) | (go_at_call 106; refine (canFollow_any (passTo ns (ordTo ns p) k) (ndn ns k) _ _ _ (hx.below (by repeat (first | exact Bw.refl _ | assumption | refine Bw.drew ?_ | refine Bw.drewN ?_ _ | refine Bw.alloc ?_ _ | refine Bw.trans ?_ (by assumption)))) hml).mono ?_; rintro e w' ⟨rfl, hbl⟩; rw [unhide HF]; obtain ⟨hcc, hff⟩ := bcell hbl))
              go_roundw
              case rel => exact ⟨k + 1, by omega, by go_num, by rw [passTo_add (unhide HH) (unhide HF)]; exact hown1, hB1⟩
              case measure => simp [intOf]; omega
        · have hkk : k = ns.length := by omega
          subst hkk
          go_wp2
          go_roundw
          case rel => exact ⟨p + 1, by omega, by go_num, by unfold ordTo; exact hown, hB⟩
          case measure => simp [intOf]; omega
    · have hpp : p = ns.length := by omega
      obtain ⟨ad, cap, rfl, hx, hml⟩ := hown.form
      subst hpp
      go_wp2
      go_ret
      exact ⟨_, rfl, (hown.weaken (by repeat (first | exact Bw.refl _ | assumption | refine Bw.drew ?_ | refine Bw.drewN ?_ _ | refine Bw.alloc ?_ _ | refine Bw.trans ?_ (by assumption)))), (by repeat (first | exact Bw.refl _ | assumption | refine Bw.drew ?_ | refine Bw.drewN ?_ _ | refine Bw.alloc ?_ _ | refine Bw.trans ?_ (by assumption)))⟩
end Go.Proofs.YtfemleimkbjehaaGreat
namespace Go.Proofs.YtfemleimkbjehaaGreat
set_option linter.unusedVariables false
set_option linter.unusedSimpArgs false
open Go.RowKit

def lenOf : Value → Nat
  | .slice _ n _ => n
  | _ => 0
theorem Own.len {W w : World} {v : Value} {xs : List Int} (h : Own W w v xs) : lenOf v = xs.length := by
  obtain ⟨ad, cap, rfl, _⟩ := h.form; rfl

/-- So many steps against the ways. -/
def backB (ns : List Nd) (ord : List Int) (n : Int) : Nat → Int
  | 0 => n
  | k + 1 => aheadB ns ord (backB ns ord n k)
def cycGo (ns : List Nd) (ord : List Int) (s : Int) : Nat → List Int → Int → List Int
  | 0, l, _ => l
  | f + 1, l, n => if n == s then l else cycGo ns ord s f (n :: l) (aheadB ns ord n)
def cycS (ns : List Nd) (ord : List Int) : Int := backB ns ord (firstB ord 0 ns.length) ns.length
def cycB (ns : List Nd) (ord : List Int) : List Int := cycGo ns ord (cycS ns ord) (ns.length - 1) [cycS ns ord] (aheadB ns ord (cycS ns ord))

theorem cycGo_stop {ns : List Nd} {ord : List Int} {s : Int} {f : Nat} {l : List Int} {n : Int} (h : (n == s) = true) : cycGo ns ord s f l n = l := by
  cases f with
  | zero => rfl
  | succ f => simp [cycGo, h]
theorem cycGo_on {ns : List Nd} {ord : List Int} {s : Int} {f : Nat} {l : List Int} {n : Int} (h : (n == s) = false) : cycGo ns ord s (f + 1) l n = cycGo ns ord s f (n :: l) (aheadB ns ord n) := by
  simp [cycGo, h]

set_option maxHeartbeats 1000000 in
theorem cycle_any (ns : List Nd) (ga : Option Addr) (gc : Nat) (r : Int) (ord : List Int) (ad : Option Addr) (cap : Nat) (w : World) (hn : NodesAt w ga ns) (hx : IntsAt w ad ord) (hl : ord.length ≤ maxLen) (hg1 : 1 ≤ ns.length) (hg : ns.length ≤ 8) :
    Calls Tryz.prog 79 #[.agg #[.slice ga ns.length gc, .int .i64 r], .slice ad ord.length cap] w fun e w' => ∃ v, e = .returned v ∧ Own w w' v (cycB ns ord) ∧ Bw w w' := by
  have hgl : ns.length ≤ maxLen := by unfold maxLen; omega
  go_enter Tryz.func79, Tryz.ntmps79
  go_wp2_with (go_at_call 107; refine (first_any ns.length ord _ _ _ _ _ _ (hx.below (by repeat (first | exact Bw.refl _ | assumption | refine Bw.drew ?_ | refine Bw.drewN ?_ _ | refine Bw.alloc ?_ _ | refine Bw.trans ?_ (by assumption)))) hl hgl).mono ?_; rintro e w' ⟨rfl, hbl⟩)
  go_loopw [5, 6] (fun v i wr => ∃ k : Nat, k ≤ ns.length ∧ i = .int .i64 k ∧ v = .int .i64 (backB ns ord (firstB ord 0 ns.length) k) ∧
      Bw (w.alloc (.cells #[.slice ga ns.length gc, .int .i64 r] 24)) wr)
    (fun _ i _ => ns.length - (intOf i).toNat)
  case atStart => exact ⟨0, Nat.zero_le _, rfl, rfl, (by repeat (first | exact Bw.refl _ | assumption | refine Bw.drew ?_ | refine Bw.drewN ?_ _ | refine Bw.alloc ?_ _ | refine Bw.trans ?_ (by assumption)))⟩
  case round =>
    clear hbl
    obtain ⟨k, hk, rfl, rfl, hB⟩ := hrel
    obtain ⟨gcc, gff⟩ := bcell hB
    have gz : w.heap.size < wr.heap.size := by have := hB.size; simp at this; omega
    by_cases hlt : k < ns.length
    · go_wp2_with (go_at_call 108; refine (ahead_any ns _ _ _ ord _ _ _ _ (hn.below (by repeat (first | exact Bw.refl _ | assumption | refine Bw.drew ?_ | refine Bw.drewN ?_ _ | refine Bw.alloc ?_ _ | refine Bw.trans ?_ (by assumption)))) (hx.below (by repeat (first | exact Bw.refl _ | assumption | refine Bw.drew ?_ | refine Bw.drewN ?_ _ | refine Bw.alloc ?_ _ | refine Bw.trans ?_ (by assumption)))) hl hgl).mono ?_; rintro e w' ⟨rfl, hbl⟩)
      go_roundw
      case rel => exact ⟨k + 1, by omega, by go_num, rfl, (by repeat (first | exact Bw.refl _ | assumption | refine Bw.drew ?_ | refine Bw.drewN ?_ _ | refine Bw.alloc ?_ _ | refine Bw.trans ?_ (by assumption)))⟩
      case measure => simp [intOf]; omega
    · have hkk : k = ns.length := by omega
      subst hkk
      have hs : Hid (backB ns ord (firstB ord 0 ns.length) ns.length = cycS ns ord) := rfl
      rw [unhide hs]
      clear hs
      go_wp2_with (go_at_call 108; refine (ahead_any ns _ _ _ ord _ _ _ _ (hn.below (by repeat (first | exact Bw.refl _ | assumption | refine Bw.drew ?_ | refine Bw.drewN ?_ _ | refine Bw.alloc ?_ _ | refine Bw.trans ?_ (by assumption)))) (hx.below (by repeat (first | exact Bw.refl _ | assumption | refine Bw.drew ?_ | refine Bw.drewN ?_ _ | refine Bw.alloc ?_ _ | refine Bw.trans ?_ (by assumption)))) hl hgl).mono ?_; rintro e w' ⟨rfl, hbl⟩)
      go_loopw [7, 8] (fun v i wi => ∃ (l : List Int) (n : Int) (f : Nat), i = .int .i64 n ∧ Own (w.alloc (.cells #[.slice ga ns.length gc, .int .i64 r] 24)) wi v l ∧ l.length + f = ns.length ∧ 0 < l.length ∧ cycGo ns ord (cycS ns ord) f l n = cycB ns ord ∧ Bw (w.alloc (.cells #[.slice ga ns.length gc, .int .i64 r] 24)) wi)
        (fun v _ _ => ns.length - lenOf v)
      case atStart => exact ⟨[cycS ns ord], _, ns.length - 1, rfl, (own_one _ hB).bw (by repeat (first | exact Bw.refl _ | assumption | refine Bw.drew ?_ | refine Bw.drewN ?_ _ | refine Bw.alloc ?_ _ | refine Bw.trans ?_ (by assumption))), by simp; omega, by simp, rfl, (by repeat (first | exact Bw.refl _ | assumption | refine Bw.drew ?_ | refine Bw.drewN ?_ _ | refine Bw.alloc ?_ _ | refine Bw.trans ?_ (by assumption)))⟩
      case round =>
        clear hB gcc gff gz hbl
        obtain ⟨l, n, f, rfl, hown, hlf, hl0, hcy, hB⟩ := hrel
        have Hcy := hide hcy
        clear hcy
        obtain ⟨gcc, gff⟩ := bcell hB
        have gz : w.heap.size < wr.heap.size := by have := hB.size; simp at this; omega
        obtain ⟨la, lc, rfl, hlx, hml⟩ := hown.form
        cases hns : (n == cycS ns ord) with
        | true =>
          have Hns := hide hns
          have hns' : (n != cycS ns ord) = false := by simp [bne, hns]
          clear hns
          go_wp2
          go_ret
          exact ⟨_, rfl, by rw [← unhide Hcy, cycGo_stop (unhide Hns)]; exact hown.weaken (by repeat (first | exact Bw.refl _ | assumption | refine Bw.drew ?_ | refine Bw.drewN ?_ _ | refine Bw.alloc ?_ _ | refine Bw.trans ?_ (by assumption))), (by repeat (first | exact Bw.refl _ | assumption | refine Bw.drew ?_ | refine Bw.drewN ?_ _ | refine Bw.alloc ?_ _ | refine Bw.trans ?_ (by assumption)))⟩
        | false =>
          have Hns := hide hns
          have hns' : (n != cycS ns ord) = true := by simp [bne, hns]
          clear hns
          by_cases hlt : l.length < ns.length
          · obtain ⟨f', rfl⟩ : ∃ f', f = f' + 1 := ⟨f - 1, by omega⟩
            go_wp2_with (first | (at_builtin; refine appN _ rfl _ _ rfl _ _ [n] rfl (own_one n hB) _ _ l rfl (hlx.below (by repeat (first | exact Bw.refl _ | assumption | refine Bw.drew ?_ | refine Bw.drewN ?_ _ | refine Bw.alloc ?_ _ | refine Bw.trans ?_ (by assumption)))) hl0 (by simp; omega) (by repeat (first | exact Bw.refl _ | assumption | refine Bw.drew ?_ | refine Bw.drewN ?_ _ | refine Bw.alloc ?_ _ | refine Bw.trans ?_ (by assumption))) ?_; intro v' w1 hown1 hB1 hgr1; obtain ⟨gc1, gf1⟩ := bcell hB1) | (go_at_call 108; refine (ahead_any ns _ _ _ ord _ _ _ _ (hn.below (by repeat (first | exact Bw.refl _ | assumption | refine Bw.drew ?_ | refine Bw.drewN ?_ _ | refine Bw.alloc ?_ _ | refine Bw.trans ?_ (by assumption)))) (hx.below (by repeat (first | exact Bw.refl _ | assumption | refine Bw.drew ?_ | refine Bw.drewN ?_ _ | refine Bw.alloc ?_ _ | refine Bw.trans ?_ (by assumption)))) hl hgl).mono ?_; rintro e w' ⟨rfl, hbl⟩))
            go_roundw
            case rel => exact ⟨n :: l, aheadB ns ord n, f', rfl, hown1.bw (by repeat (first | exact Bw.refl _ | assumption | refine Bw.drew ?_ | refine Bw.drewN ?_ _ | refine Bw.alloc ?_ _ | refine Bw.trans ?_ (by assumption))), by simp; omega, by simp, by rw [← unhide Hcy, cycGo_on (unhide Hns)], (by repeat (first | exact Bw.refl _ | assumption | refine Bw.drew ?_ | refine Bw.drewN ?_ _ | refine Bw.alloc ?_ _ | refine Bw.trans ?_ (by assumption)))⟩
            case measure => rw [hown1.len]; simp [lenOf]; omega
          · have hf0 : f = 0 := by omega
            subst hf0
            go_wp2
            go_ret
            exact ⟨_, rfl, by rw [← unhide Hcy]; exact hown.weaken (by repeat (first | exact Bw.refl _ | assumption | refine Bw.drew ?_ | refine Bw.drewN ?_ _ | refine Bw.alloc ?_ _ | refine Bw.trans ?_ (by assumption))), (by repeat (first | exact Bw.refl _ | assumption | refine Bw.drew ?_ | refine Bw.drewN ?_ _ | refine Bw.alloc ?_ _ | refine Bw.trans ?_ (by assumption)))⟩
end Go.Proofs.YtfemleimkbjehaaGreat
namespace Go.Proofs.YtfemleimkbjehaaGreat
set_option linter.unusedVariables false
set_option linter.unusedSimpArgs false
open Go.RowKit

def checkE (ns : List Nd) (r : Int) : Int := if wfB ns r then (if (orderB ns).length < ns.length then 2 else 0) else 1
/-- What Check answers besides its error. -/
def CheckL (w w' : World) (v : Value) (ns : List Nd) (r : Int) : Prop :=
  if checkE ns r = 2 then Own w w' v (cycB ns (orderB ns)) else v = .slice none 0 0

theorem CheckL.weaken {V W w' : World} {v : Value} {ns : List Nd} {r : Int} (h : CheckL W w' v ns r) (hb : Bw V W) : CheckL V w' v ns r := by
  unfold CheckL at h ⊢
  split
  · rename_i he; rw [if_pos he] at h; exact h.weaken hb
  · rename_i he; rw [if_neg he] at h; exact h

theorem wfB_len {ns : List Nd} {r : Int} (h : wfB ns r = true) : 1 ≤ ns.length ∧ ns.length ≤ 8 := by
  simp [wfB] at h; omega

set_option maxHeartbeats 1000000 in
theorem gcheck_any (ns : List Nd) (ga : Option Addr) (gc : Nat) (r : Int) (w : World) (hn : NodesAt w ga ns) (hgl : ns.length ≤ maxLen) :
    Calls Tryz.prog 49 #[.agg #[.slice ga ns.length gc, .int .i64 r]] w fun e w' => ∃ v, e = .returned (.tuple #[.int .i64 (checkE ns r), v]) ∧ CheckL w w' v ns r ∧ Bw w w' := by
  cases hwf : wfB ns r with
  | false =>
    have HW := hide hwf
    clear hwf
    go_enter Tryz.func49, Tryz.ntmps49
    go_wp2_with (go_at_call 77; refine (wf_any ns _ _ _ _ (hn.below (by repeat (first | exact Bw.refl _ | assumption | refine Bw.drew ?_ | refine Bw.drewN ?_ _ | refine Bw.alloc ?_ _ | refine Bw.trans ?_ (by assumption)))) hgl).mono ?_; rintro e w' ⟨rfl, hbl⟩; rw [unhide HW]; obtain ⟨hcc, hff⟩ := bcell hbl; have hz0 : w.heap.size < w'.heap.size := (by have := hbl.size; (try simp at this); omega))
    go_ret2
    have he : checkE ns r = 1 := by simp [checkE, unhide HW]
    exact ⟨_, by rw [he]; rfl, by unfold CheckL; rw [he]; simp, (by repeat (first | exact Bw.refl _ | assumption | refine Bw.drew ?_ | refine Bw.drewN ?_ _ | refine Bw.alloc ?_ _ | refine Bw.trans ?_ (by assumption)))⟩
  | true =>
    have HW := hide hwf
    obtain ⟨h1, h8⟩ := wfB_len hwf
    clear hwf
    by_cases hlt : (orderB ns).length < ns.length
    · have he : Hid (checkE ns r = 2) := hide (by simp [checkE, unhide HW, hlt])
      go_enter Tryz.func49, Tryz.ntmps49
      go_wp2_with (first | (go_at_call 77; refine (wf_any ns _ _ _ _ (hn.below (by repeat (first | exact Bw.refl _ | assumption | refine Bw.drew ?_ | refine Bw.drewN ?_ _ | refine Bw.alloc ?_ _ | refine Bw.trans ?_ (by assumption)))) hgl).mono ?_; rintro e w' ⟨rfl, hbl⟩; rw [unhide HW]; obtain ⟨hcc, hff⟩ := bcell hbl; have hz0 : w.heap.size < w'.heap.size := (by have := hbl.size; (try simp at this); omega)) | (go_at_call 78; refine (order_any ns _ _ _ _ (hn.below (by repeat (first | exact Bw.refl _ | assumption | refine Bw.drew ?_ | refine Bw.drewN ?_ _ | refine Bw.alloc ?_ _ | refine Bw.trans ?_ (by assumption)))) h8).mono ?_; rintro e w' ⟨v, rfl, hown, hbl⟩; obtain ⟨oa, oc, rfl, hox, hom⟩ := hown.form; obtain ⟨hcc, hff⟩ := bcell hbl; have hz0 : w.heap.size < w'.heap.size := (by have := hbl.size; (try simp at this); omega)) | (go_at_call 79; refine (cycle_any ns _ _ _ (orderB ns) _ _ _ (hn.below (by repeat (first | exact Bw.refl _ | assumption | refine Bw.drew ?_ | refine Bw.drewN ?_ _ | refine Bw.alloc ?_ _ | refine Bw.trans ?_ (by assumption)))) (hox.below (by repeat (first | exact Bw.refl _ | assumption | refine Bw.drew ?_ | refine Bw.drewN ?_ _ | refine Bw.alloc ?_ _ | refine Bw.trans ?_ (by assumption)))) hom h1 h8).mono ?_; rintro e w' ⟨v, rfl, hcy, hbl⟩))
      go_ret2
      exact ⟨_, by rw [unhide he]; rfl, by unfold CheckL; rw [unhide he]; simp; exact hcy.weaken (by repeat (first | exact Bw.refl _ | assumption | refine Bw.drew ?_ | refine Bw.drewN ?_ _ | refine Bw.alloc ?_ _ | refine Bw.trans ?_ (by assumption))), (by repeat (first | exact Bw.refl _ | assumption | refine Bw.drew ?_ | refine Bw.drewN ?_ _ | refine Bw.alloc ?_ _ | refine Bw.trans ?_ (by assumption)))⟩
    · have he : Hid (checkE ns r = 0) := hide (by simp [checkE, unhide HW, hlt])
      go_enter Tryz.func49, Tryz.ntmps49
      go_wp2_with (first | (go_at_call 77; refine (wf_any ns _ _ _ _ (hn.below (by repeat (first | exact Bw.refl _ | assumption | refine Bw.drew ?_ | refine Bw.drewN ?_ _ | refine Bw.alloc ?_ _ | refine Bw.trans ?_ (by assumption)))) hgl).mono ?_; rintro e w' ⟨rfl, hbl⟩; rw [unhide HW]; obtain ⟨hcc, hff⟩ := bcell hbl; have hz0 : w.heap.size < w'.heap.size := (by have := hbl.size; (try simp at this); omega)) | (go_at_call 78; refine (order_any ns _ _ _ _ (hn.below (by repeat (first | exact Bw.refl _ | assumption | refine Bw.drew ?_ | refine Bw.drewN ?_ _ | refine Bw.alloc ?_ _ | refine Bw.trans ?_ (by assumption)))) h8).mono ?_; rintro e w' ⟨v, rfl, hown, hbl⟩; obtain ⟨oa, oc, rfl, hox, hom⟩ := hown.form; obtain ⟨hcc, hff⟩ := bcell hbl; have hz0 : w.heap.size < w'.heap.size := (by have := hbl.size; (try simp at this); omega)))
      go_ret2
      exact ⟨_, by rw [unhide he]; rfl, by unfold CheckL; rw [unhide he]; simp, (by repeat (first | exact Bw.refl _ | assumption | refine Bw.drew ?_ | refine Bw.drewN ?_ _ | refine Bw.alloc ?_ _ | refine Bw.trans ?_ (by assumption)))⟩

end Go.Proofs.YtfemleimkbjehaaGreat
namespace Go.Proofs.YtfemleimkbjehaaGreat
set_option linter.unusedVariables false
set_option linter.unusedSimpArgs false
open Go.RowKit

def inputsL (x : Nd) : List Int := if x.kind == 0 then [] else if x.kind == 3 then [x.a, x.b] else [x.a]

theorem own_two {W w : World} (m n : Int) (hB : Bw W w) : Own W (w.alloc (.cells #[.int .i64 m, .int .i64 n] 3)) (.slice (some ⟨w.heap.size, 0, none⟩) 2 2) [m, n] :=
  ⟨rfl, .inr ⟨w.heap.size, 2, #[.int .i64 m, .int .i64 n], rfl, hB.size, heap_alloc_new w _, Nat.le_refl _, by unfold maxLen; omega, rfl, rfl⟩⟩

theorem own_two' {W w : World} {g : Nat} (m n : Int) (hg : g = w.heap.size) (hB : Bw W w) : Own W (w.alloc (.cells #[.int .i64 m, .int .i64 n] 3)) (.slice (some ⟨g, 0, none⟩) 2 2) [m, n] := by
  subst hg; exact own_two m n hB
theorem own_one' {W w : World} {g : Nat} (n : Int) (hg : g = w.heap.size) (hB : Bw W w) : Own W (w.alloc (.cells #[.int .i64 n] 3)) (.slice (some ⟨g, 0, none⟩) 1 1) [n] := by
  subst hg; exact own_one n hB

theorem inputsL_0 {x : Nd} (h : (x.kind == 0) = true) : inputsL x = [] := by simp [inputsL, h]
theorem inputsL_3 {x : Nd} (h : x.kind = 3) : inputsL x = [x.a, x.b] := by simp [inputsL, h]
theorem inputsL_1 {x : Nd} (h : x.kind ≠ 0) (h3 : x.kind ≠ 3) : inputsL x = [x.a] := by simp [inputsL, h, h3]

set_option maxHeartbeats 1000000 in
theorem inputs_any (x : Nd) (w : World) :
    Calls Tryz.prog 84 #[x.val] w fun e w' => ∃ v, e = .returned v ∧ Own w w' v (inputsL x) ∧ Bw w w' := by
  unfold Nd.val
  by_cases h0 : x.kind = 0
  · have h0' : (x.kind == 0) = true := by simp [h0]
    have H0 := hide (inputsL_0 h0')
    clear h0
    go_enter Tryz.func84, Tryz.ntmps84
    go_wp2
    go_ret
    exact ⟨_, rfl, by rw [unhide H0]; exact Own.nil _ _, (by repeat (first | exact Bw.refl _ | assumption | refine Bw.drew ?_ | refine Bw.drewN ?_ _ | refine Bw.alloc ?_ _ | refine Bw.trans ?_ (by assumption)))⟩
  · by_cases h3 : x.kind = 3
    · have H3 := hide (inputsL_3 h3)
      go_enter Tryz.func84, Tryz.ntmps84
      go_wp2
      go_ret
      exact ⟨_, rfl, by rw [unhide H3]; refine own_two' _ _ (by simp) ?_; exact (by repeat (first | exact Bw.refl _ | assumption | refine Bw.drew ?_ | refine Bw.drewN ?_ _ | refine Bw.alloc ?_ _ | refine Bw.trans ?_ (by assumption))), (by repeat (first | exact Bw.refl _ | assumption | refine Bw.drew ?_ | refine Bw.drewN ?_ _ | refine Bw.alloc ?_ _ | refine Bw.trans ?_ (by assumption)))⟩
    · have H1 := hide (inputsL_1 h0 h3)
      go_enter Tryz.func84, Tryz.ntmps84
      go_wp2
      go_ret
      exact ⟨_, rfl, by rw [unhide H1]; refine own_one' _ (by simp) ?_; exact (by repeat (first | exact Bw.refl _ | assumption | refine Bw.drew ?_ | refine Bw.drewN ?_ _ | refine Bw.alloc ?_ _ | refine Bw.trans ?_ (by assumption))), (by repeat (first | exact Bw.refl _ | assumption | refine Bw.drew ?_ | refine Bw.drewN ?_ _ | refine Bw.alloc ?_ _ | refine Bw.trans ?_ (by assumption)))⟩

theorem inputsL_len (x : Nd) : (inputsL x).length ≤ 2 := by unfold inputsL; split <;> (try split) <;> simp
theorem takesB_inputs (x : Nd) (n : Int) : takesB x n = hasB (inputsL x) n := by
  by_cases h0 : x.kind = 0
  · rw [inputsL_0 (by simp [h0])]; simp [takesB, hasB, h0]
  · by_cases h3 : x.kind = 3
    · rw [inputsL_3 h3, Bool.eq_iff_iff]; simp [takesB, hasB, h3]; constructor <;> (rintro (h | h) <;> simp [h])
    · rw [inputsL_1 h0 h3, Bool.eq_iff_iff]; simp [takesB, hasB, h0, h3]; constructor <;> (intro h; simp [h])

set_option maxHeartbeats 1000000 in
theorem rtakes_any (x : Nd) (n : Int) (w : World) :
    Calls Tryz.prog 85 #[x.val, .int .i64 n] w fun e w' => e = .returned (.bool (takesB x n)) ∧ Bw w w' := by
  have HT := hide (takesB_inputs x n)
  have hil := inputsL_len x
  unfold Nd.val
  go_enter Tryz.func85, Tryz.ntmps85
  go_wp2_with (go_at_call 84; refine (inputs_any x _).mono ?_; rintro e w' ⟨v, rfl, hown, hbl⟩; obtain ⟨la, lc, rfl, hx, hml⟩ := hown.form; clear hown)
  go_loop [6] (fun i => ∃ k : Nat, k ≤ (inputsL x).length ∧ i = .int .i64 k ∧ ∀ j, j < k → (nth (inputsL x) j == n) = false) (fun i => (inputsL x).length - (intOf i).toNat)
  case atStart => exact ⟨0, Nat.zero_le _, rfl, fun j hj => absurd hj (Nat.not_lt_zero j)⟩
  case round =>
    obtain ⟨k, hk, rfl, hno⟩ := hrel
    have Hno := hide hno
    clear hno
    by_cases hlt : k < (inputsL x).length
    · obtain ⟨b, off, rfl, hb, hc⟩ := hx k hlt
      have hc1 := hc k hlt
      clear hc
      go_wp2
      · go_ret
        exact ⟨ret_bool (by rw [unhide HT, hasB_yes hlt (by assumption)]), (by repeat (first | exact Bw.refl _ | assumption | refine Bw.drew ?_ | refine Bw.drewN ?_ _ | refine Bw.alloc ?_ _ | refine Bw.trans ?_ (by assumption)))⟩
      · go_round
        case rel => exact ⟨k + 1, by omega, by go_num, all_snoc (unhide Hno) (by assumption)⟩
        case measure => simp [intOf]; omega
    · go_wp2
      go_ret
      exact ⟨ret_bool (by rw [unhide HT, hasB_no fun j hj => (unhide Hno) j (by omega)]), (by repeat (first | exact Bw.refl _ | assumption | refine Bw.drew ?_ | refine Bw.drewN ?_ _ | refine Bw.alloc ?_ _ | refine Bw.trans ?_ (by assumption)))⟩
end Go.Proofs.YtfemleimkbjehaaGreat
