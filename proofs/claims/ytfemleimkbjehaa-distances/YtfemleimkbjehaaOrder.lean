import Derived.Test.YtfemleimkbjehaaOwn
namespace Go.Proofs.Ytfemleimkbjehaa
open Go.RowKit

/-- The order behind the first k nodes of a pass. -/
def passTo (ns : List Nd) (ord : List Int) : Nat → List Int
  | 0 => ord
  | k + 1 => if !hasB (passTo ns ord k) k && canFollowB (passTo ns ord k) (ndn ns k) then passTo ns ord k ++ [(k : Int)] else passTo ns ord k
/-- The order behind p passes. -/
def ordTo (ns : List Nd) : Nat → List Int
  | 0 => []
  | p + 1 => passTo ns (ordTo ns p) ns.length
def orderB (ns : List Nd) : List Int := ordTo ns ns.length

theorem passTo_len (ns : List Nd) (ord : List Int) (k : Nat) : (passTo ns ord k).length ≤ ord.length + k := by
  induction k with
  | zero => simp [passTo]
  | succ k ih =>
    unfold passTo
    split
    · simp; omega
    · omega
theorem ordTo_len (ns : List Nd) (p : Nat) : (ordTo ns p).length ≤ p * ns.length := by
  induction p with
  | zero => simp [ordTo]
  | succ p ih => unfold ordTo; have := passTo_len ns (ordTo ns p) ns.length; rw [Nat.succ_mul]; omega
theorem ordTo_len8 {ns : List Nd} {p : Nat} (h : ns.length ≤ 8) (hp : p ≤ ns.length) : (ordTo ns p).length ≤ 64 :=
  Nat.le_trans (ordTo_len ns p) (Nat.le_trans (Nat.mul_le_mul hp h) (by omega))
theorem passTo_add {ns : List Nd} {ord : List Int} {k : Nat} (h1 : hasB (passTo ns ord k) k = false) (h2 : canFollowB (passTo ns ord k) (ndn ns k) = true) : passTo ns ord (k + 1) = passTo ns ord k ++ [(k : Int)] := by
  rw [passTo, h1, h2]; rfl
theorem passTo_has {ns : List Nd} {ord : List Int} {k : Nat} (h1 : hasB (passTo ns ord k) k = true) : passTo ns ord (k + 1) = passTo ns ord k := by
  rw [passTo, h1]; rfl
theorem passTo_not {ns : List Nd} {ord : List Int} {k : Nat} (h2 : canFollowB (passTo ns ord k) (ndn ns k) = false) : passTo ns ord (k + 1) = passTo ns ord k := by
  rw [passTo, h2, Bool.and_false]; rfl

set_option maxHeartbeats 1000000 in
theorem order_any (ns : List Nd) (ga : Option Addr) (gc : Nat) (r : Int) (w : World) (hn : NodesAt w ga ns) (hg : ns.length ≤ 8) :
    Calls Try.prog 67 #[.agg #[.slice ga ns.length gc, .int .i64 r]] w fun e w' => ∃ v, e = .returned v ∧ Own w w' v (orderB ns) ∧ Bw w w' := by
  have hgl : ns.length ≤ maxLen := by unfold maxLen; omega
  go_enter Try.func67, Try.ntmps67
  go_wp2
  go_loopw [3, 4] (fun v i wr => ∃ p : Nat, p ≤ ns.length ∧ i = .int .i64 p ∧ Own (w.alloc (.cells #[.slice ga ns.length gc, .int .i64 r] 24)) wr v (ordTo ns p) ∧
      Bw (w.alloc (.cells #[.slice ga ns.length gc, .int .i64 r] 24)) wr)
    (fun _ i _ => ns.length - (intOf i).toNat)
  case atStart => exact ⟨0, Nat.zero_le _, rfl, Own.nil _ _, Bw.refl _⟩
  case round =>
    obtain ⟨p, hp, rfl, hown, hB⟩ := hrel
    obtain ⟨gcc, gff⟩ := bcell hB
    have gz : w.heap.size < wr.heap.size := by have := hB.size; simp at this; omega
    have h64 := ordTo_len8 hg hp
    by_cases hlt : p < ns.length
    · go_wp2
      go_loopw [3, 17] (fun v i wi => ∃ k : Nat, k ≤ ns.length ∧ i = .int .i64 k ∧ Own (w.alloc (.cells #[.slice ga ns.length gc, .int .i64 r] 24)) wi v (passTo ns (ordTo ns p) k) ∧ Bw (w.alloc (.cells #[.slice ga ns.length gc, .int .i64 r] 24)) wi)
        (fun _ i _ => ns.length - (intOf i).toNat)
      case atStart => exact ⟨0, Nat.zero_le _, rfl, hown, hB⟩
      case round =>
        clear hown hB gcc gff gz
        obtain ⟨k, hk, rfl, hown, hB⟩ := hrel
        obtain ⟨gcc, gff⟩ := bcell hB
        have gz : w.heap.size < wr.heap.size := by have := hB.size; simp at this; omega
        have hpl := passTo_len ns (ordTo ns p) k
        by_cases hkl : k < ns.length
        · obtain ⟨b, off, rfl, hb, hc⟩ := hn k hkl
          obtain ⟨c0, c1, c2, c3, c4⟩ := hc k hkl
          clear hc
          obtain ⟨ad, cap, rfl, hx, hml⟩ := hown.form
          cases hh : hasB (passTo ns (ordTo ns p) k) k with
          | true =>
            have HH := hide hh
            clear hh
            go_wp2_with (go_at_call 94; refine (contains_any (passTo ns (ordTo ns p) k) _ _ _ _ (hx.below (by repeat (first | exact Bw.refl _ | assumption | refine Bw.drew ?_ | refine Bw.drewN ?_ _ | refine Bw.alloc ?_ _ | refine Bw.trans ?_ (by assumption)))) hml).mono ?_; rintro e w' ⟨rfl, rfl⟩; rw [unhide HH])
            go_roundw
            case rel => exact ⟨k + 1, by omega, by go_num, by rw [passTo_has (unhide HH)]; exact hown.bw (by repeat (first | exact Bw.refl _ | assumption | refine Bw.drew ?_ | refine Bw.drewN ?_ _ | refine Bw.alloc ?_ _ | refine Bw.trans ?_ (by assumption))), (by repeat (first | exact Bw.refl _ | assumption | refine Bw.drew ?_ | refine Bw.drewN ?_ _ | refine Bw.alloc ?_ _ | refine Bw.trans ?_ (by assumption)))⟩
            case measure => simp [intOf]; omega
          | false =>
            have HH := hide hh
            clear hh
            cases hf : canFollowB (passTo ns (ordTo ns p) k) (ndn ns k) with
            | false =>
              have HF := hide hf
              clear hf
              go_wp2_with (first | (go_at_call 94; refine (contains_any (passTo ns (ordTo ns p) k) _ _ _ _ (hx.below (by repeat (first | exact Bw.refl _ | assumption | refine Bw.drew ?_ | refine Bw.drewN ?_ _ | refine Bw.alloc ?_ _ | refine Bw.trans ?_ (by assumption)))) hml).mono ?_; rintro e w' ⟨rfl, rfl⟩; rw [unhide HH]) | (go_at_call 95; refine (canFollow_any (passTo ns (ordTo ns p) k) (ndn ns k) _ _ _ (hx.below (by repeat (first | exact Bw.refl _ | assumption | refine Bw.drew ?_ | refine Bw.drewN ?_ _ | refine Bw.alloc ?_ _ | refine Bw.trans ?_ (by assumption)))) hml).mono ?_; rintro e w' ⟨rfl, hbl⟩; rw [unhide HF]))
              go_roundw
              case rel => exact ⟨k + 1, by omega, by go_num, by rw [passTo_not (unhide HF)]; exact hown.bw (by repeat (first | exact Bw.refl _ | assumption | refine Bw.drew ?_ | refine Bw.drewN ?_ _ | refine Bw.alloc ?_ _ | refine Bw.trans ?_ (by assumption))), (by repeat (first | exact Bw.refl _ | assumption | refine Bw.drew ?_ | refine Bw.drewN ?_ _ | refine Bw.alloc ?_ _ | refine Bw.trans ?_ (by assumption)))⟩
              case measure => simp [intOf]; omega
            | true =>
              have HF := hide hf
              clear hf
              go_wp2_with (first | (at_builtin; refine app1 _ rfl _ _ rfl _ _ (passTo ns (ordTo ns p) k) rfl (hown.bw (by repeat (first | exact Bw.refl _ | assumption | refine Bw.drew ?_ | refine Bw.drewN ?_ _ | refine Bw.alloc ?_ _ | refine Bw.trans ?_ (by assumption)))) _ _ (k : Int) rfl (by simp) (by omega) (by repeat (first | exact Bw.refl _ | assumption | refine Bw.drew ?_ | refine Bw.drewN ?_ _ | refine Bw.alloc ?_ _ | refine Bw.trans ?_ (by assumption))) ?_; intro v' w1 hown1 hB1 hgr1) | (go_at_call 94; refine (contains_any (passTo ns (ordTo ns p) k) _ _ _ _ (hx.below (by repeat (first | exact Bw.refl _ | assumption | refine Bw.drew ?_ | refine Bw.drewN ?_ _ | refine Bw.alloc ?_ _ | refine Bw.trans ?_ (by assumption)))) hml).mono ?_; rintro e w' ⟨rfl, rfl⟩; rw [unhide HH]) | (go_at_call 95; refine (canFollow_any (passTo ns (ordTo ns p) k) (ndn ns k) _ _ _ (hx.below (by repeat (first | exact Bw.refl _ | assumption | refine Bw.drew ?_ | refine Bw.drewN ?_ _ | refine Bw.alloc ?_ _ | refine Bw.trans ?_ (by assumption)))) hml).mono ?_; rintro e w' ⟨rfl, hbl⟩; rw [unhide HF]; obtain ⟨hcc, hff⟩ := bcell hbl))
              go_roundw
              case rel => exact ⟨k + 1, by omega, by go_num, by rw [passTo_add (unhide HH) (unhide HF)]; exact hown1, hB1⟩
              case measure => simp [intOf]; omega
        · have hkk : k = ns.length := by omega
          subst hkk
          go_wp2
          go_roundw
          case rel => exact ⟨p + 1, by omega, by go_num, by unfold ordTo; exact hown, hB⟩
          case measure => simp [intOf]; omega
    · have hpp : p = ns.length := by omega
      obtain ⟨ad, cap, rfl, hx, hml⟩ := hown.form
      subst hpp
      go_wp2
      go_ret
      exact ⟨_, rfl, (hown.weaken (by repeat (first | exact Bw.refl _ | assumption | refine Bw.drew ?_ | refine Bw.drewN ?_ _ | refine Bw.alloc ?_ _ | refine Bw.trans ?_ (by assumption)))), (by repeat (first | exact Bw.refl _ | assumption | refine Bw.drew ?_ | refine Bw.drewN ?_ _ | refine Bw.alloc ?_ _ | refine Bw.trans ?_ (by assumption)))⟩
end Go.Proofs.Ytfemleimkbjehaa
