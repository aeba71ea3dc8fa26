import Derived.Test.YtfemleimkbjehaaYA
import Derived.BigQuiet
import Derived.Test.YtfemleimkbjehaaJ4
set_option maxRecDepth 1000000
set_option maxHeartbeats 40000000
set_option linter.unusedVariables false
set_option linter.unusedSimpArgs false
namespace Go.Proofs.Ytfemleimkbjehaa
open Go.RowKit
def mdL (x : Nd) (l : List Int) : List Int := if x.kind == 6 then kD l x.k 8 else if x.kind == 7 then [] else kF x l l.length
theorem al3 (w : World) (A B C : Obj) : (((w.alloc A).alloc B).alloc C).heap[w.heap.size]? = some A ∧ (((w.alloc A).alloc B).alloc C).heap[w.heap.size + 1]? = some B ∧ (((w.alloc A).alloc B).alloc C).heap[w.heap.size + 1 + 1]? = some C ∧ Bw w (((w.alloc A).alloc B).alloc C) := by
  refine ⟨(Below.block (show Bw (w.alloc A) _ from (by repeat first|exact br _|assumption|apply bd|apply bn|apply ba|refine bt ?_ (by assumption))) _ (by simp)).trans (heap_alloc_new w _), ?_, ?_, (by repeat first|exact br _|assumption|apply bd|apply bn|apply ba|refine bt ?_ (by assumption))⟩
  · have h : ((w.alloc A).alloc B).heap[w.heap.size + 1]? = some B := by rw [show w.heap.size + 1 = (w.alloc A).heap.size by simp]; exact heap_alloc_new _ _
    exact (Below.block (show Bw ((w.alloc A).alloc B) _ from (by repeat first|exact br _|assumption|apply bd|apply bn|apply ba|refine bt ?_ (by assumption))) _ (by simp)).trans h
  · rw [show w.heap.size + 1 + 1 = ((w.alloc A).alloc B).heap.size by simp]; exact heap_alloc_new _ _
def plTo (x : Nd) (l : List Int) (k : Nat) : List Int := if x.kind == 7 then [] else kF x l k
theorem plTo_7 {x : Nd} (l : List Int) (k : Nat) (h : x.kind = 7) : plTo x l k = [] := by unfold plTo; rw [h]; rfl
theorem wG {x : Nd} (l : List Int) (k : Nat) (h : x.kind ≠ 7) : plTo x l k = kF x l k := by unfold plTo; rw [if_neg (by simpa using h)]
structure G8 (w : World) (A B : Nat) (S : Nat → Int) (M : Nat → Bool) : Prop where
  a : ∃ arr : Array Value, w.heap[A]? = some (.cells arr 144 (0, 0)) ∧ arr.size = 8 ∧ ∀ g, g < 8 → arr[g]? = some (.int .i64 (S g))
  b : ∃ arr : Array Value, w.heap[B]? = some (.cells arr 145 (0, 0)) ∧ arr.size = 8 ∧ ∀ g, g < 8 → arr[g]? = some (.bool (M g))
theorem G8.bw {w w' : World} {A B : Nat} {S : Nat → Int} {M : Nat → Bool} (h : G8 w A B S M) (hb : Bw w w') : G8 w' A B S M := by
  obtain ⟨⟨a1, p1, p2⟩, a2, q1, q2⟩ := h
  exact ⟨⟨a1, (Below.block hb _ (Array.getElem?_eq_some_iff.1 p1).1).trans p1, p2⟩, a2, (Below.block hb _ (Array.getElem?_eq_some_iff.1 q1).1).trans q1, q2⟩
theorem G8.get {w : World} {A B : Nat} {S : Nat → Int} {M : Nat → Bool} (h : G8 w A B S M) {g : Nat} (hg : g < 8) : w.cell? ⟨A, g, none⟩ = some (.int .i64 (S g)) ∧ w.cell? ⟨B, g, none⟩ = some (.bool (M g)) ∧ A < w.heap.size ∧ B < w.heap.size ∧ w.frozen? ⟨A, g, none⟩ = false ∧ w.frozen? ⟨B, g, none⟩ = false := by
  obtain ⟨⟨a1, p1, _, p2⟩, a2, q1, _, q2⟩ := h
  exact ⟨qQ p1 (p2 g hg), qQ q1 (q2 g hg), (Array.getElem?_eq_some_iff.1 p1).1, (Array.getElem?_eq_some_iff.1 q1).1, qZ p1, qZ q1⟩
theorem G8.set {w : World} {A B : Nat} {S : Nat → Int} {M : Nat → Bool} (h : G8 w A B S M) {g : Nat} (hg : g < 8) (v : Int) : G8 ((w.setCell ⟨A, g, none⟩ (.int .i64 v)).setCell ⟨B, g, none⟩ (.bool true)) A B (fun j => if j = g then v else S j) (fun j => if j = g then true else M j) := by
  obtain ⟨⟨a1, p1, p3, p2⟩, a2, q1, q3, q2⟩ := h
  have r1 : (w.setCell ⟨A, g, none⟩ (.int .i64 v)).heap[A]? = some (.cells (a1.setIfInBounds g (.int .i64 v)) 144 (0, 0)) := by
    rw [setCell_eq_setRow w A g a1 144 (0, 0) _ p1]
    exact setRow_heap w A a1 _ _ _ p1
  have r2 : (w.setCell ⟨A, g, none⟩ (.int .i64 v)).heap[B]? = some (.cells a2 145 (0, 0)) := qU p1 q1 (by decide)
  have r3 := qU (k := g) (u := .bool true) r2 r1 (by decide)
  have r4 : ((w.setCell ⟨A, g, none⟩ (.int .i64 v)).setCell ⟨B, g, none⟩ (.bool true)).heap[B]? = some (.cells (a2.setIfInBounds g (.bool true)) 145 (0, 0)) := by
    rw [setCell_eq_setRow _ B g a2 145 (0, 0) _ r2]
    exact setRow_heap _ B a2 _ _ _ r2
  refine ⟨⟨_, r3, by simpa using p3, fun j hj => ?_⟩, _, r4, by simpa using q3, fun j hj => ?_⟩
  · by_cases e : j = g
    · subst e; rw [Array.getElem?_setIfInBounds_self_of_lt (by omega), if_pos rfl]
    · rw [Array.getElem?_setIfInBounds_ne (by omega), if_neg e]; exact p2 j hj
  · by_cases e : j = g
    · subst e; rw [Array.getElem?_setIfInBounds_self_of_lt (by omega), if_pos rfl]
    · rw [Array.getElem?_setIfInBounds_ne (by omega), if_neg e]; exact q2 j hj
theorem G8.congr {w : World} {A B : Nat} {S S' : Nat → Int} {M M' : Nat → Bool} (h : G8 w A B S M) (h1 : ∀ g, g < 8 → S' g = S g) (h2 : ∀ g, g < 8 → M' g = M g) : G8 w A B S' M' := by
  obtain ⟨⟨a1, p1, p3, p2⟩, a2, q1, q3, q2⟩ := h
  exact ⟨⟨a1, p1, p3, fun g hg => by rw [h1 g hg]; exact p2 g hg⟩, a2, q1, q3, fun g hg => by rw [h2 g hg]; exact q2 g hg⟩
theorem G8.init (w : World) (o : Obj) : G8 (((w.alloc o).alloc (.cells #[.int .i64 0, .int .i64 0, .int .i64 0, .int .i64 0, .int .i64 0, .int .i64 0, .int .i64 0, .int .i64 0] 144)).alloc (.cells #[.bool false, .bool false, .bool false, .bool false, .bool false, .bool false, .bool false, .bool false] 145)) (w.heap.size + 1) (w.heap.size + 1 + 1) (fun _ => 0) (fun _ => false) := by
  obtain ⟨h1, h2, h3, _⟩ := al3 w o (.cells #[.int .i64 0, .int .i64 0, .int .i64 0, .int .i64 0, .int .i64 0, .int .i64 0, .int .i64 0, .int .i64 0] 144) (.cells #[.bool false, .bool false, .bool false, .bool false, .bool false, .bool false, .bool false, .bool false] 145)
  exact ⟨⟨_, h2, rfl, eight _⟩, _, h3, rfl, eight _⟩
set_option maxRecDepth 100000 in
set_option maxHeartbeats 4000000 in
theorem kmade_plain (x : Nd) (l : List Int) (ad : Option Addr) (cap : Nat) (w : World) (hx : IntsAt w ad l) (hl : l.length ≤ 1000000) (hk : x.kind = 1 ∨ x.kind = 2 ∨ x.kind = 3 ∨ x.kind = 7) (h2 : x.kind = 2 → 1 ≤ x.k ∧ x.k ≤ 100) (h64 : nJ l) :
    Calls Try.prog 82 #[x.val, .slice ad l.length cap] w fun e w' => ∃ v, e = .returned v ∧ Own w w' v (plTo x l l.length) ∧ Bw w w' := by
  obtain ⟨xk, xa, xb, xq, xm⟩ := x
  unfold Nd.val
  simp only at hk h2 ⊢
  have k5 : (xk == 5) = false := by simp; omega
  have k6 : (xk == 6) = false := by simp; omega
  go_enter Try.func82, Try.ntmps82
  go_wp2_with fail
  obtain ⟨W, hW⟩ : ∃ W, ((w.alloc (.cells #[.int .i64 xk, .int .i64 xa, .int .i64 xb, .int .i64 xq, .int .i64 xm] 32)).alloc (.cells #[.int .i64 0, .int .i64 0, .int .i64 0, .int .i64 0, .int .i64 0, .int .i64 0, .int .i64 0, .int .i64 0] 144)).alloc (.cells #[.bool false, .bool false, .bool false, .bool false, .bool false, .bool false, .bool false, .bool false] 145) = W := ⟨_, rfl⟩
  rw [hW]
  have hG : G8 W (w.heap.size + 1) (w.heap.size + 1 + 1) (fun _ => 0) (fun _ => false) := hW ▸ G8.init w _
  obtain ⟨q1, q2, q3, hBW⟩ := al3 w (.cells #[.int .i64 xk, .int .i64 xa, .int .i64 xb, .int .i64 xq, .int .i64 xm] 32) (.cells #[.int .i64 0, .int .i64 0, .int .i64 0, .int .i64 0, .int .i64 0, .int .i64 0, .int .i64 0, .int .i64 0] 144) (.cells #[.bool false, .bool false, .bool false, .bool false, .bool false, .bool false, .bool false, .bool false] 145)
  rw [hW] at q1 hBW
  clear q2 q3 hW
  go_loopw [5, 8] (fun v i wr => ∃ k : Nat, k ≤ l.length ∧ i = .int .i64 k ∧ Own W wr v (plTo ⟨xk, xa, xb, xq, xm⟩ l k) ∧ Bw W wr) (fun _ i _ => l.length - (intOf i).toNat)
  case atStart => exact ⟨0, Nat.zero_le _, rfl, by rw [show plTo ⟨xk, xa, xb, xq, xm⟩ l 0 = [] by unfold plTo; split <;> rfl]; exact Own.nil _ _, Bw.refl _⟩
  case round =>
    obtain ⟨k, hkl, rfl, hown, hB⟩ := hrel
    rename World => wr
    have hb := (Below.block hB _ (Array.getElem?_eq_some_iff.1 q1).1).trans q1
    have c0 := qQ (o := 0) hb rfl
    have c3 := qQ (o := 3) hb rfl
    have c4 := qQ (o := 4) hb rfl
    have cl := (Array.getElem?_eq_some_iff.1 hb).1
    have hG2 := hG.bw hB
    clear hb
    by_cases hlt : k < l.length
    · obtain ⟨b, off, rfl, hbl, hc⟩ := hx k hlt
      have hc1 := ((qX (hBW.trans hB)).1 _ _ hbl).trans (hc k hlt)
      have hbl2 := Nat.lt_of_lt_of_le hbl (hBW.trans hB).size
      clear hc
      have hv64 := h64 _ (fM hlt)
      have hrl := pG ⟨xk, xa, xb, xq, xm⟩ l k
      have Hy := qJ (@lT ⟨xk, xa, xb, xq, xm⟩ l k)
      have Hn := qJ (@dQ ⟨xk, xa, xb, xq, xm⟩ l k)
      have Hsk : Hid (tJ ⟨xk, xa, xb, xq, xm⟩ l k = ((xk == 2) && (kC l k % xq != xm))) := qJ (by unfold tJ; simp only [k5]; simp)
      generalize kC l k = u at *
      go_wp2_with fail
      go_loopw [10, 11] (fun f j wi => f = .bool true ∧ j = .int .i64 0 ∧ wi = wr) (fun _ _ _ => 0)
      case atStart => exact ⟨rfl, rfl, rfl⟩
      case round =>
        obtain ⟨rfl, rfl, rfl⟩ := hrel
        rename World => wr
        rcases hk with rfl | rfl | rfl | rfl
        · have Hadd : Hid (kF ⟨1, xa, xb, xq, xm⟩ l (k + 1) = kF ⟨1, xa, xb, xq, xm⟩ l k ++ [wrap64 (u + xq)]) := qJ ((qK Hn) ((qK Hsk).trans rfl))
          rw [wG _ _ (by simp)] at hown
          by_cases h0 : (0 : Int) < k
          · go_wp2_with (at_builtin; refine mK _ rfl _ _ rfl _ _ (kF ⟨1, xa, xb, xq, xm⟩ l k) rfl (hown.bw (by repeat first|exact br _|assumption|apply bd|apply bn|apply ba|refine bt ?_ (by assumption))) _ _ (wrap64 (u + xq)) rfl (by simp) (by omega) (by repeat first|exact br _|assumption|apply bd|apply bn|apply ba|refine bt ?_ (by assumption)) ?_; intro v' w2 hown1 hB3 hgr1)
            go_roundw
            case rel => exact ⟨k + 1, by omega, by go_num, by rw [wG _ _ (by simp), qK Hadd]; exact hown1, hB3⟩
            case measure => simp [intOf]; omega
          · go_wp2_with (at_builtin; refine mK _ rfl _ _ rfl _ _ (kF ⟨1, xa, xb, xq, xm⟩ l k) rfl (hown.bw (by repeat first|exact br _|assumption|apply bd|apply bn|apply ba|refine bt ?_ (by assumption))) _ _ (wrap64 (u + xq)) rfl (by simp) (by omega) (by repeat first|exact br _|assumption|apply bd|apply bn|apply ba|refine bt ?_ (by assumption)) ?_; intro v' w2 hown1 hB3 hgr1)
            go_roundw
            case rel => exact ⟨k + 1, by omega, by go_num, by rw [wG _ _ (by simp), qK Hadd]; exact hown1, hB3⟩
            case measure => simp [intOf]; omega
        · obtain ⟨p1, p2⟩ := h2 rfl
          rw [wG _ _ (by simp)] at hown
          cases hp : (u % xq == xm) with
          | true =>
            have Hadd : Hid (kF ⟨2, xa, xb, xq, xm⟩ l (k + 1) = kF ⟨2, xa, xb, xq, xm⟩ l k ++ [u]) := qJ (by rw [(qK Hn) ((qK Hsk).trans (by simp [bne, hp]))]; simp only [gR]; simp [dW hv64])
            by_cases h0 : (0 : Int) < k
            · go_wp2_with fail
              go_quiet ((go_at_call 89; refine Calls.quiet_of_same (xW _ _ _ p1 (by omega))))
              have hBq : Bw wr (wr.drewN nq) := (by repeat first|exact br _|assumption|apply bd|apply bn|apply ba|refine bt ?_ (by assumption))
              have hBW2 := hB.trans hBq
              have hown := hown.bw hBq
              generalize wr.drewN nq = wq at *
              go_wp2_with (at_builtin; refine mK _ rfl _ _ rfl _ _ (kF ⟨2, xa, xb, xq, xm⟩ l k) rfl (hown.bw (by repeat first|exact br _|assumption|apply bd|apply bn|apply ba|refine bt ?_ (by assumption))) _ _ u rfl (by simp) (by omega) (by repeat first|exact br _|assumption|apply bd|apply bn|apply ba|refine bt ?_ (by assumption)) ?_; intro v' w2 hown1 hB3 hgr1)
              go_roundw
              case rel => exact ⟨k + 1, by omega, by go_num, by rw [wG _ _ (by simp), qK Hadd]; exact hown1, hB3⟩
              case measure => simp [intOf]; omega
            · go_wp2_with fail
              go_quiet ((go_at_call 89; refine Calls.quiet_of_same (xW _ _ _ p1 (by omega))))
              have hBq : Bw wr (wr.drewN nq) := (by repeat first|exact br _|assumption|apply bd|apply bn|apply ba|refine bt ?_ (by assumption))
              have hBW2 := hB.trans hBq
              have hown := hown.bw hBq
              generalize wr.drewN nq = wq at *
              go_wp2_with (at_builtin; refine mK _ rfl _ _ rfl _ _ (kF ⟨2, xa, xb, xq, xm⟩ l k) rfl (hown.bw (by repeat first|exact br _|assumption|apply bd|apply bn|apply ba|refine bt ?_ (by assumption))) _ _ u rfl (by simp) (by omega) (by repeat first|exact br _|assumption|apply bd|apply bn|apply ba|refine bt ?_ (by assumption)) ?_; intro v' w2 hown1 hB3 hgr1)
              go_roundw
              case rel => exact ⟨k + 1, by omega, by go_num, by rw [wG _ _ (by simp), qK Hadd]; exact hown1, hB3⟩
              case measure => simp [intOf]; omega
          | false =>
            have Hadd : Hid (kF ⟨2, xa, xb, xq, xm⟩ l (k + 1) = kF ⟨2, xa, xb, xq, xm⟩ l k) := qJ ((qK Hy) ((qK Hsk).trans (by simp [bne, hp])))
            by_cases h0 : (0 : Int) < k
            · go_wp2_with fail
              go_quiet ((go_at_call 89; refine Calls.quiet_of_same (xW _ _ _ p1 (by omega))))
              have hBq : Bw wr (wr.drewN nq) := (by repeat first|exact br _|assumption|apply bd|apply bn|apply ba|refine bt ?_ (by assumption))
              have hBW2 := hB.trans hBq
              have hown := hown.bw hBq
              generalize wr.drewN nq = wq at *
              go_wp2_with fail
              go_roundw
              case rel => exact ⟨k + 1, by omega, by go_num, by rw [wG _ _ (by simp), qK Hadd]; exact hown, hBW2⟩
              case measure => simp [intOf]; omega
            · go_wp2_with fail
              go_quiet ((go_at_call 89; refine Calls.quiet_of_same (xW _ _ _ p1 (by omega))))
              have hBq : Bw wr (wr.drewN nq) := (by repeat first|exact br _|assumption|apply bd|apply bn|apply ba|refine bt ?_ (by assumption))
              have hBW2 := hB.trans hBq
              have hown := hown.bw hBq
              generalize wr.drewN nq = wq at *
              go_wp2_with fail
              go_roundw
              case rel => exact ⟨k + 1, by omega, by go_num, by rw [wG _ _ (by simp), qK Hadd]; exact hown, hBW2⟩
              case measure => simp [intOf]; omega
        · have Hadd : Hid (kF ⟨3, xa, xb, xq, xm⟩ l (k + 1) = kF ⟨3, xa, xb, xq, xm⟩ l k ++ [u]) := qJ (by rw [(qK Hn) ((qK Hsk).trans rfl)]; simp only [gR]; simp [dW hv64])
          rw [wG _ _ (by simp)] at hown
          by_cases h0 : (0 : Int) < k
          · go_wp2_with (at_builtin; refine mK _ rfl _ _ rfl _ _ (kF ⟨3, xa, xb, xq, xm⟩ l k) rfl (hown.bw (by repeat first|exact br _|assumption|apply bd|apply bn|apply ba|refine bt ?_ (by assumption))) _ _ u rfl (by simp) (by omega) (by repeat first|exact br _|assumption|apply bd|apply bn|apply ba|refine bt ?_ (by assumption)) ?_; intro v' w2 hown1 hB3 hgr1)
            go_roundw
            case rel => exact ⟨k + 1, by omega, by go_num, by rw [wG _ _ (by simp), qK Hadd]; exact hown1, hB3⟩
            case measure => simp [intOf]; omega
          · go_wp2_with (at_builtin; refine mK _ rfl _ _ rfl _ _ (kF ⟨3, xa, xb, xq, xm⟩ l k) rfl (hown.bw (by repeat first|exact br _|assumption|apply bd|apply bn|apply ba|refine bt ?_ (by assumption))) _ _ u rfl (by simp) (by omega) (by repeat first|exact br _|assumption|apply bd|apply bn|apply ba|refine bt ?_ (by assumption)) ?_; intro v' w2 hown1 hB3 hgr1)
            go_roundw
            case rel => exact ⟨k + 1, by omega, by go_num, by rw [wG _ _ (by simp), qK Hadd]; exact hown1, hB3⟩
            case measure => simp [intOf]; omega
        · rw [plTo_7 _ _ rfl] at hown
          by_cases h0 : (0 : Int) < k
          · go_wp2_with fail
            go_roundw
            case rel => exact ⟨k + 1, by omega, by go_num, by rw [plTo_7 _ _ rfl]; exact hown, hB⟩
            case measure => simp [intOf]; omega
          · go_wp2_with fail
            go_roundw
            case rel => exact ⟨k + 1, by omega, by go_num, by rw [plTo_7 _ _ rfl]; exact hown, hB⟩
            case measure => simp [intOf]; omega
    · have hkk : k = l.length := by omega
      subst hkk
      have Hown := qJ hown
      clear hown
      go_wp2_with fail
      go_loopw [5, 13] (fun v i wi => ∃ m : Nat, m ≤ 8 ∧ i = .int .i64 m ∧ Own W wi v (plTo ⟨xk, xa, xb, xq, xm⟩ l l.length) ∧ Bw W wi) (fun _ i _ => 8 - (intOf i).toNat)
      case atStart => exact ⟨0, Nat.zero_le _, rfl, qK Hown, hB⟩
      case round =>
        clear Hown hB hG2 c0 c3 c4 cl
        obtain ⟨m, hm, rfl, hown, hB⟩ := hrel
        rename World => wr
        have hG2 := hG.bw hB
        by_cases hlt : m < 8
        · obtain ⟨_, g2, _, g4, _⟩ := hG2.get hlt
          have hm1 : (m : Int) < 8 := by omega
          clear hG2
          go_wp2_with fail
          go_roundw
          case rel => exact ⟨m + 1, by omega, by go_num, hown, hB⟩
          case measure => simp [intOf]; omega
        · have hmm : m = 8 := by omega
          subst hmm
          clear hG2
          go_wp2_with fail
          go_ret
          exact ⟨_, rfl, hown.weaken hBW, hBW.trans hB⟩
theorem all_take {l : List Int} {v : Int} {j : Nat} (hj : j < l.length) : jF (l.take (j + 1)) v = (jF (l.take j) v || (kC l j == v)) := by
  rw [wS hj, Bool.eq_iff_iff, Bool.or_eq_true, hasB_iff, hasB_iff, List.mem_append]
  simp
  constructor
  · rintro (h | h)
    · exact .inl h
    · exact .inr h.symm
  · rintro (h | h)
    · exact .inl h
    · exact .inr h.symm
set_option maxRecDepth 100000 in
set_option maxHeartbeats 4000000 in
theorem kmade_once (x : Nd) (l : List Int) (ad : Option Addr) (cap : Nat) (w : World) (hx : IntsAt w ad l) (hl : l.length ≤ 1000000) (hk : x.kind = 5) (h64 : nJ l) :
    Calls Try.prog 82 #[x.val, .slice ad l.length cap] w fun e w' => ∃ v, e = .returned v ∧ Own w w' v (kF x l l.length) ∧ Bw w w' := by
  obtain ⟨xk, xa, xb, xq, xm⟩ := x
  unfold Nd.val
  simp only at hk ⊢
  subst hk
  go_enter Try.func82, Try.ntmps82
  go_wp2_with fail
  obtain ⟨W, hW⟩ : ∃ W, ((w.alloc (.cells #[.int .i64 5, .int .i64 xa, .int .i64 xb, .int .i64 xq, .int .i64 xm] 32)).alloc (.cells #[.int .i64 0, .int .i64 0, .int .i64 0, .int .i64 0, .int .i64 0, .int .i64 0, .int .i64 0, .int .i64 0] 144)).alloc (.cells #[.bool false, .bool false, .bool false, .bool false, .bool false, .bool false, .bool false, .bool false] 145) = W := ⟨_, rfl⟩
  rw [hW]
  have hG : G8 W (w.heap.size + 1) (w.heap.size + 1 + 1) (fun _ => 0) (fun _ => false) := hW ▸ G8.init w _
  obtain ⟨q1, q2, q3, hBW⟩ := al3 w (.cells #[.int .i64 5, .int .i64 xa, .int .i64 xb, .int .i64 xq, .int .i64 xm] 32) (.cells #[.int .i64 0, .int .i64 0, .int .i64 0, .int .i64 0, .int .i64 0, .int .i64 0, .int .i64 0, .int .i64 0] 144) (.cells #[.bool false, .bool false, .bool false, .bool false, .bool false, .bool false, .bool false, .bool false] 145)
  rw [hW] at q1 hBW
  have gzW : W.heap.size = w.heap.size + 3 := by rw [← hW]; simp
  clear q2 q3 hW
  go_loopw [5, 8] (fun v i wr => ∃ k : Nat, k ≤ l.length ∧ i = .int .i64 k ∧ Own W wr v (kF ⟨5, xa, xb, xq, xm⟩ l k) ∧ Bw W wr) (fun _ i _ => l.length - (intOf i).toNat)
  case atStart => exact ⟨0, Nat.zero_le _, rfl, Own.nil _ _, Bw.refl _⟩
  case round =>
    obtain ⟨k, hkl, rfl, hown, hB⟩ := hrel
    rename World => wr
    have hb := (Below.block hB _ (Array.getElem?_eq_some_iff.1 q1).1).trans q1
    have c0 := qQ (o := 0) hb rfl
    have cl := (Array.getElem?_eq_some_iff.1 hb).1
    clear hb
    by_cases hlt : k < l.length
    · obtain ⟨b, off, rfl, hbl, hc⟩ := hx k hlt
      have hcj : ∀ j, j < l.length → wr.cell? ⟨b, off + j, none⟩ = some (.int .i64 (kC l j)) := fun j hj => ((qX (hBW.trans hB)).1 _ _ hbl).trans (hc j hj)
      have hc1 := hcj k hlt
      have hbl2 := Nat.lt_of_lt_of_le hbl (hBW.trans hB).size
      have Hcj := qJ hcj
      clear hc hcj
      have hv64 := h64 _ (fM hlt)
      have hrl := pG ⟨5, xa, xb, xq, xm⟩ l k
      have Hy := qJ (@lT ⟨5, xa, xb, xq, xm⟩ l k)
      have Hn := qJ (@dQ ⟨5, xa, xb, xq, xm⟩ l k)
      have Hsk : Hid (tJ ⟨5, xa, xb, xq, xm⟩ l k = jF (l.take k) (kC l k)) := qJ (by unfold tJ; simp)
      generalize kC l k = u at *
      go_wp2_with fail
      go_loopw [10, 11] (fun f j wi => ∃ m : Nat, m ≤ k ∧ f = .bool (!jF (l.take m) u) ∧ j = .int .i64 m ∧ wi = wr) (fun _ j _ => k - (intOf j).toNat)
      case atStart => exact ⟨0, Nat.zero_le _, rfl, rfl, rfl⟩
      case round =>
        obtain ⟨m, hm, rfl, rfl, rfl⟩ := hrel
        rename World => wr
        by_cases hmk : m < k
        · have hcm := (qK Hcj) m (by omega)
          have hm1 : (m : Int) < k := by omega
          have Hst := qJ (all_take (l := l) (v := u) (j := m) (by omega))
          cases hh : jF (l.take m) u with
          | true =>
            rw [hh] at Hst
            go_wp2_with fail
            go_roundw
            case rel => exact ⟨m + 1, by omega, by rw [qK Hst]; rfl, by go_num, by first | rfl | trivial⟩
            case measure => simp [intOf]; omega
          | false =>
            rw [hh] at Hst
            cases hq : (kC l m == u) with
            | true =>
              have hq2 : (kC l m != u) = false := by simp [bne, hq]
              go_wp2_with fail
              go_roundw
              case rel => exact ⟨m + 1, by omega, by rw [qK Hst, hq]; first | rfl | (simp [hq2]), by go_num, by first | rfl | trivial⟩
              case measure => simp [intOf]; omega
            | false =>
              have hq2 : (kC l m != u) = true := by simp [bne, hq]
              go_wp2_with fail
              go_roundw
              case rel => exact ⟨m + 1, by omega, by rw [qK Hst, hq]; first | rfl | (simp [hq2]), by go_num, by first | rfl | trivial⟩
              case measure => simp [intOf]; omega
        · have hmm : m = k := by omega
          subst hmm
          cases hh : jF (l.take m) u with
          | true =>
            have Hadd := qJ ((qK Hy) ((qK Hsk).trans hh))
            go_wp2_with fail
            go_roundw
            case rel => exact ⟨m + 1, by omega, by go_num, by rw [qK Hadd]; exact hown, hB⟩
            case measure => simp [intOf]; omega
          | false =>
            have Hadd : Hid (kF ⟨5, xa, xb, xq, xm⟩ l (m + 1) = kF ⟨5, xa, xb, xq, xm⟩ l m ++ [u]) := qJ (by rw [(qK Hn) ((qK Hsk).trans hh)]; simp only [gR]; simp [dW hv64])
            go_wp2_with (at_builtin; refine mK _ rfl _ _ rfl _ _ (kF ⟨5, xa, xb, xq, xm⟩ l m) rfl (hown.bw (by repeat first|exact br _|assumption|apply bd|apply bn|apply ba|refine bt ?_ (by assumption))) _ _ u rfl (by simp) (by omega) (by repeat first|exact br _|assumption|apply bd|apply bn|apply ba|refine bt ?_ (by assumption)) ?_; intro v' w2 hown1 hB3 hgr1)
            go_roundw
            case rel => exact ⟨m + 1, by omega, by go_num, by rw [qK Hadd]; exact hown1, hB3⟩
            case measure => simp [intOf]; omega
    · have hkk : k = l.length := by omega
      subst hkk
      have Hown := qJ hown
      clear hown
      go_wp2_with fail
      go_loopw [5, 13] (fun v i wi => ∃ m : Nat, m ≤ 8 ∧ i = .int .i64 m ∧ Own W wi v (kF ⟨5, xa, xb, xq, xm⟩ l l.length) ∧ Bw W wi) (fun _ i _ => 8 - (intOf i).toNat)
      case atStart => exact ⟨0, Nat.zero_le _, rfl, qK Hown, hB⟩
      case round =>
        clear Hown hB c0 cl
        obtain ⟨m, hm, rfl, hown, hB⟩ := hrel
        rename World => wr
        have hG2 := hG.bw hB
        by_cases hlt : m < 8
        · obtain ⟨_, g2, _, g4, _⟩ := hG2.get hlt
          have hm1 : (m : Int) < 8 := by omega
          clear hG2
          go_wp2_with fail
          go_roundw
          case rel => exact ⟨m + 1, by omega, by go_num, hown, hB⟩
          case measure => simp [intOf]; omega
        · have hmm : m = 8 := by omega
          subst hmm
          clear hG2
          go_wp2_with fail
          go_ret
          exact ⟨_, rfl, hown.weaken hBW, hBW.trans hB⟩
set_option maxRecDepth 100000 in
set_option maxHeartbeats 4000000 in
theorem kmade_sum (x : Nd) (l : List Int) (ad : Option Addr) (cap : Nat) (w : World) (hx : IntsAt w ad l) (hl : l.length ≤ 1000000) (hk : x.kind = 6) (hq1 : 1 ≤ x.k) (hq8 : x.k ≤ 8) :
    Calls Try.prog 82 #[x.val, .slice ad l.length cap] w fun e w' => ∃ v, e = .returned v ∧ Own w w' v (kD l x.k 8) ∧ Bw w w' := by
  obtain ⟨xk, xa, xb, xq, xm⟩ := x
  unfold Nd.val
  simp only at hk hq1 hq8 ⊢
  subst hk
  go_enter Try.func82, Try.ntmps82
  go_wp2_with fail
  obtain ⟨W, hW⟩ : ∃ W, ((w.alloc (.cells #[.int .i64 6, .int .i64 xa, .int .i64 xb, .int .i64 xq, .int .i64 xm] 32)).alloc (.cells #[.int .i64 0, .int .i64 0, .int .i64 0, .int .i64 0, .int .i64 0, .int .i64 0, .int .i64 0, .int .i64 0] 144)).alloc (.cells #[.bool false, .bool false, .bool false, .bool false, .bool false, .bool false, .bool false, .bool false] 145) = W := ⟨_, rfl⟩
  rw [hW]
  have hG : G8 W (w.heap.size + 1) (w.heap.size + 1 + 1) (fun _ => 0) (fun _ => false) := hW ▸ G8.init w _
  obtain ⟨q1, q2, q3, hBW⟩ := al3 w (.cells #[.int .i64 6, .int .i64 xa, .int .i64 xb, .int .i64 xq, .int .i64 xm] 32) (.cells #[.int .i64 0, .int .i64 0, .int .i64 0, .int .i64 0, .int .i64 0, .int .i64 0, .int .i64 0, .int .i64 0] 144) (.cells #[.bool false, .bool false, .bool false, .bool false, .bool false, .bool false, .bool false, .bool false] 145)
  rw [hW] at q1 hBW
  have gzW : W.heap.size = w.heap.size + 3 := by rw [← hW]; simp
  clear q2 q3 hW
  go_loopw [5, 8] (fun v i wr => ∃ k : Nat, k ≤ l.length ∧ i = .int .i64 k ∧ v = .slice none 0 0 ∧ G8 wr (w.heap.size + 1) (w.heap.size + 1 + 1) (fun g => gsumTo l xq g k) (fun g => kG l xq g k) ∧ wr.heap[w.heap.size]? = some (.cells #[.int .i64 6, .int .i64 xa, .int .i64 xb, .int .i64 xq, .int .i64 xm] 32 (0, 0)) ∧ Bw w wr) (fun _ i _ => l.length - (intOf i).toNat)
  case atStart => exact ⟨0, Nat.zero_le _, rfl, rfl, hG, q1, hBW⟩
  case round =>
    clear hG q1 hBW
    obtain ⟨k, hkl, rfl, rfl, hG, hb, hB⟩ := hrel
    rename World => wr
    have c0 := qQ (o := 0) hb rfl
    have c3 := qQ (o := 3) hb rfl
    have cl := (Array.getElem?_eq_some_iff.1 hb).1
    by_cases hlt : k < l.length
    · obtain ⟨b, off, rfl, hbl, hc⟩ := hx k hlt
      have hc1 := ((qX hB).1 _ _ hbl).trans (hc k hlt)
      have hbl2 := Nat.lt_of_lt_of_le hbl hB.size
      clear hc
      obtain ⟨g, hg, hg8⟩ : ∃ g : Nat, kC l k % xq = g ∧ g < 8 := by
        have b1 := Int.emod_nonneg (kC l k) (b := xq) (by omega)
        have b2 := Int.emod_lt_of_pos (kC l k) (b := xq) (by omega)
        exact ⟨(kC l k % xq).toNat, by omega, by omega⟩
      have Hst := qJ ((hG.set hg8 (wrap64 (gsumTo l xq g k + kC l k))).congr (S' := fun g => gsumTo l xq g (k + 1)) (M' := fun g => kG l xq g (k + 1))
        (fun j _ => by
          by_cases e : j = g
          · subst e; simp [(gsum_yes hg).1]
          · simp [e, (gsum_no (xs := l) (k := k) (q := xq) (g := j) (by omega)).1])
        (fun j _ => by
          by_cases e : j = g
          · subst e; simp [(gsum_yes hg).2]
          · simp [e, (gsum_no (xs := l) (k := k) (q := xq) (g := j) (by omega)).2]))
      obtain ⟨g1, g2, g3, g4, g5, g6⟩ := hG.get hg8
      have Hbx := qJ (fun (v : Int) => (Below.heap_setCell (wr.setCell ⟨w.heap.size + 1, g, none⟩ (.int .i64 v)) ⟨w.heap.size + 1 + 1, g, none⟩ (.bool true) w.heap.size (by simp only; omega)).trans ((Below.heap_setCell wr ⟨w.heap.size + 1, g, none⟩ (.int .i64 v) w.heap.size (by simp only; omega)).trans hb))
      clear hG hb
      generalize kC l k = u at *
      go_wp2_with fail
      go_loopw [10, 11] (fun f j wi => f = .bool true ∧ j = .int .i64 0 ∧ wi = wr) (fun _ _ _ => 0)
      case atStart => exact ⟨rfl, rfl, rfl⟩
      case round =>
        obtain ⟨rfl, rfl, rfl⟩ := hrel
        rename World => wr
        by_cases h0 : (0 : Int) < k
        · go_wp2_with (go_at_call 89; refine (xW _ _ _ hq1 (by omega)).mono ?_; rintro e w2 ⟨rfl, rfl⟩; rw [hg])
          go_roundw
          case rel => exact ⟨k + 1, by omega, by go_num, rfl, qK Hst, (qK Hbx) _, (hB.setCell (by simp only; omega) _).setCell (by simp only; omega) _⟩
          case measure => simp [intOf]; omega
        · go_wp2_with (go_at_call 89; refine (xW _ _ _ hq1 (by omega)).mono ?_; rintro e w2 ⟨rfl, rfl⟩; rw [hg])
          go_roundw
          case rel => exact ⟨k + 1, by omega, by go_num, rfl, qK Hst, (qK Hbx) _, (hB.setCell (by simp only; omega) _).setCell (by simp only; omega) _⟩
          case measure => simp [intOf]; omega
    · have hkk : k = l.length := by omega
      subst hkk
      have HG := qJ hG
      clear hG
      go_wp2_with fail
      go_loopw [5, 13] (fun v i wi => ∃ m : Nat, m ≤ 8 ∧ i = .int .i64 m ∧ Own wr wi v (kD l xq m) ∧ Bw wr wi) (fun _ i _ => 8 - (intOf i).toNat)
      case atStart => exact ⟨0, Nat.zero_le _, rfl, Own.nil _ _, Bw.refl _⟩
      case round =>
        obtain ⟨m, hm, rfl, hown, hB2⟩ := hrel
        rename World => wi
        have hG2 := (qK HG).bw hB2
        have hgl := grpTo_len l xq m
        by_cases hlt : m < 8
        · obtain ⟨g1, g2, g3, g4, _⟩ := hG2.get hlt
          have hm1 : (m : Int) < 8 := by omega
          clear hG2
          have Hy := qJ (@grp_yes l xq m)
          have Hn := qJ (@grp_no l xq m)
          cases hmt : kG l xq m l.length with
          | true =>
            rw [hmt] at g2
            go_wp2_with (at_builtin; refine mK _ rfl _ _ rfl _ _ (kD l xq m) rfl (hown.bw (by repeat first|exact br _|assumption|apply bd|apply bn|apply ba|refine bt ?_ (by assumption))) _ _ (gsumTo l xq m l.length) rfl (by simp) (by omega) (by repeat first|exact br _|assumption|apply bd|apply bn|apply ba|refine bt ?_ (by assumption)) ?_; intro v' w2 hown1 hB3 hgr1)
            go_roundw
            case rel => exact ⟨m + 1, by omega, by go_num, by rw [(qK Hy) hmt]; exact hown1, hB3⟩
            case measure => simp [intOf]; omega
          | false =>
            rw [hmt] at g2
            go_wp2_with fail
            go_roundw
            case rel => exact ⟨m + 1, by omega, by go_num, by rw [(qK Hn) hmt]; exact hown, hB2⟩
            case measure => simp [intOf]; omega
        · have hmm : m = 8 := by omega
          subst hmm
          clear hG2
          go_wp2_with fail
          go_ret
          exact ⟨_, rfl, hown.weaken hB, hB.trans hB2⟩
theorem kmade_any (x : Nd) (l : List Int) (ad : Option Addr) (cap : Nat) (w : World) (hx : IntsAt w ad l) (hl : l.length ≤ 1000000) (hk : x.kind = 1 ∨ x.kind = 2 ∨ x.kind = 3 ∨ x.kind = 5 ∨ x.kind = 6 ∨ x.kind = 7) (h2 : x.kind = 2 → 1 ≤ x.k ∧ x.k ≤ 100) (h6 : x.kind = 6 → 1 ≤ x.k ∧ x.k ≤ 8) (h64 : nJ l) :
    Calls Try.prog 82 #[x.val, .slice ad l.length cap] w fun e w' => ∃ v, e = .returned v ∧ Own w w' v (mdL x l) ∧ Bw w w' := by
  have key : mdL x l = if x.kind == 6 then kD l x.k 8 else plTo x l l.length := rfl
  rw [key]
  by_cases k5 : x.kind = 5
  · rw [if_neg (by simp [k5]), wG _ _ (by omega)]
    exact kmade_once x l ad cap w hx hl k5 h64
  · by_cases k6 : x.kind = 6
    · rw [if_pos (by simp [k6])]
      exact kmade_sum x l ad cap w hx hl k6 (h6 k6).1 (h6 k6).2
    · rw [if_neg (by simpa using k6)]
      exact kmade_plain x l ad cap w hx hl (by omega) h2 h64
structure Ev where
  kind : Int
  worker : Int
  node : Int
  index : Int
  epoch : Int
  round : Int
  value : Int
def Ev.cells (x : Ev) : List Value := [.int .i64 x.kind, .int .i64 x.worker, .int .i64 x.node, .int .i64 x.index, .int .i64 x.epoch, .int .i64 x.round, .int .i64 x.value]
def Ev.val (x : Ev) : Value := .agg #[.int .i64 x.kind, .int .i64 x.worker, .int .i64 x.node, .int .i64 x.index, .int .i64 x.epoch, .int .i64 x.round, .int .i64 x.value]
def ev0 : Ev := ⟨0, 0, 0, 0, 0, 0, 0⟩
def uJ (l : List Ev) (k : Nat) : Ev := l.getD k ev0
def jG (l : List Ev) : List Value := l.flatMap Ev.cells
def EvsAt (w : World) (ad : Option Addr) (l : List Ev) : Prop :=
  ∀ i, i < l.length → ∃ b off, ad = some ⟨b, off, none⟩ ∧ b < w.heap.size ∧ ∀ j, j < l.length →
    w.cell? ⟨b, off + j * 7, none⟩ = some (.int .i64 (uJ l j).kind) ∧ w.cell? ⟨b, off + j * 7 + 1, none⟩ = some (.int .i64 (uJ l j).worker) ∧ w.cell? ⟨b, off + j * 7 + 2, none⟩ = some (.int .i64 (uJ l j).node) ∧ w.cell? ⟨b, off + j * 7 + 3, none⟩ = some (.int .i64 (uJ l j).index) ∧
    w.cell? ⟨b, off + j * 7 + 4, none⟩ = some (.int .i64 (uJ l j).epoch) ∧ w.cell? ⟨b, off + j * 7 + 5, none⟩ = some (.int .i64 (uJ l j).round) ∧ w.cell? ⟨b, off + j * 7 + 6, none⟩ = some (.int .i64 (uJ l j).value)
theorem tD {W w w' : World} {base n size : Nat} {ty : TypeId} {v : Value} {xs : List Value} (hown : w.ownsRow base ty size v n xs) (hg : w.grownBy w' v.ownBlock) (hB : Bw W w) (hb : W.heap.size ≤ base) : Bw W w' :=
  ⟨hg.os.trans (Below.os hB), hg.tape.trans (Below.tape hB), hg.output.trans (Below.output hB), Nat.le_trans (Below.size hB) hg.size, fun i hi => (hg.block i (Nat.lt_of_lt_of_le hi (Below.size hB)) (fun e => by have := (World.ownsRow.lt hown i e.symm).1; omega)).trans (Below.block hB i hi)⟩
structure Ml where
  worker : Int
  node : Int
  epoch : Int
  round : Int
  value : Int
  gone : Bool
def rS (l : List Ml) (k : Nat) : Ml := l.getD k ⟨0, 0, 0, 0, 0, false⟩
structure Pt where
  node : Int
  out : Bool
  epoch : Int
  round : Int
  count : Int
def Pt.cells (x : Pt) : List Value := [.int .i64 x.node, .bool x.out, .int .i64 x.epoch, .int .i64 x.round, .int .i64 x.count]
def Pt.val (x : Pt) : Value := .agg #[.int .i64 x.node, .bool x.out, .int .i64 x.epoch, .int .i64 x.round, .int .i64 x.count]
def vU (l : List Pt) (k : Nat) : Pt := l.getD k ⟨0, false, 0, 0, 0⟩
structure Cg where
  worker : Int
  pts : List Pt
def mC (l : List Cg) (k : Nat) : Cg := l.getD k ⟨0, []⟩
def PtsAt (w : World) (ad : Option Addr) (ps : List Pt) : Prop :=
  ∀ i, i < ps.length → ∃ b off, ad = some ⟨b, off, none⟩ ∧ b < w.heap.size ∧ ∀ j, j < ps.length →
    w.cell? ⟨b, off + j * 5, none⟩ = some (.int .i64 (vU ps j).node) ∧ w.cell? ⟨b, off + j * 5 + 1, none⟩ = some (.bool (vU ps j).out) ∧ w.cell? ⟨b, off + j * 5 + 2, none⟩ = some (.int .i64 (vU ps j).epoch) ∧
    w.cell? ⟨b, off + j * 5 + 3, none⟩ = some (.int .i64 (vU ps j).round) ∧ w.cell? ⟨b, off + j * 5 + 4, none⟩ = some (.int .i64 (vU ps j).count)
theorem PtsAt.below {w w' : World} {ad : Option Addr} {ps : List Pt} (h : PtsAt w ad ps) (hb : Bw w w') : PtsAt w' ad ps := by
  intro i hi
  obtain ⟨b, off, e, hlt, hc⟩ := h i hi
  refine ⟨b, off, e, Nat.lt_of_lt_of_le hlt hb.size, fun j hj => ?_⟩
  obtain ⟨q, _⟩ := qX hb
  obtain ⟨c0, c1, c2, c3, c4⟩ := hc j hj
  exact ⟨(q _ _ hlt).trans c0, (q _ _ hlt).trans c1, (q _ _ hlt).trans c2, (q _ _ hlt).trans c3, (q _ _ hlt).trans c4⟩
def TabAt (w : World) (ad : Option Addr) (n m : Nat) (f : Nat → Nat → Int) : Prop :=
  ∀ i, i < n → ∃ b off, ad = some ⟨b, off, none⟩ ∧ b < w.heap.size ∧ ∃ pb poff pc, w.cell? ⟨b, off + i, none⟩ = some (.slice (some ⟨pb, poff, none⟩) m pc) ∧ pb < w.heap.size ∧ ∀ j, j < m → w.cell? ⟨pb, poff + j, none⟩ = some (.int .i64 (f i j))
theorem TabAt.below {w w' : World} {ad : Option Addr} {n m : Nat} {f : Nat → Nat → Int} (h : TabAt w ad n m f) (hb : Bw w w') : TabAt w' ad n m f := by
  intro i hi
  obtain ⟨b, off, e, hlt, pb, poff, pc, c1, hpl, hc⟩ := h i hi
  obtain ⟨q, _⟩ := qX hb
  exact ⟨b, off, e, Nat.lt_of_lt_of_le hlt hb.size, pb, poff, pc, (q _ _ hlt).trans c1, Nat.lt_of_lt_of_le hpl hb.size, fun j hj => (q _ _ hpl).trans (hc j hj)⟩
structure RSt where
  mails : List Ml
  log : List Cg
  evs : List Ev
  opened : List Gv
  told : Nat → Nat → Int
def doneB (op : List Gv) (w n kd : Int) (i : Nat) : Bool := ((vR op i).epoch == w) && ((vR op i).node == n) && ((vR op i).value == kd)
def kQ (op : List Gv) (w n kd : Int) : Nat → Nat
  | 0 => 0
  | i + 1 => if doneB op w n kd i then kQ op w n kd i + 1 else kQ op w n kd i
def Gv.cells (x : Gv) : List Value := [.int .i64 x.node, .int .i64 x.epoch, .int .i64 x.value]
def qB (gv : List Gv) : List Value := gv.flatMap Gv.cells
theorem gvCells_one (gv : List Gv) : ∀ u ∈ qB gv, u.oneCell' = true := by
  intro u hu
  simp only [qB, List.mem_flatMap, Gv.cells] at hu
  obtain ⟨x, _, hu⟩ := hu
  simp at hu
  rcases hu with rfl | rfl | rfl <;> rfl
theorem pT {w : World} {g : Nat} {x : Gv} (h0 : w.cell? ⟨g, 0, none⟩ = some (.int .i64 x.node)) (h1 : w.cell? ⟨g, 1, none⟩ = some (.int .i64 x.epoch)) (h2 : w.cell? ⟨g, 2, none⟩ = some (.int .i64 x.value)) : ∀ j u, x.cells[j]? = some u → w.cell? ⟨g, j, none⟩ = some u := by
  intro j u hj
  unfold Gv.cells at hj
  match j, hj with
  | 0, hj => simp at hj; subst hj; exact h0
  | 1, hj => simp at hj; subst hj; exact h1
  | 2, hj => simp at hj; subst hj; exact h2
theorem cJ (x : Gv) : ∀ u ∈ x.cells, u.oneCell' = true := fun u hu => gvCells_one [x] u (by simpa [qB] using hu)
theorem fZ (gv : List Gv) (x : Gv) : qB (gv ++ [x]) = qB gv ++ x.cells := by simp [qB]
def mN (len W : Nat) (w n : Int) : Bool := (decide (0 ≤ w) && decide (w < W)) && (decide (0 ≤ n) && decide (n < len))
def yN (ns : List Nd) (W : Nat) (op : List Gv) (w n : Int) : Int :=
  if mN ns.length W w n then (if (qV ns n.toNat).kind == 0 then (if decide (0 < kQ op w n 3 op.length) then 4 else 0) else 3) else 3
theorem placeB_iff {len W : Nat} {w n : Int} : mN len W w n = true ↔ (0 ≤ w ∧ w < W) ∧ (0 ≤ n ∧ n < len) := by simp [mN]
theorem placeB_no {len W : Nat} {w n : Int} (h : ¬ ((0 ≤ w ∧ w < W) ∧ (0 ≤ n ∧ n < len))) : mN len W w n = false := by
  cases e : mN len W w n with
  | false => rfl
  | true => exact absurd (placeB_iff.1 e) h
def yX (ms : List Ml) (w n : Int) (i : Nat) : Bool := !(rS ms i).gone && ((rS ms i).worker == w) && ((rS ms i).node == n)
def kS (ms : List Ml) (w n : Int) : Nat → List Int
  | 0 => []
  | i + 1 => if yX ms w n i then kS ms w n i ++ [(i : Int)] else kS ms w n i
theorem waitTo_len (ms : List Ml) (w n : Int) (k : Nat) : (kS ms w n k).length ≤ k := by
  induction k with
  | zero => simp [kS]
  | succ k ih => unfold kS; split <;> (try simp) <;> omega
theorem waitTo_yes {ms : List Ml} {w n : Int} {i : Nat} (h : yX ms w n i = true) : kS ms w n (i + 1) = kS ms w n i ++ [(i : Int)] := by rw [kS, if_pos h]
theorem waitTo_no {ms : List Ml} {w n : Int} {i : Nat} (h : yX ms w n i = false) : kS ms w n (i + 1) = kS ms w n i := by rw [kS, h]; rfl
end Go.Proofs.Ytfemleimkbjehaa
