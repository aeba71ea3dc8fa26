import Derived.Test.YtfemleimkbjehaaJ6
import Derived.Test.YtfemleimkbjehaaJ35
import Derived.Test.YtfemleimkbjehaaYM
import Derived.Test.YtfemleimkbjehaaJ39
import Derived.BigQuiet
set_option maxRecDepth 1000000
set_option maxHeartbeats 40000000
set_option linter.unusedVariables false
set_option linter.unusedSimpArgs false
namespace Go.Proofs.Ytfemleimkbjehaa
open Go.RowKit
def onB (q : Int) (W : Nat) (l : List Int) (w : Nat) : Bool := l.any fun v => v % q % W == (w : Int)
theorem onB_snoc (q : Int) (W : Nat) (l : List Int) (v : Int) (w : Nat) : onB q W (l ++ [v]) w = (onB q W l w || (v % q % W == (w : Int))) := by unfold onB; simp
theorem spN_snoc {q : Int} {W : Nat} {l : List Int} {v : Int} {g : Nat} (hg : v % q % W = g) (hW : g < W) : spN q W (l ++ [v]) = spN q W l + if onB q W l g then 0 else 1 := by
  refine wT hW fun w hw => ?_
  have h1 := onB_snoc q W l v w
  unfold onB at h1
  rw [h1, hg]
  by_cases e : w = g
  · subst e
    rw [if_pos rfl]
    unfold onB
    cases l.any fun v => v % q % W == (w : Int) <;> simp
  · rw [if_neg e]
    have : ((g : Int) == (w : Int)) = false := by simp; omega
    rw [this, Bool.or_false]; rfl
def G4 (w : World) (A : Nat) (M : Nat → Bool) : Prop := ∃ arr : Array Value, w.heap[A]? = some (.cells arr 142 (0, 0)) ∧ arr.size = 4 ∧ ∀ g, g < 4 → arr[g]? = some (.bool (M g))
theorem G4.get {w : World} {A : Nat} {M : Nat → Bool} (h : G4 w A M) {g : Nat} (hg : g < 4) : w.cell? ⟨A, g, none⟩ = some (.bool (M g)) ∧ A < w.heap.size ∧ w.frozen? ⟨A, g, none⟩ = false := by
  obtain ⟨a1, p1, _, p2⟩ := h
  exact ⟨qQ p1 (p2 g hg), (Array.getElem?_eq_some_iff.1 p1).1, qZ p1⟩
theorem G4.bw {w w' : World} {A : Nat} {M : Nat → Bool} (h : G4 w A M) (hb : Bw w w') : G4 w' A M := by
  obtain ⟨a1, p1, p2⟩ := h
  exact ⟨a1, (Below.block hb _ (Array.getElem?_eq_some_iff.1 p1).1).trans p1, p2⟩
theorem G4.set {w : World} {A : Nat} {M : Nat → Bool} (h : G4 w A M) {g : Nat} : G4 (w.setCell ⟨A, g, none⟩ (.bool true)) A (fun j => if j = g then true else M j) := by
  obtain ⟨a1, p1, p3, p2⟩ := h
  refine ⟨a1.setIfInBounds g (.bool true), ?_, by simpa using p3, fun j hj => ?_⟩
  · rw [setCell_eq_setRow w A g a1 142 (0, 0) _ p1]
    exact setRow_heap w A a1 _ _ _ p1
  · by_cases e : j = g
    · subst e; rw [Array.getElem?_setIfInBounds_self_of_lt (by omega)]; simp
    · rw [Array.getElem?_setIfInBounds_ne (by omega), p2 j hj]; simp [e]
theorem G4.congr {w : World} {A : Nat} {M M' : Nat → Bool} (h : G4 w A M) (h2 : ∀ g, g < 4 → M' g = M g) : G4 w A M' := by
  obtain ⟨a1, p1, p3, p2⟩ := h
  exact ⟨a1, p1, p3, fun g hg => by rw [h2 g hg]; exact p2 g hg⟩
theorem four (v : Value) : ∀ g, g < 4 → (#[v, v, v, v])[g]? = some v := by
  intro g hg
  match g, hg with
  | 0, _ | 1, _ | 2, _ | 3, _ => rfl
set_option maxRecDepth 100000 in
set_option maxHeartbeats 4000000 in
theorem kspread_any (x : Nd) (l : List Int) (ad : Option Addr) (cap W : Nat) (w : World) (hx : IntsAt w ad l) (hl : l.length ≤ 1000000) (hq1 : 1 ≤ x.k) (hq8 : x.k ≤ 8) (hW1 : 1 ≤ W) (hW4 : W ≤ 4) :
    Calls Try.prog 63 #[x.val, .slice ad l.length cap, .int .i64 (W : Int)] w fun e w' => e = .returned (.int .i64 (spN x.k W l : Nat)) ∧ Bw w w' := by
  obtain ⟨xk, xa, xb, xq, xm⟩ := x
  unfold Nd.val
  simp only at hq1 hq8 ⊢
  go_enter Try.func63, Try.ntmps63
  go_wp2_with fail
  obtain ⟨W0, hW0⟩ : ∃ W0, (w.alloc (.cells #[.int .i64 xk, .int .i64 xa, .int .i64 xb, .int .i64 xq, .int .i64 xm] 32)).alloc (.cells #[.bool false, .bool false, .bool false, .bool false] 142) = W0 := ⟨_, rfl⟩
  rw [hW0]
  obtain ⟨q1, q2, hBW⟩ := yU w (.cells #[.int .i64 xk, .int .i64 xa, .int .i64 xb, .int .i64 xq, .int .i64 xm] 32) (.cells #[.bool false, .bool false, .bool false, .bool false] 142)
  rw [hW0] at q1 q2 hBW
  clear hW0
  go_loopw [8, 9] (fun c i wr => ∃ k : Nat, k ≤ l.length ∧ i = .int .i64 k ∧ c = .int .i64 (spN xq W (l.take k) : Nat) ∧ G4 wr (w.heap.size + 1) (onB xq W (l.take k)) ∧ wr.heap[w.heap.size]? = some (.cells #[.int .i64 xk, .int .i64 xa, .int .i64 xb, .int .i64 xq, .int .i64 xm] 32 (0, 0)) ∧ Bw w wr) (fun _ i _ => l.length - (intOf i).toNat)
  case atStart =>
    refine ⟨0, Nat.zero_le _, rfl, ?_, ⟨_, q2, rfl, fun g hg => ?_⟩, q1, hBW⟩
    · rw [show spN xq W (l.take 0) = 0 from vC fun _ _ => rfl]; rfl
    · exact four _ g hg
  case round =>
    clear q1 q2 hBW
    obtain ⟨k, hkl, rfl, rfl, hG, hb, hB⟩ := hrel
    rename World => wr
    have c3 := qQ (o := 3) hb rfl
    have cl := (Array.getElem?_eq_some_iff.1 hb).1
    have hsp : spN xq W (l.take k) ≤ W * 1 := zJ fun w _ => by split <;> omega
    by_cases hlt : k < l.length
    · obtain ⟨b, off, rfl, hbl, hc⟩ := hx k hlt
      have hc1 := ((qX hB).1 _ _ hbl).trans (hc k hlt)
      have hbl2 := Nat.lt_of_lt_of_le hbl hB.size
      clear hc
      have b1 := Int.emod_nonneg (kC l k) (b := xq) (by omega)
      have b2 := Int.emod_lt_of_pos (kC l k) (b := xq) (by omega)
      have e1 : (kC l k % xq).tmod (W : Int) = kC l k % xq % W := Int.tmod_eq_emod_of_nonneg b1
      obtain ⟨g, hg, hg4⟩ : ∃ g : Nat, kC l k % xq % W = g ∧ g < W := by
        have b1 := Int.emod_nonneg (kC l k % xq) (b := (W : Int)) (by omega)
        have b2 := Int.emod_lt_of_pos (kC l k % xq) (b := (W : Int)) (by omega)
        exact ⟨(kC l k % xq % W).toNat, by omega, by omega⟩
      rw [hg] at e1
      have Hsp := qJ (spN_snoc (l := l.take k) hg hg4)
      have Hon : Hid (∀ j, onB xq W (l.take (k + 1)) j = (onB xq W (l.take k) j || decide (j = g))) := qJ (fun j => by
        rw [wS hlt, onB_snoc, hg]; congr 1; rw [Bool.eq_iff_iff]; simp; omega)
      have Htk : Hid (l.take (k + 1) = l.take k ++ [kC l k]) := qJ (wS hlt)
      obtain ⟨g1, g2, g3⟩ := hG.get (g := g) (by omega)
      have Hks : Hid (onB xq W (l.take k) g = true → G4 wr (w.heap.size + 1) (onB xq W (l.take (k + 1)))) := qJ (fun ht => hG.congr (fun j _ => by
        rw [qK Hon]
        by_cases e : j = g
        · subst e; rw [ht]; rfl
        · simp [e]))
      have Hb := qJ hb
      have HG := qJ hG
      have hW0 : ((W : Int) == 0) = false := by simp; omega
      have hWm : ¬ (W : Int) = -1 := by omega
      have hg4' : (g : Int) < 4 := by omega
      clear hG hb
      generalize kC l k = u at *
      cases ht : onB xq W (l.take k) g with
      | true =>
        rw [ht] at g1 Hsp
        have HG2 := qJ ((qK Hks) ht)
        go_wp2_with fail
        go_quiet ((go_at_call 89; refine Calls.quiet_of_same (xW _ _ _ hq1 (by omega))))
        go_wp2_with fail
        go_roundw
        case rel => exact ⟨k + 1, by omega, by go_num, by rw [qK Htk, qK Hsp]; rfl, (qK HG2).bw (by repeat first|exact br _|assumption|apply bd|apply bn|apply ba|refine bt ?_ (by assumption)), (Below.block (show Bw wr (wr.drewN nq) from (by repeat first|exact br _|assumption|apply bd|apply bn|apply ba|refine bt ?_ (by assumption))) _ cl).trans (qK Hb), hB.trans (by repeat first|exact br _|assumption|apply bd|apply bn|apply ba|refine bt ?_ (by assumption))⟩
        case measure => simp [intOf]; omega
      | false =>
        rw [ht] at g1 Hsp
        go_wp2_with fail
        go_quiet ((go_at_call 89; refine Calls.quiet_of_same (xW _ _ _ hq1 (by omega))))
        have hBq : Bw wr (wr.drewN nq) := (by repeat first|exact br _|assumption|apply bd|apply bn|apply ba|refine bt ?_ (by assumption))
        have cl2 := Nat.lt_of_lt_of_le cl hBq.size
        have HG2 := qJ ((((qK HG).bw hBq).set (g := g)).congr (M' := onB xq W (l.take (k + 1))) (fun j _ => by
          rw [qK Hon]
          by_cases e : j = g
          · simp [e]
          · simp [e]))
        have Hbx := qJ ((Below.heap_setCell (wr.drewN nq) ⟨w.heap.size + 1, g, none⟩ (.bool true) w.heap.size (by simp only; omega)).trans ((Below.block hBq _ cl).trans (qK Hb)))
        go_wp2_with fail
        go_roundw
        case rel => exact ⟨k + 1, by omega, by go_num, by rw [qK Htk, qK Hsp]; rfl, qK HG2, qK Hbx, (hB.trans hBq).setCell (by simp only; omega) _⟩
        case measure => simp [intOf]; omega
    · have hkk : k = l.length := by omega
      subst hkk
      rw [List.take_length]
      clear hG hb
      go_wp2_with fail
      go_ret
      exact ⟨rfl, hB⟩
def ch1 (ns : List Nd) (W : Nat) (gs : List Gv) (n e s : Nat) : Nat := (dT ns gs n e s).length + if (qV ns n).kind == 6 then spN (qV ns n).k W (dT ns gs n e s) else 0
def ch2 (ns : List Nd) (R W : Nat) (gs : List Gv) (n e : Nat) : Nat := qD (ch1 ns W gs n e) R
def ch3 (ns : List Nd) (R W : Nat) (gs : List Gv) (n : Nat) : Nat := qD (ch2 ns R W gs n) 6
theorem chN_eq (ns : List Nd) (R W : Nat) (gs : List Gv) : chN ns R W gs = qD (ch3 ns R W gs) ns.length := rfl
theorem sp_le (q : Int) (W : Nat) (l : List Int) : spN q W l ≤ W := by
  have := zJ (f := fun w => if l.any (fun v => v % q % W == (w : Int)) then 1 else 0) (B := 1) (k := W) (fun i _ => by split <;> omega)
  unfold spN; omega
theorem GOk.in_len {ns : List Nd} {R W : Nat} (g : GOk ns R W) {gs : List Gv} (hg : nD ns gs) {n e s : Nat} (hn : n < ns.length) (hs : s < R) : (dT ns gs n e s).length ≤ 200000 := by
  obtain ⟨r, q, hG⟩ := g.good
  have hR := g.hR
  unfold dT
  split
  · simp
  · rename_i hk
    have h0 : (qV ns n).kind ≠ 0 := by simpa using hk
    unfold kK
    by_cases h3 : (qV ns n).kind = 3
    · obtain ⟨a, ea, ha, _⟩ := hG.inp hn (z := (qV ns n).a) (by rw [xL h3]; simp)
      obtain ⟨b, eb, hb, _⟩ := hG.inp hn (z := (qV ns n).b) (by rw [xL h3]; simp)
      have h1 := hG.val_len hg e (s := s) (by omega) ha
      have h2 := hG.val_len hg e (s := s) (by omega) hb
      rw [xL h3, ea, eb]; simp; omega
    · obtain ⟨a, ea, ha, _⟩ := hG.inp hn (z := (qV ns n).a) (by rw [wQ h0 h3]; simp)
      have h1 := hG.val_len hg e (s := s) (by omega) ha
      rw [wQ h0 h3, ea]; simp; omega
theorem GOk.ch1_le {ns : List Nd} {R W : Nat} (g : GOk ns R W) {gs : List Gv} (hg : nD ns gs) {n e s : Nat} (hn : n < ns.length) (hs : s < R) : ch1 ns W gs n e s ≤ 200004 := by
  have h1 := g.in_len hg (e := e) hn hs
  have h2 := sp_le (qV ns n).k W (dT ns gs n e s)
  have := g.hW
  unfold ch1
  split <;> omega
theorem GOk.ch2_le {ns : List Nd} {R W : Nat} (g : GOk ns R W) {gs : List Gv} (hg : nD ns gs) {n e s : Nat} (hn : n < ns.length) (hs : s ≤ R) : qD (ch1 ns W gs n e) s ≤ 800016 := by
  have := zJ (f := ch1 ns W gs n e) (k := s) (B := 200004) (fun i hi => g.ch1_le hg hn (by omega))
  have := Nat.mul_le_mul_right 200004 hs
  have := Nat.mul_le_mul_right 200004 g.hR
  omega
theorem GOk.ch3_le {ns : List Nd} {R W : Nat} (g : GOk ns R W) {gs : List Gv} (hg : nD ns gs) {n e : Nat} (hn : n < ns.length) (he : e ≤ 6) : qD (ch2 ns R W gs n) e ≤ 4800096 := by
  have := zJ (f := ch2 ns R W gs n) (k := e) (B := 800016) (fun i hi => g.ch2_le hg hn (Nat.le_refl _))
  have := Nat.mul_le_mul_right 800016 he
  omega
theorem GOk.chN_le {ns : List Nd} {R W : Nat} (g : GOk ns R W) {gs : List Gv} (hg : nD ns gs) {n : Nat} (hn : n ≤ ns.length) : qD (ch3 ns R W gs) n ≤ 38400768 := by
  have := zJ (f := ch3 ns R W gs) (k := n) (B := 4800096) (fun i hi => g.ch3_le hg (by omega) (Nat.le_refl _))
  have := Nat.mul_le_mul_right 4800096 hn
  have := Nat.mul_le_mul_right 4800096 g.h8
  omega
set_option maxRecDepth 100000 in
set_option maxHeartbeats 8000000 in
theorem klength_any {ns : List Nd} {R W : Nat} {gs : List Gv} (g : GOk ns R W) (hgv : nD ns gs) (bb : Nat) (w : World) (na : Option Addr) (nc used : Nat) (hus : used ≤ 1000) (c1 : w.cell? ⟨bb, 1, none⟩ = some (.slice na ns.length nc)) (c2 : w.cell? ⟨bb, 2, none⟩ = some (.int .i64 (R : Int))) (c3 : w.cell? ⟨bb, 3, none⟩ = some (.int .i64 (W : Int))) (c6 : w.cell? ⟨bb, 6, none⟩ = some (.int .i64 (used : Int))) (cl : bb < w.heap.size) (hnd : NodesAt w na ns) {V : World} (I O : Tb) (FI : Nat → Nat → Nat → List Int) (hT : TF V w I ns.length R FI) (hF : ∀ e s n, e < 6 → s < R → n < ns.length → FI e s n = dT ns gs n e s) :
    Calls Try.prog 35 #[.pointer (some ⟨bb, 0, none⟩), .agg #[I.val ns.length, O.val ns.length]] w fun en w' => en = .returned (.int .i64 (lenN ns R W gs used : Nat)) ∧ Bw w w' := by
  have hR4 := g.hR
  have hL8 := g.h8
  have hW4 := g.hW
  have hW1 := g.hW1
  have HF := qJ hF
  have Hgv := qJ hgv
  clear hF hgv
  unfold Tb.val
  go_enter Try.func35, Try.ntmps35
  go_wp2_with fail
  obtain ⟨W1, hW1'⟩ : ∃ W1, w.alloc (.cells #[.slice (some ⟨I.ob, 0, none⟩) ns.length I.oc, .slice (some ⟨O.ob, 0, none⟩) ns.length O.oc] 62) = W1 := ⟨_, rfl⟩
  rw [hW1']
  have hB1 : Bw w W1 := hW1' ▸ (by repeat first|exact br _|assumption|apply bd|apply bn|apply ba|refine bt ?_ (by assumption))
  have b1 : W1.heap[w.heap.size]? = some (.cells #[.slice (some ⟨I.ob, 0, none⟩) ns.length I.oc, .slice (some ⟨O.ob, 0, none⟩) ns.length O.oc] 62 (0, 0)) := hW1' ▸ heap_alloc_new w _
  clear hW1'
  have c1' := ((qX hB1).1 _ 1 cl).trans c1
  have c2' := ((qX hB1).1 _ 2 cl).trans c2
  have c3' := ((qX hB1).1 _ 3 cl).trans c3
  have c6' := ((qX hB1).1 _ 6 cl).trans c6
  have cl' := Nat.lt_of_lt_of_le cl hB1.size
  have f0' := qQ (o := 0) b1 rfl
  have fl' := (Array.getElem?_eq_some_iff.1 b1).1
  have HT := qJ (hT.bw hB1)
  have Hnd := qJ (hnd.below hB1)
  clear c1 c2 c3 c6 cl b1 hT hnd
  go_loopw [5, 6] (fun c i wr => ∃ n : Nat, n ≤ ns.length ∧ i = .int .i64 n ∧ c = .int .i64 ((qD (ch3 ns R W gs) n : Nat) : Int) ∧ Bw W1 wr) (fun _ i _ => ns.length - (intOf i).toNat)
  case atStart => exact ⟨0, Nat.zero_le _, rfl, rfl, Bw.refl _⟩
  case round =>
    obtain ⟨n, hnl, rfl, rfl, hBr⟩ := hrel
    rename World => wr
    have b3 := g.chN_le (qK Hgv) hnl
    have c1 := ((qX hBr).1 _ 1 cl').trans c1'
    have cl := Nat.lt_of_lt_of_le cl' hBr.size
    by_cases hlt : n < ns.length
    · have hn1 : (n : Int) < (ns.length : Int) := by omega
      have HBr := qJ hBr
      clear hBr
      obtain ⟨k3, hk3⟩ : ∃ k3, qD (ch3 ns R W gs) n = k3 := ⟨_, rfl⟩
      have Hk3 := qJ hk3
      rw [hk3] at b3 ⊢
      clear hk3
      go_wp2_with fail
      go_loopw [5, 7] (fun c i wi => ∃ e : Nat, e ≤ 6 ∧ i = .int .i64 e ∧ c = .int .i64 ((k3 + qD (ch2 ns R W gs n) e : Nat) : Int) ∧ Bw W1 wi) (fun _ i _ => 6 - (intOf i).toNat)
      case atStart => exact ⟨0, Nat.zero_le _, rfl, rfl, qK HBr⟩
      case round =>
        clear c1 cl
        obtain ⟨e, hel, rfl, rfl, hBi⟩ := hrel
        rename World => wi
        have b2 := g.ch3_le (qK Hgv) hlt hel
        by_cases he : e < 6
        · have hd6 : decide ((e : Int) ≤ 5) = true := by simp only [decide_eq_true_eq]; omega
          have HBi := qJ hBi
          clear hBi HBr
          obtain ⟨k2, hk2⟩ : ∃ k2, qD (ch2 ns R W gs n) e = k2 := ⟨_, rfl⟩
          have Hk2 := qJ hk2
          rw [hk2] at b2 ⊢
          clear hk2
          go_wp2_with fail
          go_loopw [5, 8] (fun c i wj => ∃ s : Nat, s ≤ R ∧ i = .int .i64 s ∧ c = .int .i64 ((k3 + k2 + qD (ch1 ns W gs n e) s : Nat) : Int) ∧ Bw W1 wj) (fun _ i _ => R - (intOf i).toNat)
          case atStart => exact ⟨0, Nat.zero_le _, rfl, rfl, qK HBi⟩
          case round =>
            obtain ⟨s, hsl, rfl, rfl, hBj⟩ := hrel
            rename World => wj
            have b1 := g.ch2_le (qK Hgv) (e := e) hlt hsl
            have c1 := ((qX hBj).1 _ 1 cl').trans c1'
            have c2 := ((qX hBj).1 _ 2 cl').trans c2'
            have c3 := ((qX hBj).1 _ 3 cl').trans c3'
            have cl := Nat.lt_of_lt_of_le cl' hBj.size
            have f0 := ((qX hBj).1 _ 0 fl').trans f0'
            have fl := Nat.lt_of_lt_of_le fl' hBj.size
            by_cases hs : s < R
            · have hs1 : (s : Int) < (R : Int) := by omega
              have he1 : (e : Int) < 6 := by omega
              obtain ⟨o1, o2, ⟨la, lc, o3, fo, flc⟩, l1, l2, l3, _⟩ := ((qK HT).bw hBj).get hlt he hs
              have b0 := g.ch1_le (qK Hgv) (e := e) hlt hs
              have bl := g.in_len (qK Hgv) (e := e) hlt hs
              have Hsn : Hid (qD (ch1 ns W gs n e) (s + 1) = qD (ch1 ns W gs n e) s + ch1 ns W gs n e s) := qJ rfl
              have fo' := fo.ints.1
              have eF := (qK HF) e s n he hs hlt
              rw [eF] at o3 flc fo'
              obtain ⟨b, off, rfl, hb, hc⟩ := ((qK Hnd).below hBj) n hlt
              obtain ⟨q0, q1, q2, q3, q4⟩ := hc n hlt
              obtain ⟨k1, hk1⟩ : ∃ k1, qD (ch1 ns W gs n e) s = k1 := ⟨_, rfl⟩
              rw [hk1] at b1 Hsn ⊢
              obtain ⟨ll, hll⟩ : ∃ ll, dT ns gs n e s = ll := ⟨_, rfl⟩
              have Hch : Hid (ch1 ns W gs n e s = ll.length + if (qV ns n).kind == 6 then spN (qV ns n).k W ll else 0) := qJ (by rw [← hll]; rfl)
              rw [hll] at o3 flc bl fo'
              have HBj := qJ hBj
              have hk3b := b3
              clear hc hBj fo eF hll hk1
              cases hk6 : ((qV ns n).kind == 6) with
              | true =>
                rw [hk6, if_pos rfl] at Hch
                obtain ⟨kk1, kk2⟩ := (g.kind n hlt).2.1 (by simpa using hk6)
                have hsp := sp_le (qV ns n).k W ll
                have Hsp : Hid (∀ w', Bw wj w' → Calls Try.prog 63 #[.agg #[.int .i64 (qV ns n).kind, .int .i64 (qV ns n).a, .int .i64 (qV ns n).b, .int .i64 (qV ns n).k, .int .i64 (qV ns n).m], .slice la ll.length lc, .int .i64 (W : Int)] w' fun en w2 => en = .returned (.int .i64 (spN (qV ns n).k W ll : Nat)) ∧ Bw wj w2 ∧ (w2.cell? ⟨bb, 1, none⟩ = some (.slice (some ⟨b, off, none⟩) ns.length nc) ∧ w2.cell? ⟨bb, 3, none⟩ = some (.int .i64 (W : Int)) ∧ w2.cell? ⟨b, off + n * 5, none⟩ = some (.int .i64 (qV ns n).kind) ∧ w2.cell? ⟨b, off + n * 5 + 1, none⟩ = some (.int .i64 (qV ns n).a) ∧ w2.cell? ⟨b, off + n * 5 + 2, none⟩ = some (.int .i64 (qV ns n).b) ∧ w2.cell? ⟨b, off + n * 5 + 3, none⟩ = some (.int .i64 (qV ns n).k) ∧ w2.cell? ⟨b, off + n * 5 + 4, none⟩ = some (.int .i64 (qV ns n).m))) := qJ (by
                  intro w' hb'
                  have h0 := kspread_any (qV ns n) ll la lc W w' (fo'.below hb') (by omega) kk1 kk2 hW1 hW4
                  unfold Nd.val at h0
                  refine h0.mono ?_
                  rintro en w5 ⟨rfl, h2⟩
                  have hbb := hb'.trans h2
                  exact ⟨rfl, hbb, ((qX hbb).1 _ _ cl).trans c1, ((qX hbb).1 _ _ cl).trans c3, ((qX hbb).1 _ _ hb).trans q0, ((qX hbb).1 _ _ hb).trans q1, ((qX hbb).1 _ _ hb).trans q2, ((qX hbb).1 _ _ hb).trans q3, ((qX hbb).1 _ _ hb).trans q4⟩)
                clear fo' kk1 kk2
                go_wp2_with fail
                refine wp_region_held_drew (S := (fun w' => w'.cell? ⟨bb, 1, none⟩ = some (.slice (some ⟨b, off, none⟩) ns.length nc) ∧ w'.cell? ⟨bb, 3, none⟩ = some (.int .i64 (W : Int)) ∧ w'.cell? ⟨b, off + n * 5, none⟩ = some (.int .i64 (qV ns n).kind) ∧ w'.cell? ⟨b, off + n * 5 + 1, none⟩ = some (.int .i64 (qV ns n).a) ∧ w'.cell? ⟨b, off + n * 5 + 2, none⟩ = some (.int .i64 (qV ns n).b) ∧ w'.cell? ⟨b, off + n * 5 + 3, none⟩ = some (.int .i64 (qV ns n).k) ∧ w'.cell? ⟨b, off + n * 5 + 4, none⟩ = some (.int .i64 (qV ns n).m))) (by kernel_rfl) (by (try dsimp only); go_keep) (fun hHeld => ?_)
                refine tk 0 ?_; try simp only [Act.put, qT, qS, qR]
                refine tk 1 ?_; try simp only [Act.put, qT, qS, qR]
                refine tk 2 ?_; try simp only [Act.put, qT, qS, qR]
                refine tk 3 ?_; try simp only [Act.put, qT, qS, qR]
                refine tk 4 ?_; try simp only [Act.put, qT, qS, qR]
                refine tk 5 ?_; try simp only [Act.put, qT, qS, qR]
                refine tk 6 ?_; try simp only [Act.put, qT, qS, qR]
                refine tk 7 ?_; try simp only [Act.put, qT, qS, qR]
                refine tk 8 ?_; try simp only [Act.put, qT, qS, qR]
                refine tk 9 ?_; try simp only [Act.put, qT, qS, qR]
                refine tk 10 ?_; try simp only [Act.put, qT, qS, qR]
                refine tk 11 ?_; try simp only [Act.put, qT, qS, qR]
                refine tk 12 ?_; try simp only [Act.put, qT, qS, qR]
                refine tk 13 ?_; try simp only [Act.put, qT, qS, qR]
                refine wpAnyH_ready (rs := [14]) (by kernel_rfl) (by simp) ?_
                refine AllReadyH.cons rfl (fun K hK => ?_) AllReadyH.nil
                go_simp
                go_at_call 63
                refine ((qK Hsp) _ (by repeat first|exact br _|assumption|apply bd|apply bn|apply ba|refine bt ?_ (by assumption))).mono ?_
                rintro _ w9 ⟨rfl, hB9, ⟨t1, t3, t5, t6, t7, t8, t9⟩⟩
                (try go_wp2_with fail)
                refine hK.out _ _ (by (try dsimp only); go_keep) (fun hHeld => ?_)
                clear hK K
                try simp only [Act.put, qT, qS, qR]
                refine tk 15 ?_; try simp only [Act.put, qT, qS, qR]
                refine tk 16 ?_; try simp only [Act.put, qT, qS, qR]
                refine wpAnyH_done (by kernel_rfl) ?_ _
                go_wp2_with fail
                go_roundw
                case rel =>
                  refine ⟨s + 1, by omega, by go_num, ?_, (qK HBj).trans hB9⟩
                  rw [qK Hsn, qK Hch]
                  go_num
                case measure => simp [intOf]; omega
              | false =>
                rw [hk6] at Hch
                clear fo'
                go_wp2_with fail
                go_roundw
                case rel =>
                  refine ⟨s + 1, by omega, by go_num, ?_, qK HBj⟩
                  rw [qK Hsn, qK Hch]
                  go_num
                case measure => simp [intOf]; omega
            · have hss : s = R := by omega
              subst hss
              have HBj := qJ hBj
              clear hBj
              go_wp2_with fail
              go_roundw
              case rel =>
                refine ⟨e + 1, by omega, by go_num, ?_, qK HBj⟩
                rw [qD, qK Hk2, Nat.add_assoc]; rfl
              case measure => simp [intOf]; omega
        · have hee : e = 6 := by omega
          subst hee
          have HBi := qJ hBi
          clear hBi
          go_wp2_with fail
          go_roundw
          case rel =>
            refine ⟨n + 1, by omega, by go_num, ?_, qK HBi⟩
            rw [← qK Hk3]; rfl
          case measure => simp [intOf]; omega
    · have hnn : n = ns.length := by omega
      subst hnn
      have c3 := ((qX hBr).1 _ 3 cl').trans c3'
      have c6 := ((qX hBr).1 _ 6 cl').trans c6'
      have HBr := qJ hBr
      clear hBr
      obtain ⟨k3, hk3⟩ : ∃ k3, qD (ch3 ns R W gs) ns.length = k3 := ⟨_, rfl⟩
      have Hk3 := qJ hk3
      rw [hk3] at b3 ⊢
      clear hk3
      have hm : (W - 1) * (k3 + used) ≤ 3 * (k3 + used) := Nat.mul_le_mul_right _ (by omega)
      have hmi : (((W - 1) * (k3 + used) : Nat) : Int) = ((W : Int) - 1) * ((k3 : Int) + (used : Int)) := by
        rw [Int.natCast_mul, Int.natCast_sub hW1]; simp
      have hw1 : IntKind.i64.wrap ((W : Int) - 1) = (W : Int) - 1 := by rw [IntKind.wrap_i64]; omega
      have hw2 : IntKind.i64.wrap ((k3 : Int) + (used : Int)) = (k3 : Int) + (used : Int) := by rw [IntKind.wrap_i64]; omega
      have hw3 : IntKind.i64.wrap (((W : Int) - 1) * ((k3 : Int) + (used : Int))) = ((W : Int) - 1) * ((k3 : Int) + (used : Int)) := by rw [← hmi, IntKind.wrap_i64]; omega
      have hw4 : IntKind.i64.wrap ((k3 : Int) + ((W : Int) - 1) * ((k3 : Int) + (used : Int))) = ((k3 + (W - 1) * (k3 + used) : Nat) : Int) := by rw [← hmi, IntKind.wrap_i64]; omega
      clear hmi
      go_wp2_with fail
      go_quiet (fail)
      go_wp2_with fail
      go_ret
      have e4 : lenN ns R W gs used = k3 + (W - 1) * (k3 + used) := by unfold lenN; rw [chN_eq, qK Hk3]
      refine ⟨?_, hB1.trans ((qK HBr).trans (show Bw wr (wr.drewN nq) from (by repeat first|exact br _|assumption|apply bd|apply bn|apply ba|refine bt ?_ (by assumption))))⟩
      rw [e4, Int.natCast_add, Int.natCast_mul, Int.natCast_add]
      rfl
end Go.Proofs.Ytfemleimkbjehaa
