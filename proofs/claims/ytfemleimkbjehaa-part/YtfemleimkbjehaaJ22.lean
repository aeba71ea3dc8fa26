import Derived.Test.YtfemleimkbjehaaJ21
import Derived.Test.YtfemleimkbjehaaJ3
import Derived.Test.YtfemleimkbjehaaJ19
import Derived.Test.YtfemleimkbjehaaJ18
set_option maxRecDepth 1000000
set_option maxHeartbeats 40000000
set_option linter.unusedVariables false
set_option linter.unusedSimpArgs false
namespace Go.Proofs.Ytfemleimkbjehaa
open Go.RowKit
theorem wrap_add (a b : Int) : wrap64 (wrap64 a + b) = wrap64 (a + b) := by unfold wrap64; omega
theorem tR {a : Int} (h1 : -9223372036854775808 ≤ a) (h2 : a ≤ 9223372036854775807) : wrap64 a = a := by unfold wrap64; omega
def ptTo (R q : Nat) (ps : List Pt) : Nat → Int
  | 0 => 0
  | j + 1 => if rY R (vU ps j) = q then ptTo R q ps j + (vU ps j).count else ptTo R q ps j
def ptSum (R q : Nat) (ps : List Pt) : Int := ptTo R q ps ps.length
theorem tabPts_sum (R : Nat) (T : Nat → Int) (ps : List Pt) (q : Nat) (hT : wrap64 (T q) = T q) : ∀ j, kT R T ps j q = wrap64 (T q + ptTo R q ps j) := by
  intro j
  induction j with
  | zero => simp only [kT, ptTo, Int.add_zero]; exact hT.symm
  | succ j ih =>
    rw [kT, ptTo]
    by_cases e : rY R (vU ps j) = q
    · rw [e, rC, if_pos rfl, ih, wrap_add, Int.add_assoc]
    · rw [tT _ _ (fun h => e h.symm), if_neg e, ih]
theorem tabSrc_in (ns : List Nd) (R W : Nat) (hW : W ≤ 4) : ∀ k q, 0 ≤ xJ ns R W k q ∧ xJ ns R W k q ≤ 4 := by
  intro k
  induction k with
  | zero => intro q; simp [xJ]
  | succ k ih =>
    intro q
    unfold xJ
    split
    · by_cases e : q = jZ R k 0 0 true
      · subst e; rw [rC]; omega
      · rw [tT _ _ e]; exact ih q
    · exact ih q
def rH (R q : Nat) (cs : List Cg) (told : Nat → Nat → Int) (w : Nat) : Nat → Int
  | 0 => 0
  | i + 1 => if pR cs told w i then rH R q cs told w i else rH R q cs told w i + ptSum R q (mC cs i).pts
theorem rX (ns : List Nd) (R W : Nat) (hW : W ≤ 4) (cs : List Cg) (told : Nat → Nat → Int) (w : Nat) : ∀ k q, zY ns R W cs told w k q = wrap64 (xJ ns R W ns.length q + rH R q cs told w k) := by
  intro k
  induction k with
  | zero =>
    intro q
    have := tabSrc_in ns R W hW ns.length q
    simp only [zY, rH, Int.add_zero]
    exact (tR (by omega) (by omega)).symm
  | succ k ih =>
    intro q
    rw [zY, rH]
    split
    · exact ih q
    · rw [tabPts_sum R _ _ q (by rw [ih q]; exact tR (zH _).1 (zH _).2), ih q, wrap_add, Int.add_assoc]
      rfl
theorem tabLog_in (ns : List Nd) (R W : Nat) (hW : W ≤ 4) (cs : List Cg) (told : Nat → Nat → Int) (w k q : Nat) : wrap64 (zY ns R W cs told w k q) = zY ns R W cs told w k q := by
  rw [rX ns R W hW]
  exact tR (zH _).1 (zH _).2
def xP (cs : List Cg) (b : Nat) : Nat → List (List Pt)
  | 0 => []
  | i + 1 => if (mC cs i).worker == (b : Int) then xP cs b i ++ [(mC cs i).pts] else xP cs b i
theorem tC (cs : List Cg) (b k : Nat) : (xP cs b k).length = zU cs b k := by
  induction k with
  | zero => rfl
  | succ k ih => unfold xP zU; split <;> simp [ih]
theorem cgTo_app (cs : List Cg) (c : Cg) (b : Nat) : ∀ k, k ≤ cs.length → xP (cs ++ [c]) b k = xP cs b k := by
  intro k
  induction k with
  | zero => intro _; rfl
  | succ k ih => intro hk; rw [xP, xP, ih (by omega), mB (by omega)]
theorem cgTo_snoc (cs : List Cg) (c : Cg) (b : Nat) : xP (cs ++ [c]) b (cs ++ [c]).length = xP cs b cs.length ++ (if c.worker == (b : Int) then [c.pts] else []) := by
  rw [List.length_append, List.length_singleton, xP, cgTo_app cs c b _ (Nat.le_refl _), mJ]
  split <;> simp
theorem cnTo_app (cs : List Cg) (c : Cg) (b : Nat) : ∀ k, k ≤ cs.length → zU (cs ++ [c]) b k = zU cs b k := by
  intro k
  induction k with
  | zero => intro _; rfl
  | succ k ih => intro hk; rw [zU, zU, ih (by omega), mB (by omega)]
theorem cnTo_snoc (cs : List Cg) (c : Cg) (b : Nat) : zU (cs ++ [c]) b (cs ++ [c]).length = zU cs b cs.length + (if c.worker == (b : Int) then 1 else 0) := by
  rw [List.length_append, List.length_singleton, zU, cnTo_app cs c b _ (Nat.le_refl _), mJ]
  split <;> simp
theorem cgTo_mem {cs : List Cg} {b : Nat} : ∀ k, k ≤ cs.length → ∀ ps ∈ xP cs b k, ∃ i, i < k ∧ ps = (mC cs i).pts := by
  intro k
  induction k with
  | zero => intro _ ps h; simp [xP] at h
  | succ k ih =>
    intro hk ps h
    unfold xP at h
    split at h
    · rcases List.mem_append.1 h with h | h
      · obtain ⟨i, a, b⟩ := ih (by omega) ps h; exact ⟨i, by omega, b⟩
      · simp at h; exact ⟨k, by omega, h⟩
    · obtain ⟨i, a, b⟩ := ih (by omega) ps h; exact ⟨i, by omega, b⟩
theorem seen_cn {cs : List Cg} (b : Nat) : ∀ k, k ≤ cs.length → (∀ j, j < cs.length → ∃ m : Nat, (mC cs j).worker = m) → nF cs k b = (zU cs b k : Nat) := by
  intro k
  induction k with
  | zero => intro _ _; rfl
  | succ k ih =>
    intro hk hw
    have h1 := ih (by omega) hw
    obtain ⟨m, hm⟩ := hw k (by omega)
    rw [nF, zU, hm, Int.toNat_natCast]
    by_cases e : b = m
    · subst e; rw [rC, if_pos (by simp), h1]; simp
    · rw [tT _ _ e, if_neg (by simp; omega), h1]
theorem lgSum_told {R q : Nat} {cs : List Cg} {told : Nat → Nat → Int} {a b t : Nat} (hab : a ≠ b) (ht : told a b = t) (hw : ∀ j, j < cs.length → ∃ m : Nat, (mC cs j).worker = m) : ∀ k, k ≤ cs.length → rH R q cs (zX told a b) a k = rH R q cs told a k + (if t < zU cs b k then ptSum R q ((xP cs b k).getD t []) else 0) := by
  intro k
  induction k with
  | zero => intro _; simp [rH, zU]
  | succ k ih =>
    intro hk
    have h1 := ih (by omega)
    obtain ⟨m, hm⟩ := hw k (by omega)
    have hseen := seen_cn (cs := cs) m (k + 1) hk hw
    have e1 : pR cs told a k = ((m != a) && decide (told a m < (zU cs m (k + 1) : Nat))) := by
      unfold pR
      rw [hm, Int.toNat_natCast, hseen]
      congr 1
      rw [Bool.eq_iff_iff]; simp; omega
    have e2 : pR cs (zX told a b) a k = ((m != a) && decide (zX told a b a m < (zU cs m (k + 1) : Nat))) := by
      unfold pR
      rw [hm, Int.toNat_natCast, hseen]
      congr 1
      rw [Bool.eq_iff_iff]; simp; omega
    rw [rH, rH, e1, e2, h1]
    by_cases e : m = b
    · subst e
      have hcn : zU cs m (k + 1) = zU cs m k + 1 := by rw [zU, if_pos (by rw [hm]; simp)]
      have hch : xP cs m (k + 1) = xP cs m k ++ [(mC cs k).pts] := by rw [xP, if_pos (by rw [hm]; simp)]
      have hln := tC cs m k
      have hup : zX told a m a m = (t : Int) + 1 := by simp [zX, ht]
      have hne : (m != a) = true := by simp; omega
      rw [hup, ht, hne, Bool.true_and, Bool.true_and, hcn, hch]
      have d1 : decide ((t : Int) < ((zU cs m k + 1 : Nat) : Int)) = decide (t < zU cs m k + 1) := decide_eq_decide.2 ⟨fun h => by omega, fun h => by omega⟩
      have d2 : decide ((t : Int) + 1 < ((zU cs m k + 1 : Nat) : Int)) = decide (t < zU cs m k) := decide_eq_decide.2 ⟨fun h => by omega, fun h => by omega⟩
      rw [d1, d2]
      by_cases c1 : t < zU cs m k
      · have c1' : t < zU cs m k + 1 := by omega
        simp only [c1, c1', decide_true, if_true]
        congr 2
        simp [List.getD, List.getElem?_append_left (show t < (xP cs m k).length by omega)]
      · by_cases c2 : t = zU cs m k
        · have c1' : t < zU cs m k + 1 := by omega
          simp only [c1, c1', decide_true, decide_false, if_true, if_false, Bool.false_eq_true]
          have : (xP cs m k ++ [(mC cs k).pts]).getD t [] = (mC cs k).pts := by
            rw [c2, ← hln]; simp [List.getD]
          rw [this]; omega
        · have c1' : ¬ t < zU cs m k + 1 := by omega
          simp only [c1, c1', decide_false, if_false, Bool.false_eq_true]
          omega
    · have hcn : zU cs b (k + 1) = zU cs b k := by rw [zU, if_neg (by rw [hm]; simp; omega)]
      have hch : xP cs b (k + 1) = xP cs b k := by rw [xP, if_neg (by rw [hm]; simp; omega)]
      have hup : zX told a b a m = told a m := by simp [zX]; intro e9; omega
      rw [hup, hcn, hch]
      split <;> omega
theorem lgSum_other {R q : Nat} {cs : List Cg} {told : Nat → Nat → Int} {a b w : Nat} (h : w ≠ a) : ∀ k, rH R q cs (zX told a b) w k = rH R q cs told w k := by
  intro k
  induction k with
  | zero => rfl
  | succ k ih =>
    have e : pR cs (zX told a b) w k = pR cs told w k := by unfold pR zX; simp [h]
    rw [rH, rH, e, ih]
theorem tabLog_told {ns : List Nd} {R W : Nat} (hW : W ≤ 4) {cs : List Cg} {told : Nat → Nat → Int} {a b t : Nat} (hab : a ≠ b) (ht : told a b = t) (hw : ∀ j, j < cs.length → ∃ m : Nat, (mC cs j).worker = m) (hlt : t < zU cs b cs.length) (q : Nat) : zY ns R W cs (zX told a b) a cs.length q = kT R (zY ns R W cs told a cs.length) ((xP cs b cs.length).getD t []) ((xP cs b cs.length).getD t []).length q := by
  rw [tabPts_sum R _ _ q (tabLog_in ns R W hW cs told a cs.length q), rX ns R W hW, rX ns R W hW, wrap_add, lgSum_told hab ht hw _ (Nat.le_refl _), if_pos hlt, Int.add_assoc]
  rfl
theorem tabLog_untold {ns : List Nd} {R W : Nat} (hW : W ≤ 4) {cs : List Cg} {told : Nat → Nat → Int} {a b w : Nat} (h : w ≠ a) (q : Nat) : zY ns R W cs (zX told a b) w cs.length q = zY ns R W cs told w cs.length q := by
  rw [rX ns R W hW, rX ns R W hW, lgSum_other h]
theorem bL {l : List Ev} {y : Ev} {i : Nat} (hi : i < l.length) : uJ (l ++ [y]) i = uJ l i := mU hi
theorem gC (l : List Ev) (y : Ev) : uJ (l ++ [y]) l.length = y := by simp [uJ, List.getD]
def acM (y : Ev) (w n e s : Int) : Bool := (y.worker == w) && ((y.node == n) && ((y.epoch == e) && (y.round == s)))
theorem acTo_app (evs : List Ev) (y : Ev) (w n e s : Int) : ∀ k, k ≤ evs.length → jS (evs ++ [y]) w n e s k = jS evs w n e s k := by
  intro k
  induction k with
  | zero => intro _; rfl
  | succ k ih =>
    intro hk
    rw [jS, jS, ih (by omega)]
    unfold acB
    rw [bL (by omega)]
theorem tN (evs : List Ev) (y : Ev) (w n e s : Int) : jS (evs ++ [y]) w n e s (evs ++ [y]).length = if acM y w n e s then (if y.kind == 1 then jS evs w n e s evs.length ++ [y.value] else if y.kind == 2 then [] else jS evs w n e s evs.length) else jS evs w n e s evs.length := by
  rw [List.length_append, List.length_singleton, jS, acTo_app evs y w n e s _ (Nat.le_refl _)]
  unfold acB
  rw [gC]
  rfl
def meM (y x : Ev) : Bool := (y.kind == 1) && ((y.worker == x.worker) && ((y.node == x.node) && ((y.epoch == x.epoch) && ((y.round == x.round) && (y.value == x.value)))))
theorem meTo_app (evs : List Ev) (y x : Ev) : ∀ k, k ≤ evs.length → pP (evs ++ [y]) x k = pP evs x k := by
  intro k
  induction k with
  | zero => intro _; rfl
  | succ k ih =>
    intro hk
    rw [pP, pP, ih (by omega)]
    unfold meB
    rw [bL (by omega)]
theorem cY (evs : List Ev) (y x : Ev) : pP (evs ++ [y]) x (evs ++ [y]).length = (pP evs x evs.length || meM y x) := by
  rw [List.length_append, List.length_singleton, pP, meTo_app evs y x _ (Nat.le_refl _)]
  unfold meB
  rw [gC]
  rfl
theorem meTo_same (evs : List Ev) (x x' : Ev) (h : x.worker = x'.worker ∧ x.node = x'.node ∧ x.epoch = x'.epoch ∧ x.round = x'.round ∧ x.value = x'.value) : ∀ k, pP evs x k = pP evs x' k := by
  intro k
  induction k with
  | zero => rfl
  | succ k ih =>
    rw [pP, pP, ih]
    unfold meB
    rw [h.1, h.2.1, h.2.2.1, h.2.2.2.1, h.2.2.2.2]
theorem ouTo_app (ns : List Nd) (evs : List Ev) (y : Ev) : ∀ k, k ≤ evs.length → nC ns (evs ++ [y]) k = nC ns evs k := by
  intro k
  induction k with
  | zero => intro _; rfl
  | succ k ih =>
    intro hk
    rw [nC, nC, ih (by omega)]
    unfold ouB
    rw [bL (by omega)]
theorem pM (ns : List Nd) (evs : List Ev) (y : Ev) : nC ns (evs ++ [y]) (evs ++ [y]).length = nC ns evs evs.length ++ (if (y.kind == 1) && ((qV ns y.node.toNat).kind == 7) then [rcOf y] else []) := by
  rw [List.length_append, List.length_singleton, nC, ouTo_app ns evs y _ (Nat.le_refl _)]
  unfold ouB
  rw [gC]
  split <;> simp
theorem rF {xs : List Int} {v : Int} {k : Nat} (h : k < xs.length) : kC (xs ++ [v]) k = kC xs k := by simp [kC, List.getD, List.getElem?_append_left h]
theorem uM (xs : List Int) (v : Int) : kC (xs ++ [v]) xs.length = v := by simp [kC, List.getD]
theorem gsum_app (xs : List Int) (v q : Int) (g : Nat) : ∀ k, k ≤ xs.length → gsumTo (xs ++ [v]) q g k = gsumTo xs q g k ∧ kG (xs ++ [v]) q g k = kG xs q g k := by
  intro k
  induction k with
  | zero => intro _; exact ⟨rfl, rfl⟩
  | succ k ih =>
    intro hk
    obtain ⟨h1, h2⟩ := ih (by omega)
    rw [gsumTo, gsumTo, kG, kG, h1, h2, rF (by omega)]
    exact ⟨rfl, rfl⟩
theorem gsum_snoc (xs : List Int) (v q : Int) (g : Nat) : gsumTo (xs ++ [v]) q g (xs ++ [v]).length = (if v % q == g then wrap64 (gsumTo xs q g xs.length + v) else gsumTo xs q g xs.length) ∧ kG (xs ++ [v]) q g (xs ++ [v]).length = (if v % q == g then true else kG xs q g xs.length) := by
  obtain ⟨h1, h2⟩ := gsum_app xs v q g xs.length (Nat.le_refl _)
  rw [List.length_append, List.length_singleton, gsumTo, kG, h1, h2, uM]
  exact ⟨rfl, rfl⟩
theorem gT {ms : List Ml} {w n : Int} : ∀ k i, i < (kS ms w n k).length → ∃ z, z < k ∧ kC (kS ms w n k) i = (z : Int) ∧ yX ms w n z = true ∧ (kS ms w n z).length = i := by
  intro k
  induction k with
  | zero => intro i hi; simp [kS] at hi
  | succ k ih =>
    intro i hi
    by_cases hb : yX ms w n k = true
    · rw [waitTo_yes hb] at hi ⊢
      by_cases h1 : i < (kS ms w n k).length
      · obtain ⟨z, a, b, c, d⟩ := ih i h1
        exact ⟨z, by omega, by rw [rF h1]; exact b, c, d⟩
      · have : i = (kS ms w n k).length := by simp at hi; omega
        subst this
        exact ⟨k, by omega, uM _ _, hb, rfl⟩
    · rw [waitTo_no (by simpa using hb)] at hi ⊢
      obtain ⟨z, a, b, c, d⟩ := ih i hi
      exact ⟨z, by omega, b, c, d⟩
theorem mS {ms : List Ml} {z j : Nat} (hz : z < ms.length) : rS (zG ms z) j = if j = z then { rS ms z with gone := true } else rS ms j := by
  unfold zG rS List.getD
  rw [List.getElem?_set]
  by_cases e : j = z
  · subst e; simp [hz]
  · rw [if_neg e, if_neg (fun h => e h.symm)]
theorem nL {ms : List Ml} {z j : Nat} {w n : Int} (hz : z < ms.length) : yX (zG ms z) w n j = (!decide (j = z) && yX ms w n j) := by
  unfold yX
  rw [mS hz]
  by_cases e : j = z
  · rw [if_pos e]; simp [e]
  · rw [if_neg e]; simp [e]
theorem wL_len (ms : List Ml) (w n : Int) (k : Nat) : (wL ms w n k).length = (kS ms w n k).length := by rw [← wL_eq, List.length_map]
theorem wL_goneA {ms : List Ml} {z : Nat} {w n : Int} (hz : z < ms.length) : ∀ k, k ≤ z → wL (zG ms z) w n k = wL ms w n k := by
  intro k
  induction k with
  | zero => intro _; rfl
  | succ k ih =>
    intro hk
    have e : ¬ k = z := by omega
    rw [wL, wL, nL hz, mS hz, ih (by omega)]
    simp [e]
theorem bY {ms : List Ml} {z : Nat} {w n : Int} (hb : yX ms w n z = true) : ∀ d, (kS ms w n z).length < (kS ms w n (z + 1 + d)).length := by
  intro d
  induction d with
  | zero => rw [Nat.add_zero, waitTo_yes hb]; simp
  | succ d ih2 =>
    have : (kS ms w n (z + 1 + d)).length ≤ (kS ms w n (z + 1 + d + 1)).length := by
      conv => rhs; rw [kS]
      split <;> simp
    rw [← Nat.add_assoc]; omega
theorem wL_goneS {ms : List Ml} {z : Nat} {w n : Int} (hz : z < ms.length) (hb : yX ms w n z = true) : ∀ d, wL (zG ms z) w n (z + 1 + d) = (wL ms w n (z + 1 + d)).eraseIdx (kS ms w n z).length := by
  intro d
  induction d with
  | zero =>
    have e1 : wL (zG ms z) w n (z + 1) = wL (zG ms z) w n z := by rw [wL, nL hz]; simp
    have e2 : wL ms w n (z + 1) = wL ms w n z ++ [lB (rS ms z)] := by rw [wL, if_pos hb]
    rw [Nat.add_zero, e1, e2, wL_goneA hz z (Nat.le_refl _), List.eraseIdx_append_of_length_le (by rw [wL_len]; omega), wL_len]
    simp
  | succ d ih =>
    have e : ¬ z + 1 + d = z := by omega
    rw [← Nat.add_assoc, wL, nL hz, mS hz, ih, if_neg e]
    have e2 : wL ms w n (z + 1 + d + 1) = if yX ms w n (z + 1 + d) then wL ms w n (z + 1 + d) ++ [lB (rS ms (z + 1 + d))] else wL ms w n (z + 1 + d) := by rw [wL]
    rw [e2]
    cases hq : yX ms w n (z + 1 + d) with
    | false => simp
    | true =>
      have h3 := bY hb d
      simp only [e, decide_false, Bool.not_false, Bool.and_true, if_true]
      rw [List.eraseIdx_append_of_lt_length (by rw [wL_len]; exact h3)]
theorem wL_goneO {ms : List Ml} {z : Nat} {w n : Int} (hz : z < ms.length) (hb : yX ms w n z = false) : ∀ k, wL (zG ms z) w n k = wL ms w n k := by
  intro k
  induction k with
  | zero => rfl
  | succ k ih =>
    rw [wL, wL, nL hz, mS hz, ih]
    by_cases e : k = z
    · subst e; simp [hb]
    · simp [e]
theorem waitL_gone {ms : List Ml} {a n i z : Nat} (hi : i < (kS ms a n ms.length).length) (hz : kC (kS ms a n ms.length) i = (z : Int)) (b m : Nat) : vD (zG ms z) b m = if b = a ∧ m = n then (vD ms a n).eraseIdx i else vD ms b m := by
  obtain ⟨z', h1, h2, h3, h4⟩ := gT ms.length i hi
  have e : z = z' := by rw [h2] at hz; omega
  subst e
  rw [mF, mF, mF, gV]
  split
  · rename_i h
    obtain ⟨rfl, rfl⟩ := h
    have := wL_goneS h1 h3 (ms.length - z - 1)
    rw [show z + 1 + (ms.length - z - 1) = ms.length by omega, h4] at this
    exact this
  · rename_i h
    refine wL_goneO h1 ?_ _
    unfold yX at h3 ⊢
    simp only [Bool.and_eq_true, beq_iff_eq, Bool.not_eq_true'] at h3
    rw [h3.1.2, h3.2]
    rw [Bool.eq_false_iff]
    intro h5
    simp at h5
    exact h ⟨by omega, by omega⟩
structure Sim (ns : List Nd) (W : Nat) (p : PSt) (st : RSt) : Prop where
  ep : ∀ i n : Nat, p.ep i n = (kQ st.opened i n 2 st.opened.length : Nat)
  cl : ∀ i n : Nat, p.cl i n = decide (0 < kQ st.opened i n 3 st.opened.length)
  wt : ∀ i n : Nat, p.wt i n = vD st.mails i n
  lb : ∀ i n : Nat, (qV ns n).kind = 5 → ∀ y : Gv, wH (p.lb i n) y (p.lb i n).length = pP st.evs ⟨1, i, n, 0, y.node, y.epoch, y.value⟩ st.evs.length
  lbn : ∀ i n, (p.lb i n).length ≤ st.evs.length
  wn : ∀ i n e s : Nat, e < 6 → s < 4 → p.tl i n (e * 4 + s) = .bool ((qV ns n).kind == 6 && !((jS st.evs i n e s st.evs.length).length == 0))
  gs : ∀ i n e s g : Nat, (qV ns n).kind = 6 → e < 6 → s < 4 → g < 8 → p.tl i n (24 + e * 64 + s * 16 + g) = .int .i64 (gsumTo (jS st.evs i n e s st.evs.length) (qV ns n).k g (jS st.evs i n e s st.evs.length).length) ∧ p.tl i n (24 + e * 64 + s * 16 + 8 + g) = .bool (kG (jS st.evs i n e s st.evs.length) (qV ns n).k g (jS st.evs i n e s st.evs.length).length)
  tb : ∀ i, i < W → p.tb i = zY ns 4 W st.log st.told i st.log.length
  wy : ∀ i j, p.wy i j = if i < W ∧ j < W ∧ i ≠ j then (xP st.log j st.log.length).drop (st.told i j).toNat else []
  gv : p.gv = (jM st.opened st.opened.length : Nat)
  rc : p.rc = nC ns st.evs st.evs.length
structure Inv (ns : List Nd) (R W : Nat) (st : RSt) (k : Nat) : Prop where
  op : st.opened.length ≤ k
  lg : st.log.length ≤ k
  ev : st.evs.length ≤ k
  gv : jM st.opened st.opened.length ≤ 20
  ml : st.mails.length ≤ 64 * k
  ep : ∀ i n : Nat, kQ st.opened i n 2 st.opened.length ≤ 5
  cg : ∀ i, i < st.log.length → CgOk ns.length R W (mC st.log i) ∧ (mC st.log i).pts.length ≤ 100
  mo : ∀ i, i < st.mails.length → ∃ a n e s : Nat, (rS st.mails i).worker = a ∧ a < W ∧ (rS st.mails i).node = n ∧ n < ns.length ∧ (qV ns n).kind ≠ 0 ∧ (rS st.mails i).epoch = e ∧ e < 6 ∧ (rS st.mails i).round = s ∧ s < R ∧ -9223372036854775808 ≤ (rS st.mails i).value ∧ (rS st.mails i).value ≤ 9223372036854775807
  eo : ∀ i, i < st.evs.length → (∃ n : Nat, (uJ st.evs i).node = n ∧ n < ns.length) ∧ ∃ s : Nat, (uJ st.evs i).round = s ∧ s < R
  tl : ∀ a b, a < W → b < W → ∃ t : Nat, st.told a b = t ∧ t ≤ zU st.log b st.log.length
theorem Inv.zero (ns : List Nd) (R W : Nat) : Inv ns R W rst0 0 :=
  ⟨by simp [rst0], by simp [rst0], by simp [rst0], by simp [rst0, jM], by simp [rst0], fun _ _ => by simp [rst0, kQ], fun i hi => by simp [rst0] at hi, fun i hi => by simp [rst0] at hi, fun i hi => by simp [rst0] at hi, fun _ _ _ _ => ⟨0, rfl, Nat.zero_le _⟩⟩
theorem Inv.more {ns : List Nd} {R W : Nat} {st : RSt} {k : Nat} (h : Inv ns R W st k) : Inv ns R W st (k + 1) :=
  ⟨Nat.le_succ_of_le h.op, Nat.le_succ_of_le h.lg, Nat.le_succ_of_le h.ev, h.gv, by have := h.ml; omega, h.ep, h.cg, h.mo, h.eo, h.tl⟩
theorem Inv.wk {ns : List Nd} {R W : Nat} {st : RSt} {k : Nat} (h : Inv ns R W st k) : ∀ j, j < st.log.length → ∃ m : Nat, (mC st.log j).worker = m := fun j hj => by
  obtain ⟨m, e, _⟩ := (h.cg j hj).1.1
  exact ⟨m, e⟩
theorem rK {ns : List Nd} {W : Nat} {p : PSt} {st : RSt} (h : Sim ns W p st) (w n : Int) : jP ns W p.cl w n = yN ns W st.opened w n := by
  unfold jP yN
  by_cases h1 : mT W w = true
  · obtain ⟨i, rfl, hi⟩ := isWk_iff.1 h1
    by_cases h2 : jQ ns.length n = true
    · obtain ⟨b1, b2⟩ := isNodeB_iff.1 h2
      obtain ⟨m, rfl⟩ := Int.eq_ofNat_of_zero_le b1
      have h3 : mN ns.length W (i : Int) (m : Int) = true := placeB_iff.2 ⟨⟨by omega, by omega⟩, b1, b2⟩
      rw [h1, h2, h3]
      cases hk : ((qV ns (m : Int).toNat).kind == 0) <;> simp [h.cl]
    · have h3 : mN ns.length W (i : Int) n = false := placeB_no fun h => h2 (isNodeB_iff.2 h.2)
      have h2' : jQ ns.length n = false := by simpa using h2
      rw [h1, h2', h3]; rfl
  · have h3 : mN ns.length W w n = false := placeB_no fun h => h1 (isWk_iff.2 ⟨w.toNat, by omega, by omega⟩)
    have h1' : mT W w = false := by simpa using h1
    rw [h1', h3]; rfl
theorem cW {ns : List Nd} {W : Nat} {p : PSt} {st : RSt} (h : Sim ns W p st) (w n : Int) : yR ns W p w n = giveE ns W st.opened w n := by
  unfold yR giveE
  rw [rK h]
  have : decide (20 ≤ p.gv) = decide (20 ≤ jM st.opened st.opened.length) := by
    rw [h.gv]
    exact decide_eq_decide.2 ⟨fun h => by omega, fun h => by omega⟩
  rw [this]
theorem padvE_eq {ns : List Nd} {W : Nat} {p : PSt} {st : RSt} (h : Sim ns W p st) (w n : Int) : wV ns W p w n = advE ns W st.opened w n := by
  unfold wV advE
  rw [rK h]
  by_cases h0 : (yN ns W st.opened w n != 0) = true
  · rw [if_pos h0, if_pos h0]
  · rw [if_neg h0, if_neg h0]
    have h1 : jP ns W p.cl w n = 0 := by rw [rK h]; simpa using h0
    obtain ⟨i, m, rfl, rfl, _, _⟩ := rJ h1
    have : decide (5 ≤ p.ep (i : Int).toNat (m : Int).toNat) = decide (5 ≤ kQ st.opened (i : Int) (m : Int) 2 st.opened.length) := by
      simp only [h.ep, Int.toNat_natCast]
      exact decide_eq_decide.2 ⟨fun h => by omega, fun h => by omega⟩
    rw [this]
theorem Sim.change {ns : List Nd} {R W : Nat} {p p1 : PSt} {st st1 : RSt} {k i : Nat} {q : List Pt} (h : Sim ns W p st) (hi : Inv ns R W st k) (hiW : i < W) (hp : p1.tb = pZ p.tb i (kT 4 (p.tb i) q q.length) ∧ p1.wy = jR p.wy i q W) (hs : st1.log = st.log ++ [⟨i, q⟩] ∧ st1.told = st.told) :
    (∀ a, a < W → p1.tb a = zY ns 4 W st1.log st1.told a st1.log.length) ∧ ∀ a b, p1.wy a b = if a < W ∧ b < W ∧ a ≠ b then (xP st1.log b st1.log.length).drop (st1.told a b).toNat else [] := by
  refine ⟨fun a ha => ?_, fun a b => ?_⟩
  · rw [hp.1, hs.1, hs.2, tabLog_snoc ns 4 W st.log ⟨i, q⟩ st.told a i rfl (fun _ => by
      obtain ⟨t, e, ht⟩ := hi.tl a i ha hiW
      rw [e, seen_cn i _ (Nat.le_refl _) hi.wk]
      omega)]
    unfold pZ
    split
    · rename_i e; subst e; rw [h.tb a ha]
    · exact h.tb a ha
  · rw [hp.2, hs.1, hs.2, cgTo_snoc]
    unfold jR
    rw [h.wy a b]
    by_cases e : a < W ∧ b < W ∧ a ≠ b
    · rw [if_pos e, if_pos e]
      obtain ⟨t, et, ht⟩ := hi.tl a b e.1 e.2.1
      by_cases e2 : b = i
      · subst e2
        rw [if_pos ⟨rfl, e.1, e.2.2⟩, if_pos (by simp), List.drop_append_of_le_length (by rw [tC, et]; simpa using ht)]
      · rw [if_neg (fun h => e2 h.1), if_neg (by simp; omega), List.append_nil]
    · rw [if_neg e, if_neg e, if_neg (fun h => e ⟨h.2.1, by omega, by omega⟩)]
theorem gZ {ns : List Nd} {W : Nat} {op : List Gv} {w n : Int} (hE : giveE ns W op w n = 0) : yN ns W op w n = 0 ∧ jM op op.length < 20 := by
  unfold giveE at hE
  split at hE
  · rename_i h; simp at h; exact absurd hE h
  · rename_i h
    split at hE
    · cases hE
    · rename_i h2; exact ⟨by simpa using h, by simpa using h2⟩
theorem dN {ns : List Nd} {W : Nat} {op : List Gv} {w n : Int} (hE : advE ns W op w n = 0) : yN ns W op w n = 0 ∧ kQ op w n 2 op.length < 5 := by
  unfold advE at hE
  split at hE
  · rename_i h; simp at h; exact absurd hE h
  · rename_i h
    split at hE
    · cases hE
    · rename_i h2; exact ⟨by simpa using h, by simpa using h2⟩
theorem Sim.at {ns : List Nd} {W : Nat} {p : PSt} {st : RSt} (h : Sim ns W p st) {w n : Int} (h0 : yN ns W st.opened w n = 0) : ∃ i m : Nat, w = i ∧ n = m ∧ i < W ∧ m < ns.length := rJ (cl := p.cl) (by rw [rK h]; exact h0)
theorem Sim.gave {ns : List Nd} {R W : Nat} {p : PSt} {st : RSt} {k : Nat} (h : Sim ns W p st) (hi : Inv ns R W st k) (wk n v : Int) : Sim ns W (jD ns W p wk n v) (pU ns W st wk n v) := by
  by_cases hE : giveE ns W st.opened wk n = 0
  · obtain ⟨i, m, rfl, rfl, hiW, hm⟩ := h.at (gZ hE).1
    have e1 : jD ns W p i m v = yV ns W p i m v := by unfold jD; rw [cW h, hE]; rfl
    have e2 : pU ns W st i m v = yT ns W st i m v (kQ st.opened i m 2 st.opened.length) := by unfold pU; rw [hE]; rfl
    rw [e1, e2]
    have hwt : p.wt = fun (a b : Nat) => vD st.mails a b := by funext a b; exact h.wt a b
    obtain ⟨c1, c2⟩ := h.change hi hiW (p1 := yV ns W p i m v) (st1 := yT ns W st i m v (kQ st.opened i m 2 st.opened.length)) (q := jX ns m ⟨(kQ st.opened i m 2 st.opened.length : Nat), 0, v⟩ ns.length) ⟨by simp only [yV, h.ep], by simp only [yV, h.ep]⟩ ⟨rfl, rfl⟩
    refine ⟨fun a b => ?_, fun a b => ?_, fun a b => ?_, h.lb, h.lbn, h.wn, h.gs, c1, c2, ?_, h.rc⟩
    · simp only [yV, yT, h.ep]; rw [jV]; simp
    · refine (h.cl a b).trans (decide_eq_decide.2 ?_)
      simp only [yT]; rw [jV]; simp
    · simp only [yV, yT, h.ep]
      rw [cG ns W i hiW m _ st.mails ns.length a b, hwt]
    · simp only [yV, yT, h.gv]; rw [vV]; simp
  · have e1 : jD ns W p wk n v = p := by unfold jD; rw [cW h, if_neg (by simpa using hE)]
    have e2 : pU ns W st wk n v = st := by unfold pU; rw [if_neg (by simpa using hE)]
    rw [e1, e2]; exact h
theorem ne_of {a i b m : Nat} (e : ¬ (a = i ∧ b = m)) (x y : Int) : ((i : Int) == (a : Int) && ((m : Int) == (b : Int)) && (x == y)) = false := by
  rw [Bool.eq_false_iff]; intro h; simp at h; omega
theorem Sim.advanced {ns : List Nd} {R W : Nat} {p : PSt} {st : RSt} {k : Nat} (h : Sim ns W p st) (hi : Inv ns R W st k) (wk n : Int) : Sim ns W (yZ ns W p wk n) (dM ns W st wk n) := by
  by_cases hE : advE ns W st.opened wk n = 0
  · obtain ⟨i, m, rfl, rfl, hiW, hm⟩ := h.at (dN hE).1
    have e1 : yZ ns W p i m = uT W p i m := by unfold yZ; rw [padvE_eq h, hE]; rfl
    have e2 : dM ns W st i m = tH st i m (kQ st.opened i m 2 st.opened.length) := by unfold dM; rw [hE]; rfl
    rw [e1, e2]
    obtain ⟨c1, c2⟩ := h.change hi hiW (p1 := uT W p i m) (st1 := tH st i m (kQ st.opened i m 2 st.opened.length)) (q := [⟨m, true, (kQ st.opened i m 2 st.opened.length : Nat), 0, -1⟩, ⟨m, true, (kQ st.opened i m 2 st.opened.length : Nat) + 1, 0, 1⟩]) ⟨by simp only [uT, h.ep]; rfl, by simp only [uT, h.ep]⟩ ⟨rfl, rfl⟩
    refine ⟨fun a b => ?_, fun a b => ?_, h.wt, h.lb, h.lbn, h.wn, h.gs, c1, c2, ?_, h.rc⟩
    · simp only [uT, tH]
      rw [jV]
      unfold kY
      by_cases e : a = i ∧ b = m
      · obtain ⟨rfl, rfl⟩ := e; simp [h.ep]
      · rw [if_neg e, h.ep, ne_of e]; simp
    · refine (h.cl a b).trans (decide_eq_decide.2 ?_)
      simp only [tH]; rw [jV]; simp
    · simp only [uT, tH, h.gv]; rw [vV]; simp
  · have e1 : yZ ns W p wk n = p := by unfold yZ; rw [padvE_eq h, if_neg (by simpa using hE)]
    have e2 : dM ns W st wk n = st := by unfold dM; rw [if_neg (by simpa using hE)]
    rw [e1, e2]; exact h
theorem Sim.closed {ns : List Nd} {R W : Nat} {p : PSt} {st : RSt} {k : Nat} (h : Sim ns W p st) (hi : Inv ns R W st k) (wk n : Int) : Sim ns W (yF ns W p wk n) (dF ns W st wk n) := by
  by_cases hE : yN ns W st.opened wk n = 0
  · obtain ⟨i, m, rfl, rfl, hiW, hm⟩ := h.at hE
    have e1 : yF ns W p i m = xF W p i m := by unfold yF; rw [rK h, hE]; rfl
    have e2 : dF ns W st i m = tQ st i m (kQ st.opened i m 2 st.opened.length) := by unfold dF; rw [hE]; rfl
    rw [e1, e2]
    obtain ⟨c1, c2⟩ := h.change hi hiW (p1 := xF W p i m) (st1 := tQ st i m (kQ st.opened i m 2 st.opened.length)) (q := [⟨m, true, (kQ st.opened i m 2 st.opened.length : Nat), 0, -1⟩]) ⟨by simp only [xF, h.ep]; rfl, by simp only [xF, h.ep]⟩ ⟨rfl, rfl⟩
    refine ⟨fun a b => ?_, fun a b => ?_, h.wt, h.lb, h.lbn, h.wn, h.gs, c1, c2, ?_, h.rc⟩
    · simp only [xF, tQ, h.ep]; rw [jV]; simp
    · have hd := jV st.opened ⟨(m : Int), (i : Int), 3⟩ a b 3
      simp only [xF]
      unfold kY
      by_cases e : a = i ∧ b = m
      · obtain ⟨rfl, rfl⟩ := e
        rw [if_pos ⟨rfl, rfl⟩]
        refine (decide_eq_true ?_).symm
        simp only [tQ]
        rw [hd]; simp
      · rw [if_neg e]
        refine (h.cl a b).trans (decide_eq_decide.2 ?_)
        simp only [tQ]
        rw [hd, ne_of e]; simp
    · simp only [xF, tQ, h.gv]; rw [vV]; simp
  · have e1 : yF ns W p wk n = p := by unfold yF; rw [rK h, if_neg (by simpa using hE)]
    have e2 : dF ns W st wk n = st := by unfold dF; rw [if_neg (by simpa using hE)]
    rw [e1, e2]; exact h
theorem gL {ns : List Nd} {R W : Nat} {cs : List Cg} {c : Cg} (h : ∀ i, i < cs.length → CgOk ns.length R W (mC cs i) ∧ (mC cs i).pts.length ≤ 100) (hc : CgOk ns.length R W c ∧ c.pts.length ≤ 100) : ∀ i, i < (cs ++ [c]).length → CgOk ns.length R W (mC (cs ++ [c]) i) ∧ (mC (cs ++ [c]) i).pts.length ≤ 100 := by
  intro i hi
  by_cases h1 : i < cs.length
  · rw [mB h1]; exact h i h1
  · have : i = cs.length := by simp at hi; omega
    subst this
    rw [mJ]; exact hc
theorem dZ {cs : List Cg} {c : Cg} {W : Nat} {told : Nat → Nat → Int} (h : ∀ a b, a < W → b < W → ∃ t : Nat, told a b = t ∧ t ≤ zU cs b cs.length) : ∀ a b, a < W → b < W → ∃ t : Nat, told a b = t ∧ t ≤ zU (cs ++ [c]) b (cs ++ [c]).length := by
  intro a b ha hb
  obtain ⟨t, e, ht⟩ := h a b ha hb
  exact ⟨t, e, by rw [cnTo_snoc]; omega⟩
def MlOk (ns : List Nd) (R W : Nat) (x : Ml) : Prop := ∃ a n e s : Nat, x.worker = a ∧ a < W ∧ x.node = n ∧ n < ns.length ∧ (qV ns n).kind ≠ 0 ∧ x.epoch = e ∧ e < 6 ∧ x.round = s ∧ s < R ∧ -9223372036854775808 ≤ x.value ∧ x.value ≤ 9223372036854775807
theorem putM_ok {ns : List Nd} {R W i : Nat} {n : Int} {m : Gv} {e s : Nat} (hi : i < W) (he : m.node = e) (h6 : e < 6) (hs : m.epoch = s) (hR : s < R) (hv1 : -9223372036854775808 ≤ m.value) (hv2 : m.value ≤ 9223372036854775807) : ∀ k, k ≤ ns.length → ∀ x ∈ tW ns W i n m k, MlOk ns R W x := by
  intro k
  induction k with
  | zero => intro _ x hx; simp [tW] at hx
  | succ k ih =>
    intro hk x hx
    unfold tW at hx
    split at hx
    · rename_i ht
      rcases List.mem_append.1 hx with h | h
      · exact ih (by omega) x h
      · simp at h
        obtain ⟨h0, h1⟩ := atI_lt (ns := ns) (k := k) (v := m.value) hi
        obtain ⟨t, htt⟩ := Int.eq_ofNat_of_zero_le h0
        subst h
        refine ⟨t, k, e, s, htt, by omega, rfl, by omega, ?_, he, h6, hs, hR, hv1, hv2⟩
        intro hk0
        unfold qL at ht
        rw [hk0] at ht
        simp at ht
    · exact ih (by omega) x hx
theorem mln_mem {l : List Ml} {j : Nat} (h : j < l.length) : rS l j ∈ l := by
  unfold rS List.getD
  rw [List.getElem?_eq_getElem h]
  exact List.getElem_mem h
theorem mo_app {ns : List Nd} {R W : Nat} {ms l : List Ml} (h : ∀ i, i < ms.length → MlOk ns R W (rS ms i)) (hl : ∀ x ∈ l, MlOk ns R W x) : ∀ i, i < (ms ++ l).length → MlOk ns R W (rS (ms ++ l) i) := by
  intro i hi
  rcases List.mem_append.1 (mln_mem hi) with h1 | h1
  · obtain ⟨j, hj, e⟩ := List.getElem_of_mem h1
    rw [← e]
    have := h j hj
    rw [show rS ms j = ms[j] by simp [rS, List.getD, List.getElem?_eq_getElem hj]] at this
    exact this
  · exact hl _ h1
theorem Inv.gave {ns : List Nd} {R W : Nat} {p : PSt} {st : RSt} {k : Nat} (h : Inv ns R W st k) (hs : Sim ns W p st) (h8 : ns.length ≤ 8) (hR : 1 ≤ R) (w n v : Int) (hv1 : -9223372036854775808 ≤ v) (hv2 : v ≤ 9223372036854775807) : Inv ns R W (pU ns W st w n v) (k + 1) := by
  by_cases hE : giveE ns W st.opened w n = 0
  · have h20 := (gZ hE).2
    obtain ⟨i, m, rfl, rfl, hi, hm⟩ := hs.at (gZ hE).1
    have e2 : pU ns W st i m v = yT ns W st i m v (kQ st.opened i m 2 st.opened.length) := by unfold pU; rw [hE]; rfl
    rw [e2]
    have hep := h.ep i m
    have hg : jM (st.opened ++ [(⟨m, i, 1⟩ : Gv)]) (st.opened ++ [(⟨m, i, 1⟩ : Gv)]).length = jM st.opened st.opened.length + 1 := by rw [vV]; rfl
    have hpm := putM_len ns W i m ⟨(kQ st.opened i m 2 st.opened.length : Nat), 0, v⟩ ns.length
    have hpp := wW ns m ⟨(kQ st.opened i m 2 st.opened.length : Nat), 0, v⟩ ns.length
    have hop := h.op
    have hlg := h.lg
    have hml := h.ml
    have hev := h.ev
    refine ⟨by simp [yT]; omega, by simp [yT]; omega, by simp [yT]; omega, ?_, ?_, fun a b => ?_, gL h.cg ⟨⟨⟨i, rfl, hi⟩, fun j hj => ?_⟩, ?_⟩, mo_app h.mo (putM_ok (s := 0) hi rfl (by omega) rfl (by omega) hv1 hv2 _ (Nat.le_refl _)), h.eo, dZ h.tl⟩
    · simp only [yT]; rw [hg]; omega
    · simp only [yT]; rw [List.length_append]; omega
    · simp only [yT]
      rw [jV]
      have := h.ep a b
      simp
      exact this
    · exact putP_okG (s := 0) (Nat.le_refl _) rfl (by omega) rfl (by omega) _ (Nat.le_refl _) _ (tU hj)
    · simp only; omega
  · have e2 : pU ns W st w n v = st := by unfold pU; rw [if_neg (by simpa using hE)]
    rw [e2]; exact h.more
theorem Inv.advanced {ns : List Nd} {R W : Nat} {p : PSt} {st : RSt} {k : Nat} (h : Inv ns R W st k) (hs : Sim ns W p st) (hR : 1 ≤ R) (w n : Int) : Inv ns R W (dM ns W st w n) (k + 1) := by
  by_cases hE : advE ns W st.opened w n = 0
  · have h5 := (dN hE).2
    obtain ⟨i, m, rfl, rfl, hi, hm⟩ := hs.at (dN hE).1
    have e2 : dM ns W st i m = tH st i m (kQ st.opened i m 2 st.opened.length) := by unfold dM; rw [hE]; rfl
    rw [e2]
    have hop := h.op
    have hlg := h.lg
    have hml := h.ml
    have hev := h.ev
    have hg : jM (st.opened ++ [(⟨m, i, 2⟩ : Gv)]) (st.opened ++ [(⟨m, i, 2⟩ : Gv)]).length = jM st.opened st.opened.length := by rw [vV]; rfl
    refine ⟨by simp [tH]; omega, by simp [tH]; omega, by simp [tH]; omega, ?_, by simp [tH]; omega, fun a b => ?_, gL h.cg ⟨⟨⟨i, rfl, hi⟩, fun j hj => ?_⟩, by simp⟩, h.mo, h.eo, dZ h.tl⟩
    · simp only [tH]; rw [hg]; exact h.gv
    · simp only [tH]
      rw [jV]
      have h1 := h.ep a b
      by_cases e : a = i ∧ b = m
      · obtain ⟨rfl, rfl⟩ := e; simp; omega
      · rw [ne_of e]; simpa using h1
    · simp only [List.length_cons, List.length_nil] at hj
      match j, hj with
      | 0, _ => exact ⟨m, kQ st.opened i m 2 st.opened.length, 0, rfl, hm, rfl, by omega, rfl, by omega⟩
      | 1, _ => exact ⟨m, kQ st.opened i m 2 st.opened.length + 1, 0, rfl, hm, by simp [vU], by omega, rfl, by omega⟩
  · have e2 : dM ns W st w n = st := by unfold dM; rw [if_neg (by simpa using hE)]
    rw [e2]; exact h.more
theorem Inv.closed {ns : List Nd} {R W : Nat} {p : PSt} {st : RSt} {k : Nat} (h : Inv ns R W st k) (hs : Sim ns W p st) (hR : 1 ≤ R) (w n : Int) : Inv ns R W (dF ns W st w n) (k + 1) := by
  by_cases hE : yN ns W st.opened w n = 0
  · obtain ⟨i, m, rfl, rfl, hi, hm⟩ := hs.at hE
    have e2 : dF ns W st i m = tQ st i m (kQ st.opened i m 2 st.opened.length) := by unfold dF; rw [hE]; rfl
    rw [e2]
    have hop := h.op
    have hlg := h.lg
    have hml := h.ml
    have hev := h.ev
    have hep := h.ep i m
    have hg : jM (st.opened ++ [(⟨m, i, 3⟩ : Gv)]) (st.opened ++ [(⟨m, i, 3⟩ : Gv)]).length = jM st.opened st.opened.length := by rw [vV]; rfl
    refine ⟨by simp [tQ]; omega, by simp [tQ]; omega, by simp [tQ]; omega, ?_, by simp [tQ]; omega, fun a b => ?_, gL h.cg ⟨⟨⟨i, rfl, hi⟩, fun j hj => ?_⟩, by simp⟩, h.mo, h.eo, dZ h.tl⟩
    · simp only [tQ]; rw [hg]; exact h.gv
    · simp only [tQ]
      rw [jV]
      have := h.ep a b
      simp
      exact this
    · have : j = 0 := by simpa using hj
      subst this
      exact ⟨m, kQ st.opened i m 2 st.opened.length, 0, rfl, hm, rfl, by omega, rfl, by omega⟩
  · have e2 : dF ns W st w n = st := by unfold dF; rw [if_neg (by simpa using hE)]
    rw [e2]; exact h.more
end Go.Proofs.Ytfemleimkbjehaa
