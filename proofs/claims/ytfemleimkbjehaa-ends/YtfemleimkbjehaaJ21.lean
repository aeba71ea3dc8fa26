import Derived.Test.YtfemleimkbjehaaJ20
import Derived.Test.YtfemleimkbjehaaJ3
import Derived.Test.YtfemleimkbjehaaJ18
import Derived.Test.YtfemleimkbjehaaJ17
set_option maxRecDepth 1000000
set_option maxHeartbeats 40000000
set_option linter.unusedVariables false
set_option linter.unusedSimpArgs false
namespace Go.Proofs.Ytfemleimkbjehaa
open Go.RowKit
theorem wrap_add (a b : Int) : wrap64 (wrap64 a + b) = wrap64 (a + b) := by unfold wrap64; omega
theorem tH {a : Int} (h1 : -9223372036854775808 ≤ a) (h2 : a ≤ 9223372036854775807) : wrap64 a = a := by unfold wrap64; omega
def ptTo (R q : Nat) (ps : List Pt) : Nat → Int
  | 0 => 0
  | j + 1 => if rT R (vU ps j) = q then ptTo R q ps j + (vU ps j).count else ptTo R q ps j
def ptSum (R q : Nat) (ps : List Pt) : Int := ptTo R q ps ps.length
theorem tabPts_sum (R : Nat) (T : Nat → Int) (ps : List Pt) (q : Nat) (hT : wrap64 (T q) = T q) : ∀ j, kS R T ps j q = wrap64 (T q + ptTo R q ps j) := by
  intro j
  induction j with
  | zero => simp only [kS, ptTo, Int.add_zero]; exact hT.symm
  | succ j ih =>
    rw [kS, ptTo]
    by_cases e : rT R (vU ps j) = q
    · rw [e, pQ, if_pos rfl, ih, wrap_add, Int.add_assoc]
    · rw [tM _ _ (fun h => e h.symm), if_neg e, ih]
theorem tabSrc_in (ns : List Nd) (R W : Nat) (hW : W ≤ 4) : ∀ k q, 0 ≤ xZ ns R W k q ∧ xZ ns R W k q ≤ 4 := by
  intro k
  induction k with
  | zero => intro q; simp [xZ]
  | succ k ih =>
    intro q
    unfold xZ
    split
    · by_cases e : q = jJ R k 0 0 true
      · subst e; rw [pQ]; omega
      · rw [tM _ _ e]; exact ih q
    · exact ih q
def rF (R q : Nat) (cs : List Cg) (told : Nat → Nat → Int) (w : Nat) : Nat → Int
  | 0 => 0
  | i + 1 => if pL cs told w i then rF R q cs told w i else rF R q cs told w i + ptSum R q (lX cs i).pts
theorem rS (ns : List Nd) (R W : Nat) (hW : W ≤ 4) (cs : List Cg) (told : Nat → Nat → Int) (w : Nat) : ∀ k q, zY ns R W cs told w k q = wrap64 (xZ ns R W ns.length q + rF R q cs told w k) := by
  intro k
  induction k with
  | zero =>
    intro q
    have := tabSrc_in ns R W hW ns.length q
    simp only [zY, rF, Int.add_zero]
    exact (tH (by omega) (by omega)).symm
  | succ k ih =>
    intro q
    rw [zY, rF]
    split
    · exact ih q
    · rw [tabPts_sum R _ _ q (by rw [ih q]; exact tH (zG _).1 (zG _).2), ih q, wrap_add, Int.add_assoc]
      rfl
theorem tabLog_in (ns : List Nd) (R W : Nat) (hW : W ≤ 4) (cs : List Cg) (told : Nat → Nat → Int) (w k q : Nat) : wrap64 (zY ns R W cs told w k q) = zY ns R W cs told w k q := by
  rw [rS ns R W hW]
  exact tH (zG _).1 (zG _).2
def xP (cs : List Cg) (b : Nat) : Nat → List (List Pt)
  | 0 => []
  | i + 1 => if (lX cs i).worker == (b : Int) then xP cs b i ++ [(lX cs i).pts] else xP cs b i
theorem rJ (cs : List Cg) (b k : Nat) : (xP cs b k).length = zU cs b k := by
  induction k with
  | zero => rfl
  | succ k ih => unfold xP zU; split <;> simp [ih]
theorem cgTo_app (cs : List Cg) (c : Cg) (b : Nat) : ∀ k, k ≤ cs.length → xP (cs ++ [c]) b k = xP cs b k := by
  intro k
  induction k with
  | zero => intro _; rfl
  | succ k ih => intro hk; rw [xP, xP, ih (by omega), lU (by omega)]
theorem cgTo_snoc (cs : List Cg) (c : Cg) (b : Nat) : xP (cs ++ [c]) b (cs ++ [c]).length = xP cs b cs.length ++ (if c.worker == (b : Int) then [c.pts] else []) := by
  rw [List.length_append, List.length_singleton, xP, cgTo_app cs c b _ (Nat.le_refl _), mX]
  split <;> simp
theorem cnTo_app (cs : List Cg) (c : Cg) (b : Nat) : ∀ k, k ≤ cs.length → zU (cs ++ [c]) b k = zU cs b k := by
  intro k
  induction k with
  | zero => intro _; rfl
  | succ k ih => intro hk; rw [zU, zU, ih (by omega), lU (by omega)]
theorem cnTo_snoc (cs : List Cg) (c : Cg) (b : Nat) : zU (cs ++ [c]) b (cs ++ [c]).length = zU cs b cs.length + (if c.worker == (b : Int) then 1 else 0) := by
  rw [List.length_append, List.length_singleton, zU, cnTo_app cs c b _ (Nat.le_refl _), mX]
  split <;> simp
theorem cgTo_mem {cs : List Cg} {b : Nat} : ∀ k, k ≤ cs.length → ∀ ps ∈ xP cs b k, ∃ i, i < k ∧ ps = (lX cs i).pts := by
  intro k
  induction k with
  | zero => intro _ ps h; simp [xP] at h
  | succ k ih =>
    intro hk ps h
    unfold xP at h
    split at h
    · rcases List.mem_append.1 h with h | h
      · obtain ⟨i, a, b⟩ := ih (by omega) ps h; exact ⟨i, by omega, b⟩
      · simp at h; exact ⟨k, by omega, h⟩
    · obtain ⟨i, a, b⟩ := ih (by omega) ps h; exact ⟨i, by omega, b⟩
theorem seen_cn {cs : List Cg} (b : Nat) : ∀ k, k ≤ cs.length → (∀ j, j < cs.length → ∃ m : Nat, (lX cs j).worker = m) → nB cs k b = (zU cs b k : Nat) := by
  intro k
  induction k with
  | zero => intro _ _; rfl
  | succ k ih =>
    intro hk hw
    have h1 := ih (by omega) hw
    obtain ⟨m, hm⟩ := hw k (by omega)
    rw [nB, zU, hm, Int.toNat_natCast]
    by_cases e : b = m
    · subst e; rw [pQ, if_pos (by simp), h1]; simp
    · rw [tM _ _ e, if_neg (by simp; omega), h1]
theorem lgSum_told {R q : Nat} {cs : List Cg} {told : Nat → Nat → Int} {a b t : Nat} (hab : a ≠ b) (ht : told a b = t) (hw : ∀ j, j < cs.length → ∃ m : Nat, (lX cs j).worker = m) : ∀ k, k ≤ cs.length → rF R q cs (zX told a b) a k = rF R q cs told a k + (if t < zU cs b k then ptSum R q ((xP cs b k).getD t []) else 0) := by
  intro k
  induction k with
  | zero => intro _; simp [rF, zU]
  | succ k ih =>
    intro hk
    have h1 := ih (by omega)
    obtain ⟨m, hm⟩ := hw k (by omega)
    have hseen := seen_cn (cs := cs) m (k + 1) hk hw
    have e1 : pL cs told a k = ((m != a) && decide (told a m < (zU cs m (k + 1) : Nat))) := by
      unfold pL
      rw [hm, Int.toNat_natCast, hseen]
      congr 1
      rw [Bool.eq_iff_iff]; simp; omega
    have e2 : pL cs (zX told a b) a k = ((m != a) && decide (zX told a b a m < (zU cs m (k + 1) : Nat))) := by
      unfold pL
      rw [hm, Int.toNat_natCast, hseen]
      congr 1
      rw [Bool.eq_iff_iff]; simp; omega
    rw [rF, rF, e1, e2, h1]
    by_cases e : m = b
    · subst e
      have hcn : zU cs m (k + 1) = zU cs m k + 1 := by rw [zU, if_pos (by rw [hm]; simp)]
      have hch : xP cs m (k + 1) = xP cs m k ++ [(lX cs k).pts] := by rw [xP, if_pos (by rw [hm]; simp)]
      have hln := rJ cs m k
      have hup : zX told a m a m = (t : Int) + 1 := by simp [zX, ht]
      have hne : (m != a) = true := by simp; omega
      rw [hup, ht, hne, Bool.true_and, Bool.true_and, hcn, hch]
      have d1 : decide ((t : Int) < ((zU cs m k + 1 : Nat) : Int)) = decide (t < zU cs m k + 1) := decide_eq_decide.2 ⟨fun h => by omega, fun h => by omega⟩
      have d2 : decide ((t : Int) + 1 < ((zU cs m k + 1 : Nat) : Int)) = decide (t < zU cs m k) := decide_eq_decide.2 ⟨fun h => by omega, fun h => by omega⟩
      rw [d1, d2]
      by_cases c1 : t < zU cs m k
      · have c1' : t < zU cs m k + 1 := by omega
        simp only [c1, c1', decide_true, if_true]
        congr 2
        simp [List.getD, List.getElem?_append_left (show t < (xP cs m k).length by omega)]
      · by_cases c2 : t = zU cs m k
        · have c1' : t < zU cs m k + 1 := by omega
          simp only [c1, c1', decide_true, decide_false, if_true, if_false, Bool.false_eq_true]
          have : (xP cs m k ++ [(lX cs k).pts]).getD t [] = (lX cs k).pts := by
            rw [c2, ← hln]; simp [List.getD]
          rw [this]; omega
        · have c1' : ¬ t < zU cs m k + 1 := by omega
          simp only [c1, c1', decide_false, if_false, Bool.false_eq_true]
          omega
    · have hcn : zU cs b (k + 1) = zU cs b k := by rw [zU, if_neg (by rw [hm]; simp; omega)]
      have hch : xP cs b (k + 1) = xP cs b k := by rw [xP, if_neg (by rw [hm]; simp; omega)]
      have hup : zX told a b a m = told a m := by simp [zX]; intro e9; omega
      rw [hup, hcn, hch]
      split <;> omega
theorem lgSum_other {R q : Nat} {cs : List Cg} {told : Nat → Nat → Int} {a b w : Nat} (h : w ≠ a) : ∀ k, rF R q cs (zX told a b) w k = rF R q cs told w k := by
  intro k
  induction k with
  | zero => rfl
  | succ k ih =>
    have e : pL cs (zX told a b) w k = pL cs told w k := by unfold pL zX; simp [h]
    rw [rF, rF, e, ih]
theorem tabLog_told {ns : List Nd} {R W : Nat} (hW : W ≤ 4) {cs : List Cg} {told : Nat → Nat → Int} {a b t : Nat} (hab : a ≠ b) (ht : told a b = t) (hw : ∀ j, j < cs.length → ∃ m : Nat, (lX cs j).worker = m) (hlt : t < zU cs b cs.length) (q : Nat) : zY ns R W cs (zX told a b) a cs.length q = kS R (zY ns R W cs told a cs.length) ((xP cs b cs.length).getD t []) ((xP cs b cs.length).getD t []).length q := by
  rw [tabPts_sum R _ _ q (tabLog_in ns R W hW cs told a cs.length q), rS ns R W hW, rS ns R W hW, wrap_add, lgSum_told hab ht hw _ (Nat.le_refl _), if_pos hlt, Int.add_assoc]
  rfl
theorem tabLog_untold {ns : List Nd} {R W : Nat} (hW : W ≤ 4) {cs : List Cg} {told : Nat → Nat → Int} {a b w : Nat} (h : w ≠ a) (q : Nat) : zY ns R W cs (zX told a b) w cs.length q = zY ns R W cs told w cs.length q := by
  rw [rS ns R W hW, rS ns R W hW, lgSum_other h]
theorem bC {l : List Ev} {y : Ev} {i : Nat} (hi : i < l.length) : uV (l ++ [y]) i = uV l i := mR hi
theorem fV (l : List Ev) (y : Ev) : uV (l ++ [y]) l.length = y := by simp [uV, List.getD]
def acM (y : Ev) (w n e s : Int) : Bool := (y.worker == w) && ((y.node == n) && ((y.epoch == e) && (y.round == s)))
theorem acTo_app (evs : List Ev) (y : Ev) (w n e s : Int) : ∀ k, k ≤ evs.length → jR (evs ++ [y]) w n e s k = jR evs w n e s k := by
  intro k
  induction k with
  | zero => intro _; rfl
  | succ k ih =>
    intro hk
    rw [jR, jR, ih (by omega)]
    unfold acB
    rw [bC (by omega)]
theorem tF (evs : List Ev) (y : Ev) (w n e s : Int) : jR (evs ++ [y]) w n e s (evs ++ [y]).length = if acM y w n e s then (if y.kind == 1 then jR evs w n e s evs.length ++ [y.value] else if y.kind == 2 then [] else jR evs w n e s evs.length) else jR evs w n e s evs.length := by
  rw [List.length_append, List.length_singleton, jR, acTo_app evs y w n e s _ (Nat.le_refl _)]
  unfold acB
  rw [fV]
  rfl
def meM (y x : Ev) : Bool := (y.kind == 1) && ((y.worker == x.worker) && ((y.node == x.node) && ((y.epoch == x.epoch) && ((y.round == x.round) && (y.value == x.value)))))
theorem meTo_app (evs : List Ev) (y x : Ev) : ∀ k, k ≤ evs.length → pH (evs ++ [y]) x k = pH evs x k := by
  intro k
  induction k with
  | zero => intro _; rfl
  | succ k ih =>
    intro hk
    rw [pH, pH, ih (by omega)]
    unfold meB
    rw [bC (by omega)]
theorem cT (evs : List Ev) (y x : Ev) : pH (evs ++ [y]) x (evs ++ [y]).length = (pH evs x evs.length || meM y x) := by
  rw [List.length_append, List.length_singleton, pH, meTo_app evs y x _ (Nat.le_refl _)]
  unfold meB
  rw [fV]
  rfl
theorem meTo_same (evs : List Ev) (x x' : Ev) (h : x.worker = x'.worker ∧ x.node = x'.node ∧ x.epoch = x'.epoch ∧ x.round = x'.round ∧ x.value = x'.value) : ∀ k, pH evs x k = pH evs x' k := by
  intro k
  induction k with
  | zero => rfl
  | succ k ih =>
    rw [pH, pH, ih]
    unfold meB
    rw [h.1, h.2.1, h.2.2.1, h.2.2.2.1, h.2.2.2.2]
theorem ouTo_app (ns : List Nd) (evs : List Ev) (y : Ev) : ∀ k, k ≤ evs.length → mK ns (evs ++ [y]) k = mK ns evs k := by
  intro k
  induction k with
  | zero => intro _; rfl
  | succ k ih =>
    intro hk
    rw [mK, mK, ih (by omega)]
    unfold ouB
    rw [bC (by omega)]
theorem pF (ns : List Nd) (evs : List Ev) (y : Ev) : mK ns (evs ++ [y]) (evs ++ [y]).length = mK ns evs evs.length ++ (if (y.kind == 1) && ((qV ns y.node.toNat).kind == 7) then [rcOf y] else []) := by
  rw [List.length_append, List.length_singleton, mK, ouTo_app ns evs y _ (Nat.le_refl _)]
  unfold ouB
  rw [fV]
  split <;> simp
theorem rC {xs : List Int} {v : Int} {k : Nat} (h : k < xs.length) : jQ (xs ++ [v]) k = jQ xs k := by simp [jQ, List.getD, List.getElem?_append_left h]
theorem uG (xs : List Int) (v : Int) : jQ (xs ++ [v]) xs.length = v := by simp [jQ, List.getD]
theorem gsum_app (xs : List Int) (v q : Int) (g : Nat) : ∀ k, k ≤ xs.length → gsumTo (xs ++ [v]) q g k = gsumTo xs q g k ∧ kF (xs ++ [v]) q g k = kF xs q g k := by
  intro k
  induction k with
  | zero => intro _; exact ⟨rfl, rfl⟩
  | succ k ih =>
    intro hk
    obtain ⟨h1, h2⟩ := ih (by omega)
    rw [gsumTo, gsumTo, kF, kF, h1, h2, rC (by omega)]
    exact ⟨rfl, rfl⟩
theorem gsum_snoc (xs : List Int) (v q : Int) (g : Nat) : gsumTo (xs ++ [v]) q g (xs ++ [v]).length = (if v % q == g then wrap64 (gsumTo xs q g xs.length + v) else gsumTo xs q g xs.length) ∧ kF (xs ++ [v]) q g (xs ++ [v]).length = (if v % q == g then true else kF xs q g xs.length) := by
  obtain ⟨h1, h2⟩ := gsum_app xs v q g xs.length (Nat.le_refl _)
  rw [List.length_append, List.length_singleton, gsumTo, kF, h1, h2, uG]
  exact ⟨rfl, rfl⟩
theorem gG {ms : List Ml} {w n : Int} : ∀ k i, i < (kR ms w n k).length → ∃ z, z < k ∧ jQ (kR ms w n k) i = (z : Int) ∧ yX ms w n z = true ∧ (kR ms w n z).length = i := by
  intro k
  induction k with
  | zero => intro i hi; simp [kR] at hi
  | succ k ih =>
    intro i hi
    by_cases hb : yX ms w n k = true
    · rw [waitTo_yes hb] at hi ⊢
      by_cases h1 : i < (kR ms w n k).length
      · obtain ⟨z, a, b, c, d⟩ := ih i h1
        exact ⟨z, by omega, by rw [rC h1]; exact b, c, d⟩
      · have : i = (kR ms w n k).length := by simp at hi; omega
        subst this
        exact ⟨k, by omega, uG _ _, hb, rfl⟩
    · rw [waitTo_no (by simpa using hb)] at hi ⊢
      obtain ⟨z, a, b, c, d⟩ := ih i hi
      exact ⟨z, by omega, b, c, d⟩
theorem mH {ms : List Ml} {z j : Nat} (hz : z < ms.length) : rM (zF ms z) j = if j = z then { rM ms z with gone := true } else rM ms j := by
  unfold zF rM List.getD
  rw [List.getElem?_set]
  by_cases e : j = z
  · subst e; simp [hz]
  · rw [if_neg e, if_neg (fun h => e h.symm)]
theorem nF {ms : List Ml} {z j : Nat} {w n : Int} (hz : z < ms.length) : yX (zF ms z) w n j = (!decide (j = z) && yX ms w n j) := by
  unfold yX
  rw [mH hz]
  by_cases e : j = z
  · rw [if_pos e]; simp [e]
  · rw [if_neg e]; simp [e]
theorem wL_len (ms : List Ml) (w n : Int) (k : Nat) : (wL ms w n k).length = (kR ms w n k).length := by rw [← wL_eq, List.length_map]
theorem wL_goneA {ms : List Ml} {z : Nat} {w n : Int} (hz : z < ms.length) : ∀ k, k ≤ z → wL (zF ms z) w n k = wL ms w n k := by
  intro k
  induction k with
  | zero => intro _; rfl
  | succ k ih =>
    intro hk
    have e : ¬ k = z := by omega
    rw [wL, wL, nF hz, mH hz, ih (by omega)]
    simp [e]
theorem bS {ms : List Ml} {z : Nat} {w n : Int} (hb : yX ms w n z = true) : ∀ d, (kR ms w n z).length < (kR ms w n (z + 1 + d)).length := by
  intro d
  induction d with
  | zero => rw [Nat.add_zero, waitTo_yes hb]; simp
  | succ d ih2 =>
    have : (kR ms w n (z + 1 + d)).length ≤ (kR ms w n (z + 1 + d + 1)).length := by
      conv => rhs; rw [kR]
      split <;> simp
    rw [← Nat.add_assoc]; omega
theorem wL_goneS {ms : List Ml} {z : Nat} {w n : Int} (hz : z < ms.length) (hb : yX ms w n z = true) : ∀ d, wL (zF ms z) w n (z + 1 + d) = (wL ms w n (z + 1 + d)).eraseIdx (kR ms w n z).length := by
  intro d
  induction d with
  | zero =>
    have e1 : wL (zF ms z) w n (z + 1) = wL (zF ms z) w n z := by rw [wL, nF hz]; simp
    have e2 : wL ms w n (z + 1) = wL ms w n z ++ [gZ (rM ms z)] := by rw [wL, if_pos hb]
    rw [Nat.add_zero, e1, e2, wL_goneA hz z (Nat.le_refl _), List.eraseIdx_append_of_length_le (by rw [wL_len]; omega), wL_len]
    simp
  | succ d ih =>
    have e : ¬ z + 1 + d = z := by omega
    rw [← Nat.add_assoc, wL, nF hz, mH hz, ih, if_neg e]
    have e2 : wL ms w n (z + 1 + d + 1) = if yX ms w n (z + 1 + d) then wL ms w n (z + 1 + d) ++ [gZ (rM ms (z + 1 + d))] else wL ms w n (z + 1 + d) := by rw [wL]
    rw [e2]
    cases hq : yX ms w n (z + 1 + d) with
    | false => simp
    | true =>
      have h3 := bS hb d
      simp only [e, decide_false, Bool.not_false, Bool.and_true, if_true]
      rw [List.eraseIdx_append_of_lt_length (by rw [wL_len]; exact h3)]
theorem wL_goneO {ms : List Ml} {z : Nat} {w n : Int} (hz : z < ms.length) (hb : yX ms w n z = false) : ∀ k, wL (zF ms z) w n k = wL ms w n k := by
  intro k
  induction k with
  | zero => rfl
  | succ k ih =>
    rw [wL, wL, nF hz, mH hz, ih]
    by_cases e : k = z
    · subst e; simp [hb]
    · simp [e]
theorem waitL_gone {ms : List Ml} {a n i z : Nat} (hi : i < (kR ms a n ms.length).length) (hz : jQ (kR ms a n ms.length) i = (z : Int)) (b m : Nat) : vC (zF ms z) b m = if b = a ∧ m = n then (vC ms a n).eraseIdx i else vC ms b m := by
  obtain ⟨z', h1, h2, h3, h4⟩ := gG ms.length i hi
  have e : z = z' := by rw [h2] at hz; omega
  subst e
  rw [lZ, lZ, lZ, gR]
  split
  · rename_i h
    obtain ⟨rfl, rfl⟩ := h
    have := wL_goneS h1 h3 (ms.length - z - 1)
    rw [show z + 1 + (ms.length - z - 1) = ms.length by omega, h4] at this
    exact this
  · rename_i h
    refine wL_goneO h1 ?_ _
    unfold yX at h3 ⊢
    simp only [Bool.and_eq_true, beq_iff_eq, Bool.not_eq_true'] at h3
    rw [h3.1.2, h3.2]
    rw [Bool.eq_false_iff]
    intro h5
    simp at h5
    exact h ⟨by omega, by omega⟩
structure Sim (ns : List Nd) (W : Nat) (p : PSt) (st : RSt) : Prop where
  ep : ∀ i n : Nat, p.ep i n = (kQ st.opened i n 2 st.opened.length : Nat)
  cl : ∀ i n : Nat, p.cl i n = decide (0 < kQ st.opened i n 3 st.opened.length)
  wt : ∀ i n : Nat, p.wt i n = vC st.mails i n
  lb : ∀ i n : Nat, (qV ns n).kind = 5 → ∀ y : Gv, tZ (p.lb i n) y (p.lb i n).length = pH st.evs ⟨1, i, n, 0, y.node, y.epoch, y.value⟩ st.evs.length
  lbn : ∀ i n, (p.lb i n).length ≤ st.evs.length
  wn : ∀ i n e s : Nat, e < 6 → s < 4 → p.tl i n (e * 4 + s) = .bool ((qV ns n).kind == 6 && !((jR st.evs i n e s st.evs.length).length == 0))
  gs : ∀ i n e s g : Nat, (qV ns n).kind = 6 → e < 6 → s < 4 → g < 8 → p.tl i n (24 + e * 64 + s * 16 + g) = .int .i64 (gsumTo (jR st.evs i n e s st.evs.length) (qV ns n).k g (jR st.evs i n e s st.evs.length).length) ∧ p.tl i n (24 + e * 64 + s * 16 + 8 + g) = .bool (kF (jR st.evs i n e s st.evs.length) (qV ns n).k g (jR st.evs i n e s st.evs.length).length)
  tb : ∀ i, i < W → p.tb i = zY ns 4 W st.log st.told i st.log.length
  wy : ∀ i j, p.wy i j = if i < W ∧ j < W ∧ i ≠ j then (xP st.log j st.log.length).drop (st.told i j).toNat else []
  gv : p.gv = (jH st.opened st.opened.length : Nat)
  rc : p.rc = mK ns st.evs st.evs.length
structure Inv (ns : List Nd) (R W : Nat) (st : RSt) (k : Nat) : Prop where
  op : st.opened.length ≤ k
  lg : st.log.length ≤ k
  ev : st.evs.length ≤ k
  gv : jH st.opened st.opened.length ≤ 20
  ml : st.mails.length ≤ 64 * k
  ep : ∀ i n : Nat, kQ st.opened i n 2 st.opened.length ≤ 5
  cg : ∀ i, i < st.log.length → CgOk ns.length R W (lX st.log i) ∧ (lX st.log i).pts.length ≤ 100
  mo : ∀ i, i < st.mails.length → ∃ a n e s : Nat, (rM st.mails i).worker = a ∧ a < W ∧ (rM st.mails i).node = n ∧ n < ns.length ∧ (qV ns n).kind ≠ 0 ∧ (rM st.mails i).epoch = e ∧ e < 6 ∧ (rM st.mails i).round = s ∧ s < R ∧ -9223372036854775808 ≤ (rM st.mails i).value ∧ (rM st.mails i).value ≤ 9223372036854775807
  eo : ∀ i, i < st.evs.length → (∃ n : Nat, (uV st.evs i).node = n ∧ n < ns.length) ∧ ∃ s : Nat, (uV st.evs i).round = s ∧ s < R
  tl : ∀ a b, a < W → b < W → ∃ t : Nat, st.told a b = t ∧ t ≤ zU st.log b st.log.length
theorem Inv.zero (ns : List Nd) (R W : Nat) : Inv ns R W rst0 0 :=
  ⟨by simp [rst0], by simp [rst0], by simp [rst0], by simp [rst0, jH], by simp [rst0], fun _ _ => by simp [rst0, kQ], fun i hi => by simp [rst0] at hi, fun i hi => by simp [rst0] at hi, fun i hi => by simp [rst0] at hi, fun _ _ _ _ => ⟨0, rfl, Nat.zero_le _⟩⟩
theorem Inv.more {ns : List Nd} {R W : Nat} {st : RSt} {k : Nat} (h : Inv ns R W st k) : Inv ns R W st (k + 1) :=
  ⟨Nat.le_succ_of_le h.op, Nat.le_succ_of_le h.lg, Nat.le_succ_of_le h.ev, h.gv, by have := h.ml; omega, h.ep, h.cg, h.mo, h.eo, h.tl⟩
theorem Inv.wk {ns : List Nd} {R W : Nat} {st : RSt} {k : Nat} (h : Inv ns R W st k) : ∀ j, j < st.log.length → ∃ m : Nat, (lX st.log j).worker = m := fun j hj => by
  obtain ⟨m, e, _⟩ := (h.cg j hj).1.1
  exact ⟨m, e⟩
theorem rY {ns : List Nd} {W : Nat} {p : PSt} {st : RSt} (h : Sim ns W p st) (w n : Int) : jM ns W p.cl w n = yL ns W st.opened w n := by
  unfold jM yL
  by_cases h1 : xG W w = true
  · obtain ⟨i, rfl, hi⟩ := isWk_iff.1 h1
    by_cases h2 : kN ns.length n = true
    · obtain ⟨b1, b2⟩ := isNodeB_iff.1 h2
      obtain ⟨m, rfl⟩ := Int.eq_ofNat_of_zero_le b1
      have h3 : mD ns.length W (i : Int) (m : Int) = true := placeB_iff.2 ⟨⟨by omega, by omega⟩, b1, b2⟩
      rw [h1, h2, h3]
      cases hk : ((qV ns (m : Int).toNat).kind == 0) <;> simp [h.cl]
    · have h3 : mD ns.length W (i : Int) n = false := placeB_no fun h => h2 (isNodeB_iff.2 h.2)
      have h2' : kN ns.length n = false := by simpa using h2
      rw [h1, h2', h3]; rfl
  · have h3 : mD ns.length W w n = false := placeB_no fun h => h1 (isWk_iff.2 ⟨w.toNat, by omega, by omega⟩)
    have h1' : xG W w = false := by simpa using h1
    rw [h1', h3]; rfl
theorem cP {ns : List Nd} {W : Nat} {p : PSt} {st : RSt} (h : Sim ns W p st) (w n : Int) : yP ns W p w n = giveE ns W st.opened w n := by
  unfold yP giveE
  rw [rY h]
  have : decide (20 ≤ p.gv) = decide (20 ≤ jH st.opened st.opened.length) := by
    rw [h.gv]
    exact decide_eq_decide.2 ⟨fun h => by omega, fun h => by omega⟩
  rw [this]
theorem padvE_eq {ns : List Nd} {W : Nat} {p : PSt} {st : RSt} (h : Sim ns W p st) (w n : Int) : wR ns W p w n = advE ns W st.opened w n := by
  unfold wR advE
  rw [rY h]
  by_cases h0 : (yL ns W st.opened w n != 0) = true
  · rw [if_pos h0, if_pos h0]
  · rw [if_neg h0, if_neg h0]
    have h1 : jM ns W p.cl w n = 0 := by rw [rY h]; simpa using h0
    obtain ⟨i, m, rfl, rfl, _, _⟩ := rX h1
    have : decide (5 ≤ p.ep (i : Int).toNat (m : Int).toNat) = decide (5 ≤ kQ st.opened (i : Int) (m : Int) 2 st.opened.length) := by
      simp only [h.ep, Int.toNat_natCast]
      exact decide_eq_decide.2 ⟨fun h => by omega, fun h => by omega⟩
    rw [this]
theorem Sim.change {ns : List Nd} {R W : Nat} {p p1 : PSt} {st st1 : RSt} {k i : Nat} {q : List Pt} (h : Sim ns W p st) (hi : Inv ns R W st k) (hiW : i < W) (hp : p1.tb = pW p.tb i (kS 4 (p.tb i) q q.length) ∧ p1.wy = jP p.wy i q W) (hs : st1.log = st.log ++ [⟨i, q⟩] ∧ st1.told = st.told) :
    (∀ a, a < W → p1.tb a = zY ns 4 W st1.log st1.told a st1.log.length) ∧ ∀ a b, p1.wy a b = if a < W ∧ b < W ∧ a ≠ b then (xP st1.log b st1.log.length).drop (st1.told a b).toNat else [] := by
  refine ⟨fun a ha => ?_, fun a b => ?_⟩
  · rw [hp.1, hs.1, hs.2, tabLog_snoc ns 4 W st.log ⟨i, q⟩ st.told a i rfl (fun _ => by
      obtain ⟨t, e, ht⟩ := hi.tl a i ha hiW
      rw [e, seen_cn i _ (Nat.le_refl _) hi.wk]
      omega)]
    unfold pW
    split
    · rename_i e; subst e; rw [h.tb a ha]
    · exact h.tb a ha
  · rw [hp.2, hs.1, hs.2, cgTo_snoc]
    unfold jP
    rw [h.wy a b]
    by_cases e : a < W ∧ b < W ∧ a ≠ b
    · rw [if_pos e, if_pos e]
      obtain ⟨t, et, ht⟩ := hi.tl a b e.1 e.2.1
      by_cases e2 : b = i
      · subst e2
        rw [if_pos ⟨rfl, e.1, e.2.2⟩, if_pos (by simp), List.drop_append_of_le_length (by rw [rJ, et]; simpa using ht)]
      · rw [if_neg (fun h => e2 h.1), if_neg (by simp; omega), List.append_nil]
    · rw [if_neg e, if_neg e, if_neg (fun h => e ⟨h.2.1, by omega, by omega⟩)]
theorem gS {ns : List Nd} {W : Nat} {op : List Gv} {w n : Int} (hE : giveE ns W op w n = 0) : yL ns W op w n = 0 ∧ jH op op.length < 20 := by
  unfold giveE at hE
  split at hE
  · rename_i h; simp at h; exact absurd hE h
  · rename_i h
    split at hE
    · cases hE
    · rename_i h2; exact ⟨by simpa using h, by simpa using h2⟩
theorem dF {ns : List Nd} {W : Nat} {op : List Gv} {w n : Int} (hE : advE ns W op w n = 0) : yL ns W op w n = 0 ∧ kQ op w n 2 op.length < 5 := by
  unfold advE at hE
  split at hE
  · rename_i h; simp at h; exact absurd hE h
  · rename_i h
    split at hE
    · cases hE
    · rename_i h2; exact ⟨by simpa using h, by simpa using h2⟩
theorem Sim.at {ns : List Nd} {W : Nat} {p : PSt} {st : RSt} (h : Sim ns W p st) {w n : Int} (h0 : yL ns W st.opened w n = 0) : ∃ i m : Nat, w = i ∧ n = m ∧ i < W ∧ m < ns.length := rX (cl := p.cl) (by rw [rY h]; exact h0)
theorem Sim.gave {ns : List Nd} {R W : Nat} {p : PSt} {st : RSt} {k : Nat} (h : Sim ns W p st) (hi : Inv ns R W st k) (wk n v : Int) : Sim ns W (jC ns W p wk n v) (pR ns W st wk n v) := by
  by_cases hE : giveE ns W st.opened wk n = 0
  · obtain ⟨i, m, rfl, rfl, hiW, hm⟩ := h.at (gS hE).1
    have e1 : jC ns W p i m v = yV ns W p i m v := by unfold jC; rw [cP h, hE]; rfl
    have e2 : pR ns W st i m v = yT ns W st i m v (kQ st.opened i m 2 st.opened.length) := by unfold pR; rw [hE]; rfl
    rw [e1, e2]
    have hwt : p.wt = fun (a b : Nat) => vC st.mails a b := by funext a b; exact h.wt a b
    obtain ⟨c1, c2⟩ := h.change hi hiW (p1 := yV ns W p i m v) (st1 := yT ns W st i m v (kQ st.opened i m 2 st.opened.length)) (q := jW ns m ⟨(kQ st.opened i m 2 st.opened.length : Nat), 0, v⟩ ns.length) ⟨by simp only [yV, h.ep], by simp only [yV, h.ep]⟩ ⟨rfl, rfl⟩
    refine ⟨fun a b => ?_, fun a b => ?_, fun a b => ?_, h.lb, h.lbn, h.wn, h.gs, c1, c2, ?_, h.rc⟩
    · simp only [yV, yT, h.ep]; rw [jY]; simp
    · refine (h.cl a b).trans (decide_eq_decide.2 ?_)
      simp only [yT]; rw [jY]; simp
    · simp only [yV, yT, h.ep]
      rw [cB ns W i hiW m _ st.mails ns.length a b, hwt]
    · simp only [yV, yT, h.gv]; rw [vV]; simp
  · have e1 : jC ns W p wk n v = p := by unfold jC; rw [cP h, if_neg (by simpa using hE)]
    have e2 : pR ns W st wk n v = st := by unfold pR; rw [if_neg (by simpa using hE)]
    rw [e1, e2]; exact h
theorem ne_of {a i b m : Nat} (e : ¬ (a = i ∧ b = m)) (x y : Int) : ((i : Int) == (a : Int) && ((m : Int) == (b : Int)) && (x == y)) = false := by
  rw [Bool.eq_false_iff]; intro h; simp at h; omega
theorem Sim.advanced {ns : List Nd} {R W : Nat} {p : PSt} {st : RSt} {k : Nat} (h : Sim ns W p st) (hi : Inv ns R W st k) (wk n : Int) : Sim ns W (yZ ns W p wk n) (dD ns W st wk n) := by
  by_cases hE : advE ns W st.opened wk n = 0
  · obtain ⟨i, m, rfl, rfl, hiW, hm⟩ := h.at (dF hE).1
    have e1 : yZ ns W p i m = uR W p i m := by unfold yZ; rw [padvE_eq h, hE]; rfl
    have e2 : dD ns W st i m = tB st i m (kQ st.opened i m 2 st.opened.length) := by unfold dD; rw [hE]; rfl
    rw [e1, e2]
    obtain ⟨c1, c2⟩ := h.change hi hiW (p1 := uR W p i m) (st1 := tB st i m (kQ st.opened i m 2 st.opened.length)) (q := [⟨m, true, (kQ st.opened i m 2 st.opened.length : Nat), 0, -1⟩, ⟨m, true, (kQ st.opened i m 2 st.opened.length : Nat) + 1, 0, 1⟩]) ⟨by simp only [uR, h.ep]; rfl, by simp only [uR, h.ep]⟩ ⟨rfl, rfl⟩
    refine ⟨fun a b => ?_, fun a b => ?_, h.wt, h.lb, h.lbn, h.wn, h.gs, c1, c2, ?_, h.rc⟩
    · simp only [uR, tB]
      rw [jY]
      unfold kY
      by_cases e : a = i ∧ b = m
      · obtain ⟨rfl, rfl⟩ := e; simp [h.ep]
      · rw [if_neg e, h.ep, ne_of e]; simp
    · refine (h.cl a b).trans (decide_eq_decide.2 ?_)
      simp only [tB]; rw [jY]; simp
    · simp only [uR, tB, h.gv]; rw [vV]; simp
  · have e1 : yZ ns W p wk n = p := by unfold yZ; rw [padvE_eq h, if_neg (by simpa using hE)]
    have e2 : dD ns W st wk n = st := by unfold dD; rw [if_neg (by simpa using hE)]
    rw [e1, e2]; exact h
theorem Sim.closed {ns : List Nd} {R W : Nat} {p : PSt} {st : RSt} {k : Nat} (h : Sim ns W p st) (hi : Inv ns R W st k) (wk n : Int) : Sim ns W (yD ns W p wk n) (cJ ns W st wk n) := by
  by_cases hE : yL ns W st.opened wk n = 0
  · obtain ⟨i, m, rfl, rfl, hiW, hm⟩ := h.at hE
    have e1 : yD ns W p i m = xC W p i m := by unfold yD; rw [rY h, hE]; rfl
    have e2 : cJ ns W st i m = tW st i m (kQ st.opened i m 2 st.opened.length) := by unfold cJ; rw [hE]; rfl
    rw [e1, e2]
    obtain ⟨c1, c2⟩ := h.change hi hiW (p1 := xC W p i m) (st1 := tW st i m (kQ st.opened i m 2 st.opened.length)) (q := [⟨m, true, (kQ st.opened i m 2 st.opened.length : Nat), 0, -1⟩]) ⟨by simp only [xC, h.ep]; rfl, by simp only [xC, h.ep]⟩ ⟨rfl, rfl⟩
    refine ⟨fun a b => ?_, fun a b => ?_, h.wt, h.lb, h.lbn, h.wn, h.gs, c1, c2, ?_, h.rc⟩
    · simp only [xC, tW, h.ep]; rw [jY]; simp
    · have hd := jY st.opened ⟨(m : Int), (i : Int), 3⟩ a b 3
      simp only [xC]
      unfold kY
      by_cases e : a = i ∧ b = m
      · obtain ⟨rfl, rfl⟩ := e
        rw [if_pos ⟨rfl, rfl⟩]
        refine (decide_eq_true ?_).symm
        simp only [tW]
        rw [hd]; simp
      · rw [if_neg e]
        refine (h.cl a b).trans (decide_eq_decide.2 ?_)
        simp only [tW]
        rw [hd, ne_of e]; simp
    · simp only [xC, tW, h.gv]; rw [vV]; simp
  · have e1 : yD ns W p wk n = p := by unfold yD; rw [rY h, if_neg (by simpa using hE)]
    have e2 : cJ ns W st wk n = st := by unfold cJ; rw [if_neg (by simpa using hE)]
    rw [e1, e2]; exact h
theorem gB {ns : List Nd} {R W : Nat} {cs : List Cg} {c : Cg} (h : ∀ i, i < cs.length → CgOk ns.length R W (lX cs i) ∧ (lX cs i).pts.length ≤ 100) (hc : CgOk ns.length R W c ∧ c.pts.length ≤ 100) : ∀ i, i < (cs ++ [c]).length → CgOk ns.length R W (lX (cs ++ [c]) i) ∧ (lX (cs ++ [c]) i).pts.length ≤ 100 := by
  intro i hi
  by_cases h1 : i < cs.length
  · rw [lU h1]; exact h i h1
  · have : i = cs.length := by simp at hi; omega
    subst this
    rw [mX]; exact hc
theorem dT {cs : List Cg} {c : Cg} {W : Nat} {told : Nat → Nat → Int} (h : ∀ a b, a < W → b < W → ∃ t : Nat, told a b = t ∧ t ≤ zU cs b cs.length) : ∀ a b, a < W → b < W → ∃ t : Nat, told a b = t ∧ t ≤ zU (cs ++ [c]) b (cs ++ [c]).length := by
  intro a b ha hb
  obtain ⟨t, e, ht⟩ := h a b ha hb
  exact ⟨t, e, by rw [cnTo_snoc]; omega⟩
def MlOk (ns : List Nd) (R W : Nat) (x : Ml) : Prop := ∃ a n e s : Nat, x.worker = a ∧ a < W ∧ x.node = n ∧ n < ns.length ∧ (qV ns n).kind ≠ 0 ∧ x.epoch = e ∧ e < 6 ∧ x.round = s ∧ s < R ∧ -9223372036854775808 ≤ x.value ∧ x.value ≤ 9223372036854775807
theorem putM_ok {ns : List Nd} {R W i : Nat} {n : Int} {m : Gv} {e s : Nat} (hi : i < W) (he : m.node = e) (h6 : e < 6) (hs : m.epoch = s) (hR : s < R) (hv1 : -9223372036854775808 ≤ m.value) (hv2 : m.value ≤ 9223372036854775807) : ∀ k, k ≤ ns.length → ∀ x ∈ tN ns W i n m k, MlOk ns R W x := by
  intro k
  induction k with
  | zero => intro _ x hx; simp [tN] at hx
  | succ k ih =>
    intro hk x hx
    unfold tN at hx
    split at hx
    · rename_i ht
      rcases List.mem_append.1 hx with h | h
      · exact ih (by omega) x h
      · simp at h
        obtain ⟨h0, h1⟩ := atI_lt (ns := ns) (k := k) (v := m.value) hi
        obtain ⟨t, htt⟩ := Int.eq_ofNat_of_zero_le h0
        subst h
        refine ⟨t, k, e, s, htt, by omega, rfl, by omega, ?_, he, h6, hs, hR, hv1, hv2⟩
        intro hk0
        unfold qH at ht
        rw [hk0] at ht
        simp at ht
    · exact ih (by omega) x hx
theorem mln_mem {l : List Ml} {j : Nat} (h : j < l.length) : rM l j ∈ l := by
  unfold rM List.getD
  rw [List.getElem?_eq_getElem h]
  exact List.getElem_mem h
theorem mo_app {ns : List Nd} {R W : Nat} {ms l : List Ml} (h : ∀ i, i < ms.length → MlOk ns R W (rM ms i)) (hl : ∀ x ∈ l, MlOk ns R W x) : ∀ i, i < (ms ++ l).length → MlOk ns R W (rM (ms ++ l) i) := by
  intro i hi
  rcases List.mem_append.1 (mln_mem hi) with h1 | h1
  · obtain ⟨j, hj, e⟩ := List.getElem_of_mem h1
    rw [← e]
    have := h j hj
    rw [show rM ms j = ms[j] by simp [rM, List.getD, List.getElem?_eq_getElem hj]] at this
    exact this
  · exact hl _ h1
theorem Inv.gave {ns : List Nd} {R W : Nat} {p : PSt} {st : RSt} {k : Nat} (h : Inv ns R W st k) (hs : Sim ns W p st) (h8 : ns.length ≤ 8) (hR : 1 ≤ R) (w n v : Int) (hv1 : -9223372036854775808 ≤ v) (hv2 : v ≤ 9223372036854775807) : Inv ns R W (pR ns W st w n v) (k + 1) := by
  by_cases hE : giveE ns W st.opened w n = 0
  · have h20 := (gS hE).2
    obtain ⟨i, m, rfl, rfl, hi, hm⟩ := hs.at (gS hE).1
    have e2 : pR ns W st i m v = yT ns W st i m v (kQ st.opened i m 2 st.opened.length) := by unfold pR; rw [hE]; rfl
    rw [e2]
    have hep := h.ep i m
    have hg : jH (st.opened ++ [(⟨m, i, 1⟩ : Gv)]) (st.opened ++ [(⟨m, i, 1⟩ : Gv)]).length = jH st.opened st.opened.length + 1 := by rw [vV]; rfl
    have hpm := putM_len ns W i m ⟨(kQ st.opened i m 2 st.opened.length : Nat), 0, v⟩ ns.length
    have hpp := wN ns m ⟨(kQ st.opened i m 2 st.opened.length : Nat), 0, v⟩ ns.length
    have hop := h.op
    have hlg := h.lg
    have hml := h.ml
    have hev := h.ev
    refine ⟨by simp [yT]; omega, by simp [yT]; omega, by simp [yT]; omega, ?_, ?_, fun a b => ?_, gB h.cg ⟨⟨⟨i, rfl, hi⟩, fun j hj => ?_⟩, ?_⟩, mo_app h.mo (putM_ok (s := 0) hi rfl (by omega) rfl (by omega) hv1 hv2 _ (Nat.le_refl _)), h.eo, dT h.tl⟩
    · simp only [yT]; rw [hg]; omega
    · simp only [yT]; rw [List.length_append]; omega
    · simp only [yT]
      rw [jY]
      have := h.ep a b
      simp
      exact this
    · exact putP_okG (s := 0) (Nat.le_refl _) rfl (by omega) rfl (by omega) _ (Nat.le_refl _) _ (tP hj)
    · simp only; omega
  · have e2 : pR ns W st w n v = st := by unfold pR; rw [if_neg (by simpa using hE)]
    rw [e2]; exact h.more
theorem Inv.advanced {ns : List Nd} {R W : Nat} {p : PSt} {st : RSt} {k : Nat} (h : Inv ns R W st k) (hs : Sim ns W p st) (hR : 1 ≤ R) (w n : Int) : Inv ns R W (dD ns W st w n) (k + 1) := by
  by_cases hE : advE ns W st.opened w n = 0
  · have h5 := (dF hE).2
    obtain ⟨i, m, rfl, rfl, hi, hm⟩ := hs.at (dF hE).1
    have e2 : dD ns W st i m = tB st i m (kQ st.opened i m 2 st.opened.length) := by unfold dD; rw [hE]; rfl
    rw [e2]
    have hop := h.op
    have hlg := h.lg
    have hml := h.ml
    have hev := h.ev
    have hg : jH (st.opened ++ [(⟨m, i, 2⟩ : Gv)]) (st.opened ++ [(⟨m, i, 2⟩ : Gv)]).length = jH st.opened st.opened.length := by rw [vV]; rfl
    refine ⟨by simp [tB]; omega, by simp [tB]; omega, by simp [tB]; omega, ?_, by simp [tB]; omega, fun a b => ?_, gB h.cg ⟨⟨⟨i, rfl, hi⟩, fun j hj => ?_⟩, by simp⟩, h.mo, h.eo, dT h.tl⟩
    · simp only [tB]; rw [hg]; exact h.gv
    · simp only [tB]
      rw [jY]
      have h1 := h.ep a b
      by_cases e : a = i ∧ b = m
      · obtain ⟨rfl, rfl⟩ := e; simp; omega
      · rw [ne_of e]; simpa using h1
    · simp only [List.length_cons, List.length_nil] at hj
      match j, hj with
      | 0, _ => exact ⟨m, kQ st.opened i m 2 st.opened.length, 0, rfl, hm, rfl, by omega, rfl, by omega⟩
      | 1, _ => exact ⟨m, kQ st.opened i m 2 st.opened.length + 1, 0, rfl, hm, by simp [vU], by omega, rfl, by omega⟩
  · have e2 : dD ns W st w n = st := by unfold dD; rw [if_neg (by simpa using hE)]
    rw [e2]; exact h.more
theorem Inv.closed {ns : List Nd} {R W : Nat} {p : PSt} {st : RSt} {k : Nat} (h : Inv ns R W st k) (hs : Sim ns W p st) (hR : 1 ≤ R) (w n : Int) : Inv ns R W (cJ ns W st w n) (k + 1) := by
  by_cases hE : yL ns W st.opened w n = 0
  · obtain ⟨i, m, rfl, rfl, hi, hm⟩ := hs.at hE
    have e2 : cJ ns W st i m = tW st i m (kQ st.opened i m 2 st.opened.length) := by unfold cJ; rw [hE]; rfl
    rw [e2]
    have hop := h.op
    have hlg := h.lg
    have hml := h.ml
    have hev := h.ev
    have hep := h.ep i m
    have hg : jH (st.opened ++ [(⟨m, i, 3⟩ : Gv)]) (st.opened ++ [(⟨m, i, 3⟩ : Gv)]).length = jH st.opened st.opened.length := by rw [vV]; rfl
    refine ⟨by simp [tW]; omega, by simp [tW]; omega, by simp [tW]; omega, ?_, by simp [tW]; omega, fun a b => ?_, gB h.cg ⟨⟨⟨i, rfl, hi⟩, fun j hj => ?_⟩, by simp⟩, h.mo, h.eo, dT h.tl⟩
    · simp only [tW]; rw [hg]; exact h.gv
    · simp only [tW]
      rw [jY]
      have := h.ep a b
      simp
      exact this
    · have : j = 0 := by simpa using hj
      subst this
      exact ⟨m, kQ st.opened i m 2 st.opened.length, 0, rfl, hm, rfl, by omega, rfl, by omega⟩
  · have e2 : cJ ns W st w n = st := by unfold cJ; rw [if_neg (by simpa using hE)]
    rw [e2]; exact h.more
end Go.Proofs.Ytfemleimkbjehaa
