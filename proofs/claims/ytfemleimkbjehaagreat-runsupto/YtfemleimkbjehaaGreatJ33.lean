import Derived.Test.YtfemleimkbjehaaGreatJ32
import Derived.Test.YtfemleimkbjehaaGreatJ30
set_option maxRecDepth 1000000
set_option maxHeartbeats 40000000
set_option linter.unusedVariables false
set_option linter.unusedSimpArgs false
namespace Go.Proofs.YtfemleimkbjehaaGreat
open Go.RowKit
def vD (x : Nd) : Prop := (x.kind = 0 ∨ x.kind = 1 ∨ x.kind = 2 ∨ x.kind = 3 ∨ x.kind = 4 ∨ x.kind = 5 ∨ x.kind = 6 ∨ x.kind = 7) ∧ (x.kind = 6 → 1 ≤ x.k ∧ x.k ≤ 8) ∧ (x.kind = 2 → 1 ≤ x.k ∧ x.k ≤ 100)
theorem Sim.mail {ns : List Nd} {R W : Nat} {p : PSt} {st : RSt} {k a n i : Nat} (h : Sim ns W p st) (hi : Inv ns R W st k) (hil : i < (p.wt a n).length) : ∃ z e s : Nat, ∃ v : Int, z < st.mails.length ∧ i < (kJ st.mails a n st.mails.length).length ∧ jD (kJ st.mails a n st.mails.length) i = (z : Int) ∧ vR (p.wt a n) i = ⟨e, s, v⟩ ∧ e < 6 ∧ s < R ∧ -9223372036854775808 ≤ v ∧ v ≤ 9223372036854775807 ∧ (qT ns n).kind ≠ 0 ∧ a < W ∧ n < ns.length := by
  rw [h.wt] at hil
  have hil2 : i < (kJ st.mails a n st.mails.length).length := by
    unfold jQ at hil
    rwa [List.length_map] at hil
  obtain ⟨z, h1, h2, h3, h4⟩ := waitTo_nth st.mails.length i hil2
  obtain ⟨a', n', e, s, b1, b2, b3, b4, b5, b6, b7, b8, b9, b10, b11⟩ := hi.mo z h1
  unfold xK at h3
  simp only [Bool.and_eq_true, beq_iff_eq, Bool.not_eq_true'] at h3
  have ea : a' = a := by have := h3.1.2; omega
  have en : n' = n := by have := h3.2; omega
  subst ea en
  refine ⟨z, e, s, (xX st.mails z).value, h1, hil2, h2, ?_, b7, b9, b10, b11, b5, b2, b4⟩
  rw [h.wt, waitL_get hil2, h2, Int.toNat_natCast]
  unfold xJ
  rw [b6, b8]
theorem wk_specs {ns : List Nd} {R W : Nat} {p : PSt} {st : RSt} (h : Sim ns W p st) {a n i e s : Nat} {v : Int} (hk : vD (qT ns n)) (h0 : (qT ns n).kind ≠ 0) (he : e < 6) (hs : s < 4) (hv1 : -9223372036854775808 ≤ v) (hv2 : v ≤ 9223372036854775807) :
    wkU ns R st.evs ⟨1, a, n, i, e, s, v⟩ = pwU ns R (p.lb a n) n e s v ∧ wkM ns ⟨1, a, n, i, e, s, v⟩ = pwM ns n e s v ∧ wkQ ns st.evs ⟨1, a, n, i, e, s, v⟩ ++ (if pwU ns R (p.lb a n) n e s v then jR ns n (pwM ns n e s v) ns.length else []) = ⟨n, false, e, s, -1⟩ :: pwQ ns R p a n e s v := by
  have hwn := h.wnOf a n e s he hs
  unfold wkU wkM wkQ pwQ pwU pwM addB
  simp only [Int.toNat_natCast]
  obtain ⟨hk, _, _⟩ := hk
  rcases hk with hk | hk | hk | hk | hk | hk | hk | hk
  · exact absurd hk h0
  · exact ⟨by simp [hk], by simp [hk], by simp [hk]⟩
  · exact ⟨by simp [hk], by simp [hk, wrap_id hv1 hv2], by simp [hk]⟩
  · exact ⟨by simp [hk], by simp [hk, wrap_id hv1 hv2], by simp [hk]⟩
  · exact ⟨by simp [hk], by simp [hk, wrap_id hv1 hv2], by simp [hk]⟩
  · have hl := h.lb a n hk ⟨e, s, v⟩
    have hl2 := meTo_same st.evs ⟨1, a, n, 0, e, s, v⟩ ⟨1, a, n, i, e, s, v⟩ ⟨rfl, rfl, rfl, rfl, rfl⟩ st.evs.length
    rw [hl2] at hl
    exact ⟨by simp [hk, hl], by simp [hk, wrap_id hv1 hv2], by simp [hk]⟩
  · rw [hwn]
    refine ⟨by simp [hk], by simp [hk, wrap_id hv1 hv2], ?_⟩
    cases hz : ((jU st.evs a n e s st.evs.length).length == 0)
    · simp [hk]
    · simp [hk]
  · exact ⟨by simp [hk], by simp [hk, wrap_id hv1 hv2], by simp [hk]⟩
theorem lbTo_app (l : List Gv) (m y : Gv) : ∀ k, k ≤ l.length → lbTo (l ++ [m]) y k = lbTo l y k := by
  intro k
  induction k with
  | zero => intro _; rfl
  | succ k ih =>
    intro hk
    rw [lbTo, lbTo, ih (by omega)]
    unfold lbB
    rw [gvn_app (by omega)]
theorem lbTo_snoc (l : List Gv) (m y : Gv) : lbTo (l ++ [m]) y (l ++ [m]).length = (lbTo l y l.length || ((m.node == y.node) && ((m.epoch == y.epoch) && (m.value == y.value)))) := by
  rw [List.length_append, List.length_singleton, lbTo, lbTo_app l m y _ (Nat.le_refl _)]
  unfold lbB
  rw [gvn_last]
theorem Sim.worked {ns : List Nd} {R W : Nat} {p : PSt} {st : RSt} {k a n i e s z : Nat} {v : Int} (h : Sim ns W p st) (hi : Inv ns R W st k) (hk : vD (qT ns n)) (h0 : (qT ns n).kind ≠ 0) (ha : a < W) (he : e < 6) (hs : s < 4) (hv1 : -9223372036854775808 ≤ v) (hv2 : v ≤ 9223372036854775807) (hil : i < (kJ st.mails a n st.mails.length).length) (hz : jD (kJ st.mails a n st.mails.length) i = (z : Int)) :
    Sim ns W (pworkS ns R W (xC p a n i) a n e s v) (doS ns R W st ⟨1, a, n, i, e, s, v⟩) := by
  obtain ⟨hU, hM, hQ⟩ := wk_specs (R := R) (i := i) h hk h0 he hs hv1 hv2 (a := a)
  have hwt : p.wt = fun (i j : Nat) => jQ st.mails i j := by funext i j; exact h.wt i j
  have e0 : doS ns R W st ⟨1, a, n, i, e, s, v⟩ = { st with mails := jP st.mails z ++ (if pwU ns R (p.lb a n) n e s v then yC ns W a n (pwM ns n e s v) ns.length else []), log := st.log ++ [⟨a, ⟨n, false, e, s, -1⟩ :: pwQ ns R p a n e s v⟩], evs := st.evs ++ [⟨1, a, n, i, e, s, v⟩] } := by
    rw [← hQ]
    unfold doS doneS
    rw [if_neg (by simp), if_neg (by simp)]
    simp only [Int.toNat_natCast]
    rw [hz, Int.toNat_natCast]
    unfold workS
    rw [hU, hM]
  rw [e0]
  have hpt : (xC p a n i).wt = fun (b m : Nat) => jQ (jP st.mails z) b m := by
    funext b m
    rw [waitL_gone hil hz b m]
    simp only [xC, hwt]
    unfold kF
    rfl
  have hac : ∀ b m e' s' : Nat, jU (st.evs ++ [⟨1, a, n, i, e, s, v⟩]) b m e' s' (st.evs ++ [(⟨1, a, n, i, e, s, v⟩ : Ev)]).length = if b = a ∧ m = n ∧ e' = e ∧ s' = s then jU st.evs b m e' s' st.evs.length ++ [v] else jU st.evs b m e' s' st.evs.length := by
    intro b m e' s'
    rw [acTo_snoc, acM_nat]
    by_cases q : b = a ∧ m = n ∧ e' = e ∧ s' = s
    · rw [if_pos q, if_pos (by simpa using q)]; rfl
    · rw [if_neg q, if_neg (by simpa using q)]
  have hme : ∀ (b m : Nat) (y : Gv), meTo (st.evs ++ [⟨1, a, n, i, e, s, v⟩]) ⟨1, b, m, 0, y.node, y.epoch, y.value⟩ (st.evs ++ [(⟨1, a, n, i, e, s, v⟩ : Ev)]).length = (meTo st.evs ⟨1, b, m, 0, y.node, y.epoch, y.value⟩ st.evs.length || (decide (b = a ∧ m = n) && (((e : Int) == y.node) && (((s : Int) == y.epoch) && (v == y.value))))) := by
    intro b m y
    rw [meTo_snoc]
    congr 1
    unfold meM
    simp only [beq_self_eq_true, Bool.true_and]
    rw [← Bool.and_assoc]
    congr 1
    rw [Bool.eq_iff_iff]
    simp
    omega
  obtain ⟨c1, c2⟩ := h.change hi ha (p1 := pworkS ns R W (xC p a n i) a n e s v) (st1 := { st with mails := jP st.mails z ++ (if pwU ns R (p.lb a n) n e s v then yC ns W a n (pwM ns n e s v) ns.length else []), log := st.log ++ [⟨a, ⟨n, false, e, s, -1⟩ :: pwQ ns R p a n e s v⟩], evs := st.evs ++ [⟨1, a, n, i, e, s, v⟩] }) (q := ⟨n, false, e, s, -1⟩ :: pwQ ns R p a n e s v) ⟨rfl, rfl⟩ ⟨rfl, rfl⟩
  refine ⟨h.ep, h.cl, fun b m => ?_, fun b m h5 y => ?_, fun b m => ?_, fun b m e' s' he' hs' => ?_, fun b m e' s' g hm6 he' hs' hg => ?_, c1, c2, h.gv, ?_⟩
  · show (if pwU ns R (p.lb a n) n e s v then zM ns W a n (pwM ns n e s v) (xC p a n i).wt ns.length else (xC p a n i).wt) b m = _
    rw [hpt]
    cases hu : pwU ns R (p.lb a n) n e s v with
    | true => simp only [if_true]; exact (waitL_put ns W a ha n _ _ ns.length b m).symm
    | false => simp
  · rw [hme]
    show lbTo ((if (qT ns n).kind == 5 then (letSt (xC p a n i) a n ⟨e, s, v⟩).lb else p.lb) b m) y ((if (qT ns n).kind == 5 then (letSt (xC p a n i) a n ⟨e, s, v⟩).lb else p.lb) b m).length = _
    by_cases hn5 : (qT ns n).kind = 5
    · rw [if_pos (by simpa using hn5)]
      have hold := h.lb a n hn5 ⟨e, s, v⟩
      have eL : (letSt (xC p a n i) a n ⟨e, s, v⟩).lb = if lbTo (p.lb a n) ⟨e, s, v⟩ (p.lb a n).length then p.lb else kF p.lb a n (p.lb a n ++ [⟨e, s, v⟩]) := by
        unfold letSt; show PSt.lb (if lbTo (p.lb a n) ⟨e, s, v⟩ (p.lb a n).length then _ else _) = _; split <;> rfl
      rw [eL]
      cases hL : lbTo (p.lb a n) ⟨e, s, v⟩ (p.lb a n).length with
      | true =>
        rw [if_pos rfl, h.lb b m h5 y]
        cases hc : (decide (b = a ∧ m = n) && (((e : Int) == y.node) && (((s : Int) == y.epoch) && (v == y.value)))) with
        | false => simp
        | true =>
          simp only [Bool.and_eq_true, decide_eq_true_eq, beq_iff_eq] at hc
          obtain ⟨⟨rfl, rfl⟩, q1, q2, q3⟩ := hc
          rw [← q1, ← q2, ← q3, ← hold, hL]; rfl
      | false =>
        rw [if_neg (by simp)]
        unfold kF
        by_cases q : b = a ∧ m = n
        · obtain ⟨rfl, rfl⟩ := q
          rw [if_pos ⟨rfl, rfl⟩, lbTo_snoc, h.lb b m h5 y]
          simp
        · rw [if_neg q, h.lb b m h5 y]
          simp [q]
    · rw [if_neg (by simpa using hn5), h.lb b m h5 y]
      have : ¬ (b = a ∧ m = n) := fun q => hn5 (by rw [← q.2]; exact h5)
      simp [this]
  · have h1 := h.lbn b m
    have h2 := h.lbn a n
    show ((if (qT ns n).kind == 5 then (letSt (xC p a n i) a n ⟨e, s, v⟩).lb else p.lb) b m).length ≤ (st.evs ++ [(⟨1, a, n, i, e, s, v⟩ : Ev)]).length
    rw [List.length_append, List.length_singleton]
    split
    · unfold letSt
      split
      · show (p.lb b m).length ≤ _; omega
      · show (kF p.lb a n (p.lb a n ++ [⟨e, s, v⟩]) b m).length ≤ _
        unfold kF
        split
        · rw [List.length_append]; simp; omega
        · omega
    · omega
  · rw [hac]
    show (if (qT ns n).kind == 6 then kF p.tl a n (talAdd (p.tl a n) e s v (qT ns n).k) else p.tl) b m (e' * 4 + s') = _
    by_cases hn6 : (qT ns n).kind = 6
    · rw [if_pos (by simpa using hn6)]
      unfold kF
      by_cases q1 : b = a ∧ m = n
      · obtain ⟨rfl, rfl⟩ := q1
        rw [if_pos ⟨rfl, rfl⟩]
        unfold talAdd
        by_cases q2 : e' = e ∧ s' = s
        · obtain ⟨rfl, rfl⟩ := q2
          rw [if_pos rfl, if_pos ⟨rfl, rfl, rfl, rfl⟩, hn6]
          simp
        · rw [if_neg (by omega), if_neg (by omega), if_neg (by omega), if_neg (by omega)]
          exact h.wn b m e' s' he' hs'
      · rw [if_neg q1, if_neg (by omega)]
        exact h.wn b m e' s' he' hs'
    · rw [if_neg (by simpa using hn6), h.wn b m e' s' he' hs']
      by_cases q : b = a ∧ m = n ∧ e' = e ∧ s' = s
      · obtain ⟨_, rfl, _⟩ := q
        rw [show ((qT ns m).kind == 6) = false by simpa using hn6]; rfl
      · rw [if_neg q]
  · rw [hac]
    show (if (qT ns n).kind == 6 then kF p.tl a n (talAdd (p.tl a n) e s v (qT ns n).k) else p.tl) b m (24 + e' * 64 + s' * 16 + g) = _ ∧ (if (qT ns n).kind == 6 then kF p.tl a n (talAdd (p.tl a n) e s v (qT ns n).k) else p.tl) b m (24 + e' * 64 + s' * 16 + 8 + g) = _
    by_cases hn6 : (qT ns n).kind = 6
    · rw [if_pos (by simpa using hn6)]
      unfold kF
      by_cases q1 : b = a ∧ m = n
      · obtain ⟨rfl, rfl⟩ := q1
        rw [if_pos ⟨rfl, rfl⟩]
        obtain ⟨hk1, hk8⟩ := hk.2.1 hn6
        have hg0 : (v % (qT ns m).k).toNat < 8 := by
          have := Int.emod_lt_of_pos v (show 0 < (qT ns m).k by omega)
          omega
        have hge : v % (qT ns m).k = ((v % (qT ns m).k).toNat : Int) := by
          have := Int.emod_nonneg v (show (qT ns m).k ≠ 0 by omega)
          omega
        by_cases q2 : e' = e ∧ s' = s
        · obtain ⟨rfl, rfl⟩ := q2
          obtain ⟨s1, s2⟩ := gsum_snoc (jU st.evs b m e' s' st.evs.length) v (qT ns m).k g
          rw [if_pos (⟨rfl, rfl, rfl, rfl⟩ : b = b ∧ m = m ∧ e' = e' ∧ s' = s'), s1, s2]
          obtain ⟨o1, o2⟩ := h.gs b m e' s' g hm6 he' hs' hg
          unfold talAdd
          by_cases q3 : g = (v % (qT ns m).k).toNat
          · rw [if_neg (by omega), if_neg (by omega), if_pos (by omega), ← q3, o1, if_pos (by rw [hge, ← q3]; simp), if_neg (by omega), if_pos rfl, if_pos (by rw [hge, ← q3]; simp)]
            exact ⟨rfl, rfl⟩
          · have hno : ((v % (qT ns m).k) == (g : Int)) = false := by rw [hge]; simp; omega
            rw [hno]
            simp only [Bool.false_eq_true, if_false]
            rw [if_neg (by omega), if_neg (by omega), if_neg (by omega), if_neg (by omega), if_neg (by omega), if_neg (by omega)]
            exact ⟨o1, o2⟩
        · unfold talAdd
          rw [if_neg (show ¬ (b = b ∧ m = m ∧ e' = e ∧ s' = s) by omega), if_neg (by omega), if_neg (by omega), if_neg (by omega), if_neg (by omega), if_neg (by omega), if_neg (by omega)]
          exact h.gs b m e' s' g hm6 he' hs' hg
      · rw [if_neg q1, if_neg (show ¬ (b = a ∧ m = n ∧ e' = e ∧ s' = s) by omega)]
        exact h.gs b m e' s' g hm6 he' hs' hg
    · have q : ¬ (b = a ∧ m = n ∧ e' = e ∧ s' = s) := fun q => hn6 (by rw [← q.2.1]; exact hm6)
      rw [if_neg (by simpa using hn6), if_neg q]
      exact h.gs b m e' s' g hm6 he' hs' hg
  · rw [ouTo_snoc]
    show (if (qT ns n).kind == 7 then p.rc ++ [⟨n, a, e, s, v⟩] else p.rc) = _
    rw [h.rc]
    simp only [beq_self_eq_true, Bool.true_and, Int.toNat_natCast]
    split
    · rfl
    · simp
theorem eo_snoc {ns : List Nd} {R : Nat} {evs : List Ev} {y : Ev} (h : ∀ i, i < evs.length → (∃ n : Nat, (zH evs i).node = n ∧ n < ns.length) ∧ ∃ s : Nat, (zH evs i).round = s ∧ s < R) (hy : (∃ n : Nat, y.node = n ∧ n < ns.length) ∧ ∃ s : Nat, y.round = s ∧ s < R) : ∀ i, i < (evs ++ [y]).length → (∃ n : Nat, (zH (evs ++ [y]) i).node = n ∧ n < ns.length) ∧ ∃ s : Nat, (zH (evs ++ [y]) i).round = s ∧ s < R := by
  intro i hi
  by_cases h1 : i < evs.length
  · rw [evn_app h1]; exact h i h1
  · have : i = evs.length := by simp at hi; omega
    subst this
    rw [evn_last]; exact hy
theorem mo_gone {ns : List Nd} {R W z : Nat} {ms : List Ml} (hz : z < ms.length) (h : ∀ i, i < ms.length → MlOk ns R W (xX ms i)) : ∀ i, i < (jP ms z).length → MlOk ns R W (xX (jP ms z) i) := by
  intro i hi
  rw [xB] at hi
  rw [mln_gone hz]
  split
  · exact h z hz
  · exact h i hi
theorem pwM_ok {ns : List Nd} {R n e s : Nat} {v : Int} {lb : List Gv} (hs : s < R) (hU : pwU ns R lb n e s v = true) (hv1 : -9223372036854775808 ≤ v) (hv2 : v ≤ 9223372036854775807) : ∃ s' : Nat, (pwM ns n e s v).epoch = s' ∧ s' < R ∧ -9223372036854775808 ≤ (pwM ns n e s v).value ∧ (pwM ns n e s v).value ≤ 9223372036854775807 := by
  have hv : -9223372036854775808 ≤ (pwM ns n e s v).value ∧ (pwM ns n e s v).value ≤ 9223372036854775807 := by
    unfold pwM
    simp only
    split
    · exact wrap64_bd _
    · exact ⟨hv1, hv2⟩
  by_cases h4 : (qT ns n).kind = 4
  · refine ⟨s + 1, by unfold pwM; rw [h4]; rfl, ?_, hv⟩
    unfold pwU at hU
    rw [h4] at hU
    simp at hU
    omega
  · refine ⟨s, ?_, hs, hv⟩
    unfold pwM
    simp [h4]
theorem pwQ_ok {ns : List Nd} {L R a n e s : Nat} {v : Int} {p : PSt} (hL : ns.length ≤ L) (hn : n < L) (he : e < 6) (hs : s < R) (hv1 : -9223372036854775808 ≤ v) (hv2 : v ≤ 9223372036854775807) : (pwQ ns R p a n e s v).length ≤ ns.length + 1 ∧ ∀ q ∈ pwQ ns R p a n e s v, PtOk L R q := by
  unfold pwQ
  split
  · split
    · simp
    · refine ⟨by simp, fun q hq => ?_⟩
      simp at hq
      subst hq
      exact ⟨n, e, s, rfl, hn, rfl, he, rfl, hs⟩
  · split
    · rename_i hU
      obtain ⟨s', e1, h1, _⟩ := pwM_ok hs hU hv1 hv2
      exact ⟨by have := xY ns n (pwM ns n e s v) ns.length; omega, fun q hq => putP_okG hL rfl he e1 h1 _ (Nat.le_refl _) q hq⟩
    · simp
theorem Inv.worked {ns : List Nd} {R W : Nat} {p : PSt} {st : RSt} {k a n i e s z : Nat} {v : Int} (h : Sim ns W p st) (hi : Inv ns R W st k) (h8 : ns.length ≤ 8) (hR : R ≤ 4) (hk : vD (qT ns n)) (h0 : (qT ns n).kind ≠ 0) (ha : a < W) (hn : n < ns.length) (he : e < 6) (hs : s < R) (hv1 : -9223372036854775808 ≤ v) (hv2 : v ≤ 9223372036854775807) (hzl : z < st.mails.length) (hz : jD (kJ st.mails a n st.mails.length) i = (z : Int)) :
    Inv ns R W (doS ns R W st ⟨1, a, n, i, e, s, v⟩) (k + 1) := by
  obtain ⟨hU, hM, hQ⟩ := wk_specs (R := R) (i := i) h hk h0 he (show s < 4 by omega) hv1 hv2 (a := a)
  have e0 : doS ns R W st ⟨1, a, n, i, e, s, v⟩ = { st with mails := jP st.mails z ++ (if pwU ns R (p.lb a n) n e s v then yC ns W a n (pwM ns n e s v) ns.length else []), log := st.log ++ [⟨a, ⟨n, false, e, s, -1⟩ :: pwQ ns R p a n e s v⟩], evs := st.evs ++ [⟨1, a, n, i, e, s, v⟩] } := by
    rw [← hQ]
    unfold doS doneS
    rw [if_neg (by simp), if_neg (by simp)]
    simp only [Int.toNat_natCast]
    rw [hz, Int.toNat_natCast]
    unfold workS
    rw [hU, hM]
  rw [e0]
  have hop := hi.op
  have hlg := hi.lg
  have hev := hi.ev
  have hml := hi.ml
  obtain ⟨q1, q2⟩ := pwQ_ok (p := p) (a := a) (Nat.le_refl ns.length) hn he hs hv1 hv2
  refine ⟨by simp; omega, by simp; omega, by simp; omega, hi.gv, ?_, hi.ep, cg_snoc hi.cg ⟨⟨⟨a, rfl, ha⟩, fun j hj => ?_⟩, by simp; omega⟩, mo_app (mo_gone hzl hi.mo) (fun x hx => ?_), eo_snoc hi.eo ⟨⟨n, rfl, hn⟩, s, rfl, hs⟩, tl_snoc hi.tl⟩
  · simp only [List.length_append, xB]
    have := putM_len ns W a n (pwM ns n e s v) ns.length
    split
    · omega
    · simp; omega
  · have hm := xH hj
    simp only [List.mem_cons] at hm
    rcases hm with hm | hm
    · rw [hm]; exact ⟨n, e, s, rfl, hn, rfl, he, rfl, hs⟩
    · exact q2 _ hm
  · split at hx
    · rename_i hU'
      obtain ⟨s', e1, h1, h2, h3⟩ := pwM_ok hs hU' hv1 hv2
      exact putM_ok ha rfl he e1 h1 h2 h3 _ (Nat.le_refl _) x hx
    · simp at hx
theorem gsum_bd (xs : List Int) (q : Int) (g : Nat) : ∀ k, -9223372036854775808 ≤ jG xs q g k ∧ jG xs q g k ≤ 9223372036854775807 := by
  intro k
  induction k with
  | zero => simp [jG]
  | succ k ih =>
    rw [jG]
    split
    · exact wrap64_bd _
    · exact ih
theorem adL_bd {ns : List Nd} {st : RSt} {a n e s : Nat} : ∀ v ∈ adL ns st a n e s, -9223372036854775808 ≤ v ∧ v ≤ 9223372036854775807 := by
  have key : ∀ (xs : List Int) (q : Int) (m : Nat), ∀ v ∈ yM xs q m, -9223372036854775808 ≤ v ∧ v ≤ 9223372036854775807 := by
    intro xs q m
    induction m with
    | zero => intro v hv; simp [yM] at hv
    | succ m ih =>
      intro v hv
      rw [yM] at hv
      split at hv
      · rcases List.mem_append.1 hv with h | h
        · exact ih v h
        · simp at h; subst h; exact gsum_bd _ _ _ _
      · exact ih v hv
  exact key _ _ _
theorem nth_memD {l : List Int} {j : Nat} (h : j < l.length) : jD l j ∈ l := nth_mem h
theorem ntM_ok {ns : List Nd} {R W a n e s : Nat} {l : List Int} (ha : a < W) (he : e < 6) (hs : s < R) (hl : ∀ v ∈ l, -9223372036854775808 ≤ v ∧ v ≤ 9223372036854775807) : ∀ k, k ≤ l.length → ∀ x ∈ ntM ns W a n e s l k, MlOk ns R W x := by
  intro k
  induction k with
  | zero => intro _ x hx; simp [ntM] at hx
  | succ k ih =>
    intro hk x hx
    rw [ntM] at hx
    rcases List.mem_append.1 hx with h | h
    · exact ih (by omega) x h
    · obtain ⟨b1, b2⟩ := hl _ (nth_memD (show k < l.length by omega))
      exact putM_ok (m := ⟨e, s, jD l k⟩) ha rfl he rfl hs b1 b2 _ (Nat.le_refl _) x h
theorem Inv.noted {ns : List Nd} {R W : Nat} {st : RSt} {k a n e s : Nat} (hi : Inv ns R W st k) (h8 : ns.length ≤ 8) (ha : a < W) (hn : n < ns.length) (hk8 : (qT ns n).k ≤ 8) (he : e < 6) (hs : s < R) : Inv ns R W (doS ns R W st ⟨2, a, n, 0, e, s, 0⟩) (k + 1) := by
  have e0 : doS ns R W st ⟨2, a, n, 0, e, s, 0⟩ = { noteS ns W st a n e s with evs := st.evs ++ [⟨2, a, n, 0, e, s, 0⟩] } := rfl
  rw [e0]
  have hop := hi.op
  have hlg := hi.lg
  have hev := hi.ev
  have hml := hi.ml
  have hl := adL_len ns st a n e s
  have hl8 : (adL ns st a n e s).length ≤ 8 := by omega
  have h1 := ntM_len ns W a n e s (adL ns st a n e s) (adL ns st a n e s).length
  have h2 := ntP_len ns n e s (adL ns st a n e s) (adL ns st a n e s).length
  have h3 : (adL ns st a n e s).length * ns.length ≤ 8 * 8 := Nat.mul_le_mul hl8 h8
  refine ⟨by simp [noteS]; omega, by simp [noteS]; omega, by simp; omega, hi.gv, by simp only [noteS, List.length_append]; omega, hi.ep, cg_snoc hi.cg ⟨⟨⟨a, rfl, ha⟩, fun j hj => ntP_ok (Nat.le_refl _) hn he hs _ _ (xH hj)⟩, by simp only; omega⟩, mo_app hi.mo (ntM_ok ha he hs adL_bd _ (Nat.le_refl _)), eo_snoc hi.eo ⟨⟨n, rfl, hn⟩, s, rfl, hs⟩, tl_snoc hi.tl⟩
theorem Inv.told {ns : List Nd} {R W : Nat} {st : RSt} {k a x t : Nat} (hi : Inv ns R W st k) (h1 : 1 ≤ ns.length) (hR : 1 ≤ R) (et : st.told a x = t) (ht : t < zK st.log x st.log.length) : Inv ns R W (doS ns R W st ⟨3, a, 0, x, 0, 0, 0⟩) (k + 1) := by
  have e0 : doS ns R W st ⟨3, a, 0, x, 0, 0, 0⟩ = { st with told := jH st.told a x, evs := st.evs ++ [⟨3, a, 0, x, 0, 0, 0⟩] } := rfl
  rw [e0]
  have hop := hi.op
  have hlg := hi.lg
  have hev := hi.ev
  have hml := hi.ml
  refine ⟨by simp; omega, by simp; omega, by simp; omega, hi.gv, by simp; omega, hi.ep, hi.cg, hi.mo, eo_snoc hi.eo ⟨⟨0, rfl, by omega⟩, 0, rfl, by omega⟩, fun b y hb hy => ?_⟩
  simp only [jH]
  by_cases e : b = a ∧ y = x
  · obtain ⟨rfl, rfl⟩ := e
    exact ⟨t + 1, by rw [if_pos ⟨rfl, rfl⟩, et]; simp, by omega⟩
  · rw [if_neg e]
    exact hi.tl b y hb hy
theorem Sim.does {ns : List Nd} {R W : Nat} {p : PSt} {st : RSt} {k : Nat} {frs : Nat → Nat → List Tm} {y : Ev} (h : Sim ns W p st) (hi : Inv ns R W st k) (h1 : 1 ≤ ns.length) (h8 : ns.length ≤ 8) (hR1 : 1 ≤ R) (hR : R ≤ 4) (hW : W ≤ 4) (hk : ∀ n, n < ns.length → vD (qT ns n)) (hy : ActOk ns.length W p frs y) : Sim ns W (pdoS ns R W p y) (doS ns R W st y) ∧ Inv ns R W (doS ns R W st y) (k + 1) := by
  rcases hy with ⟨a, n, i, ha, hn, hil, rfl⟩ | ⟨a, n, e, s, ha, hn, he, hs, hw, _, rfl⟩ | ⟨a, x, ha, hx, hl, rfl⟩
  · obtain ⟨z, e, s, v, hzl, hil2, hz, hm, he, hs, hv1, hv2, h0, _, _⟩ := h.mail hi hil
    rw [hm]
    have e1 : pdoS ns R W p ⟨1, a, n, i, e, s, v⟩ = pworkS ns R W (xC p a n i) a n e s v := by
      unfold pdoS
      rw [if_pos (by simp)]
      simp only [Int.toNat_natCast]
    simp only
    rw [e1]
    exact ⟨h.worked hi (hk n hn) h0 ha he (by omega) hv1 hv2 hil2 hz, Inv.worked h hi h8 hR (hk n hn) h0 ha hn he hs hv1 hv2 hzl hz⟩
  · rw [h.wnOf a n e s he hs] at hw
    simp only [Bool.and_eq_true, beq_iff_eq, Bool.not_eq_true', beq_eq_false_iff_ne] at hw
    obtain ⟨k1, k8⟩ := (hk n hn).2.1 hw.1
    have hsR : s < R := by
      rcases Nat.lt_or_ge s R with h5 | h5
      · exact h5
      · exact absurd (by rw [acTo_high (fun j hj => (hi.eo j hj).2) _ _ _ h5 _ (Nat.le_refl _)]; rfl) hw.2
    have e1 : pdoS ns R W p ⟨2, a, n, 0, e, s, 0⟩ = pnoteS ns W p a n e s := by
      unfold pdoS
      rw [if_neg (by simp), if_pos (by simp)]
      simp only [Int.toNat_natCast]
    rw [e1]
    exact ⟨h.noted hi ha hw.1 k1 k8 he hs, hi.noted h8 ha hn k8 he hsR⟩
  · have e1 : pdoS ns R W p ⟨3, a, 0, x, 0, 0, 0⟩ = yB p a x := by
      unfold pdoS
      rw [if_neg (by simp), if_neg (by simp)]
      simp only [Int.toNat_natCast]
    rw [e1]
    refine ⟨h.told hi hW ha hx hl, ?_⟩
    have hax : a ≠ x := by
      intro e
      rw [h.wy, if_neg (fun h => h.2.2 e)] at hl
      simp at hl
    obtain ⟨t, et, ht⟩ := hi.tl a x ha hx
    refine hi.told h1 hR1 et ?_
    rw [h.wy, if_pos ⟨ha, hx, hax⟩, et, List.length_drop, cgTo_len] at hl
    simp at hl
    omega
theorem Sim.pinv {ns : List Nd} {R W : Nat} {p : PSt} {st : RSt} {k : Nat} (h : Sim ns W p st) (hi : Inv ns R W st k) (h8 : ns.length ≤ 8) (hR : R ≤ 4) : PInv ns R p (64 * k) := by
  have hop := hi.op
  have hlg := hi.lg
  have hev := hi.ev
  have hml := hi.ml
  refine ⟨fun a b => ⟨_, h.ep a b, by have := hi.ep a b; omega⟩, ?_, fun a b m hm => ?_, fun a b q hq => ?_, fun a b q hq h6 => ?_, fun a b h6 e s g he hs hg => ?_, fun a b c hc => ?_, fun a b => ⟨?_, ?_, ?_⟩, ?_⟩
  · rw [h.gv]; have := hi.gv; omega
  · obtain ⟨j, hj, e⟩ := List.getElem_of_mem hm
    obtain ⟨z, e', s, v, _, _, _, hm', he, hs, hv1, hv2, _⟩ := h.mail hi hj
    rw [show vR (p.wt a b) j = m by rw [← e]; simp [vR, List.getD, List.getElem?_eq_getElem hj]] at hm'
    rw [hm']
    exact ⟨e', s, rfl, he, rfl, hs, hv1, hv2⟩
  · have := h.wn a b (q / 4) (q % 4) (by omega) (by omega)
    rw [show q / 4 * 4 + q % 4 = q by omega] at this
    exact ⟨_, this⟩
  · have := h.wn a b (q / 4) (q % 4) (by omega) (by omega)
    rw [show q / 4 * 4 + q % 4 = q by omega, show ((qT ns b).kind == 6) = false by simpa using h6] at this
    exact this
  · exact ⟨⟨_, (h.gs a b e s g h6 he hs hg).1⟩, _, (h.gs a b e s g h6 he hs hg).2⟩
  · rw [h.wy] at hc
    split at hc
    · obtain ⟨j, hj, rfl⟩ := cgTo_mem _ (Nat.le_refl _) c (List.mem_of_mem_drop hc)
      obtain ⟨g1, g2⟩ := hi.cg j hj
      refine ⟨by omega, fun q hq => ?_⟩
      obtain ⟨t, ht, e⟩ := List.getElem_of_mem hq
      obtain ⟨n, e', s, a1, a2, a3, a4, a5, a6⟩ := g1.2 t ht
      rw [show jN (jF st.log j).pts t = q by rw [← e]; simp [jN, List.getD, List.getElem?_eq_getElem ht]] at a1 a3 a5
      exact ⟨n, e', s, a1, by omega, a3, a4, a5, by omega⟩
    · simp at hc
  · rw [h.wt]; have := waitL_len' st.mails a b; omega
  · have := h.lbn a b; omega
  · rw [h.wy]
    split
    · rw [List.length_drop, cgTo_len]; have := cnTo_le st.log b st.log.length; omega
    · simp
  · rw [h.rc]; have := ouTo_len ns st.evs st.evs.length; omega
theorem pworkAt_any {S : Nat → Prop} {pb : Nat} {x : PX} {ns : List Nd} {R W B : Nat} {D : Nat → Nat → Int} {st : PSt} (i n e s : Nat) (v : Int) (w : World) (hO : POwn w S pb x ns R W D st) (hi : i < W) (hn : n < ns.length) (he : e < 6) (hs : s < R) (hI : PInv ns R st B) (hB : B ≤ 80000000) (hk : ∀ k, k < ns.length → vD (qT ns k)) :
    Calls Tryz.prog 122 #[.pointer (some ⟨pb, 0, none⟩), .int .i64 (i : Int), .int .i64 (n : Int), .agg #[.int .i64 (e : Int), .int .i64 (s : Int)], .int .i64 v] w fun en w' => ∃ u, en = .returned u ∧ OwnP w w' u (pwQ ns R st i n e s v) ∧ POwn.After w w' S pb ns R W D (pwS ns R W st i n e s v) := by
  have h6 : ∀ k, k < ns.length → (qT ns k).kind = 6 → 1 ≤ (qT ns k).k ∧ (qT ns k).k ≤ 8 := fun k h1 h2 => (hk k h1).2.1 h2
  have hf : ∀ a b, (st.wt a b).length ≤ 90000000 := fun a b => by have := (hI.few a b).1; omega
  have hlb := (hI.few i n).2.1
  have hrc := hI.rcs
  obtain ⟨h | h | h | h | h | h | h | h, h6', h2'⟩ := hk n hn
  · exact pwa0 i n e s v w hO hi hn he hs h
  · exact pwa1 i n e s v w hO hi hn he hs h h6 hf
  · exact pwa2 i n e s v w hO hi hn he hs h (h2' h) h6 hf
  · exact pwa3 i n e s v w hO hi hn he hs h h6 hf
  · exact pwa4 i n e s v w hO hi hn he hs h h6 hf
  · exact pwa5 i n e s v w hO hi hn he hs h (by omega) h6 hf
  · exact pwa6 i n e s v w hO hi hn he hs h (h6' h) hI
  · exact pwa7 i n e s v w hO hi hn he hs h (by omega)
theorem pwork_any {S : Nat → Prop} {pb : Nat} {x : PX} {ns : List Nd} {R W B : Nat} {D : Nat → Nat → Int} {st : PSt} (i n e s : Nat) (v : Int) (w : World) (hO : POwn w S pb x ns R W D st) (hi : i < W) (hn : n < ns.length) (he : e < 6) (hs : s < R) (hv1 : -9223372036854775808 ≤ v) (hv2 : v ≤ 9223372036854775807) (hI : PInv ns R st B) (hB : B ≤ 80000000) (hk : ∀ k, k < ns.length → vD (qT ns k)) :
    Calls Tryz.prog 99 #[.pointer (some ⟨pb, 0, none⟩), .int .i64 (i : Int), .int .i64 (n : Int), .agg #[.int .i64 (e : Int), .int .i64 (s : Int)], .int .i64 v] w fun en w' => en = .returned (.tuple #[]) ∧ POwn.After w w' S pb ns R W D (pworkS ns R W st i n e s v) := by
  have h8 := hO.small
  obtain ⟨q1, q2⟩ := pwQ_ok (p := st) (a := i) (Nat.le_refl ns.length) hn he hs hv1 hv2
  have Hin := qJ (fun (w' : World) => pin_any (n : Int) (e : Int) (s : Int) (-1) w')
  simp only [Pt.val] at Hin
  have Hat := qJ (fun (w' : World) (h : Bw w w') => pworkAt_any i n e s v w' (hO.bw h) hi hn he hs hI hB hk)
  have Hlim : Hid (∀ a b, ((pwS ns R W st i n e s v).wy a b).length + 1 ≤ 100000000) := qJ (fun a b => by
    show (st.wy a b).length + 1 ≤ _
    have := (hI.few a b).2.2; omega)
  have HS : Hid (pworkS ns R W st i n e s v = pchg W (pwS ns R W st i n e s v) i (⟨n, false, e, s, -1⟩ :: pwQ ns R st i n e s v)) := qJ rfl
  have Hok : Hid (∀ j, j < (⟨n, false, e, s, -1⟩ :: pwQ ns R st i n e s v : List Pt).length → PtOk 8 4 (jN (⟨n, false, e, s, -1⟩ :: pwQ ns R st i n e s v) j)) := qJ (fun j hj => by
    have key : PtOk ns.length R (jN (⟨n, false, e, s, -1⟩ :: pwQ ns R st i n e s v) j) := by
      have hm := xH hj
      simp only [List.mem_cons] at hm
      rcases hm with hm | hm
      · rw [hm]; exact ⟨n, e, s, rfl, hn, rfl, he, rfl, hs⟩
      · exact q2 _ hm
    obtain ⟨n', e', s', a1, a2, a3, a4, a5, a6⟩ := key
    exact ⟨n', e', s', a1, by omega, a3, a4, a5, by omega⟩)
  have HSl := qJ hO.slt
  generalize pwQ ns R st i n e s v = Q at *
  generalize pwS ns R W st i n e s v = st1 at *
  clear hO hI
  go_enter Tryz.func99, Tryz.ntmps99
  go_wp2_with fail
  refine ((qK Hin) _).mono ?_
  rintro en w1 ⟨rfl, hb1⟩
  have hB1 : Bw w w1 := (show Bw w (w.alloc (.cells #[.int .i64 (e : Int), .int .i64 (s : Int)] 72)) from (by repeat first|exact br _|assumption|apply bd|apply bn|apply ba|refine bt ?_ (by assumption))).trans hb1
  have hbx1 := (Below.block hb1 w.heap.size (by simp)).trans (heap_alloc_new w (.cells #[.int .i64 (e : Int), .int .i64 (s : Int)] 72))
  have t0 := qQ (o := 0) hbx1 rfl
  have t1 := qQ (o := 1) hbx1 rfl
  have tl := (Array.getElem?_eq_some_iff.1 hbx1).1
  have hz1 : w.heap.size < w1.heap.size := tl
  go_wp2_with fail
  refine ((qK Hat) _ (hB1.trans (by repeat first|exact br _|assumption|apply bd|apply bn|apply ba|refine bt ?_ (by assumption)))).mono ?_
  rintro en w2 ⟨u, rfl, hou, S2, x2, hO2, hC2, hS2⟩
  obtain ⟨ua, uc, hue⟩ : ∃ ua uc, u = .slice ua Q.length uc := ⟨_, _, qV hou⟩
  subst hue
  obtain ⟨wA, hwA⟩ : ∃ wA, w1.alloc (.cells #[.int .i64 (n : Int), .bool false, .int .i64 (e : Int), .int .i64 (s : Int), .int .i64 (-1)] 67) = wA := ⟨_, rfl⟩
  have hgA := heap_alloc_new w1 (.cells #[.int .i64 (n : Int), .bool false, .int .i64 (e : Int), .int .i64 (s : Int), .int .i64 (-1)] 67)
  have hbA : Bw w1 (w1.alloc (.cells #[.int .i64 (n : Int), .bool false, .int .i64 (e : Int), .int .i64 (s : Int), .int .i64 (-1)] 67)) := (by repeat first|exact br _|assumption|apply bd|apply bn|apply ba|refine bt ?_ (by assumption))
  rw [hwA] at hgA hbA hC2 hS2 hou
  have hgl := (Array.getElem?_eq_some_iff.1 hgA).1
  have hgS : ¬ S w1.heap.size := fun h => by have := (qK HSl) _ h; omega
  have hg2 : ¬ S2 w1.heap.size := fun h => by rcases hS2 _ h with h | h; exact hgS h; omega
  have hgw := (hC2.block _ hgl hgS).trans hgA
  have hz2 := hC2.size
  obtain ⟨g1, hg1⟩ : ∃ g1, w1.heap.size = g1 := ⟨_, rfl⟩
  rw [hg1] at hgl hgS hg2 hgw
  rw [hg1]
  have Hown := qJ (ownP_one (base := g1) (p := ⟨n, false, e, s, -1⟩) (Nat.le_refl _) hgw)
  have HC : Hid (Chg S w w2) := qJ ((Chg.bw (S := S) (hB1.trans hbA)).trans hC2 (fun _ h => .inl h))
  have hzA := (hB1.trans hbA).size
  have HS2 : Hid (∀ b, S2 b → S b ∨ w.heap.size ≤ b) := qJ (fun b hb => (hS2 b hb).imp id (fun h => by omega))
  have HO2 := qJ hO2
  have Hou := qJ hou
  have hgl2 : g1 ≤ w2.heap.size := by omega
  have hwg : w.heap.size ≤ g1 := by omega
  clear hO2 hC2 hS2 hou hgw hgA hbA hwA t0 t1 hbx1 hb1 hB1 Hat Hin
  go_wp2_with (at_builtin; refine appG w2 rfl _ _ _ 67 rfl _ 5 40 Tryz.infoPoint Tryz.underlying63 rfl (by decide) g1 (.slice (some ⟨g1, 0, none⟩) 1 1) 1 (qR [⟨n, false, e, s, -1⟩]) rfl (qK Hown) _ Q.length _ (qR Q) rfl (zB Q) (jC (qK Hou)) (pts_one Q) (by omega) (by omega) hgl2 ?_; intro v3 w3 hown3 hgr3 hl3; obtain ⟨va, vc, hve⟩ : ∃ va vc, v3 = .slice va (1 + Q.length) vc := ⟨_, _, qV hown3⟩; subst hve)
  have hO3 := (qK HO2).frame hgr3.size (fun b hb hl => hgr3.block b hl (fun e9 => hg2 (by simp only [Value.ownBlock, Option.some.injEq] at e9; exact e9 ▸ hb)))
  have hC3 : Chg S w w3 := ⟨hgr3.os.trans (qK HC).os, hgr3.tape.trans (qK HC).tape, hgr3.output.trans (qK HC).output, Nat.le_trans (qK HC).size hgr3.size, fun b hb hn => (hgr3.block b (Nat.lt_of_lt_of_le hb (qK HC).size) (fun e9 => by simp only [Value.ownBlock, Option.some.injEq] at e9; omega)).trans ((qK HC).block b hb hn)⟩
  have hQ1 : (⟨n, false, e, s, -1⟩ :: Q : List Pt).length = 1 + Q.length := by simp; omega
  have hcl : CellsAt w3 va (⟨n, false, e, s, -1⟩ :: Q : List Pt).length (qR (⟨n, false, e, s, -1⟩ :: Q)) := by
    rw [hQ1]
    exact jC hown3
  have Hmk := qJ (pmake_any i (⟨n, false, e, s, -1⟩ :: Q) va vc w3 hO3 hi hcl (qK Hok) (by rw [hQ1]; omega) (qK Hlim))
  rw [hQ1] at Hmk
  refine (qK Hmk).mono ?_
  rintro en w4 ⟨rfl, hA⟩
  go_wp2_with fail
  go_end0
  refine ⟨rfl, ?_⟩
  rw [qK HS]
  unfold pchg
  rw [hQ1]
  exact After.of hC3 (qK HS2) hA
end Go.Proofs.YtfemleimkbjehaaGreat
