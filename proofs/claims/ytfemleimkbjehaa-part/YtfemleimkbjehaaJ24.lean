import Derived.Test.YtfemleimkbjehaaJ23
import Derived.Test.YtfemleimkbjehaaJ21
set_option maxRecDepth 1000000
set_option maxHeartbeats 40000000
set_option linter.unusedVariables false
set_option linter.unusedSimpArgs false
namespace Go.Proofs.Ytfemleimkbjehaa
open Go.RowKit
theorem eo_snoc {ns : List Nd} {R : Nat} {evs : List Ev} {y : Ev} (h : ∀ i, i < evs.length → (∃ n : Nat, (uJ evs i).node = n ∧ n < ns.length) ∧ ∃ s : Nat, (uJ evs i).round = s ∧ s < R) (hy : (∃ n : Nat, y.node = n ∧ n < ns.length) ∧ ∃ s : Nat, y.round = s ∧ s < R) : ∀ i, i < (evs ++ [y]).length → (∃ n : Nat, (uJ (evs ++ [y]) i).node = n ∧ n < ns.length) ∧ ∃ s : Nat, (uJ (evs ++ [y]) i).round = s ∧ s < R := by
  intro i hi
  by_cases h1 : i < evs.length
  · rw [bL h1]; exact h i h1
  · have : i = evs.length := by simp at hi; omega
    subst this
    rw [gC]; exact hy
theorem mo_gone {ns : List Nd} {R W z : Nat} {ms : List Ml} (hz : z < ms.length) (h : ∀ i, i < ms.length → MlOk ns R W (rS ms i)) : ∀ i, i < (zG ms z).length → MlOk ns R W (rS (zG ms z) i) := by
  intro i hi
  rw [gV] at hi
  rw [mS hz]
  split
  · exact h z hz
  · exact h i hi
theorem pwM_ok {ns : List Nd} {R n e s : Nat} {v : Int} {lb : List Gv} (hs : s < R) (hU : rN ns R lb n e s v = true) (hv1 : -9223372036854775808 ≤ v) (hv2 : v ≤ 9223372036854775807) : ∃ s' : Nat, (pH ns n e s v).epoch = s' ∧ s' < R ∧ -9223372036854775808 ≤ (pH ns n e s v).value ∧ (pH ns n e s v).value ≤ 9223372036854775807 := by
  have hv : -9223372036854775808 ≤ (pH ns n e s v).value ∧ (pH ns n e s v).value ≤ 9223372036854775807 := by
    unfold pH
    simp only
    split
    · exact zH _
    · exact ⟨hv1, hv2⟩
  by_cases h4 : (qV ns n).kind = 4
  · refine ⟨s + 1, by unfold pH; rw [h4]; rfl, ?_, hv⟩
    unfold rN at hU
    rw [h4] at hU
    simp at hU
    omega
  · refine ⟨s, ?_, hs, hv⟩
    unfold pH
    simp [h4]
theorem pwQ_ok {ns : List Nd} {L R a n e s : Nat} {v : Int} {p : PSt} (hL : ns.length ≤ L) (hn : n < L) (he : e < 6) (hs : s < R) (hv1 : -9223372036854775808 ≤ v) (hv2 : v ≤ 9223372036854775807) : (tK ns R p a n e s v).length ≤ ns.length + 1 ∧ ∀ q ∈ tK ns R p a n e s v, wP L R q := by
  unfold tK
  split
  · split
    · simp
    · refine ⟨by simp, fun q hq => ?_⟩
      simp at hq
      subst hq
      exact ⟨n, e, s, rfl, hn, rfl, he, rfl, hs⟩
  · split
    · rename_i hU
      obtain ⟨s', e1, h1, _⟩ := pwM_ok hs hU hv1 hv2
      exact ⟨by have := wW ns n (pH ns n e s v) ns.length; omega, fun q hq => putP_okG hL rfl he e1 h1 _ (Nat.le_refl _) q hq⟩
    · simp
theorem Inv.worked {ns : List Nd} {R W : Nat} {p : PSt} {st : RSt} {k a n i e s z : Nat} {v : Int} (h : Sim ns W p st) (hi : Inv ns R W st k) (h8 : ns.length ≤ 8) (hR : R ≤ 4) (hk : yD (qV ns n)) (h0 : (qV ns n).kind ≠ 0) (ha : a < W) (hn : n < ns.length) (he : e < 6) (hs : s < R) (hv1 : -9223372036854775808 ≤ v) (hv2 : v ≤ 9223372036854775807) (hzl : z < st.mails.length) (hz : kC (kS st.mails a n st.mails.length) i = (z : Int)) :
    Inv ns R W (lQ ns R W st ⟨1, a, n, i, e, s, v⟩) (k + 1) := by
  obtain ⟨hU, hM, hQ⟩ := wk_specs (R := R) (i := i) h hk h0 he (show s < 4 by omega) hv1 hv2 (a := a)
  have e0 : lQ ns R W st ⟨1, a, n, i, e, s, v⟩ = { st with mails := zG st.mails z ++ (if rN ns R (p.lb a n) n e s v then tW ns W a n (pH ns n e s v) ns.length else []), log := st.log ++ [⟨a, ⟨n, false, e, s, -1⟩ :: tK ns R p a n e s v⟩], evs := st.evs ++ [⟨1, a, n, i, e, s, v⟩] } := by
    rw [← hQ]
    unfold lQ doneS
    rw [if_neg (by simp), if_neg (by simp)]
    simp only [Int.toNat_natCast]
    rw [hz, Int.toNat_natCast]
    unfold workS
    rw [hU, hM]
  rw [e0]
  have hop := hi.op
  have hlg := hi.lg
  have hev := hi.ev
  have hml := hi.ml
  obtain ⟨q1, q2⟩ := pwQ_ok (p := p) (a := a) (Nat.le_refl ns.length) hn he hs hv1 hv2
  refine ⟨by simp; omega, by simp; omega, by simp; omega, hi.gv, ?_, hi.ep, gL hi.cg ⟨⟨⟨a, rfl, ha⟩, fun j hj => ?_⟩, by simp; omega⟩, mo_app (mo_gone hzl hi.mo) (fun x hx => ?_), eo_snoc hi.eo ⟨⟨n, rfl, hn⟩, s, rfl, hs⟩, dZ hi.tl⟩
  · simp only [List.length_append, gV]
    have := putM_len ns W a n (pH ns n e s v) ns.length
    split
    · omega
    · simp; omega
  · have hm := tU hj
    simp only [List.mem_cons] at hm
    rcases hm with hm | hm
    · rw [hm]; exact ⟨n, e, s, rfl, hn, rfl, he, rfl, hs⟩
    · exact q2 _ hm
  · split at hx
    · rename_i hU'
      obtain ⟨s', e1, h1, h2, h3⟩ := pwM_ok hs hU' hv1 hv2
      exact putM_ok ha rfl he e1 h1 h2 h3 _ (Nat.le_refl _) x hx
    · simp at hx
theorem gsum_bd (xs : List Int) (q : Int) (g : Nat) : ∀ k, -9223372036854775808 ≤ gsumTo xs q g k ∧ gsumTo xs q g k ≤ 9223372036854775807 := by
  intro k
  induction k with
  | zero => simp [gsumTo]
  | succ k ih =>
    rw [gsumTo]
    split
    · exact zH _
    · exact ih
theorem adL_bd {ns : List Nd} {st : RSt} {a n e s : Nat} : ∀ v ∈ dP ns st a n e s, -9223372036854775808 ≤ v ∧ v ≤ 9223372036854775807 := by
  have key : ∀ (xs : List Int) (q : Int) (m : Nat), ∀ v ∈ kD xs q m, -9223372036854775808 ≤ v ∧ v ≤ 9223372036854775807 := by
    intro xs q m
    induction m with
    | zero => intro v hv; simp [kD] at hv
    | succ m ih =>
      intro v hv
      rw [kD] at hv
      split at hv
      · rcases List.mem_append.1 hv with h | h
        · exact ih v h
        · simp at h; subst h; exact gsum_bd _ _ _ _
      · exact ih v hv
  exact key _ _ _
theorem nth_memD {l : List Int} {j : Nat} (h : j < l.length) : kC l j ∈ l := fM h
theorem ntM_ok {ns : List Nd} {R W a n e s : Nat} {l : List Int} (ha : a < W) (he : e < 6) (hs : s < R) (hl : ∀ v ∈ l, -9223372036854775808 ≤ v ∧ v ≤ 9223372036854775807) : ∀ k, k ≤ l.length → ∀ x ∈ ntM ns W a n e s l k, MlOk ns R W x := by
  intro k
  induction k with
  | zero => intro _ x hx; simp [ntM] at hx
  | succ k ih =>
    intro hk x hx
    rw [ntM] at hx
    rcases List.mem_append.1 hx with h | h
    · exact ih (by omega) x h
    · obtain ⟨b1, b2⟩ := hl _ (nth_memD (show k < l.length by omega))
      exact putM_ok (m := ⟨e, s, kC l k⟩) ha rfl he rfl hs b1 b2 _ (Nat.le_refl _) x h
theorem Inv.noted {ns : List Nd} {R W : Nat} {st : RSt} {k a n e s : Nat} (hi : Inv ns R W st k) (h8 : ns.length ≤ 8) (ha : a < W) (hn : n < ns.length) (hk8 : (qV ns n).k ≤ 8) (he : e < 6) (hs : s < R) : Inv ns R W (lQ ns R W st ⟨2, a, n, 0, e, s, 0⟩) (k + 1) := by
  have e0 : lQ ns R W st ⟨2, a, n, 0, e, s, 0⟩ = { fP ns W st a n e s with evs := st.evs ++ [⟨2, a, n, 0, e, s, 0⟩] } := rfl
  rw [e0]
  have hop := hi.op
  have hlg := hi.lg
  have hev := hi.ev
  have hml := hi.ml
  have hl := adL_len ns st a n e s
  have hl8 : (dP ns st a n e s).length ≤ 8 := by omega
  have h1 := ntM_len ns W a n e s (dP ns st a n e s) (dP ns st a n e s).length
  have h2 := bF ns n e s (dP ns st a n e s) (dP ns st a n e s).length
  have h3 : (dP ns st a n e s).length * ns.length ≤ 8 * 8 := Nat.mul_le_mul hl8 h8
  refine ⟨by simp [fP]; omega, by simp [fP]; omega, by simp; omega, hi.gv, by simp only [fP, List.length_append]; omega, hi.ep, gL hi.cg ⟨⟨⟨a, rfl, ha⟩, fun j hj => ntP_ok (Nat.le_refl _) hn he hs _ _ (tU hj)⟩, by simp only; omega⟩, mo_app hi.mo (ntM_ok ha he hs adL_bd _ (Nat.le_refl _)), eo_snoc hi.eo ⟨⟨n, rfl, hn⟩, s, rfl, hs⟩, dZ hi.tl⟩
theorem Inv.told {ns : List Nd} {R W : Nat} {st : RSt} {k a x t : Nat} (hi : Inv ns R W st k) (h1 : 1 ≤ ns.length) (hR : 1 ≤ R) (et : st.told a x = t) (ht : t < zU st.log x st.log.length) : Inv ns R W (lQ ns R W st ⟨3, a, 0, x, 0, 0, 0⟩) (k + 1) := by
  have e0 : lQ ns R W st ⟨3, a, 0, x, 0, 0, 0⟩ = { st with told := zX st.told a x, evs := st.evs ++ [⟨3, a, 0, x, 0, 0, 0⟩] } := rfl
  rw [e0]
  have hop := hi.op
  have hlg := hi.lg
  have hev := hi.ev
  have hml := hi.ml
  refine ⟨by simp; omega, by simp; omega, by simp; omega, hi.gv, by simp; omega, hi.ep, hi.cg, hi.mo, eo_snoc hi.eo ⟨⟨0, rfl, by omega⟩, 0, rfl, by omega⟩, fun b y hb hy => ?_⟩
  simp only [zX]
  by_cases e : b = a ∧ y = x
  · obtain ⟨rfl, rfl⟩ := e
    exact ⟨t + 1, by rw [if_pos ⟨rfl, rfl⟩, et]; simp, by omega⟩
  · rw [if_neg e]
    exact hi.tl b y hb hy
theorem Sim.does {ns : List Nd} {R W : Nat} {p : PSt} {st : RSt} {k : Nat} {frs : Nat → Nat → List Tm} {y : Ev} (h : Sim ns W p st) (hi : Inv ns R W st k) (h1 : 1 ≤ ns.length) (h8 : ns.length ≤ 8) (hR1 : 1 ≤ R) (hR : R ≤ 4) (hW : W ≤ 4) (hk : ∀ n, n < ns.length → yD (qV ns n)) (hy : ActOk ns.length W p frs y) : Sim ns W (yJ ns R W p y) (lQ ns R W st y) ∧ Inv ns R W (lQ ns R W st y) (k + 1) := by
  rcases hy with ⟨a, n, i, ha, hn, hil, rfl⟩ | ⟨a, n, e, s, ha, hn, he, hs, hw, _, rfl⟩ | ⟨a, x, ha, hx, hl, rfl⟩
  · obtain ⟨z, e, s, v, hzl, hil2, hz, hm, he, hs, hv1, hv2, h0, _, _⟩ := h.mail hi hil
    rw [hm]
    have e1 : yJ ns R W p ⟨1, a, n, i, e, s, v⟩ = xQ ns R W (jJ p a n i) a n e s v := by
      unfold yJ
      rw [if_pos (by simp)]
      simp only [Int.toNat_natCast]
    simp only
    rw [e1]
    exact ⟨h.worked hi (hk n hn) h0 ha he (by omega) hv1 hv2 hil2 hz, Inv.worked h hi h8 hR (hk n hn) h0 ha hn he hs hv1 hv2 hzl hz⟩
  · rw [h.wnOf a n e s he hs] at hw
    simp only [Bool.and_eq_true, beq_iff_eq, Bool.not_eq_true', beq_eq_false_iff_ne] at hw
    obtain ⟨k1, k8⟩ := (hk n hn).2.1 hw.1
    have hsR : s < R := by
      rcases Nat.lt_or_ge s R with h5 | h5
      · exact h5
      · exact absurd (by rw [dS (fun j hj => (hi.eo j hj).2) _ _ _ h5 _ (Nat.le_refl _)]; rfl) hw.2
    have e1 : yJ ns R W p ⟨2, a, n, 0, e, s, 0⟩ = yB ns W p a n e s := by
      unfold yJ
      rw [if_neg (by simp), if_pos (by simp)]
      simp only [Int.toNat_natCast]
    rw [e1]
    exact ⟨h.noted hi ha hw.1 k1 k8 he hs, hi.noted h8 ha hn k8 he hsR⟩
  · have e1 : yJ ns R W p ⟨3, a, 0, x, 0, 0, 0⟩ = zF p a x := by
      unfold yJ
      rw [if_neg (by simp), if_neg (by simp)]
      simp only [Int.toNat_natCast]
    rw [e1]
    refine ⟨h.told hi hW ha hx hl, ?_⟩
    have hax : a ≠ x := by
      intro e
      rw [h.wy, if_neg (fun h => h.2.2 e)] at hl
      simp at hl
    obtain ⟨t, et, ht⟩ := hi.tl a x ha hx
    refine hi.told h1 hR1 et ?_
    rw [h.wy, if_pos ⟨ha, hx, hax⟩, et, List.length_drop, tC] at hl
    simp at hl
    omega
theorem Sim.pinv {ns : List Nd} {R W : Nat} {p : PSt} {st : RSt} {k : Nat} (h : Sim ns W p st) (hi : Inv ns R W st k) (h8 : ns.length ≤ 8) (hR : R ≤ 4) : PInv ns R p (64 * k) := by
  have hop := hi.op
  have hlg := hi.lg
  have hev := hi.ev
  have hml := hi.ml
  refine ⟨fun a b => ⟨_, h.ep a b, by have := hi.ep a b; omega⟩, ?_, fun a b m hm => ?_, fun a b q hq => ?_, fun a b q hq h6 => ?_, fun a b h6 e s g he hs hg => ?_, fun a b c hc => ?_, fun a b => ⟨?_, ?_, ?_⟩, ?_⟩
  · rw [h.gv]; have := hi.gv; omega
  · obtain ⟨j, hj, e⟩ := List.getElem_of_mem hm
    obtain ⟨z, e', s, v, _, _, _, hm', he, hs, hv1, hv2, _⟩ := h.mail hi hj
    rw [show vR (p.wt a b) j = m by rw [← e]; simp [vR, List.getD, List.getElem?_eq_getElem hj]] at hm'
    rw [hm']
    exact ⟨e', s, rfl, he, rfl, hs, hv1, hv2⟩
  · have := h.wn a b (q / 4) (q % 4) (by omega) (by omega)
    rw [show q / 4 * 4 + q % 4 = q by omega] at this
    exact ⟨_, this⟩
  · have := h.wn a b (q / 4) (q % 4) (by omega) (by omega)
    rw [show q / 4 * 4 + q % 4 = q by omega, show ((qV ns b).kind == 6) = false by simpa using h6] at this
    exact this
  · exact ⟨⟨_, (h.gs a b e s g h6 he hs hg).1⟩, _, (h.gs a b e s g h6 he hs hg).2⟩
  · rw [h.wy] at hc
    split at hc
    · obtain ⟨j, hj, rfl⟩ := cgTo_mem _ (Nat.le_refl _) c (List.mem_of_mem_drop hc)
      obtain ⟨g1, g2⟩ := hi.cg j hj
      refine ⟨by omega, fun q hq => ?_⟩
      obtain ⟨t, ht, e⟩ := List.getElem_of_mem hq
      obtain ⟨n, e', s, a1, a2, a3, a4, a5, a6⟩ := g1.2 t ht
      rw [show vU (mC st.log j).pts t = q by rw [← e]; simp [vU, List.getD, List.getElem?_eq_getElem ht]] at a1 a3 a5
      exact ⟨n, e', s, a1, by omega, a3, a4, a5, by omega⟩
    · simp at hc
  · rw [h.wt]; have := waitL_len' st.mails a b; omega
  · have := h.lbn a b; omega
  · rw [h.wy]
    split
    · rw [List.length_drop, tC]; have := cnTo_le st.log b st.log.length; omega
    · simp
  · rw [h.rc]; have := ouTo_len ns st.evs st.evs.length; omega
theorem pworkAt_any {S : Nat → Prop} {pb : Nat} {x : PX} {ns : List Nd} {R W B : Nat} {D : Nat → Nat → Int} {st : PSt} (i n e s : Nat) (v : Int) (w : World) (hO : POwn w S pb x ns R W D st) (hi : i < W) (hn : n < ns.length) (he : e < 6) (hs : s < R) (hI : PInv ns R st B) (hB : B ≤ 80000000) (hk : ∀ k, k < ns.length → yD (qV ns k)) :
    Calls Try.prog 146 #[.pointer (some ⟨pb, 0, none⟩), .int .i64 (i : Int), .int .i64 (n : Int), .agg #[.int .i64 (e : Int), .int .i64 (s : Int)], .int .i64 v] w fun en w' => ∃ u, en = .returned u ∧ OwnP w w' u (tK ns R st i n e s v) ∧ POwn.After w w' S pb ns R W D (hH ns R W st i n e s v) := by
  have h6 : ∀ k, k < ns.length → (qV ns k).kind = 6 → 1 ≤ (qV ns k).k ∧ (qV ns k).k ≤ 8 := fun k h1 h2 => (hk k h1).2.1 h2
  have hf : ∀ a b, (st.wt a b).length ≤ 90000000 := fun a b => by have := (hI.few a b).1; omega
  have hlb := (hI.few i n).2.1
  have hrc := hI.rcs
  obtain ⟨h | h | h | h | h | h | h | h, h6', h2'⟩ := hk n hn
  · exact pwa0 i n e s v w hO hi hn he hs h
  · exact pwa1 i n e s v w hO hi hn he hs h h6 hf
  · exact pwa2 i n e s v w hO hi hn he hs h (h2' h) h6 hf
  · exact pwa3 i n e s v w hO hi hn he hs h h6 hf
  · exact pwa4 i n e s v w hO hi hn he hs h h6 hf
  · exact pwa5 i n e s v w hO hi hn he hs h (by omega) h6 hf
  · exact pwa6 i n e s v w hO hi hn he hs h (h6' h) hI
  · exact pwa7 i n e s v w hO hi hn he hs h (by omega)
set_option maxRecDepth 100000 in
set_option maxHeartbeats 4000000 in
theorem pwork_any {S : Nat → Prop} {pb : Nat} {x : PX} {ns : List Nd} {R W B : Nat} {D : Nat → Nat → Int} {st : PSt} (i n e s : Nat) (v : Int) (w : World) (hO : POwn w S pb x ns R W D st) (hi : i < W) (hn : n < ns.length) (he : e < 6) (hs : s < R) (hv1 : -9223372036854775808 ≤ v) (hv2 : v ≤ 9223372036854775807) (hI : PInv ns R st B) (hB : B ≤ 80000000) (hk : ∀ k, k < ns.length → yD (qV ns k)) :
    Calls Try.prog 124 #[.pointer (some ⟨pb, 0, none⟩), .int .i64 (i : Int), .int .i64 (n : Int), .agg #[.int .i64 (e : Int), .int .i64 (s : Int)], .int .i64 v] w fun en w' => en = .returned (.tuple #[]) ∧ POwn.After w w' S pb ns R W D (xQ ns R W st i n e s v) := by
  have h8 := hO.small
  obtain ⟨q1, q2⟩ := pwQ_ok (p := st) (a := i) (Nat.le_refl ns.length) hn he hs hv1 hv2
  have Hin := qJ (fun (w' : World) => pin_any (n : Int) (e : Int) (s : Int) (-1) w')
  simp only [Pt.val] at Hin
  have Hat := qJ (fun (w' : World) (h : Bw w w') => pworkAt_any i n e s v w' (hO.bw h) hi hn he hs hI hB hk)
  have Hlim : Hid (∀ a b, ((hH ns R W st i n e s v).wy a b).length + 1 ≤ 100000000) := qJ (fun a b => by
    show (st.wy a b).length + 1 ≤ _
    have := (hI.few a b).2.2; omega)
  have HS : Hid (xQ ns R W st i n e s v = wU W (hH ns R W st i n e s v) i (⟨n, false, e, s, -1⟩ :: tK ns R st i n e s v)) := qJ rfl
  have Hok : Hid (∀ j, j < (⟨n, false, e, s, -1⟩ :: tK ns R st i n e s v : List Pt).length → wP 8 4 (vU (⟨n, false, e, s, -1⟩ :: tK ns R st i n e s v) j)) := qJ (fun j hj => by
    have key : wP ns.length R (vU (⟨n, false, e, s, -1⟩ :: tK ns R st i n e s v) j) := by
      have hm := tU hj
      simp only [List.mem_cons] at hm
      rcases hm with hm | hm
      · rw [hm]; exact ⟨n, e, s, rfl, hn, rfl, he, rfl, hs⟩
      · exact q2 _ hm
    obtain ⟨n', e', s', a1, a2, a3, a4, a5, a6⟩ := key
    exact ⟨n', e', s', a1, by omega, a3, a4, a5, by omega⟩)
  have HSl := qJ hO.slt
  generalize tK ns R st i n e s v = Q at *
  generalize hH ns R W st i n e s v = st1 at *
  clear hO hI
  go_enter Try.func124, Try.ntmps124
  go_wp2_with fail
  refine ((qK Hin) _).mono ?_
  rintro en w1 ⟨rfl, hb1⟩
  have hB1 : Bw w w1 := (show Bw w (w.alloc (.cells #[.int .i64 (e : Int), .int .i64 (s : Int)] 75)) from (by repeat first|exact br _|assumption|apply bd|apply bn|apply ba|refine bt ?_ (by assumption))).trans hb1
  have hbx1 := (Below.block hb1 w.heap.size (by simp)).trans (heap_alloc_new w (.cells #[.int .i64 (e : Int), .int .i64 (s : Int)] 75))
  have t0 := qQ (o := 0) hbx1 rfl
  have t1 := qQ (o := 1) hbx1 rfl
  have tl := (Array.getElem?_eq_some_iff.1 hbx1).1
  have hz1 : w.heap.size < w1.heap.size := tl
  go_wp2_with fail
  refine ((qK Hat) _ (hB1.trans (by repeat first|exact br _|assumption|apply bd|apply bn|apply ba|refine bt ?_ (by assumption)))).mono ?_
  rintro en w2 ⟨u, rfl, hou, S2, x2, hO2, hC2, hS2⟩
  obtain ⟨ua, uc, hue⟩ : ∃ ua uc, u = .slice ua Q.length uc := ⟨_, _, qW hou⟩
  subst hue
  obtain ⟨wA, hwA⟩ : ∃ wA, w1.alloc (.cells #[.int .i64 (n : Int), .bool false, .int .i64 (e : Int), .int .i64 (s : Int), .int .i64 (-1)] 194) = wA := ⟨_, rfl⟩
  have hgA := heap_alloc_new w1 (.cells #[.int .i64 (n : Int), .bool false, .int .i64 (e : Int), .int .i64 (s : Int), .int .i64 (-1)] 194)
  have hbA : Bw w1 (w1.alloc (.cells #[.int .i64 (n : Int), .bool false, .int .i64 (e : Int), .int .i64 (s : Int), .int .i64 (-1)] 194)) := (by repeat first|exact br _|assumption|apply bd|apply bn|apply ba|refine bt ?_ (by assumption))
  rw [hwA] at hgA hbA hC2 hS2 hou
  have hgl := (Array.getElem?_eq_some_iff.1 hgA).1
  have hgS : ¬ S w1.heap.size := fun h => by have := (qK HSl) _ h; omega
  have hg2 : ¬ S2 w1.heap.size := fun h => by rcases hS2 _ h with h | h; exact hgS h; omega
  have hgw := (hC2.block _ hgl hgS).trans hgA
  have hz2 := hC2.size
  obtain ⟨g1, hg1⟩ : ∃ g1, w1.heap.size = g1 := ⟨_, rfl⟩
  rw [hg1] at hgl hgS hg2 hgw
  rw [hg1]
  have Hown := qJ (ownP_one (base := g1) (p := ⟨n, false, e, s, -1⟩) (Nat.le_refl _) hgw)
  have HC : Hid (Chg S w w2) := qJ ((Chg.bw (S := S) (hB1.trans hbA)).trans hC2 (fun _ h => .inl h))
  have hzA := (hB1.trans hbA).size
  have HS2 : Hid (∀ b, S2 b → S b ∨ w.heap.size ≤ b) := qJ (fun b hb => (hS2 b hb).imp id (fun h => by omega))
  have HO2 := qJ hO2
  have Hou := qJ hou
  have hgl2 : g1 ≤ w2.heap.size := by omega
  have hwg : w.heap.size ≤ g1 := by omega
  clear hO2 hC2 hS2 hou hgw hgA hbA hwA t0 t1 hbx1 hb1 hB1 Hat Hin
  go_wp2_with (at_builtin; refine appG w2 rfl _ _ _ 194 rfl _ 5 40 Try.infoPoint Try.underlying97 rfl (by decide) g1 (.slice (some ⟨g1, 0, none⟩) 1 1) 1 (qG [⟨n, false, e, s, -1⟩]) rfl (qK Hown) _ Q.length _ (qG Q) rfl (xD Q) (vJ (qK Hou)) (fH Q) (by omega) (by omega) hgl2 ?_; intro v3 w3 hown3 hgr3 hl3; obtain ⟨va, vc, hve⟩ : ∃ va vc, v3 = .slice va (1 + Q.length) vc := ⟨_, _, qW hown3⟩; subst hve)
  have hO3 := (qK HO2).frame hgr3.size (fun b hb hl => hgr3.block b hl (fun e9 => hg2 (by simp only [Value.ownBlock, Option.some.injEq] at e9; exact e9 ▸ hb)))
  have hC3 : Chg S w w3 := ⟨hgr3.os.trans (qK HC).os, hgr3.tape.trans (qK HC).tape, hgr3.output.trans (qK HC).output, Nat.le_trans (qK HC).size hgr3.size, fun b hb hn => (hgr3.block b (Nat.lt_of_lt_of_le hb (qK HC).size) (fun e9 => by simp only [Value.ownBlock, Option.some.injEq] at e9; omega)).trans ((qK HC).block b hb hn)⟩
  have hQ1 : (⟨n, false, e, s, -1⟩ :: Q : List Pt).length = 1 + Q.length := by simp; omega
  have hcl : CellsAt w3 va (⟨n, false, e, s, -1⟩ :: Q : List Pt).length (qG (⟨n, false, e, s, -1⟩ :: Q)) := by
    rw [hQ1]
    exact vJ hown3
  have Hmk := qJ (pL i (⟨n, false, e, s, -1⟩ :: Q) va vc w3 hO3 hi hcl (qK Hok) (by rw [hQ1]; omega) (qK Hlim))
  rw [hQ1] at Hmk
  refine (qK Hmk).mono ?_
  rintro en w4 ⟨rfl, hA⟩
  go_wp2_with fail
  go_end0
  refine ⟨rfl, ?_⟩
  rw [qK HS]
  unfold wU
  rw [hQ1]
  exact After.of hC3 (qK HS2) hA
theorem getS {w : World} {base : Nat} {ty : TypeId} {a : Option Addr} {c k : Nat} {l : List Int} (h : w.ownsRow base ty 1 (.slice a l.length c) l.length (l.map (Value.int .i64))) (hk : k < l.length) : ∃ g, a = some ⟨g, 0, none⟩ ∧ g < w.heap.size ∧ w.cell? ⟨g, k, none⟩ = some (.int .i64 (kC l k)) := by
  obtain ⟨hl, h0 | ⟨g, cap, cur, e1, _, hc, h1, h2, h3, h4⟩⟩ := h
  · omega
  · simp only [Value.slice.injEq] at e1
    refine ⟨g, e1.1, (Array.getElem?_eq_some_iff.1 hc).1, qQ hc ?_⟩
    have h5 : (cur.toList.take (l.length * 1))[k]? = (l.map (Value.int .i64))[k]? := by rw [h4]
    rw [List.getElem?_take_of_lt (by omega), Array.getElem?_toList] at h5
    rw [h5, List.getElem?_map, List.getElem?_eq_getElem hk]
    simp [kC, List.getD, List.getElem?_eq_getElem hk]
set_option maxRecDepth 100000 in
set_option maxHeartbeats 8000000 in
theorem pnotify_any {S : Nat → Prop} {pb : Nat} {x : PX} {ns : List Nd} {R W B : Nat} {D : Nat → Nat → Int} {st : PSt} (i n e s : Nat) (w : World) (hO : POwn w S pb x ns R W D st) (hi : i < W) (hn : n < ns.length) (he : e < 6) (hs4 : s < 4) (hI : PInv ns R st B) (hB : B ≤ 80000000) (hk : ∀ k, k < ns.length → yD (qV ns k)) (hk6 : (qV ns n).kind = 6) :
    Calls Try.prog 125 #[.pointer (some ⟨pb, 0, none⟩), .int .i64 (i : Int), .int .i64 (n : Int), .agg #[.int .i64 (e : Int), .int .i64 (s : Int)]] w fun en w' => en = .returned (.tuple #[]) ∧ POwn.After w w' S pb ns R W D (yB ns W st i n e s) := by
  have h8 := hO.small
  have h6 : Hid (∀ k, k < ns.length → (qV ns k).kind = 6 → 1 ≤ (qV ns k).k ∧ (qV ns k).k ≤ 8) := qJ fun k h1 h2 => (hk k h1).2.1 h2
  have HnS : Hid (∀ z, w.heap.size ≤ z → ¬ S z) := qJ (fun z hz h => by have := hO.slt z h; omega)
  have Htal := qJ (fun k hk => hO.row.tal i n hi hn k hk)
  have Hnone : Hid (∀ k, k < 408 → Value.ownBlock (vX (st.tl i n) e s k) = none) := qJ (fun k hk4 => by
    unfold vX
    split
    · rfl
    · split
      · rfl
      · split
        · rfl
        · exact tal_none hI hk6 k hk4)
  have Htake := qJ (fun (w' : World) (h : Bw w w') => pttake_any x.wb (i * 3684 + 32 + n * 408) e s x.warr 162 (fun g => intOf (st.tl i n (24 + e * 64 + s * 16 + g))) (fun g => wnOf (st.tl i n) (24 + e * 64 + s * 16 + 8 + g)) (wnOf (st.tl i n) (e * 4 + s)) w' (hO.bw h).work he hs4 (fun g' hg' => by
      rw [show i * 3684 + 32 + n * 408 + 24 + e * 64 + s * 16 + g' = i * 3684 + 32 + n * 408 + (24 + e * 64 + s * 16 + g') by omega, qK Htal _ (by omega)]
      obtain ⟨t, et⟩ := (hI.gs i n hk6 e s g' he hs4 hg').1
      rw [et]; rfl) (fun g' hg' => by
      rw [show i * 3684 + 32 + n * 408 + 24 + e * 64 + s * 16 + 8 + g' = i * 3684 + 32 + n * 408 + (24 + e * 64 + s * 16 + 8 + g') by omega, qK Htal _ (by omega)]
      obtain ⟨t, et⟩ := (hI.gs i n hk6 e s g' he hs4 hg').2
      unfold wnOf
      rw [et]) (by
      rw [show i * 3684 + 32 + n * 408 + e * 4 + s = i * 3684 + 32 + n * 408 + (e * 4 + s) by omega, qK Htal _ (by omega)]
      obtain ⟨t, et⟩ := hI.wn i n (e * 4 + s) (by omega)
      unfold wnOf
      rw [et]))
  have HP : Hid (∀ w0 w1 : World, Bw w w0 → w1.heap[x.wb]? = some (.cells ((bX x.warr (i * 3684 + 32 + n * 408 + 24 + e * 64 + s * 16) [.int .i64 0, .int .i64 0, .int .i64 0, .int .i64 0, .int .i64 0, .int .i64 0, .int .i64 0, .int .i64 0, .bool false, .bool false, .bool false, .bool false, .bool false, .bool false, .bool false, .bool false]).setIfInBounds (i * 3684 + 32 + n * 408 + e * 4 + s) (.bool false)) 162 (0, 0)) → Chg (fun z => z = x.wb) w0 w1 → ∃ arr', POwn w1 S pb { x with warr := arr' } ns R W D { st with tl := kY st.tl i n (vX (st.tl i n) e s) }) := qJ (fun w0 w1 hb h1 hC => by
    refine ⟨_, (hO.bw hb).setRow hC h1 ((hO.bw hb).row.setTl h8.1 hi hn (by simp [setL_size]) (fun p hp => ?_) (take_cells he hs4 (qK Htal)) (qK Hnone)) ⟨rfl, rfl⟩ hO.few.1⟩
    rw [Array.getElem?_setIfInBounds_ne (by omega), dK _ _ _ _ (by simp; omega)])
  have Hf : Hid (∀ k a b, k ≤ 8 → (ntW ns W i n e s (xK (st.tl i n) e s) st.wt k a b).length ≤ 90000000) := qJ (fun k a b hk8 => by
    have := ntW_len ns W i n e s (xK (st.tl i n) e s) st.wt B (fun a b => (hI.few a b).1) k a b
    omega)
  have Hlim : Hid (∀ a b, (st.wy a b).length + 1 ≤ 100000000) := qJ (fun a b => by have := (hI.few a b).2.2; omega)
  have HS : Hid (yB ns W st i n e s = wU W { st with tl := kY st.tl i n (vX (st.tl i n) e s), wt := ntW ns W i n e s (xK (st.tl i n) e s) st.wt (xK (st.tl i n) e s).length } i (nK ns n e s (xK (st.tl i n) e s) (xK (st.tl i n) e s).length)) := qJ rfl
  have hl8 := sumL_len (st.tl i n) e s
  have HL : Hid (vY (fun g => intOf (st.tl i n (24 + e * 64 + s * 16 + g))) (fun g => wnOf (st.tl i n) (24 + e * 64 + s * 16 + 8 + g)) 8 = xK (st.tl i n) e s) := qJ rfl
  rw [qK HL] at Htake
  generalize xK (st.tl i n) e s = L at *
  have Hpl := qJ (fun k => bF ns n e s L k)
  have Hpo := qJ (fun k p hp => ntP_ok (ns := ns) (L := 8) (R := 4) (n := n) (e := e) (s := s) (l := L) h8.1 (by omega) he hs4 k p hp)
  obtain ⟨st1, hst1⟩ : ∃ st1 : PSt, { st with tl := kY st.tl i n (vX (st.tl i n) e s) } = st1 := ⟨_, rfl⟩
  have hwt1 : st1.wt = st.wt := by rw [← hst1]
  have hwy1 : st1.wy = st.wy := by rw [← hst1]
  have HS1 : Hid (yB ns W st i n e s = wU W { st1 with wt := ntW ns W i n e s L st1.wt L.length } i (nK ns n e s L L.length)) := qJ (by rw [qK HS, ← hst1])
  rw [hst1] at HP
  rw [← hwt1] at Hf
  rw [← hwy1] at Hlim
  have c3 := qQ (o := 3) hO.root hO.r3
  have hi1 : (i : Int) < (W : Int) := by omega
  have hn8 : (n : Int) < 8 := by omega
  have hpw : ¬ pb = x.wb := fun e9 => by have h1 := hO.work; rw [← e9, hO.root] at h1; simp at h1
  have lt0 := hO.slt _ hO.sroot
  have lt1 := hO.slt _ hO.swork
  have hsw := hO.swork
  clear hO hI Hnone Htal HS HL hst1 hwt1 hwy1 hk
  go_enter Try.func125, Try.ntmps125
  go_wp2_with fail
  obtain ⟨w0, hw0⟩ : ∃ w0, w.alloc (.cells #[.int .i64 (e : Int), .int .i64 (s : Int)] 75) = w0 := ⟨_, rfl⟩
  have ht0 := heap_alloc_new w (.cells #[.int .i64 (e : Int), .int .i64 (s : Int)] 75)
  have hB0 : Bw w (w.alloc (.cells #[.int .i64 (e : Int), .int .i64 (s : Int)] 75)) := (by repeat first|exact br _|assumption|apply bd|apply bn|apply ba|refine bt ?_ (by assumption))
  rw [hw0] at ht0 hB0
  rw [hw0]
  clear hw0
  have hnt := (qK HnS) w.heap.size (Nat.le_refl _)
  obtain ⟨tb, htb⟩ : ∃ tb, w.heap.size = tb := ⟨_, rfl⟩
  rw [htb] at ht0 hnt
  rw [htb]
  have htw : ¬ tb = x.wb := fun e9 => hnt (e9 ▸ hsw)
  have k3 := ((qX hB0).1 _ 3 lt0).trans c3
  have t0 := qQ (o := 0) ht0 rfl
  have t1 := qQ (o := 1) ht0 rfl
  have tlt := (Array.getElem?_eq_some_iff.1 ht0).1
  have plt : pb < w0.heap.size := Nat.lt_of_lt_of_le lt0 hB0.size
  have wlt : x.wb < w0.heap.size := Nat.lt_of_lt_of_le lt1 hB0.size
  go_region_held3 (fun w' => w'.cell? ⟨pb, 3, none⟩ = some (.slice (some ⟨x.wb, 0, none⟩) W x.wc) ∧ w'.cell? ⟨tb, 0, none⟩ = some (.int .i64 (e : Int)) ∧ w'.cell? ⟨tb, 1, none⟩ = some (.int .i64 (s : Int))) (go_keep) ((go_at_call 147; refine ((qK Htake) _ (hB0.trans (by repeat first|exact br _|assumption|apply bd|apply bn|apply ba|refine bt ?_ (by assumption)))).mono ?_; rintro en w1 ⟨u, rfl, hou1, hC1, hb1⟩; have j3 := (World.cell?_of_block (a := ⟨pb, 3, none⟩) (hC1.block pb (by simpa using plt) hpw)).trans k3; have j0 := (World.cell?_of_block (a := ⟨tb, 0, none⟩) (hC1.block tb (by simpa using tlt) htw)).trans t0; have j1 := (World.cell?_of_block (a := ⟨tb, 1, none⟩) (hC1.block tb (by simpa using tlt) htw)).trans t1; have jt : tb < w1.heap.size := Nat.lt_of_lt_of_le (by simpa using tlt) hC1.size))
  obtain ⟨arr', hO1⟩ := (qK HP) w0.drew w1 (hB0.trans (by repeat first|exact br _|assumption|apply bd|apply bn|apply ba|refine bt ?_ (by assumption))) hb1 hC1
  obtain ⟨ua, uc, hue⟩ : ∃ ua uc, u = .slice ua L.length uc := ⟨_, _, qW hou1.1⟩
  subst hue
  have hC01 : Chg S w w1 := (Chg.bw (S := S) (hB0.trans (show Bw w0 w0.drew from (by repeat first|exact br _|assumption|apply bd|apply bn|apply ba|refine bt ?_ (by assumption))))).trans hC1 (fun b h => .inl (h ▸ hsw))
  have ht1 := (hC1.block tb (by simpa using tlt) htw).trans (show w0.drew.heap[tb]? = _ from ht0)
  have HO1 := qJ hO1
  have HC01 := qJ hC01
  have Ht1 := qJ ht1
  have Hu1 := qJ hou1
  have hz1 : w.heap.size ≤ w1.heap.size := hC01.size
  clear hO1 hC01 hC1 hb1 k3 t0 t1 ht0 Htake HP ht1 hou1 j3 c3
  have Hout := qJ (fun (w' : World) => mM (n : Int) (e : Int) (s : Int) (-1) w')
  simp only [Pt.val] at Hout
  go_wp2_with fail
  refine ((qK Hout) _).mono ?_
  rintro en w2 ⟨rfl, hb2⟩
  go_wp2_with fail
  obtain ⟨wE, hwE⟩ : ∃ wE, w2.alloc (.cells #[.int .i64 (n : Int), .bool true, .int .i64 (e : Int), .int .i64 (s : Int), .int .i64 (-1)] 194) = wE := ⟨_, rfl⟩
  have hgE := heap_alloc_new w2 (.cells #[.int .i64 (n : Int), .bool true, .int .i64 (e : Int), .int .i64 (s : Int), .int .i64 (-1)] 194)
  have hbE : Bw w1 (w2.alloc (.cells #[.int .i64 (n : Int), .bool true, .int .i64 (e : Int), .int .i64 (s : Int), .int .i64 (-1)] 194)) := hb2.trans (by repeat first|exact br _|assumption|apply bd|apply bn|apply ba|refine bt ?_ (by assumption))
  rw [hwE] at hgE hbE
  rw [hwE]
  have hz2 := hb2.size
  have H0 : Hid (∃ (k : Nat) (S' : Nat → Prop) (x' : PX), k ≤ L.length ∧ (Value.int .i64 0) = .int .i64 k ∧ POwn wE S' pb x' ns R W D { st1 with wt := ntW ns W i n e s L st1.wt k } ∧ wE.heap[tb]? = some (.cells #[.int .i64 (e : Int), .int .i64 (s : Int)] 75 (0, 0)) ∧ ¬ S' tb ∧ wE.ownsRow 0 3 1 (.slice ua L.length uc) L.length (L.map (Value.int .i64)) ∧ (∀ b, Value.ownBlock (.slice ua L.length uc) = some b → ¬ S' b) ∧ Chg S w wE ∧ (∀ b, S' b → S b ∨ w.heap.size ≤ b) ∧ OwnP w wE (.slice (some ⟨w2.heap.size, 0, none⟩) 1 1) (nK ns n e s L k) ∧ (∀ b, Value.ownBlock (.slice (some ⟨w2.heap.size, 0, none⟩) 1 1) = some b → ¬ S' b)) := qJ
    ⟨0, S, _, Nat.zero_le _, rfl, (qK HO1).bw hbE, (Below.block hbE _ jt).trans (qK Ht1), hnt, kU (qP (qK Hu1).1 fun g hg => Below.block hbE g hg) (Nat.zero_le _), fun b hb => (qK HnS) b (by have h5 := (qK Hu1).2 b hb; have h6 := hB0.size; simp at h5; omega), (qK HC01).trans (Chg.bw (S := S) hbE) (fun _ h => .inl h), fun _ h => .inl h, ownP_one (p := ⟨n, true, e, s, -1⟩) (by omega) hgE, fun b hb => (qK HnS) b (by simp only [Value.ownBlock, Option.some.injEq] at hb; omega)⟩
  clear HO1 HC01 Ht1 Hu1 hgE hbE hwE j0 j1 jt hb2 hz2 hz1 Hout tlt plt wlt lt0 lt1 hB0
  go_loopw [9, 30] (fun v idx wr => ∃ (k : Nat) (S' : Nat → Prop) (x' : PX), k ≤ L.length ∧ idx = .int .i64 k ∧ POwn wr S' pb x' ns R W D { st1 with wt := ntW ns W i n e s L st1.wt k } ∧ wr.heap[tb]? = some (.cells #[.int .i64 (e : Int), .int .i64 (s : Int)] 75 (0, 0)) ∧ ¬ S' tb ∧ wr.ownsRow 0 3 1 (.slice ua L.length uc) L.length (L.map (Value.int .i64)) ∧ (∀ b, Value.ownBlock (.slice ua L.length uc) = some b → ¬ S' b) ∧ Chg S w wr ∧ (∀ b, S' b → S b ∨ w.heap.size ≤ b) ∧ OwnP w wr v (nK ns n e s L k) ∧ (∀ b, v.ownBlock = some b → ¬ S' b)) (fun _ idx _ => L.length - (intOf idx).toNat)
  case atStart => exact qK H0
  case round =>
    clear H0
    obtain ⟨k, S', x', hk, rfl, hOr, ht, hnt', hur, hnu, hC, hS', hv, hnv⟩ := hrel
    rename World => wr
    have hz := hC.size
    have hpl := (qK Hpl) k
    have hkl : k * ns.length ≤ 8 * 8 := Nat.mul_le_mul (by omega) h8.1
    obtain ⟨va, vc, hve⟩ : ∃ va vc, u9 = .slice va (nK ns n e s L k).length vc := ⟨_, _, qW hv⟩
    subst hve
    by_cases hlt : k < L.length
    · have hk1 : (k : Int) < (L.length : Int) := by omega
      obtain ⟨gu, rfl, hgu, hcu⟩ := getS hur hlt
      have t0 := qQ (o := 0) ht rfl
      have t1 := qQ (o := 1) ht rfl
      have tlt := (Array.getElem?_eq_some_iff.1 ht).1
      have hpp := wW ns n ⟨e, s, kC L k⟩ ns.length
      have Hnx : Hid (nK ns n e s L (k + 1) = nK ns n e s L k ++ jX ns n ⟨e, s, kC L k⟩ ns.length) := qJ rfl
      have HnW : Hid (ntW ns W i n e s L st1.wt (k + 1) = jB ns W i n ⟨e, s, kC L k⟩ (ntW ns W i n e s L st1.wt k) ns.length) := qJ rfl
      have Hput := qJ (fun (w' : World) (h : Bw wr w') => rQ i n e s (kC L k) w' (hOr.bw h) hi (qK h6) (fun a b => (qK Hf) k a b (by omega)))
      have HOr := qJ hOr
      have Hv := qJ hv
      have Hur := qJ hur
      have Ht := qJ ht
      generalize kC L k = vk at *
      generalize hP0 : nK ns n e s L k = P0 at *
      generalize hQ0 : jX ns n ⟨e, s, vk⟩ ns.length = Q0 at *
      clear hOr hv hur ht hP0 hQ0
      go_wp2_with fail
      refine ((qK Hput) _ (Bw.refl _)).mono ?_
      rintro en w3 ⟨u3, rfl, hou3, S3, x3, hO3, hC3, hS3⟩
      obtain ⟨qa, qc, hqe⟩ : ∃ qa qc, u3 = .slice qa Q0.length qc := ⟨_, _, qW hou3⟩
      subst hqe
      have hz3 := hC3.size
      have hvl : ∀ b, Value.ownBlock (.slice va P0.length vc) = some b → w.heap.size ≤ b ∧ b < wr.heap.size := fun b hb => World.ownsRow.lt (qK Hv) b hb
      have hv3 := kL (qK Hv) fun b hb => hC3.block b (hvl b hb).2 (hnv b hb)
      have hnv3 : ∀ b, Value.ownBlock (.slice va P0.length vc) = some b → ¬ S3 b := fun b hb h => by
        rcases hS3 b h with h | h
        · exact hnv b hb h
        · have := (hvl b hb).2; omega
      have Hv3 := qJ hv3
      have HO3 := qJ hO3
      have HC3 := qJ hC3
      have HS3 := qJ hS3
      have Hou3 := qJ hou3
      clear hv3 hO3 hC3 hS3 hou3 Hput
      go_wp2_with (at_builtin; refine appG w3 rfl _ _ _ 194 rfl _ 5 40 Try.infoPoint Try.underlying97 rfl (by decide) w.heap.size (.slice va P0.length vc) P0.length (qG P0) rfl (qK Hv3) _ Q0.length _ (qG Q0) rfl (xD Q0) (vJ (qK Hou3)) (fH Q0) (by omega) (by omega) (by omega) ?_; intro v4 w4 hown4 hgr4 hl4; obtain ⟨ya, yc, hye⟩ : ∃ ya yc, v4 = .slice ya (P0.length + Q0.length) yc := ⟨_, _, qW hown4⟩; subst hye)
      have hgpt := pW (fun b hb => zK (qK Hv3) hb) hgr4
      have Hown4 := qJ hown4
      clear hown4
      go_roundw
      case rel =>
        refine ⟨k + 1, S3, x3, by omega, by go_num, ?_, ?_, ?_, ?_, ?_, ?_, ?_, ?_, ?_⟩
        · rw [qK HnW]
          exact (qK HO3).frame hgr4.size (fun b hb hl => hgr4.block b hl (fun e9 => hnv3 b e9.symm hb))
        · have h3 := ((qK HC3).block tb tlt hnt').trans (qK Ht)
          exact (hgpt _ (by decide) tb _ h3).trans h3
        · intro h
          rcases (qK HS3) tb h with h | h
          · exact hnt' h
          · omega
        · refine kL (qK Hur) fun b hb => ?_
          obtain ⟨cur, hc⟩ := zK (qK Hur) hb
          have h3 := (qK HC3).block b (Array.getElem?_eq_some_iff.1 hc).1 (hnu b hb)
          exact (hgpt _ (by decide) b cur (h3.trans hc)).trans h3
        · intro b hb h
          rcases (qK HS3) b h with h | h
          · exact hnu b hb h
          · have := (World.ownsRow.lt (qK Hur) b hb).2; omega
        · have k2 : Chg (fun b => Value.ownBlock (.slice va P0.length vc) = some b) w3 w4 := ⟨hgr4.os, hgr4.tape, hgr4.output, hgr4.size, fun i hi hn => hgr4.block i hi (fun e => hn e.symm)⟩
          exact (hC.trans (qK HC3) (fun b h => hS' b h)).trans k2 (fun b h => .inr (hvl b h).1)
        · intro b h
          rcases (qK HS3) b h with h | h
          · exact hS' b h
          · exact .inr (by omega)
        · rw [qK Hnx]
          show World.ownsRow _ _ _ _ _ (P0 ++ Q0).length (qG (P0 ++ Q0))
          rw [List.length_append, nN]
          exact qK Hown4
        · intro b hb h
          rcases hl4 b hb with h5 | h5
          · exact hnv3 b h5 h
          · have := (qK HO3).slt b h; omega
      case measure => simp [intOf]; omega
    · have hkk : k = L.length := by omega
      subst hkk
      have hk1 : ¬ (L.length : Int) < (L.length : Int) := by omega
      have Hmk := qJ (fun (w' : World) (h : Bw wr w') => pL i (nK ns n e s L L.length) va vc w' (hOr.bw h) hi (vJ (OwnP.bw hv h)) (fun j hj => (qK Hpo) _ _ (tU hj)) (by omega) (qK Hlim))
      clear hOr hv hur ht
      go_wp2_with (go_at_call 115; refine ((qK Hmk) _ (by repeat first|exact br _|assumption|apply bd|apply bn|apply ba|refine bt ?_ (by assumption))).mono ?_; rintro en w5 ⟨rfl, hA⟩)
      go_end0
      refine ⟨rfl, ?_⟩
      rw [qK HS1]
      exact After.of hC hS' hA
end Go.Proofs.Ytfemleimkbjehaa
