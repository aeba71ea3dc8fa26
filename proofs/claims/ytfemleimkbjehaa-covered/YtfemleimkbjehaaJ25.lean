import Derived.Test.YtfemleimkbjehaaJ24
set_option maxRecDepth 1000000
set_option maxHeartbeats 40000000
set_option linter.unusedVariables false
set_option linter.unusedSimpArgs false
namespace Go.Proofs.Ytfemleimkbjehaa
open Go.RowKit
theorem wnOf_add (f : Nat → Value) {e s : Nat} (v q : Int) {k : Nat} (hk : k < 24) : wnOf (yR f e s v q) k = if k = e * 4 + s then true else wnOf f k := by
  unfold wnOf yR
  by_cases h : k = e * 4 + s
  · simp [h]
  · rw [if_neg h, if_neg (by omega), if_neg (by omega), if_neg h]
theorem wnOf_take (f : Nat → Value) {e s : Nat} {k : Nat} (hk : k < 24) : wnOf (vU f e s) k = if k = e * 4 + s then false else wnOf f k := by
  unfold wnOf vU
  by_cases h : k = e * 4 + s
  · simp [h]
  · rw [if_neg h, if_neg (by omega), if_neg (by omega), if_neg h]
theorem spP_at (n : Nat) (o : Bool) (e s : Nat) (c : Int) : spP 4 ⟨(n : Int), o, (e : Int), (s : Int), c⟩ = 48 * n + (if o then 24 else 0) + 4 * e + s := by
  unfold spP; simp only [Int.toNat_natCast]; exact spotN_4 n e s o
theorem truIn_take {W i n j : Nat} {p : PSt} {e s : Nat} {v : Int} (hi : i < W) (hj : j < (p.wt i n).length) (hm : zG (p.wt i n) j = ⟨(e : Int), (s : Int), v⟩) (h6 : e < 6) (h4 : s < 4) {k : Nat} (ho : k / 24 % 2 = 0) :
    truIn W (jJ p i n j).wt k = truIn W p.wt k + (if 48 * n + 4 * e + s = k then -1 else 0) := by
  unfold truIn jJ
  refine jG hi fun b hb => ?_
  simp only
  unfold kZ
  by_cases h1 : b = i ∧ k / 48 = n
  · rw [if_pos h1, if_pos h1.1, h1.1, h1.2, msgC_erase _ _ _ _ hj, hm]
    simp only
    by_cases h2 : 48 * n + 4 * e + s = k
    · rw [if_pos h2, if_pos (by omega)]; omega
    · rw [if_neg h2, if_neg (by omega)]; omega
  · rw [if_neg h1]
    by_cases h3 : b = i
    · rw [if_pos h3, if_neg (by omega)]; omega
    · rw [if_neg h3]; omega
theorem pwU_back {ns : List Nd} {R : Nat} {lb : List Gv} {n e s : Nat} {v : Int} (h : pwU ns R lb n e s v = true) (h4 : (qV ns n).kind = 4) : s + 1 < R := by
  unfold pwU at h
  rw [h4] at h
  have : (s : Int) + 1 < R := of_decide_eq_true h
  omega
theorem pwM_time {ns : List Nd} {R : Nat} {lb : List Gv} {n e s : Nat} {v : Int} (hR : R ≤ 4) (h4 : s < R) (h : pwU ns R lb n e s v = true) : ∃ s' : Nat, (pwM ns n e s v).node = e ∧ (pwM ns n e s v).epoch = s' ∧ s' < R ∧ s' = (if (qV ns n).kind = 4 then s + 1 else s) := by
  unfold pwM
  by_cases h4' : (qV ns n).kind = 4
  · have := pwU_back h h4'
    exact ⟨s + 1, rfl, by simp [h4'], by omega, by simp [h4']⟩
  · exact ⟨s, rfl, by simp [h4'], h4, by simp [h4']⟩
theorem pwU_six {ns : List Nd} {R : Nat} {lb : List Gv} {n e s : Nat} {v : Int} (h : (qV ns n).kind = 6) : pwU ns R lb n e s v = false := by
  unfold pwU; rw [h]; rfl
theorem pwQ_six {ns : List Nd} {R : Nat} {p : PSt} {i n e s : Nat} {v : Int} (h : (qV ns n).kind = 6) : pwQ ns R p i n e s v = if wnOf (p.tl i n) (e * 4 + s) then [] else [⟨(n : Int), true, (e : Int), (s : Int), 1⟩] := by
  unfold pwQ; rw [h]; rfl
theorem pwQ_not {ns : List Nd} {R : Nat} {p : PSt} {i n e s : Nat} {v : Int} (h : (qV ns n).kind ≠ 6) : pwQ ns R p i n e s v = if pwU ns R (p.lb i n) n e s v then jW ns n (pwM ns n e s v) ns.length else [] := by
  unfold pwQ; rw [if_neg (by simpa using h)]
theorem tru_work {ns : List Nd} {R W : Nat} {p : PSt} {i n j e s : Nat} {v : Int} (hi : i < W) (hn : n < ns.length) (h8 : ns.length ≤ 8) (hR : R ≤ 4) (hj : j < (p.wt i n).length) (hm : zG (p.wt i n) j = ⟨(e : Int), (s : Int), v⟩) (h6 : e < 6) (h4 : s < R) {k : Nat} (hk : k < 384) :
    tru ns W (yC ns R W (jJ p i n j) i n e s v) k = tru ns W p k + kY (⟨n, false, e, s, -1⟩ :: pwQ ns R (jJ p i n j) i n e s v) k := by
  have hsp := spP_at n false e s (-1)
  simp only [Bool.false_eq_true, if_false, Nat.add_zero] at hsp
  have hkd := kdN_in hn
  unfold tru
  by_cases ho : k / 24 % 2 = 0
  · rw [if_pos ho, if_pos ho]
    have ht := truIn_take hi hj hm h6 (show s < 4 by omega) ho
    rw [kY, hsp]
    rw [← Int.add_assoc, ← ht]
    show truIn W (if pwU ns R ((jJ p i n j).lb i n) n e s v then zQ ns W i n (pwM ns n e s v) (jJ p i n j).wt ns.length else (jJ p i n j).wt) k = _
    by_cases hs6 : (qV ns n).kind = 6
    · rw [pwU_six hs6, pwQ_six hs6]
      simp only [Bool.false_eq_true, if_false]
      split
      · simp [kY]
      · have := spP_at n true e s 1
        simp only [if_true] at this
        simp only [kY, this]
        rw [if_neg (by omega)]; omega
    · rw [pwQ_not hs6]
      cases hu : pwU ns R ((jJ p i n j).lb i n) n e s v with
      | false => simp [kY]
      | true =>
        obtain ⟨s', t1, t2, t3, _⟩ := pwM_time hR h4 hu
        simp only [if_true]
        exact truIn_put hi t1 h6 t2 (by omega) _ hk ho _ h8
  · rw [if_neg ho, if_neg ho]
    rw [kY, hsp, if_neg (by omega), Int.zero_add]
    by_cases hs6 : (qV ns n).kind = 6
    · rw [pwQ_six hs6]
      unfold truOut
      by_cases hk0 : kdN ns (k / 48) = 0
      · rw [if_pos hk0, if_pos hk0]
        have : kY (if wnOf ((jJ p i n j).tl i n) (e * 4 + s) = true then [] else [⟨(n : Int), true, (e : Int), (s : Int), 1⟩]) k = 0 := by
          split
          · rfl
          · have := spP_at n true e s 1
            simp only [if_true] at this
            simp only [kY, this]
            rw [if_neg (fun hh => by have : k / 48 = n := by omega
                                     rw [this] at hk0; omega)]; rfl
        rw [this, Int.add_zero]; rfl
      · rw [if_neg hk0, if_neg hk0]
        by_cases hk6 : kdN ns (k / 48) = 6
        · rw [if_pos hk6, if_pos hk6]
          have htl : ∀ b c, (yC ns R W (jJ p i n j) i n e s v).tl b c = kZ p.tl i n (yR (p.tl i n) e s v (qV ns n).k) b c := fun b c => by
            show (if (qV ns n).kind == 6 then kZ p.tl i n (yR (p.tl i n) e s v (qV ns n).k) else p.tl) b c = _
            rw [if_pos (by simpa using hs6)]
          refine jG hi fun b hb => ?_
          rw [htl]
          unfold kZ
          show _ = (if wnOf (p.tl b (k / 48)) (k % 24) = true then (1 : Int) else 0) + (if b = i then kY (if wnOf (p.tl i n) (e * 4 + s) = true then [] else [⟨(n : Int), true, (e : Int), (s : Int), 1⟩]) k else 0)
          have hsq := spP_at n true e s 1
          simp only [if_true] at hsq
          by_cases h1 : b = i ∧ k / 48 = n
          · rw [if_pos h1, if_pos h1.1, wnOf_add _ _ _ (by omega), h1.1, h1.2]
            by_cases h2 : k % 24 = e * 4 + s
            · rw [if_pos h2, h2]
              cases hw : wnOf (p.tl i n) (e * 4 + s) with
              | true => simp [kY]
              | false => simp only [Bool.false_eq_true, if_false, if_true, kY, hsq]; rw [if_pos (by omega)]; rfl
            · rw [if_neg h2]
              cases hw : wnOf (p.tl i n) (e * 4 + s) with
              | true => simp [kY]
              | false =>
                have hc0 : kY [⟨(n : Int), true, (e : Int), (s : Int), 1⟩] k = 0 := by
                  simp only [kY]; rw [if_neg (by rw [hsq]; omega)]; rfl
                simp only [Bool.false_eq_true, if_false, hc0]; omega
          · rw [if_neg h1]
            by_cases h3 : b = i
            · rw [if_pos h3]
              have : kY (if wnOf (p.tl i n) (e * 4 + s) = true then [] else [⟨(n : Int), true, (e : Int), (s : Int), 1⟩]) k = 0 := by
                split
                · rfl
                · simp only [kY, hsq]; rw [if_neg (by omega)]; rfl
              rw [this]; omega
            · rw [if_neg h3]; omega
        · rw [if_neg hk6, if_neg hk6]
          split
          · rfl
          · have := spP_at n true e s 1
            simp only [if_true] at this
            simp only [kY, this]
            rw [if_neg (fun hh => by have : k / 48 = n := by omega
                                     rw [this] at hk6; omega)]; rfl
    · rw [pwQ_not hs6]
      have h0 : kY (if pwU ns R ((jJ p i n j).lb i n) n e s v = true then jW ns n (pwM ns n e s v) ns.length else []) k = 0 := by
        cases hu : pwU ns R ((jJ p i n j).lb i n) n e s v with
        | false => rfl
        | true =>
          obtain ⟨s', t1, t2, t3, _⟩ := pwM_time hR h4 hu
          simp only [if_true]
          exact cntP_put_out t1 h6 t2 (by omega) (by omega) _
      rw [h0, Int.add_zero]
      have htl : (yC ns R W (jJ p i n j) i n e s v).tl = p.tl := by
        show (if (qV ns n).kind == 6 then _ else p.tl) = _
        rw [if_neg (by simpa using hs6)]
      unfold truOut srcO
      rw [htl]; rfl
theorem truIn_note {ns : List Nd} {W i n e s : Nat} (hi : i < W) (h8 : ns.length ≤ 8) (h6 : e < 6) (h4 : s < 4) (l : List Int) (wt : Nat → Nat → List Gv) {k : Nat} (hk : k < 384) (ho : k / 24 % 2 = 0) : ∀ K, truIn W (ntW ns W i n e s l wt K) k = truIn W wt k + kY (ntP ns n e s l K) k := by
  intro K
  induction K with
  | zero =>
    have := spP_at n true e s (-1)
    simp only [if_true] at this
    simp only [ntW, ntP, kY, this]
    rw [if_neg (by omega)]; omega
  | succ K ih =>
    rw [ntW, ntP, cntP_app, ← Int.add_assoc, ← ih]
    exact truIn_put hi rfl h6 rfl h4 _ hk ho _ h8
theorem cntP_note_out {ns : List Nd} {n e s : Nat} (h6 : e < 6) (h4 : s < 4) (l : List Int) {k : Nat} (ho : k / 24 % 2 = 1) : ∀ K, kY (ntP ns n e s l K) k = if 48 * n + 24 + 4 * e + s = k then -1 else 0 := by
  intro K
  induction K with
  | zero =>
    have := spP_at n true e s (-1)
    simp only [if_true] at this
    simp only [ntP, kY, this]; omega
  | succ K ih => rw [ntP, cntP_app, ih, cntP_put_out rfl h6 rfl h4 ho]; omega
theorem tru_note {ns : List Nd} {W : Nat} {p : PSt} {i n e s : Nat} (hi : i < W) (hn : n < ns.length) (h8 : ns.length ≤ 8) (h6 : e < 6) (h4 : s < 4) (hk6 : (qV ns n).kind = 6) (hw : wnOf (p.tl i n) (e * 4 + s) = true) {k : Nat} (hk : k < 384) :
    tru ns W (yD ns W p i n e s) k = tru ns W p k + kY (ntP ns n e s (yB (p.tl i n) e s) (yB (p.tl i n) e s).length) k := by
  have hkd := kdN_in hn
  unfold tru
  by_cases ho : k / 24 % 2 = 0
  · rw [if_pos ho, if_pos ho]
    exact truIn_note hi h8 h6 h4 _ p.wt hk ho _
  · rw [if_neg ho, if_neg ho, cntP_note_out h6 h4 _ (by omega)]
    unfold truOut
    by_cases hk0 : kdN ns (k / 48) = 0
    · rw [if_pos hk0, if_pos hk0, if_neg (fun hh => by
        have : k / 48 = n := by omega
        rw [this] at hk0; omega), Int.add_zero]; rfl
    · rw [if_neg hk0, if_neg hk0]
      by_cases hk7 : kdN ns (k / 48) = 6
      · rw [if_pos hk7, if_pos hk7]
        refine jG hi fun b hb => ?_
        show (if wnOf (kZ p.tl i n (vU (p.tl i n) e s) b (k / 48)) (k % 24) = true then (1 : Int) else 0) = _
        unfold kZ
        by_cases h1 : b = i ∧ k / 48 = n
        · rw [if_pos h1, if_pos h1.1, wnOf_take _ (by omega), h1.1, h1.2]
          by_cases h2 : k % 24 = e * 4 + s
          · rw [if_pos h2, h2, hw, if_pos (show 48 * n + 24 + 4 * e + s = k by omega)]; simp
          · rw [if_neg h2, if_neg (show ¬ 48 * n + 24 + 4 * e + s = k by omega)]; omega
        · rw [if_neg h1]
          by_cases h3 : b = i
          · have z1 : (if 48 * n + 24 + 4 * e + s = k then (-1 : Int) else 0) = 0 := if_neg (by omega)
            rw [if_pos h3, z1]; omega
          · rw [if_neg h3]; omega
      · rw [if_neg hk7, if_neg hk7, if_neg (fun hh => by
          have : k / 48 = n := by omega
          rw [this] at hk7; omega)]; rfl
theorem tru_give {ns : List Nd} {W : Nat} {p : PSt} {i m e : Nat} {v : Int} (hi : i < W) (h8 : ns.length ≤ 8) (he : p.ep i m = e) (h6 : e < 6) {k : Nat} (hk : k < 384) :
    tru ns W (yJ ns W p i m v) k = tru ns W p k + kY (jW ns m ⟨p.ep i m, 0, v⟩ ns.length) k := by
  unfold tru
  by_cases ho : k / 24 % 2 = 0
  · rw [if_pos ho, if_pos ho]
    exact truIn_put (s := 0) hi he h6 rfl (by omega) p.wt hk ho _ h8
  · rw [if_neg ho, if_neg ho, cntP_put_out (s := 0) he h6 rfl (by omega) (by omega), Int.add_zero]; rfl
theorem spP_src (m e : Nat) (c : Int) : spP 4 ⟨(m : Int), true, (e : Int), 0, c⟩ = 48 * m + 24 + 4 * e := by
  have := spP_at m true e 0 c
  simpa using this
theorem tru_adv {ns : List Nd} {W : Nat} {p : PSt} {i m e : Nat} (hi : i < W) (hm : m < ns.length) (hc : p.cl i m = false) (he : p.ep i m = e) (h6 : e < 5) (hk0 : (qV ns m).kind = 0) {k : Nat} :
    tru ns W (padvSt W p i m) k = tru ns W p k + kY [⟨m, true, p.ep i m, 0, -1⟩, ⟨m, true, p.ep i m + 1, 0, 1⟩] k := by
  have h1 := spP_src m e (-1)
  have h2 := spP_src m (e + 1) 1
  rw [Int.natCast_add] at h2
  simp only [kY, he]
  rw [h1, show ((e : Int) + 1) = (e : Int) + ((1 : Nat) : Int) from rfl, h2]
  unfold tru
  by_cases ho : k / 24 % 2 = 0
  · rw [if_pos ho, if_pos ho, if_neg (by omega), if_neg (by omega)]
    show truIn W p.wt k = _
    omega
  · rw [if_neg ho, if_neg ho]
    unfold truOut
    by_cases hkk : kdN ns (k / 48) = 0
    · rw [if_pos hkk, if_pos hkk]
      refine jG hi fun b hb => ?_
      show (if !p.cl b (k / 48) && (decide (kZ p.ep i m (p.ep i m + 1) b (k / 48) = ((k / 4 % 6 : Nat) : Int)) && decide (k % 4 = 0)) then (1 : Int) else 0) = (if srcO p b k then 1 else 0) + _
      unfold kZ srcO
      by_cases hb1 : b = i ∧ k / 48 = m
      · rw [if_pos hb1, if_pos hb1.1, hb1.1, hb1.2, hc, he]
        simp only [Bool.not_false, Bool.true_and, Bool.and_eq_true, decide_eq_true_eq]
        split <;> split <;> split <;> split <;> omega
      · rw [if_neg hb1]
        by_cases h3 : b = i
        · have z1 : (if 48 * m + 24 + 4 * e = k then (-1 : Int) else 0) = 0 := if_neg (by omega)
          have z2 : (if 48 * m + 24 + 4 * (e + 1) = k then (1 : Int) else 0) = 0 := if_neg (by omega)
          rw [if_pos h3, z1, z2]; omega
        · rw [if_neg h3]; omega
    · have hne : k / 48 ≠ m := fun h => hkk (h ▸ (kdN_in hm).trans hk0)
      have z1 : (if 48 * m + 24 + 4 * e = k then (-1 : Int) else 0) = 0 := if_neg (by omega)
      have z2 : (if 48 * m + 24 + 4 * (e + 1) = k then (1 : Int) else 0) = 0 := if_neg (by omega)
      rw [if_neg hkk, if_neg hkk, z1, z2]
      show (if kdN ns (k / 48) = 6 then qL (fun i => if wnOf (p.tl i (k / 48)) (k % 24) = true then 1 else 0) W else 0) = _
      omega
theorem tru_cls {ns : List Nd} {W : Nat} {p : PSt} {i m e : Nat} (hi : i < W) (hm : m < ns.length) (hc : p.cl i m = false) (he : p.ep i m = e) (h6 : e < 6) (hk0 : (qV ns m).kind = 0) {k : Nat} :
    tru ns W (xF W p i m) k = tru ns W p k + kY [⟨m, true, p.ep i m, 0, -1⟩] k := by
  have h1 := spP_src m e (-1)
  simp only [kY, he]
  rw [h1]
  unfold tru
  by_cases ho : k / 24 % 2 = 0
  · rw [if_pos ho, if_pos ho, if_neg (by omega)]
    show truIn W p.wt k = _
    omega
  · rw [if_neg ho, if_neg ho]
    unfold truOut
    by_cases hkk : kdN ns (k / 48) = 0
    · rw [if_pos hkk, if_pos hkk]
      refine jG hi fun b hb => ?_
      show (if !(kZ p.cl i m true b (k / 48)) && (decide (p.ep b (k / 48) = ((k / 4 % 6 : Nat) : Int)) && decide (k % 4 = 0)) then (1 : Int) else 0) = (if srcO p b k then 1 else 0) + _
      unfold kZ srcO
      by_cases hb1 : b = i ∧ k / 48 = m
      · rw [if_pos hb1, if_pos hb1.1, hb1.1, hb1.2, hc, he]
        simp only [Bool.not_false, Bool.true_and, Bool.and_eq_true, decide_eq_true_eq, Bool.not_true, Bool.false_and, Bool.false_eq_true, if_false]
        split <;> split <;> omega
      · rw [if_neg hb1]
        by_cases h3 : b = i
        · have z1 : (if 48 * m + 24 + 4 * e = k then (-1 : Int) else 0) = 0 := if_neg (by omega)
          rw [if_pos h3, z1]; omega
        · rw [if_neg h3]; omega
    · have hne : k / 48 ≠ m := fun h => hkk (h ▸ (kdN_in hm).trans hk0)
      have z1 : (if 48 * m + 24 + 4 * e = k then (-1 : Int) else 0) = 0 := if_neg (by omega)
      rw [if_neg hkk, if_neg hkk, z1]
      show (if kdN ns (k / 48) = 6 then qL (fun i => if wnOf (p.tl i (k / 48)) (k % 24) = true then 1 else 0) W else 0) = _
      omega
theorem wrap_wrap (a b : Int) : wrap64 (wrap64 a + b) = wrap64 (a + b) := by unfold wrap64; omega
theorem wrap_small {a : Int} (h : -9223372036854775808 ≤ a) (h2 : a ≤ 9223372036854775807) : wrap64 a = a := by unfold wrap64; omega
theorem tabPts_cnt {t : Nat → Int} {ps : List Pt} {x : Int} {k : Nat} (ht : t k = wrap64 x) : ∀ j, j ≤ ps.length → kS 4 t ps j k = wrap64 (x + kY (ps.take j) k) := by
  intro j
  induction j with
  | zero => intro _; simp [kS, kY, ht]
  | succ j ih =>
    intro hj
    have ih := ih (by omega)
    have e : ps.take (j + 1) = ps.take j ++ [vW ps j] := by
      rw [List.take_add_one]; congr 1
      unfold vW
      rw [List.getD, List.getElem?_eq_getElem (show j < ps.length by omega)]; rfl
    rw [kS, e, cntP_app]
    by_cases h : k = spP 4 (vW ps j)
    · subst h
      rw [updT_eq, ih, wrap_wrap]
      simp only [kY, if_true]
      congr 1; omega
    · rw [updT_ne _ _ h, ih]
      simp only [kY]
      rw [if_neg (fun hh => h hh.symm)]; congr 1; omega
theorem tabPts_all {t : Nat → Int} {ps : List Pt} {x : Int} {k : Nat} (ht : t k = wrap64 x) : kS 4 t ps ps.length k = wrap64 (x + kY ps k) := by
  have := tabPts_cnt (ps := ps) ht ps.length (Nat.le_refl _)
  rwa [List.take_length] at this
def Bel (ns : List Nd) (W : Nat) (p : PSt) : Prop := ∀ w, w < W → ∀ k, k < 384 → p.tb w k = wrap64 (tru ns W p k - wayS W p.wy w k)
theorem wayS_add {W i w : Nat} {wy : Nat → Nat → List (List Pt)} {c : List Pt} {k : Nat} (hi : i < W) (hw : w < W) : wayS W (jP wy i c W) w k = wayS W wy w k + if w = i then 0 else kY c k := by
  unfold wayS
  refine jG hi fun j hj => ?_
  unfold jP
  by_cases h : j = i ∧ w < W ∧ w ≠ i
  · rw [if_pos h, if_pos h.1, if_neg h.2.2, wayC_app]; simp [wayC]
  · rw [if_neg h]
    by_cases h1 : j = i
    · rw [if_pos h1, if_pos (Classical.byContradiction fun h2 => h ⟨h1, hw, h2⟩)]; omega
    · rw [if_neg h1]; omega
theorem Bel.chg {ns : List Nd} {W i : Nat} {p q : PSt} {c : List Pt} (h : Bel ns W p) (hi : i < W) (htb : q.tb = p.tb) (hwy : q.wy = p.wy) (ht : ∀ k, k < 384 → tru ns W (pchg W q i c) k = tru ns W p k + kY c k) : Bel ns W (pchg W q i c) := by
  intro w hw k hk
  rw [ht k hk]
  show upd1 q.tb i (kS 4 (q.tb i) c c.length) w k = wrap64 (_ - wayS W (jP q.wy i c W) w k)
  rw [wayS_add hi hw, htb, hwy]
  unfold upd1
  by_cases e : w = i
  · subst e
    rw [if_pos rfl, if_pos rfl, tabPts_all (h w hw k hk)]
    congr 1; omega
  · rw [if_neg e, if_neg e, h w hw k hk]
    congr 1; omega
theorem Bel.tell {ns : List Nd} {W i j : Nat} {p : PSt} (h : Bel ns W p) (hj : j < W) : Bel ns W (zH p i j) := by
  intro w hw k hk
  show upd1 p.tb i (kS 4 (p.tb i) ((p.wy i j).getD 0 []) ((p.wy i j).getD 0 []).length) w k = wrap64 (tru ns W p k - wayS W (kZ p.wy i j ((p.wy i j).drop 1)) w k)
  unfold upd1
  by_cases e : w = i
  · subst e
    rw [if_pos rfl, tabPts_all (h w hw k hk)]
    have : wayS W (kZ p.wy w j ((p.wy w j).drop 1)) w k = wayS W p.wy w k + -kY ((p.wy w j).getD 0 []) k := by
      unfold wayS
      refine jG hj fun b hb => ?_
      unfold kZ
      by_cases hb1 : b = j
      · subst hb1
        rw [if_pos ⟨rfl, rfl⟩, if_pos rfl]
        cases p.wy w b with
        | nil => simp [wayC, kY]
        | cons c l => simp [wayC]; omega
      · rw [if_neg (fun hh => hb1 hh.2), if_neg hb1]; omega
    rw [this]; congr 1; omega
  · rw [if_neg e, h w hw k hk]
    have : wayS W (kZ p.wy i j ((p.wy i j).drop 1)) w k = wayS W p.wy w k := by
      unfold wayS
      refine kP fun b hb => ?_
      unfold kZ
      rw [if_neg (fun hh => e hh.1)]
    rw [this]
def topo (ns : List Nd) (n : Nat) : Nat := if (qV ns n).kind = 4 then 8 else n
def rkS (ns : List Nd) (k : Nat) : Nat := ((k / 4 % 6 * 4 + k % 4) * 9 + topo ns (k / 48)) * 2 + k / 24 % 2
def Com (ns : List Nd) (D : Nat → Nat → Int) (y e s k : Nat) : Prop := k / 4 % 6 ≤ e ∧ 0 ≤ jL ns D (k / 48) (decide (k / 24 % 2 = 1)) (k % 4) y ∧ jL ns D (k / 48) (decide (k / 24 % 2 = 1)) (k % 4) y ≤ s
def Lead (ns : List Nd) (D : Nat → Nat → Int) (q k : Nat) : Prop := rkS ns q < rkS ns k ∧ ∀ y e s, y < ns.length → Com ns D y e s k → Com ns D y e s q
def FineG (ns : List Nd) (D : Nat → Nat → Int) (op : Nat → Prop) (c : List Pt) (l : List (List Pt)) : Prop := ∀ k, k < 384 → 0 < kY c k → ∃ q, q < 384 ∧ Lead ns D q k ∧ (kY c q < 0 ∨ op q ∨ ∃ c' ∈ l, kY c' q < 0)
def WayOk (ns : List Nd) (D : Nat → Nat → Int) (op : Nat → Prop) : List (List Pt) → Prop
  | [] => True
  | c :: l => FineG ns D op c l ∧ WayOk ns D op l
theorem WayOk.snoc {ns : List Nd} {D : Nat → Nat → Int} {op op' : Nat → Prop} {c : List Pt} (hc : FineG ns D op' c []) (ho : ∀ q, op q → op' q ∨ kY c q < 0) : ∀ {l : List (List Pt)}, WayOk ns D op l → WayOk ns D op' (l ++ [c])
  | [], _ => ⟨hc, trivial⟩
  | d :: l, h => by
    refine ⟨fun k hk hp => ?_, WayOk.snoc hc ho h.2⟩
    obtain ⟨q, h1, h2, h3⟩ := h.1 k hk hp
    refine ⟨q, h1, h2, ?_⟩
    rcases h3 with h3 | h3 | ⟨c', h3, h4⟩
    · exact .inl h3
    · rcases ho q h3 with h | h
      · exact .inr (.inl h)
      · exact .inr (.inr ⟨c, List.mem_append.2 (.inr (by simp)), h⟩)
    · exact .inr (.inr ⟨c', List.mem_append.2 (.inl h3), h4⟩)
theorem WayOk.mono {ns : List Nd} {D : Nat → Nat → Int} {op op' : Nat → Prop} (ho : ∀ q, op q → op' q) : ∀ {l : List (List Pt)}, WayOk ns D op l → WayOk ns D op' l
  | [], _ => trivial
  | _ :: _, h => ⟨fun k hk hp => by
      obtain ⟨q, h1, h2, h3⟩ := h.1 k hk hp
      refine ⟨q, h1, h2, ?_⟩
      rcases h3 with h3 | h3 | h3
      · exact .inl h3
      · exact .inr (.inl (ho q h3))
      · exact .inr (.inr h3), WayOk.mono ho h.2⟩
theorem WayOk.drop {ns : List Nd} {D : Nat → Nat → Int} {op : Nat → Prop} {l : List (List Pt)} (h : WayOk ns D op l) : WayOk ns D op (l.drop 1) := by
  cases l with
  | nil => exact trivial
  | cons c l => exact h.2
theorem WayOk.mem {ns : List Nd} {D : Nat → Nat → Int} {op : Nat → Prop} {k : Nat} (hk : k < 384) : ∀ {l : List (List Pt)}, WayOk ns D op l → ∀ c ∈ l, 0 < kY c k → ∃ q, q < 384 ∧ Lead ns D q k ∧ (op q ∨ ∃ c' ∈ l, kY c' q < 0)
  | [], _, c, hc, _ => absurd hc (by simp)
  | d :: l, h, c, hc, hp => by
    rcases List.mem_cons.1 hc with rfl | hc
    · obtain ⟨q, h1, h2, h3⟩ := h.1 k hk hp
      refine ⟨q, h1, h2, ?_⟩
      rcases h3 with h3 | h3 | ⟨c', h3, h4⟩
      · exact .inr ⟨c, by simp, h3⟩
      · exact .inl h3
      · exact .inr ⟨c', by simp [h3], h4⟩
    · obtain ⟨q, h1, h2, h3⟩ := WayOk.mem hk h.2 c hc hp
      refine ⟨q, h1, h2, ?_⟩
      rcases h3 with h3 | ⟨c', h3, h4⟩
      · exact .inl h3
      · exact .inr ⟨c', by simp [h3], h4⟩
theorem wayC_neg {k : Nat} : ∀ {l : List (List Pt)}, (∀ c ∈ l, kY c k ≤ 0) → wayC l k ≤ 0 ∧ ((∃ c ∈ l, kY c k < 0) → wayC l k < 0)
  | [], _ => ⟨Int.le_refl _, fun ⟨_, h, _⟩ => absurd h (by simp)⟩
  | d :: l, h => by
    have h1 := wayC_neg (l := l) (fun c hc => h c (by simp [hc]))
    have h2 := h d (by simp)
    refine ⟨by simp only [wayC]; omega, fun ⟨c, hc, hn⟩ => ?_⟩
    simp only [wayC]
    rcases List.mem_cons.1 hc with rfl | hc
    · omega
    · have := h1.2 ⟨c, hc, hn⟩; omega
theorem sound {ns : List Nd} {D : Nat → Nat → Int} {W w : Nat} {T : Nat → Int} {wy : Nat → Nat → List (List Pt)} {op : Nat → Nat → Prop} {P : Nat → Prop} (hT : ∀ k, 0 ≤ T k) (hop : ∀ j, j < W → ∀ q, q < 384 → op j q → 0 < T q) (hway : ∀ j, j < W → WayOk ns D (op j) (wy w j)) (hP : ∀ q k, Lead ns D q k → P k → P q)
    (hb : ∀ k, k < 384 → P k → T k - wayS W wy w k ≤ 0) : ∀ k, k < 384 → P k → T k = 0 := by
  have main : ∀ r k, k < 384 → P k → rkS ns k < r → T k = 0 ∧ ∀ j, j < W → ∀ c ∈ wy w j, kY c k = 0 := by
    intro r
    induction r with
    | zero => intro k _ _ h; omega
    | succ r ih =>
      intro k hk hp hr
      have hle : ∀ j, j < W → ∀ c ∈ wy w j, kY c k ≤ 0 := by
        intro j hj c hc
        refine Int.not_lt.1 fun hpos => ?_
        obtain ⟨q, h1, h2, h3⟩ := (hway j hj).mem hk c hc hpos
        obtain ⟨g1, g2⟩ := ih q h1 (hP q k h2 hp) (by have := h2.1; omega)
        rcases h3 with h3 | ⟨c', h3, h4⟩
        · have := hop j hj q h1 h3; omega
        · have := g2 j hj c' h3; omega
      have hb1 := hb k hk hp
      have h0 := hT k
      have hneg : ∀ j, j < W → 0 ≤ -wayC (wy w j) k := fun j hj => by have := (wayC_neg (hle j hj)).1; omega
      have hsum : wayS W wy w k = -qL (fun j => -wayC (wy w j) k) W := by
        unfold wayS
        have : ∀ m, qL (fun j => wayC (wy w j) k) m = -qL (fun j => -wayC (wy w j) k) m := by
          intro m
          induction m with
          | zero => rfl
          | succ m ih => rw [qL, qL, ih]; omega
        exact this W
      have hs := zT hneg
      refine ⟨by omega, fun j hj c hc => ?_⟩
      have := hle j hj c hc
      refine Classical.byContradiction fun hne => ?_
      have h5 := (wayC_neg (hle j hj)).2 ⟨c, hc, by omega⟩
      have := sumTo_pos hneg hj (by show 0 < -wayC (wy w j) k; omega)
      omega
  exact fun k hk hp => (main _ k hk hp (Nat.lt_succ_self _)).1
structure DOk (ns : List Nd) (D : Nat → Nat → Int) : Prop where
  d0 : ∀ a x, a < ns.length → x < ns.length → qR (qV ns x) a = true → D a x = 0
  tri : ∀ a x y, a < ns.length → x < ns.length → y < ns.length → qR (qV ns x) a = true → 0 ≤ D x y → 0 ≤ D a y ∧ D a y ≤ D x y + back1 ns x
  low : ∀ a x, a < ns.length → x < ns.length → qR (qV ns x) a = true → (qV ns a).kind ≠ 4 → topo ns a < topo ns x
def uQ (n e s : Nat) (o : Bool) : Nat := 48 * n + (if o then 24 else 0) + 4 * e + s
theorem spo_at {n e s : Nat} {o : Bool} (h6 : e < 6) (h4 : s < 4) : uQ n e s o / 48 = n ∧ uQ n e s o / 4 % 6 = e ∧ uQ n e s o % 4 = s ∧ decide (uQ n e s o / 24 % 2 = 1) = o ∧ uQ n e s o / 24 % 2 = (if o then 1 else 0) := by
  unfold uQ
  cases o
  · simp only [Bool.false_eq_true, if_false]
    refine ⟨by omega, by omega, by omega, by simp; omega, by omega⟩
  · simp only [if_true]
    refine ⟨by omega, by omega, by omega, by simp; omega, by omega⟩
theorem uK {n e s : Nat} {o : Bool} (hn : n < 8) (h6 : e < 6) (h4 : s < 4) : uQ n e s o < 384 := by unfold uQ; split <;> omega
theorem rkS_spo (ns : List Nd) {n e s : Nat} {o : Bool} (h6 : e < 6) (h4 : s < 4) : rkS ns (uQ n e s o) = ((e * 4 + s) * 9 + topo ns n) * 2 + (if o then 1 else 0) := by
  obtain ⟨h1, h2, h3, _, h5⟩ := spo_at (n := n) (o := o) h6 h4
  unfold rkS; rw [h1, h2, h3, h5]
theorem xJ {ns : List Nd} {D : Nat → Nat → Int} {y e0 s0 n e s : Nat} {o : Bool} (h6 : e < 6) (h4 : s < 4) : Com ns D y e0 s0 (uQ n e s o) ↔ e ≤ e0 ∧ 0 ≤ jL ns D n o s y ∧ jL ns D n o s y ≤ s0 := by
  obtain ⟨h1, h2, h3, h4, _⟩ := spo_at (n := n) (o := o) h6 h4
  unfold Com; rw [h1, h2, h3, h4]
theorem topo_le {ns : List Nd} {n : Nat} (h : n < 8) : topo ns n ≤ 8 := by unfold topo; split <;> omega
theorem comes_in {ns : List Nd} {D : Nat → Nat → Int} {n s y : Nat} : jL ns D n false s y = if n = y then (s : Int) else if D n y < 0 then -1 else s + D n y + back1 ns n := by
  unfold jL back1
  by_cases h : n = y
  · simp [h]
  · have h' : ¬ (n == y) = true := by simpa using h
    rw [if_neg h]
    simp only [Bool.not_false, Bool.true_and]
    rw [if_neg h']
    by_cases h2 : D n y < 0
    · simp [h2]
    · rw [if_neg (by simpa using h2), if_neg h2]
      by_cases h3 : (qV ns n).kind = 4
      · rw [if_pos (by simpa using h3), if_pos h3]; omega
      · rw [if_neg (by simpa using h3), if_neg h3]; omega
theorem comes_out {ns : List Nd} {D : Nat → Nat → Int} {n s y : Nat} : jL ns D n true s y = if D n y < 0 then -1 else s + D n y := by
  unfold jL
  simp only [Bool.not_true, Bool.false_and, Bool.false_eq_true, if_false]
  by_cases h2 : D n y < 0
  · simp [h2]
  · rw [if_neg (by simpa using h2), if_neg h2]
theorem lead_work {ns : List Nd} {D : Nat → Nat → Int} (hD : DOk ns D) (h8 : ns.length ≤ 8) {n x e s s' : Nat} (hn : n < ns.length) (hx : x < ns.length) (ht : qR (qV ns x) n = true) (h6 : e < 6) (h4 : s < 4) (h4' : s' < 4) (hs : s' = if (qV ns n).kind = 4 then s + 1 else s) : Lead ns D (uQ n e s false) (uQ x e s' false) := by
  refine ⟨?_, fun y e0 s0 hy h => ?_⟩
  · rw [rkS_spo ns h6 h4, rkS_spo ns h6 h4']
    have := topo_le (ns := ns) (n := n) (by omega)
    by_cases hb : (qV ns n).kind = 4
    · rw [if_pos hb] at hs; subst hs; simp only [Bool.false_eq_true, if_false]; omega
    · rw [if_neg hb] at hs; subst hs
      have := hD.low n x hn hx ht hb
      simp only [Bool.false_eq_true, if_false]; omega
  · rw [xJ h6 h4'] at h
    rw [xJ h6 h4]
    obtain ⟨g1, g2, g3⟩ := h
    refine ⟨g1, ?_⟩
    have hb1 : (s' : Int) = s + back1 ns n := by unfold back1; split at hs <;> simp_all
    have hbn := xS ns n
    have hbx := xS ns x
    rw [comes_in] at g2 g3 ⊢
    by_cases e1 : n = y
    · rw [if_pos e1]
      by_cases e2 : x = y
      · rw [if_pos e2] at g3; omega
      · rw [if_neg e2] at g2 g3
        split at g2
        · omega
        · rename_i h0; rw [if_neg h0] at g3; omega
    · rw [if_neg e1]
      by_cases e2 : x = y
      · subst e2
        rw [if_pos rfl] at g3
        have := hD.d0 n x hn hx ht
        rw [if_neg (by omega)]; omega
      · rw [if_neg e2] at g2 g3
        split at g2
        · omega
        · rename_i h0
          rw [if_neg h0] at g3
          have := hD.tri n x y hn hx hy ht (by omega)
          rw [if_neg (by omega)]; omega
theorem lead_sum {ns : List Nd} {D : Nat → Nat → Int} {n e s : Nat} (hk : (qV ns n).kind = 6) (h6 : e < 6) (h4 : s < 4) : Lead ns D (uQ n e s false) (uQ n e s true) := by
  refine ⟨?_, fun y e0 s0 hy h => ?_⟩
  · rw [rkS_spo ns h6 h4, rkS_spo ns h6 h4]; simp only [Bool.false_eq_true, if_false, if_true]; omega
  · rw [xJ h6 h4] at h
    rw [xJ h6 h4]
    obtain ⟨g1, g2, g3⟩ := h
    refine ⟨g1, ?_⟩
    rw [comes_in]
    rw [comes_out] at g2 g3
    have hb : back1 ns n = 0 := by unfold back1; rw [hk]; rfl
    split at g2
    · omega
    · rename_i h0
      rw [if_neg h0] at g3
      by_cases e1 : n = y
      · rw [if_pos e1]; omega
      · rw [if_neg e1, if_neg h0]; omega
theorem lead_out {ns : List Nd} {D : Nat → Nat → Int} (hD : DOk ns D) {n x e s : Nat} (hn : n < ns.length) (hx : x < ns.length) (ht : qR (qV ns x) n = true) (hk : (qV ns n).kind ≠ 4) (h6 : e < 6) (h4 : s < 4) : Lead ns D (uQ n e s true) (uQ x e s false) := by
  refine ⟨?_, fun y e0 s0 hy h => ?_⟩
  · rw [rkS_spo ns h6 h4, rkS_spo ns h6 h4]
    have := hD.low n x hn hx ht hk
    simp only [Bool.false_eq_true, if_false, if_true]; omega
  · rw [xJ h6 h4] at h
    rw [xJ h6 h4]
    obtain ⟨g1, g2, g3⟩ := h
    refine ⟨g1, ?_⟩
    rw [comes_out]
    rw [comes_in] at g2 g3
    have hbx := xS ns x
    by_cases e2 : x = y
    · subst e2
      rw [if_pos rfl] at g3
      have := hD.d0 n x hn hx ht
      rw [if_neg (by omega)]; omega
    · rw [if_neg e2] at g2 g3
      split at g2
      · omega
      · rename_i h0
        rw [if_neg h0] at g3
        have := hD.tri n x y hn hx hy ht (by omega)
        rw [if_neg (by omega)]; omega
theorem lead_adv {ns : List Nd} {D : Nat → Nat → Int} {m e : Nat} (h6 : e + 1 < 6) (hm : m < 8) : Lead ns D (uQ m e 0 true) (uQ m (e + 1) 0 true) := by
  refine ⟨?_, fun y e0 s0 hy h => ?_⟩
  · rw [rkS_spo ns (by omega) (by omega), rkS_spo ns h6 (by omega)]; omega
  · rw [xJ h6 (by omega)] at h
    rw [xJ (by omega) (by omega)]
    exact ⟨by omega, h.2⟩
theorem yN (n e s : Nat) (o : Bool) (c : Int) : spP 4 ⟨(n : Int), o, (e : Int), (s : Int), c⟩ = uQ n e s o := spP_at n o e s c
theorem put_pos {ns : List Nd} {n : Int} {m : Gv} {e s : Nat} (he : m.node = e) (hs : m.epoch = s) {k : Nat} : ∀ K, 0 ≤ kY (jW ns n m K) k ∧ (0 < kY (jW ns n m K) k → ∃ x, x < K ∧ qR (qV ns x) n = true ∧ k = uQ x e s false) := by
  intro K
  induction K with
  | zero => exact ⟨Int.le_refl _, fun h => absurd h (by simp [jW, kY])⟩
  | succ K ih =>
    rw [jW]
    split
    · rename_i ht
      rw [cntP_app]
      simp only [kY, he, hs, yN]
      by_cases h : uQ K e s false = k
      · rw [if_pos h]
        exact ⟨by omega, fun _ => ⟨K, by omega, ht, h.symm⟩⟩
      · rw [if_neg h]
        refine ⟨by omega, fun hp => ?_⟩
        obtain ⟨x, h1, h2, h3⟩ := ih.2 (by omega)
        exact ⟨x, by omega, h2, h3⟩
    · exact ⟨ih.1, fun hp => by obtain ⟨x, h1, h2, h3⟩ := ih.2 hp; exact ⟨x, by omega, h2, h3⟩⟩
theorem lead_ne {ns : List Nd} {D : Nat → Nat → Int} {k : Nat} : ¬ Lead ns D k k := fun h => Nat.lt_irrefl _ h.1
theorem fine_of {ns : List Nd} {D : Nat → Nat → Int} {op : Nat → Prop} {c : List Pt} {q : Nat} (hq : q < 384) (hc : ∀ k, 0 ≤ kY c k ∧ (0 < kY c k → Lead ns D q k)) {a : Pt} (ha : spP 4 a = q) (hn : a.count = -1) : FineG ns D op (a :: c) [] := by
  intro k _ hp
  have h0 := hc k
  simp only [kY, ha, hn] at hp
  refine ⟨q, hq, h0.2 (by split at hp <;> omega), .inl ?_⟩
  simp only [kY, ha, if_true, hn]
  have h1 := hc q
  by_cases h : 0 < kY c q
  · exact absurd (h1.2 h) lead_ne
  · omega
theorem fine_work {ns : List Nd} {D : Nat → Nat → Int} {op : Nat → Prop} (hD : DOk ns D) (h8 : ns.length ≤ 8) {R : Nat} (hR : R ≤ 4) {p : PSt} {i n e s : Nat} {v : Int} (hn : n < ns.length) (h6 : e < 6) (h4 : s < R) : FineG ns D op (⟨n, false, e, s, -1⟩ :: pwQ ns R p i n e s v) [] := by
  refine fine_of (q := uQ n e s false) (uK (by omega) h6 (by omega)) (fun k => ?_) (yN _ _ _ _ _) rfl
  by_cases h : (qV ns n).kind = 6
  · rw [pwQ_six h]
    split
    · exact ⟨Int.le_refl _, fun h => absurd h (by simp [kY])⟩
    · simp only [kY, yN]
      by_cases e1 : uQ n e s true = k
      · rw [if_pos e1, ← e1]; exact ⟨by omega, fun _ => lead_sum h h6 (by omega)⟩
      · rw [if_neg e1]; exact ⟨by omega, fun h => by omega⟩
  · rw [pwQ_not h]
    split
    · rename_i hu
      obtain ⟨s', t1, t2, t3, t4⟩ := pwM_time hR h4 hu
      have := put_pos (ns := ns) (n := (n : Int)) t1 t2 (k := k) ns.length
      refine ⟨this.1, fun hp => ?_⟩
      obtain ⟨x, h1, h2, h3⟩ := this.2 hp
      rw [h3]
      exact lead_work hD h8 hn h1 h2 h6 (by omega) (by omega) t4
    · exact ⟨Int.le_refl _, fun h => absurd h (by simp [kY])⟩
end Go.Proofs.Ytfemleimkbjehaa
