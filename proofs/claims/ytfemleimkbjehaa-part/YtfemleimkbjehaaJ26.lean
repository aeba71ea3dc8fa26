import Derived.Test.YtfemleimkbjehaaJ25
set_option maxRecDepth 1000000
set_option maxHeartbeats 40000000
set_option linter.unusedVariables false
set_option linter.unusedSimpArgs false
namespace Go.Proofs.Ytfemleimkbjehaa
open Go.RowKit
def qH (f : Nat → Int) : Nat → Int
  | 0 => 0
  | k + 1 => qH f k + f k
theorem kP {f g : Nat → Int} : ∀ {k : Nat}, (∀ i, i < k → f i = g i) → qH f k = qH g k
  | 0, _ => rfl
  | k + 1, h => by rw [qH, qH, kP (k := k) (fun i hi => h i (by omega)), h k (by omega)]
theorem jH {f g : Nat → Int} {j : Nat} {d : Int} : ∀ {k : Nat}, j < k → (∀ i, i < k → g i = f i + if i = j then d else 0) → qH g k = qH f k + d
  | 0, h, _ => absurd h (Nat.not_lt_zero _)
  | k + 1, hj, h => by
    rw [qH, qH, h k (by omega)]
    by_cases e : k = j
    · rw [kP (f := g) (g := f) (k := k) (fun i hi => by rw [h i (by omega), if_neg (by omega)]; omega), if_pos e]; omega
    · rw [jH (k := k) (by omega) (fun i hi => h i (by omega)), if_neg e]; omega
theorem zP {f : Nat → Int} : ∀ {k : Nat}, (∀ i, i < k → 0 ≤ f i) → 0 ≤ qH f k
  | 0, _ => Int.le_refl _
  | k + 1, h => by have := zP (k := k) (fun i hi => h i (by omega)); have := h k (by omega); rw [qH]; omega
theorem lM {f : Nat → Int} {j : Nat} : ∀ {k : Nat}, (∀ i, i < k → 0 ≤ f i) → j < k → 0 < f j → 0 < qH f k
  | 0, _, hj, _ => absurd hj (Nat.not_lt_zero _)
  | k + 1, h, hj, hp => by
    have h1 := zP (k := k) (fun i hi => h i (by omega))
    have h2 := h k (by omega)
    rw [qH]
    by_cases e : j = k
    · subst e; omega
    · have := lM (k := k) (fun i hi => h i (by omega)) (by omega) hp; omega
theorem mH {f : Nat → Int} {B : Int} : ∀ {k : Nat}, (∀ i, i < k → -B ≤ f i ∧ f i ≤ B) → -(k * B) ≤ qH f k ∧ qH f k ≤ k * B
  | 0, _ => by simp [qH]
  | k + 1, h => by
    have h1 := mH (k := k) (fun i hi => h i (by omega))
    have h2 := h k (by omega)
    have : ((k + 1 : Nat) : Int) * B = k * B + B := by rw [Int.natCast_add, Int.add_mul]; simp
    rw [qH, this]; omega
def kX : List Pt → Nat → Int
  | [], _ => 0
  | q :: c, k => (if rY 4 q = k then q.count else 0) + kX c k
theorem uC (a b : List Pt) (k : Nat) : kX (a ++ b) k = kX a k + kX b k := by
  induction a with
  | nil => simp [kX]
  | cons q a ih => simp only [List.cons_append, kX, ih]; omega
def tS : List (List Pt) → Nat → Int
  | [], _ => 0
  | c :: l, k => kX c k + tS l k
theorem wayC_app (a b : List (List Pt)) (k : Nat) : tS (a ++ b) k = tS a k + tS b k := by
  induction a with
  | nil => simp [tS]
  | cons q a ih => simp only [List.cons_append, tS, ih]; omega
def pV (W : Nat) (wy : Nat → Nat → List (List Pt)) (w k : Nat) : Int := qH (fun j => tS (wy w j) k) W
def tY : List Gv → Nat → Nat → Int
  | [], _, _ => 0
  | m :: l, e, s => (if m.node = e ∧ m.epoch = s then 1 else 0) + tY l e s
theorem msgC_app (a b : List Gv) (e s : Nat) : tY (a ++ b) e s = tY a e s + tY b e s := by
  induction a with
  | nil => simp [tY]
  | cons q a ih => simp only [List.cons_append, tY, ih]; omega
theorem rG (a : List Gv) (e s : Nat) : 0 ≤ tY a e s := by
  induction a with
  | nil => simp [tY]
  | cons q a ih => simp only [tY]; split <;> omega
theorem msgC_le (a : List Gv) (e s : Nat) : tY a e s ≤ a.length := by
  induction a with
  | nil => simp [tY]
  | cons q a ih => simp only [tY, List.length_cons]; split <;> omega
theorem msgC_mem {a : List Gv} {m : Gv} {e s : Nat} (h : m ∈ a) (he : m.node = e) (hs : m.epoch = s) : 0 < tY a e s := by
  induction a with
  | nil => simp at h
  | cons q a ih =>
    have := rG a e s
    simp only [tY]
    rcases List.mem_cons.1 h with rfl | h
    · rw [if_pos ⟨he, hs⟩]; omega
    · have := ih h; split <;> omega
theorem msgC_erase : ∀ (a : List Gv) (j : Nat) (e s : Nat), j < a.length → tY (a.eraseIdx j) e s = tY a e s - if (vR a j).node = e ∧ (vR a j).epoch = s then 1 else 0
  | [], _, _, _, h => absurd h (Nat.not_lt_zero _)
  | q :: a, 0, e, s, _ => by simp only [List.eraseIdx_cons_zero, tY]; show _ = _ - (if q.node = e ∧ q.epoch = s then (1 : Int) else 0); omega
  | q :: a, j + 1, e, s, h => by
    have := msgC_erase a j e s (by simpa using h)
    simp only [List.eraseIdx_cons_succ, tY, this]
    show _ = _ - (if (vR a j).node = e ∧ (vR a j).epoch = s then (1 : Int) else 0)
    omega
def tZ (W : Nat) (wt : Nat → Nat → List Gv) (k : Nat) : Int := qH (fun i => tY (wt i (k / 48)) (k / 4 % 6) (k % 4)) W
def rM (p : PSt) (i k : Nat) : Bool := !p.cl i (k / 48) && (decide (p.ep i (k / 48) = ((k / 4 % 6 : Nat) : Int)) && decide (k % 4 = 0))
def kdN (ns : List Nd) (n : Nat) : Int := if n < ns.length then (qV ns n).kind else 1
theorem gY {ns : List Nd} {n : Nat} (h : n < ns.length) : kdN ns n = (qV ns n).kind := if_pos h
def rU (ns : List Nd) (W : Nat) (p : PSt) (k : Nat) : Int :=
  if kdN ns (k / 48) = 0 then qH (fun i => if rM p i k then 1 else 0) W else if kdN ns (k / 48) = 6 then qH (fun i => if wnOf (p.tl i (k / 48)) (k % 24) then 1 else 0) W else 0
def pC (ns : List Nd) (W : Nat) (p : PSt) (k : Nat) : Int := if k / 24 % 2 = 0 then tZ W p.wt k else rU ns W p k
theorem truIn_nonneg (W : Nat) (wt : Nat → Nat → List Gv) (k : Nat) : 0 ≤ tZ W wt k := zP fun _ _ => rG _ _ _
theorem ite_nn (b : Bool) : (0 : Int) ≤ if b then 1 else 0 := by split <;> omega
theorem rW (ns : List Nd) (W : Nat) (p : PSt) (k : Nat) : 0 ≤ pC ns W p k := by
  unfold pC rU
  split
  · exact truIn_nonneg _ _ _
  · split
    · exact zP fun _ _ => ite_nn _
    · split
      · exact zP fun _ _ => ite_nn _
      · exact Int.le_refl _
theorem spotN_4 (n e s : Nat) (o : Bool) : jZ 4 n e s o = 48 * n + (if o then 24 else 0) + 4 * e + s := by
  unfold jZ; split <;> omega
theorem cH {ns : List Nd} {W i : Nat} {n : Int} {m : Gv} {e s : Nat} (hi : i < W) (he : m.node = e) (h6 : e < 6) (hs : m.epoch = s) (h4 : s < 4) (wt : Nat → Nat → List Gv) {k : Nat} (hk : k < 384) (ho : k / 24 % 2 = 0) : ∀ K, K ≤ 8 → tZ W (jB ns W i n m wt K) k = tZ W wt k + kX (jX ns n m K) k := by
  intro K
  induction K with
  | zero => intro _; simp [jB, jX, kX]
  | succ K ih =>
    intro hK
    have ih := ih (by omega)
    rw [jB, jX]
    split
    · rw [uC, ← Int.add_assoc, ← ih]
      obtain ⟨a, ha, hlt⟩ : ∃ a : Nat, (atI ns W i m.value K).toNat = a ∧ a < W := ⟨_, rfl, by have := atI_lt (ns := ns) (W := W) (i := i) (k := K) (v := m.value) hi; omega⟩
      rw [ha]
      have hsp : rY 4 ⟨(K : Int), false, m.node, m.epoch, 1⟩ = 48 * K + 4 * e + s := by unfold rY; simp only [he, hs, Int.toNat_natCast]; rw [spotN_4]; simp
      unfold tZ
      refine jH hlt fun b hb => ?_
      simp only [kX, hsp]
      unfold kY
      by_cases h1 : b = a ∧ k / 48 = K
      · rw [if_pos h1, if_pos h1.1, msgC_app, h1.1, h1.2]
        simp only [tY, he, hs]
        by_cases h2 : 48 * K + 4 * e + s = k
        · rw [if_pos h2, if_pos (by omega)]
        · rw [if_neg h2, if_neg (by omega)]
      · rw [if_neg h1]
        by_cases h3 : b = a
        · rw [if_pos h3, if_neg (by omega)]; omega
        · rw [if_neg h3]; omega
    · exact ih
theorem nY {ns : List Nd} {n : Int} {m : Gv} {e s : Nat} (he : m.node = e) (h6 : e < 6) (hs : m.epoch = s) (h4 : s < 4) {k : Nat} (ho : k / 24 % 2 = 1) : ∀ K, kX (jX ns n m K) k = 0 := by
  intro K
  induction K with
  | zero => simp [jX, kX]
  | succ K ih =>
    rw [jX]
    split
    · rw [uC, ih]
      have hsp : rY 4 ⟨(K : Int), false, m.node, m.epoch, 1⟩ = 48 * K + 4 * e + s := by unfold rY; simp only [he, hs, Int.toNat_natCast]; rw [spotN_4]; simp
      simp only [kX, hsp]
      rw [if_neg (by omega)]; rfl
    · exact ih
theorem wnOf_add (f : Nat → Value) {e s : Nat} (v q : Int) {k : Nat} (hk : k < 24) : wnOf (yP f e s v q) k = if k = e * 4 + s then true else wnOf f k := by
  unfold wnOf yP
  by_cases h : k = e * 4 + s
  · simp [h]
  · rw [if_neg h, if_neg (by omega), if_neg (by omega), if_neg h]
theorem wnOf_take (f : Nat → Value) {e s : Nat} {k : Nat} (hk : k < 24) : wnOf (vX f e s) k = if k = e * 4 + s then false else wnOf f k := by
  unfold wnOf vX
  by_cases h : k = e * 4 + s
  · simp [h]
  · rw [if_neg h, if_neg (by omega), if_neg (by omega), if_neg h]
theorem pK (n : Nat) (o : Bool) (e s : Nat) (c : Int) : rY 4 ⟨(n : Int), o, (e : Int), (s : Int), c⟩ = 48 * n + (if o then 24 else 0) + 4 * e + s := by
  unfold rY; simp only [Int.toNat_natCast]; exact spotN_4 n e s o
theorem truIn_take {W i n j : Nat} {p : PSt} {e s : Nat} {v : Int} (hi : i < W) (hj : j < (p.wt i n).length) (hm : vR (p.wt i n) j = ⟨(e : Int), (s : Int), v⟩) (h6 : e < 6) (h4 : s < 4) {k : Nat} (ho : k / 24 % 2 = 0) :
    tZ W (jJ p i n j).wt k = tZ W p.wt k + (if 48 * n + 4 * e + s = k then -1 else 0) := by
  unfold tZ jJ
  refine jH hi fun b hb => ?_
  simp only
  unfold kY
  by_cases h1 : b = i ∧ k / 48 = n
  · rw [if_pos h1, if_pos h1.1, h1.1, h1.2, msgC_erase _ _ _ _ hj, hm]
    simp only
    by_cases h2 : 48 * n + 4 * e + s = k
    · rw [if_pos h2, if_pos (by omega)]; omega
    · rw [if_neg h2, if_neg (by omega)]; omega
  · rw [if_neg h1]
    by_cases h3 : b = i
    · rw [if_pos h3, if_neg (by omega)]; omega
    · rw [if_neg h3]; omega
theorem pwU_back {ns : List Nd} {R : Nat} {lb : List Gv} {n e s : Nat} {v : Int} (h : rN ns R lb n e s v = true) (h4 : (qV ns n).kind = 4) : s + 1 < R := by
  unfold rN at h
  rw [h4] at h
  have : (s : Int) + 1 < R := of_decide_eq_true h
  omega
theorem fD {ns : List Nd} {R : Nat} {lb : List Gv} {n e s : Nat} {v : Int} (hR : R ≤ 4) (h4 : s < R) (h : rN ns R lb n e s v = true) : ∃ s' : Nat, (pH ns n e s v).node = e ∧ (pH ns n e s v).epoch = s' ∧ s' < R ∧ s' = (if (qV ns n).kind = 4 then s + 1 else s) := by
  unfold pH
  by_cases h4' : (qV ns n).kind = 4
  · have := pwU_back h h4'
    exact ⟨s + 1, rfl, by simp [h4'], by omega, by simp [h4']⟩
  · exact ⟨s, rfl, by simp [h4'], h4, by simp [h4']⟩
theorem pwU_six {ns : List Nd} {R : Nat} {lb : List Gv} {n e s : Nat} {v : Int} (h : (qV ns n).kind = 6) : rN ns R lb n e s v = false := by
  unfold rN; rw [h]; rfl
theorem fB {ns : List Nd} {R : Nat} {p : PSt} {i n e s : Nat} {v : Int} (h : (qV ns n).kind = 6) : tK ns R p i n e s v = if wnOf (p.tl i n) (e * 4 + s) then [] else [⟨(n : Int), true, (e : Int), (s : Int), 1⟩] := by
  unfold tK; rw [h]; rfl
theorem fC {ns : List Nd} {R : Nat} {p : PSt} {i n e s : Nat} {v : Int} (h : (qV ns n).kind ≠ 6) : tK ns R p i n e s v = if rN ns R (p.lb i n) n e s v then jX ns n (pH ns n e s v) ns.length else [] := by
  unfold tK; rw [if_neg (by simpa using h)]
theorem tru_work {ns : List Nd} {R W : Nat} {p : PSt} {i n j e s : Nat} {v : Int} (hi : i < W) (hn : n < ns.length) (h8 : ns.length ≤ 8) (hR : R ≤ 4) (hj : j < (p.wt i n).length) (hm : vR (p.wt i n) j = ⟨(e : Int), (s : Int), v⟩) (h6 : e < 6) (h4 : s < R) {k : Nat} (hk : k < 384) :
    pC ns W (xQ ns R W (jJ p i n j) i n e s v) k = pC ns W p k + kX (⟨n, false, e, s, -1⟩ :: tK ns R (jJ p i n j) i n e s v) k := by
  have hsp := pK n false e s (-1)
  simp only [Bool.false_eq_true, if_false, Nat.add_zero] at hsp
  have hkd := gY hn
  unfold pC
  by_cases ho : k / 24 % 2 = 0
  · rw [if_pos ho, if_pos ho]
    have ht := truIn_take hi hj hm h6 (show s < 4 by omega) ho
    rw [kX, hsp]
    rw [← Int.add_assoc, ← ht]
    show tZ W (if rN ns R ((jJ p i n j).lb i n) n e s v then jB ns W i n (pH ns n e s v) (jJ p i n j).wt ns.length else (jJ p i n j).wt) k = _
    by_cases hs6 : (qV ns n).kind = 6
    · rw [pwU_six hs6, fB hs6]
      simp only [Bool.false_eq_true, if_false]
      split
      · simp [kX]
      · have := pK n true e s 1
        simp only [if_true] at this
        simp only [kX, this]
        rw [if_neg (by omega)]; omega
    · rw [fC hs6]
      cases hu : rN ns R ((jJ p i n j).lb i n) n e s v with
      | false => simp [kX]
      | true =>
        obtain ⟨s', t1, t2, t3, _⟩ := fD hR h4 hu
        simp only [if_true]
        exact cH hi t1 h6 t2 (by omega) _ hk ho _ h8
  · rw [if_neg ho, if_neg ho]
    rw [kX, hsp, if_neg (by omega), Int.zero_add]
    by_cases hs6 : (qV ns n).kind = 6
    · rw [fB hs6]
      unfold rU
      by_cases hk0 : kdN ns (k / 48) = 0
      · rw [if_pos hk0, if_pos hk0]
        have : kX (if wnOf ((jJ p i n j).tl i n) (e * 4 + s) = true then [] else [⟨(n : Int), true, (e : Int), (s : Int), 1⟩]) k = 0 := by
          split
          · rfl
          · have := pK n true e s 1
            simp only [if_true] at this
            simp only [kX, this]
            rw [if_neg (fun hh => by have : k / 48 = n := by omega
                                     rw [this] at hk0; omega)]; rfl
        rw [this, Int.add_zero]; rfl
      · rw [if_neg hk0, if_neg hk0]
        by_cases hk6 : kdN ns (k / 48) = 6
        · rw [if_pos hk6, if_pos hk6]
          have htl : ∀ b c, (xQ ns R W (jJ p i n j) i n e s v).tl b c = kY p.tl i n (yP (p.tl i n) e s v (qV ns n).k) b c := fun b c => by
            show (if (qV ns n).kind == 6 then kY p.tl i n (yP (p.tl i n) e s v (qV ns n).k) else p.tl) b c = _
            rw [if_pos (by simpa using hs6)]
          refine jH hi fun b hb => ?_
          rw [htl]
          unfold kY
          show _ = (if wnOf (p.tl b (k / 48)) (k % 24) = true then (1 : Int) else 0) + (if b = i then kX (if wnOf (p.tl i n) (e * 4 + s) = true then [] else [⟨(n : Int), true, (e : Int), (s : Int), 1⟩]) k else 0)
          have hsq := pK n true e s 1
          simp only [if_true] at hsq
          by_cases h1 : b = i ∧ k / 48 = n
          · rw [if_pos h1, if_pos h1.1, wnOf_add _ _ _ (by omega), h1.1, h1.2]
            by_cases h2 : k % 24 = e * 4 + s
            · rw [if_pos h2, h2]
              cases hw : wnOf (p.tl i n) (e * 4 + s) with
              | true => simp [kX]
              | false => simp only [Bool.false_eq_true, if_false, if_true, kX, hsq]; rw [if_pos (by omega)]; rfl
            · rw [if_neg h2]
              cases hw : wnOf (p.tl i n) (e * 4 + s) with
              | true => simp [kX]
              | false =>
                have hc0 : kX [⟨(n : Int), true, (e : Int), (s : Int), 1⟩] k = 0 := by
                  simp only [kX]; rw [if_neg (by rw [hsq]; omega)]; rfl
                simp only [Bool.false_eq_true, if_false, hc0]; omega
          · rw [if_neg h1]
            by_cases h3 : b = i
            · rw [if_pos h3]
              have : kX (if wnOf (p.tl i n) (e * 4 + s) = true then [] else [⟨(n : Int), true, (e : Int), (s : Int), 1⟩]) k = 0 := by
                split
                · rfl
                · simp only [kX, hsq]; rw [if_neg (by omega)]; rfl
              rw [this]; omega
            · rw [if_neg h3]; omega
        · rw [if_neg hk6, if_neg hk6]
          split
          · rfl
          · have := pK n true e s 1
            simp only [if_true] at this
            simp only [kX, this]
            rw [if_neg (fun hh => by have : k / 48 = n := by omega
                                     rw [this] at hk6; omega)]; rfl
    · rw [fC hs6]
      have h0 : kX (if rN ns R ((jJ p i n j).lb i n) n e s v = true then jX ns n (pH ns n e s v) ns.length else []) k = 0 := by
        cases hu : rN ns R ((jJ p i n j).lb i n) n e s v with
        | false => rfl
        | true =>
          obtain ⟨s', t1, t2, t3, _⟩ := fD hR h4 hu
          simp only [if_true]
          exact nY t1 h6 t2 (by omega) (by omega) _
      rw [h0, Int.add_zero]
      have htl : (xQ ns R W (jJ p i n j) i n e s v).tl = p.tl := by
        show (if (qV ns n).kind == 6 then _ else p.tl) = _
        rw [if_neg (by simpa using hs6)]
      unfold rU rM
      rw [htl]; rfl
theorem truIn_note {ns : List Nd} {W i n e s : Nat} (hi : i < W) (h8 : ns.length ≤ 8) (h6 : e < 6) (h4 : s < 4) (l : List Int) (wt : Nat → Nat → List Gv) {k : Nat} (hk : k < 384) (ho : k / 24 % 2 = 0) : ∀ K, tZ W (ntW ns W i n e s l wt K) k = tZ W wt k + kX (nK ns n e s l K) k := by
  intro K
  induction K with
  | zero =>
    have := pK n true e s (-1)
    simp only [if_true] at this
    simp only [ntW, nK, kX, this]
    rw [if_neg (by omega)]; omega
  | succ K ih =>
    rw [ntW, nK, uC, ← Int.add_assoc, ← ih]
    exact cH hi rfl h6 rfl h4 _ hk ho _ h8
theorem cntP_note_out {ns : List Nd} {n e s : Nat} (h6 : e < 6) (h4 : s < 4) (l : List Int) {k : Nat} (ho : k / 24 % 2 = 1) : ∀ K, kX (nK ns n e s l K) k = if 48 * n + 24 + 4 * e + s = k then -1 else 0 := by
  intro K
  induction K with
  | zero =>
    have := pK n true e s (-1)
    simp only [if_true] at this
    simp only [nK, kX, this]; omega
  | succ K ih => rw [nK, uC, ih, nY rfl h6 rfl h4 ho]; omega
theorem tru_note {ns : List Nd} {W : Nat} {p : PSt} {i n e s : Nat} (hi : i < W) (hn : n < ns.length) (h8 : ns.length ≤ 8) (h6 : e < 6) (h4 : s < 4) (hk6 : (qV ns n).kind = 6) (hw : wnOf (p.tl i n) (e * 4 + s) = true) {k : Nat} (hk : k < 384) :
    pC ns W (yB ns W p i n e s) k = pC ns W p k + kX (nK ns n e s (xK (p.tl i n) e s) (xK (p.tl i n) e s).length) k := by
  have hkd := gY hn
  unfold pC
  by_cases ho : k / 24 % 2 = 0
  · rw [if_pos ho, if_pos ho]
    exact truIn_note hi h8 h6 h4 _ p.wt hk ho _
  · rw [if_neg ho, if_neg ho, cntP_note_out h6 h4 _ (by omega)]
    unfold rU
    by_cases hk0 : kdN ns (k / 48) = 0
    · rw [if_pos hk0, if_pos hk0, if_neg (fun hh => by
        have : k / 48 = n := by omega
        rw [this] at hk0; omega), Int.add_zero]; rfl
    · rw [if_neg hk0, if_neg hk0]
      by_cases hk7 : kdN ns (k / 48) = 6
      · rw [if_pos hk7, if_pos hk7]
        refine jH hi fun b hb => ?_
        show (if wnOf (kY p.tl i n (vX (p.tl i n) e s) b (k / 48)) (k % 24) = true then (1 : Int) else 0) = _
        unfold kY
        by_cases h1 : b = i ∧ k / 48 = n
        · rw [if_pos h1, if_pos h1.1, wnOf_take _ (by omega), h1.1, h1.2]
          by_cases h2 : k % 24 = e * 4 + s
          · rw [if_pos h2, h2, hw, if_pos (show 48 * n + 24 + 4 * e + s = k by omega)]; simp
          · rw [if_neg h2, if_neg (show ¬ 48 * n + 24 + 4 * e + s = k by omega)]; omega
        · rw [if_neg h1]
          by_cases h3 : b = i
          · have z1 : (if 48 * n + 24 + 4 * e + s = k then (-1 : Int) else 0) = 0 := if_neg (by omega)
            rw [if_pos h3, z1]; omega
          · rw [if_neg h3]; omega
      · rw [if_neg hk7, if_neg hk7, if_neg (fun hh => by
          have : k / 48 = n := by omega
          rw [this] at hk7; omega)]; rfl
theorem tru_give {ns : List Nd} {W : Nat} {p : PSt} {i m e : Nat} {v : Int} (hi : i < W) (h8 : ns.length ≤ 8) (he : p.ep i m = e) (h6 : e < 6) {k : Nat} (hk : k < 384) :
    pC ns W (yV ns W p i m v) k = pC ns W p k + kX (jX ns m ⟨p.ep i m, 0, v⟩ ns.length) k := by
  unfold pC
  by_cases ho : k / 24 % 2 = 0
  · rw [if_pos ho, if_pos ho]
    exact cH (s := 0) hi he h6 rfl (by omega) p.wt hk ho _ h8
  · rw [if_neg ho, if_neg ho, nY (s := 0) he h6 rfl (by omega) (by omega), Int.add_zero]; rfl
theorem spP_src (m e : Nat) (c : Int) : rY 4 ⟨(m : Int), true, (e : Int), 0, c⟩ = 48 * m + 24 + 4 * e := by
  have := pK m true e 0 c
  simpa using this
theorem tru_adv {ns : List Nd} {W : Nat} {p : PSt} {i m e : Nat} (hi : i < W) (hm : m < ns.length) (hc : p.cl i m = false) (he : p.ep i m = e) (h6 : e < 5) (hk0 : (qV ns m).kind = 0) {k : Nat} :
    pC ns W (uT W p i m) k = pC ns W p k + kX [⟨m, true, p.ep i m, 0, -1⟩, ⟨m, true, p.ep i m + 1, 0, 1⟩] k := by
  have h1 := spP_src m e (-1)
  have h2 := spP_src m (e + 1) 1
  rw [Int.natCast_add] at h2
  simp only [kX, he]
  rw [h1, show ((e : Int) + 1) = (e : Int) + ((1 : Nat) : Int) from rfl, h2]
  unfold pC
  by_cases ho : k / 24 % 2 = 0
  · rw [if_pos ho, if_pos ho, if_neg (by omega), if_neg (by omega)]
    show tZ W p.wt k = _
    omega
  · rw [if_neg ho, if_neg ho]
    unfold rU
    by_cases hkk : kdN ns (k / 48) = 0
    · rw [if_pos hkk, if_pos hkk]
      refine jH hi fun b hb => ?_
      show (if !p.cl b (k / 48) && (decide (kY p.ep i m (p.ep i m + 1) b (k / 48) = ((k / 4 % 6 : Nat) : Int)) && decide (k % 4 = 0)) then (1 : Int) else 0) = (if rM p b k then 1 else 0) + _
      unfold kY rM
      by_cases hb1 : b = i ∧ k / 48 = m
      · rw [if_pos hb1, if_pos hb1.1, hb1.1, hb1.2, hc, he]
        simp only [Bool.not_false, Bool.true_and, Bool.and_eq_true, decide_eq_true_eq]
        split <;> split <;> split <;> split <;> omega
      · rw [if_neg hb1]
        by_cases h3 : b = i
        · have z1 : (if 48 * m + 24 + 4 * e = k then (-1 : Int) else 0) = 0 := if_neg (by omega)
          have z2 : (if 48 * m + 24 + 4 * (e + 1) = k then (1 : Int) else 0) = 0 := if_neg (by omega)
          rw [if_pos h3, z1, z2]; omega
        · rw [if_neg h3]; omega
    · have hne : k / 48 ≠ m := fun h => hkk (h ▸ (gY hm).trans hk0)
      have z1 : (if 48 * m + 24 + 4 * e = k then (-1 : Int) else 0) = 0 := if_neg (by omega)
      have z2 : (if 48 * m + 24 + 4 * (e + 1) = k then (1 : Int) else 0) = 0 := if_neg (by omega)
      rw [if_neg hkk, if_neg hkk, z1, z2]
      show (if kdN ns (k / 48) = 6 then qH (fun i => if wnOf (p.tl i (k / 48)) (k % 24) = true then 1 else 0) W else 0) = _
      omega
theorem tru_cls {ns : List Nd} {W : Nat} {p : PSt} {i m e : Nat} (hi : i < W) (hm : m < ns.length) (hc : p.cl i m = false) (he : p.ep i m = e) (h6 : e < 6) (hk0 : (qV ns m).kind = 0) {k : Nat} :
    pC ns W (xF W p i m) k = pC ns W p k + kX [⟨m, true, p.ep i m, 0, -1⟩] k := by
  have h1 := spP_src m e (-1)
  simp only [kX, he]
  rw [h1]
  unfold pC
  by_cases ho : k / 24 % 2 = 0
  · rw [if_pos ho, if_pos ho, if_neg (by omega)]
    show tZ W p.wt k = _
    omega
  · rw [if_neg ho, if_neg ho]
    unfold rU
    by_cases hkk : kdN ns (k / 48) = 0
    · rw [if_pos hkk, if_pos hkk]
      refine jH hi fun b hb => ?_
      show (if !(kY p.cl i m true b (k / 48)) && (decide (p.ep b (k / 48) = ((k / 4 % 6 : Nat) : Int)) && decide (k % 4 = 0)) then (1 : Int) else 0) = (if rM p b k then 1 else 0) + _
      unfold kY rM
      by_cases hb1 : b = i ∧ k / 48 = m
      · rw [if_pos hb1, if_pos hb1.1, hb1.1, hb1.2, hc, he]
        simp only [Bool.not_false, Bool.true_and, Bool.and_eq_true, decide_eq_true_eq, Bool.not_true, Bool.false_and, Bool.false_eq_true, if_false]
        split <;> split <;> omega
      · rw [if_neg hb1]
        by_cases h3 : b = i
        · have z1 : (if 48 * m + 24 + 4 * e = k then (-1 : Int) else 0) = 0 := if_neg (by omega)
          rw [if_pos h3, z1]; omega
        · rw [if_neg h3]; omega
    · have hne : k / 48 ≠ m := fun h => hkk (h ▸ (gY hm).trans hk0)
      have z1 : (if 48 * m + 24 + 4 * e = k then (-1 : Int) else 0) = 0 := if_neg (by omega)
      rw [if_neg hkk, if_neg hkk, z1]
      show (if kdN ns (k / 48) = 6 then qH (fun i => if wnOf (p.tl i (k / 48)) (k % 24) = true then 1 else 0) W else 0) = _
      omega
theorem wrap_wrap (a b : Int) : wrap64 (wrap64 a + b) = wrap64 (a + b) := by unfold wrap64; omega
theorem wrap_small {a : Int} (h : -9223372036854775808 ≤ a) (h2 : a ≤ 9223372036854775807) : wrap64 a = a := by unfold wrap64; omega
theorem tabPts_cnt {t : Nat → Int} {ps : List Pt} {x : Int} {k : Nat} (ht : t k = wrap64 x) : ∀ j, j ≤ ps.length → kT 4 t ps j k = wrap64 (x + kX (ps.take j) k) := by
  intro j
  induction j with
  | zero => intro _; simp [kT, kX, ht]
  | succ j ih =>
    intro hj
    have ih := ih (by omega)
    have e : ps.take (j + 1) = ps.take j ++ [vU ps j] := by
      rw [List.take_add_one]; congr 1
      unfold vU
      rw [List.getD, List.getElem?_eq_getElem (show j < ps.length by omega)]; rfl
    rw [kT, e, uC]
    by_cases h : k = rY 4 (vU ps j)
    · subst h
      rw [rC, ih, wrap_wrap]
      simp only [kX, if_true]
      congr 1; omega
    · rw [tT _ _ h, ih]
      simp only [kX]
      rw [if_neg (fun hh => h hh.symm)]; congr 1; omega
theorem gW {t : Nat → Int} {ps : List Pt} {x : Int} {k : Nat} (ht : t k = wrap64 x) : kT 4 t ps ps.length k = wrap64 (x + kX ps k) := by
  have := tabPts_cnt (ps := ps) ht ps.length (Nat.le_refl _)
  rwa [List.take_length] at this
def Bel (ns : List Nd) (W : Nat) (p : PSt) : Prop := ∀ w, w < W → ∀ k, k < 384 → p.tb w k = wrap64 (pC ns W p k - pV W p.wy w k)
theorem wayS_add {W i w : Nat} {wy : Nat → Nat → List (List Pt)} {c : List Pt} {k : Nat} (hi : i < W) (hw : w < W) : pV W (jR wy i c W) w k = pV W wy w k + if w = i then 0 else kX c k := by
  unfold pV
  refine jH hi fun j hj => ?_
  unfold jR
  by_cases h : j = i ∧ w < W ∧ w ≠ i
  · rw [if_pos h, if_pos h.1, if_neg h.2.2, wayC_app]; simp [tS]
  · rw [if_neg h]
    by_cases h1 : j = i
    · rw [if_pos h1, if_pos (Classical.byContradiction fun h2 => h ⟨h1, hw, h2⟩)]; omega
    · rw [if_neg h1]; omega
theorem Bel.chg {ns : List Nd} {W i : Nat} {p q : PSt} {c : List Pt} (h : Bel ns W p) (hi : i < W) (htb : q.tb = p.tb) (hwy : q.wy = p.wy) (ht : ∀ k, k < 384 → pC ns W (wU W q i c) k = pC ns W p k + kX c k) : Bel ns W (wU W q i c) := by
  intro w hw k hk
  rw [ht k hk]
  show pZ q.tb i (kT 4 (q.tb i) c c.length) w k = wrap64 (_ - pV W (jR q.wy i c W) w k)
  rw [wayS_add hi hw, htb, hwy]
  unfold pZ
  by_cases e : w = i
  · subst e
    rw [if_pos rfl, if_pos rfl, gW (h w hw k hk)]
    congr 1; omega
  · rw [if_neg e, if_neg e, h w hw k hk]
    congr 1; omega
theorem Bel.tell {ns : List Nd} {W i j : Nat} {p : PSt} (h : Bel ns W p) (hj : j < W) : Bel ns W (zF p i j) := by
  intro w hw k hk
  show pZ p.tb i (kT 4 (p.tb i) ((p.wy i j).getD 0 []) ((p.wy i j).getD 0 []).length) w k = wrap64 (pC ns W p k - pV W (kY p.wy i j ((p.wy i j).drop 1)) w k)
  unfold pZ
  by_cases e : w = i
  · subst e
    rw [if_pos rfl, gW (h w hw k hk)]
    have : pV W (kY p.wy w j ((p.wy w j).drop 1)) w k = pV W p.wy w k + -kX ((p.wy w j).getD 0 []) k := by
      unfold pV
      refine jH hj fun b hb => ?_
      unfold kY
      by_cases hb1 : b = j
      · subst hb1
        rw [if_pos ⟨rfl, rfl⟩, if_pos rfl]
        cases p.wy w b with
        | nil => simp [tS, kX]
        | cons c l => simp [tS]; omega
      · rw [if_neg (fun hh => hb1 hh.2), if_neg hb1]; omega
    rw [this]; congr 1; omega
  · rw [if_neg e, h w hw k hk]
    have : pV W (kY p.wy i j ((p.wy i j).drop 1)) w k = pV W p.wy w k := by
      unfold pV
      refine kP fun b hb => ?_
      unfold kY
      rw [if_neg (fun hh => e hh.1)]
    rw [this]
def cL (ns : List Nd) (n : Nat) : Nat := if (qV ns n).kind = 4 then 8 else n
def rkS (ns : List Nd) (k : Nat) : Nat := ((k / 4 % 6 * 4 + k % 4) * 9 + cL ns (k / 48)) * 2 + k / 24 % 2
def Com (ns : List Nd) (D : Nat → Nat → Int) (y e s k : Nat) : Prop := k / 4 % 6 ≤ e ∧ 0 ≤ jN ns D (k / 48) (decide (k / 24 % 2 = 1)) (k % 4) y ∧ jN ns D (k / 48) (decide (k / 24 % 2 = 1)) (k % 4) y ≤ s
def gQ (ns : List Nd) (D : Nat → Nat → Int) (q k : Nat) : Prop := rkS ns q < rkS ns k ∧ ∀ y e s, y < ns.length → Com ns D y e s k → Com ns D y e s q
def FineG (ns : List Nd) (D : Nat → Nat → Int) (op : Nat → Prop) (c : List Pt) (l : List (List Pt)) : Prop := ∀ k, k < 384 → 0 < kX c k → ∃ q, q < 384 ∧ gQ ns D q k ∧ (kX c q < 0 ∨ op q ∨ ∃ c' ∈ l, kX c' q < 0)
def WayOk (ns : List Nd) (D : Nat → Nat → Int) (op : Nat → Prop) : List (List Pt) → Prop
  | [] => True
  | c :: l => FineG ns D op c l ∧ WayOk ns D op l
theorem WayOk.snoc {ns : List Nd} {D : Nat → Nat → Int} {op op' : Nat → Prop} {c : List Pt} (hc : FineG ns D op' c []) (ho : ∀ q, op q → op' q ∨ kX c q < 0) : ∀ {l : List (List Pt)}, WayOk ns D op l → WayOk ns D op' (l ++ [c])
  | [], _ => ⟨hc, trivial⟩
  | d :: l, h => by
    refine ⟨fun k hk hp => ?_, WayOk.snoc hc ho h.2⟩
    obtain ⟨q, h1, h2, h3⟩ := h.1 k hk hp
    refine ⟨q, h1, h2, ?_⟩
    rcases h3 with h3 | h3 | ⟨c', h3, h4⟩
    · exact .inl h3
    · rcases ho q h3 with h | h
      · exact .inr (.inl h)
      · exact .inr (.inr ⟨c, List.mem_append.2 (.inr (by simp)), h⟩)
    · exact .inr (.inr ⟨c', List.mem_append.2 (.inl h3), h4⟩)
theorem WayOk.mono {ns : List Nd} {D : Nat → Nat → Int} {op op' : Nat → Prop} (ho : ∀ q, op q → op' q) : ∀ {l : List (List Pt)}, WayOk ns D op l → WayOk ns D op' l
  | [], _ => trivial
  | _ :: _, h => ⟨fun k hk hp => by
      obtain ⟨q, h1, h2, h3⟩ := h.1 k hk hp
      refine ⟨q, h1, h2, ?_⟩
      rcases h3 with h3 | h3 | h3
      · exact .inl h3
      · exact .inr (.inl (ho q h3))
      · exact .inr (.inr h3), WayOk.mono ho h.2⟩
theorem WayOk.drop {ns : List Nd} {D : Nat → Nat → Int} {op : Nat → Prop} {l : List (List Pt)} (h : WayOk ns D op l) : WayOk ns D op (l.drop 1) := by
  cases l with
  | nil => exact trivial
  | cons c l => exact h.2
theorem WayOk.mem {ns : List Nd} {D : Nat → Nat → Int} {op : Nat → Prop} {k : Nat} (hk : k < 384) : ∀ {l : List (List Pt)}, WayOk ns D op l → ∀ c ∈ l, 0 < kX c k → ∃ q, q < 384 ∧ gQ ns D q k ∧ (op q ∨ ∃ c' ∈ l, kX c' q < 0)
  | [], _, c, hc, _ => absurd hc (by simp)
  | d :: l, h, c, hc, hp => by
    rcases List.mem_cons.1 hc with rfl | hc
    · obtain ⟨q, h1, h2, h3⟩ := h.1 k hk hp
      refine ⟨q, h1, h2, ?_⟩
      rcases h3 with h3 | h3 | ⟨c', h3, h4⟩
      · exact .inr ⟨c, by simp, h3⟩
      · exact .inl h3
      · exact .inr ⟨c', by simp [h3], h4⟩
    · obtain ⟨q, h1, h2, h3⟩ := WayOk.mem hk h.2 c hc hp
      refine ⟨q, h1, h2, ?_⟩
      rcases h3 with h3 | ⟨c', h3, h4⟩
      · exact .inl h3
      · exact .inr ⟨c', by simp [h3], h4⟩
theorem wayC_neg {k : Nat} : ∀ {l : List (List Pt)}, (∀ c ∈ l, kX c k ≤ 0) → tS l k ≤ 0 ∧ ((∃ c ∈ l, kX c k < 0) → tS l k < 0)
  | [], _ => ⟨Int.le_refl _, fun ⟨_, h, _⟩ => absurd h (by simp)⟩
  | d :: l, h => by
    have h1 := wayC_neg (l := l) (fun c hc => h c (by simp [hc]))
    have h2 := h d (by simp)
    refine ⟨by simp only [tS]; omega, fun ⟨c, hc, hn⟩ => ?_⟩
    simp only [tS]
    rcases List.mem_cons.1 hc with rfl | hc
    · omega
    · have := h1.2 ⟨c, hc, hn⟩; omega
theorem sound {ns : List Nd} {D : Nat → Nat → Int} {W w : Nat} {T : Nat → Int} {wy : Nat → Nat → List (List Pt)} {op : Nat → Nat → Prop} {P : Nat → Prop} (hT : ∀ k, 0 ≤ T k) (hop : ∀ j, j < W → ∀ q, q < 384 → op j q → 0 < T q) (hway : ∀ j, j < W → WayOk ns D (op j) (wy w j)) (hP : ∀ q k, gQ ns D q k → P k → P q)
    (hb : ∀ k, k < 384 → P k → T k - pV W wy w k ≤ 0) : ∀ k, k < 384 → P k → T k = 0 := by
  have main : ∀ r k, k < 384 → P k → rkS ns k < r → T k = 0 ∧ ∀ j, j < W → ∀ c ∈ wy w j, kX c k = 0 := by
    intro r
    induction r with
    | zero => intro k _ _ h; omega
    | succ r ih =>
      intro k hk hp hr
      have hle : ∀ j, j < W → ∀ c ∈ wy w j, kX c k ≤ 0 := by
        intro j hj c hc
        refine Int.not_lt.1 fun hpos => ?_
        obtain ⟨q, h1, h2, h3⟩ := (hway j hj).mem hk c hc hpos
        obtain ⟨g1, g2⟩ := ih q h1 (hP q k h2 hp) (by have := h2.1; omega)
        rcases h3 with h3 | ⟨c', h3, h4⟩
        · have := hop j hj q h1 h3; omega
        · have := g2 j hj c' h3; omega
      have hb1 := hb k hk hp
      have h0 := hT k
      have hneg : ∀ j, j < W → 0 ≤ -tS (wy w j) k := fun j hj => by have := (wayC_neg (hle j hj)).1; omega
      have hsum : pV W wy w k = -qH (fun j => -tS (wy w j) k) W := by
        unfold pV
        have : ∀ m, qH (fun j => tS (wy w j) k) m = -qH (fun j => -tS (wy w j) k) m := by
          intro m
          induction m with
          | zero => rfl
          | succ m ih => rw [qH, qH, ih]; omega
        exact this W
      have hs := zP hneg
      refine ⟨by omega, fun j hj c hc => ?_⟩
      have := hle j hj c hc
      refine Classical.byContradiction fun hne => ?_
      have h5 := (wayC_neg (hle j hj)).2 ⟨c, hc, by omega⟩
      have := lM hneg hj (by show 0 < -tS (wy w j) k; omega)
      omega
  exact fun k hk hp => (main _ k hk hp (Nat.lt_succ_self _)).1
end Go.Proofs.Ytfemleimkbjehaa
