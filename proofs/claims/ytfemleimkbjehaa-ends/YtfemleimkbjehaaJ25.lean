import Derived.Test.YtfemleimkbjehaaJ24
set_option maxRecDepth 1000000
set_option maxHeartbeats 40000000
set_option linter.unusedVariables false
set_option linter.unusedSimpArgs false
namespace Go.Proofs.Ytfemleimkbjehaa
open Go.RowKit
def qN (f : Nat → Int) : Nat → Int
  | 0 => 0
  | k + 1 => qN f k + f k
theorem kU {f g : Nat → Int} : ∀ {k : Nat}, (∀ i, i < k → f i = g i) → qN f k = qN g k
  | 0, _ => rfl
  | k + 1, h => by rw [qN, qN, kU (k := k) (fun i hi => h i (by omega)), h k (by omega)]
theorem jG {f g : Nat → Int} {j : Nat} {d : Int} : ∀ {k : Nat}, j < k → (∀ i, i < k → g i = f i + if i = j then d else 0) → qN g k = qN f k + d
  | 0, h, _ => absurd h (Nat.not_lt_zero _)
  | k + 1, hj, h => by
    rw [qN, qN, h k (by omega)]
    by_cases e : k = j
    · rw [kU (f := g) (g := f) (k := k) (fun i hi => by rw [h i (by omega), if_neg (by omega)]; omega), if_pos e]; omega
    · rw [jG (k := k) (by omega) (fun i hi => h i (by omega)), if_neg e]; omega
theorem zP {f : Nat → Int} : ∀ {k : Nat}, (∀ i, i < k → 0 ≤ f i) → 0 ≤ qN f k
  | 0, _ => Int.le_refl _
  | k + 1, h => by have := zP (k := k) (fun i hi => h i (by omega)); have := h k (by omega); rw [qN]; omega
theorem hJ {f : Nat → Int} {j : Nat} : ∀ {k : Nat}, (∀ i, i < k → 0 ≤ f i) → j < k → 0 < f j → 0 < qN f k
  | 0, _, hj, _ => absurd hj (Nat.not_lt_zero _)
  | k + 1, h, hj, hp => by
    have h1 := zP (k := k) (fun i hi => h i (by omega))
    have h2 := h k (by omega)
    rw [qN]
    by_cases e : j = k
    · subst e; omega
    · have := hJ (k := k) (fun i hi => h i (by omega)) (by omega) hp; omega
theorem lK {f : Nat → Int} {B : Int} : ∀ {k : Nat}, (∀ i, i < k → -B ≤ f i ∧ f i ≤ B) → -(k * B) ≤ qN f k ∧ qN f k ≤ k * B
  | 0, _ => by simp [qN]
  | k + 1, h => by
    have h1 := lK (k := k) (fun i hi => h i (by omega))
    have h2 := h k (by omega)
    have : ((k + 1 : Nat) : Int) * B = k * B + B := by rw [Int.natCast_add, Int.add_mul]; simp
    rw [qN, this]; omega
def kX : List Pt → Nat → Int
  | [], _ => 0
  | q :: c, k => (if rT 4 q = k then q.count else 0) + kX c k
theorem wJ (a b : List Pt) (k : Nat) : kX (a ++ b) k = kX a k + kX b k := by
  induction a with
  | nil => simp [kX]
  | cons q a ih => simp only [List.cons_append, kX, ih]; omega
def tL : List (List Pt) → Nat → Int
  | [], _ => 0
  | c :: l, k => kX c k + tL l k
theorem wayC_app (a b : List (List Pt)) (k : Nat) : tL (a ++ b) k = tL a k + tL b k := by
  induction a with
  | nil => simp [tL]
  | cons q a ih => simp only [List.cons_append, tL, ih]; omega
def rP (W : Nat) (wy : Nat → Nat → List (List Pt)) (w k : Nat) : Int := qN (fun j => tL (wy w j) k) W
def wT : List Gv → Nat → Nat → Int
  | [], _, _ => 0
  | m :: l, e, s => (if m.node = e ∧ m.epoch = s then 1 else 0) + wT l e s
theorem msgC_app (a b : List Gv) (e s : Nat) : wT (a ++ b) e s = wT a e s + wT b e s := by
  induction a with
  | nil => simp [wT]
  | cons q a ih => simp only [List.cons_append, wT, ih]; omega
theorem rD (a : List Gv) (e s : Nat) : 0 ≤ wT a e s := by
  induction a with
  | nil => simp [wT]
  | cons q a ih => simp only [wT]; split <;> omega
theorem msgC_le (a : List Gv) (e s : Nat) : wT a e s ≤ a.length := by
  induction a with
  | nil => simp [wT]
  | cons q a ih => simp only [wT, List.length_cons]; split <;> omega
theorem msgC_mem {a : List Gv} {m : Gv} {e s : Nat} (h : m ∈ a) (he : m.node = e) (hs : m.epoch = s) : 0 < wT a e s := by
  induction a with
  | nil => simp at h
  | cons q a ih =>
    have := rD a e s
    simp only [wT]
    rcases List.mem_cons.1 h with rfl | h
    · rw [if_pos ⟨he, hs⟩]; omega
    · have := ih h; split <;> omega
theorem msgC_erase : ∀ (a : List Gv) (j : Nat) (e s : Nat), j < a.length → wT (a.eraseIdx j) e s = wT a e s - if (vR a j).node = e ∧ (vR a j).epoch = s then 1 else 0
  | [], _, _, _, h => absurd h (Nat.not_lt_zero _)
  | q :: a, 0, e, s, _ => by simp only [List.eraseIdx_cons_zero, wT]; show _ = _ - (if q.node = e ∧ q.epoch = s then (1 : Int) else 0); omega
  | q :: a, j + 1, e, s, h => by
    have := msgC_erase a j e s (by simpa using h)
    simp only [List.eraseIdx_cons_succ, wT, this]
    show _ = _ - (if (vR a j).node = e ∧ (vR a j).epoch = s then (1 : Int) else 0)
    omega
def wG (W : Nat) (wt : Nat → Nat → List Gv) (k : Nat) : Int := qN (fun i => wT (wt i (k / 48)) (k / 4 % 6) (k % 4)) W
def tX (p : PSt) (i k : Nat) : Bool := !p.cl i (k / 48) && (decide (p.ep i (k / 48) = ((k / 4 % 6 : Nat) : Int)) && decide (k % 4 = 0))
def kdN (ns : List Nd) (n : Nat) : Int := if n < ns.length then (qV ns n).kind else 1
theorem mM {ns : List Nd} {n : Nat} (h : n < ns.length) : kdN ns n = (qV ns n).kind := if_pos h
def tU (ns : List Nd) (W : Nat) (p : PSt) (k : Nat) : Int :=
  if kdN ns (k / 48) = 0 then qN (fun i => if tX p i k then 1 else 0) W else if kdN ns (k / 48) = 6 then qN (fun i => if wnOf (p.tl i (k / 48)) (k % 24) then 1 else 0) W else 0
def pU (ns : List Nd) (W : Nat) (p : PSt) (k : Nat) : Int := if k / 24 % 2 = 0 then wG W p.wt k else tU ns W p k
theorem truIn_nonneg (W : Nat) (wt : Nat → Nat → List Gv) (k : Nat) : 0 ≤ wG W wt k := zP fun _ _ => rD _ _ _
theorem ite_nn (b : Bool) : (0 : Int) ≤ if b then 1 else 0 := by split <;> omega
theorem rR (ns : List Nd) (W : Nat) (p : PSt) (k : Nat) : 0 ≤ pU ns W p k := by
  unfold pU tU
  split
  · exact truIn_nonneg _ _ _
  · split
    · exact zP fun _ _ => ite_nn _
    · split
      · exact zP fun _ _ => ite_nn _
      · exact Int.le_refl _
theorem dW (n e s : Nat) (o : Bool) : jJ 4 n e s o = 48 * n + (if o then 24 else 0) + 4 * e + s := by
  unfold jJ; split <;> omega
theorem cC {ns : List Nd} {W i : Nat} {n : Int} {m : Gv} {e s : Nat} (hi : i < W) (he : m.node = e) (h6 : e < 6) (hs : m.epoch = s) (h4 : s < 4) (wt : Nat → Nat → List Gv) {k : Nat} (hk : k < 384) (ho : k / 24 % 2 = 0) : ∀ K, K ≤ 8 → wG W (zQ ns W i n m wt K) k = wG W wt k + kX (jW ns n m K) k := by
  intro K
  induction K with
  | zero => intro _; simp [zQ, jW, kX]
  | succ K ih =>
    intro hK
    have ih := ih (by omega)
    rw [zQ, jW]
    split
    · rw [wJ, ← Int.add_assoc, ← ih]
      obtain ⟨a, ha, hlt⟩ : ∃ a : Nat, (atI ns W i m.value K).toNat = a ∧ a < W := ⟨_, rfl, by have := atI_lt (ns := ns) (W := W) (i := i) (k := K) (v := m.value) hi; omega⟩
      rw [ha]
      have hsp : rT 4 ⟨(K : Int), false, m.node, m.epoch, 1⟩ = 48 * K + 4 * e + s := by unfold rT; simp only [he, hs, Int.toNat_natCast]; rw [dW]; simp
      unfold wG
      refine jG hlt fun b hb => ?_
      simp only [kX, hsp]
      unfold kY
      by_cases h1 : b = a ∧ k / 48 = K
      · rw [if_pos h1, if_pos h1.1, msgC_app, h1.1, h1.2]
        simp only [wT, he, hs]
        by_cases h2 : 48 * K + 4 * e + s = k
        · rw [if_pos h2, if_pos (by omega)]
        · rw [if_neg h2, if_neg (by omega)]
      · rw [if_neg h1]
        by_cases h3 : b = a
        · rw [if_pos h3, if_neg (by omega)]; omega
        · rw [if_neg h3]; omega
    · exact ih
theorem nW {ns : List Nd} {n : Int} {m : Gv} {e s : Nat} (he : m.node = e) (h6 : e < 6) (hs : m.epoch = s) (h4 : s < 4) {k : Nat} (ho : k / 24 % 2 = 1) : ∀ K, kX (jW ns n m K) k = 0 := by
  intro K
  induction K with
  | zero => simp [jW, kX]
  | succ K ih =>
    rw [jW]
    split
    · rw [wJ, ih]
      have hsp : rT 4 ⟨(K : Int), false, m.node, m.epoch, 1⟩ = 48 * K + 4 * e + s := by unfold rT; simp only [he, hs, Int.toNat_natCast]; rw [dW]; simp
      simp only [kX, hsp]
      rw [if_neg (by omega)]; rfl
    · exact ih
theorem wnOf_add (f : Nat → Value) {e s : Nat} (v q : Int) {k : Nat} (hk : k < 24) : wnOf (yN f e s v q) k = if k = e * 4 + s then true else wnOf f k := by
  unfold wnOf yN
  by_cases h : k = e * 4 + s
  · simp [h]
  · rw [if_neg h, if_neg (by omega), if_neg (by omega), if_neg h]
theorem wnOf_take (f : Nat → Value) {e s : Nat} {k : Nat} (hk : k < 24) : wnOf (vX f e s) k = if k = e * 4 + s then false else wnOf f k := by
  unfold wnOf vX
  by_cases h : k = e * 4 + s
  · simp [h]
  · rw [if_neg h, if_neg (by omega), if_neg (by omega), if_neg h]
theorem pY (n : Nat) (o : Bool) (e s : Nat) (c : Int) : rT 4 ⟨(n : Int), o, (e : Int), (s : Int), c⟩ = 48 * n + (if o then 24 else 0) + 4 * e + s := by
  unfold rT; simp only [Int.toNat_natCast]; exact dW n e s o
theorem truIn_take {W i n j : Nat} {p : PSt} {e s : Nat} {v : Int} (hi : i < W) (hj : j < (p.wt i n).length) (hm : vR (p.wt i n) j = ⟨(e : Int), (s : Int), v⟩) (h6 : e < 6) (h4 : s < 4) {k : Nat} (ho : k / 24 % 2 = 0) :
    wG W (jV p i n j).wt k = wG W p.wt k + (if 48 * n + 4 * e + s = k then -1 else 0) := by
  unfold wG jV
  refine jG hi fun b hb => ?_
  simp only
  unfold kY
  by_cases h1 : b = i ∧ k / 48 = n
  · rw [if_pos h1, if_pos h1.1, h1.1, h1.2, msgC_erase _ _ _ _ hj, hm]
    simp only
    by_cases h2 : 48 * n + 4 * e + s = k
    · rw [if_pos h2, if_pos (by omega)]; omega
    · rw [if_neg h2, if_neg (by omega)]; omega
  · rw [if_neg h1]
    by_cases h3 : b = i
    · rw [if_pos h3, if_neg (by omega)]; omega
    · rw [if_neg h3]; omega
theorem pwU_back {ns : List Nd} {R : Nat} {lb : List Gv} {n e s : Nat} {v : Int} (h : rH ns R lb n e s v = true) (h4 : (qV ns n).kind = 4) : s + 1 < R := by
  unfold rH at h
  rw [h4] at h
  have : (s : Int) + 1 < R := of_decide_eq_true h
  omega
theorem dJ {ns : List Nd} {R : Nat} {lb : List Gv} {n e s : Nat} {v : Int} (hR : R ≤ 4) (h4 : s < R) (h : rH ns R lb n e s v = true) : ∃ s' : Nat, (pB ns n e s v).node = e ∧ (pB ns n e s v).epoch = s' ∧ s' < R ∧ s' = (if (qV ns n).kind = 4 then s + 1 else s) := by
  unfold pB
  by_cases h4' : (qV ns n).kind = 4
  · have := pwU_back h h4'
    exact ⟨s + 1, rfl, by simp [h4'], by omega, by simp [h4']⟩
  · exact ⟨s, rfl, by simp [h4'], h4, by simp [h4']⟩
theorem pwU_six {ns : List Nd} {R : Nat} {lb : List Gv} {n e s : Nat} {v : Int} (h : (qV ns n).kind = 6) : rH ns R lb n e s v = false := by
  unfold rH; rw [h]; rfl
theorem dV {ns : List Nd} {R : Nat} {p : PSt} {i n e s : Nat} {v : Int} (h : (qV ns n).kind = 6) : tT ns R p i n e s v = if wnOf (p.tl i n) (e * 4 + s) then [] else [⟨(n : Int), true, (e : Int), (s : Int), 1⟩] := by
  unfold tT; rw [h]; rfl
theorem dZ {ns : List Nd} {R : Nat} {p : PSt} {i n e s : Nat} {v : Int} (h : (qV ns n).kind ≠ 6) : tT ns R p i n e s v = if rH ns R (p.lb i n) n e s v then jW ns n (pB ns n e s v) ns.length else [] := by
  unfold tT; rw [if_neg (by simpa using h)]
theorem tru_work {ns : List Nd} {R W : Nat} {p : PSt} {i n j e s : Nat} {v : Int} (hi : i < W) (hn : n < ns.length) (h8 : ns.length ≤ 8) (hR : R ≤ 4) (hj : j < (p.wt i n).length) (hm : vR (p.wt i n) j = ⟨(e : Int), (s : Int), v⟩) (h6 : e < 6) (h4 : s < R) {k : Nat} (hk : k < 384) :
    pU ns W (xK ns R W (jV p i n j) i n e s v) k = pU ns W p k + kX (⟨n, false, e, s, -1⟩ :: tT ns R (jV p i n j) i n e s v) k := by
  have hsp := pY n false e s (-1)
  simp only [Bool.false_eq_true, if_false, Nat.add_zero] at hsp
  have hkd := mM hn
  unfold pU
  by_cases ho : k / 24 % 2 = 0
  · rw [if_pos ho, if_pos ho]
    have ht := truIn_take hi hj hm h6 (show s < 4 by omega) ho
    rw [kX, hsp]
    rw [← Int.add_assoc, ← ht]
    show wG W (if rH ns R ((jV p i n j).lb i n) n e s v then zQ ns W i n (pB ns n e s v) (jV p i n j).wt ns.length else (jV p i n j).wt) k = _
    by_cases hs6 : (qV ns n).kind = 6
    · rw [pwU_six hs6, dV hs6]
      simp only [Bool.false_eq_true, if_false]
      split
      · simp [kX]
      · have := pY n true e s 1
        simp only [if_true] at this
        simp only [kX, this]
        rw [if_neg (by omega)]; omega
    · rw [dZ hs6]
      cases hu : rH ns R ((jV p i n j).lb i n) n e s v with
      | false => simp [kX]
      | true =>
        obtain ⟨s', t1, t2, t3, _⟩ := dJ hR h4 hu
        simp only [if_true]
        exact cC hi t1 h6 t2 (by omega) _ hk ho _ h8
  · rw [if_neg ho, if_neg ho]
    rw [kX, hsp, if_neg (by omega), Int.zero_add]
    by_cases hs6 : (qV ns n).kind = 6
    · rw [dV hs6]
      unfold tU
      by_cases hk0 : kdN ns (k / 48) = 0
      · rw [if_pos hk0, if_pos hk0]
        have : kX (if wnOf ((jV p i n j).tl i n) (e * 4 + s) = true then [] else [⟨(n : Int), true, (e : Int), (s : Int), 1⟩]) k = 0 := by
          split
          · rfl
          · have := pY n true e s 1
            simp only [if_true] at this
            simp only [kX, this]
            rw [if_neg (fun hh => by have : k / 48 = n := by omega
                                     rw [this] at hk0; omega)]; rfl
        rw [this, Int.add_zero]; rfl
      · rw [if_neg hk0, if_neg hk0]
        by_cases hk6 : kdN ns (k / 48) = 6
        · rw [if_pos hk6, if_pos hk6]
          have htl : ∀ b c, (xK ns R W (jV p i n j) i n e s v).tl b c = kY p.tl i n (yN (p.tl i n) e s v (qV ns n).k) b c := fun b c => by
            show (if (qV ns n).kind == 6 then kY p.tl i n (yN (p.tl i n) e s v (qV ns n).k) else p.tl) b c = _
            rw [if_pos (by simpa using hs6)]
          refine jG hi fun b hb => ?_
          rw [htl]
          unfold kY
          show _ = (if wnOf (p.tl b (k / 48)) (k % 24) = true then (1 : Int) else 0) + (if b = i then kX (if wnOf (p.tl i n) (e * 4 + s) = true then [] else [⟨(n : Int), true, (e : Int), (s : Int), 1⟩]) k else 0)
          have hsq := pY n true e s 1
          simp only [if_true] at hsq
          by_cases h1 : b = i ∧ k / 48 = n
          · rw [if_pos h1, if_pos h1.1, wnOf_add _ _ _ (by omega), h1.1, h1.2]
            by_cases h2 : k % 24 = e * 4 + s
            · rw [if_pos h2, h2]
              cases hw : wnOf (p.tl i n) (e * 4 + s) with
              | true => simp [kX]
              | false => simp only [Bool.false_eq_true, if_false, if_true, kX, hsq]; rw [if_pos (by omega)]; rfl
            · rw [if_neg h2]
              cases hw : wnOf (p.tl i n) (e * 4 + s) with
              | true => simp [kX]
              | false =>
                have hc0 : kX [⟨(n : Int), true, (e : Int), (s : Int), 1⟩] k = 0 := by
                  simp only [kX]; rw [if_neg (by rw [hsq]; omega)]; rfl
                simp only [Bool.false_eq_true, if_false, hc0]; omega
          · rw [if_neg h1]
            by_cases h3 : b = i
            · rw [if_pos h3]
              have : kX (if wnOf (p.tl i n) (e * 4 + s) = true then [] else [⟨(n : Int), true, (e : Int), (s : Int), 1⟩]) k = 0 := by
                split
                · rfl
                · simp only [kX, hsq]; rw [if_neg (by omega)]; rfl
              rw [this]; omega
            · rw [if_neg h3]; omega
        · rw [if_neg hk6, if_neg hk6]
          split
          · rfl
          · have := pY n true e s 1
            simp only [if_true] at this
            simp only [kX, this]
            rw [if_neg (fun hh => by have : k / 48 = n := by omega
                                     rw [this] at hk6; omega)]; rfl
    · rw [dZ hs6]
      have h0 : kX (if rH ns R ((jV p i n j).lb i n) n e s v = true then jW ns n (pB ns n e s v) ns.length else []) k = 0 := by
        cases hu : rH ns R ((jV p i n j).lb i n) n e s v with
        | false => rfl
        | true =>
          obtain ⟨s', t1, t2, t3, _⟩ := dJ hR h4 hu
          simp only [if_true]
          exact nW t1 h6 t2 (by omega) (by omega) _
      rw [h0, Int.add_zero]
      have htl : (xK ns R W (jV p i n j) i n e s v).tl = p.tl := by
        show (if (qV ns n).kind == 6 then _ else p.tl) = _
        rw [if_neg (by simpa using hs6)]
      unfold tU tX
      rw [htl]; rfl
theorem truIn_note {ns : List Nd} {W i n e s : Nat} (hi : i < W) (h8 : ns.length ≤ 8) (h6 : e < 6) (h4 : s < 4) (l : List Int) (wt : Nat → Nat → List Gv) {k : Nat} (hk : k < 384) (ho : k / 24 % 2 = 0) : ∀ K, wG W (ntW ns W i n e s l wt K) k = wG W wt k + kX (nY ns n e s l K) k := by
  intro K
  induction K with
  | zero =>
    have := pY n true e s (-1)
    simp only [if_true] at this
    simp only [ntW, nY, kX, this]
    rw [if_neg (by omega)]; omega
  | succ K ih =>
    rw [ntW, nY, wJ, ← Int.add_assoc, ← ih]
    exact cC hi rfl h6 rfl h4 _ hk ho _ h8
theorem cntP_note_out {ns : List Nd} {n e s : Nat} (h6 : e < 6) (h4 : s < 4) (l : List Int) {k : Nat} (ho : k / 24 % 2 = 1) : ∀ K, kX (nY ns n e s l K) k = if 48 * n + 24 + 4 * e + s = k then -1 else 0 := by
  intro K
  induction K with
  | zero =>
    have := pY n true e s (-1)
    simp only [if_true] at this
    simp only [nY, kX, this]; omega
  | succ K ih => rw [nY, wJ, ih, nW rfl h6 rfl h4 ho]; omega
theorem tru_note {ns : List Nd} {W : Nat} {p : PSt} {i n e s : Nat} (hi : i < W) (hn : n < ns.length) (h8 : ns.length ≤ 8) (h6 : e < 6) (h4 : s < 4) (hk6 : (qV ns n).kind = 6) (hw : wnOf (p.tl i n) (e * 4 + s) = true) {k : Nat} (hk : k < 384) :
    pU ns W (xQ ns W p i n e s) k = pU ns W p k + kX (nY ns n e s (xJ (p.tl i n) e s) (xJ (p.tl i n) e s).length) k := by
  have hkd := mM hn
  unfold pU
  by_cases ho : k / 24 % 2 = 0
  · rw [if_pos ho, if_pos ho]
    exact truIn_note hi h8 h6 h4 _ p.wt hk ho _
  · rw [if_neg ho, if_neg ho, cntP_note_out h6 h4 _ (by omega)]
    unfold tU
    by_cases hk0 : kdN ns (k / 48) = 0
    · rw [if_pos hk0, if_pos hk0, if_neg (fun hh => by
        have : k / 48 = n := by omega
        rw [this] at hk0; omega), Int.add_zero]; rfl
    · rw [if_neg hk0, if_neg hk0]
      by_cases hk7 : kdN ns (k / 48) = 6
      · rw [if_pos hk7, if_pos hk7]
        refine jG hi fun b hb => ?_
        show (if wnOf (kY p.tl i n (vX (p.tl i n) e s) b (k / 48)) (k % 24) = true then (1 : Int) else 0) = _
        unfold kY
        by_cases h1 : b = i ∧ k / 48 = n
        · rw [if_pos h1, if_pos h1.1, wnOf_take _ (by omega), h1.1, h1.2]
          by_cases h2 : k % 24 = e * 4 + s
          · rw [if_pos h2, h2, hw, if_pos (show 48 * n + 24 + 4 * e + s = k by omega)]; simp
          · rw [if_neg h2, if_neg (show ¬ 48 * n + 24 + 4 * e + s = k by omega)]; omega
        · rw [if_neg h1]
          by_cases h3 : b = i
          · have z1 : (if 48 * n + 24 + 4 * e + s = k then (-1 : Int) else 0) = 0 := if_neg (by omega)
            rw [if_pos h3, z1]; omega
          · rw [if_neg h3]; omega
      · rw [if_neg hk7, if_neg hk7, if_neg (fun hh => by
          have : k / 48 = n := by omega
          rw [this] at hk7; omega)]; rfl
theorem tru_give {ns : List Nd} {W : Nat} {p : PSt} {i m e : Nat} {v : Int} (hi : i < W) (h8 : ns.length ≤ 8) (he : p.ep i m = e) (h6 : e < 6) {k : Nat} (hk : k < 384) :
    pU ns W (yV ns W p i m v) k = pU ns W p k + kX (jW ns m ⟨p.ep i m, 0, v⟩ ns.length) k := by
  unfold pU
  by_cases ho : k / 24 % 2 = 0
  · rw [if_pos ho, if_pos ho]
    exact cC (s := 0) hi he h6 rfl (by omega) p.wt hk ho _ h8
  · rw [if_neg ho, if_neg ho, nW (s := 0) he h6 rfl (by omega) (by omega), Int.add_zero]; rfl
theorem spP_src (m e : Nat) (c : Int) : rT 4 ⟨(m : Int), true, (e : Int), 0, c⟩ = 48 * m + 24 + 4 * e := by
  have := pY m true e 0 c
  simpa using this
theorem tru_adv {ns : List Nd} {W : Nat} {p : PSt} {i m e : Nat} (hi : i < W) (hm : m < ns.length) (hc : p.cl i m = false) (he : p.ep i m = e) (h6 : e < 5) (hk0 : (qV ns m).kind = 0) {k : Nat} :
    pU ns W (uR W p i m) k = pU ns W p k + kX [⟨m, true, p.ep i m, 0, -1⟩, ⟨m, true, p.ep i m + 1, 0, 1⟩] k := by
  have h1 := spP_src m e (-1)
  have h2 := spP_src m (e + 1) 1
  rw [Int.natCast_add] at h2
  simp only [kX, he]
  rw [h1, show ((e : Int) + 1) = (e : Int) + ((1 : Nat) : Int) from rfl, h2]
  unfold pU
  by_cases ho : k / 24 % 2 = 0
  · rw [if_pos ho, if_pos ho, if_neg (by omega), if_neg (by omega)]
    show wG W p.wt k = _
    omega
  · rw [if_neg ho, if_neg ho]
    unfold tU
    by_cases hkk : kdN ns (k / 48) = 0
    · rw [if_pos hkk, if_pos hkk]
      refine jG hi fun b hb => ?_
      show (if !p.cl b (k / 48) && (decide (kY p.ep i m (p.ep i m + 1) b (k / 48) = ((k / 4 % 6 : Nat) : Int)) && decide (k % 4 = 0)) then (1 : Int) else 0) = (if tX p b k then 1 else 0) + _
      unfold kY tX
      by_cases hb1 : b = i ∧ k / 48 = m
      · rw [if_pos hb1, if_pos hb1.1, hb1.1, hb1.2, hc, he]
        simp only [Bool.not_false, Bool.true_and, Bool.and_eq_true, decide_eq_true_eq]
        split <;> split <;> split <;> split <;> omega
      · rw [if_neg hb1]
        by_cases h3 : b = i
        · have z1 : (if 48 * m + 24 + 4 * e = k then (-1 : Int) else 0) = 0 := if_neg (by omega)
          have z2 : (if 48 * m + 24 + 4 * (e + 1) = k then (1 : Int) else 0) = 0 := if_neg (by omega)
          rw [if_pos h3, z1, z2]; omega
        · rw [if_neg h3]; omega
    · have hne : k / 48 ≠ m := fun h => hkk (h ▸ (mM hm).trans hk0)
      have z1 : (if 48 * m + 24 + 4 * e = k then (-1 : Int) else 0) = 0 := if_neg (by omega)
      have z2 : (if 48 * m + 24 + 4 * (e + 1) = k then (1 : Int) else 0) = 0 := if_neg (by omega)
      rw [if_neg hkk, if_neg hkk, z1, z2]
      show (if kdN ns (k / 48) = 6 then qN (fun i => if wnOf (p.tl i (k / 48)) (k % 24) = true then 1 else 0) W else 0) = _
      omega
theorem tru_cls {ns : List Nd} {W : Nat} {p : PSt} {i m e : Nat} (hi : i < W) (hm : m < ns.length) (hc : p.cl i m = false) (he : p.ep i m = e) (h6 : e < 6) (hk0 : (qV ns m).kind = 0) {k : Nat} :
    pU ns W (xC W p i m) k = pU ns W p k + kX [⟨m, true, p.ep i m, 0, -1⟩] k := by
  have h1 := spP_src m e (-1)
  simp only [kX, he]
  rw [h1]
  unfold pU
  by_cases ho : k / 24 % 2 = 0
  · rw [if_pos ho, if_pos ho, if_neg (by omega)]
    show wG W p.wt k = _
    omega
  · rw [if_neg ho, if_neg ho]
    unfold tU
    by_cases hkk : kdN ns (k / 48) = 0
    · rw [if_pos hkk, if_pos hkk]
      refine jG hi fun b hb => ?_
      show (if !(kY p.cl i m true b (k / 48)) && (decide (p.ep b (k / 48) = ((k / 4 % 6 : Nat) : Int)) && decide (k % 4 = 0)) then (1 : Int) else 0) = (if tX p b k then 1 else 0) + _
      unfold kY tX
      by_cases hb1 : b = i ∧ k / 48 = m
      · rw [if_pos hb1, if_pos hb1.1, hb1.1, hb1.2, hc, he]
        simp only [Bool.not_false, Bool.true_and, Bool.and_eq_true, decide_eq_true_eq, Bool.not_true, Bool.false_and, Bool.false_eq_true, if_false]
        split <;> split <;> omega
      · rw [if_neg hb1]
        by_cases h3 : b = i
        · have z1 : (if 48 * m + 24 + 4 * e = k then (-1 : Int) else 0) = 0 := if_neg (by omega)
          rw [if_pos h3, z1]; omega
        · rw [if_neg h3]; omega
    · have hne : k / 48 ≠ m := fun h => hkk (h ▸ (mM hm).trans hk0)
      have z1 : (if 48 * m + 24 + 4 * e = k then (-1 : Int) else 0) = 0 := if_neg (by omega)
      rw [if_neg hkk, if_neg hkk, z1]
      show (if kdN ns (k / 48) = 6 then qN (fun i => if wnOf (p.tl i (k / 48)) (k % 24) = true then 1 else 0) W else 0) = _
      omega
theorem wrap_wrap (a b : Int) : wrap64 (wrap64 a + b) = wrap64 (a + b) := by unfold wrap64; omega
theorem wrap_small {a : Int} (h : -9223372036854775808 ≤ a) (h2 : a ≤ 9223372036854775807) : wrap64 a = a := by unfold wrap64; omega
theorem tabPts_cnt {t : Nat → Int} {ps : List Pt} {x : Int} {k : Nat} (ht : t k = wrap64 x) : ∀ j, j ≤ ps.length → kS 4 t ps j k = wrap64 (x + kX (ps.take j) k) := by
  intro j
  induction j with
  | zero => intro _; simp [kS, kX, ht]
  | succ j ih =>
    intro hj
    have ih := ih (by omega)
    have e : ps.take (j + 1) = ps.take j ++ [vU ps j] := by
      rw [List.take_add_one]; congr 1
      unfold vU
      rw [List.getD, List.getElem?_eq_getElem (show j < ps.length by omega)]; rfl
    rw [kS, e, wJ]
    by_cases h : k = rT 4 (vU ps j)
    · subst h
      rw [pQ, ih, wrap_wrap]
      simp only [kX, if_true]
      congr 1; omega
    · rw [tM _ _ h, ih]
      simp only [kX]
      rw [if_neg (fun hh => h hh.symm)]; congr 1; omega
theorem gH {t : Nat → Int} {ps : List Pt} {x : Int} {k : Nat} (ht : t k = wrap64 x) : kS 4 t ps ps.length k = wrap64 (x + kX ps k) := by
  have := tabPts_cnt (ps := ps) ht ps.length (Nat.le_refl _)
  rwa [List.take_length] at this
def Bel (ns : List Nd) (W : Nat) (p : PSt) : Prop := ∀ w, w < W → ∀ k, k < 384 → p.tb w k = wrap64 (pU ns W p k - rP W p.wy w k)
theorem wayS_add {W i w : Nat} {wy : Nat → Nat → List (List Pt)} {c : List Pt} {k : Nat} (hi : i < W) (hw : w < W) : rP W (jP wy i c W) w k = rP W wy w k + if w = i then 0 else kX c k := by
  unfold rP
  refine jG hi fun j hj => ?_
  unfold jP
  by_cases h : j = i ∧ w < W ∧ w ≠ i
  · rw [if_pos h, if_pos h.1, if_neg h.2.2, wayC_app]; simp [tL]
  · rw [if_neg h]
    by_cases h1 : j = i
    · rw [if_pos h1, if_pos (Classical.byContradiction fun h2 => h ⟨h1, hw, h2⟩)]; omega
    · rw [if_neg h1]; omega
theorem Bel.chg {ns : List Nd} {W i : Nat} {p q : PSt} {c : List Pt} (h : Bel ns W p) (hi : i < W) (htb : q.tb = p.tb) (hwy : q.wy = p.wy) (ht : ∀ k, k < 384 → pU ns W (wP W q i c) k = pU ns W p k + kX c k) : Bel ns W (wP W q i c) := by
  intro w hw k hk
  rw [ht k hk]
  show pW q.tb i (kS 4 (q.tb i) c c.length) w k = wrap64 (_ - rP W (jP q.wy i c W) w k)
  rw [wayS_add hi hw, htb, hwy]
  unfold pW
  by_cases e : w = i
  · subst e
    rw [if_pos rfl, if_pos rfl, gH (h w hw k hk)]
    congr 1; omega
  · rw [if_neg e, if_neg e, h w hw k hk]
    congr 1; omega
theorem Bel.tell {ns : List Nd} {W i j : Nat} {p : PSt} (h : Bel ns W p) (hj : j < W) : Bel ns W (zD p i j) := by
  intro w hw k hk
  show pW p.tb i (kS 4 (p.tb i) ((p.wy i j).getD 0 []) ((p.wy i j).getD 0 []).length) w k = wrap64 (pU ns W p k - rP W (kY p.wy i j ((p.wy i j).drop 1)) w k)
  unfold pW
  by_cases e : w = i
  · subst e
    rw [if_pos rfl, gH (h w hw k hk)]
    have : rP W (kY p.wy w j ((p.wy w j).drop 1)) w k = rP W p.wy w k + -kX ((p.wy w j).getD 0 []) k := by
      unfold rP
      refine jG hj fun b hb => ?_
      unfold kY
      by_cases hb1 : b = j
      · subst hb1
        rw [if_pos ⟨rfl, rfl⟩, if_pos rfl]
        cases p.wy w b with
        | nil => simp [tL, kX]
        | cons c l => simp [tL]; omega
      · rw [if_neg (fun hh => hb1 hh.2), if_neg hb1]; omega
    rw [this]; congr 1; omega
  · rw [if_neg e, h w hw k hk]
    have : rP W (kY p.wy i j ((p.wy i j).drop 1)) w k = rP W p.wy w k := by
      unfold rP
      refine kU fun b hb => ?_
      unfold kY
      rw [if_neg (fun hh => e hh.1)]
    rw [this]
def cD (ns : List Nd) (n : Nat) : Nat := if (qV ns n).kind = 4 then 8 else n
def rkS (ns : List Nd) (k : Nat) : Nat := ((k / 4 % 6 * 4 + k % 4) * 9 + cD ns (k / 48)) * 2 + k / 24 % 2
def Com (ns : List Nd) (D : Nat → Nat → Int) (y e s k : Nat) : Prop := k / 4 % 6 ≤ e ∧ 0 ≤ jL ns D (k / 48) (decide (k / 24 % 2 = 1)) (k % 4) y ∧ jL ns D (k / 48) (decide (k / 24 % 2 = 1)) (k % 4) y ≤ s
def gU (ns : List Nd) (D : Nat → Nat → Int) (q k : Nat) : Prop := rkS ns q < rkS ns k ∧ ∀ y e s, y < ns.length → Com ns D y e s k → Com ns D y e s q
def FineG (ns : List Nd) (D : Nat → Nat → Int) (op : Nat → Prop) (c : List Pt) (l : List (List Pt)) : Prop := ∀ k, k < 384 → 0 < kX c k → ∃ q, q < 384 ∧ gU ns D q k ∧ (kX c q < 0 ∨ op q ∨ ∃ c' ∈ l, kX c' q < 0)
def WayOk (ns : List Nd) (D : Nat → Nat → Int) (op : Nat → Prop) : List (List Pt) → Prop
  | [] => True
  | c :: l => FineG ns D op c l ∧ WayOk ns D op l
theorem WayOk.snoc {ns : List Nd} {D : Nat → Nat → Int} {op op' : Nat → Prop} {c : List Pt} (hc : FineG ns D op' c []) (ho : ∀ q, op q → op' q ∨ kX c q < 0) : ∀ {l : List (List Pt)}, WayOk ns D op l → WayOk ns D op' (l ++ [c])
  | [], _ => ⟨hc, trivial⟩
  | d :: l, h => by
    refine ⟨fun k hk hp => ?_, WayOk.snoc hc ho h.2⟩
    obtain ⟨q, h1, h2, h3⟩ := h.1 k hk hp
    refine ⟨q, h1, h2, ?_⟩
    rcases h3 with h3 | h3 | ⟨c', h3, h4⟩
    · exact .inl h3
    · rcases ho q h3 with h | h
      · exact .inr (.inl h)
      · exact .inr (.inr ⟨c, List.mem_append.2 (.inr (by simp)), h⟩)
    · exact .inr (.inr ⟨c', List.mem_append.2 (.inl h3), h4⟩)
theorem WayOk.mono {ns : List Nd} {D : Nat → Nat → Int} {op op' : Nat → Prop} (ho : ∀ q, op q → op' q) : ∀ {l : List (List Pt)}, WayOk ns D op l → WayOk ns D op' l
  | [], _ => trivial
  | _ :: _, h => ⟨fun k hk hp => by
      obtain ⟨q, h1, h2, h3⟩ := h.1 k hk hp
      refine ⟨q, h1, h2, ?_⟩
      rcases h3 with h3 | h3 | h3
      · exact .inl h3
      · exact .inr (.inl (ho q h3))
      · exact .inr (.inr h3), WayOk.mono ho h.2⟩
theorem WayOk.drop {ns : List Nd} {D : Nat → Nat → Int} {op : Nat → Prop} {l : List (List Pt)} (h : WayOk ns D op l) : WayOk ns D op (l.drop 1) := by
  cases l with
  | nil => exact trivial
  | cons c l => exact h.2
theorem WayOk.mem {ns : List Nd} {D : Nat → Nat → Int} {op : Nat → Prop} {k : Nat} (hk : k < 384) : ∀ {l : List (List Pt)}, WayOk ns D op l → ∀ c ∈ l, 0 < kX c k → ∃ q, q < 384 ∧ gU ns D q k ∧ (op q ∨ ∃ c' ∈ l, kX c' q < 0)
  | [], _, c, hc, _ => absurd hc (by simp)
  | d :: l, h, c, hc, hp => by
    rcases List.mem_cons.1 hc with rfl | hc
    · obtain ⟨q, h1, h2, h3⟩ := h.1 k hk hp
      refine ⟨q, h1, h2, ?_⟩
      rcases h3 with h3 | h3 | ⟨c', h3, h4⟩
      · exact .inr ⟨c, by simp, h3⟩
      · exact .inl h3
      · exact .inr ⟨c', by simp [h3], h4⟩
    · obtain ⟨q, h1, h2, h3⟩ := WayOk.mem hk h.2 c hc hp
      refine ⟨q, h1, h2, ?_⟩
      rcases h3 with h3 | ⟨c', h3, h4⟩
      · exact .inl h3
      · exact .inr ⟨c', by simp [h3], h4⟩
theorem wayC_neg {k : Nat} : ∀ {l : List (List Pt)}, (∀ c ∈ l, kX c k ≤ 0) → tL l k ≤ 0 ∧ ((∃ c ∈ l, kX c k < 0) → tL l k < 0)
  | [], _ => ⟨Int.le_refl _, fun ⟨_, h, _⟩ => absurd h (by simp)⟩
  | d :: l, h => by
    have h1 := wayC_neg (l := l) (fun c hc => h c (by simp [hc]))
    have h2 := h d (by simp)
    refine ⟨by simp only [tL]; omega, fun ⟨c, hc, hn⟩ => ?_⟩
    simp only [tL]
    rcases List.mem_cons.1 hc with rfl | hc
    · omega
    · have := h1.2 ⟨c, hc, hn⟩; omega
theorem sound {ns : List Nd} {D : Nat → Nat → Int} {W w : Nat} {T : Nat → Int} {wy : Nat → Nat → List (List Pt)} {op : Nat → Nat → Prop} {P : Nat → Prop} (hT : ∀ k, 0 ≤ T k) (hop : ∀ j, j < W → ∀ q, q < 384 → op j q → 0 < T q) (hway : ∀ j, j < W → WayOk ns D (op j) (wy w j)) (hP : ∀ q k, gU ns D q k → P k → P q)
    (hb : ∀ k, k < 384 → P k → T k - rP W wy w k ≤ 0) : ∀ k, k < 384 → P k → T k = 0 := by
  have main : ∀ r k, k < 384 → P k → rkS ns k < r → T k = 0 ∧ ∀ j, j < W → ∀ c ∈ wy w j, kX c k = 0 := by
    intro r
    induction r with
    | zero => intro k _ _ h; omega
    | succ r ih =>
      intro k hk hp hr
      have hle : ∀ j, j < W → ∀ c ∈ wy w j, kX c k ≤ 0 := by
        intro j hj c hc
        refine Int.not_lt.1 fun hpos => ?_
        obtain ⟨q, h1, h2, h3⟩ := (hway j hj).mem hk c hc hpos
        obtain ⟨g1, g2⟩ := ih q h1 (hP q k h2 hp) (by have := h2.1; omega)
        rcases h3 with h3 | ⟨c', h3, h4⟩
        · have := hop j hj q h1 h3; omega
        · have := g2 j hj c' h3; omega
      have hb1 := hb k hk hp
      have h0 := hT k
      have hneg : ∀ j, j < W → 0 ≤ -tL (wy w j) k := fun j hj => by have := (wayC_neg (hle j hj)).1; omega
      have hsum : rP W wy w k = -qN (fun j => -tL (wy w j) k) W := by
        unfold rP
        have : ∀ m, qN (fun j => tL (wy w j) k) m = -qN (fun j => -tL (wy w j) k) m := by
          intro m
          induction m with
          | zero => rfl
          | succ m ih => rw [qN, qN, ih]; omega
        exact this W
      have hs := zP hneg
      refine ⟨by omega, fun j hj c hc => ?_⟩
      have := hle j hj c hc
      refine Classical.byContradiction fun hne => ?_
      have h5 := (wayC_neg (hle j hj)).2 ⟨c, hc, by omega⟩
      have := hJ hneg hj (by show 0 < -tL (wy w j) k; omega)
      omega
  exact fun k hk hp => (main _ k hk hp (Nat.lt_succ_self _)).1
end Go.Proofs.Ytfemleimkbjehaa
