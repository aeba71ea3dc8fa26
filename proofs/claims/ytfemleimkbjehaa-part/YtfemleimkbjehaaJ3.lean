import Derived.Test.YtfemleimkbjehaaJ2
set_option maxRecDepth 1000000
set_option maxHeartbeats 40000000
set_option linter.unusedVariables false
set_option linter.unusedSimpArgs false
namespace Go.Proofs.Ytfemleimkbjehaa
open Go.RowKit
def Out (ns : List Nd) (o : List Int) (z : Int) : Prop := 0 ≤ z ∧ z < ns.length ∧ jF o z = false
theorem mD {ns : List Nd} {n : Nat} (h : pB ns n = true) : ∀ k, k < n → zN ns (qV ns k) = true := by
  induction n with
  | zero => intro k hk; omega
  | succ n ih =>
    intro k hk
    unfold pB at h
    simp at h
    by_cases e : k = n
    · subst e; exact h.2
    · exact ih h.1 k (by omega)
theorem wf_input {ns : List Nd} {r : Int} (h : wfB ns r = true) {k : Nat} (hk : k < ns.length) {n : Int} (hn : n ∈ qF (qV ns k)) : 0 ≤ n ∧ n < ns.length := by
  have h1 : pB ns ns.length = true := by simp [wfB] at h; exact h.1.2
  have h2 := mD h1 k hk
  rw [cF] at h2
  simp only [Bool.and_eq_true] at h2
  have h3 := h2.2
  unfold inB at h3
  rw [List.all_eq_true] at h3
  have := h3 n hn
  simp [gM] at this
  exact isNodeB_iff.1 this.1
theorem ahead_out {ns : List Nd} {r : Int} (hw : wfB ns r = true) {o : List Int} (hf : Fix ns o) {z : Int} (hz : Out ns o z) :
    Out ns o (tG ns o z) ∧ qL (qV ns z.toNat) (tG ns o z) = true ∧ (qV ns z.toNat).kind ≠ 4 := by
  obtain ⟨h0, h1, h2⟩ := hz
  obtain ⟨k, rfl⟩ := Int.eq_ofNat_of_zero_le h0
  rw [Int.toNat_natCast]
  have hk : k < ns.length := by omega
  have hi := @wf_input ns r hw k hk
  have hc : jK o (qV ns k) = false := by
    rcases hf k hk with h | h
    · rw [h2] at h; cases h
    · exact h
  have hnode : jQ ns.length (k : Int) = true := isNodeB_iff.2 ⟨h0, h1⟩
  unfold jK at hc
  simp only [Bool.or_eq_false_iff] at hc
  obtain ⟨⟨hc0, hc4⟩, hc3⟩ := hc
  have k0 : (qV ns k).kind ≠ 0 := by simpa using hc0
  have k4 : (qV ns k).kind ≠ 4 := by simpa using hc4
  unfold tG
  rw [hnode, Int.toNat_natCast]
  simp only [if_true]
  by_cases e3 : (qV ns k).kind = 3
  · have hin : qF (qV ns k) = [(qV ns k).a, (qV ns k).b] := inputsL_3 e3
    simp only [e3, beq_self_eq_true, if_true] at hc3
    cases ha : jF o (qV ns k).a with
    | true =>
      rw [ha] at hc3
      simp only [Bool.true_and] at hc3
      simp only [e3, beq_self_eq_true, Bool.true_and, if_true]
      have hr := hi (n := (qV ns k).b) (by rw [hin]; simp)
      exact ⟨⟨hr.1, hr.2, hc3⟩, by simp [qL, e3], by omega⟩
    | false =>
      have hr := hi (n := (qV ns k).a) (by rw [hin]; simp)
      simp only [Bool.and_false, Bool.false_eq_true, if_false]
      exact ⟨⟨hr.1, hr.2, ha⟩, by simp [qL, e3], by omega⟩
  · have hb3 : ((qV ns k).kind == 3) = false := by simpa using e3
    rw [hb3] at hc3 ⊢
    simp only [Bool.false_eq_true, if_false, Bool.false_and] at hc3 ⊢
    have hin : qF (qV ns k) = [(qV ns k).a] := inputsL_1 k0 e3
    have hr := hi (n := (qV ns k).a) (by rw [hin]; simp)
    exact ⟨⟨hr.1, hr.2, hc3⟩, by simp [qL, k0], k4⟩
theorem least_nat {p : Nat → Prop} (h : ∃ n, p n) : ∃ n, p n ∧ ∀ m, m < n → ¬ p m := by
  obtain ⟨n, hn⟩ := h
  induction n using Nat.strongRecOn with
  | _ n ih =>
    by_cases hx : ∃ m, m < n ∧ p m
    · obtain ⟨m, hm, hp⟩ := hx; exact ih m hm hp
    · exact ⟨n, hn, fun m hm hp => hx ⟨m, hm, hp⟩⟩
def gsumTo (xs : List Int) (q : Int) (g : Nat) : Nat → Int
  | 0 => 0
  | k + 1 => if kC xs k % q == g then wrap64 (gsumTo xs q g k + kC xs k) else gsumTo xs q g k
def kG (xs : List Int) (q : Int) (g : Nat) : Nat → Bool
  | 0 => false
  | k + 1 => if kC xs k % q == g then true else kG xs q g k
def kD (xs : List Int) (q : Int) : Nat → List Int
  | 0 => []
  | m + 1 => if kG xs q m xs.length then kD xs q m ++ [gsumTo xs q m xs.length] else kD xs q m
theorem grpTo_len (xs : List Int) (q : Int) (m : Nat) : (kD xs q m).length ≤ m := by
  induction m with
  | zero => simp [kD]
  | succ m ih => unfold kD; split <;> (try simp) <;> omega
theorem gsum_yes {xs : List Int} {q : Int} {g k : Nat} (h : kC xs k % q = g) : gsumTo xs q g (k + 1) = wrap64 (gsumTo xs q g k + kC xs k) ∧ kG xs q g (k + 1) = true := by simp [gsumTo, kG, h]
theorem gsum_no {xs : List Int} {q : Int} {g k : Nat} (h : kC xs k % q ≠ g) : gsumTo xs q g (k + 1) = gsumTo xs q g k ∧ kG xs q g (k + 1) = kG xs q g k := by simp [gsumTo, kG, h]
theorem grp_yes {xs : List Int} {q : Int} {m : Nat} (h : kG xs q m xs.length = true) : kD xs q (m + 1) = kD xs q m ++ [gsumTo xs q m xs.length] := by rw [kD, if_pos h]
theorem grp_no {xs : List Int} {q : Int} {m : Nat} (h : kG xs q m xs.length = false) : kD xs q (m + 1) = kD xs q m := by rw [kD, h]; rfl
structure Grp (w : World) (B o : Nat) (S : Nat → Int) (M : Nat → Bool) : Prop where
  size : B < w.heap.size
  sum : ∀ g, g < 8 → w.cell? ⟨B, o + g, none⟩ = some (.int .i64 (S g))
  met : ∀ g, g < 8 → w.cell? ⟨B, o + 8 + g, none⟩ = some (.bool (M g))
  fr : ∀ g, w.frozen? ⟨B, g, none⟩ = false
theorem eight (v : Value) : ∀ g, g < 8 → (#[v, v, v, v, v, v, v, v])[g]? = some v := by
  intro g hg
  match g, hg with
  | 0, _ | 1, _ | 2, _ | 3, _ | 4, _ | 5, _ | 6, _ | 7, _ => rfl
theorem Grp.bw {w w' : World} {B o : Nat} {S : Nat → Int} {M : Nat → Bool} (h : Grp w B o S M) (hb : Bw w w') : Grp w' B o S M := by
  have h0 := h.size
  obtain ⟨q1, q2⟩ := qX hb
  exact ⟨Nat.lt_of_lt_of_le h0 hb.size, fun g hg => (q1 _ _ (by omega)).trans (h.sum g hg), fun g hg => (q1 _ _ (by omega)).trans (h.met g hg), fun g => (q2 _ _ (by omega)).trans (h.fr g)⟩
set_option maxRecDepth 100000 in
set_option maxHeartbeats 2000000 in
theorem gadd_any (v q : Int) (B o g : Nat) (S : Nat → Int) (M : Nat → Bool) (w : World) (h : Grp w B o S M) (hq1 : 1 ≤ q) (hq8 : q ≤ 8) (hg : v % q = g) (hg8 : g < 8) :
    Calls Try.prog 160 #[.pointer (some ⟨B, o, none⟩), .int .i64 v, .int .i64 q] w fun e w' => e = .returned (.tuple #[]) ∧ Bw ((w.setCell ⟨B, o + g, none⟩ (.int .i64 (wrap64 (S g + v)))).setCell ⟨B, o + 8 + g, none⟩ (.bool true)) w' := by
  have hs := h.sum g hg8
  have hm := h.met g hg8
  have hf := h.fr
  have hsz := h.size
  have Hg := qJ hg
  have hgi : (g : Int) < 8 := by omega
  clear h hg
  go_enter Try.func160, Try.ntmps160
  go_wp2_with (go_at_call 152; refine (tL _ _ _ hq1 (by omega)).mono ?_; rintro e w' ⟨rfl, rfl⟩; rw [qK Hg])
  go_region
  go_wp2_with fail
  go_end0
  exact ⟨rfl, (by repeat first|exact br _|assumption|apply bd|apply bn|apply ba|refine bt ?_ (by assumption))⟩
def vY (S : Nat → Int) (M : Nat → Bool) : Nat → List Int
  | 0 => []
  | m + 1 => if M m then vY S M m ++ [S m] else vY S M m
theorem cK (S : Nat → Int) (M : Nat → Bool) (m : Nat) : (vY S M m).length ≤ m := by
  induction m with
  | zero => simp [vY]
  | succ m ih => unfold vY; split <;> (try simp) <;> omega
theorem grpOf_yes {S : Nat → Int} {M : Nat → Bool} {m : Nat} (h : M m = true) : vY S M (m + 1) = vY S M m ++ [S m] := by rw [vY, if_pos h]
theorem grpOf_no {S : Nat → Int} {M : Nat → Bool} {m : Nat} (h : M m = false) : vY S M (m + 1) = vY S M m := by rw [vY, h]; rfl
theorem grpTo_of (xs : List Int) (q : Int) (m : Nat) : kD xs q m = vY (fun g => gsumTo xs q g xs.length) (fun g => kG xs q g xs.length) m := by
  induction m with
  | zero => rfl
  | succ m ih => rw [kD, vY, ih]
set_option maxRecDepth 100000 in
set_option maxHeartbeats 2000000 in
theorem gsums_any (B o : Nat) (S : Nat → Int) (M : Nat → Bool) (w : World) (h : Grp w B o S M) :
    Calls Try.prog 155 #[.pointer (some ⟨B, o, none⟩)] w fun e w' => ∃ v, e = .returned v ∧ Own w w' v (vY S M 8) ∧ Bw w w' := by
  have HG := qJ h
  have hsz := h.size
  clear h
  go_enter Try.func155, Try.ntmps155
  go_wp2_with fail
  go_loopw [3, 4] (fun v i wr => ∃ m : Nat, m ≤ 8 ∧ i = .int .i64 m ∧ Own w wr v (vY S M m) ∧ Bw w wr) (fun _ i _ => 8 - (intOf i).toNat)
  case atStart => exact ⟨0, Nat.zero_le _, rfl, Own.nil _ _, (by repeat first|exact br _|assumption|apply bd|apply bn|apply ba|refine bt ?_ (by assumption))⟩
  case round =>
    obtain ⟨m, hm8, rfl, hown, hB2⟩ := hrel
    rename World => wr
    have hln := cK S M m
    by_cases hlt2 : m < 8
    · have hG2 := (qK HG).bw hB2
      have hs := hG2.sum m hlt2
      have hm := hG2.met m hlt2
      have hsz2 := hG2.size
      have hm1 : (m : Int) < 8 := by omega
      clear hG2
      have Hy := qJ (@grpOf_yes S M m)
      have Hn := qJ (@grpOf_no S M m)
      cases hmt : M m with
      | true =>
        rw [hmt] at hm
        go_wp2_with (at_builtin; refine mK _ rfl _ _ rfl _ _ (vY S M m) rfl (hown.bw (by repeat first|exact br _|assumption|apply bd|apply bn|apply ba|refine bt ?_ (by assumption))) _ _ (S m) rfl (by simp) (by omega) (by repeat first|exact br _|assumption|apply bd|apply bn|apply ba|refine bt ?_ (by assumption)) ?_; intro v' w2 hown1 hB3 hgr1)
        go_roundw
        case rel => exact ⟨m + 1, by omega, by go_num, by rw [(qK Hy) hmt]; exact hown1, hB3⟩
        case measure => simp [intOf]; omega
      | false =>
        rw [hmt] at hm
        go_wp2_with fail
        go_roundw
        case rel => exact ⟨m + 1, by omega, by go_num, by rw [(qK Hn) hmt]; exact hown, hB2⟩
        case measure => simp [intOf]; omega
    · have hmm : m = 8 := by omega
      subst hmm
      go_wp2_with fail
      go_ret
      exact ⟨_, rfl, hown, hB2⟩
def nJ (l : List Int) : Prop := ∀ v ∈ l, mQ v
theorem dW {v : Int} (h : mQ v) : wrap64 v = v := by obtain ⟨h1, h2⟩ := h; unfold wrap64; omega
theorem wrap_I64 (v : Int) : mQ (wrap64 v) := zH v
theorem fM {l : List Int} {k : Nat} (h : k < l.length) : kC l k ∈ l := by rw [jL h]; exact List.getElem_mem h
def gR (x : Nd) : Int := if x.kind == 1 then x.k else 0
def tJ (x : Nd) (l : List Int) (i : Nat) : Bool := ((x.kind == 5) && jF (l.take i) (kC l i)) || ((x.kind == 2) && (kC l i % x.k != x.m))
def kF (x : Nd) (l : List Int) : Nat → List Int
  | 0 => []
  | i + 1 => if tJ x l i then kF x l i else kF x l i ++ [wrap64 (kC l i + gR x)]
def wJ (x : Nd) (l : List Int) : List Int := if x.kind == 6 then kD l x.k x.k.toNat else kF x l l.length
theorem pG (x : Nd) (l : List Int) (k : Nat) : (kF x l k).length ≤ k := by
  induction k with
  | zero => simp [kF]
  | succ k ih => unfold kF; split <;> (try simp) <;> omega
theorem lT {x : Nd} {l : List Int} {i : Nat} (h : tJ x l i = true) : kF x l (i + 1) = kF x l i := by rw [kF, if_pos h]
theorem dQ {x : Nd} {l : List Int} {i : Nat} (h : tJ x l i = false) : kF x l (i + 1) = kF x l i ++ [wrap64 (kC l i + gR x)] := by rw [kF, h]; rfl
theorem refTo_64 (x : Nd) (l : List Int) (k : Nat) : nJ (kF x l k) := by
  induction k with
  | zero => intro v hv; simp [kF] at hv
  | succ k ih =>
    unfold kF
    split
    · exact ih
    · intro v hv
      rcases List.mem_append.1 hv with hv | hv
      · exact ih v hv
      · simp at hv; subst hv; exact wrap_I64 _
theorem gsum_64 (l : List Int) (q : Int) (g k : Nat) : mQ (gsumTo l q g k) := by
  induction k with
  | zero => unfold gsumTo; exact ⟨by omega, by omega⟩
  | succ k ih => unfold gsumTo; split
                 · exact wrap_I64 _
                 · exact ih
theorem grp_64 (l : List Int) (q : Int) (m : Nat) : nJ (kD l q m) := by
  induction m with
  | zero => intro v hv; simp [kD] at hv
  | succ m ih =>
    unfold kD
    split
    · intro v hv
      rcases List.mem_append.1 hv with hv | hv
      · exact ih v hv
      · simp at hv; subst hv; exact gsum_64 _ _ _ _
    · exact ih
theorem nodeL_64 (x : Nd) (l : List Int) : nJ (wJ x l) := by
  unfold wJ; split
  · exact grp_64 _ _ _
  · exact refTo_64 _ _ _
theorem nodeL_len {x : Nd} {l : List Int} (h : x.kind = 6 → x.k ≤ 8) : (wJ x l).length ≤ l.length ∨ (wJ x l).length ≤ 8 := by
  unfold wJ; split
  · rename_i h6
    have := h (by simpa using h6)
    exact .inr (Nat.le_trans (grpTo_len _ _ _) (by omega))
  · exact .inl (pG _ _ _)
theorem refTo_map {x : Nd} (h5 : (x.kind == 5) = false) (l : List Int) : ∀ k, k ≤ l.length → kF x l k = ((l.take k).filter fun v => !((x.kind == 2) && (v % x.k != x.m))).map fun v => wrap64 (v + gR x) := by
  intro k
  induction k with
  | zero => intro _; simp [kF]
  | succ k ih =>
    intro hk
    rw [wS (by omega), List.filter_append, List.map_append, ← ih (by omega)]
    cases hs : tJ x l k with
    | true =>
      rw [lT hs]
      unfold tJ at hs
      rw [h5] at hs
      simp only [Bool.false_and, Bool.false_or] at hs
      rw [List.filter_cons_of_neg (by rw [hs]; decide)]
      simp
    | false =>
      rw [dQ hs]
      unfold tJ at hs
      rw [h5] at hs
      simp only [Bool.false_and, Bool.false_or] at hs
      rw [List.filter_cons_of_pos (by rw [hs]; rfl)]
      simp
theorem refTo_once {x : Nd} (h5 : x.kind = 5) {l : List Int} (h : nJ l) : ∀ k, k ≤ l.length → (kF x l k).Nodup ∧ ∀ v, v ∈ kF x l k ↔ v ∈ l.take k := by
  have ha : gR x = 0 := by simp [gR, h5]
  intro k
  induction k with
  | zero => intro _; simp [kF]
  | succ k ih =>
    intro hk
    obtain ⟨h1, h2⟩ := ih (by omega)
    have hm : mQ (kC l k) := h _ (fM (by omega))
    have hsk : tJ x l k = jF (l.take k) (kC l k) := by simp [tJ, h5]
    rw [wS (by omega)]
    cases hs : jF (l.take k) (kC l k) with
    | true =>
      rw [lT (by rw [hsk, hs])]
      refine ⟨h1, fun v => ?_⟩
      rw [h2, List.mem_append]
      constructor
      · exact .inl
      · rintro (h | h)
        · exact h
        · simp at h; subst h; exact hasB_iff.1 hs
    | false =>
      rw [dQ (by rw [hsk, hs]), ha, Int.add_zero, dW hm]
      refine ⟨?_, fun v => ?_⟩
      · rw [List.nodup_append]
        refine ⟨h1, by simp, ?_⟩
        intro a haa b hb e
        simp at hb
        rw [e, hb] at haa
        exact hasB_false.1 hs ((h2 _).1 haa)
      · rw [List.mem_append, List.mem_append, h2]
theorem perm_mem {a b : List Int} (ha : a.Nodup) (hb : b.Nodup) (h : ∀ v, v ∈ a ↔ v ∈ b) : a.Perm b := by
  rw [List.perm_iff_count]
  intro v
  rw [ha.count, hb.count]
  by_cases hv : v ∈ a
  · rw [if_pos hv, if_pos ((h v).1 hv)]
  · rw [if_neg hv, if_neg (fun h' => hv ((h v).2 h'))]
def pJ (q : Int) (g : Nat) : List Int → Int
  | [] => 0
  | v :: t => (if v % q == g then v else 0) + pJ q g t
theorem sumG_app (q : Int) (g : Nat) (a b : List Int) : pJ q g (a ++ b) = pJ q g a + pJ q g b := by
  induction a with
  | nil => simp [pJ]
  | cons v t ih => simp only [List.cons_append, pJ, ih]; omega
theorem sumG_perm {q : Int} {g : Nat} {a b : List Int} (h : a.Perm b) : pJ q g a = pJ q g b := by
  induction h with
  | nil => rfl
  | cons v _ ih => simp only [pJ, ih]
  | swap v u t => simp only [pJ]; omega
  | trans _ _ ih1 ih2 => exact ih1.trans ih2
theorem bH (l : List Int) (q : Int) (g : Nat) : ∀ k, k ≤ l.length → gsumTo l q g k = wrap64 (pJ q g (l.take k)) := by
  intro k
  induction k with
  | zero => intro _; simp [gsumTo, pJ, wrap64]
  | succ k ih =>
    intro hk
    rw [wS (by omega), sumG_app]
    unfold gsumTo
    rw [ih (by omega)]
    split
    · rename_i h; simp only [pJ, h]; simp only [wrap64]; simp; omega
    · rename_i h; simp [pJ, h]
theorem gB (l : List Int) (q : Int) (g : Nat) : ∀ k, k ≤ l.length → (kG l q g k = true ↔ ∃ v ∈ l.take k, v % q = g) := by
  intro k
  induction k with
  | zero => intro _; simp [kG]
  | succ k ih =>
    intro hk
    rw [wS (by omega)]
    unfold kG
    split
    · rename_i h; simp at h; simp; exact .inr h
    · rename_i h; simp at h
      rw [ih (by omega)]
      constructor
      · rintro ⟨v, hv, e⟩; exact ⟨v, List.mem_append_left _ hv, e⟩
      · rintro ⟨v, hv, e⟩
        rcases List.mem_append.1 hv with hv | hv
        · exact ⟨v, hv, e⟩
        · simp at hv; subst hv; exact absurd e h
theorem grp_perm {a b : List Int} (q : Int) (h : a.Perm b) (m : Nat) : kD a q m = kD b q m := by
  induction m with
  | zero => rfl
  | succ m ih =>
    unfold kD
    have h1 : kG a q m a.length = kG b q m b.length := by
      rw [Bool.eq_iff_iff, gB a q m _ (Nat.le_refl _), gB b q m _ (Nat.le_refl _), List.take_length, List.take_length]
      constructor
      · rintro ⟨v, hv, e⟩; exact ⟨v, h.mem_iff.1 hv, e⟩
      · rintro ⟨v, hv, e⟩; exact ⟨v, h.mem_iff.2 hv, e⟩
    have h2 : gsumTo a q m a.length = gsumTo b q m b.length := by
      rw [bH a q m _ (Nat.le_refl _), bH b q m _ (Nat.le_refl _), List.take_length, List.take_length, sumG_perm h]
    rw [h1, h2, ih]
theorem grp_more {l : List Int} {q : Int} (hq : 1 ≤ q) : ∀ m : Nat, q ≤ m → kD l q m = kD l q q.toNat := by
  intro m
  induction m with
  | zero => intro h; omega
  | succ m ih =>
    intro h
    by_cases e : q = m + 1
    · rw [e]; rfl
    · rw [← ih (by omega)]
      refine grp_no ?_
      cases hm : kG l q m l.length with
      | false => rfl
      | true =>
        obtain ⟨v, _, hv⟩ := (gB l q m _ (Nat.le_refl _)).1 hm
        have := Int.emod_lt_of_pos v (b := q) (by omega)
        omega
theorem nodeL_perm {x : Nd} {a b : List Int} (h : a.Perm b) (ha : nJ a) : (wJ x a).Perm (wJ x b) := by
  have hb : nJ b := fun v hv => ha v (h.mem_iff.2 hv)
  unfold wJ
  split
  · rw [grp_perm _ h]
  · by_cases h5 : x.kind = 5
    · obtain ⟨a1, a2⟩ := refTo_once h5 ha a.length (Nat.le_refl _)
      obtain ⟨b1, b2⟩ := refTo_once h5 hb b.length (Nat.le_refl _)
      refine perm_mem a1 b1 fun v => ?_
      rw [a2, b2, List.take_length, List.take_length]
      exact h.mem_iff
    · have h5' : (x.kind == 5) = false := by simp [h5]
      rw [refTo_map h5' a _ (Nat.le_refl _), refTo_map h5' b _ (Nat.le_refl _), List.take_length, List.take_length]
      exact (h.filter _).map _
structure Gv where
  node : Int
  epoch : Int
  value : Int
def vR (gv : List Gv) (k : Nat) : Gv := gv.getD k ⟨0, 0, 0⟩
def cN (gv : List Gv) (n e s i : Nat) : Bool := (s == 0) && ((vR gv i).node == (n : Int)) && ((vR gv i).epoch == (e : Int))
def zW (gv : List Gv) (n e s : Nat) : Nat → List Int
  | 0 => []
  | i + 1 => if cN gv n e s i then zW gv n e s i ++ [(vR gv i).value] else zW gv n e s i
def bU (gv : List Gv) (n e s : Nat) : List Int := zW gv n e s gv.length
theorem lR (gv : List Gv) (n e s k : Nat) : (zW gv n e s k).length ≤ k := by
  induction k with
  | zero => simp [zW]
  | succ k ih => unfold zW; split <;> (try simp) <;> omega
theorem srcTo_yes {gv : List Gv} {n e s i : Nat} (h : cN gv n e s i = true) : zW gv n e s (i + 1) = zW gv n e s i ++ [(vR gv i).value] := by rw [zW, if_pos h]
theorem srcTo_no {gv : List Gv} {n e s i : Nat} (h : cN gv n e s i = false) : zW gv n e s (i + 1) = zW gv n e s i := by rw [zW, h]; rfl
theorem srcTo_64 {gv : List Gv} (h : ∀ k, k < gv.length → mQ (vR gv k).value) (n e s : Nat) : ∀ k, k ≤ gv.length → nJ (zW gv n e s k) := by
  intro k
  induction k with
  | zero => intro _ v hv; simp [zW] at hv
  | succ k ih =>
    intro hk
    unfold zW
    split
    · intro v hv
      rcases List.mem_append.1 hv with hv | hv
      · exact ih (by omega) v hv
      · simp at hv; subst hv; exact h k (by omega)
    · exact ih (by omega)
def kK (x : Nd) (cur : Nat → List Int) : List Int := (qF x).flatMap fun z => cur z.toNat
def fG (ns : List Nd) (gv : List Gv) (e s n : Nat) (cur prev : Nat → List Int) : List Int :=
  if (qV ns n).kind == 0 then bU gv n e s else if (qV ns n).kind == 4 then kK (qV ns n) prev else wJ (qV ns n) (kK (qV ns n) cur)
def valD (ns : List Nd) (gv : List Gv) (e s : Nat) (prev : Nat → List Int) : Nat → Nat → List Int
  | 0, _ => []
  | d + 1, n => fG ns gv e s n (valD ns gv e s prev d) prev
def zL (ns : List Nd) (gv : List Gv) (e : Nat) : Nat → Nat → List Int
  | 0 => valD ns gv e 0 (fun _ => []) ns.length
  | s + 1 => valD ns gv e (s + 1) (zL ns gv e s) ns.length
def hY (F : Nat → Nat → List Int) : Nat → Nat → List Int
  | 0 => fun _ => []
  | s + 1 => F s
theorem valS_eq (ns : List Nd) (gv : List Gv) (e s : Nat) : zL ns gv e s = valD ns gv e s (hY (zL ns gv e) s) ns.length := by cases s <;> rfl
structure Good (ns : List Nd) (r : Int) (q : List Int) : Prop where
  wf : wfB ns r = true
  ok : OrdOk ns q
  all : ∀ k, k < ns.length → jF q k = true
theorem takes_in {x : Nd} {z : Int} (h : z ∈ qF x) : qL x z = true := by
  unfold qF at h
  unfold qL
  split at h
  · simp at h
  · rename_i h0
    split at h
    · rename_i h3
      simp at h
      simp at h0 h3
      simp [h3]
      rcases h with h | h
      · exact .inl h.symm
      · exact .inr h.symm
    · simp at h
      simp at h0
      simp [h0, h]
theorem wf_input7 {ns : List Nd} {r : Int} (h : wfB ns r = true) {k : Nat} (hk : k < ns.length) {n : Int} (hn : n ∈ qF (qV ns k)) : ∃ a : Nat, n = a ∧ a < ns.length ∧ (qV ns a).kind ≠ 7 := by
  have h1 : pB ns ns.length = true := by simp [wfB] at h; exact h.1.2
  have h2 := mD h1 k hk
  rw [cF] at h2
  simp only [Bool.and_eq_true] at h2
  have h3 := h2.2
  unfold inB at h3
  rw [List.all_eq_true] at h3
  have := h3 n hn
  simp [gM] at this
  obtain ⟨b1, b2⟩ := isNodeB_iff.1 this.1
  obtain ⟨a, rfl⟩ := Int.eq_ofNat_of_zero_le b1
  exact ⟨a, rfl, by omega, by simpa using this.2⟩
theorem Good.inp {ns : List Nd} {r : Int} {q : List Int} (h : Good ns r q) {k : Nat} (hk : k < ns.length) {z : Int} (hz : z ∈ qF (qV ns k)) : ∃ a : Nat, z = a ∧ a < ns.length ∧ (qV ns a).kind ≠ 7 ∧ ((qV ns k).kind ≠ 4 → vF q a < vF q k) := by
  obtain ⟨a, rfl, ha, h7⟩ := wf_input7 h.wf hk hz
  exact ⟨a, rfl, ha, h7, fun h4 => rank_lt h.ok (h.all k hk) (takes_in hz) h4⟩
theorem Good.rk {ns : List Nd} {r : Int} {q : List Int} (h : Good ns r q) {k : Nat} (hk : k < ns.length) : vF q k < ns.length := by
  have h1 : vF q k < q.length := List.idxOf_lt_length_iff.2 (hasB_iff.1 (h.all k hk))
  have h2 : q.length ≤ ns.length := by
    have := fR (xs := q) (ys := dY ns.length) h.ok.nodup (fun z hz => mem_upto.2 (h.ok.range z hz))
    simpa [dY] using this
  omega
theorem nX {x : Nd} {f g : Nat → List Int} (h : ∀ z ∈ qF x, f z.toNat = g z.toNat) : kK x f = kK x g := by
  unfold kK
  rw [List.flatMap_def, List.flatMap_def, List.map_congr_left h]
theorem put_congr {ns : List Nd} {gv : List Gv} {e s n : Nat} {f g f' g' : Nat → List Int} (h : (qV ns n).kind ≠ 4 → ∀ z ∈ qF (qV ns n), f z.toNat = g z.toNat) (h' : (qV ns n).kind = 4 → ∀ z ∈ qF (qV ns n), f' z.toNat = g' z.toNat) :
    fG ns gv e s n f f' = fG ns gv e s n g g' := by
  unfold fG
  split
  · rfl
  · split
    · rename_i h4; exact nX (h' (by simpa using h4))
    · rename_i h4; rw [nX (h (by simpa using h4))]
theorem Good.valD_same {ns : List Nd} {r : Int} {q : List Int} (h : Good ns r q) (gv : List Gv) (e s : Nat) (prev : Nat → List Int) : ∀ d d' n, n < ns.length → vF q n < d → vF q n < d' → valD ns gv e s prev d n = valD ns gv e s prev d' n := by
  intro d
  induction d with
  | zero => intro d' n _ hd; omega
  | succ d ih =>
    intro d' n hn hd hd'
    obtain ⟨d2, rfl⟩ : ∃ d2, d' = d2 + 1 := ⟨d' - 1, by omega⟩
    unfold valD
    refine put_congr (fun h4 z hz => ?_) (fun _ _ _ => rfl)
    obtain ⟨a, rfl, ha, _, hr⟩ := h.inp hn hz
    have := hr h4
    rw [Int.toNat_natCast]
    exact ih d2 a ha (by omega) (by omega)
theorem Good.val_fix {ns : List Nd} {r : Int} {q : List Int} (h : Good ns r q) (gv : List Gv) (e s : Nat) {n : Nat} (hn : n < ns.length) : zL ns gv e s n = fG ns gv e s n (zL ns gv e s) (hY (zL ns gv e) s) := by
  have hr := h.rk hn
  conv => lhs; rw [valS_eq, h.valD_same gv e s _ ns.length (ns.length + 1) n hn hr (by omega)]
  unfold valD
  rw [← valS_eq]
def isMg (ns : List Nd) (z : Int) : Bool := (qV ns z.toNat).kind == 3
def mcB (ns : List Nd) (q : List Int) (k : Nat) : Nat := ((q.take k).filter (isMg ns)).length
def dH (ns : List Nd) (q : List Int) (s n : Nat) : Nat := 20 * 8 ^ s * 2 ^ mcB ns q (vF q n + 1)
theorem lY (ns : List Nd) (q : List Int) {i j : Nat} (h : i ≤ j) : mcB ns q i ≤ mcB ns q j := by
  unfold mcB
  refine List.Sublist.length_le (List.Sublist.filter _ ?_)
  rw [show i = min i j by omega, ← List.take_take]
  exact List.take_sublist _ _
theorem mg_upto (ns : List Nd) : ∀ k, ((dY k).filter (isMg ns)).length = xG ns k := by
  intro k
  induction k with
  | zero => simp [dY, xG]
  | succ k ih =>
    unfold dY at ih ⊢
    rw [List.range_succ, List.map_append, List.filter_append, List.length_append, ih]
    rw [xG, List.map_cons, List.map_nil, List.filter_cons, List.filter_nil]
    have e : isMg ns (Int.ofNat k) = ((qV ns k).kind == 3) := rfl
    rw [e]
    split <;> simp
theorem Good.mc_le {ns : List Nd} {r : Int} {q : List Int} (h : Good ns r q) (k : Nat) : mcB ns q k ≤ 3 := by
  have h1 : mcB ns q k ≤ (q.filter (isMg ns)).length := List.Sublist.length_le (List.Sublist.filter _ (List.take_sublist _ _))
  have h2 : (q.filter (isMg ns)).length ≤ ((dY ns.length).filter (isMg ns)).length := fR (h.ok.nodup.filter _) (by
    intro z hz
    rw [List.mem_filter] at hz ⊢
    exact ⟨mem_upto.2 (h.ok.range z hz.1), hz.2⟩)
  rw [mg_upto] at h2
  have h3 := h.wf
  simp [wfB] at h3
  omega
theorem Good.mc_merge {ns : List Nd} {r : Int} {q : List Int} (h : Good ns r q) {n : Nat} (hn : n < ns.length) (h3 : (qV ns n).kind = 3) : mcB ns q (vF q n + 1) = mcB ns q (vF q n) + 1 := by
  have hm := hasB_iff.1 (h.all n hn)
  have h1 : vF q n < q.length := List.idxOf_lt_length_iff.2 hm
  have he : q[vF q n] = (n : Int) := List.getElem_idxOf h1
  unfold mcB
  rw [List.take_succ_eq_append_getElem h1, List.filter_append, List.length_append, he]
  simp [isMg, h3]
theorem Good.bd_le {ns : List Nd} {r : Int} {q : List Int} (h : Good ns r q) {s n : Nat} (hs : s ≤ 3) : dH ns q s n ≤ 81920 := by
  unfold dH
  have h1 : 8 ^ s ≤ 8 ^ 3 := Nat.pow_le_pow_right (by omega) hs
  have h2 : 2 ^ mcB ns q (vF q n + 1) ≤ 2 ^ 3 := Nat.pow_le_pow_right (by omega) (h.mc_le _)
  calc 20 * 8 ^ s * 2 ^ mcB ns q (vF q n + 1) ≤ 20 * 8 ^ 3 * 2 ^ 3 := Nat.mul_le_mul (Nat.mul_le_mul_left _ h1) h2
    _ = 81920 := by decide
theorem bd_pos (ns : List Nd) (q : List Int) (s n : Nat) : 20 ≤ dH ns q s n := by
  unfold dH
  have h1 : 1 ≤ 8 ^ s := Nat.one_le_pow _ _ (by omega)
  have h2 : 1 ≤ 2 ^ mcB ns q (vF q n + 1) := Nat.one_le_pow _ _ (by omega)
  calc 20 = 20 * 1 * 1 := rfl
    _ ≤ _ := Nat.mul_le_mul (Nat.mul_le_mul_left _ h1) h2
theorem Good.sum8 {ns : List Nd} {r : Int} {q : List Int} (h : Good ns r q) {n : Nat} (hn : n < ns.length) (h6 : (qV ns n).kind = 6) : 1 ≤ (qV ns n).k ∧ (qV ns n).k ≤ 8 := by
  have h1 : pB ns ns.length = true := by have := h.wf; simp [wfB] at this; exact this.1.2
  have h2 := mD h1 n hn
  unfold zN at h2
  simp [h6] at h2
  exact ⟨h2.2.2.2.1, h2.2.2.2.2⟩
theorem Good.put_bd {ns : List Nd} {r : Int} {q : List Int} (h : Good ns r q) {gv : List Gv} (hg : gv.length ≤ 20) {e s n : Nat} (hn : n < ns.length) {cur prev : Nat → List Int}
    (h1 : ∀ a, a < ns.length → (cur a).length ≤ dH ns q s a) (h2 : s = 0 → ∀ a, prev a = []) (h3 : ∀ s', s = s' + 1 → ∀ a, a < ns.length → (prev a).length ≤ dH ns q s' a) :
    (fG ns gv e s n cur prev).length ≤ dH ns q s n := by
  have hp := bd_pos ns q s n
  have hin := fun z hz => h.inp hn (z := z) hz
  unfold fG
  split
  · exact Nat.le_trans (lR _ _ _ _ _) (by omega)
  · rename_i k0
    split
    · rename_i k4
      have k4' : (qV ns n).kind = 4 := by simpa using k4
      have hil : qF (qV ns n) = [(qV ns n).a] := by simp [qF, k4']
      obtain ⟨a, ea, ha, _, _⟩ := hin (qV ns n).a (by rw [hil]; simp)
      have hc : kK (qV ns n) prev = prev a := by unfold kK; rw [hil, ea]; simp
      rw [hc]
      cases s with
      | zero => rw [h2 rfl]; simp
      | succ s' =>
        refine Nat.le_trans (h3 s' rfl a ha) ?_
        unfold dH
        have e1 : 2 ^ mcB ns q (vF q a + 1) ≤ 2 ^ 3 := Nat.pow_le_pow_right (by omega) (h.mc_le _)
        have e2 : 1 ≤ 2 ^ mcB ns q (vF q n + 1) := Nat.one_le_pow _ _ (by omega)
        calc 20 * 8 ^ s' * 2 ^ mcB ns q (vF q a + 1) ≤ 20 * 8 ^ s' * 2 ^ 3 := Nat.mul_le_mul_left _ e1
          _ = 20 * 8 ^ (s' + 1) * 1 := by rw [Nat.mul_one, Nat.mul_assoc, show (8 : Nat) ^ (s' + 1) = 8 ^ s' * 8 from Nat.pow_succ ..]
          _ ≤ _ := Nat.mul_le_mul_left _ e2
    · rename_i k4
      have k4' : (qV ns n).kind ≠ 4 := by simpa using k4
      have key : (kK (qV ns n) cur).length ≤ dH ns q s n := by
        by_cases k3 : (qV ns n).kind = 3
        · have hil : qF (qV ns n) = [(qV ns n).a, (qV ns n).b] := by simp [qF, k3]
          obtain ⟨a, ea, ha, _, ra⟩ := hin (qV ns n).a (by rw [hil]; simp)
          obtain ⟨b, eb, hb, _, rb⟩ := hin (qV ns n).b (by rw [hil]; simp)
          have ra := ra k4'
          have rb := rb k4'
          have hc : kK (qV ns n) cur = cur a ++ cur b := by unfold kK; rw [hil, ea, eb]; simp
          rw [hc, List.length_append]
          have b1 := h1 a ha
          have b2 := h1 b hb
          have hm := h.mc_merge hn k3
          have p1 : dH ns q s a ≤ 20 * 8 ^ s * 2 ^ mcB ns q (vF q n) := Nat.mul_le_mul_left _ (Nat.pow_le_pow_right (by omega) (lY ns q (by omega)))
          have p2 : dH ns q s b ≤ 20 * 8 ^ s * 2 ^ mcB ns q (vF q n) := Nat.mul_le_mul_left _ (Nat.pow_le_pow_right (by omega) (lY ns q (by omega)))
          unfold dH at *
          rw [hm, Nat.pow_succ, ← Nat.mul_assoc]
          omega
        · have hil : qF (qV ns n) = [(qV ns n).a] := by
            have k0' : (qV ns n).kind ≠ 0 := by simpa using k0
            simp [qF, k3, k0']
          obtain ⟨a, ea, ha, _, ra⟩ := hin (qV ns n).a (by rw [hil]; simp)
          have ra := ra k4'
          have hc : kK (qV ns n) cur = cur a := by unfold kK; rw [hil, ea]; simp
          rw [hc]
          refine Nat.le_trans (h1 a ha) (Nat.mul_le_mul_left _ (Nat.pow_le_pow_right (by omega) (lY ns q (by omega))))
      rcases nodeL_len (x := qV ns n) (l := kK (qV ns n) cur) (fun h6 => (h.sum8 hn h6).2) with hh | hh
      · omega
      · omega
def RowAt (W w : World) (g L : Nat) (ls : Nat → List Int) : Prop :=
  ∃ arr : Array Value, w.heap[g]? = some (.cells arr 26 (0, 0)) ∧ arr.size = L ∧ ∀ j, j < L → ∃ v, arr[j]? = some v ∧ Own W w v (ls j)
theorem RowAt.bw {W a b : World} {g L : Nat} {ls : Nat → List Int} (h : RowAt W a g L ls) (hb : Bw a b) : RowAt W b g L ls := by
  obtain ⟨arr, h1, h2, h3⟩ := h
  refine ⟨arr, (Below.block hb g (Array.getElem?_eq_some_iff.1 h1).1).trans h1, h2, fun j hj => ?_⟩
  obtain ⟨v, e, ho⟩ := h3 j hj
  exact ⟨v, e, ho.bw hb⟩
theorem RowAt.weaken {V W a : World} {g L : Nat} {ls : Nat → List Int} (h : RowAt W a g L ls) (hb : Bw V W) : RowAt V a g L ls := by
  obtain ⟨arr, h1, h2, h3⟩ := h
  refine ⟨arr, h1, h2, fun j hj => ?_⟩
  obtain ⟨v, e, ho⟩ := h3 j hj
  exact ⟨v, e, ho.weaken hb⟩
theorem RowAt.get {W w : World} {g L : Nat} {ls : Nat → List Int} (h : RowAt W w g L ls) {j : Nat} (hj : j < L) : ∃ la lc, w.cell? ⟨g, j, none⟩ = some (.slice la (ls j).length lc) ∧ Own W w (.slice la (ls j).length lc) (ls j) ∧ (ls j).length ≤ lc := by
  obtain ⟨arr, h1, h2, h3⟩ := h
  obtain ⟨v, e, ho⟩ := h3 j hj
  obtain ⟨la, lc, rfl, hc⟩ := ho.slice
  exact ⟨la, lc, qQ h1 e, ho, hc⟩
theorem RowAt.lt {W w : World} {g L : Nat} {ls : Nat → List Int} (h : RowAt W w g L ls) : g < w.heap.size := by
  obtain ⟨arr, h1, _⟩ := h
  exact (Array.getElem?_eq_some_iff.1 h1).1
theorem RowAt.fr {W w : World} {g L : Nat} {ls : Nat → List Int} (h : RowAt W w g L ls) (o : Nat) : w.frozen? ⟨g, o, none⟩ = false := by
  obtain ⟨arr, h1, _⟩ := h
  exact qZ h1
theorem Own.setRow {W V w : World} {v u : Value} {xs : List Int} {g k L : Nat} {ls : Nat → List Int} (h : Own W w v xs) (hr : RowAt V w g L ls) : Own W (w.setCell ⟨g, k, none⟩ u) v xs := by
  obtain ⟨arr, h1, _⟩ := hr
  obtain ⟨hl, h⟩ := h
  refine ⟨hl, ?_⟩
  rcases h with h | ⟨b, cap, cur, e, hb, hc, r⟩
  · exact .inl h
  · have hbg : b ≠ g := by
      intro e; subst e; rw [h1] at hc
      simp at hc
    exact .inr ⟨b, cap, cur, e, hb, (Below.heap_setCell w ⟨g, k, none⟩ u b hbg).trans hc, r⟩
def upd (ls : Nat → List Int) (j : Nat) (l : List Int) : Nat → List Int := fun i => if i = j then l else ls i
theorem upd_eq (ls : Nat → List Int) (j : Nat) (l : List Int) : upd ls j l j = l := by simp [upd]
theorem upd_ne (ls : Nat → List Int) {i j : Nat} (l : List Int) (h : i ≠ j) : upd ls j l i = ls i := by simp [upd, h]
theorem RowAt.set {W w : World} {g L : Nat} {ls : Nat → List Int} (h : RowAt W w g L ls) {j : Nat} {v : Value} {l : List Int} (ho : Own W w v l) : RowAt W (w.setCell ⟨g, j, none⟩ v) g L (upd ls j l) := by
  have h' := h
  obtain ⟨arr, h1, h2, h3⟩ := h
  refine ⟨arr.setIfInBounds j v, ?_, by simpa using h2, fun i hi => ?_⟩
  · rw [setCell_eq_setRow w g j arr 26 (0, 0) _ h1]
    exact setRow_heap w g arr _ _ _ h1
  · by_cases e : i = j
    · subst e
      refine ⟨v, by rw [Array.getElem?_setIfInBounds_self_of_lt (by omega)], ?_⟩
      rw [upd_eq]
      exact ho.setRow h'
    · obtain ⟨u, eu, hu⟩ := h3 i hi
      refine ⟨u, by rw [Array.getElem?_setIfInBounds_ne (by omega)]; exact eu, ?_⟩
      rw [upd_ne _ _ e]
      exact hu.setRow h'
theorem RowAt.setOther {W V w : World} {g g' L L' k : Nat} {ls ls' : Nat → List Int} {u : Value} (h : RowAt W w g L ls) (hr : RowAt V w g' L' ls') (hg : g ≠ g') : RowAt W (w.setCell ⟨g', k, none⟩ u) g L ls := by
  obtain ⟨arr, h1, h2, h3⟩ := h
  refine ⟨arr, (Below.heap_setCell w ⟨g', k, none⟩ u g hg).trans h1, h2, fun j hj => ?_⟩
  obtain ⟨v, e, ho⟩ := h3 j hj
  exact ⟨v, e, ho.setRow hr⟩
def gN (x : Nd) (cur prev : Nat → List Int) : List Int := if x.kind == 4 then kK x prev else kK x cur
theorem xL {x : Nd} (h : x.kind = 3) : qF x = [x.a, x.b] := by simp [qF, h]
theorem wQ {x : Nd} (h0 : x.kind ≠ 0) (h3 : x.kind ≠ 3) : qF x = [x.a] := by simp [qF, h0, h3]
def outL (x : Nd) (l : List Int) : List Int := if x.kind == 4 then l else wJ x l
def GvAt (w : World) (ad : Option Addr) (gv : List Gv) : Prop :=
  ∀ i, i < gv.length → ∃ b off, ad = some ⟨b, off, none⟩ ∧ b < w.heap.size ∧ ∀ j, j < gv.length →
    w.cell? ⟨b, off + j * 3, none⟩ = some (.int .i64 (vR gv j).node) ∧ w.cell? ⟨b, off + j * 3 + 1, none⟩ = some (.int .i64 (vR gv j).epoch) ∧ w.cell? ⟨b, off + j * 3 + 2, none⟩ = some (.int .i64 (vR gv j).value)
theorem GvAt.below {w w' : World} {ad : Option Addr} {gv : List Gv} (h : GvAt w ad gv) (hb : Bw w w') : GvAt w' ad gv := by
  intro i hi
  obtain ⟨b, off, e, hlt, hc⟩ := h i hi
  refine ⟨b, off, e, Nat.lt_of_lt_of_le hlt hb.size, fun j hj => ?_⟩
  obtain ⟨c0, c1, c2⟩ := hc j hj
  exact ⟨((qX hb).1 _ _ hlt).trans c0, ((qX hb).1 _ _ hlt).trans c1, ((qX hb).1 _ _ hlt).trans c2⟩
end Go.Proofs.Ytfemleimkbjehaa
