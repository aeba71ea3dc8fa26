import Derived.Test.YtfemleimkbjehaaVal4
import Derived.Test.YtfemleimkbjehaaPureA
namespace Go.Proofs.Ytfemleimkbjehaa
open Go.RowKit

def I64L (l : List Int) : Prop := ∀ v ∈ l, I64 v
theorem wrap_in {v : Int} (h : I64 v) : wrap64 v = v := by obtain ⟨h1, h2⟩ := h; unfold wrap64; omega
theorem wrap_I64 (v : Int) : I64 (wrap64 v) := wrap64_bd v
theorem nth_mem {l : List Int} {k : Nat} (h : k < l.length) : nth l k ∈ l := by rw [nth_lt h]; exact List.getElem_mem h

/-- What an Add adds. -/
def addB (x : Nd) : Int := if x.kind == 1 then x.k else 0
/-- Does a node let the value at the place i by? -/
def skipB (x : Nd) (l : List Int) (i : Nat) : Bool := ((x.kind == 5) && hasB (l.take i) (nth l i)) || ((x.kind == 2) && (nth l i % x.k != x.m))
def refTo (x : Nd) (l : List Int) : Nat → List Int
  | 0 => []
  | i + 1 => if skipB x l i then refTo x l i else refTo x l i ++ [wrap64 (nth l i + addB x)]
/-- What a node (no Source, no Back) puts out of what comes to it. -/
def nodeL (x : Nd) (l : List Int) : List Int := if x.kind == 6 then grpTo l x.k x.k.toNat else refTo x l l.length

theorem refTo_len (x : Nd) (l : List Int) (k : Nat) : (refTo x l k).length ≤ k := by
  induction k with
  | zero => simp [refTo]
  | succ k ih => unfold refTo; split <;> (try simp) <;> omega
theorem refTo_yes {x : Nd} {l : List Int} {i : Nat} (h : skipB x l i = true) : refTo x l (i + 1) = refTo x l i := by rw [refTo, if_pos h]
theorem refTo_no {x : Nd} {l : List Int} {i : Nat} (h : skipB x l i = false) : refTo x l (i + 1) = refTo x l i ++ [wrap64 (nth l i + addB x)] := by rw [refTo, h]; rfl
theorem refTo_64 (x : Nd) (l : List Int) (k : Nat) : I64L (refTo x l k) := by
  induction k with
  | zero => intro v hv; simp [refTo] at hv
  | succ k ih =>
    unfold refTo
    split
    · exact ih
    · intro v hv
      rcases List.mem_append.1 hv with hv | hv
      · exact ih v hv
      · simp at hv; subst hv; exact wrap_I64 _
theorem gsum_64 (l : List Int) (q : Int) (g k : Nat) : I64 (gsumTo l q g k) := by
  induction k with
  | zero => unfold gsumTo; exact ⟨by omega, by omega⟩
  | succ k ih => unfold gsumTo; split
                 · exact wrap_I64 _
                 · exact ih
theorem grp_64 (l : List Int) (q : Int) (m : Nat) : I64L (grpTo l q m) := by
  induction m with
  | zero => intro v hv; simp [grpTo] at hv
  | succ m ih =>
    unfold grpTo
    split
    · intro v hv
      rcases List.mem_append.1 hv with hv | hv
      · exact ih v hv
      · simp at hv; subst hv; exact gsum_64 _ _ _ _
    · exact ih
theorem nodeL_64 (x : Nd) (l : List Int) : I64L (nodeL x l) := by
  unfold nodeL; split
  · exact grp_64 _ _ _
  · exact refTo_64 _ _ _
theorem nodeL_len {x : Nd} {l : List Int} (h : x.kind = 6 → x.k ≤ 8) : (nodeL x l).length ≤ l.length ∨ (nodeL x l).length ≤ 8 := by
  unfold nodeL; split
  · rename_i h6
    have := h (by simpa using h6)
    exact .inr (Nat.le_trans (grpTo_len _ _ _) (by omega))
  · exact .inl (refTo_len _ _ _)

/-- A node that is no Once and no Sum: value by value. -/
theorem refTo_map {x : Nd} (h5 : (x.kind == 5) = false) (l : List Int) : ∀ k, k ≤ l.length → refTo x l k = ((l.take k).filter fun v => !((x.kind == 2) && (v % x.k != x.m))).map fun v => wrap64 (v + addB x) := by
  intro k
  induction k with
  | zero => intro _; simp [refTo]
  | succ k ih =>
    intro hk
    rw [take_nth (by omega), List.filter_append, List.map_append, ← ih (by omega)]
    cases hs : skipB x l k with
    | true =>
      rw [refTo_yes hs]
      unfold skipB at hs
      rw [h5] at hs
      simp only [Bool.false_and, Bool.false_or] at hs
      rw [List.filter_cons_of_neg (by rw [hs]; decide)]
      simp
    | false =>
      rw [refTo_no hs]
      unfold skipB at hs
      rw [h5] at hs
      simp only [Bool.false_and, Bool.false_or] at hs
      rw [List.filter_cons_of_pos (by rw [hs]; rfl)]
      simp
/-- A Once: each value once. -/
theorem refTo_once {x : Nd} (h5 : x.kind = 5) {l : List Int} (h : I64L l) : ∀ k, k ≤ l.length → (refTo x l k).Nodup ∧ ∀ v, v ∈ refTo x l k ↔ v ∈ l.take k := by
  have ha : addB x = 0 := by simp [addB, h5]
  intro k
  induction k with
  | zero => intro _; simp [refTo]
  | succ k ih =>
    intro hk
    obtain ⟨h1, h2⟩ := ih (by omega)
    have hm : I64 (nth l k) := h _ (nth_mem (by omega))
    have hsk : skipB x l k = hasB (l.take k) (nth l k) := by simp [skipB, h5]
    rw [take_nth (by omega)]
    cases hs : hasB (l.take k) (nth l k) with
    | true =>
      rw [refTo_yes (by rw [hsk, hs])]
      refine ⟨h1, fun v => ?_⟩
      rw [h2, List.mem_append]
      constructor
      · exact .inl
      · rintro (h | h)
        · exact h
        · simp at h; subst h; exact hasB_iff.1 hs
    | false =>
      rw [refTo_no (by rw [hsk, hs]), ha, Int.add_zero, wrap_in hm]
      refine ⟨?_, fun v => ?_⟩
      · rw [List.nodup_append]
        refine ⟨h1, by simp, ?_⟩
        intro a haa b hb e
        simp at hb
        rw [e, hb] at haa
        exact hasB_false.1 hs ((h2 _).1 haa)
      · rw [List.mem_append, List.mem_append, h2]
theorem perm_mem {a b : List Int} (ha : a.Nodup) (hb : b.Nodup) (h : ∀ v, v ∈ a ↔ v ∈ b) : a.Perm b := by
  rw [List.perm_iff_count]
  intro v
  rw [ha.count, hb.count]
  by_cases hv : v ∈ a
  · rw [if_pos hv, if_pos ((h v).1 hv)]
  · rw [if_neg hv, if_neg (fun h' => hv ((h v).2 h'))]

/-- The sum of a group, without the going round. -/
def sumG (q : Int) (g : Nat) : List Int → Int
  | [] => 0
  | v :: t => (if v % q == g then v else 0) + sumG q g t
theorem sumG_app (q : Int) (g : Nat) (a b : List Int) : sumG q g (a ++ b) = sumG q g a + sumG q g b := by
  induction a with
  | nil => simp [sumG]
  | cons v t ih => simp only [List.cons_append, sumG, ih]; omega
theorem sumG_perm {q : Int} {g : Nat} {a b : List Int} (h : a.Perm b) : sumG q g a = sumG q g b := by
  induction h with
  | nil => rfl
  | cons v _ ih => simp only [sumG, ih]
  | swap v u t => simp only [sumG]; omega
  | trans _ _ ih1 ih2 => exact ih1.trans ih2
theorem gsum_eq (l : List Int) (q : Int) (g : Nat) : ∀ k, k ≤ l.length → gsumTo l q g k = wrap64 (sumG q g (l.take k)) := by
  intro k
  induction k with
  | zero => intro _; simp [gsumTo, sumG, wrap64]
  | succ k ih =>
    intro hk
    rw [take_nth (by omega), sumG_app]
    unfold gsumTo
    rw [ih (by omega)]
    split
    · rename_i h; simp only [sumG, h]; simp only [wrap64]; simp; omega
    · rename_i h; simp [sumG, h]
theorem gmet_eq (l : List Int) (q : Int) (g : Nat) : ∀ k, k ≤ l.length → (gmetTo l q g k = true ↔ ∃ v ∈ l.take k, v % q = g) := by
  intro k
  induction k with
  | zero => intro _; simp [gmetTo]
  | succ k ih =>
    intro hk
    rw [take_nth (by omega)]
    unfold gmetTo
    split
    · rename_i h; simp at h; simp; exact .inr h
    · rename_i h; simp at h
      rw [ih (by omega)]
      constructor
      · rintro ⟨v, hv, e⟩; exact ⟨v, List.mem_append_left _ hv, e⟩
      · rintro ⟨v, hv, e⟩
        rcases List.mem_append.1 hv with hv | hv
        · exact ⟨v, hv, e⟩
        · simp at hv; subst hv; exact absurd e h
theorem grp_perm {a b : List Int} (q : Int) (h : a.Perm b) (m : Nat) : grpTo a q m = grpTo b q m := by
  induction m with
  | zero => rfl
  | succ m ih =>
    unfold grpTo
    have h1 : gmetTo a q m a.length = gmetTo b q m b.length := by
      rw [Bool.eq_iff_iff, gmet_eq a q m _ (Nat.le_refl _), gmet_eq b q m _ (Nat.le_refl _), List.take_length, List.take_length]
      constructor
      · rintro ⟨v, hv, e⟩; exact ⟨v, h.mem_iff.1 hv, e⟩
      · rintro ⟨v, hv, e⟩; exact ⟨v, h.mem_iff.2 hv, e⟩
    have h2 : gsumTo a q m a.length = gsumTo b q m b.length := by
      rw [gsum_eq a q m _ (Nat.le_refl _), gsum_eq b q m _ (Nat.le_refl _), List.take_length, List.take_length, sumG_perm h]
    rw [h1, h2, ih]
/-- Groups that there are not have no sum. -/
theorem grp_more {l : List Int} {q : Int} (hq : 1 ≤ q) : ∀ m : Nat, q ≤ m → grpTo l q m = grpTo l q q.toNat := by
  intro m
  induction m with
  | zero => intro h; omega
  | succ m ih =>
    intro h
    by_cases e : q = m + 1
    · rw [e]; rfl
    · rw [← ih (by omega)]
      refine grp_no ?_
      cases hm : gmetTo l q m l.length with
      | false => rfl
      | true =>
        obtain ⟨v, _, hv⟩ := (gmet_eq l q m _ (Nat.le_refl _)).1 hm
        have := Int.emod_lt_of_pos v (b := q) (by omega)
        omega

theorem nodeL_perm {x : Nd} {a b : List Int} (h : a.Perm b) (ha : I64L a) : (nodeL x a).Perm (nodeL x b) := by
  have hb : I64L b := fun v hv => ha v (h.mem_iff.2 hv)
  unfold nodeL
  split
  · rw [grp_perm _ h]
  · by_cases h5 : x.kind = 5
    · obtain ⟨a1, a2⟩ := refTo_once h5 ha a.length (Nat.le_refl _)
      obtain ⟨b1, b2⟩ := refTo_once h5 hb b.length (Nat.le_refl _)
      refine perm_mem a1 b1 fun v => ?_
      rw [a2, b2, List.take_length, List.take_length]
      exact h.mem_iff
    · have h5' : (x.kind == 5) = false := by simp [h5]
      rw [refTo_map h5' a _ (Nat.le_refl _), refTo_map h5' b _ (Nat.le_refl _), List.take_length, List.take_length]
      exact (h.filter _).map _
theorem nodeL_add {x : Nd} (h : x.kind = 1) (l : List Int) : nodeL x l = plusL l x.k := by
  unfold nodeL plusL plusTo
  rw [if_neg (by simp [h]), refTo_map (by simp [h]) l _ (Nat.le_refl _), List.filter_eq_self.2 (by simp [h])]
  simp [h, addB]
theorem nodeL_pass {x : Nd} (h : x.kind = 2) {l : List Int} (hl : I64L l) : nodeL x l = withL l x.k x.m := by
  unfold nodeL withL withTo
  rw [if_neg (by simp [h]), refTo_map (by simp [h]) l _ (Nat.le_refl _)]
  simp only [h, addB, List.take_length]
  have hf : (fun v => !((2 : Int) == 2 && v % x.k != x.m)) = fun v : Int => v % x.k == x.m := by funext v; simp [bne]
  rw [hf]
  have : (List.filter (fun v => v % x.k == x.m) l).map (fun v => wrap64 v) = (List.filter (fun v => v % x.k == x.m) l).map id :=
    List.map_congr_left fun v hv => wrap_in (hl v (List.mem_filter.1 hv).1)
  simpa using this
theorem nodeL_same {x : Nd} (h : x.kind ≠ 1 ∧ x.kind ≠ 2 ∧ x.kind ≠ 5 ∧ x.kind ≠ 6) {l : List Int} (hl : I64L l) : nodeL x l = l := by
  unfold nodeL
  rw [if_neg (by simp [h]), refTo_map (by simp [h]) l _ (Nat.le_refl _), List.filter_eq_self.2 (by simp [h])]
  simp only [addB, List.take_length]
  simp [h]
  have : l.map (fun v => wrap64 v) = l.map id := List.map_congr_left fun v hv => wrap_in (hl v hv)
  simpa using this
theorem nodeL_once {x : Nd} (h : x.kind = 5) {l r : List Int} (hl : I64L l) (hn : r.Nodup) (hm : ∀ v, v ∈ r ↔ v ∈ l) : r.Perm (nodeL x l) := by
  unfold nodeL
  rw [if_neg (by simp [h])]
  obtain ⟨a1, a2⟩ := refTo_once h hl l.length (Nat.le_refl _)
  refine perm_mem hn a1 fun v => ?_
  rw [a2, List.take_length, hm]
theorem nodeL_sum {x : Nd} (h : x.kind = 6) (h1 : 1 ≤ x.k) (h8 : x.k ≤ 8) (l : List Int) : nodeL x l = grpTo l x.k 8 := by
  unfold nodeL
  rw [if_pos (by simp [h]), grp_more h1 8 (by omega)]
end Go.Proofs.Ytfemleimkbjehaa
namespace Go.Proofs.Ytfemleimkbjehaa
open Go.RowKit

/-- What a Source is given. -/
structure Gv where
  node : Int
  epoch : Int
  value : Int
def gvn (gv : List Gv) (k : Nat) : Gv := gv.getD k ⟨0, 0, 0⟩
def srcB (gv : List Gv) (n e s i : Nat) : Bool := (s == 0) && ((gvn gv i).node == (n : Int)) && ((gvn gv i).epoch == (e : Int))
def srcTo (gv : List Gv) (n e s : Nat) : Nat → List Int
  | 0 => []
  | i + 1 => if srcB gv n e s i then srcTo gv n e s i ++ [(gvn gv i).value] else srcTo gv n e s i
def srcL (gv : List Gv) (n e s : Nat) : List Int := srcTo gv n e s gv.length
theorem srcTo_len (gv : List Gv) (n e s k : Nat) : (srcTo gv n e s k).length ≤ k := by
  induction k with
  | zero => simp [srcTo]
  | succ k ih => unfold srcTo; split <;> (try simp) <;> omega
theorem srcTo_yes {gv : List Gv} {n e s i : Nat} (h : srcB gv n e s i = true) : srcTo gv n e s (i + 1) = srcTo gv n e s i ++ [(gvn gv i).value] := by rw [srcTo, if_pos h]
theorem srcTo_no {gv : List Gv} {n e s i : Nat} (h : srcB gv n e s i = false) : srcTo gv n e s (i + 1) = srcTo gv n e s i := by rw [srcTo, h]; rfl
theorem srcTo_64 {gv : List Gv} (h : ∀ k, k < gv.length → I64 (gvn gv k).value) (n e s : Nat) : ∀ k, k ≤ gv.length → I64L (srcTo gv n e s k) := by
  intro k
  induction k with
  | zero => intro _ v hv; simp [srcTo] at hv
  | succ k ih =>
    intro hk
    unfold srcTo
    split
    · intro v hv
      rcases List.mem_append.1 hv with hv | hv
      · exact ih (by omega) v hv
      · simp at hv; subst hv; exact h k (by omega)
    · exact ih (by omega)

def comeL (x : Nd) (cur : Nat → List Int) : List Int := (inputsL x).flatMap fun z => cur z.toNat
def putL (ns : List Nd) (gv : List Gv) (e s n : Nat) (cur prev : Nat → List Int) : List Int :=
  if (ndn ns n).kind == 0 then srcL gv n e s else if (ndn ns n).kind == 4 then comeL (ndn ns n) prev else nodeL (ndn ns n) (comeL (ndn ns n) cur)
def valD (ns : List Nd) (gv : List Gv) (e s : Nat) (prev : Nat → List Int) : Nat → Nat → List Int
  | 0, _ => []
  | d + 1, n => putL ns gv e s n (valD ns gv e s prev d) prev
/-- What a node puts out at a time. -/
def valS (ns : List Nd) (gv : List Gv) (e : Nat) : Nat → Nat → List Int
  | 0 => valD ns gv e 0 (fun _ => []) ns.length
  | s + 1 => valD ns gv e (s + 1) (valS ns gv e s) ns.length
def prevS (F : Nat → Nat → List Int) : Nat → Nat → List Int
  | 0 => fun _ => []
  | s + 1 => F s
theorem valS_eq (ns : List Nd) (gv : List Gv) (e s : Nat) : valS ns gv e s = valD ns gv e s (prevS (valS ns gv e) s) ns.length := by cases s <;> rfl

structure Good (ns : List Nd) (r : Int) (q : List Int) : Prop where
  wf : wfB ns r = true
  ok : OrdOk ns q
  all : ∀ k, k < ns.length → hasB q k = true

theorem takes_in {x : Nd} {z : Int} (h : z ∈ inputsL x) : takesB x z = true := by
  unfold inputsL at h
  unfold takesB
  split at h
  · simp at h
  · rename_i h0
    split at h
    · rename_i h3
      simp at h
      simp at h0 h3
      simp [h3]
      rcases h with h | h
      · exact .inl h.symm
      · exact .inr h.symm
    · simp at h
      simp at h0
      simp [h0, h]
theorem wf_input7 {ns : List Nd} {r : Int} (h : wfB ns r = true) {k : Nat} (hk : k < ns.length) {n : Int} (hn : n ∈ inputsL (ndn ns k)) : ∃ a : Nat, n = a ∧ a < ns.length ∧ (ndn ns a).kind ≠ 7 := by
  have h1 : wfTo ns ns.length = true := by simp [wfB] at h; exact h.1.2
  have h2 := wfTo_get h1 k hk
  rw [wfNode_eq] at h2
  simp only [Bool.and_eq_true] at h2
  have h3 := h2.2
  unfold inB at h3
  rw [List.all_eq_true] at h3
  have := h3 n hn
  simp [cbtfB] at this
  obtain ⟨b1, b2⟩ := isNodeB_iff.1 this.1
  obtain ⟨a, rfl⟩ := Int.eq_ofNat_of_zero_le b1
  exact ⟨a, rfl, by omega, by simpa using this.2⟩
theorem Good.inp {ns : List Nd} {r : Int} {q : List Int} (h : Good ns r q) {k : Nat} (hk : k < ns.length) {z : Int} (hz : z ∈ inputsL (ndn ns k)) : ∃ a : Nat, z = a ∧ a < ns.length ∧ (ndn ns a).kind ≠ 7 ∧ ((ndn ns k).kind ≠ 4 → rank q a < rank q k) := by
  obtain ⟨a, rfl, ha, h7⟩ := wf_input7 h.wf hk hz
  exact ⟨a, rfl, ha, h7, fun h4 => rank_lt h.ok (h.all k hk) (takes_in hz) h4⟩
theorem Good.rk {ns : List Nd} {r : Int} {q : List Int} (h : Good ns r q) {k : Nat} (hk : k < ns.length) : rank q k < ns.length := by
  have h1 : rank q k < q.length := List.idxOf_lt_length_iff.2 (hasB_iff.1 (h.all k hk))
  have h2 : q.length ≤ ns.length := by
    have := nodup_le (xs := q) (ys := upto ns.length) h.ok.nodup (fun z hz => mem_upto.2 (h.ok.range z hz))
    simpa [upto] using this
  omega
theorem come_congr {x : Nd} {f g : Nat → List Int} (h : ∀ z ∈ inputsL x, f z.toNat = g z.toNat) : comeL x f = comeL x g := by
  unfold comeL
  rw [List.flatMap_def, List.flatMap_def, List.map_congr_left h]
theorem put_congr {ns : List Nd} {gv : List Gv} {e s n : Nat} {f g f' g' : Nat → List Int} (h : (ndn ns n).kind ≠ 4 → ∀ z ∈ inputsL (ndn ns n), f z.toNat = g z.toNat) (h' : (ndn ns n).kind = 4 → ∀ z ∈ inputsL (ndn ns n), f' z.toNat = g' z.toNat) :
    putL ns gv e s n f f' = putL ns gv e s n g g' := by
  unfold putL
  split
  · rfl
  · split
    · rename_i h4; exact come_congr (h' (by simpa using h4))
    · rename_i h4; rw [come_congr (h (by simpa using h4))]
theorem Good.valD_same {ns : List Nd} {r : Int} {q : List Int} (h : Good ns r q) (gv : List Gv) (e s : Nat) (prev : Nat → List Int) : ∀ d d' n, n < ns.length → rank q n < d → rank q n < d' → valD ns gv e s prev d n = valD ns gv e s prev d' n := by
  intro d
  induction d with
  | zero => intro d' n _ hd; omega
  | succ d ih =>
    intro d' n hn hd hd'
    obtain ⟨d2, rfl⟩ : ∃ d2, d' = d2 + 1 := ⟨d' - 1, by omega⟩
    unfold valD
    refine put_congr (fun h4 z hz => ?_) (fun _ _ _ => rfl)
    obtain ⟨a, rfl, ha, _, hr⟩ := h.inp hn hz
    have := hr h4
    rw [Int.toNat_natCast]
    exact ih d2 a ha (by omega) (by omega)
theorem Good.val_fix {ns : List Nd} {r : Int} {q : List Int} (h : Good ns r q) (gv : List Gv) (e s : Nat) {n : Nat} (hn : n < ns.length) : valS ns gv e s n = putL ns gv e s n (valS ns gv e s) (prevS (valS ns gv e) s) := by
  have hr := h.rk hn
  conv => lhs; rw [valS_eq, h.valD_same gv e s _ ns.length (ns.length + 1) n hn hr (by omega)]
  unfold valD
  rw [← valS_eq]

/-- The bound of what a node puts out in a round: as many Merges as lie ahead of it double it. -/
def isMg (ns : List Nd) (z : Int) : Bool := (ndn ns z.toNat).kind == 3
def mcB (ns : List Nd) (q : List Int) (k : Nat) : Nat := ((q.take k).filter (isMg ns)).length
def bdB (ns : List Nd) (q : List Int) (s n : Nat) : Nat := 20 * 8 ^ s * 2 ^ mcB ns q (rank q n + 1)
theorem mc_mono (ns : List Nd) (q : List Int) {i j : Nat} (h : i ≤ j) : mcB ns q i ≤ mcB ns q j := by
  unfold mcB
  refine List.Sublist.length_le (List.Sublist.filter _ ?_)
  rw [show i = min i j by omega, ← List.take_take]
  exact List.take_sublist _ _
theorem mg_upto (ns : List Nd) : ∀ k, ((upto k).filter (isMg ns)).length = mgTo ns k := by
  intro k
  induction k with
  | zero => simp [upto, mgTo]
  | succ k ih =>
    unfold upto at ih ⊢
    rw [List.range_succ, List.map_append, List.filter_append, List.length_append, ih]
    rw [mgTo, List.map_cons, List.map_nil, List.filter_cons, List.filter_nil]
    have e : isMg ns (Int.ofNat k) = ((ndn ns k).kind == 3) := rfl
    rw [e]
    split <;> simp
theorem Good.mc_le {ns : List Nd} {r : Int} {q : List Int} (h : Good ns r q) (k : Nat) : mcB ns q k ≤ 3 := by
  have h1 : mcB ns q k ≤ (q.filter (isMg ns)).length := List.Sublist.length_le (List.Sublist.filter _ (List.take_sublist _ _))
  have h2 : (q.filter (isMg ns)).length ≤ ((upto ns.length).filter (isMg ns)).length := nodup_le (h.ok.nodup.filter _) (by
    intro z hz
    rw [List.mem_filter] at hz ⊢
    exact ⟨mem_upto.2 (h.ok.range z hz.1), hz.2⟩)
  rw [mg_upto] at h2
  have h3 := h.wf
  simp [wfB] at h3
  omega
theorem Good.mc_merge {ns : List Nd} {r : Int} {q : List Int} (h : Good ns r q) {n : Nat} (hn : n < ns.length) (h3 : (ndn ns n).kind = 3) : mcB ns q (rank q n + 1) = mcB ns q (rank q n) + 1 := by
  have hm := hasB_iff.1 (h.all n hn)
  have h1 : rank q n < q.length := List.idxOf_lt_length_iff.2 hm
  have he : q[rank q n] = (n : Int) := List.getElem_idxOf h1
  unfold mcB
  rw [List.take_succ_eq_append_getElem h1, List.filter_append, List.length_append, he]
  simp [isMg, h3]
theorem Good.bd_le {ns : List Nd} {r : Int} {q : List Int} (h : Good ns r q) {s n : Nat} (hs : s ≤ 3) : bdB ns q s n ≤ 81920 := by
  unfold bdB
  have h1 : 8 ^ s ≤ 8 ^ 3 := Nat.pow_le_pow_right (by omega) hs
  have h2 : 2 ^ mcB ns q (rank q n + 1) ≤ 2 ^ 3 := Nat.pow_le_pow_right (by omega) (h.mc_le _)
  calc 20 * 8 ^ s * 2 ^ mcB ns q (rank q n + 1) ≤ 20 * 8 ^ 3 * 2 ^ 3 := Nat.mul_le_mul (Nat.mul_le_mul_left _ h1) h2
    _ = 81920 := by decide
theorem bd_pos (ns : List Nd) (q : List Int) (s n : Nat) : 20 ≤ bdB ns q s n := by
  unfold bdB
  have h1 : 1 ≤ 8 ^ s := Nat.one_le_pow _ _ (by omega)
  have h2 : 1 ≤ 2 ^ mcB ns q (rank q n + 1) := Nat.one_le_pow _ _ (by omega)
  calc 20 = 20 * 1 * 1 := rfl
    _ ≤ _ := Nat.mul_le_mul (Nat.mul_le_mul_left _ h1) h2
theorem Good.sum8 {ns : List Nd} {r : Int} {q : List Int} (h : Good ns r q) {n : Nat} (hn : n < ns.length) (h6 : (ndn ns n).kind = 6) : 1 ≤ (ndn ns n).k ∧ (ndn ns n).k ≤ 8 := by
  have h1 : wfTo ns ns.length = true := by have := h.wf; simp [wfB] at this; exact this.1.2
  have h2 := wfTo_get h1 n hn
  unfold wfNodeB at h2
  simp [h6] at h2
  exact ⟨h2.2.2.2.1, h2.2.2.2.2⟩
theorem Good.pass {ns : List Nd} {r : Int} {q : List Int} (h : Good ns r q) {n : Nat} (hn : n < ns.length) (h6 : (ndn ns n).kind = 2) : 1 ≤ (ndn ns n).k ∧ (ndn ns n).k ≤ 100 := by
  have h1 : wfTo ns ns.length = true := by have := h.wf; simp [wfB] at this; exact this.1.2
  have h2 := wfTo_get h1 n hn
  unfold wfNodeB at h2
  simp [h6] at h2
  omega

theorem Good.put_bd {ns : List Nd} {r : Int} {q : List Int} (h : Good ns r q) {gv : List Gv} (hg : gv.length ≤ 20) {e s n : Nat} (hn : n < ns.length) {cur prev : Nat → List Int}
    (h1 : ∀ a, a < ns.length → (cur a).length ≤ bdB ns q s a) (h2 : s = 0 → ∀ a, prev a = []) (h3 : ∀ s', s = s' + 1 → ∀ a, a < ns.length → (prev a).length ≤ bdB ns q s' a) :
    (putL ns gv e s n cur prev).length ≤ bdB ns q s n := by
  have hp := bd_pos ns q s n
  have hin := fun z hz => h.inp hn (z := z) hz
  unfold putL
  split
  · exact Nat.le_trans (srcTo_len _ _ _ _ _) (by omega)
  · rename_i k0
    split
    · rename_i k4
      have k4' : (ndn ns n).kind = 4 := by simpa using k4
      have hil : inputsL (ndn ns n) = [(ndn ns n).a] := by simp [inputsL, k4']
      obtain ⟨a, ea, ha, _, _⟩ := hin (ndn ns n).a (by rw [hil]; simp)
      have hc : comeL (ndn ns n) prev = prev a := by unfold comeL; rw [hil, ea]; simp
      rw [hc]
      cases s with
      | zero => rw [h2 rfl]; simp
      | succ s' =>
        refine Nat.le_trans (h3 s' rfl a ha) ?_
        unfold bdB
        have e1 : 2 ^ mcB ns q (rank q a + 1) ≤ 2 ^ 3 := Nat.pow_le_pow_right (by omega) (h.mc_le _)
        have e2 : 1 ≤ 2 ^ mcB ns q (rank q n + 1) := Nat.one_le_pow _ _ (by omega)
        calc 20 * 8 ^ s' * 2 ^ mcB ns q (rank q a + 1) ≤ 20 * 8 ^ s' * 2 ^ 3 := Nat.mul_le_mul_left _ e1
          _ = 20 * 8 ^ (s' + 1) * 1 := by rw [Nat.mul_one, Nat.mul_assoc, show (8 : Nat) ^ (s' + 1) = 8 ^ s' * 8 from Nat.pow_succ ..]
          _ ≤ _ := Nat.mul_le_mul_left _ e2
    · rename_i k4
      have k4' : (ndn ns n).kind ≠ 4 := by simpa using k4
      have key : (comeL (ndn ns n) cur).length ≤ bdB ns q s n := by
        by_cases k3 : (ndn ns n).kind = 3
        · have hil : inputsL (ndn ns n) = [(ndn ns n).a, (ndn ns n).b] := by simp [inputsL, k3]
          obtain ⟨a, ea, ha, _, ra⟩ := hin (ndn ns n).a (by rw [hil]; simp)
          obtain ⟨b, eb, hb, _, rb⟩ := hin (ndn ns n).b (by rw [hil]; simp)
          have ra := ra k4'
          have rb := rb k4'
          have hc : comeL (ndn ns n) cur = cur a ++ cur b := by unfold comeL; rw [hil, ea, eb]; simp
          rw [hc, List.length_append]
          have b1 := h1 a ha
          have b2 := h1 b hb
          have hm := h.mc_merge hn k3
          have p1 : bdB ns q s a ≤ 20 * 8 ^ s * 2 ^ mcB ns q (rank q n) := Nat.mul_le_mul_left _ (Nat.pow_le_pow_right (by omega) (mc_mono ns q (by omega)))
          have p2 : bdB ns q s b ≤ 20 * 8 ^ s * 2 ^ mcB ns q (rank q n) := Nat.mul_le_mul_left _ (Nat.pow_le_pow_right (by omega) (mc_mono ns q (by omega)))
          unfold bdB at *
          rw [hm, Nat.pow_succ, ← Nat.mul_assoc]
          omega
        · have hil : inputsL (ndn ns n) = [(ndn ns n).a] := by
            have k0' : (ndn ns n).kind ≠ 0 := by simpa using k0
            simp [inputsL, k3, k0']
          obtain ⟨a, ea, ha, _, ra⟩ := hin (ndn ns n).a (by rw [hil]; simp)
          have ra := ra k4'
          have hc : comeL (ndn ns n) cur = cur a := by unfold comeL; rw [hil, ea]; simp
          rw [hc]
          refine Nat.le_trans (h1 a ha) (Nat.mul_le_mul_left _ (Nat.pow_le_pow_right (by omega) (mc_mono ns q (by omega))))
      rcases nodeL_len (x := ndn ns n) (l := comeL (ndn ns n) cur) (fun h6 => (h.sum8 hn h6).2) with hh | hh
      · omega
      · omega
end Go.Proofs.Ytfemleimkbjehaa
