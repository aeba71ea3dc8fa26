import Derived.Test.YtfemleimkbjehaaKN
import Derived.Test.YtfemleimkbjehaaJ4
import Derived.Test.YtfemleimkbjehaaJ24
set_option maxRecDepth 1000000
set_option maxHeartbeats 40000000
set_option linter.unusedVariables false
set_option linter.unusedSimpArgs false
namespace Go.Proofs.Ytfemleimkbjehaa
open Go.RowKit
def wkF (n e s : Nat) (y : Ev) : Bool := (y.kind == 1) && ((y.node == (n : Int)) && ((y.epoch == (e : Int)) && (y.round == (s : Int))))
def uR (evs : List Ev) (n e s : Nat) : List Int := (evs.filter (wkF n e s)).map (·.value)
def lL (evs : List Ev) (w n e s : Nat) : List Int := (evs.filter (fun y => (y.worker == (w : Int)) && wkF n e s y)).map (·.value)
def ntF (w n e s : Nat) (y : Ev) : Bool := (y.kind == 2) && ((y.worker == (w : Int)) && ((y.node == (n : Int)) && ((y.epoch == (e : Int)) && (y.round == (s : Int)))))
def nG (evs : List Ev) (w n e s : Nat) : Nat := (evs.filter (ntF w n e s)).length
def mlF (n e s : Nat) (m : Ml) : Bool := (m.node == (n : Int)) && ((m.epoch == (e : Int)) && (m.round == (s : Int)))
def lD (ms : List Ml) (n e s : Nat) : List Int := (ms.filter (mlF n e s)).map (·.value)
def gnV (ms : List Ml) (n e s : Nat) : List Int := (ms.filter fun m => m.gone && mlF n e s m).map (·.value)
theorem nQ (evs : List Ev) (y : Ev) (n e s : Nat) : uR (evs ++ [y]) n e s = uR evs n e s ++ (if wkF n e s y then [y.value] else []) := by
  unfold uR
  rw [List.filter_append, List.map_append]
  congr 1
  cases h : wkF n e s y <;> simp [List.filter_cons, h]
theorem dU (evs : List Ev) (y : Ev) (w n e s : Nat) : lL (evs ++ [y]) w n e s = lL evs w n e s ++ (if (y.worker == (w : Int)) && wkF n e s y then [y.value] else []) := by
  unfold lL
  rw [List.filter_append, List.map_append]
  congr 1
  cases h : (y.worker == (w : Int)) && wkF n e s y <;> simp only [List.filter_cons, h] <;> simp
theorem fN (evs : List Ev) (y : Ev) (w n e s : Nat) : nG (evs ++ [y]) w n e s = nG evs w n e s + (if ntF w n e s y then 1 else 0) := by
  unfold nG
  rw [List.filter_append, List.length_append]
  congr 1
  cases h : ntF w n e s y <;> simp [List.filter_cons, h]
theorem nV (a b : List Ml) (n e s : Nat) : lD (a ++ b) n e s = lD a n e s ++ lD b n e s := by unfold lD; rw [List.filter_append, List.map_append]
theorem nT (a b : List Ml) (n e s : Nat) : gnV (a ++ b) n e s = gnV a n e s ++ gnV b n e s := by unfold gnV; rw [List.filter_append, List.map_append]
theorem cmV_one (m : Ml) (n e s : Nat) : lD [m] n e s = if mlF n e s m then [m.value] else [] := by
  unfold lD; cases h : mlF n e s m <;> simp [List.filter_cons, h]
theorem gnV_one (m : Ml) (n e s : Nat) : gnV [m] n e s = if m.gone && mlF n e s m then [m.value] else [] := by
  unfold gnV; cases h : (m.gone && mlF n e s m) <;> simp only [List.filter_cons, h] <;> simp
theorem dX (a i : Int) (n e s n' e' s' : Nat) (v : Int) : wkF n' e' s' ⟨1, a, n, i, e, s, v⟩ = decide (n = n' ∧ e = e' ∧ s = s') := by
  unfold wkF; rw [Bool.eq_iff_iff]; simp; omega
theorem wkF_note (a i : Int) (n e s : Int) (n' e' s' : Nat) (v : Int) : wkF n' e' s' ⟨2, a, n, i, e, s, v⟩ = false := rfl
theorem wkF_tell (a i : Int) (n e s : Int) (n' e' s' : Nat) (v : Int) : wkF n' e' s' ⟨3, a, n, i, e, s, v⟩ = false := rfl
theorem ntF_work (a i : Int) (n e s : Int) (w' n' e' s' : Nat) (v : Int) : ntF w' n' e' s' ⟨1, a, n, i, e, s, v⟩ = false := rfl
theorem ntF_tell (a i : Int) (n e s : Int) (w' n' e' s' : Nat) (v : Int) : ntF w' n' e' s' ⟨3, a, n, i, e, s, v⟩ = false := rfl
theorem ntF_note (a n e s w' n' e' s' : Nat) (i v : Int) : ntF w' n' e' s' ⟨2, a, n, i, e, s, v⟩ = decide (a = w' ∧ n = n' ∧ e = e' ∧ s = s') := by
  unfold ntF; rw [Bool.eq_iff_iff]; simp; omega
theorem bP {ns : List Nd} {W : Nat} {w n : Int} {m : Gv} {e s : Nat} (he : m.node = e) (hs : m.epoch = s) (x e' s' : Nat) : ∀ K, lD (tW ns W w n m K) x e' s' = if x < K ∧ qL (qV ns x) n = true ∧ e = e' ∧ s = s' then [m.value] else []
  | 0 => by simp [tW, lD]
  | K + 1 => by
    have ih := bP (ns := ns) (W := W) (w := w) (n := n) he hs x e' s' K
    have hf : mlF x e' s' ⟨atI ns W w m.value K, K, m.node, m.epoch, m.value, false⟩ = decide (K = x ∧ e = e' ∧ s = s') := by
      unfold mlF; rw [he, hs, Bool.eq_iff_iff]; simp; omega
    have hlt : K ≠ x → (x < K + 1 ↔ x < K) := fun h => by omega
    rw [tW]
    by_cases ht : qL (qV ns K) n = true
    · rw [if_pos ht, nV, ih, cmV_one, hf]
      by_cases hx : K = x
      · subst hx
        by_cases h2 : e = e' ∧ s = s'
        · simp [h2, ht]
        · simp [h2]
      · simp only [hlt hx, hx, false_and, decide_false, Bool.false_eq_true, if_false, List.append_nil]
    · rw [if_neg ht, ih]
      by_cases hx : K = x
      · subst hx
        rw [if_neg (by omega), if_neg (fun h => ht h.2.1)]
      · simp only [hlt hx]
theorem rZ {ns : List Nd} {W : Nat} {w n : Int} {m : Gv} : ∀ K, ∀ x ∈ tW ns W w n m K, x.gone = false ∧ x.value = m.value ∧ ∃ k : Nat, x.node = k ∧ k < K ∧ x.worker = atI ns W w m.value k
  | 0, x, h => by simp [tW] at h
  | K + 1, x, h => by
    have up : (∃ k : Nat, x.node = k ∧ k < K ∧ x.worker = atI ns W w m.value k) → ∃ k : Nat, x.node = k ∧ k < K + 1 ∧ x.worker = atI ns W w m.value k := fun ⟨k, a, b, c⟩ => ⟨k, a, by omega, c⟩
    rw [tW] at h
    split at h
    · rcases List.mem_append.1 h with h | h
      · obtain ⟨a, b, c⟩ := rZ K x h; exact ⟨a, b, up c⟩
      · simp at h; subst h; exact ⟨rfl, rfl, K, rfl, by omega, rfl⟩
    · obtain ⟨a, b, c⟩ := rZ K x h; exact ⟨a, b, up c⟩
theorem gnV_new {l : List Ml} (h : ∀ x ∈ l, x.gone = false) (n e s : Nat) : gnV l n e s = [] := by
  unfold gnV
  rw [List.map_eq_nil_iff, List.filter_eq_nil_iff]
  intro a ha
  rw [h a ha]; simp
theorem takeN_nth {l : List Int} {k : Nat} (h : k < l.length) : l.take (k + 1) = l.take k ++ [kC l k] := wS h
theorem cmV_nt {ns : List Nd} {W a n e s : Nat} {l : List Int} (x e' s' : Nat) : ∀ K, K ≤ l.length → lD (ntM ns W a n e s l K) x e' s' = if x < ns.length ∧ qL (qV ns x) n = true ∧ e = e' ∧ s = s' then l.take K else []
  | 0, _ => by simp [ntM, lD]
  | K + 1, hK => by
    rw [ntM, nV, cmV_nt x e' s' K (by omega), bP (e := e) (s := s) rfl rfl, takeN_nth (by omega)]
    split <;> simp
theorem ntM_new {ns : List Nd} {W a n e s : Nat} {l : List Int} : ∀ K, ∀ x ∈ ntM ns W a n e s l K, x.gone = false ∧ ∃ k : Nat, x.node = k ∧ k < ns.length ∧ x.worker = atI ns W a x.value k
  | 0, x, h => by simp [ntM] at h
  | K + 1, x, h => by
    rw [ntM] at h
    rcases List.mem_append.1 h with h | h
    · exact ntM_new K x h
    · obtain ⟨g1, g2, g3⟩ := rZ _ x h
      rw [← g2] at g3
      exact ⟨g1, g3⟩
theorem cR {α : Type} : ∀ (l : List α) (z : Nat) (d x : α), z < l.length → ∃ a b, l = a ++ l.getD z d :: b ∧ l.set z x = a ++ x :: b
  | [], z, d, x, h => by simp at h
  | y :: l, 0, d, x, _ => ⟨[], l, rfl, rfl⟩
  | y :: l, z + 1, d, x, h => by
    obtain ⟨a, b, h1, h2⟩ := cR l z d x (by simpa using h)
    exact ⟨y :: a, b, by simp only [List.getD_cons_succ, List.cons_append, ← h1], by simp only [List.set_cons_succ, List.cons_append, ← h2]⟩
theorem cmV_gone {ms : List Ml} {z : Nat} (hz : z < ms.length) (n e s : Nat) : lD (zG ms z) n e s = lD ms n e s := by
  unfold zG rS
  obtain ⟨a, b, h1, h2⟩ := cR ms z ⟨0, 0, 0, 0, 0, false⟩ { ms.getD z ⟨0, 0, 0, 0, 0, false⟩ with gone := true } hz
  rw [h2]
  conv => rhs; rw [h1]
  have e1 : ∀ (x : Ml), a ++ x :: b = a ++ ([x] ++ b) := fun x => rfl
  rw [e1, e1, nV, nV, nV, nV, cmV_one, cmV_one]
  rfl
theorem gnV_gone {ms : List Ml} {z : Nat} (hz : z < ms.length) {a n e s : Nat} {v : Int} (hm : rS ms z = ⟨a, n, e, s, v, false⟩) (n' e' s' : Nat) : (gnV (zG ms z) n' e' s').Perm (gnV ms n' e' s' ++ if n = n' ∧ e = e' ∧ s = s' then [v] else []) := by
  unfold zG
  rw [hm]
  obtain ⟨l, r, h1, h2⟩ := cR ms z ⟨0, 0, 0, 0, 0, false⟩ ⟨a, n, e, s, v, true⟩ hz
  rw [show ms.getD z ⟨0, 0, 0, 0, 0, false⟩ = ⟨a, n, e, s, v, false⟩ from hm] at h1
  show (gnV (ms.set z ⟨a, n, e, s, v, true⟩) n' e' s').Perm _
  rw [h2]
  conv => rhs; rw [h1]
  have e1 : ∀ (x : Ml), l ++ x :: r = l ++ ([x] ++ r) := fun x => rfl
  have hf : mlF n' e' s' ⟨a, n, e, s, v, true⟩ = decide (n = n' ∧ e = e' ∧ s = s') := by
    unfold mlF; rw [Bool.eq_iff_iff]; simp; omega
  rw [e1, e1, nT, nT, nT, nT, gnV_one, gnV_one, hf]
  by_cases h3 : n = n' ∧ e = e' ∧ s = s'
  · rw [if_pos (by simpa using h3), if_neg (by simp), if_pos h3, List.nil_append, List.append_assoc]
    exact List.Perm.append_left _ List.perm_append_comm
  · rw [if_neg (by simpa using h3), if_neg (by simp), if_neg h3]; simp
def smV (ns : List Nd) (evs : List Ev) (n e s : Nat) : Nat → List Int
  | 0 => []
  | w + 1 => smV ns evs n e s w ++ (if nG evs w n e s = 0 then [] else kD (lL evs w n e s) (qV ns n).k (qV ns n).k.toNat)
def prV (evs : List Ev) (n e : Nat) : Nat → List Int
  | 0 => []
  | s + 1 => uR evs n e s
def zD (ns : List Nd) (W : Nat) (gs : List Gv) (evs : List Ev) (e s a : Nat) : List Int :=
  if (qV ns a).kind == 0 then bU gs a e s else if (qV ns a).kind == 4 then prV evs a e s else if (qV ns a).kind == 6 then smV ns evs a e s W else kF (qV ns a) (uR evs a e s) (uR evs a e s).length
theorem Good.mab {ns : List Nd} {r : Int} {q : List Int} (h : Good ns r q) {n : Nat} (hn : n < ns.length) (h3 : (qV ns n).kind = 3) : (qV ns n).a ≠ (qV ns n).b := by
  have h1 : pB ns ns.length = true := by have := h.wf; simp [wfB] at this; exact this.1.2
  have h2 := mD h1 n hn
  unfold zN at h2
  simp [h3] at h2
  exact h2.2.2.1.2
theorem come_add {ns : List Nd} {r : Int} {q : List Int} (h : Good ns r q) {x n : Nat} (hx : x < ns.length) {F F' : Nat → List Int} {u : List Int} (h1 : ∀ a, a < ns.length → (qV ns a).kind ≠ 7 → a ≠ n → F' a = F a) (h2 : qL (qV ns x) n = true → (F' n).Perm (F n ++ u)) :
    (kK (qV ns x) F').Perm (kK (qV ns x) F ++ if qL (qV ns x) n = true then u else []) := by
  by_cases k0 : (qV ns x).kind = 0
  · have : qF (qV ns x) = [] := by simp [qF, k0]
    unfold kK; rw [this]; simp [qL, k0]
  · by_cases k3 : (qV ns x).kind = 3
    · have hil := xL k3
      obtain ⟨a, ea, ha, ha7, _⟩ := h.inp hx (z := (qV ns x).a) (by rw [hil]; simp)
      obtain ⟨b, eb, hb, hb7, _⟩ := h.inp hx (z := (qV ns x).b) (by rw [hil]; simp)
      have hab : a ≠ b := fun hh => h.mab hx k3 (by rw [ea, eb, hh])
      have ht : qL (qV ns x) n = decide (a = n ∨ b = n) := by
        unfold qL; rw [ea, eb, k3, Bool.eq_iff_iff]; simp; omega
      have hc : ∀ f : Nat → List Int, kK (qV ns x) f = f a ++ f b := fun f => by unfold kK; rw [hil, ea, eb]; simp
      rw [hc, hc]
      rw [ht] at h2 ⊢
      by_cases e1 : a = n
      · subst e1
        rw [if_pos (by simp), h1 b hb hb7 (fun hh => hab hh.symm)]
        have := (h2 (by simp)).append_right (F b)
        refine this.trans ?_
        rw [List.append_assoc, List.append_assoc]
        exact List.Perm.append_left _ List.perm_append_comm
      · by_cases e2 : b = n
        · subst e2
          rw [if_pos (by simp), h1 a ha ha7 e1, List.append_assoc]
          exact List.Perm.append_left _ (h2 (by simp))
        · rw [if_neg (by simp [e1, e2]), h1 a ha ha7 e1, h1 b hb hb7 e2]; simp
    · have hil := wQ k0 k3
      obtain ⟨a, ea, ha, ha7, _⟩ := h.inp hx (z := (qV ns x).a) (by rw [hil]; simp)
      have ht : qL (qV ns x) n = decide (a = n) := by
        unfold qL; rw [ea, Bool.eq_iff_iff]; simp [k0, k3]; omega
      have hc : ∀ f : Nat → List Int, kK (qV ns x) f = f a := fun f => by unfold kK; rw [hil, ea]; simp
      rw [hc, hc]
      rw [ht] at h2 ⊢
      by_cases e1 : a = n
      · subst e1; rw [if_pos (by simp)]; exact h2 (by simp)
      · rw [if_neg (by simp [e1]), h1 a ha ha7 e1]; simp
theorem takes_not7 {ns : List Nd} {r : Int} {q : List Int} (h : Good ns r q) {x n : Nat} (hx : x < ns.length) (h7 : (qV ns n).kind = 7) : qL (qV ns x) n = false := by
  cases ht : qL (qV ns x) n with
  | false => rfl
  | true =>
    rw [uG] at ht
    obtain ⟨a, ea, _, h7', _⟩ := h.inp hx (hasB_iff.1 ht)
    have : a = n := by omega
    subst this; exact absurd h7 h7'
theorem cm_step {ns : List Nd} {r : Int} {q : List Int} (h : Good ns r q) {R n e t : Nat} {u : List Int} {ms ms0 new : List Ml} {P P' : Nat → Nat → Nat → List Int} (hcm : ∀ x e' s', x < ns.length → e' < 6 → s' < R → (qV ns x).kind ≠ 0 → (lD ms x e' s').Perm (kK (qV ns x) (P e' s')))
    (h0 : ∀ x e' s', lD ms0 x e' s' = lD ms x e' s') (hnew : ∀ x e' s', x < ns.length → e' < 6 → s' < R → lD new x e' s' = if qL (qV ns x) n = true ∧ e = e' ∧ t = s' then u else [])
    (h1 : ∀ e' s' a, e' < 6 → s' < R → a < ns.length → (qV ns a).kind ≠ 7 → ¬ (a = n ∧ e = e' ∧ t = s') → P' e' s' a = P e' s' a) (h2 : e < 6 → t < R → (qV ns n).kind ≠ 7 → (P' e t n).Perm (P e t n ++ u)) :
    ∀ x e' s', x < ns.length → e' < 6 → s' < R → (qV ns x).kind ≠ 0 → (lD (ms0 ++ new) x e' s').Perm (kK (qV ns x) (P' e' s')) := by
  intro x e' s' hx he hs hk
  rw [nV, h0, hnew x e' s' hx he hs]
  by_cases hh : e = e' ∧ t = s'
  · obtain ⟨rfl, rfl⟩ := hh
    refine List.Perm.trans ?_ (come_add h (n := n) (u := u) hx (F := P e t) (fun a ha h7 hne => h1 e t a he hs ha h7 (fun hh => hne hh.1)) (fun ht => h2 he hs (fun h7 => by rw [takes_not7 h hx h7] at ht; cases ht))).symm
    by_cases ht : qL (qV ns x) n = true
    · rw [if_pos ⟨ht, rfl, rfl⟩, if_pos ht]; exact (hcm x e t hx he hs hk).append_right _
    · rw [if_neg (fun hh => ht hh.1), if_neg ht]; simpa using hcm x e t hx he hs hk
  · rw [if_neg (fun h3 => hh h3.2), List.append_nil]
    have : kK (qV ns x) (P' e' s') = kK (qV ns x) (P e' s') := nX fun z hz => by
      obtain ⟨a, rfl, ha, h7, _⟩ := h.inp hx hz
      rw [Int.toNat_natCast]
      exact h1 e' s' a he hs ha h7 (fun h3 => hh h3.2)
    rw [this]
    exact hcm x e' s' hx he hs hk
theorem refTo_app (x : Nd) (l : List Int) (v : Int) : ∀ k, k ≤ l.length → kF x (l ++ [v]) k = kF x l k
  | 0, _ => rfl
  | k + 1, hk => by
    have e1 : tJ x (l ++ [v]) k = tJ x l k := by
      unfold tJ
      rw [rF (by omega), List.take_append_of_le_length (by omega)]
    rw [kF, kF, refTo_app x l v k (by omega), e1, rF (by omega)]
theorem refTo_snoc (x : Nd) (l : List Int) (v : Int) : kF x (l ++ [v]) (l ++ [v]).length = kF x l l.length ++ (if ((x.kind == 5) && jF l v) || ((x.kind == 2) && (v % x.k != x.m)) then [] else [wrap64 (v + gR x)]) := by
  rw [List.length_append, List.length_singleton, kF, refTo_app x l v _ (Nat.le_refl _), uM]
  unfold tJ
  rw [uM, List.take_append_of_le_length (Nat.le_refl _), List.take_length]
  split <;> simp
theorem meTo_iff {evs : List Ev} {x : Ev} : ∀ k, k ≤ evs.length → (pP evs x k = true ↔ ∃ y ∈ evs.take k, meM y x = true)
  | 0, _ => by simp [pP]
  | k + 1, hk => by
    have e1 : evs.take (k + 1) = evs.take k ++ [uJ evs k] := by
      rw [List.take_add_one]; congr 1
      unfold uJ
      rw [List.getD, List.getElem?_eq_getElem (show k < evs.length by omega)]; rfl
    rw [pP, e1, Bool.or_eq_true, meTo_iff k (by omega)]
    have e2 : meB evs x k = meM (uJ evs k) x := rfl
    rw [e2]
    constructor
    · rintro (⟨y, h1, h2⟩ | h)
      · exact ⟨y, List.mem_append_left _ h1, h2⟩
      · exact ⟨_, List.mem_append_right _ (by simp), h⟩
    · rintro ⟨y, h1, h2⟩
      rcases List.mem_append.1 h1 with h1 | h1
      · exact .inl ⟨y, h1, h2⟩
      · simp at h1; subst h1; exact .inr h2
theorem smV_same {ns : List Nd} {evs evs' : List Ev} {n e s : Nat} : ∀ K, (∀ w, w < K → nG evs' w n e s = nG evs w n e s ∧ lL evs' w n e s = lL evs w n e s) → smV ns evs' n e s K = smV ns evs n e s K
  | 0, _ => rfl
  | K + 1, h => by rw [smV, smV, smV_same K (fun w hw => h w (by omega)), (h K (by omega)).1, (h K (by omega)).2]
theorem dJ {ns : List Nd} {evs : List Ev} {n e s : Nat} : ∀ K, (∀ w, w < K → nG evs w n e s = 0) → smV ns evs n e s K = []
  | 0, _ => rfl
  | K + 1, h => by rw [smV, dJ K (fun w hw => h w (by omega)), if_pos (h K (by omega))]; rfl
theorem smV_note {ns : List Nd} {evs evs' : List Ev} {n e s a : Nat} (h0 : nG evs a n e s = 0) (h1 : nG evs' a n e s ≠ 0) (hw : ∀ w, lL evs' w n e s = lL evs w n e s) (ho : ∀ w, w ≠ a → nG evs' w n e s = nG evs w n e s) :
    ∀ K, a < K → (smV ns evs' n e s K).Perm (smV ns evs n e s K ++ kD (lL evs a n e s) (qV ns n).k (qV ns n).k.toNat)
  | 0, h => absurd h (Nat.not_lt_zero _)
  | K + 1, h => by
    rw [smV, smV]
    by_cases e1 : a = K
    · subst e1
      rw [if_neg h1, if_pos h0, smV_same a (fun w hw' => ⟨ho w (by omega), hw w⟩), hw, List.append_nil]
    · rw [ho K (fun hh => e1 hh.symm), hw]
      refine ((smV_note h0 h1 hw ho K (by omega)).append_right _).trans ?_
      rw [List.append_assoc, List.append_assoc]
      exact List.Perm.append_left _ List.perm_append_comm
def qD (f : Nat → Nat) : Nat → Nat
  | 0 => 0
  | k + 1 => qD f k + f k
theorem kV {f g : Nat → Nat} : ∀ {k : Nat}, (∀ i, i < k → f i = g i) → qD f k = qD g k
  | 0, _ => rfl
  | k + 1, h => by rw [qD, qD, kV (k := k) (fun i hi => h i (by omega)), h k (by omega)]
theorem tM {f g : Nat → Nat} : ∀ {k : Nat}, (∀ i, i < k → f i ≤ g i) → qD f k ≤ qD g k
  | 0, _ => Nat.le_refl _
  | k + 1, h => by have := tM (k := k) (fun i hi => h i (by omega)); have := h k (by omega); rw [qD, qD]; omega
theorem zJ {f : Nat → Nat} {B : Nat} : ∀ {k : Nat}, (∀ i, i < k → f i ≤ B) → qD f k ≤ k * B
  | 0, _ => by simp [qD]
  | k + 1, h => by have := zJ (k := k) (fun i hi => h i (by omega)); have := h k (by omega); rw [qD, Nat.add_mul]; omega
theorem vC {f : Nat → Nat} : ∀ {k : Nat}, (∀ i, i < k → f i = 0) → qD f k = 0
  | 0, _ => rfl
  | k + 1, h => by rw [qD, vC (k := k) (fun i hi => h i (by omega)), h k (by omega)]
theorem wT {f g : Nat → Nat} {j d : Nat} : ∀ {k : Nat}, j < k → (∀ i, i < k → g i = f i + if i = j then d else 0) → qD g k = qD f k + d
  | 0, h, _ => absurd h (Nat.not_lt_zero _)
  | k + 1, hj, h => by
    rw [qD, qD, h k (by omega)]
    by_cases e : k = j
    · rw [kV (f := g) (g := f) (k := k) (fun i hi => by rw [h i (by omega), if_neg (by omega)]; rfl), if_pos e]; omega
    · rw [wT (k := k) (by omega) (fun i hi => h i (by omega)), if_neg e]; omega
theorem pD {f g : Nat → Nat} : ∀ k, qD (fun i => f i + g i) k = qD f k + qD g k
  | 0 => rfl
  | k + 1 => by rw [qD, qD, qD, pD k]; omega
theorem cM {f : Nat → Nat} : ∀ k, ((qD f k : Nat) : Int) = qH (fun i => (f i : Int)) k
  | 0 => rfl
  | k + 1 => by rw [qD, qH, Int.natCast_add, cM k]
def PlOk (ns : List Nd) (W : Nat) (n : Nat) (a v : Int) : Prop := ((qV ns n).kind = 5 → a = v % W) ∧ ((qV ns n).kind = 6 → a = (v % (qV ns n).k) % W)
def EvOk (ns : List Nd) (R W : Nat) (y : Ev) : Prop :=
  (∃ a n i e s : Nat, ∃ v : Int, y = ⟨1, a, n, i, e, s, v⟩ ∧ a < W ∧ n < ns.length ∧ e < 6 ∧ s < R ∧ (qV ns n).kind ≠ 0 ∧ mQ v ∧ PlOk ns W n a v) ∨
  (∃ a n e s : Nat, y = ⟨2, a, n, 0, e, s, 0⟩ ∧ a < W ∧ n < ns.length ∧ e < 6 ∧ s < R ∧ (qV ns n).kind = 6) ∨
  ∃ a x : Nat, y = ⟨3, a, 0, x, 0, 0, 0⟩ ∧ a < W ∧ x < W ∧ a ≠ x
def lV (evs : List Ev) (k : Int) : Nat := (evs.filter fun y => y.kind == k).length
theorem xH (evs : List Ev) (y : Ev) (k : Int) : lV (evs ++ [y]) k = lV evs k + (if y.kind == k then 1 else 0) := by
  unfold lV
  rw [List.filter_append, List.length_append]
  congr 1
  cases h : y.kind == k <;> simp_all [List.filter_cons]
structure Hist (ns : List Nd) (D : Nat → Nat → Int) (R W : Nat) (gs : List Gv) (p : PSt) (st : RSt) : Prop where
  ev : ∀ y ∈ st.evs, EvOk ns R W y
  pl : ∀ m ∈ st.mails, ∃ n : Nat, m.node = n ∧ PlOk ns W n m.worker m.value
  gn : ∀ n e s, (gnV st.mails n e s).Perm (uR st.evs n e s)
  cm : ∀ x e s, x < ns.length → e < 6 → s < R → (qV ns x).kind ≠ 0 → (lD st.mails x e s).Perm (kK (qV ns x) (zD ns W gs st.evs e s))
  nt : ∀ w n e s, w < W → n < ns.length → e < 6 → s < R → (qV ns n).kind = 6 → (nG st.evs w n e s = 0 ∧ jS st.evs w n e s st.evs.length = lL st.evs w n e s) ∨ (nG st.evs w n e s = 1 ∧ jS st.evs w n e s st.evs.length = [] ∧ Zero ns D W p n e s ∧ lL st.evs w n e s ≠ [])
  lg : st.log.length = st.opened.length + lV st.evs 1 + lV st.evs 2
  tl : qH (fun a => qH (fun b => st.told a b) W) W = lV st.evs 3
  ts : ∀ a, st.told a a = 0
  gl : gs.length = jM st.opened st.opened.length
  op : st.opened.length = jM st.opened st.opened.length + qD (fun i => qD (fun n => kQ st.opened i n 2 st.opened.length + kQ st.opened i n 3 st.opened.length) ns.length) W
  c3 : ∀ i n : Nat, kQ st.opened i n 3 st.opened.length ≤ 1
  gi : ∀ g ∈ gs, (∃ n e : Nat, g.node = n ∧ n < ns.length ∧ (qV ns n).kind = 0 ∧ g.epoch = e ∧ e < 6) ∧ mQ g.value
theorem Sim.mail2 {ns : List Nd} {R W : Nat} {p : PSt} {st : RSt} {k a n i : Nat} (h : Sim ns W p st) (hi : Inv ns R W st k) (hil : i < (p.wt a n).length) : ∃ z e s : Nat, ∃ v : Int, z < st.mails.length ∧ kC (kS st.mails a n st.mails.length) i = (z : Int) ∧ rS st.mails z = ⟨a, n, e, s, v, false⟩ ∧ vR (p.wt a n) i = ⟨e, s, v⟩ ∧ e < 6 ∧ s < R ∧ mQ v ∧ (qV ns n).kind ≠ 0 ∧ a < W ∧ n < ns.length := by
  obtain ⟨z, e, s, v, h1, h2, h3, h4, h5, h6, h7, h8, h9, h10, h11⟩ := h.mail hi hil
  refine ⟨z, e, s, v, h1, h3, ?_, h4, h5, h6, ⟨h7, h8⟩, h9, h10, h11⟩
  obtain ⟨z', g1, g2, g3, _⟩ := gT st.mails.length i h2
  have ez : z' = z := by rw [h3] at g2; omega
  subst ez
  unfold yX at g3
  simp only [Bool.and_eq_true, beq_iff_eq, Bool.not_eq_true'] at g3
  rw [h.wt, waitL_get h2, h3, Int.toNat_natCast] at h4
  unfold lB at h4
  obtain ⟨⟨q1, q2⟩, q3⟩ := g3
  generalize rS st.mails z' = m at *
  obtain ⟨m1, m2, m3, m4, m5, m6⟩ := m
  simp only [Gv.mk.injEq] at h4
  obtain ⟨r1, r2, r3⟩ := h4
  simp only at q1 q2 q3
  subst q1 q2 q3 r1 r2 r3
  rfl
theorem do_work {ns : List Nd} {R W : Nat} {st : RSt} {a n i e s z : Nat} {v : Int} (hz : kC (kS st.mails a n st.mails.length) i = (z : Int)) :
    lQ ns R W st ⟨1, a, n, i, e, s, v⟩ = { workS ns R W st ⟨1, a, n, i, e, s, v⟩ z with evs := st.evs ++ [⟨1, a, n, i, e, s, v⟩] } := by
  unfold lQ doneS
  rw [if_neg (by simp), if_neg (by simp)]
  simp only [Int.toNat_natCast, hz]
theorem once_met {ns : List Nd} {R W a n i e s : Nat} {v : Int} {evs : List Ev} (h : ∀ y ∈ evs, EvOk ns R W y) (h5 : (qV ns n).kind = 5) (ha : (a : Int) = v % W) : pP evs ⟨1, a, n, i, e, s, v⟩ evs.length = jF (uR evs n e s) v := by
  rw [Bool.eq_iff_iff, meTo_iff _ (Nat.le_refl _), List.take_length, hasB_iff]
  unfold uR
  simp only [List.mem_map, List.mem_filter]
  constructor
  · rintro ⟨y, h1, h2⟩
    refine ⟨y, ⟨h1, ?_⟩, ?_⟩
    · unfold meM at h2; unfold wkF; simp at h2 ⊢; exact ⟨h2.1, h2.2.2.1, h2.2.2.2.1, h2.2.2.2.2.1⟩
    · unfold meM at h2; simp at h2; exact h2.2.2.2.2.2
  · rintro ⟨y, ⟨h1, h2⟩, h3⟩
    refine ⟨y, h1, ?_⟩
    rcases h y h1 with ⟨a', n', i', e', s', v', rfl, _, _, _, _, _, _, hp⟩ | ⟨a', n', e', s', rfl, _⟩ | ⟨a', x, rfl, _⟩
    · rw [dX] at h2
      simp only [decide_eq_true_eq] at h2
      obtain ⟨rfl, rfl, rfl⟩ := h2
      simp only at h3
      subst h3
      have := hp.1 h5
      unfold meM; simp; omega
    · rw [wkF_note] at h2; cases h2
    · rw [wkF_tell] at h2; cases h2
theorem at_pl {ns : List Nd} {W k : Nat} {w v : Int} : PlOk ns W k (atI ns W w v k) v := by
  unfold PlOk atI
  exact ⟨fun h => by simp [h], fun h => by simp [h]⟩
theorem Hist.fresh {ns : List Nd} {D : Nat → Nat → Int} {R W : Nat} {gs : List Gv} {p : PSt} {st : RSt} (h : Hist ns D R W gs p st) (h8 : ns.length ≤ 8) (hR : R ≤ 4) {a n i e s : Nat} {v : Int} (ha : a < W) (hn : n < ns.length) (h6 : e < 6) (hs : s < R) (hk : (qV ns n).kind = 6) (hi : i < (p.wt a n).length) (hm : vR (p.wt a n) i = ⟨e, s, v⟩) (w : Nat) (hw : w < W) : nG st.evs w n e s = 0 ∧ jS st.evs w n e s st.evs.length = lL st.evs w n e s := by
  rcases h.nt w n e s hw hn h6 hs hk with g | ⟨_, _, g, _⟩
  · exact g
  · exact absurd ⟨Nat.le_refl e, Nat.le_refl s⟩ (g.quiet (by omega) ha (lZ hi) (by rw [hm]) (by rw [hm]) h6 (by omega))
theorem put_keep {ns : List Nd} {W : Nat} {gs : List Gv} {evs evs' : List Ev} {e s a : Nat} (h1 : (qV ns a).kind ≠ 4 → (qV ns a).kind ≠ 6 → uR evs' a e s = uR evs a e s) (h2 : (qV ns a).kind = 4 → prV evs' a e s = prV evs a e s) (h3 : (qV ns a).kind = 6 → ∀ w, w < W → nG evs' w a e s = nG evs w a e s ∧ lL evs' w a e s = lL evs w a e s) : zD ns W gs evs' e s a = zD ns W gs evs e s a := by
  unfold zD
  split
  · rfl
  · split
    · rename_i k4; exact h2 (by simpa using k4)
    · rename_i k4
      split
      · rename_i k6; exact smV_same _ (h3 (by simpa using k6))
      · rename_i k6; rw [h1 (by simpa using k4) (by simpa using k6)]
set_option maxHeartbeats 1000000 in
theorem Hist.work {ns : List Nd} {r : Int} {q : List Int} {D : Nat → Nat → Int} {R W k : Nat} {gs : List Gv} {p p' : PSt} {st : RSt} {a n i e s z : Nat} {v : Int} (hG : Good ns r q) (hk : yD (qV ns n)) (h : Hist ns D R W gs p st) (h8 : ns.length ≤ 8) (hR : R ≤ 4) (hs : Stp ns D W p p')
    (ha : a < W) (hn : n < ns.length) (h6 : e < 6) (h4 : s < R) (h0 : (qV ns n).kind ≠ 0) (hv : mQ v) (hi : i < (p.wt a n).length) (hm : vR (p.wt a n) i = ⟨e, s, v⟩) (hz1 : z < st.mails.length) (hz : kC (kS st.mails a n st.mails.length) i = (z : Int)) (hml : rS st.mails z = ⟨a, n, e, s, v, false⟩) :
    Hist ns D R W gs p' (lQ ns R W st ⟨1, a, n, i, e, s, v⟩) := by
  have hfr := h.fresh h8 hR ha hn h6 h4 (i := i) (v := v)
  have hpl : PlOk ns W n a v := by
    have hmem : rS st.mails z ∈ st.mails := mln_mem hz1
    obtain ⟨n', e1, g⟩ := h.pl _ hmem
    rw [hml] at e1 g
    have : n' = n := by simp only at e1; omega
    subst this; exact g
  rw [do_work hz]
  have hV : ∀ n' e' s', uR (st.evs ++ [⟨1, a, n, i, e, s, v⟩]) n' e' s' = uR st.evs n' e' s' ++ if n = n' ∧ e = e' ∧ s = s' then [v] else [] := fun n' e' s' => by
    rw [nQ, dX]; simp
  have hO : ∀ w n' e' s', lL (st.evs ++ [⟨1, a, n, i, e, s, v⟩]) w n' e' s' = lL st.evs w n' e' s' ++ if a = w ∧ n = n' ∧ e = e' ∧ s = s' then [v] else [] := fun w n' e' s' => by
    rw [dU, dX]; congr 1
    by_cases hh : a = w ∧ n = n' ∧ e = e' ∧ s = s'
    · rw [if_pos hh, if_pos (by simp [hh])]
    · rw [if_neg hh, if_neg (by simp; omega)]
  have hC : ∀ w n' e' s', nG (st.evs ++ [⟨1, a, n, i, e, s, v⟩]) w n' e' s' = nG st.evs w n' e' s' := fun w n' e' s' => by rw [fN, ntF_work]; rfl
  have hA : ∀ w n' e' s' : Nat, jS (st.evs ++ [⟨1, a, n, i, e, s, v⟩]) w n' e' s' (st.evs ++ [(⟨1, a, n, i, e, s, v⟩ : Ev)]).length = jS st.evs w n' e' s' st.evs.length ++ if a = w ∧ n = n' ∧ e = e' ∧ s = s' then [v] else [] := fun w n' e' s' => by
    rw [tN, bT]
    by_cases hh : a = w ∧ n = n' ∧ e = e' ∧ s = s'
    · rw [if_pos hh, if_pos (by simp; omega)]; simp
    · rw [if_neg hh, if_neg (by simp; omega)]; simp
  refine ⟨fun y hy => ?_, fun m hm' => ?_, fun n' e' s' => ?_, ?_, fun w n' e' s' hw hn' he' hs' hk' => ?_, ?_, ?_, h.ts, h.gl, h.op, h.c3, h.gi⟩
  · rcases List.mem_append.1 hy with hy | hy
    · exact h.ev y hy
    · simp at hy; subst hy; exact .inl ⟨a, n, i, e, s, v, rfl, ha, hn, h6, h4, h0, hv, hpl⟩
  · rcases List.mem_append.1 hm' with hm' | hm'
    · rcases List.mem_or_eq_of_mem_set hm' with hm' | hm'
      · exact h.pl m hm'
      · rw [hm', hml]; exact ⟨n, rfl, hpl⟩
    · split at hm'
      · obtain ⟨_, g2, j, g3, _, g5⟩ := rZ _ m hm'
        exact ⟨j, g3, by rw [g5, g2]; exact at_pl⟩
      · simp at hm'
  · show (gnV (zG st.mails z ++ _) n' e' s').Perm (uR (st.evs ++ [_]) n' e' s')
    have hnil := gnV_new (l := if wkU ns R st.evs ⟨1, a, n, i, e, s, v⟩ then tW ns W a n (wkM ns ⟨1, a, n, i, e, s, v⟩) ns.length else []) (fun x hx => by
      split at hx
      · exact (rZ _ x hx).1
      · simp at hx) n' e' s'
    rw [nT, hV, hnil, List.append_nil]
    exact (gnV_gone hz1 hml n' e' s').trans ((h.gn n' e' s').append_right _)
  · refine cm_step hG (n := n) (e := e) (t := if (qV ns n).kind = 4 then s + 1 else s) (u := if wkU ns R st.evs ⟨1, a, n, i, e, s, v⟩ then [wrap64 (v + gR (qV ns n))] else []) (ms := st.mails) (P := zD ns W gs st.evs) h.cm (fun x e' s' => cmV_gone hz1 x e' s') ?_ ?_ ?_
    · intro x e' s' hx he' hs'
      cases hu : wkU ns R st.evs ⟨1, a, n, i, e, s, v⟩ with
      | false => simp [lD]
      | true =>
        simp only [if_true]
        rw [bP (e := e) (s := if (qV ns n).kind = 4 then s + 1 else s) rfl (by unfold wkM; simp only [Int.toNat_natCast]; by_cases k4 : (qV ns n).kind = 4 <;> simp [k4])]
        by_cases hh : qL (qV ns x) n = true ∧ e = e' ∧ (if (qV ns n).kind = 4 then s + 1 else s) = s'
        · rw [if_pos hh, if_pos ⟨hx, hh⟩]; rfl
        · rw [if_neg hh, if_neg (fun g => hh g.2)]
    · intro e' s' a' he' hs' ha' h7' hne
      refine put_keep (fun k4 k6 => ?_) (fun k4 => ?_) (fun k6 w hw => ⟨hC _ _ _ _, ?_⟩)
      · rw [hV, if_neg (fun hh => hne ⟨hh.1.symm, hh.2.1, by rw [hh.1, if_neg k4]; exact hh.2.2⟩), List.append_nil]
      · cases s' with
        | zero => rfl
        | succ s' =>
          show uR _ a' e' s' = uR _ a' e' s'
          rw [hV, if_neg (fun hh => hne ⟨hh.1.symm, hh.2.1, by rw [hh.1, if_pos k4, hh.2.2]⟩), List.append_nil]
      · rw [hO, if_neg (fun hh => hne ⟨hh.2.1.symm, hh.2.2.1, by rw [hh.2.1, if_neg (by omega)]; exact hh.2.2.2⟩), List.append_nil]
    · intro he ht h7
      have hcase := hk.1
      by_cases k4 : (qV ns n).kind = 4
      · rw [if_pos k4] at ht ⊢
        have hu : wkU ns R st.evs ⟨1, a, n, i, e, s, v⟩ = true := by
          unfold wkU; simp only [Int.toNat_natCast, k4]; simp; omega
        have ha0 : gR (qV ns n) = 0 := by simp [gR, k4]
        rw [hu]
        unfold zD
        simp only [k4]
        show (uR _ n e s).Perm (uR _ n e s ++ _)
        rw [hV, if_pos ⟨rfl, rfl, rfl⟩, ha0, Int.add_zero, dW hv]; simp
      · rw [if_neg k4] at ht ⊢
        by_cases k6 : (qV ns n).kind = 6
        · have hu : wkU ns R st.evs ⟨1, a, n, i, e, s, v⟩ = false := by
            unfold wkU; simp only [Int.toNat_natCast, k6]; simp
          have hz0 := hfr k6 hi hm
          rw [hu]
          unfold zD
          simp only [k6]
          show (smV ns _ n e s W).Perm (smV ns _ n e s W ++ _)
          rw [dJ W (fun w hw => (hz0 w hw).1), dJ W (fun w hw => by rw [hC]; exact (hz0 w hw).1)]; simp
        · have hform : ∀ evs : List Ev, zD ns W gs evs e s n = kF (qV ns n) (uR evs n e s) (uR evs n e s).length := fun evs => by
            unfold zD
            rw [if_neg (by simpa using h0), if_neg (by simpa using k4), if_neg (by simpa using k6)]
          rw [hform, hform, hV, if_pos ⟨rfl, rfl, rfl⟩, refTo_snoc]
          have hu : wkU ns R st.evs ⟨1, a, n, i, e, s, v⟩ = !(((qV ns n).kind == 5 && jF (uR st.evs n e s) v) || ((qV ns n).kind == 2 && (v % (qV ns n).k != (qV ns n).m))) := by
            unfold wkU
            simp only [Int.toNat_natCast]
            rcases hcase with hc | hc | hc | hc | hc | hc | hc | hc
            · exact absurd hc h0
            · simp [hc]
            · simp [hc, bne]
            · simp [hc]
            · exact absurd hc k4
            · rw [once_met h.ev hc (hpl.1 hc)]; simp [hc]
            · exact absurd hc k6
            · exact absurd hc h7
          rw [hu]
          refine List.Perm.append_left _ ?_
          cases ((qV ns n).kind == 5 && jF (uR st.evs n e s) v) || ((qV ns n).kind == 2 && (v % (qV ns n).k != (qV ns n).m)) <;> simp
  · show (nG (st.evs ++ [_]) w n' e' s' = 0 ∧ jS (st.evs ++ [_]) w n' e' s' (st.evs ++ [_]).length = lL (st.evs ++ [_]) w n' e' s') ∨ (nG (st.evs ++ [_]) w n' e' s' = 1 ∧ jS (st.evs ++ [_]) w n' e' s' (st.evs ++ [_]).length = [] ∧ _ ∧ lL (st.evs ++ [_]) w n' e' s' ≠ [])
    rw [hC, hA, hO]
    by_cases hh : a = w ∧ n = n' ∧ e = e' ∧ s = s'
    · obtain ⟨rfl, rfl, rfl, rfl⟩ := hh
      have := hfr hk' hi hm a ha
      exact .inl ⟨this.1, by rw [this.2]⟩
    · rw [if_neg hh, List.append_nil, List.append_nil]
      rcases h.nt w n' e' s' hw hn' he' hs' hk' with g | ⟨g1, g2, g3, g4⟩
      · exact .inl g
      · exact .inr ⟨g1, g2, g3.stp hn' hs, g4⟩
  · show (st.log ++ [_]).length = st.opened.length + lV (st.evs ++ [_]) 1 + lV (st.evs ++ [_]) 2
    rw [xH, xH, List.length_append, h.lg]; simp; omega
  · show qH (fun a => qH (fun b => st.told a b) W) W = ((lV (st.evs ++ [_]) 3 : Nat) : Int)
    rw [xH]; simpa using h.tl
end Go.Proofs.Ytfemleimkbjehaa
