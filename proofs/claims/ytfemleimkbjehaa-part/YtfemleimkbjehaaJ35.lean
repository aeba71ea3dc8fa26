import Derived.Test.YtfemleimkbjehaaJ34
import Derived.Test.YtfemleimkbjehaaJ10
set_option maxRecDepth 1000000
set_option maxHeartbeats 40000000
set_option linter.unusedVariables false
set_option linter.unusedSimpArgs false
namespace Go.Proofs.Ytfemleimkbjehaa
open Go.RowKit
theorem Good.come_bd {ns : List Nd} {r : Int} {q : List Int} (h : Good ns r q) {s n : Nat} (hn : n < ns.length) (k0 : (qV ns n).kind ≠ 0) (k4 : (qV ns n).kind ≠ 4) {cur : Nat → List Int}
    (h1 : ∀ a, a < ns.length → vF q a < vF q n → (cur a).length ≤ dH ns q s a) : (kK (qV ns n) cur).length ≤ dH ns q s n := by
  have hin := fun z hz => h.inp hn (z := z) hz
  by_cases k3 : (qV ns n).kind = 3
  · have hil := xL k3
    obtain ⟨a, ea, ha, _, ra⟩ := hin (qV ns n).a (by rw [hil]; simp)
    obtain ⟨b, eb, hb, _, rb⟩ := hin (qV ns n).b (by rw [hil]; simp)
    have ra := ra k4
    have rb := rb k4
    have hc : kK (qV ns n) cur = cur a ++ cur b := by unfold kK; rw [hil, ea, eb]; simp
    rw [hc, List.length_append]
    have b1 := h1 a ha ra
    have b2 := h1 b hb rb
    have hm := h.mc_merge hn k3
    have p1 : dH ns q s a ≤ 20 * 8 ^ s * 2 ^ mcB ns q (vF q n) := Nat.mul_le_mul_left _ (Nat.pow_le_pow_right (by omega) (lY ns q (by omega)))
    have p2 : dH ns q s b ≤ 20 * 8 ^ s * 2 ^ mcB ns q (vF q n) := Nat.mul_le_mul_left _ (Nat.pow_le_pow_right (by omega) (lY ns q (by omega)))
    unfold dH at *
    rw [hm, Nat.pow_succ, ← Nat.mul_assoc]
    omega
  · have hil := wQ k0 k3
    obtain ⟨a, ea, ha, _, ra⟩ := hin (qV ns n).a (by rw [hil]; simp)
    have ra := ra k4
    have hc : kK (qV ns n) cur = cur a := by unfold kK; rw [hil, ea]; simp
    rw [hc]
    exact Nat.le_trans (h1 a ha ra) (Nat.mul_le_mul_left _ (Nat.pow_le_pow_right (by omega) (lY ns q (by omega))))
theorem Good.bd8 {ns : List Nd} {r : Int} {q : List Int} (h : Good ns r q) (s n : Nat) : dH ns q s n ≤ 160 * 8 ^ s := by
  unfold dH
  have h2 : 2 ^ mcB ns q (vF q n + 1) ≤ 2 ^ 3 := Nat.pow_le_pow_right (by omega) (h.mc_le _)
  calc 20 * 8 ^ s * 2 ^ mcB ns q (vF q n + 1) ≤ 20 * 8 ^ s * 2 ^ 3 := Nat.mul_le_mul_left _ h2
    _ = 160 * 8 ^ s := by omega
theorem Good.come_back {ns : List Nd} {r : Int} {q : List Int} (h : Good ns r q) {s n : Nat} (hn : n < ns.length) (k4 : (qV ns n).kind = 4) {cur : Nat → List Int} (h1 : ∀ a, a < ns.length → (cur a).length ≤ dH ns q s a) : (kK (qV ns n) cur).length ≤ 160 * 8 ^ s := by
  have hil := wQ (x := qV ns n) (by omega) (by omega)
  obtain ⟨a, ea, ha, _, _⟩ := h.inp hn (z := (qV ns n).a) (by rw [hil]; simp)
  have hc : kK (qV ns n) cur = cur a := by unfold kK; rw [hil, ea]; simp
  rw [hc]
  exact Nat.le_trans (h1 a ha) (h.bd8 s a)
theorem Hist.put_bd {ns : List Nd} {r : Int} {q : List Int} (hG : Good ns r q) {D : Nat → Nat → Int} {R W : Nat} {gs : List Gv} {p : PSt} {st : RSt} (h : Hist ns D R W gs p st) (hg : gs.length ≤ 20) {e : Nat} (he : e < 6) : ∀ s, s < R → ∀ n, n < ns.length → (zD ns W gs st.evs e s n).length ≤ dH ns q s n := by
  intro s
  induction s with
  | zero =>
    intro hs
    have key : ∀ d n, n < ns.length → vF q n < d → (zD ns W gs st.evs e 0 n).length ≤ dH ns q 0 n := by
      intro d
      induction d with
      | zero => intro n _ h; omega
      | succ d ih =>
        intro n hn hr
        have hp := bd_pos ns q 0 n
        by_cases k0 : (qV ns n).kind = 0
        · rw [rV k0]; exact Nat.le_trans (lR _ _ _ _ _) (by omega)
        · by_cases k4 : (qV ns n).kind = 4
          · unfold zD; rw [if_neg (by simpa using k0), if_pos (by simpa using k4)]; simp [prV]
          · have hc := hG.come_bd hn k0 k4 (cur := zD ns W gs st.evs e 0) (s := 0) (fun a ha ra => ih a ha (by omega))
            have hw := h.wk_le n e 0
            rw [(h.cm n e 0 hn he hs k0).length_eq] at hw
            unfold zD
            rw [if_neg (by simpa using k0), if_neg (by simpa using k4)]
            split
            · have := smV_len (ns := ns) (evs := st.evs) (n := n) (e := e) (s := 0) W
              have := h.wkO_all n e 0
              omega
            · have := pG (qV ns n) (uR st.evs n e 0) (uR st.evs n e 0).length
              omega
    exact fun n hn => key _ n hn (Nat.lt_succ_self _)
  | succ s ihs =>
    intro hs
    have ihs := ihs (by omega)
    have key : ∀ d n, n < ns.length → vF q n < d → (zD ns W gs st.evs e (s + 1) n).length ≤ dH ns q (s + 1) n := by
      intro d
      induction d with
      | zero => intro n _ h; omega
      | succ d ih =>
        intro n hn hr
        have hp := bd_pos ns q (s + 1) n
        by_cases k0 : (qV ns n).kind = 0
        · rw [rV k0]; exact Nat.le_trans (lR _ _ _ _ _) (by omega)
        · by_cases k4 : (qV ns n).kind = 4
          · unfold zD; rw [if_neg (by simpa using k0), if_pos (by simpa using k4)]
            have hc := hG.come_back hn k4 (cur := zD ns W gs st.evs e s) (s := s) ihs
            have hw := h.wk_le n e s
            rw [(h.cm n e s hn he (by omega) k0).length_eq] at hw
            show (uR st.evs n e s).length ≤ _
            refine Nat.le_trans (Nat.le_trans hw hc) ?_
            unfold dH
            have e2 : 1 ≤ 2 ^ mcB ns q (vF q n + 1) := Nat.one_le_pow _ _ (by omega)
            calc 160 * 8 ^ s = 20 * 8 ^ (s + 1) * 1 := by rw [Nat.pow_succ]; omega
              _ ≤ _ := Nat.mul_le_mul_left _ e2
          · have hc := hG.come_bd hn k0 k4 (cur := zD ns W gs st.evs e (s + 1)) (s := s + 1) (fun a ha ra => ih a ha (by omega))
            have hw := h.wk_le n e (s + 1)
            rw [(h.cm n e (s + 1) hn he hs k0).length_eq] at hw
            unfold zD
            rw [if_neg (by simpa using k0), if_neg (by simpa using k4)]
            split
            · have := smV_len (ns := ns) (evs := st.evs) (n := n) (e := e) (s := s + 1) W
              have := h.wkO_all n e (s + 1)
              omega
            · have := pG (qV ns n) (uR st.evs n e (s + 1)) (uR st.evs n e (s + 1)).length
              omega
    exact fun n hn => key _ n hn (Nat.lt_succ_self _)
theorem cm_source {ns : List Nd} {R W k : Nat} {st : RSt} (h : Inv ns R W st k) {n : Nat} (hk : (qV ns n).kind = 0) (e s : Nat) : lD st.mails n e s = [] := by
  unfold lD
  rw [List.map_eq_nil_iff, List.filter_eq_nil_iff]
  intro m hm hf
  obtain ⟨j, hj, e1⟩ := List.getElem_of_mem hm
  obtain ⟨a, n', e', s', _, _, b1, b2, b0, _⟩ := h.mo j hj
  rw [show rS st.mails j = m by rw [← e1]; simp [rS, List.getD, List.getElem?_eq_getElem hj]] at b1
  unfold mlF at hf
  simp at hf
  have : n' = n := by omega
  subst this; exact b0 hk
theorem Hist.cm_bd {ns : List Nd} {r : Int} {q : List Int} (hG : Good ns r q) {D : Nat → Nat → Int} {R W k : Nat} {gs : List Gv} {p : PSt} {st : RSt} (h : Hist ns D R W gs p st) (hi : Inv ns R W st k) {e s n : Nat} (he : e < 6) (hs : s < R) (hn : n < ns.length) : (lD st.mails n e s).length ≤ 160 * 8 ^ s := by
  have hg : gs.length ≤ 20 := by rw [h.gl]; exact hi.gv
  by_cases k0 : (qV ns n).kind = 0
  · rw [cm_source hi k0]; exact Nat.zero_le _
  · rw [(h.cm n e s hn he hs k0).length_eq]
    by_cases k4 : (qV ns n).kind = 4
    · exact hG.come_back hn k4 (h.put_bd hG hg he s hs)
    · exact Nat.le_trans (hG.come_bd hn k0 k4 (fun a ha _ => h.put_bd hG hg he s hs a ha)) (hG.bd8 s n)
theorem sum_pow {R : Nat} (hR : R ≤ 4) : qD (fun s => 160 * 8 ^ s) R ≤ 93600 := by
  rcases R with _ | _ | _ | _ | _ | R
  · simp [qD]
  · simp [qD]
  · simp [qD]
  · simp [qD]
  · simp [qD]
  · omega
theorem Hist.mails_bd {ns : List Nd} {r : Int} {q : List Int} (hG : Good ns r q) {D : Nat → Nat → Int} {R W k : Nat} {gs : List Gv} {p : PSt} {st : RSt} (h : Hist ns D R W gs p st) (hi : Inv ns R W st k) (h8 : ns.length ≤ 8) (hR : R ≤ 4) : st.mails.length ≤ 4492800 ∧ lV st.evs 1 ≤ 4492800 := by
  have key : qD (fun n => qD (fun e => qD (fun s => (lD st.mails n e s).length) R) 6) ns.length ≤ 4492800 := by
    have : qD (fun n => qD (fun e => qD (fun s => (lD st.mails n e s).length) R) 6) ns.length ≤ ns.length * (6 * 93600) := zJ fun n hn => zJ fun e he => Nat.le_trans (tM fun s hs => h.cm_bd hG hi he hs hn) (sum_pow hR)
    have h2 : ns.length * (6 * 93600) ≤ 8 * (6 * 93600) := Nat.mul_le_mul_right _ h8
    omega
  refine ⟨by rw [mails_all hi]; exact key, ?_⟩
  rw [h.works]
  exact Nat.le_trans (tM fun n hn => tM fun e he => tM fun s hs => h.wk_le n e s) key
theorem Hist.notes_bd {ns : List Nd} {D : Nat → Nat → Int} {R W : Nat} {gs : List Gv} {p : PSt} {st : RSt} (h : Hist ns D R W gs p st) (h8 : ns.length ≤ 8) (hR : R ≤ 4) (hW : W ≤ 4) : lV st.evs 2 ≤ 768 := by
  rw [h.notes]
  have h1 : ∀ n, n < ns.length → ∀ e, e < 6 → ∀ s, s < R → ∀ w, w < W → nG st.evs w n e s ≤ 1 := by
    intro n hn e he s hs w hw
    by_cases hk : (qV ns n).kind = 6
    · rcases h.nt w n e s hw hn he hs hk with g | g <;> omega
    · have : nG st.evs w n e s = 0 := by
        unfold nG
        rw [List.length_eq_zero_iff, List.filter_eq_nil_iff]
        intro y hy hf
        unfold ntF at hf
        simp only [Bool.and_eq_true] at hf
        obtain ⟨a, n', e', s', rfl, _, _, _, _, g⟩ := (h.ev y hy).note hf.1
        have : n' = n := by have := hf.2.2.1; simp at this; omega
        subst this; exact hk g
      omega
  have h2 : qD (fun n => qD (fun e => qD (fun s => qD (fun w => nG st.evs w n e s) W) R) 6) ns.length ≤ ns.length * (6 * (R * (W * 1))) := zJ fun n hn => zJ fun e he => zJ fun s hs => zJ fun w hw => h1 n hn e he s hs w hw
  have h3 : ns.length * (6 * (R * (W * 1))) ≤ 8 * (6 * (4 * (4 * 1))) := Nat.mul_le_mul h8 (Nat.mul_le_mul_left _ (Nat.mul_le_mul hR (Nat.mul_le_mul_right _ hW)))
  omega
theorem cn_all {W : Nat} : ∀ (cs : List Cg), (∀ j, j < cs.length → ∃ m : Nat, (mC cs j).worker = m ∧ m < W) → ∀ k, k ≤ cs.length → qD (fun b => zU cs b k) W = k := by
  intro cs h k
  induction k with
  | zero => intro _; exact vC fun i hi => rfl
  | succ k ih =>
    intro hk
    obtain ⟨m, e, hm⟩ := h k (by omega)
    have := wT (f := fun b => zU cs b k) (g := fun b => zU cs b (k + 1)) (j := m) (d := 1) hm (fun b hb => by
      show zU cs b (k + 1) = _
      rw [zU, e]
      by_cases e2 : b = m
      · subst e2; rw [if_pos (by simp), if_pos rfl]
      · rw [if_neg (by simp; omega), if_neg e2]; rfl)
    rw [this, ih (by omega)]
theorem sum_but {W : Nat} {f : Nat → Nat → Nat} {c : Nat → Nat} (h : ∀ a b, a < W → b < W → a ≠ b → f a b ≤ c b) (h0 : ∀ a, f a a = 0) : qD (fun a => qD (fun b => f a b) W) W + qD c W ≤ W * qD c W := by
  have h1 : ∀ a, a < W → qD (fun b => f a b) W + c a ≤ qD c W := by
    intro a ha
    have : qD (fun b => if b = a then c a else f a b) W = qD (fun b => f a b) W + c a := wT ha (fun b hb => by
      by_cases e : b = a
      · subst e; rw [if_pos rfl, if_pos rfl, h0]; omega
      · rw [if_neg e, if_neg e]; rfl)
    rw [← this]
    refine tM fun b hb => ?_
    by_cases e : b = a
    · subst e; rw [if_pos rfl]; exact Nat.le_refl _
    · rw [if_neg e]; exact h a b ha hb (fun hh => e hh.symm)
  have h2 : qD (fun a => qD (fun b => f a b) W + c a) W ≤ W * qD c W := zJ h1
  rwa [pD] at h2
theorem sum_but_eq {W : Nat} {f : Nat → Nat → Nat} {c : Nat → Nat} (h : ∀ a b, a < W → b < W → a ≠ b → f a b = c b) (h0 : ∀ a, f a a = 0) : qD (fun a => qD (fun b => f a b) W) W + qD c W = W * qD c W := by
  have h1 : ∀ a, a < W → qD (fun b => f a b) W + c a = qD c W := by
    intro a ha
    have : qD (fun b => if b = a then c a else f a b) W = qD (fun b => f a b) W + c a := wT ha (fun b hb => by
      by_cases e : b = a
      · subst e; rw [if_pos rfl, if_pos rfl, h0]; omega
      · rw [if_neg e, if_neg e]; rfl)
    rw [← this]
    refine kV fun b hb => ?_
    by_cases e : b = a
    · subst e; rw [if_pos rfl]
    · rw [if_neg e]; exact h a b ha hb (fun hh => e hh.symm)
  have h2 : qD (fun a => qD (fun b => f a b) W + c a) W = qD (fun _ => qD c W) W := kV h1
  have h3 : ∀ k, qD (fun _ => qD c W) k = k * qD c W := by
    intro k
    induction k with
    | zero => simp [qD]
    | succ k ih => rw [qD, ih, Nat.add_mul]; omega
  rw [pD, h3] at h2
  exact h2
theorem Inv.wkr {ns : List Nd} {R W : Nat} {st : RSt} {k : Nat} (h : Inv ns R W st k) : ∀ j, j < st.log.length → ∃ m : Nat, (mC st.log j).worker = m ∧ m < W := fun j hj => (h.cg j hj).1.1
theorem Hist.told {ns : List Nd} {D : Nat → Nat → Int} {R W k : Nat} {gs : List Gv} {p : PSt} {st : RSt} (h : Hist ns D R W gs p st) (hi : Inv ns R W st k) : ∃ f : Nat → Nat → Nat, (∀ a b, a < W → b < W → st.told a b = f a b ∧ f a b ≤ zU st.log b st.log.length) ∧ (∀ a, f a a = 0) ∧ qD (fun a => qD (fun b => f a b) W) W = lV st.evs 3 := by
  refine ⟨fun a b => (st.told a b).toNat, fun a b ha hb => ?_, fun a => by simp [h.ts a], ?_⟩
  · obtain ⟨t, e, ht⟩ := hi.tl a b ha hb
    refine ⟨by show st.told a b = ((st.told a b).toNat : Int); rw [e]; simp, ?_⟩
    show (st.told a b).toNat ≤ _
    rw [e]; simpa using ht
  · have : ((qD (fun a => qD (fun b => (st.told a b).toNat) W) W : Nat) : Int) = ((lV st.evs 3 : Nat) : Int) := by
      rw [← h.tl, cM]
      refine kP fun a ha => ?_
      rw [cM]
      refine kP fun b hb => ?_
      obtain ⟨t, e, ht⟩ := hi.tl a b ha hb
      rw [e]; simp
    exact Int.ofNat.inj this
theorem Hist.bounds {ns : List Nd} {r : Int} {q : List Int} (hG : Good ns r q) {D : Nat → Nat → Int} {R W k : Nat} {gs : List Gv} {p : PSt} {st : RSt} (h : Hist ns D R W gs p st) (hi : Inv ns R W st k) (h8 : ns.length ≤ 8) (hR : R ≤ 4) (hW : W ≤ 4) : st.mails.length ≤ 30000000 ∧ st.log.length ≤ 30000000 ∧ st.evs.length ≤ 30000000 := by
  have h1 := h.mails_bd hG hi h8 hR
  have h2 := h.notes_bd h8 hR hW
  have h3 := h.lg
  obtain ⟨f, f1, f2, f3⟩ := h.told hi
  have h4 := sum_but (W := W) (f := f) (c := fun b => zU st.log b st.log.length) (fun a b ha hb _ => (f1 a b ha hb).2) f2
  rw [f3, cn_all st.log hi.wkr _ (Nat.le_refl _)] at h4
  have h5 : W * st.log.length ≤ 4 * st.log.length := Nat.mul_le_mul_right _ hW
  have h6 := kd_all st.evs h.ev
  have h7 : qD (fun i => qD (fun n => kQ st.opened i n 2 st.opened.length + kQ st.opened i n 3 st.opened.length) ns.length) W ≤ W * (ns.length * 6) := zJ fun i _ => zJ fun n _ => by have := hi.ep i n; have := h.c3 i n; omega
  have h8' : W * (ns.length * 6) ≤ 4 * (8 * 6) := Nat.mul_le_mul hW (Nat.mul_le_mul_right _ h8)
  have h9 := h.op
  have h10 := hi.gv
  omega
theorem pinv_few {ns : List Nd} {R W k B : Nat} {p : PSt} {st : RSt} (h : Sim ns W p st) (hi : Inv ns R W st k) (h8 : ns.length ≤ 8) (hR : R ≤ 4) (h1 : st.mails.length ≤ B) (h2 : st.log.length ≤ B) (h3 : st.evs.length ≤ B) : PInv ns R p B := by
  obtain ⟨q1, q2, q3, q4, q5, q6, q7, _, _⟩ := h.pinv hi h8 hR
  refine ⟨q1, q2, q3, q4, q5, q6, q7, fun a b => ⟨?_, ?_, ?_⟩, ?_⟩
  · rw [h.wt]; have := waitL_len' st.mails a b; omega
  · have := h.lbn a b; omega
  · rw [h.wy]
    split
    · rw [List.length_drop, tC]; have := cnTo_le st.log b st.log.length; omega
    · simp
  · rw [h.rc]; have := ouTo_len ns st.evs st.evs.length; omega
theorem Hist.wkO_eq {ns : List Nd} {D : Nat → Nat → Int} {R W : Nat} {gs : List Gv} {p : PSt} {st : RSt} (h : Hist ns D R W gs p st) {n : Nat} (hk : (qV ns n).kind = 6) (w e s : Nat) : lL st.evs w n e s = (uR st.evs n e s).filter fun v => v % (qV ns n).k % W == (w : Int) := by
  unfold lL uR
  rw [List.filter_map, List.filter_filter]
  congr 1
  refine List.filter_congr fun y hy => ?_
  cases hf : wkF n e s y with
  | false => simp
  | true =>
    have hf' := hf
    unfold wkF at hf'
    rw [Bool.and_eq_true] at hf'
    obtain ⟨a, n', i, e', s', v, rfl, _, _, _, _, _, _, hp⟩ := (h.ev y hy).work hf'.1
    rw [dX] at hf
    simp only [decide_eq_true_eq] at hf
    obtain ⟨rfl, rfl, rfl⟩ := hf
    have := hp.2 hk
    simp [this]
def smA (l : List Int) (q : Int) (W m : Nat) : Nat → List Int
  | 0 => []
  | w + 1 => smA l q W m w ++ kD (l.filter fun v => v % q % W == (w : Int)) q m
theorem gmet_part {l : List Int} {q : Int} {W w m : Nat} : kG (l.filter fun v => v % q % W == (w : Int)) q m (l.filter fun v => v % q % W == (w : Int)).length = (kG l q m l.length && decide (m % W = w)) := by
  rw [Bool.eq_iff_iff, gB _ q m _ (Nat.le_refl _), List.take_length, Bool.and_eq_true, gB _ q m _ (Nat.le_refl _), List.take_length]
  simp only [List.mem_filter, beq_iff_eq, decide_eq_true_eq]
  constructor
  · rintro ⟨v, ⟨h1, h2⟩, h3⟩
    exact ⟨⟨v, h1, h3⟩, by rw [h3] at h2; exact_mod_cast h2⟩
  · rintro ⟨⟨v, h1, h3⟩, h2⟩
    exact ⟨v, ⟨h1, by rw [h3]; exact_mod_cast h2⟩, h3⟩
theorem lP {q : Int} {W w m : Nat} (hm : m % W = w) : ∀ l : List Int, pJ q m (l.filter fun v => v % q % W == (w : Int)) = pJ q m l
  | [] => rfl
  | v :: l => by
    by_cases h1 : v % q = m
    · rw [List.filter_cons_of_pos (by rw [h1, beq_iff_eq]; exact_mod_cast hm), pJ, pJ, lP hm l]
    · by_cases h2 : v % q % W = (w : Int)
      · rw [List.filter_cons_of_pos (by simpa using h2), pJ, pJ, lP hm l]
      · rw [List.filter_cons_of_neg (by simpa using h2), pJ, lP hm l, if_neg (by simpa using h1), Int.zero_add]
theorem gsum_part {l : List Int} {q : Int} {W w m : Nat} (hm : m % W = w) : gsumTo (l.filter fun v => v % q % W == (w : Int)) q m (l.filter fun v => v % q % W == (w : Int)).length = gsumTo l q m l.length := by
  rw [bH _ q m _ (Nat.le_refl _), bH _ q m _ (Nat.le_refl _), List.take_length, List.take_length, lP hm]
theorem smA_succ (l : List Int) (q : Int) (W m : Nat) : ∀ K, (smA l q W (m + 1) K).Perm (smA l q W m K ++ if kG l q m l.length && decide (m % W < K) then [gsumTo l q m l.length] else [])
  | 0 => by simp [smA]
  | K + 1 => by
    have ih := smA_succ l q W m K
    rw [smA, smA, kD, gmet_part]
    refine (ih.append_right _).trans ?_
    rw [List.append_assoc, List.append_assoc]
    refine List.Perm.append_left _ ?_
    cases hg : kG l q m l.length with
    | false => simp
    | true =>
      by_cases e : m % W = K
      · rw [gsum_part e]
        simp [e]
      · by_cases e2 : m % W < K
        · rw [if_pos (by simpa using e2), if_neg (by simpa using e), if_pos (by simp; omega)]
          exact List.perm_append_comm
        · rw [if_neg (by simpa using e2), if_neg (by simpa using e), if_neg (by simp; omega)]; simp
theorem smA_all {l : List Int} {q : Int} {W : Nat} (hW : 1 ≤ W) : ∀ m, (smA l q W m W).Perm (kD l q m)
  | 0 => by
    have : ∀ K, smA l q W 0 K = [] := by
      intro K
      induction K with
      | zero => rfl
      | succ K ih => rw [smA, ih]; rfl
    rw [this]; exact List.Perm.refl _
  | m + 1 => by
    refine (smA_succ l q W m W).trans ?_
    have hlt : m % W < W := Nat.mod_lt _ (by omega)
    rw [kD]
    cases hg : kG l q m l.length with
    | false => simpa using smA_all hW m
    | true =>
      rw [if_pos (by simp [hlt]), if_pos rfl]
      exact (smA_all hW m).append_right _
theorem grp_nil (q : Int) : ∀ m, kD [] q m = []
  | 0 => rfl
  | m + 1 => by rw [kD, grp_nil q m]; rfl
structure Done (ns : List Nd) (R W : Nat) (st : RSt) : Prop where
  gone : ∀ m ∈ st.mails, m.gone = true
  none : ∀ w n e s : Nat, w < W → n < ns.length → e < 6 → s < R → (qV ns n).kind = 6 → jS st.evs w n e s st.evs.length = []
  told : ∀ a b, a < W → b < W → a ≠ b → st.told a b = (zU st.log b st.log.length : Nat)
theorem Hist.all_gone {ns : List Nd} {D : Nat → Nat → Int} {R W : Nat} {gs : List Gv} {p : PSt} {st : RSt} (h : Hist ns D R W gs p st) (hd : Done ns R W st) (n e s : Nat) : (lD st.mails n e s).Perm (uR st.evs n e s) := by
  refine List.Perm.trans ?_ (h.gn n e s)
  have : lD st.mails n e s = gnV st.mails n e s := by
    unfold lD gnV
    congr 1
    exact List.filter_congr fun m hm => by rw [hd.gone m hm]; rfl
  rw [this]
theorem Hist.nt_one {ns : List Nd} {D : Nat → Nat → Int} {R W : Nat} {gs : List Gv} {p : PSt} {st : RSt} (h : Hist ns D R W gs p st) (hd : Done ns R W st) {w n e s : Nat} (hw : w < W) (hn : n < ns.length) (he : e < 6) (hs : s < R) (hk : (qV ns n).kind = 6) : (nG st.evs w n e s = 0 ∧ lL st.evs w n e s = []) ∨ nG st.evs w n e s = 1 := by
  rcases h.nt w n e s hw hn he hs hk with ⟨g1, g2⟩ | ⟨g1, _⟩
  · exact .inl ⟨g1, by rw [← g2]; exact hd.none w n e s hw hn he hs hk⟩
  · exact .inr g1
theorem Hist.sm_all {ns : List Nd} {D : Nat → Nat → Int} {R W : Nat} {gs : List Gv} {p : PSt} {st : RSt} (h : Hist ns D R W gs p st) (hd : Done ns R W st) (hW : 1 ≤ W) {n e s : Nat} (hn : n < ns.length) (he : e < 6) (hs : s < R) (hk : (qV ns n).kind = 6) : (smV ns st.evs n e s W).Perm (kD (uR st.evs n e s) (qV ns n).k (qV ns n).k.toNat) := by
  have key : ∀ K, K ≤ W → smV ns st.evs n e s K = smA (uR st.evs n e s) (qV ns n).k W (qV ns n).k.toNat K := by
    intro K
    induction K with
    | zero => intro _; rfl
    | succ K ih =>
      intro hK
      rw [smV, smA, ih (by omega), ← h.wkO_eq hk]
      rcases h.nt_one hd (w := K) (by omega) hn he hs hk with ⟨g1, g2⟩ | g
      · rw [if_pos g1, g2, grp_nil]
      · rw [if_neg (by omega)]
  rw [key W (Nat.le_refl _)]
  exact smA_all hW _
theorem Hist.wk_64 {ns : List Nd} {D : Nat → Nat → Int} {R W : Nat} {gs : List Gv} {p : PSt} {st : RSt} (h : Hist ns D R W gs p st) (n e s : Nat) : nJ (uR st.evs n e s) := by
  intro v hv
  unfold uR at hv
  simp only [List.mem_map, List.mem_filter] at hv
  obtain ⟨y, ⟨h1, h2⟩, rfl⟩ := hv
  unfold wkF at h2
  rw [Bool.and_eq_true] at h2
  obtain ⟨a, n', i, e', s', v, rfl, _, _, _, _, _, g, _⟩ := (h.ev y h1).work h2.1
  exact g
theorem Hist.gvOk {ns : List Nd} {D : Nat → Nat → Int} {R W k : Nat} {gs : List Gv} {p : PSt} {st : RSt} (h : Hist ns D R W gs p st) (hi : Inv ns R W st k) : nD ns gs := by
  refine ⟨by rw [h.gl]; exact hi.gv, fun j hj => (h.gi _ (lZ hj)).2⟩
theorem Good.nsum {ns : List Nd} {n : Nat} {l : List Int} (h : (qV ns n).kind = 6) : wJ (qV ns n) l = kD l (qV ns n).k (qV ns n).k.toNat := by unfold wJ; rw [if_pos (by simp [h])]
theorem Hist.put_val {ns : List Nd} {r : Int} {q : List Int} (hG : Good ns r q) {D : Nat → Nat → Int} {R W k : Nat} {gs : List Gv} {p : PSt} {st : RSt} (h : Hist ns D R W gs p st) (hi : Inv ns R W st k) (hd : Done ns R W st) (hW : 1 ≤ W) (hR : R ≤ 4) {e : Nat} (he : e < 6) : ∀ s, s < R → ∀ n, n < ns.length → (zD ns W gs st.evs e s n).Perm (zL ns gs e s n) := by
  have hg := h.gvOk hi
  have hwk : ∀ n s, n < ns.length → s < R → (qV ns n).kind ≠ 0 → (uR st.evs n e s).Perm (kK (qV ns n) (zD ns W gs st.evs e s)) := fun n s hn hs h0 => (h.all_gone hd n e s).symm.trans (h.cm n e s hn he hs h0)
  have main : ∀ s, s < R → (∀ a, a < ns.length → (hY (zD ns W gs st.evs e) s a).Perm (hY (zL ns gs e) s a)) → ∀ d n, n < ns.length → vF q n < d → (zD ns W gs st.evs e s n).Perm (zL ns gs e s n) := by
    intro s hs hP d
    induction d with
    | zero => intro n _ h; omega
    | succ d ih =>
      intro n hn hr
      by_cases k0 : (qV ns n).kind = 0
      · rw [rV k0, hG.src gs e s hn k0]
      · obtain ⟨_, _, g⟩ := hG.step hg (e := e) (s := s) (n := n) (by omega) hn k0 (F := zD ns W gs st.evs e s) (P := hY (zD ns W gs st.evs e) s) (fun a ha hra => ih a ha (by omega)) hP
        refine g _ ?_
        by_cases k4 : (qV ns n).kind = 4
        · unfold outL gN zD
          rw [if_neg (by simpa using k0), if_pos (by simpa using k4), if_pos (by simpa using k4), if_pos (by simpa using k4)]
          cases s with
          | zero =>
            have : kK (qV ns n) (fun _ => []) = [] := by unfold kK; rw [List.flatMap_eq_nil_iff]; intro z _; rfl
            show ([] : List Int).Perm (kK (qV ns n) (fun _ => []))
            rw [this]
          | succ s' => exact hwk n s' hn (by omega) k0
        · have hp := hwk n s hn hs k0
          unfold outL gN
          rw [if_neg (by simpa using k4), if_neg (by simpa using k4)]
          by_cases k6 : (qV ns n).kind = 6
          · have e1 : zD ns W gs st.evs e s n = smV ns st.evs n e s W := by
              unfold zD; rw [if_neg (by simpa using k0), if_neg (by simpa using k4), if_pos (by simpa using k6)]
            rw [e1, Good.nsum k6, ← grp_perm _ hp]
            exact h.sm_all hd hW hn he hs k6
          · have e1 : zD ns W gs st.evs e s n = wJ (qV ns n) (uR st.evs n e s) := by
              unfold zD wJ; rw [if_neg (by simpa using k0), if_neg (by simpa using k4), if_neg (by simpa using k6), if_neg (by simpa using k6)]
            rw [e1]
            exact nodeL_perm hp (h.wk_64 n e s)
  intro s
  induction s with
  | zero => intro hs n hn; exact main 0 hs (fun a _ => List.Perm.refl _) _ n hn (Nat.lt_succ_self _)
  | succ s ih => intro hs n hn; exact main (s + 1) hs (fun a ha => ih (by omega) a ha) _ n hn (Nat.lt_succ_self _)
def dT (ns : List Nd) (gs : List Gv) (n e s : Nat) : List Int := if (qV ns n).kind == 0 then [] else kK (qV ns n) (zL ns gs e s)
theorem Hist.wk_val {ns : List Nd} {r : Int} {q : List Int} (hG : Good ns r q) {D : Nat → Nat → Int} {R W k : Nat} {gs : List Gv} {p : PSt} {st : RSt} (h : Hist ns D R W gs p st) (hi : Inv ns R W st k) (hd : Done ns R W st) (hW : 1 ≤ W) (hR : R ≤ 4) {n e s : Nat} (hn : n < ns.length) (he : e < 6) (hs : s < R) : (uR st.evs n e s).Perm (dT ns gs n e s) := by
  have h1 := (h.all_gone hd n e s).symm
  unfold dT
  by_cases k0 : (qV ns n).kind = 0
  · rw [cm_source hi k0] at h1
    rw [if_pos (by simpa using k0)]; exact h1
  · rw [if_neg (by simpa using k0)]
    refine (h1.trans (h.cm n e s hn he hs k0)).trans (dC fun z hz => ?_)
    obtain ⟨a, rfl, ha, _⟩ := hG.inp hn hz
    rw [Int.toNat_natCast]
    exact h.put_val hG hi hd hW hR he s hs a ha
def spN (q : Int) (W : Nat) (l : List Int) : Nat := qD (fun w => if l.any fun v => v % q % W == (w : Int) then 1 else 0) W
theorem spN_perm {q : Int} {W : Nat} {a b : List Int} (h : a.Perm b) : spN q W a = spN q W b := by
  refine kV fun w hw => ?_
  have : (a.any fun v => v % q % W == (w : Int)) = b.any fun v => v % q % W == (w : Int) := by
    rw [Bool.eq_iff_iff, List.any_eq_true, List.any_eq_true]
    constructor
    · rintro ⟨v, h1, h2⟩; exact ⟨v, h.mem_iff.1 h1, h2⟩
    · rintro ⟨v, h1, h2⟩; exact ⟨v, h.mem_iff.2 h1, h2⟩
  rw [this]
def chN (ns : List Nd) (R W : Nat) (gs : List Gv) : Nat := qD (fun n => qD (fun e => qD (fun s => (dT ns gs n e s).length + if (qV ns n).kind == 6 then spN (qV ns n).k W (dT ns gs n e s) else 0) R) 6) ns.length
def lenN (ns : List Nd) (R W : Nat) (gs : List Gv) (used : Nat) : Nat := chN ns R W gs + (W - 1) * (chN ns R W gs + used)
theorem Hist.not6 {ns : List Nd} {D : Nat → Nat → Int} {R W : Nat} {gs : List Gv} {p : PSt} {st : RSt} (h : Hist ns D R W gs p st) {n : Nat} (hk : (qV ns n).kind ≠ 6) (w e s : Nat) : nG st.evs w n e s = 0 := by
  unfold nG
  rw [List.length_eq_zero_iff, List.filter_eq_nil_iff]
  intro y hy hf
  unfold ntF at hf
  simp only [Bool.and_eq_true] at hf
  obtain ⟨a, n', e', s', rfl, _, _, _, _, g⟩ := (h.ev y hy).note hf.1
  have : n' = n := by have := hf.2.2.1; simp at this; omega
  subst this; exact hk g
theorem Hist.spread {ns : List Nd} {D : Nat → Nat → Int} {R W : Nat} {gs : List Gv} {p : PSt} {st : RSt} (h : Hist ns D R W gs p st) (hd : Done ns R W st) {n e s : Nat} (hn : n < ns.length) (he : e < 6) (hs : s < R) (hk : (qV ns n).kind = 6) : qD (fun w => nG st.evs w n e s) W = spN (qV ns n).k W (uR st.evs n e s) := by
  refine kV fun w hw => ?_
  have hwk := h.wkO_eq hk w e s
  have hany : ((uR st.evs n e s).any fun v => v % (qV ns n).k % W == (w : Int)) = true ↔ lL st.evs w n e s ≠ [] := by
    rw [hwk, List.any_eq_true, Ne, List.filter_eq_nil_iff]
    constructor
    · rintro ⟨v, h1, h2⟩ h3; exact h3 v h1 h2
    · intro h3
      refine Classical.byContradiction fun h4 => h3 fun v h1 h2 => h4 ⟨v, h1, h2⟩
  rcases h.nt w n e s hw hn he hs hk with ⟨g1, g2⟩ | ⟨g1, g2, g3⟩
  · have : lL st.evs w n e s = [] := by rw [← g2]; exact hd.none w n e s hw hn he hs hk
    rw [g1, if_neg (fun hh => hany.1 hh this)]
  · rw [g1, if_pos (hany.2 g3.2)]
theorem Hist.final {ns : List Nd} {r : Int} {q : List Int} (hG : Good ns r q) {D : Nat → Nat → Int} {R W k : Nat} {gs : List Gv} {p : PSt} {st : RSt} (h : Hist ns D R W gs p st) (hi : Inv ns R W st k) (hd : Done ns R W st) (hW : 1 ≤ W) (hR : R ≤ 4) : st.evs.length = lenN ns R W gs st.opened.length := by
  have h1 : lV st.evs 1 + lV st.evs 2 = chN ns R W gs := by
    rw [h.works, h.notes]
    unfold chN
    rw [← pD]
    refine kV fun n hn => ?_
    rw [← pD]
    refine kV fun e he => ?_
    rw [← pD]
    refine kV fun s hs => ?_
    have hp := h.wk_val hG hi hd hW hR hn he hs
    rw [hp.length_eq]
    by_cases k6 : (qV ns n).kind = 6
    · rw [if_pos (by simpa using k6), h.spread hd hn he hs k6, spN_perm hp]
    · rw [if_neg (by simpa using k6), vC (fun w hw => h.not6 k6 w e s)]
  have h2 := kd_all st.evs h.ev
  obtain ⟨f, f1, f2, f3⟩ := h.told hi
  have h4 := sum_but_eq (W := W) (f := f) (c := fun b => zU st.log b st.log.length) (fun a b ha hb hab => by
    have := (f1 a b ha hb).1
    rw [hd.told a b ha hb hab] at this
    exact (Int.ofNat.inj this).symm) f2
  rw [f3, cn_all st.log hi.wkr _ (Nat.le_refl _)] at h4
  have h5 := h.lg
  unfold lenN
  obtain ⟨W', rfl⟩ : ∃ W', W = W' + 1 := ⟨W - 1, by omega⟩
  rw [Nat.add_mul] at h4
  simp only [Nat.add_sub_cancel]
  have h6 : st.log.length = chN ns R (W' + 1) gs + st.opened.length := by omega
  rw [← h6]
  omega
structure GOk (ns : List Nd) (R W : Nat) : Prop where
  good : ∃ r q, Good ns r q
  low : LowG ns
  h1 : 1 ≤ ns.length
  h8 : ns.length ≤ 8
  hR1 : 1 ≤ R
  hR : R ≤ 4
  hW1 : 1 ≤ W
  hW : W ≤ 4
  kind : ∀ n, n < ns.length → yD (qV ns n)
structure Kept (ns : List Nd) (R W : Nat) (gs : List Gv) (p : PSt) (st : RSt) : Prop where
  sim : Sim ns W p st
  inv : ∃ k, Inv ns R W st k
  kin : KInv ns (zQ ns) W p
  his : Hist ns (zQ ns) R W gs p st
theorem GOk.dOk {ns : List Nd} {R W : Nat} (g : GOk ns R W) : DOk ns (zQ ns) := dOk_far g.h8 g.low
theorem Kept.pinv {ns : List Nd} {R W : Nat} {gs : List Gv} {p : PSt} {st : RSt} (g : GOk ns R W) (h : Kept ns R W gs p st) : PInv ns R p 30000000 := by
  obtain ⟨k, hi⟩ := h.inv
  obtain ⟨r, q, hG⟩ := g.good
  obtain ⟨b1, b2, b3⟩ := h.his.bounds hG hi g.h8 g.hR g.hW
  exact pinv_few h.sim hi g.h8 g.hR b1 b2 b3
def jW (ns : List Nd) (R W : Nat) (p : PSt) : List Ev := kW ns.length W p (lH ns (zQ ns) R p) W
theorem Kept.act {ns : List Nd} {R W : Nat} {gs : List Gv} {p : PSt} {st : RSt} (g : GOk ns R W) (h : Kept ns R W gs p st) {y : Ev} (hy : y ∈ jW ns R W p) : Kept ns R W gs (yJ ns R W p y) (lQ ns R W st y) ∧ Stp ns (zQ ns) W p (yJ ns R W p y) ∧ mea ns W (yJ ns R W p y) < mea ns W p ∧ EvOk ns R W y := by
  have hok := pacts_mem W (Nat.le_refl _) hy
  have hp := h.pinv g
  obtain ⟨k, hi⟩ := h.inv
  obtain ⟨r, q, hG⟩ := g.good
  obtain ⟨hstp, hmea⟩ := act_stp g.dOk hp g.h8 g.hR g.hW hok
  obtain ⟨hs1, hi1⟩ := h.sim.does hi g.h1 g.h8 g.hR1 g.hR g.hW g.kind hok
  have hh : Hist ns (zQ ns) R W gs (yJ ns R W p y) (lQ ns R W st y) := by
    rcases hok with ⟨a, n, i, ha, hn, hil, rfl⟩ | ⟨a, n, e, s, ha, hn, he, hs, hw, hf, rfl⟩ | ⟨a, x, ha, hx, hl, rfl⟩
    · obtain ⟨z, e, s, v, hz1, hz, hml, hgv, he, hs, hv, h0, _, _⟩ := h.sim.mail2 hi hil
      rw [hgv] at hstp ⊢
      exact h.his.work (k := k) hG (g.kind n hn) g.h8 g.hR hstp ha hn he hs h0 hv hil hgv hz1 hz hml
    · have hk6 := hp.six (by omega) hw
      have hw' := hw
      rw [h.sim.wnOf a n e s he hs, hk6] at hw'
      have hne : jS st.evs a n e s st.evs.length ≠ [] := fun e1 => by rw [e1] at hw'; simp at hw'
      have hsR : s < R := by
        rcases Nat.lt_or_ge s R with h5 | h5
        · exact h5
        · exact absurd (dS (fun j hj => (hi.eo j hj).2) _ _ _ h5 _ (Nat.le_refl _)) hne
      refine h.his.note hG hstp ha hn he hsR hk6 hne ?_
      rw [pdo_note]
      exact note_zero g.dOk h.kin hp (by omega) g.h8 g.hR g.hW ha hn he hsR hw hf
    · have hax : a ≠ x := by
        intro e
        rw [h.sim.wy, if_neg (fun h => h.2.2 e)] at hl
        simp at hl
      exact h.his.tell hstp ha hx hax
  refine ⟨⟨hs1, ⟨_, hi1⟩, h.kin.stp hstp, hh⟩, hstp, hmea, ?_⟩
  have hev : (lQ ns R W st y).evs = st.evs ++ [y] := rfl
  exact hh.ev y (by rw [hev]; simp)
theorem nU (ns : List Nd) (R W : Nat) (st : RSt) (y : Ev) : (lQ ns R W st y).evs = st.evs ++ [y] := rfl
theorem xX (ns : List Nd) (R W : Nat) (st : RSt) (y : Ev) : (lQ ns R W st y).opened = st.opened := by
  unfold lQ doneS
  split
  · rfl
  · split <;> rfl
theorem pdoS_cl (ns : List Nd) (R W : Nat) (p : PSt) (y : Ev) : (yJ ns R W p y).cl = p.cl ∧ (yJ ns R W p y).ep = p.ep := by
  unfold yJ
  split
  · exact ⟨rfl, rfl⟩
  · split <;> exact ⟨rfl, rfl⟩
theorem Kept.toEnd {ns : List Nd} {R W : Nat} {gs : List Gv} (g : GOk ns R W) : ∀ (m : Nat) (p : PSt) (st : RSt), Kept ns R W gs p st → (mea ns W p).toNat < m → ∃ p' st', Kept ns R W gs p' st' ∧ jW ns R W p' = [] ∧ (∃ l, st'.evs = st.evs ++ l ∧ (jW ns R W p ≠ [] → l ≠ [])) ∧ st'.opened = st.opened ∧ p'.cl = p.cl := by
  intro m
  induction m with
  | zero => intro p st _ hm; exact absurd hm (Nat.not_lt_zero _)
  | succ m ih =>
    intro p st h hm
    by_cases h0 : jW ns R W p = []
    · exact ⟨p, st, h, h0, ⟨[], by simp, fun hh => absurd h0 hh⟩, rfl, rfl⟩
    · obtain ⟨y, hy⟩ : ∃ y, y ∈ jW ns R W p := by
        cases hl : jW ns R W p with
        | nil => exact absurd hl h0
        | cons y l => exact ⟨y, by simp⟩
      obtain ⟨h1, _, h2, _⟩ := h.act g hy
      have h3 := mea_nonneg ns W p
      have h4 := mea_nonneg ns W (yJ ns R W p y)
      generalize hm1 : mea ns W p = m1 at *
      generalize hm2 : mea ns W (yJ ns R W p y) = m2 at *
      obtain ⟨p', st', g1, g2, ⟨l, g3, _⟩, g4, g5⟩ := ih (yJ ns R W p y) (lQ ns R W st y) h1 (by rw [hm2]; omega)
      refine ⟨p', st', g1, g2, ⟨y :: l, by rw [g3, nU]; simp, fun _ => by simp⟩, g4.trans (xX ns R W st y), g5.trans (pdoS_cl ns R W p y).1⟩
def gS (ns : List Nd) (W : Nat) (p : PSt) : Prop := ∀ i n, i < W → n < ns.length → (qV ns n).kind = 0 → p.cl i n = true
theorem waitL_none {ns : List Nd} {R W k : Nat} {st : RSt} (hi : Inv ns R W st k) (i : Nat) {n : Nat} (hn : ns.length ≤ n) : vD st.mails i n = [] := by
  have key : ∀ j, j ≤ st.mails.length → kS st.mails (i : Int) (n : Int) j = [] := by
    intro j
    induction j with
    | zero => intro _; rfl
    | succ j ih =>
      intro hj
      have hb : yX st.mails (i : Int) (n : Int) j = false := by
        cases hb : yX st.mails (i : Int) (n : Int) j with
        | false => rfl
        | true =>
          obtain ⟨a, n', e, s, _, _, b1, b2, _⟩ := hi.mo j (by omega)
          unfold yX at hb
          simp only [Bool.and_eq_true, beq_iff_eq] at hb
          have := hb.2
          omega
      rw [kS, hb, ih (by omega)]; rfl
  unfold vD
  rw [key _ (Nat.le_refl _)]; rfl
theorem Kept.ended {ns : List Nd} {R W : Nat} {gs : List Gv} {p : PSt} {st : RSt} (g : GOk ns R W) (h : Kept ns R W gs p st) (hc : gS ns W p) (h0 : jW ns R W p = []) : Done ns R W st ∧ (∀ i n, i < W → n < ns.length → p.wt i n = []) ∧ ∀ i j, i < W → j < W → p.wy i j = [] := by
  obtain ⟨k, hi⟩ := h.inv
  have hp := h.pinv g
  obtain ⟨e1, e2, e3⟩ := Go.Proofs.Ytfemleimkbjehaa.ended (noLoop_far g.h8 g.low) h.kin hp (by omega) g.h8 g.hR g.hW hc (fun i n e s hiW hn he hs hw => by
    have hk6 := hp.six (by omega) hw
    rw [h.sim.wnOf i n e s he hs, hk6] at hw
    rcases Nat.lt_or_ge s R with h5 | h5
    · exact h5
    · rw [dS (fun j hj => (hi.eo j hj).2) _ _ _ h5 _ (Nat.le_refl _)] at hw; simp at hw) (fun i n hn => by rw [h.sim.wt]; exact waitL_none hi i hn) h0
  refine ⟨⟨fun m hm => ?_, fun w n e s hw hn he hs hk => ?_, fun a b ha hb hab => ?_⟩, e1, e2⟩
  · cases hg : m.gone with
    | true => rfl
    | false =>
      obtain ⟨j, hj, ej⟩ := List.getElem_of_mem hm
      have em : rS st.mails j = m := by rw [← ej]; simp [rS, List.getD, List.getElem?_eq_getElem hj]
      obtain ⟨a, n, e, s, b1, b2, b3, b4, _⟩ := hi.mo j hj
      rw [em] at b1 b3
      have hb : yX st.mails (a : Int) (n : Int) j = true := by unfold yX; rw [em, hg, b1, b3]; simp
      have h2 := bY hb (st.mails.length - (j + 1))
      rw [show j + 1 + (st.mails.length - (j + 1)) = st.mails.length by omega] at h2
      have h3 := e1 a n b2 b4
      rw [h.sim.wt] at h3
      unfold vD at h3
      rw [List.map_eq_nil_iff] at h3
      rw [h3] at h2; simp at h2
  · have h1 := e3 w n e s hw hn he (by have := g.hR; omega)
    rw [h.sim.wnOf w n e s he (by have := g.hR; omega), hk] at h1
    have h2 : ((jS st.evs w n e s st.evs.length).length == 0) = true := by simpa using h1
    exact List.eq_nil_of_length_eq_zero (by simpa using h2)
  · have h1 := e2 a b ha hb
    rw [h.sim.wy, if_pos ⟨ha, hb, hab⟩, List.drop_eq_nil_iff, tC] at h1
    obtain ⟨t, et, ht⟩ := hi.tl a b ha hb
    rw [et] at h1 ⊢
    simp at h1
    congr 1; omega
theorem Kept.len_end {ns : List Nd} {R W : Nat} {gs : List Gv} {p : PSt} {st : RSt} (g : GOk ns R W) (h : Kept ns R W gs p st) (hc : gS ns W p) (h0 : jW ns R W p = []) : st.evs.length = lenN ns R W gs st.opened.length := by
  obtain ⟨k, hi⟩ := h.inv
  obtain ⟨r, q, hG⟩ := g.good
  exact h.his.final hG hi (h.ended g hc h0).1 g.hW1 g.hR
theorem Kept.len {ns : List Nd} {R W : Nat} {gs : List Gv} {p : PSt} {st : RSt} (g : GOk ns R W) (h : Kept ns R W gs p st) (hc : gS ns W p) : st.evs.length ≤ lenN ns R W gs st.opened.length ∧ (jW ns R W p = [] ↔ st.evs.length = lenN ns R W gs st.opened.length) := by
  obtain ⟨p', st', g1, g2, ⟨l, g3, g4⟩, g5, g6⟩ := Kept.toEnd g _ p st h (Nat.lt_succ_self _)
  have h1 := g1.len_end g (fun i n hi hn hk => by rw [g6]; exact hc i n hi hn hk) g2
  rw [g5, g3, List.length_append] at h1
  refine ⟨by omega, fun h0 => h.len_end g hc h0, fun he => ?_⟩
  refine Classical.byContradiction fun hne => ?_
  have := g4 hne
  have : l.length ≠ 0 := fun hh => this (List.eq_nil_of_length_eq_zero hh)
  omega
end Go.Proofs.Ytfemleimkbjehaa
