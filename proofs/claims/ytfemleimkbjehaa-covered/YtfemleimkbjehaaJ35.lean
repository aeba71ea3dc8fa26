import Derived.Test.YtfemleimkbjehaaJ34
import Derived.Test.YtfemleimkbjehaaYC
set_option maxRecDepth 1000000
set_option maxHeartbeats 40000000
set_option linter.unusedVariables false
set_option linter.unusedSimpArgs false
namespace Go.Proofs.Ytfemleimkbjehaa
open Go.RowKit
theorem psrc_at {ns : List Nd} {W i m : Nat} (cl : Nat → Nat → Bool) (hi : i < W) (hm : m < ns.length) (hk : (qV ns m).kind = 0) : jN ns W cl i m = if cl i m then 4 else 0 := by
  unfold jN
  rw [if_pos (by unfold isWk kN; simp [hk]; omega)]
  simp only [Int.toNat_natCast]
theorem Kept.ep6 {ns : List Nd} {R W : Nat} {gs : List Gv} {p : PSt} {st : RSt} (h : Kept ns R W gs p st) (i m : Nat) : ∃ e : Nat, p.ep i m = e ∧ e < 6 ∧ e = qB st.opened i m 2 st.opened.length := by
  obtain ⟨k, hi⟩ := h.inv
  exact ⟨_, h.sim.ep i m, by have := hi.ep i m; omega, rfl⟩
theorem Kept.gv {ns : List Nd} {R W : Nat} {gs : List Gv} {p : PSt} {st : RSt} (h : Kept ns R W gs p st) : p.gv = (gs.length : Nat) := by rw [h.sim.gv, h.his.gl]
theorem Kept.give {ns : List Nd} {R W : Nat} {gs : List Gv} {p : PSt} {st : RSt} (g : GOk ns R W) (h : Kept ns R W gs p st) {i m e : Nat} {v : Int} (hi : i < W) (hm : m < ns.length) (hk : (qV ns m).kind = 0) (hc : p.cl i m = false) (hg : gs.length < 20) (hv : I64 v) (he : p.ep i m = e) :
    yS ns W p i m = 0 ∧ ∃ st', Kept ns R W (gs ++ [⟨m, e, v⟩]) (jB ns W p i m v) st' ∧ Stp ns (jV ns) W p (jB ns W p i m v) ∧ st'.evs = st.evs ∧ st'.opened.length = st.opened.length + 1 ∧ (jB ns W p i m v).cl = p.cl ∧ (jB ns W p i m v).ep = p.ep := by
  obtain ⟨k, hI⟩ := h.inv
  obtain ⟨r, q, hG⟩ := g.good
  obtain ⟨e', e1, e2, e3⟩ := h.ep6 i m
  have ee : e = e' := by omega
  have hE : yS ns W p i m = 0 := by
    unfold yS
    rw [psrc_at _ hi hm hk, hc, h.gv]
    simp; omega
  have hS : jB ns W p i m v = yJ ns W p i m v := by unfold jB; rw [hE]; rfl
  have hS2 : giveS ns W st i m v = yU ns W st i m v e := by
    unfold giveS
    rw [← pgiveE_eq h.sim, hE, ee, e3]; rfl
  have hstp : Stp ns (jV ns) W p (jB ns W p i m v) := by rw [hS]; exact stp_give g.dOk hi g.h8 hm hk hc he (by omega)
  refine ⟨hE, giveS ns W st i m v, ⟨h.sim.gave hI i m v, ⟨_, hI.gave h.sim g.h8 g.hR1 i m v hv.1 hv.2⟩, h.kin.stp hstp, ?_⟩, hstp, ?_, ?_, ?_, ?_⟩
  · rw [hS2]
    exact h.his.give hG hstp hm hk (by omega) hv
  · rw [hS2]; rfl
  · rw [hS2]; simp [yU]
  · rw [hS]; rfl
  · rw [hS]; rfl
theorem Kept.adv {ns : List Nd} {R W : Nat} {gs : List Gv} {p : PSt} {st : RSt} (g : GOk ns R W) (h : Kept ns R W gs p st) {i m e : Nat} (hi : i < W) (hm : m < ns.length) (hk : (qV ns m).kind = 0) (hc : p.cl i m = false) (he : p.ep i m = e) (h5 : e < 5) :
    padvE ns W p i m = 0 ∧ ∃ st', Kept ns R W gs (yQ ns W p i m) st' ∧ Stp ns (jV ns) W p (yQ ns W p i m) ∧ st'.evs = st.evs ∧ st'.opened.length = st.opened.length + 1 ∧ (yQ ns W p i m).cl = p.cl ∧ (yQ ns W p i m).ep = kZ p.ep i m ((e : Int) + 1) := by
  obtain ⟨k, hI⟩ := h.inv
  have hE : padvE ns W p i m = 0 := by
    unfold padvE
    rw [psrc_at _ hi hm hk, hc]
    simp only [Int.toNat_natCast, he]
    simp; omega
  have hS : yQ ns W p i m = padvSt W p i m := by unfold yQ; rw [hE]; rfl
  have hS2 : advS ns W st i m = advSt st i m (qB st.opened i m 2 st.opened.length) := by
    unfold advS
    rw [← padvE_eq h.sim, hE]; rfl
  have hstp : Stp ns (jV ns) W p (yQ ns W p i m) := by rw [hS]; exact stp_adv hi g.h8 hm hk hc he h5
  refine ⟨hE, advS ns W st i m, ⟨h.sim.advanced hI i m, ⟨_, hI.advanced h.sim g.hR1 i m⟩, h.kin.stp hstp, ?_⟩, hstp, ?_, ?_, ?_, ?_⟩
  · rw [hS2]
    exact h.his.quietly hstp rfl rfl rfl (i := i) (m := m) (kd := 2) rfl rfl (.inl rfl) hi hm (fun h => by omega)
  · rw [hS2]; rfl
  · rw [hS2]; simp [advSt]
  · rw [hS]; rfl
  · rw [hS, ← he]; rfl
theorem Kept.cls {ns : List Nd} {R W : Nat} {gs : List Gv} {p : PSt} {st : RSt} (g : GOk ns R W) (h : Kept ns R W gs p st) {i m : Nat} (hi : i < W) (hm : m < ns.length) (hk : (qV ns m).kind = 0) (hc : p.cl i m = false) :
    jN ns W p.cl i m = 0 ∧ ∃ st', Kept ns R W gs (yH ns W p i m) st' ∧ Stp ns (jV ns) W p (yH ns W p i m) ∧ st'.evs = st.evs ∧ st'.opened.length = st.opened.length + 1 ∧ (yH ns W p i m).cl = kZ p.cl i m true ∧ (yH ns W p i m).ep = p.ep := by
  obtain ⟨k, hI⟩ := h.inv
  obtain ⟨e, e1, e2, e3⟩ := h.ep6 i m
  have hE : jN ns W p.cl i m = 0 := by rw [psrc_at _ hi hm hk, hc]; rfl
  have hS : yH ns W p i m = xF W p i m := by unfold yH; rw [hE]; rfl
  have hS2 : clsS ns W st i m = clsSt st i m (qB st.opened i m 2 st.opened.length) := by
    unfold clsS
    rw [← psrcE_eq h.sim, hE]; rfl
  have hstp : Stp ns (jV ns) W p (yH ns W p i m) := by rw [hS]; exact stp_cls hi g.h8 hm hk hc e1 e2
  have h3 : qB st.opened i m 3 st.opened.length = 0 := by
    have := h.sim.cl i m
    rw [hc] at this
    have := of_decide_eq_false this.symm
    omega
  refine ⟨hE, clsS ns W st i m, ⟨h.sim.closed hI i m, ⟨_, hI.closed h.sim g.hR1 i m⟩, h.kin.stp hstp, ?_⟩, hstp, ?_, ?_, ?_, ?_⟩
  · rw [hS2]
    exact h.his.quietly hstp rfl rfl rfl (i := i) (m := m) (kd := 3) rfl rfl (.inr rfl) hi hm (fun _ => h3)
  · rw [hS2]; rfl
  · rw [hS2]; simp [clsSt]
  · rw [hS]; rfl
  · rw [hS]; rfl
theorem give_no {ns : List Nd} {W i m : Nat} {p : PSt} {v : Int} (hi : i < W) (hm : m < ns.length) (hk : (qV ns m).kind = 0) (h : p.cl i m = true ∨ 20 ≤ p.gv) : yS ns W p i m = (if p.cl i m then 4 else 5) ∧ jB ns W p i m v = p := by
  have hE : yS ns W p i m = if p.cl i m then 4 else 5 := by
    unfold yS
    rw [psrc_at _ hi hm hk]
    cases hc : p.cl i m with
    | true => rfl
    | false =>
      rw [hc] at h
      rcases h with h | h
      · cases h
      · simp [h]
  refine ⟨hE, ?_⟩
  unfold jB
  rw [hE]
  cases p.cl i m <;> rfl
theorem adv_no {ns : List Nd} {W i m : Nat} {p : PSt} (hi : i < W) (hm : m < ns.length) (hk : (qV ns m).kind = 0) (h : p.cl i m = true ∨ 5 ≤ p.ep i m) : padvE ns W p i m = (if p.cl i m then 4 else 5) ∧ yQ ns W p i m = p := by
  have hE : padvE ns W p i m = if p.cl i m then 4 else 5 := by
    unfold padvE
    rw [psrc_at _ hi hm hk]
    cases hc : p.cl i m with
    | true => rfl
    | false =>
      rw [hc] at h
      rcases h with h | h
      · cases h
      · simp [h]
  refine ⟨hE, ?_⟩
  unfold yQ
  rw [hE]
  cases p.cl i m <;> rfl
theorem cls_no {ns : List Nd} {W i m : Nat} {p : PSt} (hi : i < W) (hm : m < ns.length) (hk : (qV ns m).kind = 0) (h : p.cl i m = true) : jN ns W p.cl i m = 4 ∧ yH ns W p i m = p := by
  have hE : jN ns W p.cl i m = 4 := by rw [psrc_at _ hi hm hk, h]; rfl
  refine ⟨hE, ?_⟩
  unfold yH
  rw [hE]; rfl
def Cov (ns : List Nd) (R W : Nat) (p : PSt) (n : Nat) (f : List Tm) : Prop := ∀ e s, e < 6 → s < R → jU f e s f.length = true → Zero ns (jV ns) W p n e s
theorem Cov.stp {ns : List Nd} {R W n : Nat} {p p' : PSt} {f : List Tm} (hn : n < ns.length) (h : Cov ns R W p n f) (hs : Stp ns (jV ns) W p p') : Cov ns R W p' n f := fun e s he hs' hf => (h e s he hs' hf).stp hn hs
theorem Kept.cov {ns : List Nd} {R W : Nat} {gs : List Gv} {p : PSt} {st : RSt} (g : GOk ns R W) (h : Kept ns R W gs p st) {w n : Nat} (hw : w < W) (hn : n < ns.length) : Cov ns R W p n (frsP ns (jV ns) R p w n) := by
  intro e s he hs hf
  have hp := h.pinv g
  exact free_zero h.kin g.hW hw hn (fun x y => ⟨by have := (hp.few x y).1; omega, by have := (hp.few x y).2.2; omega⟩) ((fr_free g.hR hs).1 hf)
theorem Kept.beg {ns : List Nd} {R W : Nat} (g : GOk ns R W) (hs : Sim ns W (pst0 (begT ns W)) rst0) : Kept ns R W [] (pst0 (begT ns W)) rst0 := by
  obtain ⟨r, q, hG⟩ := g.good
  exact ⟨hs, ⟨0, Inv.zero ns R W⟩, KInv.beg, Hist.beg hG⟩
theorem Kept.small {ns : List Nd} {R W : Nat} {gs : List Gv} {p : PSt} {st : RSt} (g : GOk ns R W) (h : Kept ns R W gs p st) : st.opened.length ≤ 212 ∧ st.evs.length ≤ 30000000 ∧ gs.length ≤ 20 ∧ kdC st.evs 2 ≤ 768 := by
  obtain ⟨k, hi⟩ := h.inv
  obtain ⟨r, q, hG⟩ := g.good
  have hh := h.his
  have h8 := g.h8
  have hW := g.hW
  obtain ⟨_, _, b3⟩ := hh.bounds hG hi g.h8 g.hR g.hW
  have h7 : kQ (fun i => kQ (fun n => qB st.opened i n 2 st.opened.length + qB st.opened i n 3 st.opened.length) ns.length) W ≤ W * (ns.length * 6) := vX fun i _ => vX fun n _ => by have := hi.ep i n; have := hh.c3 i n; omega
  have h8' : W * (ns.length * 6) ≤ 4 * (8 * 6) := Nat.mul_le_mul hW (Nat.mul_le_mul_right _ h8)
  have h9 := hh.op
  have h10 := hi.gv
  exact ⟨by omega, b3, by rw [hh.gl]; exact h10, hh.notes_bd g.h8 g.hR g.hW⟩
theorem T4.tf {W w : World} {t : Tb} {L R : Nat} {lv : Nat → Nat → Nat → Value} {F : Nat → Nat → Nat → List Int} (h : T4 w t.ob L R t.oc t.tb t.tc t.rb lv) (ho : ∀ e s n, e < 6 → s < R → n < L → Own W w (lv e s n) (F e s n)) (hl : ∀ n e, n < L → e < 6 → W.heap.size ≤ t.rb n e) : TF W w t L R F :=
  ⟨h.out, h.times, fun n hn e he => by
    obtain ⟨arr, h1, h2, h3⟩ := h.rows n hn e he
    exact ⟨arr, h1, h2, fun s hs => ⟨_, h3 s hs, ho e s n he hs hn⟩⟩, h.inj, hl⟩
def Dn (e s e' s' : Nat) : Prop := e' < e ∨ (e' = e ∧ s' < s)
structure FlS (ns : List Nd) (gs : List Gv) (R e s : Nat) (FI FO : Nat → Nat → Nat → List Int) : Prop where
  inn : ∀ e' s' n, e' < 6 → s' < R → n < ns.length → (qV ns n).kind ≠ 0 → Dn e s e' s' → FI e' s' n = kK (qV ns n) (zN ns gs e' s')
  own : ∀ e' s' n, n < ns.length → (qV ns n).kind = 0 → FI e' s' n = []
  src : ∀ e' s' n, n < ns.length → (qV ns n).kind = 0 → FO e' s' n = srcL gs n e' s'
  nil : ∀ e' s' n, n < ns.length → (qV ns n).kind ≠ 0 → ¬ Dn e s e' s' → FO e' s' n = []
theorem FlS.start (ns : List Nd) (gs : List Gv) (R : Nat) : FlS ns gs R 0 0 (fun _ _ _ => []) (fun e s n => if (qV ns n).kind = 0 then srcL gs n e s else []) :=
  ⟨fun e' s' n _ _ _ _ h => by unfold Dn at h; omega, fun _ _ _ _ _ => rfl, fun e s n _ h => if_pos h, fun e s n _ h _ => if_neg h⟩
structure FlB (ns : List Nd) (gs : List Gv) (R e s m : Nat) (FI FO : Nat → Nat → Nat → List Int) : Prop where
  inn : ∀ e' s' n, e' < 6 → s' < R → n < ns.length → (qV ns n).kind ≠ 0 → Dn e s e' s' → FI e' s' n = kK (qV ns n) (zN ns gs e' s')
  own : ∀ e' s' n, n < ns.length → (qV ns n).kind = 0 → FI e' s' n = []
  src : ∀ e' s' n, n < ns.length → (qV ns n).kind = 0 → FO e' s' n = srcL gs n e' s'
  nil : ∀ e' s' n, n < ns.length → (qV ns n).kind ≠ 0 → ¬ Dn e s e' s' → ¬ (e' = e ∧ s' = s ∧ (qV ns n).kind = 4 ∧ n < m) → FO e' s' n = []
  bk : ∀ n, n < m → n < ns.length → (qV ns n).kind = 4 → FO e s n = zN ns gs e s n
theorem FlS.backs {ns : List Nd} {gs : List Gv} {R e s : Nat} {FI FO : Nat → Nat → Nat → List Int} (h : FlS ns gs R e s FI FO) : FlB ns gs R e s 0 FI FO := ⟨h.inn, h.own, h.src, fun e' s' n hn hk hd _ => h.nil e' s' n hn hk hd, fun n h => absurd h (Nat.not_lt_zero _)⟩
theorem Good.back {ns : List Nd} {r : Int} {q : List Int} (h : Good ns r q) (gs : List Gv) (e s : Nat) {n : Nat} (hn : n < ns.length) (h4 : (qV ns n).kind = 4) : zN ns gs e s n = kK (qV ns n) (prevS (zN ns gs e) s) := by
  conv => lhs; rw [h.val_fix gs e s hn]
  unfold putL
  rw [if_neg (by simp [h4]), if_pos (by simp [h4])]
theorem FlB.skip {ns : List Nd} {r : Int} {q : List Int} (hG : Good ns r q) {gs : List Gv} {R e s m : Nat} {FI FO : Nat → Nat → Nat → List Int} (h : FlB ns gs R e s m FI FO) (hm : m < ns.length) (hk : (qV ns m).kind ≠ 4 ∨ s = 0) : FlB ns gs R e s (m + 1) FI FO := by
  have hz : (qV ns m).kind = 4 → FO e s m = [] ∧ zN ns gs e s m = [] := fun h4 => by
    have hs : s = 0 := hk.resolve_left fun h' => h' h4
    refine ⟨h.nil e s m hm (by omega) (by unfold Dn; omega) (by omega), ?_⟩
    rw [hG.back gs e s hm h4, hs]
    unfold kK
    rw [List.flatMap_eq_nil_iff]
    intro z _; rfl
  refine ⟨h.inn, h.own, h.src, fun e' s' n hn hk' hd hne => ?_, fun n hn hnl h4 => ?_⟩
  · exact h.nil e' s' n hn hk' hd (fun hh => hne ⟨hh.1, hh.2.1, hh.2.2.1, by omega⟩)
  · by_cases e1 : n = m
    · subst e1; rw [(hz h4).1, (hz h4).2]
    · exact h.bk n (by omega) hnl h4
theorem FlB.set {ns : List Nd} {r : Int} {q : List Int} (hG : Good ns r q) {gs : List Gv} {R e s m : Nat} {FI FO : Nat → Nat → Nat → List Int} (h : FlB ns gs R e (s + 1) m FI FO) (he : e < 6) (hs : s + 1 < R) (hm : m < ns.length) (h4 : (qV ns m).kind = 4) : FlB ns gs R e (s + 1) (m + 1) FI (updF FO e (s + 1) m (FI e s m)) := by
  have hv : FI e s m = zN ns gs e (s + 1) m := by
    rw [hG.back gs e (s + 1) hm h4, h.inn e s m he (by omega) hm (by omega) (by unfold Dn; omega)]; rfl
  refine ⟨h.inn, h.own, fun e' s' n hn h0 => ?_, fun e' s' n hn hk' hd hne => ?_, fun n hn hnl h4' => ?_⟩
  · rw [yZ _ _ (fun hh => by rw [hh.2.2] at h0; omega)]; exact h.src e' s' n hn h0
  · by_cases hh : e' = e ∧ s' = s + 1 ∧ n = m
    · exact absurd ⟨hh.1, hh.2.1, by rw [hh.2.2]; exact h4, by omega⟩ hne
    · rw [yZ _ _ hh]
      exact h.nil e' s' n hn hk' hd (fun h' => hne ⟨h'.1, h'.2.1, h'.2.2.1, by omega⟩)
  · by_cases e1 : n = m
    · subst e1; rw [updF_eq]; exact hv
    · rw [yZ _ _ (fun hh => e1 hh.2.2)]; exact h.bk n (by omega) hnl h4'
structure FlP (ns : List Nd) (gs : List Gv) (R e s j : Nat) (FI FO : Nat → Nat → Nat → List Int) : Prop where
  inn : ∀ e' s' n, e' < 6 → s' < R → n < ns.length → (qV ns n).kind ≠ 0 → Dn e s e' s' → FI e' s' n = kK (qV ns n) (zN ns gs e' s')
  own : ∀ e' s' n, n < ns.length → (qV ns n).kind = 0 → FI e' s' n = []
  src : ∀ e' s' n, n < ns.length → (qV ns n).kind = 0 → FO e' s' n = srcL gs n e' s'
  nil : ∀ e' s' n, n < ns.length → (qV ns n).kind ≠ 0 → ¬ Dn e s e' s' → ¬ (e' = e ∧ s' = s) → FO e' s' n = []
  sb : ∀ n, n < ns.length → (qV ns n).kind = 0 ∨ (qV ns n).kind = 4 → FO e s n = zN ns gs e s n
  all : 1 ≤ j → ∀ n, n < ns.length → (qV ns n).kind ≠ 7 → FO e s n = zN ns gs e s n
  now : 1 ≤ j → ∀ n, n < ns.length → (qV ns n).kind ≠ 0 → (qV ns n).kind ≠ 4 ∨ 2 ≤ j → FI e s n = kK (qV ns n) (zN ns gs e s)
  few : ∀ n, n < ns.length → (FO e s n).length ≤ 100000
theorem FlB.pass {ns : List Nd} {r : Int} {q : List Int} (hG : Good ns r q) {gs : List Gv} (hg : GvOk ns gs) {R e s : Nat} {FI FO : Nat → Nat → Nat → List Int} (hs : s ≤ 3) (h : FlB ns gs R e s ns.length FI FO) : FlP ns gs R e s 0 FI FO := by
  have sb : ∀ n, n < ns.length → (qV ns n).kind = 0 ∨ (qV ns n).kind = 4 → FO e s n = zN ns gs e s n := fun n hn hk => by
    rcases hk with hk | hk
    · rw [h.src e s n hn hk, hG.src gs e s hn hk]
    · exact h.bk n hn hn hk
  refine ⟨h.inn, h.own, h.src, fun e' s' n hn hk hd hne => h.nil e' s' n hn hk hd (fun hh => hne ⟨hh.1, hh.2.1⟩), sb, fun h => by omega, fun h => by omega, fun n hn => ?_⟩
  by_cases hk : (qV ns n).kind = 0 ∨ (qV ns n).kind = 4
  · rw [sb n hn hk]; have := hG.val_len hg e hs hn; omega
  · rw [h.nil e s n hn (by omega) (by unfold Dn; omega) (by omega)]; simp
theorem FlP.next {ns : List Nd} {gs : List Gv} {R e s j : Nat} {FI FO FI' FO' : Nat → Nat → Nat → List Int} (h : FlP ns gs R e s j FI FO) (hr : RdOk ns gs e s (1 ≤ j) ns.length FI FO FI' FO') : FlP ns gs R e s (j + 1) FI' FO' := by
  have oth := hr.oth
  refine ⟨fun e' s' n he hs hn hk hd => ?_, fun e' s' n hn hk => ?_, fun e' s' n hn hk => ?_, fun e' s' n hn hk hd hne => ?_, fun n hn hk => hr.out n hn (by omega) (.inl hn), fun _ n hn h7 => hr.out n hn h7 (.inl hn), fun _ n hn hk h4 => hr.inn n hn hk (h4.imp id fun h => by omega), hr.few⟩
  · rw [(oth e' s' n (by unfold Dn at hd; omega)).1]; exact h.inn e' s' n he hs hn hk hd
  · by_cases hh : e' = e ∧ s' = s
    · rw [hh.1, hh.2, hr.own n hn hk]; exact h.own e s n hn hk
    · rw [(oth e' s' n hh).1]; exact h.own e' s' n hn hk
  · by_cases hh : e' = e ∧ s' = s
    · rw [hh.1, hh.2, hr.out n hn (by omega) (.inl hn), ← h.src e s n hn hk, h.sb n hn (.inl hk)]
    · rw [(oth e' s' n hh).2]; exact h.src e' s' n hn hk
  · rw [(oth e' s' n hne).2]; exact h.nil e' s' n hn hk hd hne
theorem FlP.done {ns : List Nd} {gs : List Gv} {R e s : Nat} {FI FO : Nat → Nat → Nat → List Int} (h : FlP ns gs R e s ns.length FI FO) (h1 : 1 ≤ ns.length) (h0 : (qV ns 0).kind = 0) : FlS ns gs R e (s + 1) FI FO := by
  refine ⟨fun e' s' n he hs hn hk hd => ?_, h.own, h.src, fun e' s' n hn hk hd => h.nil e' s' n hn hk (by unfold Dn at *; omega) (by unfold Dn at hd; omega)⟩
  by_cases hh : e' = e ∧ s' = s
  · rw [hh.1, hh.2]
    refine h.now h1 n hn hk ?_
    by_cases h2 : 2 ≤ ns.length
    · exact .inr h2
    · have : n = 0 := by omega
      subst this; exact absurd h0 hk
  · exact h.inn e' s' n he hs hn hk (by unfold Dn at *; omega)
theorem FlS.turn {ns : List Nd} {gs : List Gv} {R e : Nat} {FI FO : Nat → Nat → Nat → List Int} (h : FlS ns gs R e R FI FO) : FlS ns gs R (e + 1) 0 FI FO :=
  ⟨fun e' s' n he hs hn hk hd => h.inn e' s' n he hs hn hk (by unfold Dn at *; omega), h.own, h.src, fun e' s' n hn' hk hd => h.nil e' s' n hn' hk (by unfold Dn at *; omega)⟩
theorem FlS.final {ns : List Nd} {gs : List Gv} {R : Nat} {FI FO : Nat → Nat → Nat → List Int} (h : FlS ns gs R 6 0 FI FO) : ∀ e s n, e < 6 → s < R → n < ns.length → FI e s n = inV ns gs n e s := by
  intro e s n he hs hn
  unfold inV
  by_cases hk : (qV ns n).kind = 0
  · rw [if_pos (by simpa using hk)]; exact h.own e s n hn hk
  · rw [if_neg (by simpa using hk)]; exact h.inn e s n he hs hn hk (by unfold Dn; omega)
end Go.Proofs.Ytfemleimkbjehaa
