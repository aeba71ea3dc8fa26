import Derived.Test.YtfemleimkbjehaaJ35
import Derived.Test.YtfemleimkbjehaaYA
import Derived.Deep.RegionHeldLaw
set_option maxRecDepth 1000000
set_option maxHeartbeats 40000000
set_option linter.unusedVariables false
set_option linter.unusedSimpArgs false
namespace Go.Proofs.Ytfemleimkbjehaa
open Go.RowKit
theorem lU {ns : List Nd} {W i m : Nat} (cl : Nat → Nat → Bool) (hi : i < W) (hm : m < ns.length) (hk : (qV ns m).kind = 0) : jP ns W cl i m = if cl i m then 4 else 0 := by
  unfold jP
  rw [if_pos (by unfold mT jQ; simp [hk]; omega)]
  simp only [Int.toNat_natCast]
theorem Kept.ep6 {ns : List Nd} {R W : Nat} {gs : List Gv} {p : PSt} {st : RSt} (h : Kept ns R W gs p st) (i m : Nat) : ∃ e : Nat, p.ep i m = e ∧ e < 6 ∧ e = kQ st.opened i m 2 st.opened.length := by
  obtain ⟨k, hi⟩ := h.inv
  exact ⟨_, h.sim.ep i m, by have := hi.ep i m; omega, rfl⟩
theorem Kept.gv {ns : List Nd} {R W : Nat} {gs : List Gv} {p : PSt} {st : RSt} (h : Kept ns R W gs p st) : p.gv = (gs.length : Nat) := by rw [h.sim.gv, h.his.gl]
theorem Kept.give {ns : List Nd} {R W : Nat} {gs : List Gv} {p : PSt} {st : RSt} (g : GOk ns R W) (h : Kept ns R W gs p st) {i m e : Nat} {v : Int} (hi : i < W) (hm : m < ns.length) (hk : (qV ns m).kind = 0) (hc : p.cl i m = false) (hg : gs.length < 20) (hv : mQ v) (he : p.ep i m = e) :
    yR ns W p i m = 0 ∧ ∃ st', Kept ns R W (gs ++ [⟨m, e, v⟩]) (jD ns W p i m v) st' ∧ Stp ns (zQ ns) W p (jD ns W p i m v) ∧ st'.evs = st.evs ∧ st'.opened.length = st.opened.length + 1 ∧ (jD ns W p i m v).cl = p.cl ∧ (jD ns W p i m v).ep = p.ep := by
  obtain ⟨k, hI⟩ := h.inv
  obtain ⟨r, q, hG⟩ := g.good
  obtain ⟨e', e1, e2, e3⟩ := h.ep6 i m
  have ee : e = e' := by omega
  have hE : yR ns W p i m = 0 := by
    unfold yR
    rw [lU _ hi hm hk, hc, h.gv]
    simp; omega
  have hS : jD ns W p i m v = yV ns W p i m v := by unfold jD; rw [hE]; rfl
  have hS2 : pU ns W st i m v = yT ns W st i m v e := by
    unfold pU
    rw [← cW h.sim, hE, ee, e3]; rfl
  have hstp : Stp ns (zQ ns) W p (jD ns W p i m v) := by rw [hS]; exact stp_give g.dOk hi g.h8 hm hk hc he (by omega)
  refine ⟨hE, pU ns W st i m v, ⟨h.sim.gave hI i m v, ⟨_, hI.gave h.sim g.h8 g.hR1 i m v hv.1 hv.2⟩, h.kin.stp hstp, ?_⟩, hstp, ?_, ?_, ?_, ?_⟩
  · rw [hS2]
    exact h.his.give hG hstp hm hk (by omega) hv
  · rw [hS2]; rfl
  · rw [hS2]; simp [yT]
  · rw [hS]; rfl
  · rw [hS]; rfl
theorem Kept.adv {ns : List Nd} {R W : Nat} {gs : List Gv} {p : PSt} {st : RSt} (g : GOk ns R W) (h : Kept ns R W gs p st) {i m e : Nat} (hi : i < W) (hm : m < ns.length) (hk : (qV ns m).kind = 0) (hc : p.cl i m = false) (he : p.ep i m = e) (h5 : e < 5) :
    wV ns W p i m = 0 ∧ ∃ st', Kept ns R W gs (yZ ns W p i m) st' ∧ Stp ns (zQ ns) W p (yZ ns W p i m) ∧ st'.evs = st.evs ∧ st'.opened.length = st.opened.length + 1 ∧ (yZ ns W p i m).cl = p.cl ∧ (yZ ns W p i m).ep = kY p.ep i m ((e : Int) + 1) := by
  obtain ⟨k, hI⟩ := h.inv
  have hE : wV ns W p i m = 0 := by
    unfold wV
    rw [lU _ hi hm hk, hc]
    simp only [Int.toNat_natCast, he]
    simp; omega
  have hS : yZ ns W p i m = uT W p i m := by unfold yZ; rw [hE]; rfl
  have hS2 : dM ns W st i m = tH st i m (kQ st.opened i m 2 st.opened.length) := by
    unfold dM
    rw [← padvE_eq h.sim, hE]; rfl
  have hstp : Stp ns (zQ ns) W p (yZ ns W p i m) := by rw [hS]; exact stp_adv hi g.h8 hm hk hc he h5
  refine ⟨hE, dM ns W st i m, ⟨h.sim.advanced hI i m, ⟨_, hI.advanced h.sim g.hR1 i m⟩, h.kin.stp hstp, ?_⟩, hstp, ?_, ?_, ?_, ?_⟩
  · rw [hS2]
    exact h.his.quietly hstp rfl rfl rfl (i := i) (m := m) (kd := 2) rfl rfl (.inl rfl) hi hm (fun h => by omega)
  · rw [hS2]; rfl
  · rw [hS2]; simp [tH]
  · rw [hS]; rfl
  · rw [hS, ← he]; rfl
theorem Kept.cls {ns : List Nd} {R W : Nat} {gs : List Gv} {p : PSt} {st : RSt} (g : GOk ns R W) (h : Kept ns R W gs p st) {i m : Nat} (hi : i < W) (hm : m < ns.length) (hk : (qV ns m).kind = 0) (hc : p.cl i m = false) :
    jP ns W p.cl i m = 0 ∧ ∃ st', Kept ns R W gs (yF ns W p i m) st' ∧ Stp ns (zQ ns) W p (yF ns W p i m) ∧ st'.evs = st.evs ∧ st'.opened.length = st.opened.length + 1 ∧ (yF ns W p i m).cl = kY p.cl i m true ∧ (yF ns W p i m).ep = p.ep := by
  obtain ⟨k, hI⟩ := h.inv
  obtain ⟨e, e1, e2, e3⟩ := h.ep6 i m
  have hE : jP ns W p.cl i m = 0 := by rw [lU _ hi hm hk, hc]; rfl
  have hS : yF ns W p i m = xF W p i m := by unfold yF; rw [hE]; rfl
  have hS2 : dF ns W st i m = tQ st i m (kQ st.opened i m 2 st.opened.length) := by
    unfold dF
    rw [← rK h.sim, hE]; rfl
  have hstp : Stp ns (zQ ns) W p (yF ns W p i m) := by rw [hS]; exact stp_cls hi g.h8 hm hk hc e1 e2
  have h3 : kQ st.opened i m 3 st.opened.length = 0 := by
    have := h.sim.cl i m
    rw [hc] at this
    have := of_decide_eq_false this.symm
    omega
  refine ⟨hE, dF ns W st i m, ⟨h.sim.closed hI i m, ⟨_, hI.closed h.sim g.hR1 i m⟩, h.kin.stp hstp, ?_⟩, hstp, ?_, ?_, ?_, ?_⟩
  · rw [hS2]
    exact h.his.quietly hstp rfl rfl rfl (i := i) (m := m) (kd := 3) rfl rfl (.inr rfl) hi hm (fun _ => h3)
  · rw [hS2]; rfl
  · rw [hS2]; simp [tQ]
  · rw [hS]; rfl
  · rw [hS]; rfl
theorem give_no {ns : List Nd} {W i m : Nat} {p : PSt} {v : Int} (hi : i < W) (hm : m < ns.length) (hk : (qV ns m).kind = 0) (h : p.cl i m = true ∨ 20 ≤ p.gv) : yR ns W p i m = (if p.cl i m then 4 else 5) ∧ jD ns W p i m v = p := by
  have hE : yR ns W p i m = if p.cl i m then 4 else 5 := by
    unfold yR
    rw [lU _ hi hm hk]
    cases hc : p.cl i m with
    | true => rfl
    | false =>
      rw [hc] at h
      rcases h with h | h
      · cases h
      · simp [h]
  refine ⟨hE, ?_⟩
  unfold jD
  rw [hE]
  cases p.cl i m <;> rfl
theorem adv_no {ns : List Nd} {W i m : Nat} {p : PSt} (hi : i < W) (hm : m < ns.length) (hk : (qV ns m).kind = 0) (h : p.cl i m = true ∨ 5 ≤ p.ep i m) : wV ns W p i m = (if p.cl i m then 4 else 5) ∧ yZ ns W p i m = p := by
  have hE : wV ns W p i m = if p.cl i m then 4 else 5 := by
    unfold wV
    rw [lU _ hi hm hk]
    cases hc : p.cl i m with
    | true => rfl
    | false =>
      rw [hc] at h
      rcases h with h | h
      · cases h
      · simp [h]
  refine ⟨hE, ?_⟩
  unfold yZ
  rw [hE]
  cases p.cl i m <;> rfl
theorem cls_no {ns : List Nd} {W i m : Nat} {p : PSt} (hi : i < W) (hm : m < ns.length) (hk : (qV ns m).kind = 0) (h : p.cl i m = true) : jP ns W p.cl i m = 4 ∧ yF ns W p i m = p := by
  have hE : jP ns W p.cl i m = 4 := by rw [lU _ hi hm hk, h]; rfl
  refine ⟨hE, ?_⟩
  unfold yF
  rw [hE]; rfl
theorem Kept.shut {ns : List Nd} {R W : Nat} {gs : List Gv} {p : PSt} {st : RSt} (g : GOk ns R W) (h : Kept ns R W gs p st) : ∀ K, ∃ p' st', Kept ns R W gs p' st' ∧ st'.evs = st.evs ∧ p'.rc = p.rc ∧ ∀ k, k < K → k / 8 < W → k % 8 < ns.length → (qV ns (k % 8)).kind = 0 → p'.cl (k / 8) (k % 8) = true
  | 0 => ⟨p, st, h, rfl, rfl, fun k hk => absurd hk (Nat.not_lt_zero _)⟩
  | K + 1 => by
    obtain ⟨p', st', h1, h2, h3, h4⟩ := Kept.shut g h K
    by_cases hh : K / 8 < W ∧ K % 8 < ns.length ∧ (qV ns (K % 8)).kind = 0 ∧ p'.cl (K / 8) (K % 8) = false
    · obtain ⟨q1, q2, q3, q4⟩ := hh
      obtain ⟨hE, st2, k1, k2, k3, k4, k5, k6⟩ := h1.cls g q1 q2 q3 q4
      refine ⟨_, st2, k1, k3.trans h2, ?_, fun k hk a b c => ?_⟩
      · rw [k1.sim.rc, k3, ← h1.sim.rc, h3]
      · rw [k5]
        by_cases e : k / 8 = K / 8 ∧ k % 8 = K % 8
        · rw [e.1, e.2, zZ]
        · rw [yH _ _ e]
          exact h4 k (by omega) a b c
    · refine ⟨p', st', h1, h2, h3, fun k hk a b c => ?_⟩
      by_cases e : k = K
      · subst e
        cases hc : p'.cl (k / 8) (k % 8) with
        | true => rfl
        | false => exact absurd ⟨a, b, c, hc⟩ hh
      · exact h4 k (by omega) a b c
theorem Kept.shutAll {ns : List Nd} {R W : Nat} {gs : List Gv} {p : PSt} {st : RSt} (g : GOk ns R W) (h : Kept ns R W gs p st) : ∃ p' st', Kept ns R W gs p' st' ∧ st'.evs = st.evs ∧ p'.rc = p.rc ∧ gS ns W p' := by
  obtain ⟨p', st', h1, h2, h3, h4⟩ := h.shut g (W * 8)
  refine ⟨p', st', h1, h2, h3, fun i n hi hn hk => ?_⟩
  have := g.h8
  have e1 : (i * 8 + n) / 8 = i := by omega
  have e2 : (i * 8 + n) % 8 = n := by omega
  have := h4 (i * 8 + n) (by omega) (by omega) (by omega) (by rw [e2]; exact hk)
  rwa [e1, e2] at this
def rcF (n e s : Nat) (x : Nd) : Bool := (x.kind == (n : Int)) && ((x.b == (e : Int)) && (x.k == (s : Int)))
def rcV (rc : List Nd) (n e s : Nat) : List Int := (rc.filter (rcF n e s)).map (·.m)
theorem bC (a b : List Nd) (n e s : Nat) : rcV (a ++ b) n e s = rcV a n e s ++ rcV b n e s := by unfold rcV; rw [List.filter_append, List.map_append]
theorem bB (x : Nd) (n e s : Nat) : rcV [x] n e s = if rcF n e s x then [x.m] else [] := by
  unfold rcV; cases h : rcF n e s x <;> simp [List.filter_cons, h]
theorem rc_wk {ns : List Nd} {n : Nat} (hk : (qV ns n).kind = 7) (e s : Nat) (evs : List Ev) : rcV (nC ns evs evs.length) n e s = uR evs n e s := by
  refine cZ (P := fun evs => rcV (nC ns evs evs.length) n e s = uR evs n e s) rfl (fun l y ih => ?_) evs
  rw [pM, bC, ih, nQ]
  congr 1
  have hf : rcF n e s (rcOf y) = ((y.node == (n : Int)) && ((y.epoch == (e : Int)) && (y.round == (s : Int)))) := rfl
  cases h1 : y.kind == 1 with
  | false => unfold wkF; rw [h1]; simp [rcV]
  | true =>
    have h2 : wkF n e s y = rcF n e s (rcOf y) := by rw [hf]; unfold wkF; rw [h1]; rfl
    rw [h2]
    cases h3 : rcF n e s (rcOf y) with
    | true =>
      rw [hf] at h3
      simp only [Bool.and_eq_true, beq_iff_eq] at h3
      have : (qV ns y.node.toNat).kind = 7 := by rw [h3.1, Int.toNat_natCast]; exact hk
      rw [if_pos (by simp [this]), bB, hf, h3.1, h3.2.1, h3.2.2]; simp [rcOf]
    | false =>
      split
      · rw [bB, h3]; rfl
      · rfl
theorem rc_ok {ns : List Nd} {R W : Nat} {evs : List Ev} (h : ∀ y ∈ evs, EvOk ns R W y) : ∀ x ∈ nC ns evs evs.length, ∃ (n a e s : Nat) (v : Int), x = ⟨n, a, e, s, v⟩ ∧ n < ns.length ∧ (qV ns n).kind = 7 ∧ a < W ∧ e < 6 ∧ s < R := by
  refine cZ (P := fun evs => (∀ y ∈ evs, EvOk ns R W y) → ∀ x ∈ nC ns evs evs.length, ∃ (n a e s : Nat) (v : Int), x = ⟨n, a, e, s, v⟩ ∧ n < ns.length ∧ (qV ns n).kind = 7 ∧ a < W ∧ e < 6 ∧ s < R) (fun _ x hx => by simp [nC] at hx) (fun l y ih h x hx => ?_) evs h
  rw [pM] at hx
  rcases List.mem_append.1 hx with hx | hx
  · exact ih (fun z hz => h z (List.mem_append_left _ hz)) x hx
  · split at hx
    · rename_i hc
      rw [Bool.and_eq_true] at hc
      simp at hx
      obtain ⟨a, n, i, e, s, v, rfl, ha, hn, he, hs, _⟩ := (h y (by simp)).work hc.1
      refine ⟨n, a, e, s, v, hx, hn, ?_, ha, he, hs⟩
      have := hc.2
      simpa using this
    · simp at hx
theorem Kept.out_end {ns : List Nd} {R W : Nat} {gs : List Gv} {p : PSt} {st : RSt} (g : GOk ns R W) (h : Kept ns R W gs p st) (hc : gS ns W p) (h0 : jW ns R W p = []) {n e s : Nat} (hn : n < ns.length) (hk : (qV ns n).kind = 7) (he : e < 6) (hs : s < R) : (rcV p.rc n e s).Perm (dT ns gs n e s) := by
  obtain ⟨k, hi⟩ := h.inv
  obtain ⟨r, q, hG⟩ := g.good
  rw [h.sim.rc, rc_wk hk]
  exact h.his.wk_val hG hi (h.ended g hc h0).1 g.hW1 g.hR hn he hs
theorem Kept.out_part {ns : List Nd} {R W : Nat} {gs : List Gv} {p : PSt} {st : RSt} (g : GOk ns R W) (h : Kept ns R W gs p st) {n e s : Nat} (hn : n < ns.length) (hk : (qV ns n).kind = 7) (he : e < 6) (hs : s < R) : ∃ l, (rcV p.rc n e s ++ l).Perm (dT ns gs n e s) := by
  obtain ⟨p1, st1, h1, e1, r1, c1⟩ := h.shutAll g
  obtain ⟨p2, st2, h2, a2, ⟨l2, e2, _⟩, _, c2⟩ := Kept.toEnd g _ p1 st1 h1 (Nat.lt_succ_self _)
  have := h2.out_end g (fun i n hi hn hk => by rw [c2]; exact c1 i n hi hn hk) a2 hn hk he hs
  rw [h2.sim.rc, rc_wk hk, e2, e1] at this
  refine ⟨uR l2 n e s, ?_⟩
  rw [h.sim.rc, rc_wk hk]
  refine List.Perm.trans ?_ this
  unfold uR
  rw [List.filter_append, List.map_append]
theorem Kept.outs {ns : List Nd} {R W : Nat} {gs : List Gv} {p : PSt} {st : RSt} (h : Kept ns R W gs p st) : ∀ x ∈ p.rc, ∃ (n a e s : Nat) (v : Int), x = ⟨n, a, e, s, v⟩ ∧ n < ns.length ∧ (qV ns n).kind = 7 ∧ a < W ∧ e < 6 ∧ s < R := by
  rw [h.sim.rc]; exact rc_ok h.his.ev
def Cov (ns : List Nd) (R W : Nat) (p : PSt) (n : Nat) (f : List Tm) : Prop := ∀ e s, e < 6 → s < R → zC f e s f.length = true → Zero ns (zQ ns) W p n e s
theorem Cov.stp {ns : List Nd} {R W n : Nat} {p p' : PSt} {f : List Tm} (hn : n < ns.length) (h : Cov ns R W p n f) (hs : Stp ns (zQ ns) W p p') : Cov ns R W p' n f := fun e s he hs' hf => (h e s he hs' hf).stp hn hs
theorem Kept.beg {ns : List Nd} {R W : Nat} (g : GOk ns R W) (hs : Sim ns W (rP (tF ns W)) rst0) : Kept ns R W [] (rP (tF ns W)) rst0 := by
  obtain ⟨r, q, hG⟩ := g.good
  exact ⟨hs, ⟨0, Inv.zero ns R W⟩, KInv.beg, Hist.beg hG⟩
theorem Kept.small {ns : List Nd} {R W : Nat} {gs : List Gv} {p : PSt} {st : RSt} (g : GOk ns R W) (h : Kept ns R W gs p st) : st.opened.length ≤ 212 ∧ st.evs.length ≤ 30000000 ∧ gs.length ≤ 20 ∧ lV st.evs 2 ≤ 768 := by
  obtain ⟨k, hi⟩ := h.inv
  obtain ⟨r, q, hG⟩ := g.good
  have hh := h.his
  have h8 := g.h8
  have hW := g.hW
  obtain ⟨_, _, b3⟩ := hh.bounds hG hi g.h8 g.hR g.hW
  have h7 : qD (fun i => qD (fun n => kQ st.opened i n 2 st.opened.length + kQ st.opened i n 3 st.opened.length) ns.length) W ≤ W * (ns.length * 6) := zJ fun i _ => zJ fun n _ => by have := hi.ep i n; have := hh.c3 i n; omega
  have h8' : W * (ns.length * 6) ≤ 4 * (8 * 6) := Nat.mul_le_mul hW (Nat.mul_le_mul_right _ h8)
  have h9 := hh.op
  have h10 := hi.gv
  exact ⟨by omega, b3, by rw [hh.gl]; exact h10, hh.notes_bd g.h8 g.hR g.hW⟩
theorem Try.infoGivenK : (Try.prog.info? 44).map (fun i => (i.zero, i.size, i.bytes)) = some (some (.agg #[.int .i64 0, .int .i64 0, .int .i64 0]), 3, 24) := by kernel_rfl
theorem Try.infoTold : (Try.prog.info? 77).map (fun i => (i.zero, i.size, i.bytes)) = some (some (.agg #[.int .i64 0, .int .i64 0, .int .i64 0]), 3, 24) := by kernel_rfl
structure BX where
  na : Option Addr
  nc : Nat
  eb : Nat
  ec : Nat
  er : Nat → Nat
  vg : Value
  vt : Value
def BX.cells (x : BX) (pb L R W used done : Nat) : Array Value := #[.pointer (some ⟨pb, 0, none⟩), .slice x.na L x.nc, .int .i64 (R : Int), .int .i64 (W : Int), .slice (some ⟨x.eb, 0, none⟩) W x.ec, x.vg, .int .i64 (used : Int), .int .i64 (done : Int), x.vt]
structure BT (w : World) (T : Nat → Prop) (bb pb : Nat) (x : BX) (ns : List Nd) (R W : Nat) (ep : Nat → Nat → Int) (gs : List Gv) (used done : Nat) (nts : List Gv) : Prop where
  root : w.heap[bb]? = some (.cells (x.cells pb ns.length R W used done) 57 (0, 0))
  troot : T bb
  tlt : ∀ b, T b → b < w.heap.size
  eps : ∃ arr : Array Value, w.heap[x.eb]? = some (.cells arr 26 (0, 0)) ∧ ∀ i, i < W → arr[i]? = some (.slice (some ⟨x.er i, 0, none⟩) ns.length ns.length)
  row : ∀ i, i < W → ∃ arr : Array Value, w.heap[x.er i]? = some (.cells arr 3 (0, 0)) ∧ arr.size = ns.length ∧ ∀ n, n < ns.length → arr[n]? = some (.int .i64 (ep i n))
  te : T x.eb ∧ ∀ i, i < W → T (x.er i)
  inj : ∀ i j, i < W → j < W → x.er i = x.er j → i = j
  given : OwnsIn T w 44 3 x.vg gs.length (qB gs)
  notes : OwnsIn T w 77 3 x.vt nts.length (qB nts)
theorem BT.frame {w w' : World} {T : Nat → Prop} {bb pb : Nat} {x : BX} {ns : List Nd} {R W : Nat} {ep : Nat → Nat → Int} {gs : List Gv} {used done : Nat} {nts : List Gv} (h : BT w T bb pb x ns R W ep gs used done nts) (hz : w.heap.size ≤ w'.heap.size) (hf : ∀ b, T b → b < w.heap.size → w'.heap[b]? = w.heap[b]?) : BT w' T bb pb x ns R W ep gs used done nts := by
  have key : ∀ b, T b → w'.heap[b]? = w.heap[b]? := fun b hb => hf b hb (h.tlt b hb)
  refine ⟨(key _ h.troot).trans h.root, h.troot, fun b hb => Nat.lt_of_lt_of_le (h.tlt b hb) hz, ?_, fun i hi => ?_, h.te, h.inj, h.given.frame hf, h.notes.frame hf⟩
  · obtain ⟨arr, h1, h2⟩ := h.eps; exact ⟨arr, (key _ h.te.1).trans h1, h2⟩
  · obtain ⟨arr, h1, h2⟩ := h.row i hi; exact ⟨arr, (key _ (h.te.2 i hi)).trans h1, h2⟩
theorem BT.bw {w w' : World} {T : Nat → Prop} {bb pb : Nat} {x : BX} {ns : List Nd} {R W : Nat} {ep : Nat → Nat → Int} {gs : List Gv} {used done : Nat} {nts : List Gv} (h : BT w T bb pb x ns R W ep gs used done nts) (hb : Bw w w') : BT w' T bb pb x ns R W ep gs used done nts := h.frame hb.size fun b _ hl => Below.block hb b hl
theorem BT.other {w w' : World} {T S : Nat → Prop} {bb pb : Nat} {x : BX} {ns : List Nd} {R W : Nat} {ep : Nat → Nat → Int} {gs : List Gv} {used done : Nat} {nts : List Gv} (h : BT w T bb pb x ns R W ep gs used done nts) (hc : Chg S w w') (hd : ∀ b, T b → ¬ S b) : BT w' T bb pb x ns R W ep gs used done nts := h.frame hc.size fun b hb hl => hc.block b hl (hd b hb)
theorem BT.cells {w : World} {T : Nat → Prop} {bb pb : Nat} {x : BX} {ns : List Nd} {R W : Nat} {ep : Nat → Nat → Int} {gs : List Gv} {used done : Nat} {nts : List Gv} (h : BT w T bb pb x ns R W ep gs used done nts) :
    w.cell? ⟨bb, 0, none⟩ = some (.pointer (some ⟨pb, 0, none⟩)) ∧ w.cell? ⟨bb, 1, none⟩ = some (.slice x.na ns.length x.nc) ∧ w.cell? ⟨bb, 2, none⟩ = some (.int .i64 (R : Int)) ∧ w.cell? ⟨bb, 3, none⟩ = some (.int .i64 (W : Int)) ∧ w.cell? ⟨bb, 4, none⟩ = some (.slice (some ⟨x.eb, 0, none⟩) W x.ec) ∧ w.cell? ⟨bb, 5, none⟩ = some x.vg ∧ w.cell? ⟨bb, 6, none⟩ = some (.int .i64 (used : Int)) ∧ w.cell? ⟨bb, 7, none⟩ = some (.int .i64 (done : Int)) ∧ w.cell? ⟨bb, 8, none⟩ = some x.vt ∧ bb < w.heap.size ∧ ∀ k, w.frozen? ⟨bb, k, none⟩ = false :=
  ⟨qQ h.root rfl, qQ h.root rfl, qQ h.root rfl, qQ h.root rfl, qQ h.root rfl, qQ h.root rfl, qQ h.root rfl, qQ h.root rfl, qQ h.root rfl, (Array.getElem?_eq_some_iff.1 h.root).1, fun k => qZ h.root⟩
theorem BT.epAt {w : World} {T : Nat → Prop} {bb pb : Nat} {x : BX} {ns : List Nd} {R W : Nat} {ep : Nat → Nat → Int} {gs : List Gv} {used done : Nat} {nts : List Gv} (h : BT w T bb pb x ns R W ep gs used done nts) {i n : Nat} (hi : i < W) (hn : n < ns.length) :
    w.cell? ⟨x.eb, i, none⟩ = some (.slice (some ⟨x.er i, 0, none⟩) ns.length ns.length) ∧ w.cell? ⟨x.er i, n, none⟩ = some (.int .i64 (ep i n)) ∧ x.eb < w.heap.size ∧ x.er i < w.heap.size ∧ w.frozen? ⟨x.er i, n, none⟩ = false := by
  obtain ⟨a1, e1, e2⟩ := h.eps
  obtain ⟨a2, r1, _, r2⟩ := h.row i hi
  exact ⟨qQ e1 (e2 i hi), qQ r1 (r2 n hn), (Array.getElem?_eq_some_iff.1 e1).1, (Array.getElem?_eq_some_iff.1 r1).1, qZ r1⟩
theorem BT.setRoot {w : World} {T : Nat → Prop} {bb pb k : Nat} {x x' : BX} {ns : List Nd} {R W : Nat} {ep : Nat → Nat → Int} {gs gs' : List Gv} {used done used' done' : Nat} {nts nts' : List Gv} {v : Value} (h : BT w T bb pb x ns R W ep gs used done nts) (hc : (x.cells pb ns.length R W used done).setIfInBounds k v = x'.cells pb ns.length R W used' done') (h1 : x'.eb = x.eb ∧ x'.er = x.er) (hg : OwnsIn T w 44 3 x'.vg gs'.length (qB gs')) (ht : OwnsIn T w 77 3 x'.vt nts'.length (qB nts')) : BT (w.setCell ⟨bb, k, none⟩ v) T bb pb x' ns R W ep gs' used' done' nts' := by
  have key : ∀ (g : Nat) (arr : Array Value) (ty : TypeId), w.heap[g]? = some (.cells arr ty (0, 0)) → ty ≠ 57 → (w.setCell ⟨bb, k, none⟩ v).heap[g]? = some (.cells arr ty (0, 0)) := fun g arr ty hg hne => qU h.root hg hne
  obtain ⟨q2, q3⟩ := h1
  refine ⟨by rw [← hc]; exact qY h.root, h.troot, fun b hb => by simpa using h.tlt b hb, ?_, fun i hi => ?_, by rw [q2, q3]; exact h.te, by rw [q3]; exact h.inj, hg.set h.root (by decide), ht.set h.root (by decide)⟩
  · rw [q2, q3]
    obtain ⟨arr, e1, e2⟩ := h.eps; exact ⟨arr, key _ _ _ e1 (by decide), e2⟩
  · rw [q3]
    obtain ⟨arr, r1, r2⟩ := h.row i hi; exact ⟨arr, key _ _ _ r1 (by decide), r2⟩
theorem BT.setUsed {w : World} {T : Nat → Prop} {bb pb : Nat} {x : BX} {ns : List Nd} {R W : Nat} {ep : Nat → Nat → Int} {gs : List Gv} {used done : Nat} {nts : List Gv} (h : BT w T bb pb x ns R W ep gs used done nts) : BT (w.setCell ⟨bb, 6, none⟩ (.int .i64 ((used : Int) + 1))) T bb pb x ns R W ep gs (used + 1) done nts := h.setRoot (x' := x) (by unfold BX.cells; simp) ⟨rfl, rfl⟩ h.given h.notes
theorem BT.setDone {w : World} {T : Nat → Prop} {bb pb : Nat} {x : BX} {ns : List Nd} {R W : Nat} {ep : Nat → Nat → Int} {gs : List Gv} {used done : Nat} {nts : List Gv} (h : BT w T bb pb x ns R W ep gs used done nts) : BT (w.setCell ⟨bb, 7, none⟩ (.int .i64 ((done : Int) + 1))) T bb pb x ns R W ep gs used (done + 1) nts := h.setRoot (x' := x) (by unfold BX.cells; simp) ⟨rfl, rfl⟩ h.given h.notes
theorem BT.setEp {w : World} {T : Nat → Prop} {bb pb : Nat} {x : BX} {ns : List Nd} {R W i n : Nat} {ep : Nat → Nat → Int} {gs : List Gv} {used done : Nat} {nts : List Gv} (h : BT w T bb pb x ns R W ep gs used done nts) (hi : i < W) (v : Int) : BT (w.setCell ⟨x.er i, n, none⟩ (.int .i64 v)) T bb pb x ns R W (kY ep i n v) gs used done nts := by
  obtain ⟨ar, hr, hrs, hrc⟩ := h.row i hi
  refine ⟨qU hr h.root (by decide), h.troot, fun b hb => by simpa using h.tlt b hb, ?_, fun j hj => ?_, h.te, h.inj, h.given.set hr (by decide), h.notes.set hr (by decide)⟩
  · obtain ⟨arr, e1, e2⟩ := h.eps; exact ⟨arr, qU hr e1 (by decide), e2⟩
  · by_cases e : j = i
    · subst e
      refine ⟨ar.setIfInBounds n (.int .i64 v), qY hr, by simpa using hrs, fun m hm => ?_⟩
      by_cases e2 : m = n
      · subst e2; rw [Array.getElem?_setIfInBounds_self_of_lt (by omega), zZ]
      · rw [Array.getElem?_setIfInBounds_ne (by omega), yH _ _ (fun hh => e2 hh.2)]; exact hrc m hm
    · obtain ⟨a2, r1, r2, r3⟩ := h.row j hj
      have hne : x.er j ≠ x.er i := fun eq => e (h.inj j i hj hi eq)
      refine ⟨a2, (Below.heap_setCell w ⟨x.er i, n, none⟩ (.int .i64 v) _ hne).trans r1, r2, fun m hm => ?_⟩
      rw [yH _ _ (fun hh => e hh.1)]; exact r3 m hm
def rT (p : PSt) : Nat → Nat → Int := fun i n => if p.cl i n then -1 else p.ep i n
def bJ (evs : List Ev) : List Gv := (evs.filter fun y => y.kind == 2).map fun y => ⟨y.node, y.epoch, y.round⟩
theorem ntL_snoc (evs : List Ev) (y : Ev) : bJ (evs ++ [y]) = bJ evs ++ (if y.kind == 2 then [⟨y.node, y.epoch, y.round⟩] else []) := by
  unfold bJ
  rw [List.filter_append, List.map_append]
  congr 1
  cases h : y.kind == 2 <;> simp [List.filter_cons, h]
structure BR (W0 w : World) (T S : Nat → Prop) (bb pb : Nat) (x : BX) (xp : PX) (ns : List Nd) (R W : Nat) (gs : List Gv) (p : PSt) (st : RSt) : Prop where
  bt : BT w T bb pb x ns R W (rT p) gs st.opened.length st.evs.length (bJ st.evs)
  run : POwn w S pb xp ns R W (zQ ns) p
  kept : Kept ns R W gs p st
  sep : ∀ b, T b → ¬ S b
  nodes : NodesAt W0 x.na ns
  base : Bw W0 w
  low : ∀ b, T b ∨ S b → W0.heap.size ≤ b
def BAt (w : World) (U : Nat → Prop) (bb : Nat) (ns : List Nd) (R W : Nat) (gs : List Gv) (p : PSt) (st : RSt) : Prop := ∃ W0 T S pb x xp, BR W0 w T S bb pb x xp ns R W gs p st ∧ ∀ b, U b ↔ T b ∨ S b
def BAt.After (w w' : World) (U : Nat → Prop) (bb : Nat) (ns : List Nd) (R W : Nat) (gs : List Gv) (p : PSt) (st : RSt) : Prop := ∃ U', BAt w' U' bb ns R W gs p st ∧ Chg U w w' ∧ ∀ b, U' b → U b ∨ w.heap.size ≤ b
theorem BR.bw {W0 w w' : World} {T S : Nat → Prop} {bb pb : Nat} {x : BX} {xp : PX} {ns : List Nd} {R W : Nat} {gs : List Gv} {p : PSt} {st : RSt} (h : BR W0 w T S bb pb x xp ns R W gs p st) (hb : Bw w w') : BR W0 w' T S bb pb x xp ns R W gs p st :=
  ⟨h.bt.bw hb, h.run.bw hb, h.kept, h.sep, h.nodes, h.base.trans hb, h.low⟩
theorem BAt.bw {w w' : World} {U : Nat → Prop} {bb : Nat} {ns : List Nd} {R W : Nat} {gs : List Gv} {p : PSt} {st : RSt} (h : BAt w U bb ns R W gs p st) (hb : Bw w w') : BAt w' U bb ns R W gs p st := by
  obtain ⟨W0, T, S, pb, x, xp, h, hU⟩ := h
  exact ⟨W0, T, S, pb, x, xp, h.bw hb, hU⟩
theorem BAt.same {w w' : World} {U : Nat → Prop} {bb : Nat} {ns : List Nd} {R W : Nat} {gs : List Gv} {p : PSt} {st : RSt} (h : BAt w U bb ns R W gs p st) (hb : Bw w w') : BAt.After w w' U bb ns R W gs p st := ⟨U, h.bw hb, Chg.bw hb, fun _ h => .inl h⟩
theorem BR.moved {W0 w w1 : World} {T S : Nat → Prop} {bb pb : Nat} {x : BX} {xp : PX} {ns : List Nd} {R W : Nat} {gs : List Gv} {p : PSt} {st : RSt} {p' : PSt} (h : BR W0 w T S bb pb x xp ns R W gs p st) (ha : POwn.After w w1 S pb ns R W (zQ ns) p') :
    ∃ S' xp', POwn w1 S' pb xp' ns R W (zQ ns) p' ∧ BT w1 T bb pb x ns R W (rT p) gs st.opened.length st.evs.length (bJ st.evs) ∧ (∀ b, T b → ¬ S' b) ∧ Bw W0 w1 ∧ (∀ b, T b ∨ S' b → W0.heap.size ≤ b) ∧ Chg S w w1 ∧ ∀ b, S' b → S b ∨ w.heap.size ≤ b := by
  obtain ⟨S', xp', h1, h2, h3⟩ := ha
  have hlow : ∀ b, S b → W0.heap.size ≤ b := fun b hb => h.low b (.inr hb)
  have hbw : Bw W0 w1 := Chg.toBw h.base h2 hlow
  refine ⟨S', xp', h1, h.bt.other h2 h.sep, fun b hb hs => ?_, hbw, fun b hb => ?_, h2, h3⟩
  · rcases h3 b hs with h4 | h4
    · exact h.sep b hb h4
    · have := h.bt.tlt b hb; omega
  · rcases hb with hb | hb
    · exact h.low b (.inl hb)
    · rcases h3 b hb with h4 | h4
      · exact hlow b h4
      · exact Nat.le_trans h.base.size h4
set_option maxHeartbeats 1000000 in
theorem pS (c n : Int) (w : World) (h1 : -9223372036854775808 ≤ c) (h2 : c ≤ 9223372036854775807) (hn : 0 < n) (hn2 : n ≤ 9223372036854775807) :
    Calls Try.prog 16 #[.int .i64 c, .int .i64 n] w fun e w' => e = .returned (.int .i64 (jT c n)) ∧ w' = w := by
  have hn0 : (n == 0) = false := by simp; omega
  have hnm : ¬ n = -1 := by omega
  by_cases hc : c < 0
  · have Hp : Hid (jT c n = (-(c + 1)) % n) := qJ (by unfold jT; rw [if_pos hc])
    go_enter Try.func16, Try.ntmps16
    go_wp2
    go_ret
    exact ⟨kN (by rw [qK Hp, ← pick_neg (by omega)]), rfl⟩
  · have Hp : Hid (jT c n = c % n) := qJ (by unfold jT; rw [if_neg hc])
    go_enter Try.func16, Try.ntmps16
    go_wp2
    go_ret
    exact ⟨kN (by rw [qK Hp]), rfl⟩
set_option maxRecDepth 100000 in
set_option maxHeartbeats 4000000 in
theorem ksource_any {U : Nat → Prop} {bb : Nat} {ns : List Nd} {R W : Nat} {gs : List Gv} {p : PSt} {st : RSt} (c : Int) (w : World) (hB : BAt w U bb ns R W gs p st) (h1 : 1 ≤ ns.length) (h8 : ns.length ≤ 8) (h0 : (qV ns 0).kind = 0) (hc1 : -9223372036854775808 ≤ c) (hc2 : c ≤ 9223372036854775807) :
    Calls Try.prog 56 #[.pointer (some ⟨bb, 0, none⟩), .int .i64 c] w fun e w' => ∃ n : Nat, e = .returned (.int .i64 (n : Int)) ∧ n < ns.length ∧ (qV ns n).kind = 0 ∧ Bw w w' := by
  obtain ⟨W0, T, S, pb, x, xp, hR, hU⟩ := hB
  have HR := qJ hR
  obtain ⟨c0, c1, c2, c3, c4, c5, c6, c7, c8, cl, _⟩ := hR.bt.cells
  have hnd := hR.nodes.below hR.base
  clear hR hU
  go_enter Try.func56, Try.ntmps56
  go_wp2_with fail
  go_loopw [5, 6] (fun v i wr => ∃ (k : Nat) (l : List Int), k ≤ ns.length ∧ i = .int .i64 k ∧ Own w wr v l ∧ Bw w wr ∧ l.length ≤ k ∧ (0 < k → 0 < l.length) ∧ ∀ z ∈ l, ∃ n : Nat, z = n ∧ n < ns.length ∧ (qV ns n).kind = 0) (fun _ i _ => ns.length - (intOf i).toNat)
  case atStart => exact ⟨0, [], Nat.zero_le _, rfl, Own.nil _ _, Bw.refl _, Nat.le_refl _, fun h => absurd h (Nat.lt_irrefl _), fun z hz => by simp at hz⟩
  case round =>
    obtain ⟨k, l, hk, rfl, hown, hB, hll, hpos, hall⟩ := hrel
    rename World => wr
    have d1 := ((qX hB).1 _ 1 cl).trans c1
    have dl := Nat.lt_of_lt_of_le cl hB.size
    by_cases hlt : k < ns.length
    · obtain ⟨b, off, hna, hb, hc⟩ := (hnd.below hB) k hlt
      obtain ⟨k0, _⟩ := hc k hlt
      rw [hna] at d1
      have hk1 : (k : Int) < (ns.length : Int) := by omega
      have Hh := qJ (⟨hll, hpos, hall⟩ : _ ∧ _ ∧ _)
      have hll2 : l.length ≤ 8 := by omega
      clear hc hll hpos hall
      cases hkd : ((qV ns k).kind == 0) with
      | true =>
        have Hkd : Hid ((qV ns k).kind = 0) := qJ (by simpa using hkd)
        go_wp2_with (at_builtin; refine mK _ rfl _ _ rfl _ _ l rfl (hown.bw (by repeat first|exact br _|assumption|apply bd|apply bn|apply ba|refine bt ?_ (by assumption))) _ _ (k : Int) rfl (by simp) (by omega) (by repeat first|exact br _|assumption|apply bd|apply bn|apply ba|refine bt ?_ (by assumption)) ?_; intro v' w2 hown1 hB3 hgr1)
        go_roundw
        case rel =>
          obtain ⟨hll, hpos, hall⟩ := qK Hh
          refine ⟨k + 1, l ++ [(k : Int)], by omega, by go_num, hown1, hB3, by simp; omega, fun _ => by simp, fun z hz => ?_⟩
          rcases List.mem_append.1 hz with hz | hz
          · exact hall z hz
          · simp at hz; exact ⟨k, hz, hlt, qK Hkd⟩
        case measure => simp [intOf]; omega
      | false =>
        have Hk0 : Hid (0 < k) := qJ (by
          rcases Nat.eq_zero_or_pos k with e | e
          · subst e; rw [h0] at hkd; simp at hkd
          · exact e)
        go_wp2_with fail
        go_roundw
        case rel =>
          obtain ⟨hll, hpos, hall⟩ := qK Hh
          exact ⟨k + 1, l, by omega, by go_num, hown, hB, by omega, fun _ => hpos (qK Hk0), hall⟩
        case measure => simp [intOf]; omega
    · have hkk : k = ns.length := by omega
      subst hkk
      have hl0 := hpos (by omega)
      obtain ⟨la, lc, rfl, hlc⟩ := hown.slice
      obtain ⟨b1, b2⟩ := jC c (n := (l.length : Int)) (by omega)
      obtain ⟨j, hj⟩ : ∃ j : Nat, jT c (l.length : Int) = j := ⟨(jT c l.length).toNat, by omega⟩
      have hjl : j < l.length := by omega
      obtain ⟨g, off, rfl, hg, hcg⟩ := hown.ints.1 j hjl
      have hcj := hcg j hjl
      have Hall := qJ (hall _ (fM hjl))
      have hj1 : (j : Int) < (l.length : Int) := by omega
      have Hown := qJ hown
      clear hcg hall hpos hown
      go_wp2_with (go_at_call 16; refine (pS c (l.length : Int) _ hc1 hc2 (by omega) (by omega)).mono ?_; rintro e w2 ⟨rfl, rfl⟩; rw [hj])
      go_ret
      obtain ⟨n, e1, e2, e3⟩ := qK Hall
      exact ⟨n, kN (by rw [e1]), e2, e3, hB⟩
end Go.Proofs.Ytfemleimkbjehaa
