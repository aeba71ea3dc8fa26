import Derived.Test.YtfemleimkbjehaaGreatJ16
set_option maxRecDepth 1000000
set_option maxHeartbeats 40000000
set_option linter.unusedVariables false
set_option linter.unusedSimpArgs false
namespace Go.Proofs.YtfemleimkbjehaaGreat
open Go.RowKit
def atN (y : Nd) (W : Nat) (w v : Int) : Int := if y.kind == 5 then v % W else if y.kind == 6 then (v % y.k) % W else w
theorem pworks_any {S : Nat → Prop} {pb : Nat} {x : PX} {ns : List Nd} {R W : Nat} {D : Nat → Nat → Int} {st : PSt} (y : Nd) (wk v : Int) (w : World) (hO : POwn w S pb x ns R W D st) (h6 : y.kind = 6 → 1 ≤ y.k ∧ y.k ≤ 8) :
    Calls Tryz.prog 113 #[.pointer (some ⟨pb, 0, none⟩), .int .i64 wk, .agg #[.int .i64 y.kind, .int .i64 y.a, .int .i64 y.b, .int .i64 y.k, .int .i64 y.m], .int .i64 v] w fun e w' => e = .returned (.int .i64 (atN y W wk v)) ∧ Bw w w' := by
  have c3 := qQ (o := 3) hO.root hO.r3
  have lt0 := hO.slt _ hO.sroot
  have hs := hO.small
  clear hO
  have HR := qJ (fun w => vrest_any v (W : Int) w (by omega) (by omega))
  obtain ⟨kd, a, b, k, m⟩ := y
  simp only at h6 ⊢
  have HA : Hid (atN ⟨kd, a, b, k, m⟩ W wk v = if kd == 5 then v % W else if kd == 6 then (v % k) % W else wk) := qJ rfl
  cases h5 : (kd == 5) with
  | true =>
    have He : Hid (atN ⟨kd, a, b, k, m⟩ W wk v = v % W) := qJ (by rw [qK HA, h5]; rfl)
    go_enter Tryz.func113, Tryz.ntmps113
    go_wp2_with (go_at_call 125; refine ((qK HR) _).mono ?_; rintro e w' ⟨rfl, rfl⟩)
    go_ret
    exact ⟨qF (qK He).symm, (by repeat first|exact br _|assumption|apply bd|apply bn|apply ba|refine bt ?_ (by assumption))⟩
  | false =>
    cases h7 : (kd == 6) with
    | true =>
      have hk := h6 (by simpa using h7)
      have HR1 := qJ (fun w => vrest_any v k w (by omega) (by omega))
      have HR2 := qJ (fun w => vrest_any (v % k) (W : Int) w (by omega) (by omega))
      have He : Hid (atN ⟨kd, a, b, k, m⟩ W wk v = (v % k) % W) := qJ (by rw [qK HA, h5, h7]; rfl)
      clear h6
      go_enter Tryz.func113, Tryz.ntmps113
      go_wp2_with fail
      refine ((qK HR1) _).mono ?_
      rintro e w' ⟨rfl, rfl⟩
      go_wp2_with fail
      refine ((qK HR2) _).mono ?_
      rintro e w' ⟨rfl, rfl⟩
      go_wp2_with fail
      go_ret
      exact ⟨qF (qK He).symm, (by repeat first|exact br _|assumption|apply bd|apply bn|apply ba|refine bt ?_ (by assumption))⟩
    | false =>
      have He : Hid (atN ⟨kd, a, b, k, m⟩ W wk v = wk) := qJ (by rw [qK HA, h5, h7]; rfl)
      clear h6
      go_enter Tryz.func113, Tryz.ntmps113
      go_wp2_with fail
      go_ret
      exact ⟨qF (qK He).symm, (by repeat first|exact br _|assumption|apply bd|apply bn|apply ba|refine bt ?_ (by assumption))⟩
def vC (L W : Nat) (w n : Int) : Int := if xZ W w && kM L n then 0 else 3
def pwaitR (L W : Nat) (wt : Nat → Nat → List Gv) (w n : Int) : List Gv := if xZ W w && kM L n then wt w.toNat n.toNat else []
def OwnM (W w : World) (v : Value) (l : List Gv) : Prop := w.ownsRow W.heap.size 62 3 v l.length (qH l)
theorem yY (l : List Gv) : (qH l).length = l.length * 3 := by
  induction l with
  | nil => rfl
  | cons x l ih => simp only [qH, List.flatMap_cons, List.length_append, List.length_cons] at ih ⊢; rw [ih]; simp [Gv.cells]; omega
theorem gvs_one (a : List Gv) : ∀ u ∈ qH a, u.oneCell' = true := by
  intro u hu
  simp only [qH, List.mem_flatMap] at hu
  obtain ⟨p, _, hp⟩ := hu
  exact gv_one p u hp
theorem pwaiting_any {S : Nat → Prop} {pb : Nat} {x : PX} {ns : List Nd} {R W : Nat} {D : Nat → Nat → Int} {st : PSt} (wk n : Int) (w : World) (hO : POwn w S pb x ns R W D st) :
    Calls Tryz.prog 62 #[.pointer (some ⟨pb, 0, none⟩), .int .i64 wk, .int .i64 n] w fun e w' => ∃ v, e = .returned (.tuple #[v, .int .i64 (vC ns.length W wk n)]) ∧ OwnM w w' v (pwaitR ns.length W st.wt wk n) ∧ Bw w w' := by
  have Hw := qJ (fun w' (h : Bw w w') => pisWorker_any wk w' (hO.bw h))
  obtain ⟨na, nc, hvn, hnd⟩ := hO.ns
  have Hk := qJ (fun w' => yJ na ns.length nc (R : Int) n w')
  have c0 := qQ (o := 0) hO.root (hvn ▸ hO.r0)
  have c1 := qQ (o := 1) hO.root hO.r1
  have lt0 := hO.slt _ hO.sroot
  have HE : Hid (vC ns.length W wk n = if xZ W wk && kM ns.length n then 0 else 3) := qJ rfl
  have HL : Hid (pwaitR ns.length W st.wt wk n = if xZ W wk && kM ns.length n then st.wt wk.toNat n.toNat else []) := qJ rfl
  cases hk1 : xZ W wk with
  | false =>
    have He : Hid (vC ns.length W wk n = 3) := qJ (by rw [qK HE, hk1]; rfl)
    have Hl : Hid (pwaitR ns.length W st.wt wk n = []) := qJ (by rw [qK HL, hk1]; rfl)
    rw [hk1] at Hw
    clear hO hnd hk1
    go_enter Tryz.func62, Tryz.ntmps62
    go_wp2_with (go_at_call 91; refine ((qK Hw) _ (by repeat first|exact br _|assumption|apply bd|apply bn|apply ba|refine bt ?_ (by assumption))).mono ?_; rintro e w' ⟨rfl, rfl⟩)
    go_ret2
    exact ⟨_, by rw [qK He]; rfl, by rw [qK Hl]; exact World.ownsRow_nil _ _ _ _, (by repeat first|exact br _|assumption|apply bd|apply bn|apply ba|refine bt ?_ (by assumption))⟩
  | true =>
    rw [hk1] at Hw
    cases hk2 : kM ns.length n with
    | false =>
      have He : Hid (vC ns.length W wk n = 3) := qJ (by rw [qK HE, hk1, hk2]; rfl)
      have Hl : Hid (pwaitR ns.length W st.wt wk n = []) := qJ (by rw [qK HL, hk1, hk2]; rfl)
      rw [hk2] at Hk
      clear hO hnd hk1 hk2
      go_enter Tryz.func62, Tryz.ntmps62
      go_wp2_with (first | (go_at_call 91; refine ((qK Hw) _ (by repeat first|exact br _|assumption|apply bd|apply bn|apply ba|refine bt ?_ (by assumption))).mono ?_; rintro e w' ⟨rfl, rfl⟩) | (go_at_call 92; refine ((qK Hk) _).mono ?_; rintro e w2 ⟨rfl, hbl⟩))
      go_ret2
      exact ⟨_, by rw [qK He]; rfl, by rw [qK Hl]; exact World.ownsRow_nil _ _ _ _, (by repeat first|exact br _|assumption|apply bd|apply bn|apply ba|refine bt ?_ (by assumption))⟩
    | true =>
      obtain ⟨i, rfl, hi⟩ := isWk_iff.1 hk1
      obtain ⟨b1, b2⟩ := isNodeB_iff.1 hk2
      obtain ⟨m, rfl⟩ := Int.eq_ofNat_of_zero_le b1
      have hm : m < ns.length := by omega
      have h8 := hO.small
      have hfw := hO.few.1 i m
      have He : Hid (vC ns.length W (i : Int) (m : Int) = 0) := qJ (by rw [qK HE, hk1, hk2]; rfl)
      have Hl : Hid (pwaitR ns.length W st.wt (i : Int) (m : Int) = st.wt i m) := qJ (by rw [qK HL, hk1, hk2]; rfl)
      rw [hk2] at Hk
      obtain ⟨v, hv1, hv2⟩ := hO.row.wait i m hi hm
      obtain ⟨va, vc, hve⟩ : ∃ va vc, v = .slice va (st.wt i m).length vc := ⟨_, _, qV hv2.1⟩
      subst hve
      have Hc2 := qJ (fun (w' : World) (h : Bw w w') => qQ (o := i * 3684 + 16 + m) (hO.bw h).work hv1)
      have Hc3 := qJ (fun (w' : World) (h : Bw w w') => qQ (o := 3) (hO.bw h).root hO.r3)
      have Hlt := qJ (fun (w' : World) (h : Bw w w') => (hO.bw h).slt _ hO.swork)
      have Hlp := qJ (fun (w' : World) (h : Bw w w') => (hO.bw h).slt _ hO.sroot)
      have Hca := qJ (fun (w' : World) (h : Bw w w') => jC (qX hv2.1 fun g hg => Below.block h g hg))
      have hi1 : (i : Int) < (W : Int) := by omega
      have hm1 : (m : Int) < 8 := by omega
      generalize st.wt i m = ms at *
      clear hO hnd hk1 hk2 b1 b2 hv1 hv2
      go_enter Tryz.func62, Tryz.ntmps62
      go_wp2_with (first | (go_at_call 91; refine ((qK Hw) _ (by repeat first|exact br _|assumption|apply bd|apply bn|apply ba|refine bt ?_ (by assumption))).mono ?_; rintro e w' ⟨rfl, rfl⟩) | (go_at_call 92; refine ((qK Hk) _).mono ?_; rintro e w2 ⟨rfl, hbl⟩; have q1 := (qK Hc2) w2 hbl; have q2 := (qK Hc3) w2 hbl; have q3 := (qK Hlt) w2 hbl; have q4 := (qK Hlp) w2 hbl) | (at_builtin; refine appG w2 rfl _ _ _ 62 rfl _ 3 24 Tryz.infoMessage Tryz.underlying58 rfl (by decide) w2.heap.size (.slice none 0 0) 0 [] rfl (World.ownsRow_nil _ _ _ _) _ ms.length _ (qH ms) rfl (yY ms) ((qK Hca) w2 hbl) (gvs_one ms) (by omega) (by omega) (Nat.le_refl _) ?_; intro v3 w3 ho3 hg3 hl3))
      go_ret2
      rw [Nat.zero_add, List.nil_append] at ho3
      exact ⟨_, by rw [qK He]; rfl, by rw [qK Hl]; exact qM ho3 (Bw.size hbl), hbl.trans (bw_grown hg3)⟩
def pviewE (W : Nat) (w : Int) : Int := if xZ W w then 0 else 3
def pviewR (W : Nat) (tb : Nat → Nat → Int) (w : Int) : List Pt := if xZ W w then vN (tb w.toNat) 4 8 else []
theorem POwn.bel {w : World} {S : Nat → Prop} {pb : Nat} {x : PX} {ns : List Nd} {R W : Nat} {D : Nat → Nat → Int} {st : PSt} (h : POwn w S pb x ns R W D st) {i : Nat} (hi : i < W) : BelAt w x.wb (i * 3684 + 3296) (st.tb i) :=
  ⟨h.slt _ h.swork, fun k hk => qQ h.work (h.row.bel i hi k hk)⟩
theorem pview_any {S : Nat → Prop} {pb : Nat} {x : PX} {ns : List Nd} {R W : Nat} {D : Nat → Nat → Int} {st : PSt} (wk : Int) (w : World) (hO : POwn w S pb x ns R W D st) :
    Calls Tryz.prog 64 #[.pointer (some ⟨pb, 0, none⟩), .int .i64 wk] w fun e w' => ∃ v, e = .returned (.tuple #[v, .int .i64 (pviewE W wk)]) ∧ OwnP w w' v (pviewR W st.tb wk) ∧ Bw w w' := by
  have Hw := qJ (fun w' (h : Bw w w') => pisWorker_any wk w' (hO.bw h))
  have HE : Hid (pviewE W wk = if xZ W wk then 0 else 3) := qJ rfl
  have HL : Hid (pviewR W st.tb wk = if xZ W wk then vN (st.tb wk.toNat) 4 8 else []) := qJ rfl
  cases hk1 : xZ W wk with
  | false =>
    have He : Hid (pviewE W wk = 3) := qJ (by rw [qK HE, hk1]; rfl)
    have Hl : Hid (pviewR W st.tb wk = []) := qJ (by rw [qK HL, hk1]; rfl)
    rw [hk1] at Hw
    clear hO hk1
    go_enter Tryz.func64, Tryz.ntmps64
    go_wp2_with (go_at_call 91; refine ((qK Hw) _ (by repeat first|exact br _|assumption|apply bd|apply bn|apply ba|refine bt ?_ (by assumption))).mono ?_; rintro e w' ⟨rfl, rfl⟩)
    go_ret2
    exact ⟨_, by rw [qK He]; rfl, by rw [qK Hl]; exact World.ownsRow_nil _ _ _ _, (by repeat first|exact br _|assumption|apply bd|apply bn|apply ba|refine bt ?_ (by assumption))⟩
  | true =>
    obtain ⟨i, rfl, hi⟩ := isWk_iff.1 hk1
    have He : Hid (pviewE W (i : Int) = 0) := qJ (by rw [qK HE, hk1]; rfl)
    have Hl : Hid (pviewR W st.tb (i : Int) = vN (st.tb i) 4 8) := qJ (by rw [qK HL, hk1]; rfl)
    rw [hk1] at Hw
    have c3 := qQ (o := 3) hO.root hO.r3
    have lt0 := hO.slt _ hO.sroot
    have lt1 := hO.slt _ hO.swork
    have Hb := qJ (ppoints_any _ _ _ w (hO.bel hi))
    have hi1 : (i : Int) < (W : Int) := by omega
    clear hO hk1
    go_enter Tryz.func64, Tryz.ntmps64
    go_wp2_with (first | (go_at_call 91; refine ((qK Hw) _ (by repeat first|exact br _|assumption|apply bd|apply bn|apply ba|refine bt ?_ (by assumption))).mono ?_; rintro e w' ⟨rfl, rfl⟩) | (go_at_call 93; refine (qK Hb).mono ?_; rintro e w2 ⟨v, rfl, hov, hbl⟩))
    go_ret2
    exact ⟨_, by rw [qK He]; rfl, by rw [qK Hl]; exact hov, hbl⟩
theorem tabAt_in {S : Nat → Prop} {w : World} {v : Value} {n m : Nat} {f : Nat → Nat → Int} (h : TabIn S w v n m f) (hm : 0 < m) : TabAt w (kY v) n m f := by
  obtain ⟨vs, h1, h2⟩ := h
  intro i hi
  obtain ⟨g, e, hl, hc⟩ := qB h1.1 (by omega)
  obtain ⟨u, eu, h3⟩ := h2 i hi
  obtain ⟨g2, e2, hl2, hc2⟩ := qB h3.1 hm
  have hv := qV h3.1
  rw [e2] at hv
  refine ⟨g, 0, e, hl, g2, 0, capV u, ?_, hl2, fun j hj => ?_⟩
  · rw [Nat.zero_add, ← hv]; exact hc i u eu
  · rw [Nat.zero_add]; exact hc2 j _ (by simp [hj])
theorem ptsAt_own {w : World} {base : Nat} {v : Value} {ty : TypeId} {ps : List Pt} (h : w.ownsRow base ty 5 v ps.length (qR ps)) : PtsAt w (kY v) ps := by
  intro i hi
  obtain ⟨g, e, hl, hc⟩ := qB h (by omega)
  refine ⟨g, 0, e, hl, fun j hj => ?_⟩
  simp only [Nat.zero_add]
  have q : ∀ f, f < 5 → ∀ u, (Pt.cells (jN ps j))[f]? = some u → w.cell? ⟨g, j * 5 + f, none⟩ = some u := fun f hf u hu => hc _ _ ((vL (f := Pt.cells) (d := ⟨0, false, 0, 0, 0⟩) (fun _ => rfl) ps j hj f hf).trans hu)
  exact ⟨q 0 (by omega) _ rfl, q 1 (by omega) _ rfl, q 2 (by omega) _ rfl, q 3 (by omega) _ rfl, q 4 (by omega) _ rfl⟩
def pfrR (ns : List Nd) (R W : Nat) (D : Nat → Nat → Int) (tb : Nat → Nat → Int) (w n : Int) : List Tm := if xZ W w && kM ns.length n then lstE (inT (jB ns D R (vN (tb w.toNat) 4 8) n.toNat (vN (tb w.toNat) 4 8).length)) 6 else []
theorem pfront_any {S : Nat → Prop} {pb : Nat} {x : PX} {ns : List Nd} {R W : Nat} {D : Nat → Nat → Int} {st : PSt} (wk n : Int) (w : World) (hO : POwn w S pb x ns R W D st) (hD : ∀ a b, D a b ≤ 1000) (hD1 : ∀ a b, -1 ≤ D a b) (hok : ∀ i, i < W → ∀ p ∈ vN (st.tb i) 4 8, PtOk ns.length R p) :
    Calls Tryz.prog 67 #[.pointer (some ⟨pb, 0, none⟩), .int .i64 wk, .int .i64 n] w fun e w' => ∃ v, e = .returned (.tuple #[v, .int .i64 (vC ns.length W wk n)]) ∧ OwnT w w' v (pfrR ns R W D st.tb wk n) ∧ Bw w w' := by
  have Hw := qJ (fun w' (h : Bw w w') => pisWorker_any wk w' (hO.bw h))
  obtain ⟨na, nc, hvn, hnd⟩ := hO.ns
  have Hk := qJ (fun w' => yJ na ns.length nc (R : Int) n w')
  have c0 := qQ (o := 0) hO.root (hvn ▸ hO.r0)
  have c1 := qQ (o := 1) hO.root hO.r1
  have lt0 := hO.slt _ hO.sroot
  have HE : Hid (vC ns.length W wk n = if xZ W wk && kM ns.length n then 0 else 3) := qJ rfl
  have HL : Hid (pfrR ns R W D st.tb wk n = if xZ W wk && kM ns.length n then lstE (inT (jB ns D R (vN (st.tb wk.toNat) 4 8) n.toNat (vN (st.tb wk.toNat) 4 8).length)) 6 else []) := qJ rfl
  cases hk1 : xZ W wk with
  | false =>
    have He : Hid (vC ns.length W wk n = 3) := qJ (by rw [qK HE, hk1]; rfl)
    have Hl : Hid (pfrR ns R W D st.tb wk n = []) := qJ (by rw [qK HL, hk1]; rfl)
    rw [hk1] at Hw
    clear hO hnd hk1 hD hD1
    go_enter Tryz.func67, Tryz.ntmps67
    go_wp2_with (go_at_call 91; refine ((qK Hw) _ (by repeat first|exact br _|assumption|apply bd|apply bn|apply ba|refine bt ?_ (by assumption))).mono ?_; rintro e w' ⟨rfl, rfl⟩)
    go_ret2
    exact ⟨_, by rw [qK He]; rfl, by rw [qK Hl]; exact World.ownsRow_nil _ _ _ _, (by repeat first|exact br _|assumption|apply bd|apply bn|apply ba|refine bt ?_ (by assumption))⟩
  | true =>
    rw [hk1] at Hw
    cases hk2 : kM ns.length n with
    | false =>
      have He : Hid (vC ns.length W wk n = 3) := qJ (by rw [qK HE, hk1, hk2]; rfl)
      have Hl : Hid (pfrR ns R W D st.tb wk n = []) := qJ (by rw [qK HL, hk1, hk2]; rfl)
      rw [hk2] at Hk
      clear hO hnd hk1 hk2 hD hD1
      go_enter Tryz.func67, Tryz.ntmps67
      go_wp2_with (first | (go_at_call 91; refine ((qK Hw) _ (by repeat first|exact br _|assumption|apply bd|apply bn|apply ba|refine bt ?_ (by assumption))).mono ?_; rintro e w' ⟨rfl, rfl⟩) | (go_at_call 92; refine ((qK Hk) _).mono ?_; rintro e w2 ⟨rfl, hbl⟩))
      go_ret2
      exact ⟨_, by rw [qK He]; rfl, by rw [qK Hl]; exact World.ownsRow_nil _ _ _ _, (by repeat first|exact br _|assumption|apply bd|apply bn|apply ba|refine bt ?_ (by assumption))⟩
    | true =>
      obtain ⟨i, rfl, hi⟩ := isWk_iff.1 hk1
      obtain ⟨b1, b2⟩ := isNodeB_iff.1 hk2
      obtain ⟨m, rfl⟩ := Int.eq_ofNat_of_zero_le b1
      have hm : m < ns.length := by omega
      have h8 := hO.small
      have He : Hid (vC ns.length W (i : Int) (m : Int) = 0) := qJ (by rw [qK HE, hk1, hk2]; rfl)
      have Hl : Hid (pfrR ns R W D st.tb (i : Int) (m : Int) = lstE (inT (jB ns D R (vN (st.tb i) 4 8) m (vN (st.tb i) 4 8).length)) 6) := qJ (by rw [qK HL, hk1, hk2, Bool.and_self, if_pos rfl, Int.toNat_natCast, Int.toNat_natCast])
      rw [hk2] at Hk
      have hoki := hok i hi
      have hle := vN_len (st.tb i) 4 8
      have hdt := tabAt_in hO.dist (by omega)
      obtain ⟨da, dc, hdv⟩ : ∃ da dc, x.vd = .slice da ns.length dc := by
        obtain ⟨vs, h, _⟩ := hO.dist
        exact ⟨_, _, qV h.1⟩
      rw [hdv] at hdt
      have hdt' : TabAt w da ns.length ns.length D := hdt
      have Hb := qJ (fun (w' : World) (h : Bw w w') => ppoints_any _ _ _ w' ((hO.bw h).bel hi))
      have Hc0 := qJ (fun (w' : World) (h : Bw w w') => qQ (o := 0) (hO.bw h).root (hvn ▸ hO.r0))
      have Hc1 := qJ (fun (w' : World) (h : Bw w w') => qQ (o := 1) (hO.bw h).root hO.r1)
      have Hc2 := qJ (fun (w' : World) (h : Bw w w') => qQ (o := 2) (hO.bw h).root (hdv ▸ hO.r2))
      have Hc3 := qJ (fun (w' : World) (h : Bw w w') => qQ (o := 3) (hO.bw h).root hO.r3)
      have Hlt := qJ (fun (w' : World) (h : Bw w w') => (hO.bw h).slt _ hO.swork)
      have Hlp := qJ (fun (w' : World) (h : Bw w w') => (hO.bw h).slt _ hO.sroot)
      have Hf := qJ (fun (w' : World) (h : Bw w w') (la : Option Addr) (lc : Nat) (hps : PtsAt w' la (vN (st.tb i) 4 8)) => pfrontier_any (nc := nc) (dc := dc) (lc := lc) (vN (st.tb i) 4 8) m w' (hnd.below h) (hdt'.below h) hps h8.1 h8.2.1 hm hD hD1 hoki (by omega))
      generalize vN (st.tb i) 4 8 = ps at *
      have hi1 : (i : Int) < (W : Int) := by omega
      clear hO hnd hk1 hk2 b1 b2 hD hD1 hdt hdt' hok hoki
      go_enter Tryz.func67, Tryz.ntmps67
      go_wp2_with (first | (go_at_call 91; refine ((qK Hw) _ (by repeat first|exact br _|assumption|apply bd|apply bn|apply ba|refine bt ?_ (by assumption))).mono ?_; rintro e w' ⟨rfl, rfl⟩) | (go_at_call 92; refine ((qK Hk) _).mono ?_; rintro e w2 ⟨rfl, hbl⟩; have q2 := (qK Hc3) w2 hbl; have q3 := (qK Hlt) w2 hbl; have q4 := (qK Hlp) w2 hbl) | (go_at_call 93; refine ((qK Hb) _ hbl).mono ?_; rintro e w3 ⟨v, rfl, hov, hb3⟩; obtain ⟨va, vc, hve⟩ : ∃ va vc, v = .slice va ps.length vc := ⟨_, _, qV hov⟩; subst hve; have hbl3 := hbl.trans hb3; have p0 := (qK Hc0) w3 hbl3; have p1 := (qK Hc1) w3 hbl3; have p2 := (qK Hc2) w3 hbl3; have p4 := (qK Hlp) w3 hbl3))
      have Hps := qJ (show PtsAt w3 va ps from ptsAt_own hov)
      go_region_held3 (fun w' => w'.cell? ⟨pb, 0, none⟩ = some (.slice na ns.length nc) ∧ w'.cell? ⟨pb, 1, none⟩ = some (.int .i64 (R : Int)) ∧ w'.cell? ⟨pb, 2, none⟩ = some (.slice da ns.length dc)) (go_keep) ((go_at_call 94; refine ((qK Hf) _ (hbl3.trans (show Bw w3 _ from (by repeat first|exact br _|assumption|apply bd|apply bn|apply ba|refine bt ?_ (by assumption)))) va vc ((qK Hps).below (by repeat first|exact br _|assumption|apply bd|apply bn|apply ba|refine bt ?_ (by assumption)))).mono ?_; rintro e w4 ⟨u, rfl, hou, hb4⟩; have hb5 : Bw w3 w4 := (by repeat first|exact br _|assumption|apply bd|apply bn|apply ba|refine bt ?_ (by assumption)); have s0 := (qK Hc0) w4 (hbl3.trans hb5); have s1 := (qK Hc1) w4 (hbl3.trans hb5); have s2 := (qK Hc2) w4 (hbl3.trans hb5)))
      all_goals (
        go_wp2_with fail
        go_ret2
        exact ⟨_, by rw [qK He]; rfl, by rw [qK Hl]; exact hou.weaken (hbl3.trans (show Bw w3 _ from (by repeat first|exact br _|assumption|apply bd|apply bn|apply ba|refine bt ?_ (by assumption)))), hbl3.trans hb5⟩)
def kF {α : Type} (f : Nat → Nat → α) (i n : Nat) (v : α) : Nat → Nat → α := fun a b => if a = i ∧ b = n then v else f a b
def upd1 {α : Type} (f : Nat → α) (i : Nat) (v : α) : Nat → α := fun a => if a = i then v else f a
theorem yF {α : Type} (f : Nat → Nat → α) (i n : Nat) (v : α) : kF f i n v i n = v := by simp [kF]
theorem upd2_ne {α : Type} (f : Nat → Nat → α) {i n a b : Nat} (v : α) (h : ¬ (a = i ∧ b = n)) : kF f i n v a b = f a b := by simp [kF, h]
theorem pos_ne {i a r s : Nat} (hr : r < 3684) (hs : s < 3684) (h : i ≠ a ∨ r ≠ s) : i * 3684 + r ≠ a * 3684 + s := by
  rcases Nat.lt_trichotomy i a with h1 | h1 | h1
  · have := Nat.mul_le_mul_right 3684 (show i + 1 ≤ a from h1)
    rw [Nat.add_mul] at this
    omega
  · subst h1; omega
  · have := Nat.mul_le_mul_right 3684 (show a + 1 ≤ i from h1)
    rw [Nat.add_mul] at this
    omega
theorem PRow.plain {w : World} {S : Nat → Prop} {warr arr' : Array Value} {L W : Nat} {st st' : PSt} {Q : Nat → Prop} (h : PRow w S warr L W st) (hL : L ≤ 8) (hs : arr'.size = warr.size) (hQ : ∀ p, ¬ Q p → arr'[p]? = warr[p]?) (hQ2 : ∀ p v, Q p → arr'[p]? = some v → Value.ownBlock v = none)
    (hq : ∀ i, i < W → (∀ n, n < 16 → ¬ Q (i * 3684 + 16 + n)) ∧ ∀ j, j < 4 → ¬ Q (i * 3684 + 3680 + j))
    (hsrc : ∀ i n, i < W → n < L → arr'[i * 3684 + n * 2]? = some (.int .i64 (st'.ep i n)) ∧ arr'[i * 3684 + n * 2 + 1]? = some (.bool (st'.cl i n)))
    (htal : ∀ i n, i < W → n < L → ∀ k, k < 408 → arr'[i * 3684 + 32 + n * 408 + k]? = some (st'.tl i n k))
    (hbel : ∀ i, i < W → ∀ k, k < 384 → arr'[i * 3684 + 3296 + k]? = some (.int .i64 (st'.tb i k)))
    (hw : st'.wt = st.wt) (hb : st'.lb = st.lb) (hy : st'.wy = st.wy) : PRow w S arr' L W st' := by
  have key : ∀ (p : Nat) (v : Value), arr'[p]? = some v → Value.ownBlock v ≠ none → warr[p]? = some v := by
    intro p v hp hv
    by_cases e : Q p
    · exact absurd (hQ2 p v e hp) hv
    · rw [← hQ p e]; exact hp
  refine ⟨by rw [hs]; exact h.size, hsrc, fun i n hi hn => ?_, fun i n hi hn => ?_, htal, hbel, fun i j hi hj => ?_, fun p b v hl hp hv => h.own p b v hl (key p v hp (by rw [hv]; simp)) hv, fun p q' b v u' hl hl' hp hq' hv hu' => h.inj p q' b v u' hl hl' (key p v hp (by rw [hv]; simp)) (key q' u' hq' (by rw [hu']; simp)) hv hu'⟩
  · obtain ⟨v, e, h1⟩ := h.wait i n hi hn
    rw [hw]
    exact ⟨v, by rw [hQ _ ((hq i hi).1 n (by omega))]; exact e, h1⟩
  · obtain ⟨v, e, h1⟩ := h.letb i n hi hn
    rw [hb]
    exact ⟨v, by rw [hQ _ (by have := (hq i hi).1 (24 - 16 + n) (by omega); rw [show i * 3684 + 24 + n = i * 3684 + 16 + (24 - 16 + n) by omega]; exact this)]; exact e, h1⟩
  · obtain ⟨v, e, h1⟩ := h.way i j hi hj
    rw [hy]
    exact ⟨v, by rw [hQ _ ((hq i hi).2 j hj)]; exact e, h1⟩
theorem set_plain {warr : Array Value} {q : Nat} {u : Value} (hu : Value.ownBlock u = none) : ∀ p v, p = q → (warr.setIfInBounds q u)[p]? = some v → Value.ownBlock v = none := by
  intro p v e hp
  subst e
  rcases Nat.lt_or_ge p warr.size with h1 | h1
  · rw [Array.getElem?_setIfInBounds_self_of_lt h1] at hp
    simp at hp; subst hp; exact hu
  · rw [Array.getElem?_eq_none (by simpa using h1)] at hp; cases hp
theorem PRow.setEp {w : World} {S : Nat → Prop} {warr : Array Value} {L W i m : Nat} {st : PSt} (h : PRow w S warr L W st) (hL : L ≤ 8) (hi : i < W) (hm : m < L) (v : Int) : PRow w S (warr.setIfInBounds (i * 3684 + m * 2) (.int .i64 v)) L W { st with ep := kF st.ep i m v } := by
  have hz := h.size
  refine h.plain (Q := fun p => p = i * 3684 + m * 2) hL (by simp) (fun p hp => Array.getElem?_setIfInBounds_ne (Ne.symm hp)) (set_plain rfl) (fun a ha => ⟨fun n hn e => by omega, fun j hj e => by omega⟩) (fun a b ha hb => ⟨?_, ?_⟩) (fun a b ha hb k hk => ?_) (fun a ha k hk => ?_) rfl rfl rfl
  · by_cases e : a = i ∧ b = m
    · obtain ⟨rfl, rfl⟩ := e
      rw [Array.getElem?_setIfInBounds_self_of_lt (by omega)]; simp [kF]
    · rw [Array.getElem?_setIfInBounds_ne (by omega), (h.src a b ha hb).1]; simp [kF, e]
  · rw [Array.getElem?_setIfInBounds_ne (by omega)]; exact (h.src a b ha hb).2
  · rw [Array.getElem?_setIfInBounds_ne (by have := pos_ne (i := i) (a := a) (r := m * 2) (s := 32 + b * 408 + k) (by omega) (by omega) (by omega); omega)]; exact h.tal a b ha hb k hk
  · rw [Array.getElem?_setIfInBounds_ne (by omega)]; exact h.bel a ha k hk
theorem PRow.setCl {w : World} {S : Nat → Prop} {warr : Array Value} {L W i m : Nat} {st : PSt} (h : PRow w S warr L W st) (hL : L ≤ 8) (hi : i < W) (hm : m < L) (v : Bool) : PRow w S (warr.setIfInBounds (i * 3684 + m * 2 + 1) (.bool v)) L W { st with cl := kF st.cl i m v } := by
  have hz := h.size
  refine h.plain (Q := fun p => p = i * 3684 + m * 2 + 1) hL (by simp) (fun p hp => Array.getElem?_setIfInBounds_ne (Ne.symm hp)) (set_plain rfl) (fun a ha => ⟨fun n hn e => by omega, fun j hj e => by omega⟩) (fun a b ha hb => ⟨?_, ?_⟩) (fun a b ha hb k hk => ?_) (fun a ha k hk => ?_) rfl rfl rfl
  · rw [Array.getElem?_setIfInBounds_ne (by omega)]; exact (h.src a b ha hb).1
  · by_cases e : a = i ∧ b = m
    · obtain ⟨rfl, rfl⟩ := e
      rw [Array.getElem?_setIfInBounds_self_of_lt (by omega)]; simp [kF]
    · rw [Array.getElem?_setIfInBounds_ne (by omega), (h.src a b ha hb).2]; simp [kF, e]
  · rw [Array.getElem?_setIfInBounds_ne (by have := pos_ne (i := i) (a := a) (r := m * 2 + 1) (s := 32 + b * 408 + k) (by omega) (by omega) (by omega); omega)]; exact h.tal a b ha hb k hk
  · rw [Array.getElem?_setIfInBounds_ne (by omega)]; exact h.bel a ha k hk
theorem PRow.setBel {w : World} {S : Nat → Prop} {warr arr' : Array Value} {L W i : Nat} {st : PSt} {T : Nat → Int} (h : PRow w S warr L W st) (hL : L ≤ 8) (hi : i < W) (hs : arr'.size = warr.size) (ho : ∀ k, (k < i * 3684 + 3296 ∨ i * 3684 + 3296 + 384 ≤ k) → arr'[k]? = warr[k]?) (hT : ∀ k, k < 384 → arr'[i * 3684 + 3296 + k]? = some (.int .i64 (T k))) : PRow w S arr' L W { st with tb := upd1 st.tb i T } := by
  refine h.plain (Q := fun p => i * 3684 + 3296 ≤ p ∧ p < i * 3684 + 3296 + 384) hL hs (fun p hp => ho p (by omega)) (fun p v hp hv => ?_) (fun a ha => ⟨fun n hn e => by omega, fun j hj e => by omega⟩) (fun a b ha hb => ⟨?_, ?_⟩) (fun a b ha hb k hk => ?_) (fun a ha k hk => ?_) rfl rfl rfl
  · have h1 := hT (p - (i * 3684 + 3296)) (by omega)
    rw [show i * 3684 + 3296 + (p - (i * 3684 + 3296)) = p by omega, hv] at h1
    simp at h1; subst h1; rfl
  · rw [ho _ (by omega)]; exact (h.src a b ha hb).1
  · rw [ho _ (by omega)]; exact (h.src a b ha hb).2
  · rw [ho _ (by by_cases e : a = i; · subst e; omega
                 · rcases Nat.lt_or_gt_of_ne e with h1 | h1
                   · have := Nat.mul_le_mul_right 3684 (show a + 1 ≤ i from h1); rw [Nat.add_mul] at this; omega
                   · have := Nat.mul_le_mul_right 3684 (show i + 1 ≤ a from h1); rw [Nat.add_mul] at this; omega)]; exact h.tal a b ha hb k hk
  · by_cases e : a = i
    · subst e; simp only [upd1, if_pos]; exact hT k hk
    · simp only [upd1, if_neg e]; rw [ho _ (by omega)]; exact h.bel a ha k hk
theorem PRow.otherB {w wa w4 : World} {S : Nat → Prop} {warr : Array Value} {L W wb q p b : Nat} {st : PSt} {v v4 u : Value} (h : PRow w S warr L W st) (hslt : ∀ b, S b → b < w.heap.size) (hb : Bw w wa) (hg : wa.grownBy w4 v.ownBlock) (hq : warr[q]? = some v)
    (hp : warr[p]? = some u) (hpq : p ≠ q) (hpl : p < W * 3684) (hql : q < W * 3684) (hbb : Value.ownBlock u = some b) (hne : b ≠ wb) : (w4.setCell ⟨wb, q, none⟩ v4).heap[b]? = w.heap[b]? := by
  have hlt := hslt b (h.own p b u hpl hp hbb)
  exact (Below.heap_setCell w4 ⟨wb, q, none⟩ v4 b hne).trans ((hg.block b (Nat.lt_of_lt_of_le hlt hb.size) (fun e => hpq (h.inj p q b u v hpl hql hp hq hbb e.symm))).trans (Below.block hb b hlt))
theorem PRow.other {w wa w4 : World} {S : Nat → Prop} {warr : Array Value} {L W wb q p g' m sz : Nat} {st : PSt} {v v4 u : Value} {ty : TypeId} {ys : List Value} (h : PRow w S warr L W st) (hwk : w.heap[wb]? = some (.cells warr 147 (0, 0))) (hslt : ∀ b, S b → b < w.heap.size) (hb : Bw w wa) (hg : wa.grownBy w4 v.ownBlock) (hq : warr[q]? = some v)
    (hp : warr[p]? = some u) (hpq : p ≠ q) (hpl : p < W * 3684) (hql : q < W * 3684) (ho : OwnsIn S w ty sz u m ys) (ht : ty ≠ 147) : OwnsIn (fun b => S b ∨ b = g') (w4.setCell ⟨wb, q, none⟩ v4) ty sz u m ys := by
  refine ⟨kK ho.1 fun b hbb => ?_, fun b hbb => .inl (ho.2 b hbb)⟩
  refine h.otherB hslt hb hg hq hp hpq hpl hql hbb ?_
  intro e
  subst e
  obtain ⟨_, h0 | ⟨g, cap, cur, e1, _, hc, _⟩⟩ := ho.1
  · rw [h0.1] at hbb; simp [Value.ownBlock] at hbb
  · rw [e1] at hbb
    simp only [Value.ownBlock, Option.some.injEq] at hbb
    subst hbb
    rw [hwk] at hc
    simp only [Option.some.injEq, Obj.cells.injEq] at hc
    exact ht hc.2.1.symm
theorem PRow.otherW {w wa w4 : World} {S : Nat → Prop} {warr : Array Value} {L W wb q p g' : Nat} {st : PSt} {v v4 u : Value} {l : List (List Pt)} (h : PRow w S warr L W st) (hwk : w.heap[wb]? = some (.cells warr 147 (0, 0))) (hslt : ∀ b, S b → b < w.heap.size) (hb : Bw w wa) (hg : wa.grownBy w4 v.ownBlock) (hq : warr[q]? = some v)
    (hp : warr[p]? = some u) (hpq : p ≠ q) (hpl : p < W * 3684) (hql : q < W * 3684) (ho : WayIn S w u l) (hpt : ∀ (u : Value) (m : Nat) (ys : List Value), OwnsIn S w 67 5 u m ys → OwnsIn (fun b => S b ∨ b = g') (w4.setCell ⟨wb, q, none⟩ v4) 67 5 u m ys) : WayIn (fun b => S b ∨ b = g') (w4.setCell ⟨wb, q, none⟩ v4) u l := by
  refine ho.map (fun b h => .inl h) (fun b cur hbb hc => h.otherB hslt hb hg hq hp hpq hpl hql hbb ?_) hpt
  intro e
  subst e
  rw [hwk] at hc
  simp only [Option.some.injEq, Obj.cells.injEq] at hc
  exact absurd hc.2.1 (by decide)
theorem PRow.newInj {w wa : World} {S : Nat → Prop} {warr : Array Value} {L W q g' off n c : Nat} {st : PSt} {v : Value} (h : PRow w S warr L W st) (hslt : ∀ b, S b → b < w.heap.size) (hb : Bw w wa) (hq : warr[q]? = some v) (hql : q < W * 3684) (hl : v.ownBlock = some g' ∨ g' = wa.heap.size) :
    (∀ (p b : Nat) (u : Value), p < W * 3684 → (warr.setIfInBounds q (.slice (some ⟨g', off, none⟩) n c))[p]? = some u → u.ownBlock = some b → S b ∨ b = g') ∧
    (∀ (p p' b : Nat) (u u' : Value), p < W * 3684 → p' < W * 3684 → (warr.setIfInBounds q (.slice (some ⟨g', off, none⟩) n c))[p]? = some u → (warr.setIfInBounds q (.slice (some ⟨g', off, none⟩) n c))[p']? = some u' → u.ownBlock = some b → u'.ownBlock = some b → p = p') := by
  have hqs : q < warr.size := (Array.getElem?_eq_some_iff.1 hq).1
  have hat : (warr.setIfInBounds q (.slice (some ⟨g', off, none⟩) n c))[q]? = some (.slice (some ⟨g', off, none⟩) n c) := Array.getElem?_setIfInBounds_self_of_lt hqs
  have hne : ∀ (p : Nat), p ≠ q → (warr.setIfInBounds q (.slice (some ⟨g', off, none⟩) n c))[p]? = warr[p]? := fun p hp => Array.getElem?_setIfInBounds_ne (fun e => hp e.symm)
  have hfar : ∀ (p : Nat) (u : Value), p < W * 3684 → p ≠ q → warr[p]? = some u → Value.ownBlock u ≠ some g' := by
    intro p u hpl hp hu e
    rcases hl with hl | hl
    · exact hp (h.inj p q g' u v hpl hql hu hq e hl)
    · have := hslt _ (h.own p g' u hpl hu e)
      have := hb.size
      omega
  refine ⟨fun p b u hpl hp hu => ?_, fun p p' b u u' hpl hpl' hp hp' hu hu' => ?_⟩
  · by_cases e : p = q
    · subst e
      rw [hat] at hp
      simp only [Option.some.injEq] at hp
      subst hp
      simp only [Value.ownBlock, Option.some.injEq] at hu
      exact .inr hu.symm
    · rw [hne p e] at hp
      exact .inl (h.own p b u hpl hp hu)
  · by_cases e : p = q
    · by_cases e' : p' = q
      · rw [e, e']
      · subst e
        rw [hat] at hp
        rw [hne p' e'] at hp'
        simp only [Option.some.injEq] at hp
        subst hp
        simp only [Value.ownBlock, Option.some.injEq] at hu
        subst hu
        exact absurd hu' (hfar p' u' hpl' e' hp')
    · by_cases e' : p' = q
      · subst e'
        rw [hat] at hp'
        rw [hne p e] at hp
        simp only [Option.some.injEq] at hp'
        subst hp'
        simp only [Value.ownBlock, Option.some.injEq] at hu'
        subst hu'
        exact absurd hu (hfar p u hpl e hp)
      · rw [hne p e] at hp
        rw [hne p' e'] at hp'
        exact h.inj p p' b u u' hpl hpl' hp hp' hu hu'
end Go.Proofs.YtfemleimkbjehaaGreat
