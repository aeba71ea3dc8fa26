import Derived.Test.YtfemleimkbjehaaJ11
set_option maxRecDepth 1000000
set_option maxHeartbeats 40000000
set_option linter.unusedVariables false
set_option linter.unusedSimpArgs false
namespace Go.Proofs.Ytfemleimkbjehaa
open Go.RowKit
theorem tabAt_in {S : Nat → Prop} {w : World} {v : Value} {n m : Nat} {f : Nat → Nat → Int} (h : TabIn S w v n m f) (hm : 0 < m) : TabAt w (vC v) n m f := by
  obtain ⟨vs, h1, h2⟩ := h
  intro i hi
  obtain ⟨g, e, hl, hc⟩ := vL h1.1 (by omega)
  obtain ⟨u, eu, h3⟩ := h2 i hi
  obtain ⟨g2, e2, hl2, hc2⟩ := vL h3.1 hm
  have hv := qU h3.1
  rw [e2] at hv
  refine ⟨g, 0, e, hl, g2, 0, capV u, ?_, hl2, fun j hj => ?_⟩
  · rw [Nat.zero_add, ← hv]; exact hc i u eu
  · rw [Nat.zero_add]; exact hc2 j _ (by simp [hj])
theorem ptsAt_own {w : World} {base : Nat} {v : Value} {ty : TypeId} {ps : List Pt} (h : w.ownsRow base ty 5 v ps.length (qH ps)) : PtsAt w (vC v) ps := by
  intro i hi
  obtain ⟨g, e, hl, hc⟩ := vL h (by omega)
  refine ⟨g, 0, e, hl, fun j hj => ?_⟩
  simp only [Nat.zero_add]
  have q : ∀ f, f < 5 → ∀ u, (Pt.cells (vX ps j))[f]? = some u → w.cell? ⟨g, j * 5 + f, none⟩ = some u := fun f hf u hu => hc _ _ ((flat_get (f := Pt.cells) (d := ⟨0, false, 0, 0, 0⟩) (fun _ => rfl) ps j hj f hf).trans hu)
  exact ⟨q 0 (by omega) _ rfl, q 1 (by omega) _ rfl, q 2 (by omega) _ rfl, q 3 (by omega) _ rfl, q 4 (by omega) _ rfl⟩
def pfrR (ns : List Nd) (R W : Nat) (D : Nat → Nat → Int) (tb : Nat → Nat → Int) (w n : Int) : List Tm := if isWk W w && kN ns.length n then lstE (inT (yL ns D R (vN (tb w.toNat) 4 8) n.toNat (vN (tb w.toNat) 4 8).length)) 6 else []
set_option maxRecDepth 100000 in
set_option maxHeartbeats 2000000 in
theorem pfront_any {S : Nat → Prop} {pb : Nat} {x : PX} {ns : List Nd} {R W : Nat} {D : Nat → Nat → Int} {st : PSt} (wk n : Int) (w : World) (hO : POwn w S pb x ns R W D st) (hD : ∀ a b, D a b ≤ 1000) (hD1 : ∀ a b, -1 ≤ D a b) (hok : ∀ i, i < W → ∀ p ∈ vN (st.tb i) 4 8, PtOk ns.length R p) :
    Calls Try.prog 62 #[.pointer (some ⟨pb, 0, none⟩), .int .i64 wk, .int .i64 n] w fun e w' => ∃ v, e = .returned (.tuple #[v, .int .i64 (pwaitE ns.length W wk n)]) ∧ OwnT w w' v (pfrR ns R W D st.tb wk n) ∧ Bw w w' := by
  have Hw := qJ (fun w' (h : Bw w w') => pisWorker_any wk w' (hO.bw h))
  obtain ⟨na, nc, hvn, hnd⟩ := hO.ns
  have Hk := qJ (fun w' => yW na ns.length nc (R : Int) n w')
  have c0 := qQ (o := 0) hO.root (hvn ▸ hO.r0)
  have c1 := qQ (o := 1) hO.root hO.r1
  have lt0 := hO.slt _ hO.sroot
  have HE : Hid (pwaitE ns.length W wk n = if isWk W wk && kN ns.length n then 0 else 3) := qJ rfl
  have HL : Hid (pfrR ns R W D st.tb wk n = if isWk W wk && kN ns.length n then lstE (inT (yL ns D R (vN (st.tb wk.toNat) 4 8) n.toNat (vN (st.tb wk.toNat) 4 8).length)) 6 else []) := qJ rfl
  cases hk1 : isWk W wk with
  | false =>
    have He : Hid (pwaitE ns.length W wk n = 3) := qJ (by rw [qK HE, hk1]; rfl)
    have Hl : Hid (pfrR ns R W D st.tb wk n = []) := qJ (by rw [qK HL, hk1]; rfl)
    rw [hk1] at Hw
    clear hO hnd hk1 hD hD1
    go_enter Try.func62, Try.ntmps62
    go_wp2_with (go_at_call 86; refine ((qK Hw) _ (by repeat first|exact br _|assumption|apply bd|apply bn|apply ba|refine bt ?_ (by assumption))).mono ?_; rintro e w' ⟨rfl, rfl⟩)
    go_ret2
    exact ⟨_, by rw [qK He]; rfl, by rw [qK Hl]; exact World.ownsRow_nil _ _ _ _, (by repeat first|exact br _|assumption|apply bd|apply bn|apply ba|refine bt ?_ (by assumption))⟩
  | true =>
    rw [hk1] at Hw
    cases hk2 : kN ns.length n with
    | false =>
      have He : Hid (pwaitE ns.length W wk n = 3) := qJ (by rw [qK HE, hk1, hk2]; rfl)
      have Hl : Hid (pfrR ns R W D st.tb wk n = []) := qJ (by rw [qK HL, hk1, hk2]; rfl)
      rw [hk2] at Hk
      clear hO hnd hk1 hk2 hD hD1
      go_enter Try.func62, Try.ntmps62
      go_wp2_with (first | (go_at_call 86; refine ((qK Hw) _ (by repeat first|exact br _|assumption|apply bd|apply bn|apply ba|refine bt ?_ (by assumption))).mono ?_; rintro e w' ⟨rfl, rfl⟩) | (go_at_call 74; refine ((qK Hk) _).mono ?_; rintro e w2 ⟨rfl, hbl⟩))
      go_ret2
      exact ⟨_, by rw [qK He]; rfl, by rw [qK Hl]; exact World.ownsRow_nil _ _ _ _, (by repeat first|exact br _|assumption|apply bd|apply bn|apply ba|refine bt ?_ (by assumption))⟩
    | true =>
      obtain ⟨i, rfl, hi⟩ := isWk_iff.1 hk1
      obtain ⟨b1, b2⟩ := isNodeB_iff.1 hk2
      obtain ⟨m, rfl⟩ := Int.eq_ofNat_of_zero_le b1
      have hm : m < ns.length := by omega
      have h8 := hO.small
      have He : Hid (pwaitE ns.length W (i : Int) (m : Int) = 0) := qJ (by rw [qK HE, hk1, hk2]; rfl)
      have Hl : Hid (pfrR ns R W D st.tb (i : Int) (m : Int) = lstE (inT (yL ns D R (vN (st.tb i) 4 8) m (vN (st.tb i) 4 8).length)) 6) := qJ (by rw [qK HL, hk1, hk2, Bool.and_self, if_pos rfl, Int.toNat_natCast, Int.toNat_natCast])
      rw [hk2] at Hk
      have hoki := hok i hi
      have hle := vN_len (st.tb i) 4 8
      have hdt := tabAt_in hO.dist (by omega)
      obtain ⟨da, dc, hdv⟩ : ∃ da dc, x.vd = .slice da ns.length dc := by
        obtain ⟨vs, h, _⟩ := hO.dist
        exact ⟨_, _, qU h.1⟩
      rw [hdv] at hdt
      have hdt' : TabAt w da ns.length ns.length D := hdt
      have Hb := qJ (fun (w' : World) (h : Bw w w') => ppoints_any _ _ _ w' ((hO.bw h).bel hi))
      have Hc0 := qJ (fun (w' : World) (h : Bw w w') => qQ (o := 0) (hO.bw h).root (hvn ▸ hO.r0))
      have Hc1 := qJ (fun (w' : World) (h : Bw w w') => qQ (o := 1) (hO.bw h).root hO.r1)
      have Hc2 := qJ (fun (w' : World) (h : Bw w w') => qQ (o := 2) (hO.bw h).root (hdv ▸ hO.r2))
      have Hc3 := qJ (fun (w' : World) (h : Bw w w') => qQ (o := 3) (hO.bw h).root hO.r3)
      have Hlt := qJ (fun (w' : World) (h : Bw w w') => (hO.bw h).slt _ hO.swork)
      have Hlp := qJ (fun (w' : World) (h : Bw w w') => (hO.bw h).slt _ hO.sroot)
      have Hf := qJ (fun (w' : World) (h : Bw w w') (la : Option Addr) (lc : Nat) (hps : PtsAt w' la (vN (st.tb i) 4 8)) => pfrontier_any (nc := nc) (dc := dc) (lc := lc) (vN (st.tb i) 4 8) m w' (hnd.below h) (hdt'.below h) hps h8.1 h8.2.1 hm hD hD1 hoki (by omega))
      generalize vN (st.tb i) 4 8 = ps at *
      have hi1 : (i : Int) < (W : Int) := by omega
      clear hO hnd hk1 hk2 b1 b2 hD hD1 hdt hdt' hok hoki
      go_enter Try.func62, Try.ntmps62
      go_wp2_with (first | (go_at_call 86; refine ((qK Hw) _ (by repeat first|exact br _|assumption|apply bd|apply bn|apply ba|refine bt ?_ (by assumption))).mono ?_; rintro e w' ⟨rfl, rfl⟩) | (go_at_call 74; refine ((qK Hk) _).mono ?_; rintro e w2 ⟨rfl, hbl⟩; have q2 := (qK Hc3) w2 hbl; have q3 := (qK Hlt) w2 hbl; have q4 := (qK Hlp) w2 hbl) | (go_at_call 87; refine ((qK Hb) _ hbl).mono ?_; rintro e w3 ⟨v, rfl, hov, hb3⟩; obtain ⟨va, vc, hve⟩ : ∃ va vc, v = .slice va ps.length vc := ⟨_, _, qU hov⟩; subst hve; have hbl3 := hbl.trans hb3; have p0 := (qK Hc0) w3 hbl3; have p1 := (qK Hc1) w3 hbl3; have p2 := (qK Hc2) w3 hbl3; have p4 := (qK Hlp) w3 hbl3))
      have Hps := qJ (show PtsAt w3 va ps from ptsAt_own hov)
      go_region_held3 (fun w' => w'.cell? ⟨pb, 0, none⟩ = some (.slice na ns.length nc) ∧ w'.cell? ⟨pb, 1, none⟩ = some (.int .i64 (R : Int)) ∧ w'.cell? ⟨pb, 2, none⟩ = some (.slice da ns.length dc)) (go_keep) ((go_at_call 88; refine ((qK Hf) _ (hbl3.trans (show Bw w3 _ from (by repeat first|exact br _|assumption|apply bd|apply bn|apply ba|refine bt ?_ (by assumption)))) va vc ((qK Hps).below (by repeat first|exact br _|assumption|apply bd|apply bn|apply ba|refine bt ?_ (by assumption)))).mono ?_; rintro e w4 ⟨u, rfl, hou, hb4⟩; have hb5 : Bw w3 w4 := (by repeat first|exact br _|assumption|apply bd|apply bn|apply ba|refine bt ?_ (by assumption)); have s0 := (qK Hc0) w4 (hbl3.trans hb5); have s1 := (qK Hc1) w4 (hbl3.trans hb5); have s2 := (qK Hc2) w4 (hbl3.trans hb5)))
      all_goals (
        go_wp2_with fail
        go_ret2
        exact ⟨_, by rw [qK He]; rfl, by rw [qK Hl]; exact hou.weaken (hbl3.trans (show Bw w3 _ from (by repeat first|exact br _|assumption|apply bd|apply bn|apply ba|refine bt ?_ (by assumption)))), hbl3.trans hb5⟩)
def kZ {α : Type} (f : Nat → Nat → α) (i n : Nat) (v : α) : Nat → Nat → α := fun a b => if a = i ∧ b = n then v else f a b
def upd1 {α : Type} (f : Nat → α) (i : Nat) (v : α) : Nat → α := fun a => if a = i then v else f a
theorem zT {α : Type} (f : Nat → Nat → α) (i n : Nat) (v : α) : kZ f i n v i n = v := by simp [kZ]
theorem xZ {α : Type} (f : Nat → Nat → α) {i n a b : Nat} (v : α) (h : ¬ (a = i ∧ b = n)) : kZ f i n v a b = f a b := by simp [kZ, h]
theorem pos_ne {i a r s : Nat} (hr : r < 3684) (hs : s < 3684) (h : i ≠ a ∨ r ≠ s) : i * 3684 + r ≠ a * 3684 + s := by
  rcases Nat.lt_trichotomy i a with h1 | h1 | h1
  · have := Nat.mul_le_mul_right 3684 (show i + 1 ≤ a from h1)
    rw [Nat.add_mul] at this
    omega
  · subst h1; omega
  · have := Nat.mul_le_mul_right 3684 (show a + 1 ≤ i from h1)
    rw [Nat.add_mul] at this
    omega
theorem PRow.plain {w : World} {S : Nat → Prop} {warr arr' : Array Value} {L W : Nat} {st st' : PSt} {Q : Nat → Prop} (h : PRow w S warr L W st) (hL : L ≤ 8) (hs : arr'.size = warr.size) (hQ : ∀ p, ¬ Q p → arr'[p]? = warr[p]?) (hQ2 : ∀ p v, Q p → arr'[p]? = some v → Value.ownBlock v = none)
    (hq : ∀ i, i < W → (∀ n, n < 16 → ¬ Q (i * 3684 + 16 + n)) ∧ ∀ j, j < 4 → ¬ Q (i * 3684 + 3680 + j))
    (hsrc : ∀ i n, i < W → n < L → arr'[i * 3684 + n * 2]? = some (.int .i64 (st'.ep i n)) ∧ arr'[i * 3684 + n * 2 + 1]? = some (.bool (st'.cl i n)))
    (htal : ∀ i n, i < W → n < L → ∀ k, k < 408 → arr'[i * 3684 + 32 + n * 408 + k]? = some (st'.tl i n k))
    (hbel : ∀ i, i < W → ∀ k, k < 384 → arr'[i * 3684 + 3296 + k]? = some (.int .i64 (st'.tb i k)))
    (hw : st'.wt = st.wt) (hb : st'.lb = st.lb) (hy : st'.wy = st.wy) : PRow w S arr' L W st' := by
  have key : ∀ (p : Nat) (v : Value), arr'[p]? = some v → Value.ownBlock v ≠ none → warr[p]? = some v := by
    intro p v hp hv
    by_cases e : Q p
    · exact absurd (hQ2 p v e hp) hv
    · rw [← hQ p e]; exact hp
  refine ⟨by rw [hs]; exact h.size, hsrc, fun i n hi hn => ?_, fun i n hi hn => ?_, htal, hbel, fun i j hi hj => ?_, fun p b v hl hp hv => h.own p b v hl (key p v hp (by rw [hv]; simp)) hv, fun p q' b v u' hl hl' hp hq' hv hu' => h.inj p q' b v u' hl hl' (key p v hp (by rw [hv]; simp)) (key q' u' hq' (by rw [hu']; simp)) hv hu'⟩
  · obtain ⟨v, e, h1⟩ := h.wait i n hi hn
    rw [hw]
    exact ⟨v, by rw [hQ _ ((hq i hi).1 n (by omega))]; exact e, h1⟩
  · obtain ⟨v, e, h1⟩ := h.letb i n hi hn
    rw [hb]
    exact ⟨v, by rw [hQ _ (by have := (hq i hi).1 (24 - 16 + n) (by omega); rw [show i * 3684 + 24 + n = i * 3684 + 16 + (24 - 16 + n) by omega]; exact this)]; exact e, h1⟩
  · obtain ⟨v, e, h1⟩ := h.way i j hi hj
    rw [hy]
    exact ⟨v, by rw [hQ _ ((hq i hi).2 j hj)]; exact e, h1⟩
theorem set_plain {warr : Array Value} {q : Nat} {u : Value} (hu : Value.ownBlock u = none) : ∀ p v, p = q → (warr.setIfInBounds q u)[p]? = some v → Value.ownBlock v = none := by
  intro p v e hp
  subst e
  rcases Nat.lt_or_ge p warr.size with h1 | h1
  · rw [Array.getElem?_setIfInBounds_self_of_lt h1] at hp
    simp at hp; subst hp; exact hu
  · rw [Array.getElem?_eq_none (by simpa using h1)] at hp; cases hp
set_option maxRecDepth 100000 in
theorem PRow.setEp {w : World} {S : Nat → Prop} {warr : Array Value} {L W i m : Nat} {st : PSt} (h : PRow w S warr L W st) (hL : L ≤ 8) (hi : i < W) (hm : m < L) (v : Int) : PRow w S (warr.setIfInBounds (i * 3684 + m * 2) (.int .i64 v)) L W { st with ep := kZ st.ep i m v } := by
  have hz := h.size
  refine h.plain (Q := fun p => p = i * 3684 + m * 2) hL (by simp) (fun p hp => Array.getElem?_setIfInBounds_ne (Ne.symm hp)) (set_plain rfl) (fun a ha => ⟨fun n hn e => by omega, fun j hj e => by omega⟩) (fun a b ha hb => ⟨?_, ?_⟩) (fun a b ha hb k hk => ?_) (fun a ha k hk => ?_) rfl rfl rfl
  · by_cases e : a = i ∧ b = m
    · obtain ⟨rfl, rfl⟩ := e
      rw [Array.getElem?_setIfInBounds_self_of_lt (by omega)]; simp [kZ]
    · rw [Array.getElem?_setIfInBounds_ne (by omega), (h.src a b ha hb).1]; simp [kZ, e]
  · rw [Array.getElem?_setIfInBounds_ne (by omega)]; exact (h.src a b ha hb).2
  · rw [Array.getElem?_setIfInBounds_ne (by have := pos_ne (i := i) (a := a) (r := m * 2) (s := 32 + b * 408 + k) (by omega) (by omega) (by omega); omega)]; exact h.tal a b ha hb k hk
  · rw [Array.getElem?_setIfInBounds_ne (by omega)]; exact h.bel a ha k hk
set_option maxRecDepth 100000 in
theorem PRow.setCl {w : World} {S : Nat → Prop} {warr : Array Value} {L W i m : Nat} {st : PSt} (h : PRow w S warr L W st) (hL : L ≤ 8) (hi : i < W) (hm : m < L) (v : Bool) : PRow w S (warr.setIfInBounds (i * 3684 + m * 2 + 1) (.bool v)) L W { st with cl := kZ st.cl i m v } := by
  have hz := h.size
  refine h.plain (Q := fun p => p = i * 3684 + m * 2 + 1) hL (by simp) (fun p hp => Array.getElem?_setIfInBounds_ne (Ne.symm hp)) (set_plain rfl) (fun a ha => ⟨fun n hn e => by omega, fun j hj e => by omega⟩) (fun a b ha hb => ⟨?_, ?_⟩) (fun a b ha hb k hk => ?_) (fun a ha k hk => ?_) rfl rfl rfl
  · rw [Array.getElem?_setIfInBounds_ne (by omega)]; exact (h.src a b ha hb).1
  · by_cases e : a = i ∧ b = m
    · obtain ⟨rfl, rfl⟩ := e
      rw [Array.getElem?_setIfInBounds_self_of_lt (by omega)]; simp [kZ]
    · rw [Array.getElem?_setIfInBounds_ne (by omega), (h.src a b ha hb).2]; simp [kZ, e]
  · rw [Array.getElem?_setIfInBounds_ne (by have := pos_ne (i := i) (a := a) (r := m * 2 + 1) (s := 32 + b * 408 + k) (by omega) (by omega) (by omega); omega)]; exact h.tal a b ha hb k hk
  · rw [Array.getElem?_setIfInBounds_ne (by omega)]; exact h.bel a ha k hk
set_option maxRecDepth 100000 in
theorem PRow.setBel {w : World} {S : Nat → Prop} {warr arr' : Array Value} {L W i : Nat} {st : PSt} {T : Nat → Int} (h : PRow w S warr L W st) (hL : L ≤ 8) (hi : i < W) (hs : arr'.size = warr.size) (ho : ∀ k, (k < i * 3684 + 3296 ∨ i * 3684 + 3296 + 384 ≤ k) → arr'[k]? = warr[k]?) (hT : ∀ k, k < 384 → arr'[i * 3684 + 3296 + k]? = some (.int .i64 (T k))) : PRow w S arr' L W { st with tb := upd1 st.tb i T } := by
  refine h.plain (Q := fun p => i * 3684 + 3296 ≤ p ∧ p < i * 3684 + 3296 + 384) hL hs (fun p hp => ho p (by omega)) (fun p v hp hv => ?_) (fun a ha => ⟨fun n hn e => by omega, fun j hj e => by omega⟩) (fun a b ha hb => ⟨?_, ?_⟩) (fun a b ha hb k hk => ?_) (fun a ha k hk => ?_) rfl rfl rfl
  · have h1 := hT (p - (i * 3684 + 3296)) (by omega)
    rw [show i * 3684 + 3296 + (p - (i * 3684 + 3296)) = p by omega, hv] at h1
    simp at h1; subst h1; rfl
  · rw [ho _ (by omega)]; exact (h.src a b ha hb).1
  · rw [ho _ (by omega)]; exact (h.src a b ha hb).2
  · rw [ho _ (by by_cases e : a = i; · subst e; omega
                 · rcases Nat.lt_or_gt_of_ne e with h1 | h1
                   · have := Nat.mul_le_mul_right 3684 (show a + 1 ≤ i from h1); rw [Nat.add_mul] at this; omega
                   · have := Nat.mul_le_mul_right 3684 (show i + 1 ≤ a from h1); rw [Nat.add_mul] at this; omega)]; exact h.tal a b ha hb k hk
  · by_cases e : a = i
    · subst e; simp only [upd1, if_pos]; exact hT k hk
    · simp only [upd1, if_neg e]; rw [ho _ (by omega)]; exact h.bel a ha k hk
theorem PRow.otherB {w wa w4 : World} {S : Nat → Prop} {warr : Array Value} {L W wb q p b : Nat} {st : PSt} {v v4 u : Value} (h : PRow w S warr L W st) (hslt : ∀ b, S b → b < w.heap.size) (hb : Bw w wa) (hg : wa.grownBy w4 v.ownBlock) (hq : warr[q]? = some v)
    (hp : warr[p]? = some u) (hpq : p ≠ q) (hpl : p < W * 3684) (hql : q < W * 3684) (hbb : Value.ownBlock u = some b) (hne : b ≠ wb) : (w4.setCell ⟨wb, q, none⟩ v4).heap[b]? = w.heap[b]? := by
  have hlt := hslt b (h.own p b u hpl hp hbb)
  exact (Below.heap_setCell w4 ⟨wb, q, none⟩ v4 b hne).trans ((hg.block b (Nat.lt_of_lt_of_le hlt hb.size) (fun e => hpq (h.inj p q b u v hpl hql hp hq hbb e.symm))).trans (Below.block hb b hlt))
theorem PRow.other {w wa w4 : World} {S : Nat → Prop} {warr : Array Value} {L W wb q p g' m sz : Nat} {st : PSt} {v v4 u : Value} {ty : TypeId} {ys : List Value} (h : PRow w S warr L W st) (hwk : w.heap[wb]? = some (.cells warr 162 (0, 0))) (hslt : ∀ b, S b → b < w.heap.size) (hb : Bw w wa) (hg : wa.grownBy w4 v.ownBlock) (hq : warr[q]? = some v)
    (hp : warr[p]? = some u) (hpq : p ≠ q) (hpl : p < W * 3684) (hql : q < W * 3684) (ho : OwnsIn S w ty sz u m ys) (ht : ty ≠ 162) : OwnsIn (fun b => S b ∨ b = g') (w4.setCell ⟨wb, q, none⟩ v4) ty sz u m ys := by
  refine ⟨kD ho.1 fun b hbb => ?_, fun b hbb => .inl (ho.2 b hbb)⟩
  refine h.otherB hslt hb hg hq hp hpq hpl hql hbb ?_
  intro e
  subst e
  obtain ⟨_, h0 | ⟨g, cap, cur, e1, _, hc, _⟩⟩ := ho.1
  · rw [h0.1] at hbb; simp [Value.ownBlock] at hbb
  · rw [e1] at hbb
    simp only [Value.ownBlock, Option.some.injEq] at hbb
    subst hbb
    rw [hwk] at hc
    simp only [Option.some.injEq, Obj.cells.injEq] at hc
    exact ht hc.2.1.symm
theorem PRow.otherW {w wa w4 : World} {S : Nat → Prop} {warr : Array Value} {L W wb q p g' : Nat} {st : PSt} {v v4 u : Value} {l : List (List Pt)} (h : PRow w S warr L W st) (hwk : w.heap[wb]? = some (.cells warr 162 (0, 0))) (hslt : ∀ b, S b → b < w.heap.size) (hb : Bw w wa) (hg : wa.grownBy w4 v.ownBlock) (hq : warr[q]? = some v)
    (hp : warr[p]? = some u) (hpq : p ≠ q) (hpl : p < W * 3684) (hql : q < W * 3684) (ho : WayIn S w u l) (hpt : ∀ (u : Value) (m : Nat) (ys : List Value), OwnsIn S w 194 5 u m ys → OwnsIn (fun b => S b ∨ b = g') (w4.setCell ⟨wb, q, none⟩ v4) 194 5 u m ys) : WayIn (fun b => S b ∨ b = g') (w4.setCell ⟨wb, q, none⟩ v4) u l := by
  refine ho.map (fun b h => .inl h) (fun b cur hbb hc => h.otherB hslt hb hg hq hp hpq hpl hql hbb ?_) hpt
  intro e
  subst e
  rw [hwk] at hc
  simp only [Option.some.injEq, Obj.cells.injEq] at hc
  exact absurd hc.2.1 (by decide)
theorem PRow.newInj {w wa : World} {S : Nat → Prop} {warr : Array Value} {L W q g' off n c : Nat} {st : PSt} {v : Value} (h : PRow w S warr L W st) (hslt : ∀ b, S b → b < w.heap.size) (hb : Bw w wa) (hq : warr[q]? = some v) (hql : q < W * 3684) (hl : v.ownBlock = some g' ∨ g' = wa.heap.size) :
    (∀ (p b : Nat) (u : Value), p < W * 3684 → (warr.setIfInBounds q (.slice (some ⟨g', off, none⟩) n c))[p]? = some u → u.ownBlock = some b → S b ∨ b = g') ∧
    (∀ (p p' b : Nat) (u u' : Value), p < W * 3684 → p' < W * 3684 → (warr.setIfInBounds q (.slice (some ⟨g', off, none⟩) n c))[p]? = some u → (warr.setIfInBounds q (.slice (some ⟨g', off, none⟩) n c))[p']? = some u' → u.ownBlock = some b → u'.ownBlock = some b → p = p') := by
  have hqs : q < warr.size := (Array.getElem?_eq_some_iff.1 hq).1
  have hat : (warr.setIfInBounds q (.slice (some ⟨g', off, none⟩) n c))[q]? = some (.slice (some ⟨g', off, none⟩) n c) := Array.getElem?_setIfInBounds_self_of_lt hqs
  have hne : ∀ (p : Nat), p ≠ q → (warr.setIfInBounds q (.slice (some ⟨g', off, none⟩) n c))[p]? = warr[p]? := fun p hp => Array.getElem?_setIfInBounds_ne (fun e => hp e.symm)
  have hfar : ∀ (p : Nat) (u : Value), p < W * 3684 → p ≠ q → warr[p]? = some u → Value.ownBlock u ≠ some g' := by
    intro p u hpl hp hu e
    rcases hl with hl | hl
    · exact hp (h.inj p q g' u v hpl hql hu hq e hl)
    · have := hslt _ (h.own p g' u hpl hu e)
      have := hb.size
      omega
  refine ⟨fun p b u hpl hp hu => ?_, fun p p' b u u' hpl hpl' hp hp' hu hu' => ?_⟩
  · by_cases e : p = q
    · subst e
      rw [hat] at hp
      simp only [Option.some.injEq] at hp
      subst hp
      simp only [Value.ownBlock, Option.some.injEq] at hu
      exact .inr hu.symm
    · rw [hne p e] at hp
      exact .inl (h.own p b u hpl hp hu)
  · by_cases e : p = q
    · by_cases e' : p' = q
      · rw [e, e']
      · subst e
        rw [hat] at hp
        rw [hne p' e'] at hp'
        simp only [Option.some.injEq] at hp
        subst hp
        simp only [Value.ownBlock, Option.some.injEq] at hu
        subst hu
        exact absurd hu' (hfar p' u' hpl' e' hp')
    · by_cases e' : p' = q
      · subst e'
        rw [hat] at hp'
        rw [hne p e] at hp
        simp only [Option.some.injEq] at hp'
        subst hp'
        simp only [Value.ownBlock, Option.some.injEq] at hu'
        subst hu'
        exact absurd hu (hfar p u hpl e hp)
      · rw [hne p e] at hp
        rw [hne p' e'] at hp'
        exact h.inj p p' b u u' hpl hpl' hp hp' hu hu'
theorem gvCells_snoc' (l : List Gv) (y : Gv) : qF (l ++ [y]) = qF l ++ y.cells := by simp [qF]
theorem vZ {w : World} {base n size : Nat} {ty : TypeId} {v : Value} {xs : List Value} (h : w.ownsRow base ty size v n xs) {b : Nat} (hb : v.ownBlock = some b) : ∃ cur, w.heap[b]? = some (.cells cur ty (0, 0)) := by
  obtain ⟨_, h0 | ⟨g, cap, cur, e1, _, hc, _⟩⟩ := h
  · rw [h0.1] at hb; simp [Value.ownBlock] at hb
  · rw [e1] at hb
    simp only [Value.ownBlock, Option.some.injEq] at hb
    subst hb
    exact ⟨cur, hc⟩
theorem rest_owns {w wa w4 : World} {S : Nat → Prop} {warr : Array Value} {wb q g' sz' m : Nat} {v4 u : Value} {ty : TypeId} {ys : List Value} (hwk : w.heap[wb]? = some (.cells warr 162 (0, 0))) (hb : Bw w wa) (hw4 : w4.heap[wb]? = some (.cells warr 162 (0, 0)))
    (hgb : ∀ (b : Nat) (cur : Array Value), wa.heap[b]? = some (.cells cur ty (0, 0)) → w4.heap[b]? = wa.heap[b]?) (ho : OwnsIn S w ty sz' u m ys) (ht : ty ≠ 162) : OwnsIn (fun b => S b ∨ b = g') (w4.setCell ⟨wb, q, none⟩ v4) ty sz' u m ys := by
  refine ⟨kD ho.1 fun b hbb => ?_, fun b hbb => .inl (ho.2 b hbb)⟩
  obtain ⟨cur, hc⟩ := vZ ho.1 hbb
  have hlt := (Array.getElem?_eq_some_iff.1 hc).1
  have hca := (Below.block hb b hlt).trans hc
  have hne : b ≠ wb := by
    intro e
    subst e
    rw [hwk] at hc
    simp only [Option.some.injEq, Obj.cells.injEq] at hc
    exact ht hc.2.1.symm
  exact (Below.heap_setCell w4 ⟨wb, q, none⟩ v4 b hne).trans ((hgb b cur hca).trans (Below.block hb b hlt))
set_option maxRecDepth 100000 in
/-- A message was appended to the slice at q: the row with that slice set. k says which list it is. -/
theorem PRow.addMsg {w wa w4 : World} {S : Nat → Prop} {warr : Array Value} {L W wb i m g' c : Nat} {st st' : PSt} {v : Value} {y : Gv} {ms : List Gv} (o : Nat) (h : PRow w S warr L W st) (hL : L ≤ 8) (hi : i < W) (hm : m < L) (ho8 : o = 16 ∨ o = 24) (hwk : w.heap[wb]? = some (.cells warr 162 (0, 0))) (hslt : ∀ b, S b → b < w.heap.size) (hb : Bw w wa) (hq : warr[i * 3684 + o + m]? = some v)
    (hgp : ∀ (b : Nat) (cur : Array Value), wa.heap[b]? = some (.cells cur 194 (0, 0)) → w4.heap[b]? = wa.heap[b]?)
    (ho : w4.ownsRow 0 117 3 (.slice (some ⟨g', 0, none⟩) (ms.length + 1) c) (ms.length + 1) (qF ms ++ y.cells)) (hg : wa.grownBy w4 v.ownBlock) (hl : v.ownBlock = some g' ∨ g' = wa.heap.size) (hw4 : w4.heap[wb]? = some (.cells warr 162 (0, 0)))
    (hst : st'.ep = st.ep ∧ st'.cl = st.cl ∧ st'.tl = st.tl ∧ st'.tb = st.tb ∧ st'.wy = st.wy)
    (hwt : ∀ a b, a < W → b < L → st'.wt a b = if o = 16 ∧ a = i ∧ b = m then ms ++ [y] else st.wt a b) (hlb : ∀ a b, a < W → b < L → st'.lb a b = if o = 24 ∧ a = i ∧ b = m then ms ++ [y] else st.lb a b) :
    PRow (w4.setCell ⟨wb, i * 3684 + o + m, none⟩ (.slice (some ⟨g', 0, none⟩) (ms.length + 1) c)) (fun b => S b ∨ b = g') (warr.setIfInBounds (i * 3684 + o + m) (.slice (some ⟨g', 0, none⟩) (ms.length + 1) c)) L W st' := by
  have hqs : i * 3684 + o + m < warr.size := (Array.getElem?_eq_some_iff.1 hq).1
  have hqW : i * 3684 + o + m < W * 3684 := by rcases ho8 with rfl | rfl <;> omega
  obtain ⟨n1, n2⟩ := h.newInj (off := 0) (n := ms.length + 1) (c := c) hslt hb hq hqW hl
  have hnew : OwnsIn (fun b => S b ∨ b = g') (w4.setCell ⟨wb, i * 3684 + o + m, none⟩ (.slice (some ⟨g', 0, none⟩) (ms.length + 1) c)) 117 3 (.slice (some ⟨g', 0, none⟩) (ms.length + 1) c) (ms ++ [y]).length (qF (ms ++ [y])) := by
    refine ⟨?_, fun b hb => .inr (by simpa [Value.ownBlock] using hb.symm)⟩
    rw [gvCells_snoc', List.length_append, List.length_singleton]
    exact kV hw4 ho (by decide)
  have hpt : ∀ (u : Value) (m' : Nat) (ys : List Value), OwnsIn S w 194 5 u m' ys → OwnsIn (fun b => S b ∨ b = g') (w4.setCell ⟨wb, i * 3684 + o + m, none⟩ (.slice (some ⟨g', 0, none⟩) (ms.length + 1) c)) 194 5 u m' ys := fun u m' ys ho' => rest_owns hwk hb hw4 hgp ho' (by decide)
  obtain ⟨e1, e2, e3, e4, e5⟩ := hst
  refine ⟨by simpa using h.size, fun a b ha hb' => ⟨?_, ?_⟩, fun a b ha hb' => ?_, fun a b ha hb' => ?_, fun a b ha hb' k hk => ?_, fun a ha k hk => ?_, fun a j ha hj => ?_, n1, n2⟩
  · rw [e1, Array.getElem?_setIfInBounds_ne (by rcases ho8 with rfl | rfl <;> omega)]; exact (h.src a b ha hb').1
  · rw [e2, Array.getElem?_setIfInBounds_ne (by rcases ho8 with rfl | rfl <;> omega)]; exact (h.src a b ha hb').2
  · rw [hwt a b ha hb']
    by_cases e : o = 16 ∧ a = i ∧ b = m
    · obtain ⟨rfl, rfl, rfl⟩ := e
      rw [if_pos ⟨rfl, rfl, rfl⟩]
      exact ⟨_, Array.getElem?_setIfInBounds_self_of_lt hqs, hnew⟩
    · rw [if_neg e]
      obtain ⟨u, eu, hu⟩ := h.wait a b ha hb'
      have hne : a * 3684 + 16 + b ≠ i * 3684 + o + m := by rcases ho8 with rfl | rfl <;> omega
      exact ⟨u, by rw [Array.getElem?_setIfInBounds_ne hne.symm]; exact eu, h.other hwk hslt hb hg hq eu hne (by omega) hqW hu (by decide)⟩
  · rw [hlb a b ha hb']
    by_cases e : o = 24 ∧ a = i ∧ b = m
    · obtain ⟨rfl, rfl, rfl⟩ := e
      rw [if_pos ⟨rfl, rfl, rfl⟩]
      exact ⟨_, Array.getElem?_setIfInBounds_self_of_lt hqs, hnew⟩
    · rw [if_neg e]
      obtain ⟨u, eu, hu⟩ := h.letb a b ha hb'
      have hne : a * 3684 + 24 + b ≠ i * 3684 + o + m := by rcases ho8 with rfl | rfl <;> omega
      exact ⟨u, by rw [Array.getElem?_setIfInBounds_ne hne.symm]; exact eu, h.other hwk hslt hb hg hq eu hne (by omega) hqW hu (by decide)⟩
  · rw [e3, Array.getElem?_setIfInBounds_ne (by have := pos_ne (i := i) (a := a) (r := o + m) (s := 32 + b * 408 + k) (by rcases ho8 with rfl | rfl <;> omega) (by omega) (by rcases ho8 with rfl | rfl <;> omega); omega)]; exact h.tal a b ha hb' k hk
  · rw [e4, Array.getElem?_setIfInBounds_ne (by rcases ho8 with rfl | rfl <;> omega)]; exact h.bel a ha k hk
  · rw [e5]
    obtain ⟨u, eu, hu⟩ := h.way a j ha hj
    have hne : a * 3684 + 3680 + j ≠ i * 3684 + o + m := by rcases ho8 with rfl | rfl <;> omega
    exact ⟨u, by rw [Array.getElem?_setIfInBounds_ne hne.symm]; exact eu, h.otherW hwk hslt hb hg hq eu hne (by omega) hqW hu hpt⟩
set_option maxRecDepth 100000 in
theorem PRow.addWay {w wa w4 : World} {S : Nat → Prop} {warr : Array Value} {L W wb i j g' off c : Nat} {st : PSt} {v u0 : Value} {ps : List Pt} {vs : List Value} (h : PRow w S warr L W st) (hL : L ≤ 8) (hi : i < W) (hj : j < 4) (hwk : w.heap[wb]? = some (.cells warr 162 (0, 0))) (hslt : ∀ b, S b → b < w.heap.size) (hb : Bw w wa) (hq : warr[i * 3684 + 3680 + j]? = some v)
    (hgp : ∀ (ty : TypeId), ty ≠ 183 → ∀ (b : Nat) (cur : Array Value), wa.heap[b]? = some (.cells cur ty (0, 0)) → w4.heap[b]? = wa.heap[b]?)
    (hvs : ∀ k, k < (st.wy i j).length → ∃ u, vs[k]? = some u ∧ OwnsIn S w 194 5 u ((st.wy i j).getD k []).length (qH ((st.wy i j).getD k [])))
    (hu0 : OwnsIn S w 194 5 u0 ps.length (qH ps)) (hvl : vs.length = (st.wy i j).length)
    (ho : rowO w4 183 (.slice (some ⟨g', off, none⟩) ((st.wy i j).length + 1) c) ((st.wy i j).length + 1) (vs ++ [u0])) (hg : wa.grownBy w4 v.ownBlock) (hl : v.ownBlock = some g' ∨ g' = wa.heap.size) (hgw : g' ≠ wb) (hw4 : w4.heap[wb]? = some (.cells warr 162 (0, 0))) :
    PRow (w4.setCell ⟨wb, i * 3684 + 3680 + j, none⟩ (.slice (some ⟨g', off, none⟩) ((st.wy i j).length + 1) c)) (fun b => S b ∨ b = g') (warr.setIfInBounds (i * 3684 + 3680 + j) (.slice (some ⟨g', off, none⟩) ((st.wy i j).length + 1) c)) L W { st with wy := kZ st.wy i j (st.wy i j ++ [ps]) } := by
  have hqs : i * 3684 + 3680 + j < warr.size := (Array.getElem?_eq_some_iff.1 hq).1
  obtain ⟨n1, n2⟩ := h.newInj (off := off) (n := (st.wy i j).length + 1) (c := c) hslt hb hq (by omega) hl
  have hpt : ∀ (u : Value) (m' : Nat) (ys : List Value), OwnsIn S w 194 5 u m' ys → OwnsIn (fun b => S b ∨ b = g') (w4.setCell ⟨wb, i * 3684 + 3680 + j, none⟩ (.slice (some ⟨g', off, none⟩) ((st.wy i j).length + 1) c)) 194 5 u m' ys := fun u m' ys ho' => rest_owns hwk hb hw4 (hgp _ (by decide)) ho' (by decide)
  refine ⟨by simpa using h.size, fun a b ha hb' => ⟨?_, ?_⟩, fun a b ha hb' => ?_, fun a b ha hb' => ?_, fun a b ha hb' k hk => ?_, fun a ha k hk => ?_, fun a j' ha hj' => ?_, n1, n2⟩
  · rw [Array.getElem?_setIfInBounds_ne (by omega)]; exact (h.src a b ha hb').1
  · rw [Array.getElem?_setIfInBounds_ne (by omega)]; exact (h.src a b ha hb').2
  · obtain ⟨u, eu, hu⟩ := h.wait a b ha hb'
    exact ⟨u, by rw [Array.getElem?_setIfInBounds_ne (by omega)]; exact eu, h.other hwk hslt hb hg hq eu (by omega) (by omega) (by omega) hu (by decide)⟩
  · obtain ⟨u, eu, hu⟩ := h.letb a b ha hb'
    exact ⟨u, by rw [Array.getElem?_setIfInBounds_ne (by omega)]; exact eu, h.other hwk hslt hb hg hq eu (by omega) (by omega) (by omega) hu (by decide)⟩
  · rw [Array.getElem?_setIfInBounds_ne (by have := pos_ne (i := i) (a := a) (r := 3680 + j) (s := 32 + b * 408 + k) (by omega) (by omega) (by omega); omega)]; exact h.tal a b ha hb' k hk
  · rw [Array.getElem?_setIfInBounds_ne (by omega)]; exact h.bel a ha k hk
  · by_cases e : a = i ∧ j' = j
    · obtain ⟨rfl, rfl⟩ := e
      simp only [zT]
      refine ⟨_, Array.getElem?_setIfInBounds_self_of_lt hqs, vs ++ [u0], ?_, fun b hb => .inr (by simpa [Value.ownBlock] using hb.symm), fun k hk => ?_⟩
      · rw [List.length_append, List.length_singleton]
        exact ho.frame (fun b hb' => by
          simp only [Value.ownBlock, Option.some.injEq] at hb'
          exact Below.heap_setCell w4 ⟨wb, _, none⟩ _ b (fun e => hgw (hb'.trans e)))
      · rw [List.length_append, List.length_singleton] at hk
        by_cases hk2 : k < (st.wy a j').length
        · obtain ⟨u, eu, hu⟩ := hvs k hk2
          refine ⟨u, by rw [List.getElem?_append_left (by omega)]; exact eu, ?_⟩
          rw [show (st.wy a j' ++ [ps]).getD k [] = (st.wy a j').getD k [] by simp [List.getD, List.getElem?_append_left hk2]]
          exact hpt _ _ _ hu
        · have : k = (st.wy a j').length := by omega
          subst this
          refine ⟨u0, by rw [List.getElem?_append_right (by omega), hvl]; simp, ?_⟩
          rw [show (st.wy a j' ++ [ps]).getD (st.wy a j').length [] = ps by simp [List.getD]]
          exact hpt _ _ _ hu0
    · simp only [xZ _ _ e]
      obtain ⟨u, eu, hu⟩ := h.way a j' ha hj'
      exact ⟨u, by rw [Array.getElem?_setIfInBounds_ne (by omega)]; exact eu, h.otherW hwk hslt hb hg hq eu (by omega) (by omega) (by omega) hu hpt⟩
theorem POwn.setRow {w w' : World} {S : Nat → Prop} {pb : Nat} {x : PX} {ns : List Nd} {R W : Nat} {D : Nat → Nat → Int} {st st' : PSt} {arr' : Array Value} (h : POwn w S pb x ns R W D st) (hc : Chg (fun b => b = x.wb) w w') (hw : w'.heap[x.wb]? = some (.cells arr' 162 (0, 0))) (hr : PRow w S arr' ns.length W st') (hg : st'.gv = st.gv ∧ st'.rc = st.rc) (hf : ∀ i n, (st'.wt i n).length ≤ 100000000 ∧ (st'.lb i n).length ≤ 100000000 ∧ (st'.wy i n).length ≤ 100000000) :
    POwn w' S pb { x with warr := arr' } ns R W D st' := by
  have fr : ∀ {b : Nat} {cur : Array Value} {t : TypeId}, w.heap[b]? = some (.cells cur t (0, 0)) → t ≠ 162 → w'.heap[b]? = w.heap[b]? := by
    intro b cur t hb ht
    refine hc.block b (Array.getElem?_eq_some_iff.1 hb).1 ?_
    intro e
    subst e
    rw [h.work] at hb
    simp only [Option.some.injEq, Obj.cells.injEq] at hb
    exact ht hb.2.1.symm
  have frO : ∀ (ty : TypeId) (sz : Nat) (u : Value) (m : Nat) (ys : List Value), ty ≠ 162 → OwnsIn S w ty sz u m ys → OwnsIn S w' ty sz u m ys := by
    intro ty sz u m ys ht ho
    refine ⟨kD ho.1 fun b hbb => ?_, ho.2⟩
    obtain ⟨cur, hc'⟩ := vZ ho.1 hbb
    exact fr hc' ht
  exact ⟨(fr h.root (by decide)).trans h.root, h.r0, h.r1, h.r2, h.r3, by rw [hg.1]; exact h.r4, h.r5, hw, h.sroot, h.swork, fun b hb => Nat.lt_of_lt_of_le (h.slt b hb) hc.size, frO _ _ _ _ _ (by decide) h.nodes, h.dist.map fun ty _ _ _ _ ht ho => frO _ _ _ _ _ (by rcases ht with rfl | rfl <;> decide) ho, by rw [hg.2]; exact frO _ _ _ _ _ (by decide) h.recs, hr.map (fun _ h => h) (fun ty _ _ _ _ ht ho => frO _ _ _ _ _ (by rcases ht with rfl | rfl <;> decide) ho) (fun b cur _ hb => fr hb (by decide)), h.small, ⟨hf, by rw [hg.2]; exact h.few.2⟩⟩
theorem POwn.appRow {w wa w4 : World} {S : Nat → Prop} {pb q g' : Nat} {x : PX} {ns : List Nd} {R W : Nat} {D : Nat → Nat → Int} {st st' : PSt} {v4 : Value} (h : POwn w S pb x ns R W D st) (hb : Bw w wa) (tyv : TypeId) (hty : tyv = 117 ∨ tyv = 183) (hz : wa.heap.size ≤ w4.heap.size) (hgp : ∀ (ty : TypeId), ty ≠ tyv → ∀ (b : Nat) (cur : Array Value), wa.heap[b]? = some (.cells cur ty (0, 0)) → w4.heap[b]? = wa.heap[b]?) (hlt : g' < w4.heap.size)
    (hr : w4.heap[x.wb]? = some (.cells x.warr 162 (0, 0)) → PRow (w4.setCell ⟨x.wb, q, none⟩ v4) (fun b => S b ∨ b = g') (x.warr.setIfInBounds q v4) ns.length W st') (hgv : st'.gv = st.gv ∧ st'.rc = st.rc) (hf : ∀ i n, (st'.wt i n).length ≤ 100000000 ∧ (st'.lb i n).length ≤ 100000000 ∧ (st'.wy i n).length ≤ 100000000) :
    POwn (w4.setCell ⟨x.wb, q, none⟩ v4) (fun b => S b ∨ b = g') pb { x with warr := x.warr.setIfInBounds q v4 } ns R W D st' := by
  have ha := h.bw hb
  have hw4 : w4.heap[x.wb]? = some (.cells x.warr 162 (0, 0)) := (hgp _ (by rcases hty with rfl | rfl <;> decide) _ _ ha.work).trans ha.work
  have hroot := (hgp _ (by rcases hty with rfl | rfl <;> decide) _ _ ha.root).trans ha.root
  have hne : pb ≠ x.wb := fun e => by have h1 := h.root; rw [e, h.work] at h1; simp at h1
  have frO : ∀ (t : TypeId) (s : Nat) (u : Value) (m : Nat) (ys : List Value), t ≠ tyv → t ≠ 162 → OwnsIn S w t s u m ys → OwnsIn (fun b => S b ∨ b = g') (w4.setCell ⟨x.wb, q, none⟩ v4) t s u m ys := fun t s u m ys h1 h2 ho => rest_owns h.work hb hw4 (hgp t h1) ho h2
  refine ⟨(Below.heap_setCell w4 ⟨x.wb, q, none⟩ _ pb hne).trans hroot, h.r0, h.r1, h.r2, h.r3, by rw [hgv.1]; exact h.r4, h.r5, qY hw4, .inl h.sroot, .inl h.swork, fun b hb' => ?_, ?_, ?_, ?_, hr hw4, h.small, ⟨hf, by rw [hgv.2]; exact h.few.2⟩⟩
  · rw [show (w4.setCell ⟨x.wb, q, none⟩ v4).heap.size = w4.heap.size by simp]
    rcases hb' with hb' | rfl
    · exact Nat.lt_of_lt_of_le (ha.slt b hb') hz
    · exact hlt
  · exact frO _ _ _ _ _ (by rcases hty with rfl | rfl <;> decide) (by decide) h.nodes
  · exact h.dist.map fun t _ _ _ _ ht ho => frO _ _ _ _ _ (by rcases hty with rfl | rfl <;> rcases ht with rfl | rfl <;> decide) (by rcases ht with rfl | rfl <;> decide) ho
  · rw [hgv.2]; exact frO _ _ _ _ _ (by rcases hty with rfl | rfl <;> decide) (by decide) h.recs
end Go.Proofs.Ytfemleimkbjehaa
