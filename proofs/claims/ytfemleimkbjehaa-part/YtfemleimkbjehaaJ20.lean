import Derived.Test.YtfemleimkbjehaaJ19
set_option maxRecDepth 1000000
set_option maxHeartbeats 40000000
set_option linter.unusedVariables false
set_option linter.unusedSimpArgs false
namespace Go.Proofs.Ytfemleimkbjehaa
open Go.RowKit
theorem fF {S : Nat → Prop} {pb : Nat} {ns : List Nd} {R W : Nat} {D : Nat → Nat → Int} {st : PSt} {w w0 w1 : World} {u : Value} {q : List Pt} (hB : Bw w w0) (ho : OwnP w0 w1 u q) (hA : POwn.After w0 w1 S pb ns R W D st) : OwnP w w1 u q ∧ POwn.After w w1 S pb ns R W D st := ⟨ho.weaken hB, After.of (Chg.bw hB) (fun _ h => .inl h) hA⟩
theorem cX {S : Nat → Prop} {pb : Nat} {x : PX} {ns : List Nd} {R W : Nat} {D : Nat → Nat → Int} {st : PSt} {w w0 : World} (hO : POwn w S pb x ns R W D st) (hB : Bw w w0) : OwnP w w0 (.slice none 0 0) [] ∧ POwn.After w w0 S pb ns R W D st := ⟨OwnP.nil _ _, S, x, hO.bw hB, Chg.bw hB, fun _ h => .inl h⟩
set_option maxRecDepth 100000 in
set_option maxHeartbeats 4000000 in
theorem pwa1 {S : Nat → Prop} {pb : Nat} {x : PX} {ns : List Nd} {R W : Nat} {D : Nat → Nat → Int} {st : PSt} (i n e s : Nat) (v : Int) (w : World) (hO : POwn w S pb x ns R W D st) (hi : i < W) (hn : n < ns.length) (he : e < 6) (hs : s < R) (hk : (qV ns n).kind = 1) (h6 : ∀ k, k < ns.length → (qV ns k).kind = 6 → 1 ≤ (qV ns k).k ∧ (qV ns k).k ≤ 8) (hf : ∀ a b, (st.wt a b).length ≤ 90000000) :
    Calls Try.prog 146 #[.pointer (some ⟨pb, 0, none⟩), .int .i64 (i : Int), .int .i64 (n : Int), .agg #[.int .i64 (e : Int), .int .i64 (s : Int)], .int .i64 v] w fun en w' => ∃ u, en = .returned u ∧ OwnP w w' u (tK ns R st i n e s v) ∧ POwn.After w w' S pb ns R W D (hH ns R W st i n e s v) := by
  have h8 := hO.small
  obtain ⟨na, nc, hvn, hnd⟩ := hO.ns
  obtain ⟨nb, noff, rfl, hnb, hnc⟩ := hnd n hn
  obtain ⟨d0, d1, d2, d3, d4⟩ := hnc n hn
  have c0 := qQ (o := 0) hO.root (hvn ▸ hO.r0)
  have lt0 := hO.slt _ hO.sroot
  have HO := qJ hO
  have hn1 : (n : Int) < (ns.length : Int) := by omega
  have HS : Hid (hH ns R W st i n e s v = { st with wt := jB ns W i n ⟨e, s, wrap64 (v + (qV ns n).k)⟩ st.wt ns.length }) := qJ (by unfold hH rN pH; rw [hk]; rfl)
  have HQ : Hid (tK ns R st i n e s v = jX ns n ⟨e, s, wrap64 (v + (qV ns n).k)⟩ ns.length) := qJ (by unfold tK rN pH; rw [hk]; rfl)
  have Hput := qJ (fun (w' : World) (h : Bw w w') => rQ i n e s (wrap64 (v + (qV ns n).k)) w' (hO.bw h) hi h6 hf)
  rw [hk] at d0
  generalize qV ns n = y at *
  clear hO hnd hnc h6 hf
  go_enter Try.func146, Try.ntmps146
  go_wp2_with (go_at_call 114; refine ((qK Hput) _ (by repeat first|exact br _|assumption|apply bd|apply bn|apply ba|refine bt ?_ (by assumption))).mono ?_; rintro en w1 ⟨u, rfl, hou, hA⟩)
  go_ret
  rw [qK HS, qK HQ]
  exact ⟨_, rfl, fF (by repeat first|exact br _|assumption|apply bd|apply bn|apply ba|refine bt ?_ (by assumption)) hou hA⟩
set_option maxRecDepth 100000 in
set_option maxHeartbeats 4000000 in
theorem pwa3 {S : Nat → Prop} {pb : Nat} {x : PX} {ns : List Nd} {R W : Nat} {D : Nat → Nat → Int} {st : PSt} (i n e s : Nat) (v : Int) (w : World) (hO : POwn w S pb x ns R W D st) (hi : i < W) (hn : n < ns.length) (he : e < 6) (hs : s < R) (hk : (qV ns n).kind = 3) (h6 : ∀ k, k < ns.length → (qV ns k).kind = 6 → 1 ≤ (qV ns k).k ∧ (qV ns k).k ≤ 8) (hf : ∀ a b, (st.wt a b).length ≤ 90000000) :
    Calls Try.prog 146 #[.pointer (some ⟨pb, 0, none⟩), .int .i64 (i : Int), .int .i64 (n : Int), .agg #[.int .i64 (e : Int), .int .i64 (s : Int)], .int .i64 v] w fun en w' => ∃ u, en = .returned u ∧ OwnP w w' u (tK ns R st i n e s v) ∧ POwn.After w w' S pb ns R W D (hH ns R W st i n e s v) := by
  have h8 := hO.small
  obtain ⟨na, nc, hvn, hnd⟩ := hO.ns
  obtain ⟨nb, noff, rfl, hnb, hnc⟩ := hnd n hn
  obtain ⟨d0, d1, d2, d3, d4⟩ := hnc n hn
  have c0 := qQ (o := 0) hO.root (hvn ▸ hO.r0)
  have lt0 := hO.slt _ hO.sroot
  have HO := qJ hO
  have hn1 : (n : Int) < (ns.length : Int) := by omega
  have HS : Hid (hH ns R W st i n e s v = { st with wt := jB ns W i n ⟨e, s, v⟩ st.wt ns.length }) := qJ (by unfold hH rN pH; rw [hk]; rfl)
  have HQ : Hid (tK ns R st i n e s v = jX ns n ⟨e, s, v⟩ ns.length) := qJ (by unfold tK rN pH; rw [hk]; rfl)
  have Hput := qJ (fun (w' : World) (h : Bw w w') => rQ i n e s v w' (hO.bw h) hi h6 hf)
  rw [hk] at d0
  generalize qV ns n = y at *
  clear hO hnd hnc h6 hf
  go_enter Try.func146, Try.ntmps146
  go_wp2_with (go_at_call 114; refine ((qK Hput) _ (by repeat first|exact br _|assumption|apply bd|apply bn|apply ba|refine bt ?_ (by assumption))).mono ?_; rintro en w1 ⟨u, rfl, hou, hA⟩)
  go_ret
  rw [qK HS, qK HQ]
  exact ⟨_, rfl, fF (by repeat first|exact br _|assumption|apply bd|apply bn|apply ba|refine bt ?_ (by assumption)) hou hA⟩
set_option maxRecDepth 100000 in
set_option maxHeartbeats 4000000 in
theorem pwa2 {S : Nat → Prop} {pb : Nat} {x : PX} {ns : List Nd} {R W : Nat} {D : Nat → Nat → Int} {st : PSt} (i n e s : Nat) (v : Int) (w : World) (hO : POwn w S pb x ns R W D st) (hi : i < W) (hn : n < ns.length) (he : e < 6) (hs : s < R) (hk : (qV ns n).kind = 2) (hk2 : 1 ≤ (qV ns n).k ∧ (qV ns n).k ≤ 100) (h6 : ∀ k, k < ns.length → (qV ns k).kind = 6 → 1 ≤ (qV ns k).k ∧ (qV ns k).k ≤ 8) (hf : ∀ a b, (st.wt a b).length ≤ 90000000) :
    Calls Try.prog 146 #[.pointer (some ⟨pb, 0, none⟩), .int .i64 (i : Int), .int .i64 (n : Int), .agg #[.int .i64 (e : Int), .int .i64 (s : Int)], .int .i64 v] w fun en w' => ∃ u, en = .returned u ∧ OwnP w w' u (tK ns R st i n e s v) ∧ POwn.After w w' S pb ns R W D (hH ns R W st i n e s v) := by
  have h8 := hO.small
  obtain ⟨na, nc, hvn, hnd⟩ := hO.ns
  obtain ⟨nb, noff, rfl, hnb, hnc⟩ := hnd n hn
  obtain ⟨d0, d1, d2, d3, d4⟩ := hnc n hn
  have c0 := qQ (o := 0) hO.root (hvn ▸ hO.r0)
  have lt0 := hO.slt _ hO.sroot
  have HO := qJ hO
  have hn1 : (n : Int) < (ns.length : Int) := by omega
  have Hput := qJ (fun (w' : World) (h : Bw w w') => rQ i n e s v w' (hO.bw h) hi h6 hf)
  have HU : Hid (rN ns R (st.lb i n) n e s v = (v % (qV ns n).k == (qV ns n).m)) := qJ (by unfold rN; rw [hk]; rfl)
  have HM : Hid (pH ns n e s v = ⟨e, s, v⟩) := qJ (by unfold pH; rw [hk]; rfl)
  have HS : Hid (hH ns R W st i n e s v = { st with wt := if rN ns R (st.lb i n) n e s v then jB ns W i n (pH ns n e s v) st.wt ns.length else st.wt }) := qJ (by unfold hH; rw [hk]; rfl)
  have HQ : Hid (tK ns R st i n e s v = if rN ns R (st.lb i n) n e s v then jX ns n (pH ns n e s v) ns.length else []) := qJ (by unfold tK; rw [hk]; rfl)
  rw [qK HM] at HS HQ
  rw [hk] at d0
  generalize rN ns R (st.lb i n) n e s v = U at *
  generalize qV ns n = y at *
  clear hO hnd hnc h6 hf HM
  cases hU : (v % y.k == y.m) with
  | true =>
    rw [qK HU, hU, if_pos rfl] at HS HQ
    go_enter Try.func146, Try.ntmps146
    go_wp2_with fail
    go_quiet ((go_at_call 152; refine Calls.quiet_of_same (tL _ _ _ hk2.1 (by omega))))
    go_wp2_with (go_at_call 114; refine ((qK Hput) _ (by repeat first|exact br _|assumption|apply bd|apply bn|apply ba|refine bt ?_ (by assumption))).mono ?_; rintro en w1 ⟨u, rfl, hou, hA⟩)
    go_ret
    rw [qK HS, qK HQ]
    exact ⟨_, rfl, fF (by repeat first|exact br _|assumption|apply bd|apply bn|apply ba|refine bt ?_ (by assumption)) hou hA⟩
  | false =>
    rw [qK HU, hU] at HS HQ
    go_enter Try.func146, Try.ntmps146
    go_wp2_with fail
    go_quiet ((go_at_call 152; refine Calls.quiet_of_same (tL _ _ _ hk2.1 (by omega))))
    go_wp2_with fail
    go_ret
    rw [qK HS, qK HQ]
    exact ⟨_, rfl, cX (qK HO) (by repeat first|exact br _|assumption|apply bd|apply bn|apply ba|refine bt ?_ (by assumption))⟩
set_option maxRecDepth 100000 in
set_option maxHeartbeats 4000000 in
theorem pwa4 {S : Nat → Prop} {pb : Nat} {x : PX} {ns : List Nd} {R W : Nat} {D : Nat → Nat → Int} {st : PSt} (i n e s : Nat) (v : Int) (w : World) (hO : POwn w S pb x ns R W D st) (hi : i < W) (hn : n < ns.length) (he : e < 6) (hs : s < R) (hk : (qV ns n).kind = 4) (h6 : ∀ k, k < ns.length → (qV ns k).kind = 6 → 1 ≤ (qV ns k).k ∧ (qV ns k).k ≤ 8) (hf : ∀ a b, (st.wt a b).length ≤ 90000000) :
    Calls Try.prog 146 #[.pointer (some ⟨pb, 0, none⟩), .int .i64 (i : Int), .int .i64 (n : Int), .agg #[.int .i64 (e : Int), .int .i64 (s : Int)], .int .i64 v] w fun en w' => ∃ u, en = .returned u ∧ OwnP w w' u (tK ns R st i n e s v) ∧ POwn.After w w' S pb ns R W D (hH ns R W st i n e s v) := by
  have h8 := hO.small
  obtain ⟨na, nc, hvn, hnd⟩ := hO.ns
  obtain ⟨nb, noff, rfl, hnb, hnc⟩ := hnd n hn
  obtain ⟨d0, d1, d2, d3, d4⟩ := hnc n hn
  have c0 := qQ (o := 0) hO.root (hvn ▸ hO.r0)
  have lt0 := hO.slt _ hO.sroot
  have HO := qJ hO
  have hn1 : (n : Int) < (ns.length : Int) := by omega
  have c1 := qQ (o := 1) hO.root hO.r1
  have hsx : s < 4 := by omega
  have Hput := qJ (fun (w' : World) (h : Bw w w') => rQ i n e ((s : Int) + 1) v w' (hO.bw h) hi h6 hf)
  have HU : Hid (rN ns R (st.lb i n) n e s v = decide ((s : Int) + 1 < R)) := qJ (by unfold rN; rw [hk]; rfl)
  have HM : Hid (pH ns n e s v = ⟨e, (s : Int) + 1, v⟩) := qJ (by unfold pH; rw [hk]; rfl)
  have HS : Hid (hH ns R W st i n e s v = { st with wt := if rN ns R (st.lb i n) n e s v then jB ns W i n (pH ns n e s v) st.wt ns.length else st.wt }) := qJ (by unfold hH; rw [hk]; rfl)
  have HQ : Hid (tK ns R st i n e s v = if rN ns R (st.lb i n) n e s v then jX ns n (pH ns n e s v) ns.length else []) := qJ (by unfold tK; rw [hk]; rfl)
  rw [qK HM] at HS HQ
  rw [hk] at d0
  generalize rN ns R (st.lb i n) n e s v = U at *
  generalize qV ns n = y at *
  clear hO hnd hnc h6 hf HM
  by_cases hU : (s : Int) + 1 < R
  · rw [qK HU, decide_eq_true hU, if_pos rfl] at HS HQ
    go_enter Try.func146, Try.ntmps146
    go_wp2_with fail
    go_quiet (fail)
    go_wp2_with (go_at_call 114; refine ((qK Hput) _ (by repeat first|exact br _|assumption|apply bd|apply bn|apply ba|refine bt ?_ (by assumption))).mono ?_; rintro en w1 ⟨u, rfl, hou, hA⟩)
    go_ret
    rw [qK HS, qK HQ]
    exact ⟨_, rfl, fF (by repeat first|exact br _|assumption|apply bd|apply bn|apply ba|refine bt ?_ (by assumption)) hou hA⟩
  · rw [qK HU, decide_eq_false hU] at HS HQ
    go_enter Try.func146, Try.ntmps146
    go_wp2_with fail
    go_quiet (fail)
    go_wp2_with fail
    go_ret
    rw [qK HS, qK HQ]
    exact ⟨_, rfl, cX (qK HO) (by repeat first|exact br _|assumption|apply bd|apply bn|apply ba|refine bt ?_ (by assumption))⟩
set_option maxRecDepth 100000 in
set_option maxHeartbeats 4000000 in
theorem pwa0 {S : Nat → Prop} {pb : Nat} {x : PX} {ns : List Nd} {R W : Nat} {D : Nat → Nat → Int} {st : PSt} (i n e s : Nat) (v : Int) (w : World) (hO : POwn w S pb x ns R W D st) (hi : i < W) (hn : n < ns.length) (he : e < 6) (hs : s < R) (hk : (qV ns n).kind = 0) :
    Calls Try.prog 146 #[.pointer (some ⟨pb, 0, none⟩), .int .i64 (i : Int), .int .i64 (n : Int), .agg #[.int .i64 (e : Int), .int .i64 (s : Int)], .int .i64 v] w fun en w' => ∃ u, en = .returned u ∧ OwnP w w' u (tK ns R st i n e s v) ∧ POwn.After w w' S pb ns R W D (hH ns R W st i n e s v) := by
  have h8 := hO.small
  obtain ⟨na, nc, hvn, hnd⟩ := hO.ns
  obtain ⟨nb, noff, rfl, hnb, hnc⟩ := hnd n hn
  obtain ⟨d0, d1, d2, d3, d4⟩ := hnc n hn
  have c0 := qQ (o := 0) hO.root (hvn ▸ hO.r0)
  have lt0 := hO.slt _ hO.sroot
  have HO := qJ hO
  have hn1 : (n : Int) < (ns.length : Int) := by omega
  have HS : Hid (hH ns R W st i n e s v = st) := qJ (by unfold hH rN; rw [hk]; rfl)
  have HQ : Hid (tK ns R st i n e s v = []) := qJ (by unfold tK rN; rw [hk]; rfl)
  rw [hk] at d0
  generalize qV ns n = y at *
  clear hO hnd hnc
  go_enter Try.func146, Try.ntmps146
  go_wp2_with fail
  go_ret
  rw [qK HS, qK HQ]
  exact ⟨_, rfl, cX (qK HO) (by repeat first|exact br _|assumption|apply bd|apply bn|apply ba|refine bt ?_ (by assumption))⟩
set_option maxRecDepth 100000 in
/-- The cells of a tally are set. -/
theorem PRow.setTl {w : World} {S : Nat → Prop} {warr arr' : Array Value} {L W i m : Nat} {st : PSt} {f : Nat → Value} (h : PRow w S warr L W st) (hL : L ≤ 8) (hi : i < W) (hm : m < L) (hs : arr'.size = warr.size) (ho : ∀ p, (p < i * 3684 + 32 + m * 408 ∨ i * 3684 + 32 + m * 408 + 408 ≤ p) → arr'[p]? = warr[p]?) (hT : ∀ k, k < 408 → arr'[i * 3684 + 32 + m * 408 + k]? = some (f k)) (hn : ∀ k, k < 408 → Value.ownBlock (f k) = none) : PRow w S arr' L W { st with tl := kY st.tl i m f } := by
  have far : ∀ a r, r < 3684 → (a ≠ i ∨ r < 32 + m * 408 ∨ 32 + m * 408 + 408 ≤ r) → (a * 3684 + r < i * 3684 + 32 + m * 408 ∨ i * 3684 + 32 + m * 408 + 408 ≤ a * 3684 + r) := by
    intro a r hr h1
    by_cases e : a = i
    · subst e; omega
    · rcases Nat.lt_or_gt_of_ne e with h2 | h2
      · have := Nat.mul_le_mul_right 3684 (show a + 1 ≤ i from h2); rw [Nat.add_mul] at this; omega
      · have := Nat.mul_le_mul_right 3684 (show i + 1 ≤ a from h2); rw [Nat.add_mul] at this; omega
  refine h.plain (Q := fun p => i * 3684 + 32 + m * 408 ≤ p ∧ p < i * 3684 + 32 + m * 408 + 408) hL hs (fun p hp => ho p (by omega)) (fun p v hp hv => ?_) (fun a ha => ⟨fun n hn' e => ?_, fun j hj e => ?_⟩) (fun a b ha hb => ⟨?_, ?_⟩) (fun a b ha hb k hk => ?_) (fun a ha k hk => ?_) rfl rfl rfl
  · have h1 := hT (p - (i * 3684 + 32 + m * 408)) (by omega)
    rw [show i * 3684 + 32 + m * 408 + (p - (i * 3684 + 32 + m * 408)) = p by omega, hv] at h1
    simp at h1; subst h1; exact hn _ (by omega)
  · have := far a (16 + n) (by omega) (by omega); omega
  · have := far a (3680 + j) (by omega) (by omega); omega
  · rw [ho _ (by have := far a (b * 2) (by omega) (by omega); omega)]; exact (h.src a b ha hb).1
  · rw [ho _ (by have := far a (b * 2 + 1) (by omega) (by omega); omega)]; exact (h.src a b ha hb).2
  · by_cases e : a = i ∧ b = m
    · obtain ⟨rfl, rfl⟩ := e
      simp only [zZ]
      exact hT k hk
    · simp only [yH _ _ e]
      rw [ho _ (by have := far a (32 + b * 408 + k) (by omega) (by omega); omega)]; exact h.tal a b ha hb k hk
  · rw [ho _ (by have := far a (3296 + k) (by omega) (by omega); omega)]; exact h.bel a ha k hk
theorem tal_none {ns : List Nd} {R B : Nat} {p : PSt} (h : PInv ns R p B) {a b : Nat} (hk : (qV ns b).kind = 6) : ∀ k, k < 408 → Value.ownBlock (p.tl a b k) = none := by
  intro k hk4
  by_cases h1 : k < 24
  · obtain ⟨t, e⟩ := h.wn a b k h1; rw [e]; rfl
  · have h2 := h.gs a b hk ((k - 24) / 64) ((k - 24) % 64 / 16) ((k - 24) % 8) (by omega) (by omega) (by omega)
    by_cases h3 : (k - 24) % 16 < 8
    · obtain ⟨t, e⟩ := h2.1
      rw [show 24 + (k - 24) / 64 * 64 + (k - 24) % 64 / 16 * 16 + (k - 24) % 8 = k by omega] at e
      rw [e]; rfl
    · obtain ⟨t, e⟩ := h2.2
      rw [show 24 + (k - 24) / 64 * 64 + (k - 24) % 64 / 16 * 16 + 8 + (k - 24) % 8 = k by omega] at e
      rw [e]; rfl
theorem add_cells {arr : Array Value} {o e s g : Nat} {v q : Int} {f : Nat → Value} (he : e < 6) (hs4 : s < 4) (hg : (v % q).toNat = g) (hg8 : g < 8) (h : ∀ k, k < 408 → arr[o + k]? = some (f k)) : ∀ k, k < 408 → (((arr.setIfInBounds (o + 24 + e * 64 + s * 16 + g) (.int .i64 (wrap64 (intOf (f (24 + e * 64 + s * 16 + g)) + v)))).setIfInBounds (o + 24 + e * 64 + s * 16 + 8 + g) (.bool true)).setIfInBounds (o + e * 4 + s) (.bool true))[o + k]? = some (yP f e s v q k) := by
  intro k hk
  have hz : o + k < arr.size := (Array.getElem?_eq_some_iff.1 (h k hk)).1
  unfold yP
  rw [hg]
  by_cases e1 : k = e * 4 + s
  · subst e1
    rw [if_pos rfl, ← Nat.add_assoc, Array.getElem?_setIfInBounds_self_of_lt (by simp; omega)]
  · rw [if_neg e1, Array.getElem?_setIfInBounds_ne (by omega)]
    by_cases e2 : k = 24 + e * 64 + s * 16 + 8 + g
    · rw [if_pos e2, show o + k = o + 24 + e * 64 + s * 16 + 8 + g by omega, Array.getElem?_setIfInBounds_self_of_lt (by simp; omega)]
    · rw [if_neg e2, Array.getElem?_setIfInBounds_ne (by omega)]
      by_cases e3 : k = 24 + e * 64 + s * 16 + g
      · rw [if_pos e3, show o + k = o + 24 + e * 64 + s * 16 + g by omega, Array.getElem?_setIfInBounds_self_of_lt (by omega)]
      · rw [if_neg e3, Array.getElem?_setIfInBounds_ne (by omega)]
        exact h k hk
theorem take_cells {arr : Array Value} {o e s : Nat} {f : Nat → Value} (he : e < 6) (hs4 : s < 4) (h : ∀ k, k < 408 → arr[o + k]? = some (f k)) : ∀ k, k < 408 → ((bX arr (o + 24 + e * 64 + s * 16) [.int .i64 0, .int .i64 0, .int .i64 0, .int .i64 0, .int .i64 0, .int .i64 0, .int .i64 0, .int .i64 0, .bool false, .bool false, .bool false, .bool false, .bool false, .bool false, .bool false, .bool false]).setIfInBounds (o + e * 4 + s) (.bool false))[o + k]? = some (vX f e s k) := by
  intro k hk
  have hz : o + k < arr.size := (Array.getElem?_eq_some_iff.1 (h k hk)).1
  have hz2 : o + 407 < arr.size := (Array.getElem?_eq_some_iff.1 (h 407 (by omega))).1
  unfold vX
  by_cases e1 : k = e * 4 + s
  · subst e1
    rw [if_pos rfl, ← Nat.add_assoc, Array.getElem?_setIfInBounds_self_of_lt (by rw [setL_size]; omega)]
  · rw [if_neg e1, Array.getElem?_setIfInBounds_ne (by omega)]
    by_cases e2 : 24 + e * 64 + s * 16 ≤ k ∧ k < 24 + e * 64 + s * 16 + 16
    · obtain ⟨j, hj⟩ : ∃ j, k = 24 + e * 64 + s * 16 + j := ⟨k - (24 + e * 64 + s * 16), by omega⟩
      subst hj
      have hj16 : j < 16 := by omega
      rw [show o + (24 + e * 64 + s * 16 + j) = o + 24 + e * 64 + s * 16 + j by omega, setL_in _ _ _ _ (by simpa using hj16) (by simp; omega)]
      by_cases e3 : j < 8
      · rw [if_pos ⟨by omega, by omega⟩]
        match j, e3 with
        | 0, _ => rfl
        | 1, _ => rfl
        | 2, _ => rfl
        | 3, _ => rfl
        | 4, _ => rfl
        | 5, _ => rfl
        | 6, _ => rfl
        | 7, _ => rfl
      · rw [if_neg (by omega), if_pos ⟨by omega, by omega⟩]
        obtain ⟨d, rfl⟩ : ∃ d, j = 8 + d := ⟨j - 8, by omega⟩
        have hd : d < 8 := by omega
        match d, hd with
        | 0, _ => rfl
        | 1, _ => rfl
        | 2, _ => rfl
        | 3, _ => rfl
        | 4, _ => rfl
        | 5, _ => rfl
        | 6, _ => rfl
        | 7, _ => rfl
    · rw [dK _ _ _ _ (by simp; omega), if_neg (by omega), if_neg (by omega)]
      exact h k hk
theorem POwn.addRec {w wa w4 : World} {S : Nat → Prop} {pb g' c : Nat} {x : PX} {ns : List Nd} {R W : Nat} {D : Nat → Nat → Int} {st : PSt} {y : Nd} (h : POwn w S pb x ns R W D st) (hb : Bw w wa)
    (ho : w4.ownsRow 0 110 5 (.slice (some ⟨g', 0, none⟩) (st.rc.length + 1) c) (st.rc.length + 1) (qM st.rc ++ y.cells)) (hg : wa.grownBy w4 x.vr.ownBlock) (hf : st.rc.length + 1 ≤ 100000000) :
    POwn (w4.setCell ⟨pb, 5, none⟩ (.slice (some ⟨g', 0, none⟩) (st.rc.length + 1) c)) (fun b => S b ∨ b = g') pb { x with rarr := x.rarr.setIfInBounds 5 (.slice (some ⟨g', 0, none⟩) (st.rc.length + 1) c), vr := .slice (some ⟨g', 0, none⟩) (st.rc.length + 1) c } ns R W D { st with rc := st.rc ++ [y] } := by
  have ha := h.bw hb
  have hgp := pW (fun b hbb => zK ha.recs.1 hbb) hg
  have hroot := (hgp _ (by decide) _ _ ha.root).trans ha.root
  have hwork := (hgp _ (by decide) _ _ ha.work).trans ha.work
  have hne : x.wb ≠ pb := fun e => by have h1 := h.work; rw [e, h.root] at h1; simp at h1
  have hr5 : 5 < x.rarr.size := (Array.getElem?_eq_some_iff.1 h.r5).1
  have fr : ∀ (t : TypeId) (b : Nat) (cur : Array Value), t ≠ 110 → t ≠ 106 → w.heap[b]? = some (.cells cur t (0, 0)) → (w4.setCell ⟨pb, 5, none⟩ (.slice (some ⟨g', 0, none⟩) (st.rc.length + 1) c)).heap[b]? = w.heap[b]? := by
    intro t b cur h1 h2 hc
    have hlt := (Array.getElem?_eq_some_iff.1 hc).1
    have hca := (Below.block hb b hlt).trans hc
    have hbp : b ≠ pb := by
      intro e
      subst e
      rw [h.root] at hc
      simp only [Option.some.injEq, Obj.cells.injEq] at hc
      exact h2 hc.2.1.symm
    exact (Below.heap_setCell w4 ⟨pb, 5, none⟩ _ b hbp).trans ((hgp t h1 b cur hca).trans (Below.block hb b hlt))
  have frO : ∀ (t : TypeId) (s : Nat) (u : Value) (m : Nat) (ys : List Value), t ≠ 110 → t ≠ 106 → OwnsIn S w t s u m ys → OwnsIn (fun b => S b ∨ b = g') (w4.setCell ⟨pb, 5, none⟩ (.slice (some ⟨g', 0, none⟩) (st.rc.length + 1) c)) t s u m ys := by
    intro t s u m ys h1 h2 ho'
    refine ⟨kL ho'.1 fun b hbb => ?_, fun b hbb => .inl (ho'.2 b hbb)⟩
    obtain ⟨cur, hc⟩ := zK ho'.1 hbb
    exact fr t b cur h1 h2 hc
  have hz := hg.size
  refine ⟨qY hroot, (Array.getElem?_setIfInBounds_ne (by decide)).trans h.r0, (Array.getElem?_setIfInBounds_ne (by decide)).trans h.r1, (Array.getElem?_setIfInBounds_ne (by decide)).trans h.r2, (Array.getElem?_setIfInBounds_ne (by decide)).trans h.r3, (Array.getElem?_setIfInBounds_ne (by decide)).trans h.r4, Array.getElem?_setIfInBounds_self_of_lt hr5, (Below.heap_setCell w4 ⟨pb, 5, none⟩ _ x.wb hne).trans hwork, .inl h.sroot, .inl h.swork, fun b hb' => ?_, frO _ _ _ _ _ (by decide) (by decide) h.nodes, h.dist.map fun t _ _ _ _ ht ho => frO _ _ _ _ _ (by rcases ht with rfl | rfl <;> decide) (by rcases ht with rfl | rfl <;> decide) ho, ⟨?_, fun b hb => .inr (by simpa [Value.ownBlock] using hb.symm)⟩, ?_, h.small, ⟨h.few.1, by simpa using hf⟩⟩
  · rw [show (w4.setCell ⟨pb, 5, none⟩ (.slice (some ⟨g', 0, none⟩) (st.rc.length + 1) c)).heap.size = w4.heap.size by simp]
    rcases hb' with hb' | rfl
    · exact Nat.lt_of_lt_of_le (ha.slt b hb') hz
    · exact (World.ownsRow.lt ho b rfl).2
  · show World.ownsRow _ 0 _ 5 _ (st.rc ++ [y]).length (qM (st.rc ++ [y]))
    rw [show qM (st.rc ++ [y]) = qM st.rc ++ y.cells by simp [qM], List.length_append]
    exact kJ hroot ho (by decide)
  · obtain ⟨a1, a2, a3, a4, a5, a6, a7, a8, a9⟩ := h.row.map (S' := fun b => S b ∨ b = g') (w' := w4.setCell ⟨pb, 5, none⟩ (.slice (some ⟨g', 0, none⟩) (st.rc.length + 1) c)) (fun b hb => .inl hb) (fun t _ _ _ _ ht ho => frO _ _ _ _ _ (by rcases ht with rfl | rfl <;> decide) (by rcases ht with rfl | rfl <;> decide) ho) (fun b cur _ hb => fr _ b cur (by decide) (by decide) hb)
    exact ⟨a1, a2, a3, a4, a5, a6, a7, a8, a9⟩
theorem ownP_one {w : World} {g base : Nat} {p : Pt} (hb : base ≤ g) (h : w.heap[g]? = some (.cells #[.int .i64 p.node, .bool p.out, .int .i64 p.epoch, .int .i64 p.round, .int .i64 p.count] 194 (0, 0))) : w.ownsRow base 194 5 (.slice (some ⟨g, 0, none⟩) 1 1) 1 (qG [p]) :=
  ⟨rfl, .inr ⟨g, 1, _, rfl, hb, h, Nat.le_refl _, by unfold maxLen; omega, rfl, rfl⟩⟩
theorem nd_cells5 {w : World} {g : Nat} {ty : TypeId} {x : Nd} (h : w.heap[g]? = some (.cells #[.int .i64 x.kind, .int .i64 x.a, .int .i64 x.b, .int .i64 x.k, .int .i64 x.m] ty (0, 0))) : ∀ j u, x.cells[j]? = some u → w.cell? ⟨g, j, none⟩ = some u := by
  intro j u hj
  unfold Nd.cells at hj
  match j, hj with
  | 0, hj => simp at hj; subst hj; exact qQ h rfl
  | 1, hj => simp at hj; subst hj; exact qQ h rfl
  | 2, hj => simp at hj; subst hj; exact qQ h rfl
  | 3, hj => simp at hj; subst hj; exact qQ h rfl
  | 4, hj => simp at hj; subst hj; exact qQ h rfl
theorem alloc_at0 (w : World) (A B : Obj) : ((w.alloc A).alloc B).heap[w.heap.size]? = some A := (yU w A B).1
end Go.Proofs.Ytfemleimkbjehaa
