import Derived.Test.YtfemleimkbjehaaJ7
import Derived.Deep.RegionHeld3
import Derived.Test.YtfemleimkbjehaaJ1
set_option maxRecDepth 1000000
set_option maxHeartbeats 40000000
set_option linter.unusedVariables false
set_option linter.unusedSimpArgs false
namespace Go.Proofs.Ytfemleimkbjehaa
open Go.RowKit
def canB (p : Pt) : Bool := (!(decide (p.node < 0) || decide (8 ≤ p.node))) && ((!(decide (p.epoch < 0) || decide (5 < p.epoch))) && (decide (0 ≤ p.round) && decide (p.round < 4)))
theorem canB_of {L R : Nat} {p : Pt} (h : wP L R p) (hL : L ≤ 8) (hR : R ≤ 4) : canB p = true := by
  obtain ⟨n, e, s, h1, h2, h3, h4, h5, h6⟩ := h
  unfold canB
  rw [h1, h3, h5]
  simp
  omega
set_option maxRecDepth 100000 in
set_option maxHeartbeats 2000000 in
theorem pcanBe_any (p : Pt) (w : World) : Calls Try.prog 117 #[p.val] w fun e w' => e = .returned (.bool (canB p)) ∧ Bw w w' := by
  obtain ⟨n, o, ep, r, c⟩ := p
  simp only [Pt.val]
  have HC : Hid (canB ⟨n, o, ep, r, c⟩ = ((!(decide (n < 0) || decide (8 ≤ n))) && ((!(decide (ep < 0) || decide (5 < ep))) && (decide (0 ≤ r) && decide (r < 4))))) := qJ rfl
  generalize canB ⟨n, o, ep, r, c⟩ = cb at *
  cases h1 : decide (n < 0) with
  | true =>
    have Hs : Hid (cb = false) := qJ (by rw [qK HC, h1]; rfl)
    go_enter Try.func117, Try.ntmps117
    go_wp2_with fail
    go_ret
    exact ⟨ret_bool (qK Hs).symm, (by repeat first|exact br _|assumption|apply bd|apply bn|apply ba|refine bt ?_ (by assumption))⟩
  | false =>
    cases h2 : decide (8 ≤ n) with
    | true =>
      have Hs : Hid (cb = false) := qJ (by rw [qK HC, h1, h2]; rfl)
      go_enter Try.func117, Try.ntmps117
      go_wp2_with fail
      go_ret
      exact ⟨ret_bool (qK Hs).symm, (by repeat first|exact br _|assumption|apply bd|apply bn|apply ba|refine bt ?_ (by assumption))⟩
    | false =>
      cases h3 : decide (ep < 0) with
      | true =>
        have Hs : Hid (cb = false) := qJ (by rw [qK HC, h1, h2, h3]; rfl)
        go_enter Try.func117, Try.ntmps117
        go_wp2_with fail
        go_ret
        exact ⟨ret_bool (qK Hs).symm, (by repeat first|exact br _|assumption|apply bd|apply bn|apply ba|refine bt ?_ (by assumption))⟩
      | false =>
        cases h4 : decide (5 < ep) with
        | true =>
          have Hs : Hid (cb = false) := qJ (by rw [qK HC, h1, h2, h3, h4]; rfl)
          go_enter Try.func117, Try.ntmps117
          go_wp2_with fail
          go_ret
          exact ⟨ret_bool (qK Hs).symm, (by repeat first|exact br _|assumption|apply bd|apply bn|apply ba|refine bt ?_ (by assumption))⟩
        | false =>
          cases h5 : decide (0 ≤ r) with
          | false =>
            have Hs : Hid (cb = false) := qJ (by rw [qK HC, h1, h2, h3, h4, h5]; rfl)
            go_enter Try.func117, Try.ntmps117
            go_wp2_with fail
            go_ret
            exact ⟨ret_bool (qK Hs).symm, (by repeat first|exact br _|assumption|apply bd|apply bn|apply ba|refine bt ?_ (by assumption))⟩
          | true =>
            have Hs : Hid (cb = decide (r < 4)) := qJ (by rw [qK HC, h1, h2, h3, h4, h5]; rfl)
            go_enter Try.func117, Try.ntmps117
            go_wp2_with fail
            go_ret
            exact ⟨ret_bool (qK Hs).symm, (by repeat first|exact br _|assumption|apply bd|apply bn|apply ba|refine bt ?_ (by assumption))⟩
def plI (o : Bool) : Int := if o then 1 else 0
theorem fL (o : Bool) (w : World) : Calls Try.prog 138 #[.bool o] w fun e w' => e = .returned (.int .i64 (plI o)) ∧ w' = w := by
  cases o with
  | true =>
    go_enter Try.func138, Try.ntmps138
    go_wp2_with fail
    go_ret
    exact ⟨rfl, rfl⟩
  | false =>
    go_enter Try.func138, Try.ntmps138
    go_wp2_with fail
    go_ret
    exact ⟨rfl, rfl⟩
def BelAt (w : World) (b o : Nat) (T : Nat → Int) : Prop := b < w.heap.size ∧ ∀ k, k < 384 → w.cell? ⟨b, o + k, none⟩ = some (.int .i64 (T k))
theorem BelAt.below {w w' : World} {b o : Nat} {T : Nat → Int} (h : BelAt w b o T) (hb : Bw w w') : BelAt w' b o T := by
  obtain ⟨q, _⟩ := qX hb
  exact ⟨Nat.lt_of_lt_of_le h.1 hb.size, fun k hk => (q _ _ h.1).trans (h.2 k hk)⟩
theorem spot4_lt {n e s : Nat} {o : Bool} (hn : n < 8) (he : e < 6) (hs : s < 4) : jZ 4 n e s o < 384 := spotN_lt (L := 8) hn he hs
theorem spot4_eq (n e s : Nat) (o : Bool) : jZ 4 n e s o = n * 48 + (if o then 1 else 0) * 24 + e * 4 + s := by
  unfold jZ
  cases o <;> simp <;> omega
theorem BelAt.cell {w : World} {b o : Nat} {T : Nat → Int} (h : BelAt w b o T) {n e s : Nat} {ou : Bool} (hn : n < 8) (he : e < 6) (hs : s < 4) : w.cell? ⟨b, o + n * 48 + (plI ou).toNat * 24 + e * 4 + s, none⟩ = some (.int .i64 (T (jZ 4 n e s ou))) := by
  have := h.2 _ (spot4_lt (o := ou) hn he hs)
  rw [← this, spot4_eq]
  congr 2
  cases ou <;> simp [plI] <;> omega
set_option maxRecDepth 100000 in
set_option maxHeartbeats 4000000 in
theorem hZ (b o : Nat) (T : Nat → Int) (n k : Nat) (w : World) (hn : n < 8) (hk : k < 2) (hb : BelAt w b o T) :
    Calls Try.prog 116 #[.pointer (some ⟨b, o, none⟩), .int .i64 (n : Int), .bool (kB k)] w fun e w' => ∃ v, e = .returned v ∧ OwnP w w' v (vE T 4 n k 6) ∧ Bw w w' := by
  have HB := qJ hb
  have hlt0 := hb.1
  clear hb
  generalize hkb : kB k = kb at *
  have Hkb := qJ hkb
  clear hkb
  have hn1 : (n : Int) < 8 := by omega
  go_enter Try.func116, Try.ntmps116
  go_wp2_with fail
  go_loopw [7, 8] (fun v i wr => ∃ e : Nat, e ≤ 6 ∧ i = .int .i64 e ∧ OwnP w wr v (vE T 4 n k e) ∧ Bw w wr) (fun _ i _ => 6 - (intOf i).toNat)
  case atStart => exact ⟨0, Nat.zero_le _, rfl, OwnP.nil _ _, Bw.refl _⟩
  case round =>
    obtain ⟨e, he, rfl, hown, hB⟩ := hrel
    rename World => wo
    have hle := vE_len T 4 n k e
    by_cases hlt : e < 6
    · have hl1 : decide ((e : Int) ≤ 5) = true := by simp; omega
      go_wp2_with fail
      go_loopw [7, 9] (fun v i wr => ∃ s : Nat, s ≤ 4 ∧ i = .int .i64 s ∧ OwnP w wr v (vE T 4 n k e ++ vS T 4 n k e s) ∧ Bw w wr) (fun _ i _ => 4 - (intOf i).toNat)
      case atStart => exact ⟨0, Nat.zero_le _, rfl, by simpa [vS] using hown, hB⟩
      case round =>
        clear hown hB
        obtain ⟨s, hs, rfl, hown, hB⟩ := hrel
        have hlS := vS_len T 4 n k e s
        have hle2 : (vE T 4 n k e ++ vS T 4 n k e s).length ≤ 1000 := by rw [List.length_append]; omega
        have hb' := (qK HB).below hB
        have hlt1 := hb'.1
        by_cases hslt : s < 4
        · have hc := hb'.cell (ou := kb) hn hlt hslt
          have Hs0 : Hid (vS T 4 n k e (s + 1) = if T (jZ 4 n e s kb) == 0 then vS T 4 n k e s else vS T 4 n k e s ++ [⟨n, kb, e, s, T (jZ 4 n e s kb)⟩]) := qJ (by rw [vS, qK Hkb])
          generalize T (jZ 4 n e s kb) = tv at *
          have hs1 : decide ((s : Int) < 4) = true := by simp; omega
          have he1 : (e : Int) < 6 := by omega
          have hs2 : (s : Int) < 4 := by omega
          obtain ⟨p0, p1, hpl⟩ : 0 ≤ plI kb ∧ plI kb < 2 ∧ True := by cases kb <;> simp [plI]
          have Hpl := qJ (fun w => fL kb w)
          generalize plI kb = pl at *
          go_wp2_with fail
          go_quiet ((go_at_call 138; refine Calls.quiet_of_same (qK Hpl _)))
          cases htv : (tv == 0) with
          | true =>
            have htv' : (tv != 0) = false := by simpa using htv
            have Hs : Hid (vS T 4 n k e (s + 1) = vS T 4 n k e s) := qJ (by rw [qK Hs0, htv]; rfl)
            clear htv
            go_wp2_with fail
            go_roundw
            case rel => exact ⟨s + 1, by omega, by go_num, by rw [qK Hs]; exact hown.bw (by repeat first|exact br _|assumption|apply bd|apply bn|apply ba|refine bt ?_ (by assumption)), (by repeat first|exact br _|assumption|apply bd|apply bn|apply ba|refine bt ?_ (by assumption))⟩
            case measure => simp [intOf]; omega
          | false =>
            have htv' : (tv != 0) = true := by simpa using htv
            have Hs : Hid (vE T 4 n k e ++ vS T 4 n k e (s + 1) = (vE T 4 n k e ++ vS T 4 n k e s) ++ [⟨n, kb, e, s, tv⟩]) := qJ (by rw [qK Hs0, htv, List.append_assoc]; rfl)
            clear htv
            generalize vE T 4 n k e ++ vS T 4 n k e s = L at *
            go_wp2_with (at_builtin; refine appL _ rfl _ _ _ 194 rfl _ 5 40 Try.infoPoint Try.underlying97 rfl (by decide) w.heap.size _ L.length (qG L) rfl (hown.bw (by repeat first|exact br _|assumption|apply bd|apply bn|apply ba|refine bt ?_ (by assumption))) _ _ (Pt.cells ⟨n, kb, e, s, tv⟩) rfl rfl (pt_cells (qQ (qN _ _ (by simp)) rfl) (qQ (qN _ _ (by simp)) rfl) (qQ (qN _ _ (by simp)) rfl) (qQ (qN _ _ (by simp)) rfl) (qQ (qN _ _ (by simp)) rfl)) (pt_one _) (by omega) (by omega) (Bw.size (by repeat first|exact br _|assumption|apply bd|apply bn|apply ba|refine bt ?_ (by assumption))) ?_; intro g6 cap6 w6 ho6 hg6 hl6; have hB6 := tD (W := w) (hown.bw (by repeat first|exact br _|assumption|apply bd|apply bn|apply ba|refine bt ?_ (by assumption))) hg6 (by repeat first|exact br _|assumption|apply bd|apply bn|apply ba|refine bt ?_ (by assumption)) (Nat.le_refl _))
            go_roundw
            case rel => exact ⟨s + 1, by omega, by go_num, by rw [qK Hs]; exact OwnP.snoc ho6, hB6⟩
            case measure => simp [intOf]; omega
        · have hss : s = 4 := by omega
          subst hss
          have Hs : Hid (vE T 4 n k (e + 1) = vE T 4 n k e ++ vS T 4 n k e 4) := qJ rfl
          go_wp2_with fail
          go_roundw
          case rel => exact ⟨e + 1, by omega, by go_num, by rw [qK Hs]; exact hown, hB⟩
          case measure => simp [intOf]; omega
    · have hee : e = 6 := by omega
      subst hee
      go_wp2_with fail
      go_ret
      exact ⟨_, rfl, hown, hB⟩
theorem kL {w w' : World} {base n size : Nat} {ty : TypeId} {v : Value} {xs : List Value} (h : w.ownsRow base ty size v n xs) (hf : ∀ b, v.ownBlock = some b → w'.heap[b]? = w.heap[b]?) : w'.ownsRow base ty size v n xs := by
  obtain ⟨hl, h⟩ := h
  refine ⟨hl, ?_⟩
  rcases h with h | ⟨g, cap, cur, rfl, hg, hc, r⟩
  · exact .inl h
  · exact .inr ⟨g, cap, cur, rfl, hg, (hf g rfl).trans hc, r⟩
theorem own_apart {w w' : World} {K base n size n' size' : Nat} {ty ty' : TypeId} {u v : Value} {xs ys : List Value} (hu : w.ownsRow base ty size u n xs) (hg : w.grownBy w' u.ownBlock) (hlt : ∀ b, u.ownBlock = some b → b < K) (hv : w.ownsRow K ty' size' v n' ys) : w'.ownsRow K ty' size' v n' ys :=
  kL hv fun b hb => hg.block b (World.ownsRow.lt hv b hb).2 (fun e => by have h1 := hlt b e.symm; have h2 := (World.ownsRow.lt hv b hb).1; omega)
theorem nN (a b : List Pt) : qG (a ++ b) = qG a ++ qG b := by simp [qG]
theorem xD (a : List Pt) : (qG a).length = a.length * 5 := by
  induction a with
  | nil => rfl
  | cons x l ih => simp only [qG, List.flatMap_cons, List.length_append, List.length_cons] at ih ⊢; rw [ih]; simp [Pt.cells]; omega
theorem fH (a : List Pt) : ∀ u ∈ qG a, u.oneCell' = true := by
  intro u hu
  simp only [qG, List.mem_flatMap] at hu
  obtain ⟨p, _, hp⟩ := hu
  exact pt_one p u hp
theorem vJ {w : World} {base n size : Nat} {ty : TypeId} {v : Value} {xs : List Value} (h : w.ownsRow base ty size v n xs) : CellsAt w (yQ v) n xs := by
  intro hn
  obtain ⟨g, e, _, hc⟩ := vT h hn
  exact ⟨g, 0, e, fun j u hj => by rw [Nat.zero_add]; exact hc j u hj⟩
set_option maxRecDepth 100000 in
set_option maxHeartbeats 4000000 in
theorem ppoints_any (b o : Nat) (T : Nat → Int) (w : World) (hb : BelAt w b o T) :
    Calls Try.prog 87 #[.pointer (some ⟨b, o, none⟩)] w fun e w' => ∃ v, e = .returned v ∧ OwnP w w' v (vN T 4 8) ∧ Bw w w' := by
  have HB := qJ hb
  clear hb
  have hk0 : kB 0 = false := rfl
  have hk1 : kB 1 = true := rfl
  go_enter Try.func87, Try.ntmps87
  go_wp2_with fail
  go_loopw [3, 4] (fun v i wr => ∃ n : Nat, n ≤ 8 ∧ i = .int .i64 n ∧ OwnP w wr v (vN T 4 n) ∧ Bw w wr) (fun _ i _ => 8 - (intOf i).toNat)
  case atStart => exact ⟨0, Nat.zero_le _, rfl, OwnP.nil _ _, Bw.refl _⟩
  case round =>
    obtain ⟨n, hn, rfl, hown, hB⟩ := hrel
    rename World => wr
    have hle := vN_len T 4 n
    by_cases hlt : n < 8
    · have hl1 : decide ((n : Int) < 8) = true := by simp; omega
      have P0 := qJ (fun w' h => hk0 ▸ hZ b o T n 0 w' hlt (by omega) h)
      have P1 := qJ (fun w' h => hk1 ▸ hZ b o T n 1 w' hlt (by omega) h)
      have Hs : Hid (vN T 4 (n + 1) = (vN T 4 n ++ vE T 4 n 0 6) ++ vE T 4 n 1 6) := qJ (by simp [vN, vK])
      have h0 := vE_len T 4 n 0 6
      have h1 := vE_len T 4 n 1 6
      generalize vE T 4 n 0 6 = A0 at *
      generalize vE T 4 n 1 6 = A1 at *
      generalize vN T 4 n = L at *
      have hblt : ∀ g, (Value.ownBlock _) = some g → g < wr.heap.size := fun g hg => (World.ownsRow.lt hown g hg).2
      go_wp2_with fail
      refine ((qK P0) _ ((qK HB).below hB)).mono ?_
      rintro e1 w1 ⟨v0, rfl, ho0, hb1⟩
      go_wp2_with fail
      refine ((qK P1) _ ((qK HB).below (hB.trans hb1))).mono ?_
      rintro e2 w2 ⟨v1, rfl, ho1, hb2⟩
      obtain ⟨a0, c0, hv0⟩ : ∃ a0 c0, v0 = .slice a0 A0.length c0 := ⟨_, _, qW ho0⟩
      subst hv0
      obtain ⟨a1, c1, hv1⟩ : ∃ a1 c1, v1 = .slice a1 A1.length c1 := ⟨_, _, qW ho1⟩
      subst hv1
      have hb12 := hb1.size
      go_wp2_with (first | (at_builtin; refine appG w2 rfl _ _ _ 194 rfl _ 5 40 Try.infoPoint Try.underlying97 rfl (by decide) w.heap.size _ L.length (qG L) rfl (hown.bw (hb1.trans hb2)) _ A0.length _ (qG A0) rfl (xD A0) (vJ (ho0.bw hb2)) (fH A0) (by omega) (by omega) (hB.trans (hb1.trans hb2)).size ?_; intro v3 w3 ho3 hg3 hl3; have hB3 := tD (W := w) (hown.bw (hb1.trans hb2)) hg3 (hB.trans (hb1.trans hb2)) (Nat.le_refl _); have hc3 := vJ (own_apart (hown.bw (hb1.trans hb2)) hg3 (fun g hg => Nat.lt_of_lt_of_le (hblt g hg) hb12) ho1)) | (at_builtin; refine appG w3 rfl _ _ _ 194 rfl _ 5 40 Try.infoPoint Try.underlying97 rfl (by decide) w.heap.size _ (L.length + A0.length) (qG L ++ qG A0) rfl ho3 _ A1.length _ (qG A1) rfl (xD A1) hc3 (fH A1) (by omega) (by omega) hB3.size ?_; intro v4 w4 ho4 hg4 hl4; have hB4 := tD (W := w) ho3 hg4 hB3 (Nat.le_refl _)))
      go_roundw
      case rel =>
        refine ⟨n + 1, by omega, by go_num, ?_, hB4⟩
        rw [qK Hs]
        unfold OwnP
        rw [nN, nN, List.length_append, List.length_append]
        exact ho4
      case measure => simp [intOf]; omega
    · have hnn : n = 8 := by omega
      subst hnn
      go_wp2_with fail
      go_ret
      exact ⟨_, rfl, hown, hB⟩
theorem Try.infoIntsR : (Try.prog.info? 26).map (fun i => (i.zero, i.size, i.bytes)) = some (some (.slice none 0 0), 1, 24) := by kernel_rfl
def rst0 : RSt := ⟨[], [], [], [], fun _ _ => 0⟩
def zQ (ns : List Nd) : Nat → Nat → Int := fun n x => yS ns (x : Int) ns.length (n : Int)
def rB (m : Nat) (f : Nat → Int) : List Value := (List.range m).map fun j => .int .i64 (f j)
def TabB (base : Nat) (w : World) (v : Value) (n m : Nat) (f : Nat → Nat → Int) : Prop :=
  ∃ vs : List Value, w.ownsRow base 26 1 v n vs ∧ ∀ i, i < n → ∃ u, vs[i]? = some u ∧ w.ownsRow base 3 1 u m (rB m (f i))
theorem TabB.nil (base : Nat) (w : World) (m : Nat) (f : Nat → Nat → Int) : TabB base w (.slice none 0 0) 0 m f := ⟨[], World.ownsRow_nil _ _ _ _, fun i hi => absurd hi (Nat.not_lt_zero i)⟩
theorem TabB.map {base : Nat} {w w' : World} {v : Value} {n m : Nat} {f : Nat → Nat → Int} (h : TabB base w v n m f) (hf : ∀ (ty : TypeId) (u : Value) (k : Nat) (ys : List Value), ty = 26 ∨ ty = 3 → w.ownsRow base ty 1 u k ys → w'.ownsRow base ty 1 u k ys) : TabB base w' v n m f := by
  obtain ⟨vs, h1, h2⟩ := h
  refine ⟨vs, hf _ _ _ _ (.inl rfl) h1, fun i hi => ?_⟩
  obtain ⟨u, e, h3⟩ := h2 i hi
  exact ⟨u, e, hf _ _ _ _ (.inr rfl) h3⟩
theorem TabB.bw {base : Nat} {w w' : World} {v : Value} {n m : Nat} {f : Nat → Nat → Int} (h : TabB base w v n m f) (hb : Bw w w') : TabB base w' v n m f := h.map fun _ _ _ _ _ h => qP h fun g hg => Below.block hb g hg
theorem TabB.add {base : Nat} {w w' : World} {v v' u : Value} {n m : Nat} {f : Nat → Nat → Int} {vs : List Value} (h1 : w.ownsRow base 26 1 v n vs) (h2 : ∀ i, i < n → ∃ u, vs[i]? = some u ∧ w.ownsRow base 3 1 u m (rB m (f i)))
    (hu : w.ownsRow base 3 1 u m (rB m (f n))) (ho : w'.ownsRow base 26 1 v' (n + 1) (vs ++ [u])) (hg : w.grownBy w' v.ownBlock) : TabB base w' v' (n + 1) m f := by
  refine ⟨_, ho, fun i hi => ?_⟩
  have hvl : vs.length = n := by simpa using h1.1
  by_cases hn : i < n
  · obtain ⟨u', e, h3⟩ := h2 i hn
    exact ⟨u', by rw [List.getElem?_append_left (by omega)]; exact e, jU h1 hg h3 (by decide)⟩
  · have : i = n := by omega
    subst this
    exact ⟨u, by rw [List.getElem?_append_right (by omega), hvl]; simp, jU h1 hg hu (by decide)⟩
theorem TabB.tabIn {base : Nat} {w : World} {v : Value} {n m : Nat} {f : Nat → Nat → Int} {S : Nat → Prop} (h : TabB base w v n m f) (hS : ∀ b, base ≤ b → b < w.heap.size → S b) : TabIn S w v n m f := by
  have key : ∀ {ty : TypeId} {u : Value} {k : Nat} {ys : List Value}, w.ownsRow base ty 1 u k ys → OwnsIn S w ty 1 u k ys := fun h => ⟨kU h (Nat.zero_le _), fun b hb => hS b (World.ownsRow.lt h b hb).1 (World.ownsRow.lt h b hb).2⟩
  obtain ⟨vs, h1, h2⟩ := h
  refine ⟨vs, key h1, fun i hi => ?_⟩
  obtain ⟨u, e, h3⟩ := h2 i hi
  exact ⟨u, e, key h3⟩
theorem gP {w w' : World} (h : w.grownBy w' none) : Bw w w' := ⟨h.os, h.tape, h.output, h.size, fun i hi => h.block i hi (by simp)⟩
theorem nodes_row {w : World} {ga : Option Addr} {ns : List Nd} (h : NodesAt w ga ns) : CellsAt w ga ns.length (qM ns) := by
  intro hm
  obtain ⟨b, off, e, _, hc⟩ := h 0 hm
  refine ⟨b, off, e, fun j u hj => ?_⟩
  have := nodeCells_src hc j u hj
  rw [Go.WideShapes.add_plain] at this
  exact this
theorem qY {w : World} {b k : Nat} {arr : Array Value} {t : TypeId} {v : Value} (h : w.heap[b]? = some (.cells arr t (0, 0))) : (w.setCell ⟨b, k, none⟩ v).heap[b]? = some (.cells (arr.setIfInBounds k v) t (0, 0)) := by
  rw [setCell_eq_setRow w b k arr t (0, 0) _ h]
  exact setRow_heap w b arr _ _ _ h
theorem qC (w : World) (b k : Nat) (v : Value) : Chg (fun x => x = b) w (w.setCell ⟨b, k, none⟩ v) :=
  ⟨rfl, rfl, rfl, by simp, fun i _ hn => Below.heap_setCell w ⟨b, k, none⟩ v i hn⟩
theorem cells1 {w : World} {g : Nat} {a : Value} (h0 : w.cell? ⟨g, 0, none⟩ = some a) : ∀ j u, [a][j]? = some u → w.cell? ⟨g, j, none⟩ = some u := by
  intro j u hj
  match j, hj with
  | 0, hj => simp at hj; subst hj; exact h0
theorem bK {w : World} {base : Nat} {v : Value} {ns : List Nd} (h : w.ownsRow base 32 5 v ns.length (qM ns)) : NodesAt w (yQ v) ns := by
  intro i hi
  obtain ⟨g, e, hl, hc⟩ := vT h (by omega)
  refine ⟨g, 0, e, hl, fun j hj => ?_⟩
  simp only [Nat.zero_add]
  have q : ∀ f, f < 5 → ∀ u, (Nd.cells (qV ns j))[f]? = some u → w.cell? ⟨g, j * 5 + f, none⟩ = some u := fun f hf u hu => hc _ _ ((pQ ns j hj f hf).trans hu)
  exact ⟨q 0 (by omega) _ rfl, q 1 (by omega) _ rfl, q 2 (by omega) _ rfl, q 3 (by omega) _ rfl, q 4 (by omega) _ rfl⟩
theorem qT {α : Type} (l : List α) (i : Nat) (a : α) : l.toArray.setIfInBounds i a = (l.set i a).toArray := by simp
theorem qS {α : Type} (a b : α) (l : List α) : (a :: l).set 0 b = b :: l := rfl
theorem qR {α : Type} (a b : α) (l : List α) (i : Nat) : (a :: l).set (i + 1) b = a :: l.set i b := rfl
def BelIn (w : World) (b o : Nat) (t : TypeId) (arr : Array Value) (T : Nat → Int) : Prop :=
  ∃ arr' : Array Value, w.heap[b]? = some (.cells arr' t (0, 0)) ∧ arr'.size = arr.size ∧ (∀ k, (k < o ∨ o + 384 ≤ k) → arr'[k]? = arr[k]?) ∧ ∀ k, k < 384 → arr'[o + k]? = some (.int .i64 (T k))
theorem BelIn.bel {w : World} {b o : Nat} {t : TypeId} {arr : Array Value} {T : Nat → Int} (h : BelIn w b o t arr T) : BelAt w b o T := by
  obtain ⟨arr', h1, _, _, h4⟩ := h
  exact ⟨(Array.getElem?_eq_some_iff.1 h1).1, fun k hk => qQ h1 (h4 k hk)⟩
theorem BelIn.bw {w w' : World} {b o : Nat} {t : TypeId} {arr : Array Value} {T : Nat → Int} (h : BelIn w b o t arr T) (hb : Bw w w') : BelIn w' b o t arr T := by
  obtain ⟨arr', h1, r⟩ := h
  exact ⟨arr', (Below.block hb _ (Array.getElem?_eq_some_iff.1 h1).1).trans h1, r⟩
theorem BelIn.fr {w : World} {b o : Nat} {t : TypeId} {arr : Array Value} {T : Nat → Int} (h : BelIn w b o t arr T) (k : Nat) : w.frozen? ⟨b, k, none⟩ = false := by
  obtain ⟨arr', h1, _⟩ := h
  exact qZ h1
theorem BelIn.set {w : World} {b o : Nat} {t : TypeId} {arr : Array Value} {T : Nat → Int} (h : BelIn w b o t arr T) {k : Nat} (hk : k < 384) {v : Int} : BelIn (w.setCell ⟨b, o + k, none⟩ (.int .i64 v)) b o t arr (bW T k v) := by
  obtain ⟨arr', h1, h2, h3, h4⟩ := h
  refine ⟨_, qY h1, by simpa using h2, fun j hj => ?_, fun j hj => ?_⟩
  · rw [Array.getElem?_setIfInBounds_ne (by omega)]; exact h3 j hj
  · by_cases e : j = k
    · subst e
      have : o + j < arr'.size := (Array.getElem?_eq_some_iff.1 (h4 j hj)).1
      rw [Array.getElem?_setIfInBounds_self_of_lt this, rC]
    · rw [Array.getElem?_setIfInBounds_ne (by omega), tT _ _ e]; exact h4 j hj
theorem spP_lt {p : Pt} (h : wP 8 4 p) : rY 4 p < 384 := by
  obtain ⟨n, e, s, h1, h2, h3, h4, h5, h6⟩ := h
  unfold rY
  rw [h1, h3, h5]
  exact spotN_lt (L := 8) h2 h4 h6
set_option maxRecDepth 100000 in
set_option maxHeartbeats 4000000 in
theorem nP (b o : Nat) (t : TypeId) (arr : Array Value) (T : Nat → Int) (ps : List Pt) (pa : Option Addr) (pc : Nat) (w : World) (hps : PtsAt w pa ps) (hok : ∀ j, j < ps.length → wP 8 4 (vU ps j)) (hl : ps.length ≤ 1000) (hap : ∀ g off, pa = some ⟨g, off, none⟩ → g ≠ b) (hbel : BelIn w b o t arr T) :
    Calls Try.prog 109 #[.pointer (some ⟨b, o, none⟩), .agg #[.slice pa ps.length pc]] w fun e w' => e = .returned (.tuple #[]) ∧ BelIn w' b o t arr (kT 4 T ps ps.length) ∧ Chg (fun x => x = b) w w' := by
  have hlt0 := hbel.bel.1
  have HB := qJ hbel
  have Hps := qJ hps
  clear hbel hps
  go_enter Try.func109, Try.ntmps109
  go_wp2_with fail
  obtain ⟨w0, hw0⟩ : ∃ w0, w.alloc (.cells #[.slice pa ps.length pc] 183) = w0 := ⟨_, rfl⟩
  have hB0 : Bw w w0 := by rw [← hw0]; exact (by repeat first|exact br _|assumption|apply bd|apply bn|apply ba|refine bt ?_ (by assumption))
  rw [hw0]
  clear hw0
  go_loopw [9] (fun i wr => ∃ k : Nat, k ≤ ps.length ∧ i = .int .i64 k ∧ BelIn wr b o t arr (kT 4 T ps k) ∧ Chg (fun x => x = b) w wr) (fun i _ => ps.length - (intOf i).toNat)
  case atStart => exact ⟨0, Nat.zero_le _, rfl, (qK HB).bw hB0, Chg.bw hB0⟩
  case round =>
    obtain ⟨k, hk, rfl, hbi, hC⟩ := hrel
    rename World => wr
    have hz := hC.size
    by_cases hlt : k < ps.length
    · obtain ⟨g, off, rfl, hg, hc⟩ := (qK Hps) k hlt
      obtain ⟨d0, d1, d2, d3, d4⟩ := hc k hlt
      have hne := hap g off rfl
      have hbk := hC.block g hg hne
      have hcb : ∀ x, wr.cell? ⟨g, x, none⟩ = w.cell? ⟨g, x, none⟩ := fun x => World.cell?_of_block (a := ⟨g, x, none⟩) hbk
      rw [← hcb] at d0 d1 d2 d3 d4
      clear hc hcb hbk
      have hgz : g < wr.heap.size := by omega
      have hp := hok k hlt
      have Hcan := qJ (canB_of hp (by omega) (by omega))
      have Hsp := qJ (spP_lt hp)
      have Hs : Hid (kT 4 T ps (k + 1) = bW (kT 4 T ps k) (rY 4 (vU ps k)) (wrap64 (kT 4 T ps k (rY 4 (vU ps k)) + (vU ps k).count))) := qJ rfl
      obtain ⟨n, ep, s, h1, h2, h3, h4, h5, h6⟩ := hp
      have hsp : rY 4 (vU ps k) = jZ 4 n ep s (vU ps k).out := by unfold rY; rw [h1, h3, h5]; rfl
      rw [hsp] at Hs Hsp
      rw [h1] at d0
      rw [h3] at d2
      rw [h5] at d3
      have Hp : Hid (vU ps k = ⟨n, (vU ps k).out, ep, s, (vU ps k).count⟩) := qJ (by cases hq : vU ps k; simp [hq] at h1 h3 h5; simp [h1, h3, h5])
      rw [qK Hp] at Hcan
      generalize (vU ps k).out = ou at *
      generalize (vU ps k).count = ct at *
      clear h1 h3 h5 hsp Hp
      have hlt1 := hbi.bel.1
      generalize kT 4 T ps k = TT at *
      have Hcell := qJ (fun (w' : World) (h : BelAt w' b o TT) => h.cell (ou := ou) h2 h4 h6)
      have Hset := qJ (fun (w' : World) (h : BelIn w' b o t arr TT) (v : Int) => h.set (qK Hsp) (v := v))
      obtain ⟨p0, p1, hpl⟩ : 0 ≤ plI ou ∧ plI ou < 2 ∧ o + jZ 4 n ep s ou = o + n * 48 + (plI ou).toNat * 24 + ep * 4 + s := by
        refine ⟨by cases ou <;> simp [plI], by cases ou <;> simp [plI], ?_⟩
        rw [spot4_eq]
        cases ou <;> simp [plI] <;> omega
      have Hpl := qJ (fun w => fL ou w)
      have Hadr := qJ hpl
      clear hpl
      generalize plI ou = pl at *
      go_wp2_with fail
      refine (pcanBe_any ⟨n, ou, ep, s, ct⟩ _).mono ?_
      rintro en w1 ⟨rfl, hb1⟩
      rw [qK Hcan]
      have hbx := (Below.block hb1 wr.heap.size (by simp)).trans (heap_alloc_new wr _)
      have x0 := qQ (o := 0) hbx rfl
      have x1 := qQ (o := 1) hbx rfl
      have x2 := qQ (o := 2) hbx rfl
      have x3 := qQ (o := 3) hbx rfl
      have x4 := qQ (o := 4) hbx rfl
      have xl := (Array.getElem?_eq_some_iff.1 hbx).1
      have hB1 : Bw wr w1 := (by repeat first|exact br _|assumption|apply bd|apply bn|apply ba|refine bt ?_ (by assumption))
      have hbi1 := hbi.bw hB1
      have hcell1 := (qK Hcell) w1 hbi1.bel
      have hfr1 := hbi1.fr (o + n * 48 + pl.toNat * 24 + ep * 4 + s)
      have hlt2 := hbi1.bel.1
      have Hset1 := qJ ((qK Hset) w1 hbi1 (wrap64 (TT (jZ 4 n ep s ou) + ct)))
      rw [← qK Hs, qK Hadr] at Hset1
      clear Hs Hset Hcell
      generalize TT (jZ 4 n ep s ou) = tv at *
      have n8 : (n : Int) < 8 := by omega
      have e6 : (ep : Int) < 6 := by omega
      have s4 : (s : Int) < 4 := by omega
      clear hbx hbi hbi1 d0 d1 d2 d3 d4
      go_wp2_with fail
      have hne2 : ¬ wr.heap.size = b := by omega
      have hne3 : ¬ b = wr.heap.size := by omega
      refine wp_region_held_drew (S := (fun w' => w'.cell? ⟨wr.heap.size, 0, none⟩ = some (.int .i64 (n : Int)) ∧ w'.cell? ⟨wr.heap.size, 1, none⟩ = some (.bool ou) ∧ w'.cell? ⟨wr.heap.size, 2, none⟩ = some (.int .i64 (ep : Int)) ∧ w'.cell? ⟨wr.heap.size, 3, none⟩ = some (.int .i64 (s : Int)) ∧ w'.cell? ⟨wr.heap.size, 4, none⟩ = some (.int .i64 ct))) (by kernel_rfl) (by (try dsimp only); go_keep) (fun hHeld => ?_)
      refine tk 0 ?_; try simp only [Act.put, qT, qS, qR]
      refine tk 1 ?_; try simp only [Act.put, qT, qS, qR]
      refine tk 2 ?_; try simp only [Act.put, qT, qS, qR]
      refine tk 3 ?_; try simp only [Act.put, qT, qS, qR]
      refine tk 4 ?_; try simp only [Act.put, qT, qS, qR]
      refine tk 6 ?_; try simp only [Act.put, qT, qS, qR]
      refine tk 7 ?_; try simp only [Act.put, qT, qS, qR]
      refine tk 8 ?_; try simp only [Act.put, qT, qS, qR]
      refine tk 9 ?_; try simp only [Act.put, qT, qS, qR]
      refine tk 10 ?_; try simp only [Act.put, qT, qS, qR]
      refine tk 11 ?_; try simp only [Act.put, qT, qS, qR]
      refine tk 12 ?_; try simp only [Act.put, qT, qS, qR]
      refine tk 17 ?_; try simp only [Act.put, qT, qS, qR]
      refine tk 18 ?_; try simp only [Act.put, qT, qS, qR]
      refine tk 20 ?_; try simp only [Act.put, qT, qS, qR]
      refine tk 21 ?_; try simp only [Act.put, qT, qS, qR]
      refine tk 22 ?_; try simp only [Act.put, qT, qS, qR]
      refine wpAnyH_ready (rs := [5]) (by kernel_rfl) (by simp) ?_
      refine AllReadyH.cons rfl (fun K hK => ?_) AllReadyH.nil
      go_simp
      go_at_call 138
      refine ((qK Hpl) _).mono ?_
      rintro _ _ ⟨rfl, rfl⟩
      (try go_wp2_with fail)
      refine hK.out _ _ (by (try dsimp only); go_keep) (fun hHeld => ?_)
      clear hK K
      try simp only [Act.put, qT, qS, qR]
      refine tk 13 ?_; try simp only [Act.put, qT, qS, qR]
      refine tk 14 ?_; try simp only [Act.put, qT, qS, qR]
      refine tk 15 ?_; try simp only [Act.put, qT, qS, qR]
      refine tk 23 ?_; try simp only [Act.put, qT, qS, qR]
      refine tk 24 ?_; try simp only [Act.put, qT, qS, qR]
      refine wpAnyH_ready (rs := [16]) (by kernel_rfl) (by simp) ?_
      refine AllReadyH.cons rfl (fun K hK => ?_) AllReadyH.nil
      go_simp
      refine hK.out _ _ (by (try dsimp only); go_keep) (fun hHeld => ?_)
      clear hK K
      try simp only [Act.put, qT, qS, qR]
      refine tk 19 ?_; try simp only [Act.put, qT, qS, qR]
      refine tk 25 ?_; try simp only [Act.put, qT, qS, qR]
      refine wpAnyH_ready (rs := [26]) (by kernel_rfl) (by simp) ?_
      refine AllReadyH.cons rfl (fun K hK => ?_) AllReadyH.nil
      go_simp
      refine hK.out _ _ (by (try dsimp only); go_keep) (fun hHeld => ?_)
      clear hK K
      try simp only [Act.put, qT, qS, qR]
      refine wpAnyH_done (by kernel_rfl) ?_ _
      go_wp2_with fail
      go_roundw
      case rel => exact ⟨k + 1, by omega, by go_num, (qK Hset1).bw (by repeat first|exact br _|assumption|apply bd|apply bn|apply ba|refine bt ?_ (by assumption)), (hC.trans (Chg.bw (S := fun x => x = b) hB1) fun _ h => .inl h).trans ((qC _ _ _ _).trans (Chg.bw (S := fun x => x = b) (show Bw (w1.setCell ⟨b, o + n * 48 + pl.toNat * 24 + ep * 4 + s, none⟩ (.int .i64 (wrap64 (tv + ct)))) _ from (by repeat first|exact br _|assumption|apply bd|apply bn|apply ba|refine bt ?_ (by assumption)))) fun _ h => .inl h) (fun _ h => .inl h)⟩
      case measure => simp [intOf]; omega
    · have hkk : k = ps.length := by omega
      subst hkk
      go_wp2_with fail
      go_end0
      exact ⟨rfl, hbi, hC⟩
def one1 (ns : List Nd) (n : Int) (k : Nat) : Int := if qL (qV ns k) n then 0 else -1
def xZ (ns : List Nd) (n : Int) : Nat → List Int
  | 0 => []
  | k + 1 => xZ ns n k ++ [one1 ns n k]
def toY (ns : List Nd) (fr : List Int) (k : Nat) : Int := if (qV ns k).kind = 4 then kC fr k + 1 else kC fr k
def gK (d t : Int) : Int := if d = -1 ∨ t < d then t else d
def zR (ns : List Nd) (fr : List Int) (x : Nat) (d0 : Int) : Nat → Int
  | 0 => d0
  | k + 1 => if kC fr k = -1 ∨ qL (qV ns x) k = false then zR ns fr x d0 k else gK (zR ns fr x d0 k) (toY ns fr k)
def pN (ns : List Nd) (fr : List Int) : Nat → List Int
  | 0 => []
  | k + 1 => pN ns fr k ++ [zR ns fr k (kC fr k) fr.length]
def xN (ns : List Nd) (n : Int) : Nat → List Int
  | 0 => xZ ns n ns.length
  | s + 1 => pN ns (xN ns n s) (xN ns n s).length
theorem zM (ns : List Nd) (n : Int) (k : Nat) : (xZ ns n k).length = k := by
  induction k with
  | zero => rfl
  | succ k ih => simp [xZ, ih]
theorem zB (ns : List Nd) (fr : List Int) (k : Nat) : (pN ns fr k).length = k := by
  induction k with
  | zero => rfl
  | succ k ih => simp [pN, ih]
theorem pX (ns : List Nd) (n : Int) (s : Nat) : (xN ns n s).length = ns.length := by
  induction s with
  | zero => exact zM _ _ _
  | succ s ih => unfold xN; rw [zB, ih]
theorem oneTo_yes {ns : List Nd} {n : Int} {k : Nat} (h : qL (qV ns k) n = true) : xZ ns n (k + 1) = xZ ns n k ++ [0] := by simp [xZ, one1, h]
theorem oneTo_no {ns : List Nd} {n : Int} {k : Nat} (h : qL (qV ns k) n = false) : xZ ns n (k + 1) = xZ ns n k ++ [-1] := by simp [xZ, one1, h]
set_option maxHeartbeats 1000000 in
theorem oneStep_any (ns : List Nd) (ga : Option Addr) (gc : Nat) (r n : Int) (w : World) (hn : NodesAt w ga ns) (hg : ns.length ≤ 8) :
    Calls Try.prog 100 #[.agg #[.slice ga ns.length gc, .int .i64 r], .int .i64 n] w fun e w' => ∃ v, e = .returned v ∧ Own w w' v (xZ ns n ns.length) ∧ Bw w w' := by
  go_enter Try.func100, Try.ntmps100
  go_wp2
  go_loopw [5, 12] (fun v i wr => ∃ k : Nat, k ≤ ns.length ∧ i = .int .i64 k ∧ Own (w.alloc (.cells #[.slice ga ns.length gc, .int .i64 r] 24)) wr v (xZ ns n k) ∧
      Bw (w.alloc (.cells #[.slice ga ns.length gc, .int .i64 r] 24)) wr)
    (fun _ i _ => ns.length - (intOf i).toNat)
  case atStart => exact ⟨0, Nat.zero_le _, rfl, Own.nil _ _, Bw.refl _⟩
  case round =>
    obtain ⟨k, hk, rfl, hown, hB⟩ := hrel
    obtain ⟨gcc, gff⟩ := qX hB
    have gz : w.heap.size < wr.heap.size := by have := hB.size; simp at this; omega
    have hol := zM ns n k
    have Hol := qJ hol
    clear hol
    by_cases hlt : k < ns.length
    · obtain ⟨b, off, rfl, hb, hc⟩ := hn k hlt
      obtain ⟨c0, c1, c2, c3, c4⟩ := hc k hlt
      clear hc
      cases ht : qL (qV ns k) n with
      | true =>
        have HT := qJ ht
        clear ht
        go_wp2_with (first | (at_builtin; refine mK _ rfl _ _ rfl _ _ (xZ ns n k) rfl (hown.bw (by repeat first|exact br _|assumption|apply bd|apply bn|apply ba|refine bt ?_ (by assumption))) _ _ 0 rfl (by simp) (by have := qK Hol; omega) (by repeat first|exact br _|assumption|apply bd|apply bn|apply ba|refine bt ?_ (by assumption)) ?_; intro v' w1 hown1 hB1 hgr1) | (go_at_call 128; refine (vB (qV ns k) _ _).mono ?_; rintro e w' ⟨rfl, hbl⟩; rw [qK HT]; obtain ⟨hcc, hff⟩ := qX hbl))
        go_roundw
        case rel => exact ⟨k + 1, by omega, by go_num, by rw [oneTo_yes (qK HT)]; exact hown1, hB1⟩
        case measure => simp [intOf]; omega
      | false =>
        have HT := qJ ht
        clear ht
        go_wp2_with (first | (at_builtin; refine mK _ rfl _ _ rfl _ _ (xZ ns n k) rfl (hown.bw (by repeat first|exact br _|assumption|apply bd|apply bn|apply ba|refine bt ?_ (by assumption))) _ _ (-1) rfl (by simp) (by have := qK Hol; omega) (by repeat first|exact br _|assumption|apply bd|apply bn|apply ba|refine bt ?_ (by assumption)) ?_; intro v' w1 hown1 hB1 hgr1) | (go_at_call 128; refine (vB (qV ns k) _ _).mono ?_; rintro e w' ⟨rfl, hbl⟩; rw [qK HT]; obtain ⟨hcc, hff⟩ := qX hbl))
        go_roundw
        case rel => exact ⟨k + 1, by omega, by go_num, by rw [oneTo_no (qK HT)]; exact hown1, hB1⟩
        case measure => simp [intOf]; omega
    · have hkk : k = ns.length := by omega
      subst hkk
      obtain ⟨la, lc, rfl, _, _⟩ := hown.form
      go_wp2
      go_ret
      exact ⟨_, rfl, hown.weaken (by repeat first|exact br _|assumption|apply bd|apply bn|apply ba|refine bt ?_ (by assumption)), (by repeat first|exact br _|assumption|apply bd|apply bn|apply ba|refine bt ?_ (by assumption))⟩
theorem bQ {ns : List Nd} {fr : List Int} {x : Nat} {d0 : Int} {k : Nat} (h : kC fr k = -1 ∨ qL (qV ns x) k = false) : zR ns fr x d0 (k + 1) = zR ns fr x d0 k := by
  rw [zR, if_pos h]
theorem moreTo_go {ns : List Nd} {fr : List Int} {x : Nat} {d0 : Int} {k : Nat} (h1 : kC fr k ≠ -1) (h2 : qL (qV ns x) k = true) : zR ns fr x d0 (k + 1) = gK (zR ns fr x d0 k) (toY ns fr k) := by
  rw [zR, if_neg (by rw [h2]; simp [h1])]
theorem uX {d t : Int} (h : d = -1 ∨ t < d) : gK d t = t := by unfold gK; rw [if_pos h]
theorem dG {d t : Int} (h1 : d ≠ -1) (h2 : d ≤ t) : gK d t = d := by unfold gK; rw [if_neg (by omega)]
theorem toY_back {ns : List Nd} {fr : List Int} {k : Nat} (h : (qV ns k).kind = 4) : toY ns fr k = kC fr k + 1 := by simp [toY, h]
theorem toY_not {ns : List Nd} {fr : List Int} {k : Nat} (h : (qV ns k).kind ≠ 4) : toY ns fr k = kC fr k := by simp [toY, h]
def Low (c : Int) (fr : List Int) : Prop := ∀ j, j < fr.length → -1 ≤ kC fr j ∧ kC fr j ≤ c
theorem moreTo_bd {ns : List Nd} {fr : List Int} {x : Nat} {d0 c : Int} (hf : Low c fr) (h1 : -1 ≤ d0) (h2 : d0 ≤ c + 1) : ∀ k, k ≤ fr.length → -1 ≤ zR ns fr x d0 k ∧ zR ns fr x d0 k ≤ c + 1 := by
  intro k hk
  induction k with
  | zero => exact ⟨h1, h2⟩
  | succ k ih =>
    have ih := ih (by omega)
    have := hf k (by omega)
    unfold zR
    split
    · exact ih
    · unfold gK toY
      split <;> split <;> omega
theorem moreL_low {ns : List Nd} {fr : List Int} {c : Int} (hf : Low c fr) : ∀ k, k ≤ fr.length → Low (c + 1) (pN ns fr k) := by
  intro k hk
  induction k with
  | zero => intro j hj; simp [pN] at hj
  | succ k ih =>
    have ih := ih (by omega)
    intro j hj
    rw [zB] at hj
    rw [jL (by rw [zB]; exact hj)]
    unfold pN
    by_cases e : j < k
    · rw [List.getElem_append_left (by rw [zB]; exact e), ← jL (by rw [zB]; exact e)]
      exact ih j (by rw [zB]; exact e)
    · have : j = (pN ns fr k).length := by rw [zB]; omega
      subst this
      simp
      have hk2 := hf k (by omega)
      exact moreTo_bd hf (by omega) (by omega) _ (Nat.le_refl _)
theorem distL_low (ns : List Nd) (n : Int) (s : Nat) : Low s (xN ns n s) := by
  induction s with
  | zero =>
    have h : ∀ k, Low 0 (xZ ns n k) := by
      intro k
      induction k with
      | zero => intro j hj; simp [xZ] at hj
      | succ k ih =>
        intro j hj
        rw [zM] at hj
        rw [jL (by rw [zM]; exact hj)]
        unfold xZ
        by_cases e : j < k
        · rw [List.getElem_append_left (by rw [zM]; exact e), ← jL (by rw [zM]; exact e)]
          exact ih j (by rw [zM]; exact e)
        · have : j = (xZ ns n k).length := by rw [zM]; omega
          subst this
          simp [one1]
          split <;> omega
    exact h _
  | succ s ih =>
    unfold xN
    have := moreL_low (ns := ns) ih _ (Nat.le_refl _)
    intro j hj
    have := this j hj
    omega
end Go.Proofs.Ytfemleimkbjehaa
