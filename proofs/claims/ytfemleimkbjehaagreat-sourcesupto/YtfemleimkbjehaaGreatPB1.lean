import Derived.Test.YtfemleimkbjehaaGreatJ17
namespace Go.Proofs.YtfemleimkbjehaaGreat
set_option linter.unusedVariables false
set_option linter.unusedSimpArgs false
open Go.RowKit

/-- Can a point be? (the program's bounds). -/
def canB (p : Pt) : Bool := (!(decide (p.node < 0) || decide (8 ≤ p.node))) && ((!(decide (p.epoch < 0) || decide (5 < p.epoch))) && (decide (0 ≤ p.round) && decide (p.round < 4)))

theorem canB_of {L R : Nat} {p : Pt} (h : PtOk L R p) (hL : L ≤ 8) (hR : R ≤ 4) : canB p = true := by
  obtain ⟨n, e, s, h1, h2, h3, h4, h5, h6⟩ := h
  unfold canB
  rw [h1, h3, h5]
  simp
  omega

set_option maxRecDepth 100000 in
set_option maxHeartbeats 2000000 in
theorem pcanBe_any (p : Pt) (w : World) : Calls Tryz.prog 82 #[p.val] w fun e w' => e = .returned (.bool (canB p)) ∧ Bw w w' := by
  obtain ⟨n, o, ep, r, c⟩ := p
  simp only [Pt.val]
  have HC : Hid (canB ⟨n, o, ep, r, c⟩ = ((!(decide (n < 0) || decide (8 ≤ n))) && ((!(decide (ep < 0) || decide (5 < ep))) && (decide (0 ≤ r) && decide (r < 4))))) := hide rfl
  generalize canB ⟨n, o, ep, r, c⟩ = cb at *
  cases h1 : decide (n < 0) with
  | true =>
    have Hs : Hid (cb = false) := hide (by rw [unhide HC, h1]; rfl)
    go_enter Tryz.func82, Tryz.ntmps82
    go_wp2_with fail
    go_ret
    exact ⟨ret_bool (unhide Hs).symm, (by repeat (first | exact Bw.refl _ | assumption | refine Bw.drew ?_ | refine Bw.drewN ?_ _ | refine Bw.alloc ?_ _ | refine Bw.trans ?_ (by assumption)))⟩
  | false =>
    cases h2 : decide (8 ≤ n) with
    | true =>
      have Hs : Hid (cb = false) := hide (by rw [unhide HC, h1, h2]; rfl)
      go_enter Tryz.func82, Tryz.ntmps82
      go_wp2_with fail
      go_ret
      exact ⟨ret_bool (unhide Hs).symm, (by repeat (first | exact Bw.refl _ | assumption | refine Bw.drew ?_ | refine Bw.drewN ?_ _ | refine Bw.alloc ?_ _ | refine Bw.trans ?_ (by assumption)))⟩
    | false =>
      cases h3 : decide (ep < 0) with
      | true =>
        have Hs : Hid (cb = false) := hide (by rw [unhide HC, h1, h2, h3]; rfl)
        go_enter Tryz.func82, Tryz.ntmps82
        go_wp2_with fail
        go_ret
        exact ⟨ret_bool (unhide Hs).symm, (by repeat (first | exact Bw.refl _ | assumption | refine Bw.drew ?_ | refine Bw.drewN ?_ _ | refine Bw.alloc ?_ _ | refine Bw.trans ?_ (by assumption)))⟩
      | false =>
        cases h4 : decide (5 < ep) with
        | true =>
          have Hs : Hid (cb = false) := hide (by rw [unhide HC, h1, h2, h3, h4]; rfl)
          go_enter Tryz.func82, Tryz.ntmps82
          go_wp2_with fail
          go_ret
          exact ⟨ret_bool (unhide Hs).symm, (by repeat (first | exact Bw.refl _ | assumption | refine Bw.drew ?_ | refine Bw.drewN ?_ _ | refine Bw.alloc ?_ _ | refine Bw.trans ?_ (by assumption)))⟩
        | false =>
          cases h5 : decide (0 ≤ r) with
          | false =>
            have Hs : Hid (cb = false) := hide (by rw [unhide HC, h1, h2, h3, h4, h5]; rfl)
            go_enter Tryz.func82, Tryz.ntmps82
            go_wp2_with fail
            go_ret
            exact ⟨ret_bool (unhide Hs).symm, (by repeat (first | exact Bw.refl _ | assumption | refine Bw.drew ?_ | refine Bw.drewN ?_ _ | refine Bw.alloc ?_ _ | refine Bw.trans ?_ (by assumption)))⟩
          | true =>
            have Hs : Hid (cb = decide (r < 4)) := hide (by rw [unhide HC, h1, h2, h3, h4, h5]; rfl)
            go_enter Tryz.func82, Tryz.ntmps82
            go_wp2_with fail
            go_ret
            exact ⟨ret_bool (unhide Hs).symm, (by repeat (first | exact Bw.refl _ | assumption | refine Bw.drew ?_ | refine Bw.drewN ?_ _ | refine Bw.alloc ?_ _ | refine Bw.trans ?_ (by assumption)))⟩

def plI (o : Bool) : Int := if o then 1 else 0
theorem pplaceOf_any (o : Bool) (w : World) : Calls Tryz.prog 83 #[.bool o] w fun e w' => e = .returned (.int .i64 (plI o)) ∧ w' = w := by
  cases o with
  | true =>
    go_enter Tryz.func83, Tryz.ntmps83
    go_wp2_with fail
    go_ret
    exact ⟨rfl, rfl⟩
  | false =>
    go_enter Tryz.func83, Tryz.ntmps83
    go_wp2_with fail
    go_ret
    exact ⟨rfl, rfl⟩

theorem bw_own {W w w' : World} {base n size : Nat} {ty : TypeId} {v : Value} {xs : List Value} (hown : w.ownsRow base ty size v n xs) (hg : w.grownBy w' v.ownBlock) (hB : Bw W w) (hb : W.heap.size ≤ base) : Bw W w' :=
  ⟨hg.os.trans (Below.os hB), hg.tape.trans (Below.tape hB), hg.output.trans (Below.output hB), Nat.le_trans (Below.size hB) hg.size, fun i hi => (hg.block i (Nat.lt_of_lt_of_le hi (Below.size hB)) (fun e => by have := (World.ownsRow.lt hown i e.symm).1; omega)).trans (Below.block hB i hi)⟩

/-- What a worker believes, as the program keeps it: 384 counts in a row. -/
def BelAt (w : World) (b o : Nat) (T : Nat → Int) : Prop := b < w.heap.size ∧ ∀ k, k < 384 → w.cell? ⟨b, o + k, none⟩ = some (.int .i64 (T k))
theorem BelAt.below {w w' : World} {b o : Nat} {T : Nat → Int} (h : BelAt w b o T) (hb : Bw w w') : BelAt w' b o T := by
  obtain ⟨q, _⟩ := bcell hb
  exact ⟨Nat.lt_of_lt_of_le h.1 hb.size, fun k hk => (q _ _ h.1).trans (h.2 k hk)⟩
theorem spot4_lt {n e s : Nat} {o : Bool} (hn : n < 8) (he : e < 6) (hs : s < 4) : spotN 4 n e s o < 384 := spotN_lt (L := 8) hn he hs
theorem spot4_eq (n e s : Nat) (o : Bool) : spotN 4 n e s o = n * 48 + (if o then 1 else 0) * 24 + e * 4 + s := by
  unfold spotN
  cases o <;> simp <;> omega
theorem BelAt.cell {w : World} {b o : Nat} {T : Nat → Int} (h : BelAt w b o T) {n e s : Nat} {ou : Bool} (hn : n < 8) (he : e < 6) (hs : s < 4) : w.cell? ⟨b, o + n * 48 + (plI ou).toNat * 24 + e * 4 + s, none⟩ = some (.int .i64 (T (spotN 4 n e s ou))) := by
  have := h.2 _ (spot4_lt (o := ou) hn he hs)
  rw [← this, spot4_eq]
  congr 2
  cases ou <;> simp [plI] <;> omega

set_option maxRecDepth 100000 in
set_option maxHeartbeats 4000000 in
theorem ppointsAt_any (b o : Nat) (T : Nat → Int) (n k : Nat) (w : World) (hn : n < 8) (hk : k < 2) (hb : BelAt w b o T) :
    Calls Tryz.prog 116 #[.pointer (some ⟨b, o, none⟩), .int .i64 (n : Int), .bool (kB k)] w fun e w' => ∃ v, e = .returned v ∧ OwnP w w' v (vE T 4 n k 6) ∧ Bw w w' := by
  have HB := hide hb
  have hlt0 := hb.1
  clear hb
  generalize hkb : kB k = kb at *
  have Hkb := hide hkb
  clear hkb
  have hn1 : (n : Int) < 8 := by omega
  go_enter Tryz.func116, Tryz.ntmps116
  go_wp2_with fail
  go_loopw [7, 8] (fun v i wr => ∃ e : Nat, e ≤ 6 ∧ i = .int .i64 e ∧ OwnP w wr v (vE T 4 n k e) ∧ Bw w wr) (fun _ i _ => 6 - (intOf i).toNat)
  case atStart => exact ⟨0, Nat.zero_le _, rfl, OwnP.nil _ _, Bw.refl _⟩
  case round =>
    obtain ⟨e, he, rfl, hown, hB⟩ := hrel
    rename World => wo
    have hle := vE_len T 4 n k e
    by_cases hlt : e < 6
    · have hl1 : decide ((e : Int) ≤ 5) = true := by simp; omega
      go_wp2_with fail
      go_loopw [7, 9] (fun v i wr => ∃ s : Nat, s ≤ 4 ∧ i = .int .i64 s ∧ OwnP w wr v (vE T 4 n k e ++ vS T 4 n k e s) ∧ Bw w wr) (fun _ i _ => 4 - (intOf i).toNat)
      case atStart => exact ⟨0, Nat.zero_le _, rfl, by simpa [vS] using hown, hB⟩
      case round =>
        clear hown hB
        obtain ⟨s, hs, rfl, hown, hB⟩ := hrel
        have hlS := vS_len T 4 n k e s
        have hle2 : (vE T 4 n k e ++ vS T 4 n k e s).length ≤ 1000 := by rw [List.length_append]; omega
        have hb' := (unhide HB).below hB
        have hlt1 := hb'.1
        by_cases hslt : s < 4
        · have hc := hb'.cell (ou := kb) hn hlt hslt
          have Hs0 : Hid (vS T 4 n k e (s + 1) = if T (spotN 4 n e s kb) == 0 then vS T 4 n k e s else vS T 4 n k e s ++ [⟨n, kb, e, s, T (spotN 4 n e s kb)⟩]) := hide (by rw [vS, unhide Hkb])
          generalize T (spotN 4 n e s kb) = tv at *
          have hs1 : decide ((s : Int) < 4) = true := by simp; omega
          have he1 : (e : Int) < 6 := by omega
          have hs2 : (s : Int) < 4 := by omega
          obtain ⟨p0, p1, hpl⟩ : 0 ≤ plI kb ∧ plI kb < 2 ∧ True := by cases kb <;> simp [plI]
          have Hpl := hide (fun w => pplaceOf_any kb w)
          generalize plI kb = pl at *
          go_wp2_with fail
          go_quiet ((go_at_call 83; refine Calls.quiet_of_same (unhide Hpl _)))
          cases htv : (tv == 0) with
          | true =>
            have htv' : (tv != 0) = false := by simpa using htv
            have Hs : Hid (vS T 4 n k e (s + 1) = vS T 4 n k e s) := hide (by rw [unhide Hs0, htv]; rfl)
            clear htv
            go_wp2_with fail
            go_roundw
            case rel => exact ⟨s + 1, by omega, by go_num, by rw [unhide Hs]; exact hown.bw (by repeat (first | exact Bw.refl _ | assumption | refine Bw.drew ?_ | refine Bw.drewN ?_ _ | refine Bw.alloc ?_ _ | refine Bw.trans ?_ (by assumption))), (by repeat (first | exact Bw.refl _ | assumption | refine Bw.drew ?_ | refine Bw.drewN ?_ _ | refine Bw.alloc ?_ _ | refine Bw.trans ?_ (by assumption)))⟩
            case measure => simp [intOf]; omega
          | false =>
            have htv' : (tv != 0) = true := by simpa using htv
            have Hs : Hid (vE T 4 n k e ++ vS T 4 n k e (s + 1) = (vE T 4 n k e ++ vS T 4 n k e s) ++ [⟨n, kb, e, s, tv⟩]) := hide (by rw [unhide Hs0, htv, List.append_assoc]; rfl)
            clear htv
            generalize vE T 4 n k e ++ vS T 4 n k e s = L at *
            go_wp2_with (at_builtin; refine appL _ rfl _ _ _ 67 rfl _ 5 40 Tryz.infoPoint Tryz.underlying63 rfl (by decide) w.heap.size _ L.length (ptsCells L) rfl (hown.bw (by repeat (first | exact Bw.refl _ | assumption | refine Bw.drew ?_ | refine Bw.drewN ?_ _ | refine Bw.alloc ?_ _ | refine Bw.trans ?_ (by assumption)))) _ _ (Pt.cells ⟨n, kb, e, s, tv⟩) rfl rfl (pt_cells (cell_of_block (alloc_at _ _ (by simp)) rfl) (cell_of_block (alloc_at _ _ (by simp)) rfl) (cell_of_block (alloc_at _ _ (by simp)) rfl) (cell_of_block (alloc_at _ _ (by simp)) rfl) (cell_of_block (alloc_at _ _ (by simp)) rfl)) (pt_one _) (by omega) (by omega) (Bw.size (by repeat (first | exact Bw.refl _ | assumption | refine Bw.drew ?_ | refine Bw.drewN ?_ _ | refine Bw.alloc ?_ _ | refine Bw.trans ?_ (by assumption)))) ?_; intro g6 cap6 w6 ho6 hg6 hl6; have hB6 := bw_own (W := w) (hown.bw (by repeat (first | exact Bw.refl _ | assumption | refine Bw.drew ?_ | refine Bw.drewN ?_ _ | refine Bw.alloc ?_ _ | refine Bw.trans ?_ (by assumption)))) hg6 (by repeat (first | exact Bw.refl _ | assumption | refine Bw.drew ?_ | refine Bw.drewN ?_ _ | refine Bw.alloc ?_ _ | refine Bw.trans ?_ (by assumption))) (Nat.le_refl _))
            go_roundw
            case rel => exact ⟨s + 1, by omega, by go_num, by rw [unhide Hs]; exact OwnP.snoc ho6, hB6⟩
            case measure => simp [intOf]; omega
        · have hss : s = 4 := by omega
          subst hss
          have Hs : Hid (vE T 4 n k (e + 1) = vE T 4 n k e ++ vS T 4 n k e 4) := hide rfl
          go_wp2_with fail
          go_roundw
          case rel => exact ⟨e + 1, by omega, by go_num, by rw [unhide Hs]; exact hown, hB⟩
          case measure => simp [intOf]; omega
    · have hee : e = 6 := by omega
      subst hee
      go_wp2_with fail
      go_ret
      exact ⟨_, rfl, hown, hB⟩

theorem ownsRow_frame {w w' : World} {base n size : Nat} {ty : TypeId} {v : Value} {xs : List Value} (h : w.ownsRow base ty size v n xs) (hf : ∀ b, v.ownBlock = some b → w'.heap[b]? = w.heap[b]?) : w'.ownsRow base ty size v n xs := by
  obtain ⟨hl, h⟩ := h
  refine ⟨hl, ?_⟩
  rcases h with h | ⟨g, cap, cur, rfl, hg, hc, r⟩
  · exact .inl h
  · exact .inr ⟨g, cap, cur, rfl, hg, (hf g rfl).trans hc, r⟩
theorem own_apart {w w' : World} {K base n size n' size' : Nat} {ty ty' : TypeId} {u v : Value} {xs ys : List Value} (hu : w.ownsRow base ty size u n xs) (hg : w.grownBy w' u.ownBlock) (hlt : ∀ b, u.ownBlock = some b → b < K) (hv : w.ownsRow K ty' size' v n' ys) : w'.ownsRow K ty' size' v n' ys :=
  ownsRow_frame hv fun b hb => hg.block b (World.ownsRow.lt hv b hb).2 (fun e => by have h1 := hlt b e.symm; have h2 := (World.ownsRow.lt hv b hb).1; omega)
theorem ptsCells_app (a b : List Pt) : ptsCells (a ++ b) = ptsCells a ++ ptsCells b := by simp [ptsCells]
theorem ptsCells_len (a : List Pt) : (ptsCells a).length = a.length * 5 := by
  induction a with
  | nil => rfl
  | cons x l ih => simp only [ptsCells, List.flatMap_cons, List.length_append, List.length_cons] at ih ⊢; rw [ih]; simp [Pt.cells]; omega
theorem pts_one (a : List Pt) : ∀ u ∈ ptsCells a, u.oneCell' = true := by
  intro u hu
  simp only [ptsCells, List.mem_flatMap] at hu
  obtain ⟨p, _, hp⟩ := hu
  exact pt_one p u hp
theorem cellsAt_own {w : World} {base n size : Nat} {ty : TypeId} {v : Value} {xs : List Value} (h : w.ownsRow base ty size v n xs) : CellsAt w (addrOf v) n xs := by
  intro hn
  obtain ⟨g, e, _, hc⟩ := ownsRow_at h hn
  exact ⟨g, 0, e, fun j u hj => by rw [Nat.zero_add]; exact hc j u hj⟩

set_option maxRecDepth 100000 in
set_option maxHeartbeats 4000000 in
theorem ppoints_any (b o : Nat) (T : Nat → Int) (w : World) (hb : BelAt w b o T) :
    Calls Tryz.prog 93 #[.pointer (some ⟨b, o, none⟩)] w fun e w' => ∃ v, e = .returned v ∧ OwnP w w' v (vN T 4 8) ∧ Bw w w' := by
  have HB := hide hb
  clear hb
  have hk0 : kB 0 = false := rfl
  have hk1 : kB 1 = true := rfl
  go_enter Tryz.func93, Tryz.ntmps93
  go_wp2_with fail
  go_loopw [3, 4] (fun v i wr => ∃ n : Nat, n ≤ 8 ∧ i = .int .i64 n ∧ OwnP w wr v (vN T 4 n) ∧ Bw w wr) (fun _ i _ => 8 - (intOf i).toNat)
  case atStart => exact ⟨0, Nat.zero_le _, rfl, OwnP.nil _ _, Bw.refl _⟩
  case round =>
    obtain ⟨n, hn, rfl, hown, hB⟩ := hrel
    rename World => wr
    have hle := vN_len T 4 n
    by_cases hlt : n < 8
    · have hl1 : decide ((n : Int) < 8) = true := by simp; omega
      have P0 := hide (fun w' h => hk0 ▸ ppointsAt_any b o T n 0 w' hlt (by omega) h)
      have P1 := hide (fun w' h => hk1 ▸ ppointsAt_any b o T n 1 w' hlt (by omega) h)
      have Hs : Hid (vN T 4 (n + 1) = (vN T 4 n ++ vE T 4 n 0 6) ++ vE T 4 n 1 6) := hide (by simp [vN, vK])
      have h0 := vE_len T 4 n 0 6
      have h1 := vE_len T 4 n 1 6
      generalize vE T 4 n 0 6 = A0 at *
      generalize vE T 4 n 1 6 = A1 at *
      generalize vN T 4 n = L at *
      have hblt : ∀ g, (Value.ownBlock _) = some g → g < wr.heap.size := fun g hg => (World.ownsRow.lt hown g hg).2
      go_wp2_with fail
      refine ((unhide P0) _ ((unhide HB).below hB)).mono ?_
      rintro e1 w1 ⟨v0, rfl, ho0, hb1⟩
      go_wp2_with fail
      refine ((unhide P1) _ ((unhide HB).below (hB.trans hb1))).mono ?_
      rintro e2 w2 ⟨v1, rfl, ho1, hb2⟩
      obtain ⟨a0, c0, hv0⟩ : ∃ a0 c0, v0 = .slice a0 A0.length c0 := ⟨_, _, ownsRow_val ho0⟩
      subst hv0
      obtain ⟨a1, c1, hv1⟩ : ∃ a1 c1, v1 = .slice a1 A1.length c1 := ⟨_, _, ownsRow_val ho1⟩
      subst hv1
      have hb12 := hb1.size
      go_wp2_with (first | (at_builtin; refine appG w2 rfl _ _ _ 67 rfl _ 5 40 Tryz.infoPoint Tryz.underlying63 rfl (by decide) w.heap.size _ L.length (ptsCells L) rfl (hown.bw (hb1.trans hb2)) _ A0.length _ (ptsCells A0) rfl (ptsCells_len A0) (cellsAt_own (ho0.bw hb2)) (pts_one A0) (by omega) (by omega) (hB.trans (hb1.trans hb2)).size ?_; intro v3 w3 ho3 hg3 hl3; have hB3 := bw_own (W := w) (hown.bw (hb1.trans hb2)) hg3 (hB.trans (hb1.trans hb2)) (Nat.le_refl _); have hc3 := cellsAt_own (own_apart (hown.bw (hb1.trans hb2)) hg3 (fun g hg => Nat.lt_of_lt_of_le (hblt g hg) hb12) ho1)) | (at_builtin; refine appG w3 rfl _ _ _ 67 rfl _ 5 40 Tryz.infoPoint Tryz.underlying63 rfl (by decide) w.heap.size _ (L.length + A0.length) (ptsCells L ++ ptsCells A0) rfl ho3 _ A1.length _ (ptsCells A1) rfl (ptsCells_len A1) hc3 (pts_one A1) (by omega) (by omega) hB3.size ?_; intro v4 w4 ho4 hg4 hl4; have hB4 := bw_own (W := w) ho3 hg4 hB3 (Nat.le_refl _)))
      go_roundw
      case rel =>
        refine ⟨n + 1, by omega, by go_num, ?_, hB4⟩
        rw [unhide Hs]
        unfold OwnP
        rw [ptsCells_app, ptsCells_app, List.length_append, List.length_append]
        exact ho4
      case measure => simp [intOf]; omega
    · have hnn : n = 8 := by omega
      subst hnn
      go_wp2_with fail
      go_ret
      exact ⟨_, rfl, hown, hB⟩
end Go.Proofs.YtfemleimkbjehaaGreat
