import Derived.Test.YtfemleimkbjehaaGreatJ23
import Derived.Test.YtfemleimkbjehaaGreatRunI
import Derived.Deep.MidRow
namespace Go.Proofs.YtfemleimkbjehaaGreat
set_option linter.unusedVariables false
set_option linter.unusedSimpArgs false
open Go.RowKit

/-- The least of c below b; b if there is none. -/
def fstS (c : Nat → Bool) : Nat → Nat
  | 0 => 0
  | b + 1 => if fstS c b < b then fstS c b else if c b then b else b + 1
theorem fstS_le (c : Nat → Bool) (b : Nat) : fstS c b ≤ b := by
  induction b with
  | zero => simp [fstS]
  | succ b ih => unfold fstS; split <;> (try split) <;> omega
theorem fstS_no (c : Nat → Bool) (b : Nat) : ∀ j, j < fstS c b → c j = false := by
  induction b with
  | zero => intro j h; simp [fstS] at h
  | succ b ih =>
    intro j h
    have hle := fstS_le c b
    unfold fstS at h
    split at h
    · exact ih j h
    · have e : fstS c b = b := by omega
      split at h
      · exact ih j (by omega)
      · rename_i hc
        by_cases hj : j < b
        · exact ih j (by omega)
        · have : j = b := by omega
          subst this
          simpa using hc
theorem fstS_yes (c : Nat → Bool) (b : Nat) : fstS c b < b → c (fstS c b) = true := by
  induction b with
  | zero => intro h; simp [fstS] at h
  | succ b ih =>
    intro h
    have hle := fstS_le c b
    unfold fstS at h ⊢
    split
    · rename_i h1; exact ih h1
    · rename_i h1
      rw [if_neg h1] at h
      split
      · assumption
      · rename_i hc; rw [if_neg hc] at h; omega
theorem fstS_eq {c : Nat → Bool} {b s : Nat} (hs : s < b) (hc : c s = true) (hn : ∀ j, j < s → c j = false) : fstS c b = s := by
  have h1 := fstS_no c b
  have hle := fstS_le c b
  rcases Nat.lt_trichotomy (fstS c b) s with h | h | h
  · have := fstS_yes c b (by omega)
    rw [hn _ h] at this
    cases this
  · exact h
  · rw [h1 s h] at hc; cases hc
theorem fstS_none {c : Nat → Bool} {b : Nat} (hn : ∀ j, j < b → c j = false) : fstS c b = b := by
  have hle := fstS_le c b
  rcases Nat.lt_or_ge (fstS c b) b with h | h
  · have := fstS_yes c b h
    rw [hn _ h] at this
    cases this
  · omega
def belE (C : Nat → Nat → Bool) : Nat → Nat
  | 0 => 4
  | e + 1 => fstS (C e) (belE C e)
def lstE (C : Nat → Nat → Bool) : Nat → List Tm
  | 0 => []
  | e + 1 => if fstS (C e) (belE C e) < belE C e then lstE C e ++ [⟨e, (fstS (C e) (belE C e) : Nat)⟩] else lstE C e
theorem belE_le (C : Nat → Nat → Bool) (e : Nat) : belE C e ≤ 4 := by
  induction e with
  | zero => simp [belE]
  | succ e ih => have := fstS_le (C e) (belE C e); unfold belE; omega
theorem lstE_len (C : Nat → Nat → Bool) (e : Nat) : (lstE C e).length ≤ e := by
  induction e with
  | zero => simp [lstE]
  | succ e ih => unfold lstE; split <;> (try simp) <;> omega

set_option maxRecDepth 100000 in
set_option maxHeartbeats 4000000 in
theorem pleast_any (C : Nat → Nat → Bool) (arr : Array Value) (w : World) (hs : arr.size = 24) (hC : ∀ e s, e < 6 → s < 4 → arr[e * 4 + s]? = some (.bool (C e s))) :
    Calls Tryz.prog 118 #[.agg arr] w fun en w' => ∃ v, en = .returned v ∧ OwnT w w' v (lstE C 6) ∧ Bw w w' := by
  go_enter Tryz.func118, Tryz.ntmps118
  go_wp2_with fail
  obtain ⟨w0, hw0⟩ : ∃ w0, w.alloc (.cells arr 201) = w0 := ⟨_, rfl⟩
  rw [hw0]
  obtain ⟨hb0, hB0⟩ : w0.heap[w.heap.size]? = some (.cells arr 201 (0, 0)) ∧ Bw w w0 := by
    rw [← hw0]; exact ⟨heap_alloc_new w _, (by repeat (first | exact Bw.refl _ | assumption | refine Bw.drew ?_ | refine Bw.drewN ?_ _ | refine Bw.alloc ?_ _ | refine Bw.trans ?_ (by assumption)))⟩
  clear hw0
  obtain ⟨cb, hcb⟩ : ∃ cb, w.heap.size = cb := ⟨_, rfl⟩
  rw [hcb] at hb0
  rw [hcb]
  clear hcb
  have Hb0 := hide hb0
  have HC := hide hC
  clear hb0 hC
  go_loopw [3, 4, 5] (fun v b i wr => ∃ e : Nat, e ≤ 6 ∧ i = .int .i64 e ∧ b = .int .i64 (belE C e : Nat) ∧ OwnT w0 wr v (lstE C e) ∧ Bw w0 wr) (fun _ _ i _ => 6 - (intOf i).toNat)
  case atStart => exact ⟨0, Nat.zero_le _, rfl, rfl, OwnT.nil _ _, Bw.refl _⟩
  case round =>
    obtain ⟨e, he, rfl, rfl, hown, hB⟩ := hrel
    rename World => wo
    have hle := lstE_len C e
    have hb4 := belE_le C e
    by_cases hlt : e < 6
    · have hl1 : decide ((e : Int) ≤ 5) = true := by simp; omega
      have Hb1 : Hid (belE C (e + 1) = fstS (C e) (belE C e)) := hide rfl
      have Hl1 : Hid (lstE C (e + 1) = if fstS (C e) (belE C e) < belE C e then lstE C e ++ [⟨e, (fstS (C e) (belE C e) : Nat)⟩] else lstE C e) := hide rfl
      have Hno := hide (@fstS_none (C e) (belE C e))
      have Hyes := hide (fun (s : Nat) (a : s < belE C e) (b : C e s = true) (c : ∀ j, j < s → C e j = false) => fstS_eq a b c)
      obtain ⟨L1, hL1⟩ : ∃ L1, lstE C (e + 1) = L1 := ⟨_, rfl⟩
      obtain ⟨B1, hB1e⟩ : ∃ B1, belE C (e + 1) = B1 := ⟨_, rfl⟩
      rw [hL1] at Hl1
      rw [hB1e] at Hb1
      have HL1 := hide hL1
      have HB1e := hide hB1e
      clear hL1 hB1e
      generalize belE C e = B at *
      generalize lstE C e = L at *
      generalize fstS (C e) B = F at *
      go_wp2_with fail
      go_loopw [3, 4, 6] (fun v b i wr => ∃ s : Nat, i = .int .i64 s ∧ Bw w0 wr ∧ ((s ≤ B ∧ b = .int .i64 (B : Nat) ∧ OwnT w0 wr v L ∧ ∀ j, j < s → C e j = false) ∨ (1 ≤ s ∧ s ≤ B ∧ b = .int .i64 (B1 : Nat) ∧ B1 + 1 = s ∧ OwnT w0 wr v L1))) (fun _ _ i _ => 5 - (intOf i).toNat)
      case atStart => exact ⟨0, rfl, hB, .inl ⟨Nat.zero_le _, rfl, hown, fun j hj => absurd hj (Nat.not_lt_zero j)⟩⟩
      case round =>
        clear hown hB
        obtain ⟨s, rfl, hB, ⟨hsB, rfl, hown, hnone⟩ | ⟨hs1, hsB, rfl, hB1, hown⟩⟩ := hrel
        · by_cases hsl : s < B
          · have hwb := (Below.block hB _ (Array.getElem?_eq_some_iff.1 (unhide Hb0)).1).trans (unhide Hb0)
            have hc := cell_of_block hwb ((unhide HC) e s hlt (by omega))
            have hcl := (Array.getElem?_eq_some_iff.1 hwb).1
            have he6 : (e : Int) < 6 := by omega
            have hs4 : (s : Int) < 4 := by omega
            have hd1 : decide ((s : Int) < (B : Int)) = true := by simp; omega
            cases hcc : C e s with
            | false =>
              rw [hcc] at hc
              have Hnone : Hid (∀ j, j < s + 1 → C e j = false) := hide (fun j hj => by
                by_cases h : j < s
                · exact hnone j h
                · have : j = s := by omega
                  subst this; exact hcc)
              clear hnone hcc hwb
              go_wp2_with fail
              go_roundw
              case rel => exact ⟨s + 1, by go_num, hB, .inl ⟨by omega, rfl, hown, unhide Hnone⟩⟩
              case measure => simp [intOf]; omega
            | true =>
              rw [hcc] at hc
              have hF := (unhide Hyes) s hsl hcc hnone
              have HL : Hid (L1 = L ++ [⟨e, (s : Int)⟩]) := hide (by rw [unhide Hl1, hF, if_pos hsl])
              have HB1 : Hid (B1 = s) := hide (by rw [unhide Hb1, hF])
              clear hF hcc hnone hwb
              go_wp2_with (at_builtin; refine appL _ rfl _ _ _ 72 rfl _ 2 16 Tryz.infoTime Tryz.underlying68 rfl (by decide) w0.heap.size _ L.length (tmsCells L) rfl (hown.bw (by repeat (first | exact Bw.refl _ | assumption | refine Bw.drew ?_ | refine Bw.drewN ?_ _ | refine Bw.alloc ?_ _ | refine Bw.trans ?_ (by assumption)))) _ _ (Tm.cells ⟨e, s⟩) rfl rfl (tm_cells (cell_of_block (alloc_at _ _ (by simp)) rfl) (cell_of_block (alloc_at _ _ (by simp)) rfl)) (tm_one _) (by omega) (by omega) (Bw.size (show Bw w0 _ from (by repeat (first | exact Bw.refl _ | assumption | refine Bw.drew ?_ | refine Bw.drewN ?_ _ | refine Bw.alloc ?_ _ | refine Bw.trans ?_ (by assumption))))) ?_; intro g6 cap6 w6 ho6 hg6 hl6)
              go_roundw
              case rel =>
                refine ⟨s + 1, by go_num, ?_, .inr ⟨by omega, by omega, by rw [unhide HB1], by rw [unhide HB1], by rw [unhide HL]; exact OwnT.snoc ho6⟩⟩
                exact bw_own (W := w0) (hown.bw (show Bw wr (wr.alloc (.cells #[.int .i64 (e : Int), .int .i64 (s : Int)] 72)) from (by repeat (first | exact Bw.refl _ | assumption | refine Bw.drew ?_ | refine Bw.drewN ?_ _ | refine Bw.alloc ?_ _ | refine Bw.trans ?_ (by assumption))))) hg6 (hB.alloc _) (Nat.le_refl _)
              case measure => simp [intOf]; omega
          · have hss : s = B := by omega
            subst hss
            have hF := (unhide Hno) hnone
            have HL : Hid (L1 = L) := hide (by rw [unhide Hl1, hF, if_neg (by omega)])
            have HB1 : Hid (B1 = s) := hide (by rw [unhide Hb1, hF])
            have hd1 : decide ((s : Int) < (s : Int)) = false := by simp
            clear hF hnone
            go_wp2_with fail
            go_roundw
            case rel => exact ⟨e + 1, by omega, by go_num, by rw [unhide HB1e, unhide HB1], by rw [unhide HL1, unhide HL]; exact hown, hB⟩
            case measure => simp [intOf]; omega
        · have hd1 : decide ((s : Int) < (B1 : Int)) = false := by simp; omega
          have hsn : ¬ s < B1 := by omega
          clear hB1
          go_wp2_with fail
          go_roundw
          case rel => exact ⟨e + 1, by omega, by go_num, by rw [unhide HB1e], by rw [unhide HL1]; exact hown, hB⟩
          case measure => simp [intOf]; omega
    · have hee : e = 6 := by omega
      subst hee
      go_wp2_with fail
      go_ret
      exact ⟨_, rfl, hown.weaken hB0, hB0.trans hB⟩
end Go.Proofs.YtfemleimkbjehaaGreat
namespace Go.Proofs.YtfemleimkbjehaaGreat
set_option linter.unusedVariables false
set_option linter.unusedSimpArgs false
open Go.RowKit

theorem alloc3 (w : World) (A B C : Obj) : (((w.alloc A).alloc B).alloc C).heap[w.heap.size]? = some A ∧ (((w.alloc A).alloc B).alloc C).heap[w.heap.size + 1]? = some B ∧ (((w.alloc A).alloc B).alloc C).heap[w.heap.size + 1 + 1]? = some C ∧ Bw w (((w.alloc A).alloc B).alloc C) := by
  refine ⟨(Below.block (show Bw (w.alloc A) _ from (by repeat (first | exact Bw.refl _ | assumption | refine Bw.drew ?_ | refine Bw.drewN ?_ _ | refine Bw.alloc ?_ _ | refine Bw.trans ?_ (by assumption)))) _ (by simp)).trans (heap_alloc_new w _), ?_, ?_, (by repeat (first | exact Bw.refl _ | assumption | refine Bw.drew ?_ | refine Bw.drewN ?_ _ | refine Bw.alloc ?_ _ | refine Bw.trans ?_ (by assumption)))⟩
  · have h : ((w.alloc A).alloc B).heap[w.heap.size + 1]? = some B := by rw [show w.heap.size + 1 = (w.alloc A).heap.size by simp]; exact heap_alloc_new _ _
    exact (Below.block (show Bw ((w.alloc A).alloc B) _ from (by repeat (first | exact Bw.refl _ | assumption | refine Bw.drew ?_ | refine Bw.drewN ?_ _ | refine Bw.alloc ?_ _ | refine Bw.trans ?_ (by assumption)))) _ (by simp)).trans h
  · rw [show w.heap.size + 1 + 1 = ((w.alloc A).alloc B).heap.size by simp]; exact heap_alloc_new _ _
def inT (ts : List Tm) (e s : Nat) : Bool := inTo ts e s ts.length
theorem inTo_app (ts : List Tm) (t : Tm) (e s : Nat) : ∀ i, i ≤ ts.length → inTo (ts ++ [t]) e s i = inTo ts e s i := by
  intro i
  induction i with
  | zero => intro _; rfl
  | succ i ih =>
    intro h
    rw [inTo, inTo, ih (by omega)]
    congr 1
    unfold tmn
    simp [List.getD, List.getElem?_append_left (show i < ts.length by omega)]
theorem inT_snoc (ts : List Tm) (t : Tm) (e s : Nat) : inT (ts ++ [t]) e s = (inT ts e s || eqB t e s) := by
  unfold inT
  rw [List.length_append, List.length_singleton, inTo, inTo_app ts t e s _ (Nat.le_refl _)]
  congr 2
  unfold tmn
  simp [List.getD]
theorem Tryz.sizeComing : (Tryz.prog.info? 201).map (·.size) = some 24 := by kernel_rfl
/-- The table of what can come. -/
def ComIn (w : World) (cb : Nat) (C : Nat → Nat → Bool) : Prop := ∃ arr : Array Value, w.heap[cb]? = some (.cells arr 201 (0, 0)) ∧ arr.size = 24 ∧ ∀ e s, e < 6 → s < 4 → arr[e * 4 + s]? = some (.bool (C e s))
theorem ComIn.bw {w w' : World} {cb : Nat} {C : Nat → Nat → Bool} (h : ComIn w cb C) (hb : Bw w w') : ComIn w' cb C := by
  obtain ⟨arr, h1, r⟩ := h
  exact ⟨arr, (Below.block hb _ (Array.getElem?_eq_some_iff.1 h1).1).trans h1, r⟩
theorem ComIn.set {w : World} {cb e0 s0 : Nat} {C : Nat → Nat → Bool} (h : ComIn w cb C) (he : e0 < 6) (hs : s0 < 4) : ComIn (w.setCell ⟨cb, e0 * 4 + s0, none⟩ (.bool true)) cb (fun e s => C e s || eqB ⟨e0, s0⟩ e s) := by
  obtain ⟨arr, h1, h2, h3⟩ := h
  refine ⟨_, heap_setCell_at h1, by simpa using h2, fun e s h4 h5 => ?_⟩
  by_cases hq : e = e0 ∧ s = s0
  · obtain ⟨rfl, rfl⟩ := hq
    rw [Array.getElem?_setIfInBounds_self_of_lt (by omega)]
    simp [eqB]
  · rw [Array.getElem?_setIfInBounds_ne (by omega), h3 e s h4 h5]
    have : eqB ⟨(e0 : Int), (s0 : Int)⟩ e s = false := by
      simp only [eqB, Bool.and_eq_false_iff, beq_eq_false_iff_ne, ne_eq]
      by_cases h : e = e0
      · right; intro h'; apply hq; exact ⟨h, by omega⟩
      · left; omega
    simp only [this, Bool.or_false]
theorem ComIn.cell {w : World} {cb : Nat} {C : Nat → Nat → Bool} (h : ComIn w cb C) {e s : Nat} (he : e < 6) (hs : s < 4) : w.cell? ⟨cb, e * 4 + s, none⟩ = some (.bool (C e s)) ∧ w.frozen? ⟨cb, e * 4 + s, none⟩ = false ∧ cb < w.heap.size := by
  obtain ⟨arr, h1, _, h3⟩ := h
  exact ⟨cell_of_block h1 (h3 e s he hs), frozen_of_block h1, (Array.getElem?_eq_some_iff.1 h1).1⟩
theorem ComIn.congr {w : World} {cb : Nat} {C C' : Nat → Nat → Bool} (h : ComIn w cb C) (hc : ∀ e s, e < 6 → s < 4 → C e s = C' e s) : ComIn w cb C' := by
  obtain ⟨arr, h1, h2, h3⟩ := h
  exact ⟨arr, h1, h2, fun e s h4 h5 => by rw [← hc e s h4 h5]; exact h3 e s h4 h5⟩

set_option maxRecDepth 100000 in
set_option maxHeartbeats 4000000 in
theorem pfrontier_any {ns : List Nd} {D : Nat → Nat → Int} {na da la : Option Addr} {nc dc lc R : Nat} (ps : List Pt) (y : Nat) (w : World) (hnd : NodesAt w na ns) (hdt : TabAt w da ns.length ns.length D) (hps : PtsAt w la ps) (h8 : ns.length ≤ 8) (hR : R ≤ 4) (hy : y < ns.length) (hD : ∀ a b, D a b ≤ 1000) (hD1 : ∀ a b, -1 ≤ D a b) (hok : ∀ p ∈ ps, PtOk ns.length R p) (hl : ps.length ≤ 1000) :
    Calls Tryz.prog 94 #[.agg #[.slice na ns.length nc, .int .i64 (R : Int)], .agg #[.slice da ns.length dc], .slice la ps.length lc, .int .i64 (y : Int)] w fun en w' => ∃ v, en = .returned v ∧ OwnT w w' v (lstE (inT (comTo ns D R ps y ps.length)) 6) ∧ Bw w w' := by
  go_enter Tryz.func94, Tryz.ntmps94
  go_wp2_with fail
  obtain ⟨w0, hw0⟩ : ∃ w0, ((w.alloc (.cells #[.slice na ns.length nc, .int .i64 (R : Int)] 24)).alloc (.cells #[.slice da ns.length dc] 85)).alloc (.cells #[.bool false, .bool false, .bool false, .bool false, .bool false, .bool false, .bool false, .bool false, .bool false, .bool false, .bool false, .bool false, .bool false, .bool false, .bool false, .bool false, .bool false, .bool false, .bool false, .bool false, .bool false, .bool false, .bool false, .bool false] 201) = w0 := ⟨_, rfl⟩
  have hA := alloc3 w (.cells #[.slice na ns.length nc, .int .i64 (R : Int)] 24) (.cells #[.slice da ns.length dc] 85) (.cells #[.bool false, .bool false, .bool false, .bool false, .bool false, .bool false, .bool false, .bool false, .bool false, .bool false, .bool false, .bool false, .bool false, .bool false, .bool false, .bool false, .bool false, .bool false, .bool false, .bool false, .bool false, .bool false, .bool false, .bool false] 201)
  rw [hw0] at hA
  rw [hw0]
  obtain ⟨hg0, hd0, hc0, hB0⟩ := hA
  clear hw0
  obtain ⟨gb, hgb⟩ : ∃ gb, w.heap.size = gb := ⟨_, rfl⟩
  rw [hgb] at hg0 hd0 hc0
  rw [hgb]
  obtain ⟨db, hdb⟩ : ∃ db, gb + 1 = db := ⟨_, rfl⟩
  obtain ⟨cb, hcb⟩ : ∃ cb, gb + 1 + 1 = cb := ⟨_, rfl⟩
  rw [hcb] at hc0
  rw [hdb] at hd0
  simp only [hcb]
  simp only [hdb]
  have hq : w.heap.size ≤ cb ∧ gb ≠ cb ∧ db ≠ cb := by omega
  clear hgb hdb hcb
  have hcom0 : ComIn w0 cb (inT (comTo ns D R ps y 0)) := ⟨_, hc0, rfl, fun e s h4 h5 => by
    have : inT (comTo ns D R ps y 0) e s = false := rfl
    rw [this]
    have hk : e * 4 + s < 24 := by omega
    generalize e * 4 + s = k at hk
    match k, hk with
    | (m + 24), hm => exact absurd hm (by omega)
    | 0, _ | 1, _ | 2, _ | 3, _ | 4, _ | 5, _ | 6, _ | 7, _ | 8, _ | 9, _ | 10, _ | 11, _ | 12, _ | 13, _ | 14, _ | 15, _ | 16, _ | 17, _ | 18, _ | 19, _ | 20, _ | 21, _ | 22, _ | 23, _ => rfl⟩
  go_loopw [15] (fun i wr => ∃ k : Nat, k ≤ ps.length ∧ i = .int .i64 k ∧ ComIn wr cb (inT (comTo ns D R ps y k)) ∧ wr.heap[gb]? = some (.cells #[.slice na ns.length nc, .int .i64 (R : Int)] 24 (0, 0)) ∧ wr.heap[db]? = some (.cells #[.slice da ns.length dc] 85 (0, 0)) ∧ Bw w wr) (fun i _ => ps.length - (intOf i).toNat)
  case atStart => exact ⟨0, Nat.zero_le _, rfl, hcom0, hg0, hd0, hB0⟩
  case round =>
    clear hcom0 hg0 hd0 hB0 hc0
    obtain ⟨k, hk, rfl, hcom, hg, hd, hB⟩ := hrel
    rename World => wr
    have g0 := cell_of_block (o := 0) hg rfl
    have g1 := cell_of_block (o := 1) hg rfl
    have gl := (Array.getElem?_eq_some_iff.1 hg).1
    have dd0 := cell_of_block (o := 0) hd rfl
    have dl := (Array.getElem?_eq_some_iff.1 hd).1
    have Hg := hide hg
    have Hd := hide hd
    have Hcom := hide hcom
    clear hg hd hcom
    by_cases hlt : k < ps.length
    · have hpk := hok _ (ptn_mem hlt)
      have Hcan := hide (canB_of hpk h8 hR)
      obtain ⟨pb, poff, rfl, hpb, hpc⟩ := (hps.below hB) k hlt
      obtain ⟨p0, p1, p2, p3, p4⟩ := hpc k hlt
      clear hpc
      obtain ⟨n, ep, s, h1, h2, h3, h4, h5, h6⟩ := hpk
      have Hyes := hide (@comTo_yes ns D R ps y k)
      have Hno := hide (@comTo_no ns D R ps y k)
      have Hcb : Hid (comB ns D R ps y k = (decide (0 < (ptn ps k).count) && (decide (0 ≤ comesI ns D n (ptn ps k).out s y) && decide (comesI ns D n (ptn ps k).out s y < R)))) := hide (by unfold comB; rw [h1, h5]; rfl)
      rw [h1, h3, h5, Int.toNat_natCast, Int.toNat_natCast] at Hyes
      rw [h1] at p0
      rw [h3] at p2
      rw [h5] at p3
      have Hp : Hid (ptn ps k = ⟨n, (ptn ps k).out, ep, s, (ptn ps k).count⟩) := hide (by cases hq : ptn ps k; simp [hq] at h1 h3 h5; simp [h1, h3, h5])
      rw [unhide Hp] at Hcan
      clear h1 h3 h5 Hp
      have Hf := hide (fun (w' : World) (hB' : Bw w w') => pfirst_any (na := na) (da := da) (nc := nc) (dc := dc) n ep s y (R : Int) (ptn ps k).out (ptn ps k).count w' (hnd.below hB') (hdt.below hB') h8 h2 hy (by omega) (hD n y) (hD1 n y))
      have Hcbe := hide (fun w => pcanBe_any ⟨n, (ptn ps k).out, ep, s, (ptn ps k).count⟩ w)
      generalize (ptn ps k).out = ou at *
      generalize (ptn ps k).count = ct at *
      generalize comesI ns D n ou s y = z at *
      by_cases hct : 0 < ct
      · have hct1 : decide (ct ≤ 0) = false := by simp; omega
        have hct2 : decide (0 < ct) = true := by simpa using hct
        by_cases hz0 : 0 ≤ z
        · obtain ⟨zn, rfl⟩ := Int.eq_ofNat_of_zero_le hz0
          by_cases hzR : zn < R
          · have hz1 : decide ((0 : Int) ≤ (zn : Int)) = true := by simp
            have hz2 : decide ((zn : Int) < (R : Int)) = true := by simp; omega
            have hz3 : decide ((zn : Int) < 4) = true := by simp; omega
            have hz4 : (zn : Int) < 4 := by omega
            have he6 : (ep : Int) < 6 := by omega
            have Hs := hide ((unhide Hyes) (by rw [unhide Hcb, hct2, hz1, hz2]; rfl))
            clear Hyes Hno Hcb hz0
            go_wp2_with (first | (go_at_call 82; refine ((unhide Hcbe) _).mono ?_; rintro en w1 ⟨rfl, hb1⟩; rw [unhide Hcan]; have hw1 : Bw wr w1 := (by repeat (first | exact Bw.refl _ | assumption | refine Bw.drew ?_ | refine Bw.drewN ?_ _ | refine Bw.alloc ?_ _ | refine Bw.trans ?_ (by assumption))); have hx1 := (Below.block hb1 wr.heap.size (by simp)).trans (heap_alloc_new wr _); have x0 := cell_of_block (o := 0) hx1 rfl; have x1 := cell_of_block (o := 1) hx1 rfl; have x2 := cell_of_block (o := 2) hx1 rfl; have x3 := cell_of_block (o := 3) hx1 rfl; have x4 := cell_of_block (o := 4) hx1 rfl; have xl := (Array.getElem?_eq_some_iff.1 hx1).1; have Hx1 := hide hx1; have hg1 := (Below.block hw1 _ gl).trans (unhide Hg); have e0 := cell_of_block (o := 0) hg1 rfl; have e1 := cell_of_block (o := 1) hg1 rfl; have el := (Array.getElem?_eq_some_iff.1 hg1).1; have hd1 := (Below.block hw1 _ dl).trans (unhide Hd); have f0 := cell_of_block (o := 0) hd1 rfl; have fl := (Array.getElem?_eq_some_iff.1 hd1).1; clear hg1 hd1 hx1) | (go_at_call 117; refine ((unhide Hf) _ (hB.trans hw1)).mono ?_; rintro en w2 ⟨rfl, hb2⟩; have hw2 : Bw wr w2 := hw1.trans hb2; have hx2 := (Below.block hb2 _ xl).trans (unhide Hx1); have y2 := cell_of_block (o := 2) hx2 rfl; have yl := (Array.getElem?_eq_some_iff.1 hx2).1; have hg2 := (Below.block hw2 _ gl).trans (unhide Hg); have k1 := cell_of_block (o := 1) hg2 rfl; have kl := (Array.getElem?_eq_some_iff.1 hg2).1; have Hcom2 := hide ((unhide Hcom).bw hw2); have Hg2 := hide hg2; have Hd2 := hide ((Below.block hw2 _ dl).trans (unhide Hd)); clear hg2 hx2; obtain ⟨q0, q1, q2⟩ := (unhide Hcom2).cell h4 (show zn < 4 by omega)))
            go_roundw
            case rel =>
              refine ⟨k + 1, by omega, by go_num, ?_, ?_, ?_, ?_⟩
              · rw [unhide Hs]
                exact ((unhide Hcom2).set h4 (show zn < 4 by omega)).congr fun e s _ _ => (inT_snoc _ _ e s).symm
              · exact (Below.heap_setCell w2 ⟨cb, ep * 4 + zn, none⟩ _ gb hq.2.1).trans (unhide Hg2)
              · exact (Below.heap_setCell w2 ⟨cb, ep * 4 + zn, none⟩ _ db hq.2.2).trans (unhide Hd2)
              · exact Chg.toBw (S := fun b => b = cb) (hB.trans hw2) (chg_set _ _ _ _) (fun x hx => hx ▸ hq.1)
            case measure => simp [intOf]; omega
          · have hz2 : decide ((zn : Int) < (R : Int)) = false := by simp; omega
            have hz1 : decide ((0 : Int) ≤ (zn : Int)) = true := by simp
            have hz5 : ¬ zn < R := hzR
            have Hs := hide ((unhide Hno) (by rw [unhide Hcb, hct2, hz1, hz2]; rfl))
            clear Hyes Hno Hcb hz0
            go_wp2_with (first | (go_at_call 82; refine ((unhide Hcbe) _).mono ?_; rintro en w1 ⟨rfl, hb1⟩; rw [unhide Hcan]; have hw1 : Bw wr w1 := (by repeat (first | exact Bw.refl _ | assumption | refine Bw.drew ?_ | refine Bw.drewN ?_ _ | refine Bw.alloc ?_ _ | refine Bw.trans ?_ (by assumption))); have hx1 := (Below.block hb1 wr.heap.size (by simp)).trans (heap_alloc_new wr _); have x0 := cell_of_block (o := 0) hx1 rfl; have x1 := cell_of_block (o := 1) hx1 rfl; have x2 := cell_of_block (o := 2) hx1 rfl; have x3 := cell_of_block (o := 3) hx1 rfl; have x4 := cell_of_block (o := 4) hx1 rfl; have xl := (Array.getElem?_eq_some_iff.1 hx1).1; have Hx1 := hide hx1; have hg1 := (Below.block hw1 _ gl).trans (unhide Hg); have e0 := cell_of_block (o := 0) hg1 rfl; have e1 := cell_of_block (o := 1) hg1 rfl; have el := (Array.getElem?_eq_some_iff.1 hg1).1; have hd1 := (Below.block hw1 _ dl).trans (unhide Hd); have f0 := cell_of_block (o := 0) hd1 rfl; have fl := (Array.getElem?_eq_some_iff.1 hd1).1; clear hg1 hd1 hx1) | (go_at_call 117; refine ((unhide Hf) _ (hB.trans hw1)).mono ?_; rintro en w2 ⟨rfl, hb2⟩; have hw2 : Bw wr w2 := hw1.trans hb2; have hx2 := (Below.block hb2 _ xl).trans (unhide Hx1); have y2 := cell_of_block (o := 2) hx2 rfl; have yl := (Array.getElem?_eq_some_iff.1 hx2).1; have hg2 := (Below.block hw2 _ gl).trans (unhide Hg); have k1 := cell_of_block (o := 1) hg2 rfl; have kl := (Array.getElem?_eq_some_iff.1 hg2).1; have Hcom2 := hide ((unhide Hcom).bw hw2); have Hg2 := hide hg2; have Hd2 := hide ((Below.block hw2 _ dl).trans (unhide Hd)); clear hg2 hx2))
            go_roundw
            case rel => exact ⟨k + 1, by omega, by go_num, by rw [unhide Hs]; exact unhide Hcom2, unhide Hg2, unhide Hd2, hB.trans hw2⟩
            case measure => simp [intOf]; omega
        · have hz1 : decide (0 ≤ z) = false := by simpa using hz0
          have Hs := hide ((unhide Hno) (by rw [unhide Hcb, hct2, hz1]; rfl))
          clear Hyes Hno Hcb
          go_wp2_with (first | (go_at_call 82; refine ((unhide Hcbe) _).mono ?_; rintro en w1 ⟨rfl, hb1⟩; rw [unhide Hcan]; have hw1 : Bw wr w1 := (by repeat (first | exact Bw.refl _ | assumption | refine Bw.drew ?_ | refine Bw.drewN ?_ _ | refine Bw.alloc ?_ _ | refine Bw.trans ?_ (by assumption))); have hx1 := (Below.block hb1 wr.heap.size (by simp)).trans (heap_alloc_new wr _); have x0 := cell_of_block (o := 0) hx1 rfl; have x1 := cell_of_block (o := 1) hx1 rfl; have x2 := cell_of_block (o := 2) hx1 rfl; have x3 := cell_of_block (o := 3) hx1 rfl; have x4 := cell_of_block (o := 4) hx1 rfl; have xl := (Array.getElem?_eq_some_iff.1 hx1).1; have Hx1 := hide hx1; have hg1 := (Below.block hw1 _ gl).trans (unhide Hg); have e0 := cell_of_block (o := 0) hg1 rfl; have e1 := cell_of_block (o := 1) hg1 rfl; have el := (Array.getElem?_eq_some_iff.1 hg1).1; have hd1 := (Below.block hw1 _ dl).trans (unhide Hd); have f0 := cell_of_block (o := 0) hd1 rfl; have fl := (Array.getElem?_eq_some_iff.1 hd1).1; clear hg1 hd1 hx1) | (go_at_call 117; refine ((unhide Hf) _ (hB.trans hw1)).mono ?_; rintro en w2 ⟨rfl, hb2⟩; have hw2 : Bw wr w2 := hw1.trans hb2; have hx2 := (Below.block hb2 _ xl).trans (unhide Hx1); have y2 := cell_of_block (o := 2) hx2 rfl; have yl := (Array.getElem?_eq_some_iff.1 hx2).1; have hg2 := (Below.block hw2 _ gl).trans (unhide Hg); have k1 := cell_of_block (o := 1) hg2 rfl; have kl := (Array.getElem?_eq_some_iff.1 hg2).1; have Hcom2 := hide ((unhide Hcom).bw hw2); have Hg2 := hide hg2; have Hd2 := hide ((Below.block hw2 _ dl).trans (unhide Hd)); clear hg2 hx2))
          go_roundw
          case rel => exact ⟨k + 1, by omega, by go_num, by rw [unhide Hs]; exact unhide Hcom2, unhide Hg2, unhide Hd2, hB.trans hw2⟩
          case measure => simp [intOf]; omega
      · have hct1 : decide (ct ≤ 0) = true := by simp; omega
        have Hs := hide ((unhide Hno) (by rw [unhide Hcb, show decide (0 < ct) = false by simpa using hct]; rfl))
        go_wp2_with fail
        go_roundw
        case rel => exact ⟨k + 1, by omega, by go_num, by rw [unhide Hs]; exact (unhide Hcom).bw (by repeat (first | exact Bw.refl _ | assumption | refine Bw.drew ?_ | refine Bw.drewN ?_ _ | refine Bw.alloc ?_ _ | refine Bw.trans ?_ (by assumption))), (Below.block (show Bw wr _ from (by repeat (first | exact Bw.refl _ | assumption | refine Bw.drew ?_ | refine Bw.drewN ?_ _ | refine Bw.alloc ?_ _ | refine Bw.trans ?_ (by assumption)))) _ gl).trans (unhide Hg), (Below.block (show Bw wr _ from (by repeat (first | exact Bw.refl _ | assumption | refine Bw.drew ?_ | refine Bw.drewN ?_ _ | refine Bw.alloc ?_ _ | refine Bw.trans ?_ (by assumption)))) _ dl).trans (unhide Hd), (by repeat (first | exact Bw.refl _ | assumption | refine Bw.drew ?_ | refine Bw.drewN ?_ _ | refine Bw.alloc ?_ _ | refine Bw.trans ?_ (by assumption)))⟩
        case measure => simp [intOf]; omega
    · have hkk : k = ps.length := by omega
      subst hkk
      obtain ⟨arr, ha1, ha2, ha3⟩ := unhide Hcom
      have Hrange : Hid (wr.rangeAt cb 0 arr.toList) := hide (fun j v hj => by rw [Nat.zero_add]; exact cell_of_block ha1 (by simpa using hj))
      have Hsize : Hid ((Tryz.prog.info? 201).map (·.size) = some arr.toList.length) := hide (by rw [Tryz.sizeComing]; simp [ha2])
      clear Hcom ha1
      go_wp2_with (refine wpList_load_mid rfl 201 _ rfl cb 0 rfl arr.toList _ (unhide Hrange) Tryz.underlying201 rfl (unhide Hsize) ?_)
      refine (pleast_any _ arr _ ha2 ha3).mono ?_
      rintro en w1 ⟨v, rfl, hov, hb1⟩
      go_wp2_with fail
      go_ret
      exact ⟨v, rfl, hov.weaken hB, hB.trans hb1⟩
end Go.Proofs.YtfemleimkbjehaaGreat
