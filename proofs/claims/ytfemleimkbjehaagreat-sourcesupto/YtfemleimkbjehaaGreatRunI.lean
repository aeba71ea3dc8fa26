import Derived.Test.YtfemleimkbjehaaGreatJ22
namespace Go.Proofs.YtfemleimkbjehaaGreat
set_option linter.unusedVariables false
set_option linter.unusedSimpArgs false
open Go.RowKit

theorem Tryz.infoTime : (Tryz.prog.info? 72).map (fun i => (i.zero, i.size, i.bytes)) = some (some (.agg #[.int .i64 0, .int .i64 0]), 2, 16) := by kernel_rfl
structure Tm where
  e : Int
  s : Int
def Tm.cells (t : Tm) : List Value := [.int .i64 t.e, .int .i64 t.s]
def tmn (l : List Tm) (k : Nat) : Tm := l.getD k ⟨0, 0⟩
def tmsCells (l : List Tm) : List Value := l.flatMap Tm.cells
def TmsAt (w : World) (ad : Option Addr) (ts : List Tm) : Prop :=
  ∀ i, i < ts.length → ∃ b off, ad = some ⟨b, off, none⟩ ∧ b < w.heap.size ∧ ∀ j, j < ts.length → w.cell? ⟨b, off + j * 2, none⟩ = some (.int .i64 (tmn ts j).e) ∧ w.cell? ⟨b, off + j * 2 + 1, none⟩ = some (.int .i64 (tmn ts j).s)
theorem TmsAt.below {w w' : World} {ad : Option Addr} {ts : List Tm} (h : TmsAt w ad ts) (hb : Bw w w') : TmsAt w' ad ts := by
  intro i hi
  obtain ⟨b, off, e, hlt, hc⟩ := h i hi
  refine ⟨b, off, e, Nat.lt_of_lt_of_le hlt hb.size, fun j hj => ?_⟩
  obtain ⟨q, _⟩ := bcell hb
  obtain ⟨c0, c1⟩ := hc j hj
  exact ⟨(q _ _ hlt).trans c0, (q _ _ hlt).trans c1⟩
def OwnT (W w : World) (v : Value) (ts : List Tm) : Prop := w.ownsRow W.heap.size 72 2 v ts.length (tmsCells ts)
theorem OwnT.nil (W w : World) : OwnT W w (.slice none 0 0) [] := World.ownsRow_nil _ _ _ _
theorem OwnT.bw {W a b : World} {v : Value} {ts : List Tm} (h : OwnT W a v ts) (hb : Bw a b) : OwnT W b v ts := ownsRow_bw h fun g hg => Below.block hb g hg
theorem OwnT.weaken {W V a : World} {v : Value} {ts : List Tm} (h : OwnT W a v ts) (hb : Bw V W) : OwnT V a v ts := ownsRow_weaken h hb.size
theorem OwnT.snoc {W w : World} {v : Value} {ts : List Tm} {t : Tm} (h : w.ownsRow W.heap.size 72 2 v (ts.length + 1) (tmsCells ts ++ t.cells)) : OwnT W w v (ts ++ [t]) := by
  unfold OwnT; rw [show tmsCells (ts ++ [t]) = tmsCells ts ++ t.cells by simp [tmsCells], List.length_append]; exact h
theorem tmsAt_of {w : World} {v : Value} {base : Nat} {ty : TypeId} {ts : List Tm} (h : w.ownsRow base ty 2 v ts.length (tmsCells ts)) : TmsAt w (addrOf v) ts := by
  intro i hi
  obtain ⟨g, e, hg, hc⟩ := ownsRow_at h (by omega)
  refine ⟨g, 0, e, hg, fun j hj => ?_⟩
  have key : ∀ f u, f < 2 → (Tm.cells (tmn ts j))[f]? = some u → w.cell? ⟨g, 0 + j * 2 + f, none⟩ = some u := fun f u hf hu => by
    rw [Nat.zero_add]; exact hc _ _ (by unfold tmsCells; rw [flat_get (f := Tm.cells) (k := 2) (d := ⟨0, 0⟩) (fun a => rfl) ts j hj f hf]; exact hu)
  exact ⟨key 0 _ (by omega) rfl, key 1 _ (by omega) rfl⟩
theorem tm_cells {w : World} {g : Nat} {t : Tm} (h0 : w.cell? ⟨g, 0, none⟩ = some (.int .i64 t.e)) (h1 : w.cell? ⟨g, 1, none⟩ = some (.int .i64 t.s)) : ∀ j u, t.cells[j]? = some u → w.cell? ⟨g, j, none⟩ = some u := by
  intro j u hj
  unfold Tm.cells at hj
  match j, hj with
  | 0, hj => simp at hj; subst hj; exact h0
  | 1, hj => simp at hj; subst hj; exact h1
theorem tm_one (t : Tm) : ∀ u ∈ t.cells, u.oneCell' = true := by
  intro u hu
  simp [Tm.cells] at hu
  rcases hu with rfl | rfl <;> rfl

/-- The times that points let come to y. -/
def comB (ns : List Nd) (D : Nat → Nat → Int) (R : Nat) (ps : List Pt) (y i : Nat) : Bool := decide (0 < (ptn ps i).count) && (decide (0 ≤ comesI ns D (ptn ps i).node.toNat (ptn ps i).out (ptn ps i).round.toNat y) && decide (comesI ns D (ptn ps i).node.toNat (ptn ps i).out (ptn ps i).round.toNat y < R))
def comTo (ns : List Nd) (D : Nat → Nat → Int) (R : Nat) (ps : List Pt) (y : Nat) : Nat → List Tm
  | 0 => []
  | i + 1 => if comB ns D R ps y i then comTo ns D R ps y i ++ [⟨(ptn ps i).epoch, comesI ns D (ptn ps i).node.toNat (ptn ps i).out (ptn ps i).round.toNat y⟩] else comTo ns D R ps y i
theorem comTo_len (ns : List Nd) (D : Nat → Nat → Int) (R : Nat) (ps : List Pt) (y k : Nat) : (comTo ns D R ps y k).length ≤ k := by
  induction k with
  | zero => simp [comTo]
  | succ k ih => unfold comTo; split <;> (try simp) <;> omega
theorem comTo_yes {ns : List Nd} {D : Nat → Nat → Int} {R : Nat} {ps : List Pt} {y i : Nat} (h : comB ns D R ps y i = true) : comTo ns D R ps y (i + 1) = comTo ns D R ps y i ++ [⟨(ptn ps i).epoch, comesI ns D (ptn ps i).node.toNat (ptn ps i).out (ptn ps i).round.toNat y⟩] := by rw [comTo, if_pos h]
theorem comTo_no {ns : List Nd} {D : Nat → Nat → Int} {R : Nat} {ps : List Pt} {y i : Nat} (h : comB ns D R ps y i = false) : comTo ns D R ps y (i + 1) = comTo ns D R ps y i := by rw [comTo, h]; rfl
def eqB (a : Tm) (e s : Nat) : Bool := (a.e == (e : Int)) && (a.s == (s : Int))
def upB (a : Tm) (e s : Nat) : Bool := decide (a.e ≤ (e : Int)) && decide (a.s ≤ (s : Int))
def inTo (ts : List Tm) (e s : Nat) : Nat → Bool
  | 0 => false
  | i + 1 => inTo ts e s i || eqB (tmn ts i) e s
def lowTo (ts : List Tm) (e s : Nat) : Nat → Bool
  | 0 => false
  | i + 1 => lowTo ts e s i || (!eqB (tmn ts i) e s && upB (tmn ts i) e s)
def frS (ts : List Tm) (e : Nat) : Nat → List Tm
  | 0 => []
  | s + 1 => if inTo ts e s ts.length && !lowTo ts e s ts.length then frS ts e s ++ [⟨e, s⟩] else frS ts e s
def frE (ts : List Tm) (R : Nat) : Nat → List Tm
  | 0 => []
  | e + 1 => frE ts R e ++ frS ts e R
theorem frS_len (ts : List Tm) (e s : Nat) : (frS ts e s).length ≤ s := by
  induction s with
  | zero => simp [frS]
  | succ s ih => unfold frS; split <;> (try simp) <;> omega
theorem frE_len (ts : List Tm) (R e : Nat) : (frE ts R e).length ≤ e * R := by
  induction e with
  | zero => simp [frE]
  | succ e ih => unfold frE; have := frS_len ts e R; rw [List.length_append, Nat.add_mul]; omega
/-- The points of a View are in range. -/
theorem vN_ok (T : Nat → Int) (R L : Nat) : ∀ p ∈ vN T R L, PtOk L R p := by
  have hS : ∀ n k e, n < L → e < 6 → ∀ s, s ≤ R → ∀ p ∈ vS T R n k e s, PtOk L R p := by
    intro n k e hn he s
    induction s with
    | zero => intro _ p hp; simp [vS] at hp
    | succ s ih =>
      intro hs p hp
      unfold vS at hp
      split at hp
      · exact ih (by omega) p hp
      · rcases List.mem_append.1 hp with hp | hp
        · exact ih (by omega) p hp
        · simp at hp; subst hp; exact ⟨n, e, s, rfl, hn, rfl, he, rfl, by omega⟩
  have hE : ∀ n k, n < L → ∀ e, e ≤ 6 → ∀ p ∈ vE T R n k e, PtOk L R p := by
    intro n k hn e
    induction e with
    | zero => intro _ p hp; simp [vE] at hp
    | succ e ih =>
      intro he p hp
      rcases List.mem_append.1 hp with hp | hp
      · exact ih (by omega) p hp
      · exact hS n k e hn (by omega) R (Nat.le_refl _) p hp
  have hK : ∀ n, n < L → ∀ k, ∀ p ∈ vK T R n k, PtOk L R p := by
    intro n hn k
    induction k with
    | zero => intro p hp; simp [vK] at hp
    | succ k ih =>
      intro p hp
      rcases List.mem_append.1 hp with hp | hp
      · exact ih p hp
      · exact hE n k hn 6 (Nat.le_refl _) p hp
  have hN : ∀ n, n ≤ L → ∀ p ∈ vN T R n, PtOk L R p := by
    intro n
    induction n with
    | zero => intro _ p hp; simp [vN] at hp
    | succ n ih =>
      intro hn p hp
      rcases List.mem_append.1 hp with hp | hp
      · exact ih (by omega) p hp
      · exact hK n (by omega) 2 p hp
  exact hN L (Nat.le_refl _)
theorem ptn_mem {ps : List Pt} {j : Nat} (h : j < ps.length) : ptn ps j ∈ ps := by
  unfold ptn; rw [getD_lt _ _ h]; exact List.getElem_mem h

set_option maxRecDepth 100000 in
set_option maxHeartbeats 4000000 in
theorem rfrontier_any {rb : Nat} {x : RV} {ns : List Nd} {R W : Nat} {D : Nat → Nat → Int} {st : RSt} (wk y : Nat) (w : World) (hR : RRead w rb x ns R W D st) (hw : wk < W) (hy : y < ns.length) (hok : ∀ i, i < st.log.length → CgOk ns.length R W (cgn st.log i) ∧ (cgn st.log i).pts.length ≤ 1000000) (hD : ∀ a b, D a b ≤ 1000) :
    Calls Tryz.prog 39 #[.pointer (some ⟨rb, 0, none⟩), .int .i64 (wk : Int), .int .i64 (y : Int)] w fun e w' => ∃ v, e = .returned (.tuple #[v, .int .i64 0]) ∧ OwnT w w' v (frE (comTo ns D R (vN (tabLog ns R W st.log st.told wk st.log.length) R ns.length) y (vN (tabLog ns R W st.log st.told wk st.log.length) R ns.length).length) R 6) ∧ Bw w w' := by
  have HR := hide hR
  obtain ⟨s1, s2, s3, s4, s5⟩ := hR.small
  have Hp : Hid (placeB ns.length W wk y = true) := hide (placeB_iff.2 (by omega))
  have Hview := hide (rview_any wk w hR hw (by omega) hok)
  have Hlen : Hid ((vN (tabLog ns R W st.log st.told wk st.log.length) R ns.length).length ≤ 1000) := hide (by
    have h1 := vN_len (tabLog ns R W st.log st.told wk st.log.length) R ns.length
    have h2 : ns.length * (2 * (6 * R)) ≤ 8 * (2 * (6 * 4)) := Nat.mul_le_mul s1 (by omega)
    omega)
  have Hok := hide (vN_ok (tabLog ns R W st.log st.told wk st.log.length) R ns.length)
  clear hR hok
  generalize vN (tabLog ns R W st.log st.told wk st.log.length) R ns.length = ps at *
  have hpl := unhide Hlen
  go_enter Tryz.func39, Tryz.ntmps39
  go_wp2_with (go_at_call 63; refine (rplace_any _ _ _ (unhide HR)).mono ?_; rintro e w' ⟨rfl, rfl⟩; rw [unhide Hp])
  refine (unhide Hview).mono ?_
  rintro en w1 ⟨v, rfl, ho, hB1⟩
  have hpv := ownsRow_val ho
  have hpt : PtsAt w1 (addrOf v) ps := ptsAt_of ho
  obtain ⟨pa, pc, rfl⟩ : ∃ pa pc, v = .slice pa ps.length pc := ⟨_, _, hpv⟩
  simp only [addrOf] at hpt
  clear ho hpv
  go_wp2_with fail
  go_loopw [9, 12] (fun v i wr => ∃ k : Nat, k ≤ ps.length ∧ i = .int .i64 k ∧ OwnT w1 wr v (comTo ns D R ps y k) ∧ Bw w1 wr) (fun _ i _ => ps.length - (intOf i).toNat)
  case atStart => exact ⟨0, Nat.zero_le _, rfl, OwnT.nil _ _, Bw.refl _⟩
  case round =>
    obtain ⟨k, hk, rfl, hown2, hB2⟩ := hrel
    rename World => w2
    have hR2 := (unhide HR).below (hB1.trans hB2)
    have hlc := comTo_len ns D R ps y k
    by_cases hlk : k < ps.length
    · obtain ⟨b, off, e, hb, hc⟩ := (hpt.below hB2) k hlk
      obtain ⟨p0, p1, p2, p3, p4⟩ := hc k hlk
      obtain ⟨pn, pe, pr, en, hpn, ee, hpe, er, hpr⟩ := (unhide Hok) _ (ptn_mem hlk)
      have Hy := hide (@comTo_yes ns D R ps y k)
      have Hn := hide (@comTo_no ns D R ps y k)
      have Hcb : Hid (comB ns D R ps y k = (decide (0 < (ptn ps k).count) && (decide (0 ≤ comesI ns D pn (ptn ps k).out pr y) && decide (comesI ns D pn (ptn ps k).out pr y < R)))) := hide (by unfold comB; rw [en, er]; simp)
      rw [en, er, ee] at Hy
      simp only [Int.toNat_natCast] at Hy
      rw [en] at p0
      rw [ee] at p2
      rw [er] at p3
      clear hc en ee er
      have Hcm := hide (fun w' h => rcomes_any (rb := rb) (x := x) (D := D) (st := st) (ns := ns) (R := R) (W := W) pn pe pr y (ptn ps k).out (ptn ps k).count w' h hpn hy hpr (hD _ _))
      generalize ptn ps k = p at *
      generalize comesI ns D pn p.out pr y = cm at *
      generalize hcbv : comB ns D R ps y k = cb at Hcb Hy Hn
      clear hcbv
      generalize hLv : comTo ns D R ps y k = L at *
      clear hLv
      subst e
      have hjk : (k : Int) < (ps.length : Int) := by omega
      go_wp2_with fail
      refine ((unhide Hcm) _ hR2).mono ?_
      rintro en w3 ⟨rfl, hB3⟩
      obtain ⟨q3, _⟩ := bcell hB3
      have m2 := (q3 _ _ hb).trans p2
      have m4 := (q3 _ _ hb).trans p4
      have hb3 : b < w3.heap.size := Nat.lt_of_lt_of_le hb hB3.size
      have hR3 := hR2.below hB3
      have c1 := hR3.c1
      have hlt0 := hR3.lt
      clear q3 p0 p1 p2 p3 p4 hR2 hR3
      cases h1 : decide (0 < p.count) with
      | false =>
        have Hs := hide ((unhide Hn) (by rw [unhide Hcb, h1]; rfl))
        clear Hy Hn Hcb
        go_wp2_with fail
        go_roundw
        case rel => exact ⟨k + 1, by omega, by go_num, by rw [unhide Hs]; exact hown2.bw hB3, hB2.trans hB3⟩
        case measure => simp [intOf]; omega
      | true =>
        cases h2 : decide (0 ≤ cm) with
        | false =>
          have Hs := hide ((unhide Hn) (by rw [unhide Hcb, h1, h2]; rfl))
          clear Hy Hn Hcb
          go_wp2_with fail
          go_roundw
          case rel => exact ⟨k + 1, by omega, by go_num, by rw [unhide Hs]; exact hown2.bw hB3, hB2.trans hB3⟩
          case measure => simp [intOf]; omega
        | true =>
          cases h3 : decide (cm < R) with
          | false =>
            have Hs := hide ((unhide Hn) (by rw [unhide Hcb, h1, h2, h3]; rfl))
            clear Hy Hn Hcb
            go_wp2_with fail
            go_roundw
            case rel => exact ⟨k + 1, by omega, by go_num, by rw [unhide Hs]; exact hown2.bw hB3, hB2.trans hB3⟩
            case measure => simp [intOf]; omega
          | true =>
            have Hs := hide ((unhide Hy) (by rw [unhide Hcb, h1, h2, h3]; rfl))
            clear Hy Hn Hcb
            go_wp2_with (at_builtin; refine appT _ rfl _ _ _ 72 rfl _ 2 16 Tryz.infoTime Tryz.underlying68 rfl (by decide) w1.heap.size _ L.length (tmsCells L) rfl (hown2.bw (by repeat (first | exact Bw.refl _ | assumption | refine Bw.drew ?_ | refine Bw.drewN ?_ _ | refine Bw.alloc ?_ _ | refine Bw.trans ?_ (by assumption)))) _ _ (Tm.cells ⟨pe, cm⟩) rfl rfl (tm_cells (by simp) (by simp)) (tm_one _) (by omega) (by omega) (Bw.size (by repeat (first | exact Bw.refl _ | assumption | refine Bw.drew ?_ | refine Bw.drewN ?_ _ | refine Bw.alloc ?_ _ | refine Bw.trans ?_ (by assumption)))) ?_; intro v' w4 ho4 hg4)
            go_roundw
            case rel => exact ⟨k + 1, by omega, by go_num, by rw [unhide Hs]; exact OwnT.snoc ho4, Bw.grown (by repeat (first | exact Bw.refl _ | assumption | refine Bw.drew ?_ | refine Bw.drewN ?_ _ | refine Bw.alloc ?_ _ | refine Bw.trans ?_ (by assumption))) (hown2.bw (by repeat (first | exact Bw.refl _ | assumption | refine Bw.drew ?_ | refine Bw.drewN ?_ _ | refine Bw.alloc ?_ _ | refine Bw.trans ?_ (by assumption)))) hg4 (Nat.le_refl _)⟩
            case measure => simp [intOf]; omega
    · have hkk : k = ps.length := by omega
      subst hkk
      have hat : TmsAt w2 (addrOf u9) (comTo ns D R ps y ps.length) := tmsAt_of hown2
      obtain ⟨aa, ac, hav⟩ : ∃ aa ac, u9 = .slice aa (comTo ns D R ps y ps.length).length ac := ⟨_, _, ownsRow_val hown2⟩
      subst hav
      simp only [addrOf] at hat
      clear hown2
      obtain ⟨ts, hts⟩ : ∃ ts, comTo ns D R ps y ps.length = ts := ⟨_, rfl⟩
      rw [hts] at hat hlc ⊢
      have Hts := hide hts
      clear hts
      have htl : ts.length ≤ 1000 := by omega
      go_wp2_with fail
      go_loopw [14, 15] (fun v i wr => ∃ e : Nat, e ≤ 6 ∧ i = .int .i64 e ∧ OwnT w2 wr v (frE ts R e) ∧ Bw w2 wr) (fun _ i _ => 6 - (intOf i).toNat)
      case atStart => exact ⟨0, Nat.zero_le _, rfl, OwnT.nil _ _, Bw.refl _⟩
      case round =>
        obtain ⟨e, he6, rfl, hown3, hB3⟩ := hrel
        rename World => w3
        by_cases hle : e < 6
        · have hd : decide ((e : Int) ≤ 5) = true := by simp; omega
          have hlE := frE_len ts R e
          go_wp2_with fail
          go_loopw [14, 16] (fun v i wr => ∃ s : Nat, s ≤ R ∧ i = .int .i64 s ∧ OwnT w2 wr v (frE ts R e ++ frS ts e s) ∧ Bw w2 wr) (fun _ i _ => R - (intOf i).toNat)
          case atStart => exact ⟨0, Nat.zero_le _, rfl, by rw [show frS ts e 0 = [] from rfl, List.append_nil]; exact hown3, hB3⟩
          case round =>
            clear hown3 hB3
            obtain ⟨s, hsR, rfl, hown4, hB4⟩ := hrel
            rename World => w4
            have hR4 := (unhide HR).below ((hB1.trans hB2).trans hB4)
            have c1 := hR4.c1
            have hlt0 := hR4.lt
            clear hR4
            by_cases hls : s < R
            · have hlS := frS_len ts e s
              have Hlen2 : Hid ((frE ts R e ++ frS ts e s).length + 1 ≤ 1000000000) := hide (by
                have h3 : e * R ≤ 6 * 4 := Nat.mul_le_mul (by omega) (by omega)
                rw [List.length_append]; omega)
              go_wp2_with fail
              obtain ⟨w5, hw5⟩ : ∃ w5, w4.alloc (.cells #[.int .i64 (e : Int), .int .i64 (s : Int)] 72) = w5 := ⟨_, rfl⟩
              rw [hw5]
              obtain ⟨hB45, hn5⟩ : Bw w4 w5 ∧ w5.heap[w4.heap.size]? = some (.cells #[.int .i64 (e : Int), .int .i64 (s : Int)] 72) := by rw [← hw5]; exact ⟨(by repeat (first | exact Bw.refl _ | assumption | refine Bw.drew ?_ | refine Bw.drewN ?_ _ | refine Bw.alloc ?_ _ | refine Bw.trans ?_ (by assumption))), heap_alloc_new w4 _⟩
              clear hw5 c1 hlt0
              go_loopw [18, 19, 20] (fun a b i wr => ∃ j : Nat, j ≤ ts.length ∧ i = .int .i64 j ∧ a = .bool (inTo ts e s j) ∧ b = .bool (lowTo ts e s j) ∧ Bw w5 wr) (fun _ _ i _ => ts.length - (intOf i).toNat)
              case atStart => exact ⟨0, Nat.zero_le _, rfl, rfl, rfl, Bw.refl _⟩
              case round =>
                obtain ⟨j, hjl, rfl, rfl, rfl, hB6⟩ := hrel
                rename World => w6
                have hn6 := (Below.block hB6 _ (Array.getElem?_eq_some_iff.1 hn5).1).trans hn5
                have n0 := cell_of_block (o := 0) hn6 rfl
                have n1 := cell_of_block (o := 1) hn6 rfl
                have gn := (Array.getElem?_eq_some_iff.1 hn6).1
                by_cases hlj : j < ts.length
                · obtain ⟨b, off, eb, hb, hc⟩ := (hat.below ((hB4.trans hB45).trans hB6)) j hlj
                  obtain ⟨t0, t1⟩ := hc j hlj
                  have hjj : (j : Int) < (ts.length : Int) := by omega
                  have Hin : Hid (inTo ts e s (j + 1) = (inTo ts e s j || eqB (tmn ts j) e s)) := hide rfl
                  have Hlow : Hid (lowTo ts e s (j + 1) = (lowTo ts e s j || (!eqB (tmn ts j) e s && upB (tmn ts j) e s))) := hide rfl
                  have Heq : Hid (eqB (tmn ts j) e s = (((tmn ts j).e == (e : Int)) && ((tmn ts j).s == (s : Int)))) := hide rfl
                  have Hup : Hid (upB (tmn ts j) e s = (decide ((tmn ts j).e ≤ (e : Int)) && decide ((tmn ts j).s ≤ (s : Int)))) := hide rfl
                  subst eb
                  clear hc hn6
                  generalize tmn ts j = a at *
                  generalize inTo ts e s j = ib at *
                  generalize lowTo ts e s j = lb at *
                  generalize eqB a e s = qb at *
                  generalize upB a e s = ub at *
                  cases ib with
                  | true =>
                    cases lb with
                    | true =>
                      cases h1 : (a.e == (e : Int)) with
                      | false =>
                        have hq : qb = false := by rw [unhide Heq, h1]; rfl
                        subst hq
                        go_wp2_with fail
                        go_quiet (fail)
                        go_wp2_with fail
                        go_quiet (fail)
                        all_goals go_wp2_with fail
                        all_goals go_roundw
                        all_goals first | (simp [intOf]; omega) | exact ⟨j + 1, by omega, by go_num, by rw [unhide Hin]; simp, by rw [unhide Hlow]; simp, (by repeat (first | exact Bw.refl _ | assumption | refine Bw.drew ?_ | refine Bw.drewN ?_ _ | refine Bw.alloc ?_ _ | refine Bw.trans ?_ (by assumption)))⟩
                      | true =>
                        cases h2 : (a.s == (s : Int)) with
                        | false =>
                          have hq : qb = false := by rw [unhide Heq, h1, h2]; rfl
                          subst hq
                          go_wp2_with fail
                          go_quiet (fail)
                          go_wp2_with fail
                          go_quiet (fail)
                          all_goals go_wp2_with fail
                          all_goals go_roundw
                          all_goals first | (simp [intOf]; omega) | exact ⟨j + 1, by omega, by go_num, by rw [unhide Hin]; simp, by rw [unhide Hlow]; simp, (by repeat (first | exact Bw.refl _ | assumption | refine Bw.drew ?_ | refine Bw.drewN ?_ _ | refine Bw.alloc ?_ _ | refine Bw.trans ?_ (by assumption)))⟩
                        | true =>
                          have hq : qb = true := by rw [unhide Heq, h1, h2]; rfl
                          subst hq
                          go_wp2_with fail
                          go_quiet (fail)
                          go_wp2_with fail
                          go_quiet (fail)
                          all_goals go_wp2_with fail
                          all_goals go_roundw
                          all_goals first | (simp [intOf]; omega) | exact ⟨j + 1, by omega, by go_num, by rw [unhide Hin]; simp, by rw [unhide Hlow]; simp, (by repeat (first | exact Bw.refl _ | assumption | refine Bw.drew ?_ | refine Bw.drewN ?_ _ | refine Bw.alloc ?_ _ | refine Bw.trans ?_ (by assumption)))⟩
                    | false =>
                      cases h1 : (a.e == (e : Int)) with
                      | false =>
                        have hq : qb = false := by rw [unhide Heq, h1]; rfl
                        subst hq
                        go_wp2_with fail
                        go_quiet (fail)
                        go_wp2_with fail
                        go_region_law (go_simp; go_at_call 69; refine (rupto_any _ _ _ _ _).mono ?_; rintro e w7 ⟨rfl, hB7⟩; rw [← unhide Hup])
                        all_goals go_wp2_with fail
                        all_goals go_roundw
                        all_goals first | (simp [intOf]; omega) | exact ⟨j + 1, by omega, by go_num, by rw [unhide Hin]; simp, by rw [unhide Hlow]; simp, (by repeat (first | exact Bw.refl _ | assumption | refine Bw.drew ?_ | refine Bw.drewN ?_ _ | refine Bw.alloc ?_ _ | refine Bw.trans ?_ (by assumption)))⟩
                      | true =>
                        cases h2 : (a.s == (s : Int)) with
                        | false =>
                          have hq : qb = false := by rw [unhide Heq, h1, h2]; rfl
                          subst hq
                          go_wp2_with fail
                          go_quiet (fail)
                          go_wp2_with fail
                          go_region_law (go_simp; go_at_call 69; refine (rupto_any _ _ _ _ _).mono ?_; rintro e w7 ⟨rfl, hB7⟩; rw [← unhide Hup])
                          all_goals go_wp2_with fail
                          all_goals go_roundw
                          all_goals first | (simp [intOf]; omega) | exact ⟨j + 1, by omega, by go_num, by rw [unhide Hin]; simp, by rw [unhide Hlow]; simp, (by repeat (first | exact Bw.refl _ | assumption | refine Bw.drew ?_ | refine Bw.drewN ?_ _ | refine Bw.alloc ?_ _ | refine Bw.trans ?_ (by assumption)))⟩
                        | true =>
                          have hq : qb = true := by rw [unhide Heq, h1, h2]; rfl
                          subst hq
                          go_wp2_with fail
                          go_quiet (fail)
                          go_wp2_with fail
                          go_quiet (fail)
                          all_goals go_wp2_with fail
                          all_goals go_roundw
                          all_goals first | (simp [intOf]; omega) | exact ⟨j + 1, by omega, by go_num, by rw [unhide Hin]; simp, by rw [unhide Hlow]; simp, (by repeat (first | exact Bw.refl _ | assumption | refine Bw.drew ?_ | refine Bw.drewN ?_ _ | refine Bw.alloc ?_ _ | refine Bw.trans ?_ (by assumption)))⟩
                  | false =>
                    cases lb with
                    | true =>
                      cases h1 : (a.e == (e : Int)) with
                      | false =>
                        have hq : qb = false := by rw [unhide Heq, h1]; rfl
                        subst hq
                        go_wp2_with fail
                        go_quiet (fail)
                        go_wp2_with fail
                        go_quiet (fail)
                        all_goals go_wp2_with fail
                        all_goals go_roundw
                        all_goals first | (simp [intOf]; omega) | exact ⟨j + 1, by omega, by go_num, by rw [unhide Hin]; simp, by rw [unhide Hlow]; simp, (by repeat (first | exact Bw.refl _ | assumption | refine Bw.drew ?_ | refine Bw.drewN ?_ _ | refine Bw.alloc ?_ _ | refine Bw.trans ?_ (by assumption)))⟩
                      | true =>
                        cases h2 : (a.s == (s : Int)) with
                        | false =>
                          have hq : qb = false := by rw [unhide Heq, h1, h2]; rfl
                          subst hq
                          go_wp2_with fail
                          go_quiet (fail)
                          go_wp2_with fail
                          go_quiet (fail)
                          all_goals go_wp2_with fail
                          all_goals go_roundw
                          all_goals first | (simp [intOf]; omega) | exact ⟨j + 1, by omega, by go_num, by rw [unhide Hin]; simp, by rw [unhide Hlow]; simp, (by repeat (first | exact Bw.refl _ | assumption | refine Bw.drew ?_ | refine Bw.drewN ?_ _ | refine Bw.alloc ?_ _ | refine Bw.trans ?_ (by assumption)))⟩
                        | true =>
                          have hq : qb = true := by rw [unhide Heq, h1, h2]; rfl
                          subst hq
                          go_wp2_with fail
                          go_quiet (fail)
                          go_wp2_with fail
                          go_quiet (fail)
                          all_goals go_wp2_with fail
                          all_goals go_roundw
                          all_goals first | (simp [intOf]; omega) | exact ⟨j + 1, by omega, by go_num, by rw [unhide Hin]; simp, by rw [unhide Hlow]; simp, (by repeat (first | exact Bw.refl _ | assumption | refine Bw.drew ?_ | refine Bw.drewN ?_ _ | refine Bw.alloc ?_ _ | refine Bw.trans ?_ (by assumption)))⟩
                    | false =>
                      cases h1 : (a.e == (e : Int)) with
                      | false =>
                        have hq : qb = false := by rw [unhide Heq, h1]; rfl
                        subst hq
                        go_wp2_with fail
                        go_quiet (fail)
                        go_wp2_with fail
                        go_region_law (go_simp; go_at_call 69; refine (rupto_any _ _ _ _ _).mono ?_; rintro e w7 ⟨rfl, hB7⟩; rw [← unhide Hup])
                        all_goals go_wp2_with fail
                        all_goals go_roundw
                        all_goals first | (simp [intOf]; omega) | exact ⟨j + 1, by omega, by go_num, by rw [unhide Hin]; simp, by rw [unhide Hlow]; simp, (by repeat (first | exact Bw.refl _ | assumption | refine Bw.drew ?_ | refine Bw.drewN ?_ _ | refine Bw.alloc ?_ _ | refine Bw.trans ?_ (by assumption)))⟩
                      | true =>
                        cases h2 : (a.s == (s : Int)) with
                        | false =>
                          have hq : qb = false := by rw [unhide Heq, h1, h2]; rfl
                          subst hq
                          go_wp2_with fail
                          go_quiet (fail)
                          go_wp2_with fail
                          go_region_law (go_simp; go_at_call 69; refine (rupto_any _ _ _ _ _).mono ?_; rintro e w7 ⟨rfl, hB7⟩; rw [← unhide Hup])
                          all_goals go_wp2_with fail
                          all_goals go_roundw
                          all_goals first | (simp [intOf]; omega) | exact ⟨j + 1, by omega, by go_num, by rw [unhide Hin]; simp, by rw [unhide Hlow]; simp, (by repeat (first | exact Bw.refl _ | assumption | refine Bw.drew ?_ | refine Bw.drewN ?_ _ | refine Bw.alloc ?_ _ | refine Bw.trans ?_ (by assumption)))⟩
                        | true =>
                          have hq : qb = true := by rw [unhide Heq, h1, h2]; rfl
                          subst hq
                          go_wp2_with fail
                          go_quiet (fail)
                          go_wp2_with fail
                          go_quiet (fail)
                          all_goals go_wp2_with fail
                          all_goals go_roundw
                          all_goals first | (simp [intOf]; omega) | exact ⟨j + 1, by omega, by go_num, by rw [unhide Hin]; simp, by rw [unhide Hlow]; simp, (by repeat (first | exact Bw.refl _ | assumption | refine Bw.drew ?_ | refine Bw.drewN ?_ _ | refine Bw.alloc ?_ _ | refine Bw.trans ?_ (by assumption)))⟩
                · have hjj : j = ts.length := by omega
                  subst hjj
                  have Hst : Hid (frS ts e (s + 1) = if inTo ts e s ts.length && !lowTo ts e s ts.length then frS ts e s ++ [⟨e, s⟩] else frS ts e s) := hide rfl
                  have hB46 : Bw w4 w6 := hB45.trans hB6
                  have hB26 : Bw w2 w6 := hB4.trans hB46
                  generalize inTo ts e s ts.length = ib at *
                  generalize lowTo ts e s ts.length = lb at *
                  generalize hfs : frS ts e s = fs at *
                  clear hfs
                  cases ib with
                  | false =>
                    have Hs : Hid (frS ts e (s + 1) = fs) := hide (by rw [unhide Hst]; rfl)
                    clear Hst
                    go_wp2_with fail
                    go_roundw
                    case rel => exact ⟨s + 1, by omega, by go_num, by rw [unhide Hs]; exact hown4.bw hB46, hB26⟩
                    case measure => simp [intOf]; omega
                  | true =>
                    cases lb with
                    | true =>
                      have Hs : Hid (frS ts e (s + 1) = fs) := hide (by rw [unhide Hst]; rfl)
                      clear Hst
                      go_wp2_with fail
                      go_roundw
                      case rel => exact ⟨s + 1, by omega, by go_num, by rw [unhide Hs]; exact hown4.bw hB46, hB26⟩
                      case measure => simp [intOf]; omega
                    | false =>
                      have Hs : Hid (frS ts e (s + 1) = fs ++ [⟨e, s⟩]) := hide (by rw [unhide Hst]; rfl)
                      clear Hst
                      go_wp2_with (at_builtin; refine appT _ rfl _ _ _ 72 rfl _ 2 16 Tryz.infoTime Tryz.underlying68 rfl (by decide) w2.heap.size _ (frE ts R e ++ fs).length (tmsCells (frE ts R e ++ fs)) rfl (hown4.bw (by repeat (first | exact Bw.refl _ | assumption | refine Bw.drew ?_ | refine Bw.drewN ?_ _ | refine Bw.alloc ?_ _ | refine Bw.trans ?_ (by assumption)))) _ _ (Tm.cells ⟨e, s⟩) rfl rfl (tm_cells (by simp) (by simp)) (tm_one _) (unhide Hlen2) (by omega) (Bw.size (by repeat (first | exact Bw.refl _ | assumption | refine Bw.drew ?_ | refine Bw.drewN ?_ _ | refine Bw.alloc ?_ _ | refine Bw.trans ?_ (by assumption)))) ?_; intro v' w8 ho8 hg8)
                      go_roundw
                      case rel => exact ⟨s + 1, by omega, by go_num, by rw [unhide Hs, ← List.append_assoc]; exact OwnT.snoc ho8, Bw.grown (by repeat (first | exact Bw.refl _ | assumption | refine Bw.drew ?_ | refine Bw.drewN ?_ _ | refine Bw.alloc ?_ _ | refine Bw.trans ?_ (by assumption))) (hown4.bw (by repeat (first | exact Bw.refl _ | assumption | refine Bw.drew ?_ | refine Bw.drewN ?_ _ | refine Bw.alloc ?_ _ | refine Bw.trans ?_ (by assumption)))) hg8 (Nat.le_refl _)⟩
                      case measure => simp [intOf]; omega
            · have hss : s = R := by omega
              subst hss
              have Hn : Hid (frE ts s (e + 1) = frE ts s e ++ frS ts e s) := hide rfl
              go_wp2_with fail
              go_roundw
              case rel => exact ⟨e + 1, by omega, by go_num, by rw [unhide Hn]; exact hown4, hB4⟩
              case measure => simp [intOf]; omega
        · have hee : e = 6 := by omega
          subst hee
          go_wp2_with fail
          go_ret2
          exact ⟨_, rfl, by rw [unhide Hts]; exact hown3.weaken (hB1.trans hB2), (hB1.trans hB2).trans hB3⟩
end Go.Proofs.YtfemleimkbjehaaGreat
