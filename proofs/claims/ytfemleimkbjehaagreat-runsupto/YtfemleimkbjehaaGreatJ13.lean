import Derived.Test.YtfemleimkbjehaaGreatJ12
set_option maxRecDepth 1000000
set_option maxHeartbeats 40000000
set_option linter.unusedVariables false
set_option linter.unusedSimpArgs false
namespace Go.Proofs.YtfemleimkbjehaaGreat
open Go.RowKit
theorem Tryz.infoTime : (Tryz.prog.info? 72).map (fun i => (i.zero, i.size, i.bytes)) = some (some (.agg #[.int .i64 0, .int .i64 0]), 2, 16) := by kernel_rfl
structure Tm where
  e : Int
  s : Int
def Tm.cells (t : Tm) : List Value := [.int .i64 t.e, .int .i64 t.s]
def yU (l : List Tm) (k : Nat) : Tm := l.getD k ⟨0, 0⟩
def jY (l : List Tm) : List Value := l.flatMap Tm.cells
def TmsAt (w : World) (ad : Option Addr) (ts : List Tm) : Prop :=
  ∀ i, i < ts.length → ∃ b off, ad = some ⟨b, off, none⟩ ∧ b < w.heap.size ∧ ∀ j, j < ts.length → w.cell? ⟨b, off + j * 2, none⟩ = some (.int .i64 (yU ts j).e) ∧ w.cell? ⟨b, off + j * 2 + 1, none⟩ = some (.int .i64 (yU ts j).s)
theorem TmsAt.below {w w' : World} {ad : Option Addr} {ts : List Tm} (h : TmsAt w ad ts) (hb : Bw w w') : TmsAt w' ad ts := by
  intro i hi
  obtain ⟨b, off, e, hlt, hc⟩ := h i hi
  refine ⟨b, off, e, Nat.lt_of_lt_of_le hlt hb.size, fun j hj => ?_⟩
  obtain ⟨q, _⟩ := qS hb
  obtain ⟨c0, c1⟩ := hc j hj
  exact ⟨(q _ _ hlt).trans c0, (q _ _ hlt).trans c1⟩
def OwnT (W w : World) (v : Value) (ts : List Tm) : Prop := w.ownsRow W.heap.size 72 2 v ts.length (jY ts)
theorem OwnT.nil (W w : World) : OwnT W w (.slice none 0 0) [] := World.ownsRow_nil _ _ _ _
theorem OwnT.bw {W a b : World} {v : Value} {ts : List Tm} (h : OwnT W a v ts) (hb : Bw a b) : OwnT W b v ts := qX h fun g hg => Below.block hb g hg
theorem OwnT.weaken {W V a : World} {v : Value} {ts : List Tm} (h : OwnT W a v ts) (hb : Bw V W) : OwnT V a v ts := qM h hb.size
theorem OwnT.snoc {W w : World} {v : Value} {ts : List Tm} {t : Tm} (h : w.ownsRow W.heap.size 72 2 v (ts.length + 1) (jY ts ++ t.cells)) : OwnT W w v (ts ++ [t]) := by
  unfold OwnT; rw [show jY (ts ++ [t]) = jY ts ++ t.cells by simp [jY], List.length_append]; exact h
theorem tmsAt_of {w : World} {v : Value} {base : Nat} {ty : TypeId} {ts : List Tm} (h : w.ownsRow base ty 2 v ts.length (jY ts)) : TmsAt w (kY v) ts := by
  intro i hi
  obtain ⟨g, e, hg, hc⟩ := qB h (by omega)
  refine ⟨g, 0, e, hg, fun j hj => ?_⟩
  have key : ∀ f u, f < 2 → (Tm.cells (yU ts j))[f]? = some u → w.cell? ⟨g, 0 + j * 2 + f, none⟩ = some u := fun f u hf hu => by
    rw [Nat.zero_add]; exact hc _ _ (by unfold jY; rw [vL (f := Tm.cells) (k := 2) (d := ⟨0, 0⟩) (fun a => rfl) ts j hj f hf]; exact hu)
  exact ⟨key 0 _ (by omega) rfl, key 1 _ (by omega) rfl⟩
theorem tm_cells {w : World} {g : Nat} {t : Tm} (h0 : w.cell? ⟨g, 0, none⟩ = some (.int .i64 t.e)) (h1 : w.cell? ⟨g, 1, none⟩ = some (.int .i64 t.s)) : ∀ j u, t.cells[j]? = some u → w.cell? ⟨g, j, none⟩ = some u := by
  intro j u hj
  unfold Tm.cells at hj
  match j, hj with
  | 0, hj => simp at hj; subst hj; exact h0
  | 1, hj => simp at hj; subst hj; exact h1
theorem tm_one (t : Tm) : ∀ u ∈ t.cells, u.oneCell' = true := by
  intro u hu
  simp [Tm.cells] at hu
  rcases hu with rfl | rfl <;> rfl
def comB (ns : List Nd) (D : Nat → Nat → Int) (R : Nat) (ps : List Pt) (y i : Nat) : Bool := decide (0 < (jN ps i).count) && (decide (0 ≤ jX ns D (jN ps i).node.toNat (jN ps i).out (jN ps i).round.toNat y) && decide (jX ns D (jN ps i).node.toNat (jN ps i).out (jN ps i).round.toNat y < R))
def jB (ns : List Nd) (D : Nat → Nat → Int) (R : Nat) (ps : List Pt) (y : Nat) : Nat → List Tm
  | 0 => []
  | i + 1 => if comB ns D R ps y i then jB ns D R ps y i ++ [⟨(jN ps i).epoch, jX ns D (jN ps i).node.toNat (jN ps i).out (jN ps i).round.toNat y⟩] else jB ns D R ps y i
theorem comTo_len (ns : List Nd) (D : Nat → Nat → Int) (R : Nat) (ps : List Pt) (y k : Nat) : (jB ns D R ps y k).length ≤ k := by
  induction k with
  | zero => simp [jB]
  | succ k ih => unfold jB; split <;> (try simp) <;> omega
theorem comTo_yes {ns : List Nd} {D : Nat → Nat → Int} {R : Nat} {ps : List Pt} {y i : Nat} (h : comB ns D R ps y i = true) : jB ns D R ps y (i + 1) = jB ns D R ps y i ++ [⟨(jN ps i).epoch, jX ns D (jN ps i).node.toNat (jN ps i).out (jN ps i).round.toNat y⟩] := by rw [jB, if_pos h]
theorem comTo_no {ns : List Nd} {D : Nat → Nat → Int} {R : Nat} {ps : List Pt} {y i : Nat} (h : comB ns D R ps y i = false) : jB ns D R ps y (i + 1) = jB ns D R ps y i := by rw [jB, h]; rfl
def eqB (a : Tm) (e s : Nat) : Bool := (a.e == (e : Int)) && (a.s == (s : Int))
def upB (a : Tm) (e s : Nat) : Bool := decide (a.e ≤ (e : Int)) && decide (a.s ≤ (s : Int))
def inTo (ts : List Tm) (e s : Nat) : Nat → Bool
  | 0 => false
  | i + 1 => inTo ts e s i || eqB (yU ts i) e s
def lowTo (ts : List Tm) (e s : Nat) : Nat → Bool
  | 0 => false
  | i + 1 => lowTo ts e s i || (!eqB (yU ts i) e s && upB (yU ts i) e s)
def frS (ts : List Tm) (e : Nat) : Nat → List Tm
  | 0 => []
  | s + 1 => if inTo ts e s ts.length && !lowTo ts e s ts.length then frS ts e s ++ [⟨e, s⟩] else frS ts e s
def frE (ts : List Tm) (R : Nat) : Nat → List Tm
  | 0 => []
  | e + 1 => frE ts R e ++ frS ts e R
theorem frS_len (ts : List Tm) (e s : Nat) : (frS ts e s).length ≤ s := by
  induction s with
  | zero => simp [frS]
  | succ s ih => unfold frS; split <;> (try simp) <;> omega
theorem frE_len (ts : List Tm) (R e : Nat) : (frE ts R e).length ≤ e * R := by
  induction e with
  | zero => simp [frE]
  | succ e ih => unfold frE; have := frS_len ts e R; rw [List.length_append, Nat.add_mul]; omega
theorem vN_ok (T : Nat → Int) (R L : Nat) : ∀ p ∈ vN T R L, PtOk L R p := by
  have hS : ∀ n k e, n < L → e < 6 → ∀ s, s ≤ R → ∀ p ∈ vS T R n k e s, PtOk L R p := by
    intro n k e hn he s
    induction s with
    | zero => intro _ p hp; simp [vS] at hp
    | succ s ih =>
      intro hs p hp
      unfold vS at hp
      split at hp
      · exact ih (by omega) p hp
      · rcases List.mem_append.1 hp with hp | hp
        · exact ih (by omega) p hp
        · simp at hp; subst hp; exact ⟨n, e, s, rfl, hn, rfl, he, rfl, by omega⟩
  have hE : ∀ n k, n < L → ∀ e, e ≤ 6 → ∀ p ∈ vE T R n k e, PtOk L R p := by
    intro n k hn e
    induction e with
    | zero => intro _ p hp; simp [vE] at hp
    | succ e ih =>
      intro he p hp
      rcases List.mem_append.1 hp with hp | hp
      · exact ih (by omega) p hp
      · exact hS n k e hn (by omega) R (Nat.le_refl _) p hp
  have hK : ∀ n, n < L → ∀ k, ∀ p ∈ vK T R n k, PtOk L R p := by
    intro n hn k
    induction k with
    | zero => intro p hp; simp [vK] at hp
    | succ k ih =>
      intro p hp
      rcases List.mem_append.1 hp with hp | hp
      · exact ih p hp
      · exact hE n k hn 6 (Nat.le_refl _) p hp
  have hN : ∀ n, n ≤ L → ∀ p ∈ vN T R n, PtOk L R p := by
    intro n
    induction n with
    | zero => intro _ p hp; simp [vN] at hp
    | succ n ih =>
      intro hn p hp
      rcases List.mem_append.1 hp with hp | hp
      · exact ih (by omega) p hp
      · exact hK n (by omega) 2 p hp
  exact hN L (Nat.le_refl _)
theorem xH {ps : List Pt} {j : Nat} (h : j < ps.length) : jN ps j ∈ ps := by
  unfold jN; rw [getD_lt _ _ h]; exact List.getElem_mem h
theorem rfrontier_any {rb : Nat} {x : RV} {ns : List Nd} {R W : Nat} {D : Nat → Nat → Int} {st : RSt} (wk y : Nat) (w : World) (hR : RRead w rb x ns R W D st) (hw : wk < W) (hy : y < ns.length) (hok : ∀ i, i < st.log.length → CgOk ns.length R W (jF st.log i) ∧ (jF st.log i).pts.length ≤ 100000000) (hD : ∀ a b, D a b ≤ 1000) :
    Calls Tryz.prog 39 #[.pointer (some ⟨rb, 0, none⟩), .int .i64 (wk : Int), .int .i64 (y : Int)] w fun e w' => ∃ v, e = .returned (.tuple #[v, .int .i64 0]) ∧ OwnT w w' v (frE (jB ns D R (vN (qD ns R W st.log st.told wk st.log.length) R ns.length) y (vN (qD ns R W st.log st.told wk st.log.length) R ns.length).length) R 6) ∧ Bw w w' := by
  have HR := qJ hR
  obtain ⟨s1, s2, s3, s4, s5⟩ := hR.small
  have Hp : Hid (zJ ns.length W wk y = true) := qJ (placeB_iff.2 (by omega))
  have Hview := qJ (rview_any wk w hR hw (by omega) hok)
  have Hlen : Hid ((vN (qD ns R W st.log st.told wk st.log.length) R ns.length).length ≤ 1000) := qJ (by
    have h1 := vN_len (qD ns R W st.log st.told wk st.log.length) R ns.length
    have h2 : ns.length * (2 * (6 * R)) ≤ 8 * (2 * (6 * 4)) := Nat.mul_le_mul s1 (by omega)
    omega)
  have Hok := qJ (vN_ok (qD ns R W st.log st.told wk st.log.length) R ns.length)
  clear hR hok
  generalize vN (qD ns R W st.log st.told wk st.log.length) R ns.length = ps at *
  have hpl := qK Hlen
  go_enter Tryz.func39, Tryz.ntmps39
  go_wp2_with (go_at_call 63; refine (rplace_any _ _ _ (qK HR)).mono ?_; rintro e w' ⟨rfl, rfl⟩; rw [qK Hp])
  refine (qK Hview).mono ?_
  rintro en w1 ⟨v, rfl, ho, hB1⟩
  have hpv := qV ho
  have hpt : PtsAt w1 (kY v) ps := ptsAt_of ho
  obtain ⟨pa, pc, rfl⟩ : ∃ pa pc, v = .slice pa ps.length pc := ⟨_, _, hpv⟩
  simp only [kY] at hpt
  clear ho hpv
  go_wp2_with fail
  go_loopw [9, 12] (fun v i wr => ∃ k : Nat, k ≤ ps.length ∧ i = .int .i64 k ∧ OwnT w1 wr v (jB ns D R ps y k) ∧ Bw w1 wr) (fun _ i _ => ps.length - (intOf i).toNat)
  case atStart => exact ⟨0, Nat.zero_le _, rfl, OwnT.nil _ _, Bw.refl _⟩
  case round =>
    obtain ⟨k, hk, rfl, hown2, hB2⟩ := hrel
    rename World => w2
    have hR2 := (qK HR).below (hB1.trans hB2)
    have hlc := comTo_len ns D R ps y k
    by_cases hlk : k < ps.length
    · obtain ⟨b, off, e, hb, hc⟩ := (hpt.below hB2) k hlk
      obtain ⟨p0, p1, p2, p3, p4⟩ := hc k hlk
      obtain ⟨pn, pe, pr, en, hpn, ee, hpe, er, hpr⟩ := (qK Hok) _ (xH hlk)
      have Hy := qJ (@comTo_yes ns D R ps y k)
      have Hn := qJ (@comTo_no ns D R ps y k)
      have Hcb : Hid (comB ns D R ps y k = (decide (0 < (jN ps k).count) && (decide (0 ≤ jX ns D pn (jN ps k).out pr y) && decide (jX ns D pn (jN ps k).out pr y < R)))) := qJ (by unfold comB; rw [en, er]; simp)
      rw [en, er, ee] at Hy
      simp only [Int.toNat_natCast] at Hy
      rw [en] at p0
      rw [ee] at p2
      rw [er] at p3
      clear hc en ee er
      have Hcm := qJ (fun w' h => rcomes_any (rb := rb) (x := x) (D := D) (st := st) (ns := ns) (R := R) (W := W) pn pe pr y (jN ps k).out (jN ps k).count w' h hpn hy hpr (hD _ _))
      generalize jN ps k = p at *
      generalize jX ns D pn p.out pr y = cm at *
      generalize hcbv : comB ns D R ps y k = cb at Hcb Hy Hn
      clear hcbv
      generalize hLv : jB ns D R ps y k = L at *
      clear hLv
      subst e
      have hjk : (k : Int) < (ps.length : Int) := by omega
      go_wp2_with fail
      refine ((qK Hcm) _ hR2).mono ?_
      rintro en w3 ⟨rfl, hB3⟩
      obtain ⟨q3, _⟩ := qS hB3
      have m2 := (q3 _ _ hb).trans p2
      have m4 := (q3 _ _ hb).trans p4
      have hb3 : b < w3.heap.size := Nat.lt_of_lt_of_le hb hB3.size
      have hR3 := hR2.below hB3
      have c1 := hR3.c1
      have hlt0 := hR3.lt
      clear q3 p0 p1 p2 p3 p4 hR2 hR3
      cases h1 : decide (0 < p.count) with
      | false =>
        have Hs := qJ ((qK Hn) (by rw [qK Hcb, h1]; rfl))
        clear Hy Hn Hcb
        go_wp2_with fail
        go_roundw
        case rel => exact ⟨k + 1, by omega, by go_num, by rw [qK Hs]; exact hown2.bw hB3, hB2.trans hB3⟩
        case measure => simp [intOf]; omega
      | true =>
        cases h2 : decide (0 ≤ cm) with
        | false =>
          have Hs := qJ ((qK Hn) (by rw [qK Hcb, h1, h2]; rfl))
          clear Hy Hn Hcb
          go_wp2_with fail
          go_roundw
          case rel => exact ⟨k + 1, by omega, by go_num, by rw [qK Hs]; exact hown2.bw hB3, hB2.trans hB3⟩
          case measure => simp [intOf]; omega
        | true =>
          cases h3 : decide (cm < R) with
          | false =>
            have Hs := qJ ((qK Hn) (by rw [qK Hcb, h1, h2, h3]; rfl))
            clear Hy Hn Hcb
            go_wp2_with fail
            go_roundw
            case rel => exact ⟨k + 1, by omega, by go_num, by rw [qK Hs]; exact hown2.bw hB3, hB2.trans hB3⟩
            case measure => simp [intOf]; omega
          | true =>
            have Hs := qJ ((qK Hy) (by rw [qK Hcb, h1, h2, h3]; rfl))
            clear Hy Hn Hcb
            go_wp2_with (at_builtin; refine appT _ rfl _ _ _ 72 rfl _ 2 16 Tryz.infoTime Tryz.underlying68 rfl (by decide) w1.heap.size _ L.length (jY L) rfl (hown2.bw (by repeat first|exact br _|assumption|apply bd|apply bn|apply ba|refine bt ?_ (by assumption))) _ _ (Tm.cells ⟨pe, cm⟩) rfl rfl (tm_cells (by simp) (by simp)) (tm_one _) (by omega) (by omega) (Bw.size (by repeat first|exact br _|assumption|apply bd|apply bn|apply ba|refine bt ?_ (by assumption))) ?_; intro v' w4 ho4 hg4)
            go_roundw
            case rel => exact ⟨k + 1, by omega, by go_num, by rw [qK Hs]; exact OwnT.snoc ho4, Bw.grown (by repeat first|exact br _|assumption|apply bd|apply bn|apply ba|refine bt ?_ (by assumption)) (hown2.bw (by repeat first|exact br _|assumption|apply bd|apply bn|apply ba|refine bt ?_ (by assumption))) hg4 (Nat.le_refl _)⟩
            case measure => simp [intOf]; omega
    · have hkk : k = ps.length := by omega
      subst hkk
      have hat : TmsAt w2 (kY u9) (jB ns D R ps y ps.length) := tmsAt_of hown2
      obtain ⟨aa, ac, hav⟩ : ∃ aa ac, u9 = .slice aa (jB ns D R ps y ps.length).length ac := ⟨_, _, qV hown2⟩
      subst hav
      simp only [kY] at hat
      clear hown2
      obtain ⟨ts, hts⟩ : ∃ ts, jB ns D R ps y ps.length = ts := ⟨_, rfl⟩
      rw [hts] at hat hlc ⊢
      have Hts := qJ hts
      clear hts
      have htl : ts.length ≤ 1000 := by omega
      go_wp2_with fail
      go_loopw [14, 15] (fun v i wr => ∃ e : Nat, e ≤ 6 ∧ i = .int .i64 e ∧ OwnT w2 wr v (frE ts R e) ∧ Bw w2 wr) (fun _ i _ => 6 - (intOf i).toNat)
      case atStart => exact ⟨0, Nat.zero_le _, rfl, OwnT.nil _ _, Bw.refl _⟩
      case round =>
        obtain ⟨e, he6, rfl, hown3, hB3⟩ := hrel
        rename World => w3
        by_cases hle : e < 6
        · have hd : decide ((e : Int) ≤ 5) = true := by simp; omega
          have hlE := frE_len ts R e
          go_wp2_with fail
          go_loopw [14, 16] (fun v i wr => ∃ s : Nat, s ≤ R ∧ i = .int .i64 s ∧ OwnT w2 wr v (frE ts R e ++ frS ts e s) ∧ Bw w2 wr) (fun _ i _ => R - (intOf i).toNat)
          case atStart => exact ⟨0, Nat.zero_le _, rfl, by rw [show frS ts e 0 = [] from rfl, List.append_nil]; exact hown3, hB3⟩
          case round =>
            clear hown3 hB3
            obtain ⟨s, hsR, rfl, hown4, hB4⟩ := hrel
            rename World => w4
            have hR4 := (qK HR).below ((hB1.trans hB2).trans hB4)
            have c1 := hR4.c1
            have hlt0 := hR4.lt
            clear hR4
            by_cases hls : s < R
            · have hlS := frS_len ts e s
              have Hlen2 : Hid ((frE ts R e ++ frS ts e s).length + 1 ≤ 1000000000) := qJ (by
                have h3 : e * R ≤ 6 * 4 := Nat.mul_le_mul (by omega) (by omega)
                rw [List.length_append]; omega)
              go_wp2_with fail
              obtain ⟨w5, hw5⟩ : ∃ w5, w4.alloc (.cells #[.int .i64 (e : Int), .int .i64 (s : Int)] 72) = w5 := ⟨_, rfl⟩
              rw [hw5]
              obtain ⟨hB45, hn5⟩ : Bw w4 w5 ∧ w5.heap[w4.heap.size]? = some (.cells #[.int .i64 (e : Int), .int .i64 (s : Int)] 72) := by rw [← hw5]; exact ⟨(by repeat first|exact br _|assumption|apply bd|apply bn|apply ba|refine bt ?_ (by assumption)), heap_alloc_new w4 _⟩
              clear hw5 c1 hlt0
              go_loopw [18, 19, 20] (fun a b i wr => ∃ j : Nat, j ≤ ts.length ∧ i = .int .i64 j ∧ a = .bool (inTo ts e s j) ∧ b = .bool (lowTo ts e s j) ∧ Bw w5 wr) (fun _ _ i _ => ts.length - (intOf i).toNat)
              case atStart => exact ⟨0, Nat.zero_le _, rfl, rfl, rfl, Bw.refl _⟩
              case round =>
                obtain ⟨j, hjl, rfl, rfl, rfl, hB6⟩ := hrel
                rename World => w6
                have hn6 := (Below.block hB6 _ (Array.getElem?_eq_some_iff.1 hn5).1).trans hn5
                have n0 := qQ (o := 0) hn6 rfl
                have n1 := qQ (o := 1) hn6 rfl
                have gn := (Array.getElem?_eq_some_iff.1 hn6).1
                by_cases hlj : j < ts.length
                · obtain ⟨b, off, eb, hb, hc⟩ := (hat.below ((hB4.trans hB45).trans hB6)) j hlj
                  obtain ⟨t0, t1⟩ := hc j hlj
                  have hjj : (j : Int) < (ts.length : Int) := by omega
                  have Hin : Hid (inTo ts e s (j + 1) = (inTo ts e s j || eqB (yU ts j) e s)) := qJ rfl
                  have Hlow : Hid (lowTo ts e s (j + 1) = (lowTo ts e s j || (!eqB (yU ts j) e s && upB (yU ts j) e s))) := qJ rfl
                  have Heq : Hid (eqB (yU ts j) e s = (((yU ts j).e == (e : Int)) && ((yU ts j).s == (s : Int)))) := qJ rfl
                  have Hup : Hid (upB (yU ts j) e s = (decide ((yU ts j).e ≤ (e : Int)) && decide ((yU ts j).s ≤ (s : Int)))) := qJ rfl
                  subst eb
                  clear hc hn6
                  generalize yU ts j = a at *
                  generalize inTo ts e s j = ib at *
                  generalize lowTo ts e s j = lb at *
                  generalize eqB a e s = qb at *
                  generalize upB a e s = ub at *
                  cases ib with
                  | true =>
                    cases lb with
                    | true =>
                      cases h1 : (a.e == (e : Int)) with
                      | false =>
                        have hq : qb = false := by rw [qK Heq, h1]; rfl
                        subst hq
                        go_wp2_with fail
                        go_quiet (fail)
                        go_wp2_with fail
                        go_quiet (fail)
                        all_goals go_wp2_with fail
                        all_goals go_roundw
                        all_goals first | (simp [intOf]; omega) | exact ⟨j + 1, by omega, by go_num, by rw [qK Hin]; simp, by rw [qK Hlow]; simp, (by repeat first|exact br _|assumption|apply bd|apply bn|apply ba|refine bt ?_ (by assumption))⟩
                      | true =>
                        cases h2 : (a.s == (s : Int)) with
                        | false =>
                          have hq : qb = false := by rw [qK Heq, h1, h2]; rfl
                          subst hq
                          go_wp2_with fail
                          go_quiet (fail)
                          go_wp2_with fail
                          go_quiet (fail)
                          all_goals go_wp2_with fail
                          all_goals go_roundw
                          all_goals first | (simp [intOf]; omega) | exact ⟨j + 1, by omega, by go_num, by rw [qK Hin]; simp, by rw [qK Hlow]; simp, (by repeat first|exact br _|assumption|apply bd|apply bn|apply ba|refine bt ?_ (by assumption))⟩
                        | true =>
                          have hq : qb = true := by rw [qK Heq, h1, h2]; rfl
                          subst hq
                          go_wp2_with fail
                          go_quiet (fail)
                          go_wp2_with fail
                          go_quiet (fail)
                          all_goals go_wp2_with fail
                          all_goals go_roundw
                          all_goals first | (simp [intOf]; omega) | exact ⟨j + 1, by omega, by go_num, by rw [qK Hin]; simp, by rw [qK Hlow]; simp, (by repeat first|exact br _|assumption|apply bd|apply bn|apply ba|refine bt ?_ (by assumption))⟩
                    | false =>
                      cases h1 : (a.e == (e : Int)) with
                      | false =>
                        have hq : qb = false := by rw [qK Heq, h1]; rfl
                        subst hq
                        go_wp2_with fail
                        go_quiet (fail)
                        go_wp2_with fail
                        go_region_law (go_simp; go_at_call 69; refine (rupto_any _ _ _ _ _).mono ?_; rintro e w7 ⟨rfl, hB7⟩; rw [← qK Hup])
                        all_goals go_wp2_with fail
                        all_goals go_roundw
                        all_goals first | (simp [intOf]; omega) | exact ⟨j + 1, by omega, by go_num, by rw [qK Hin]; simp, by rw [qK Hlow]; simp, (by repeat first|exact br _|assumption|apply bd|apply bn|apply ba|refine bt ?_ (by assumption))⟩
                      | true =>
                        cases h2 : (a.s == (s : Int)) with
                        | false =>
                          have hq : qb = false := by rw [qK Heq, h1, h2]; rfl
                          subst hq
                          go_wp2_with fail
                          go_quiet (fail)
                          go_wp2_with fail
                          go_region_law (go_simp; go_at_call 69; refine (rupto_any _ _ _ _ _).mono ?_; rintro e w7 ⟨rfl, hB7⟩; rw [← qK Hup])
                          all_goals go_wp2_with fail
                          all_goals go_roundw
                          all_goals first | (simp [intOf]; omega) | exact ⟨j + 1, by omega, by go_num, by rw [qK Hin]; simp, by rw [qK Hlow]; simp, (by repeat first|exact br _|assumption|apply bd|apply bn|apply ba|refine bt ?_ (by assumption))⟩
                        | true =>
                          have hq : qb = true := by rw [qK Heq, h1, h2]; rfl
                          subst hq
                          go_wp2_with fail
                          go_quiet (fail)
                          go_wp2_with fail
                          go_quiet (fail)
                          all_goals go_wp2_with fail
                          all_goals go_roundw
                          all_goals first | (simp [intOf]; omega) | exact ⟨j + 1, by omega, by go_num, by rw [qK Hin]; simp, by rw [qK Hlow]; simp, (by repeat first|exact br _|assumption|apply bd|apply bn|apply ba|refine bt ?_ (by assumption))⟩
                  | false =>
                    cases lb with
                    | true =>
                      cases h1 : (a.e == (e : Int)) with
                      | false =>
                        have hq : qb = false := by rw [qK Heq, h1]; rfl
                        subst hq
                        go_wp2_with fail
                        go_quiet (fail)
                        go_wp2_with fail
                        go_quiet (fail)
                        all_goals go_wp2_with fail
                        all_goals go_roundw
                        all_goals first | (simp [intOf]; omega) | exact ⟨j + 1, by omega, by go_num, by rw [qK Hin]; simp, by rw [qK Hlow]; simp, (by repeat first|exact br _|assumption|apply bd|apply bn|apply ba|refine bt ?_ (by assumption))⟩
                      | true =>
                        cases h2 : (a.s == (s : Int)) with
                        | false =>
                          have hq : qb = false := by rw [qK Heq, h1, h2]; rfl
                          subst hq
                          go_wp2_with fail
                          go_quiet (fail)
                          go_wp2_with fail
                          go_quiet (fail)
                          all_goals go_wp2_with fail
                          all_goals go_roundw
                          all_goals first | (simp [intOf]; omega) | exact ⟨j + 1, by omega, by go_num, by rw [qK Hin]; simp, by rw [qK Hlow]; simp, (by repeat first|exact br _|assumption|apply bd|apply bn|apply ba|refine bt ?_ (by assumption))⟩
                        | true =>
                          have hq : qb = true := by rw [qK Heq, h1, h2]; rfl
                          subst hq
                          go_wp2_with fail
                          go_quiet (fail)
                          go_wp2_with fail
                          go_quiet (fail)
                          all_goals go_wp2_with fail
                          all_goals go_roundw
                          all_goals first | (simp [intOf]; omega) | exact ⟨j + 1, by omega, by go_num, by rw [qK Hin]; simp, by rw [qK Hlow]; simp, (by repeat first|exact br _|assumption|apply bd|apply bn|apply ba|refine bt ?_ (by assumption))⟩
                    | false =>
                      cases h1 : (a.e == (e : Int)) with
                      | false =>
                        have hq : qb = false := by rw [qK Heq, h1]; rfl
                        subst hq
                        go_wp2_with fail
                        go_quiet (fail)
                        go_wp2_with fail
                        go_region_law (go_simp; go_at_call 69; refine (rupto_any _ _ _ _ _).mono ?_; rintro e w7 ⟨rfl, hB7⟩; rw [← qK Hup])
                        all_goals go_wp2_with fail
                        all_goals go_roundw
                        all_goals first | (simp [intOf]; omega) | exact ⟨j + 1, by omega, by go_num, by rw [qK Hin]; simp, by rw [qK Hlow]; simp, (by repeat first|exact br _|assumption|apply bd|apply bn|apply ba|refine bt ?_ (by assumption))⟩
                      | true =>
                        cases h2 : (a.s == (s : Int)) with
                        | false =>
                          have hq : qb = false := by rw [qK Heq, h1, h2]; rfl
                          subst hq
                          go_wp2_with fail
                          go_quiet (fail)
                          go_wp2_with fail
                          go_region_law (go_simp; go_at_call 69; refine (rupto_any _ _ _ _ _).mono ?_; rintro e w7 ⟨rfl, hB7⟩; rw [← qK Hup])
                          all_goals go_wp2_with fail
                          all_goals go_roundw
                          all_goals first | (simp [intOf]; omega) | exact ⟨j + 1, by omega, by go_num, by rw [qK Hin]; simp, by rw [qK Hlow]; simp, (by repeat first|exact br _|assumption|apply bd|apply bn|apply ba|refine bt ?_ (by assumption))⟩
                        | true =>
                          have hq : qb = true := by rw [qK Heq, h1, h2]; rfl
                          subst hq
                          go_wp2_with fail
                          go_quiet (fail)
                          go_wp2_with fail
                          go_quiet (fail)
                          all_goals go_wp2_with fail
                          all_goals go_roundw
                          all_goals first | (simp [intOf]; omega) | exact ⟨j + 1, by omega, by go_num, by rw [qK Hin]; simp, by rw [qK Hlow]; simp, (by repeat first|exact br _|assumption|apply bd|apply bn|apply ba|refine bt ?_ (by assumption))⟩
                · have hjj : j = ts.length := by omega
                  subst hjj
                  have Hst : Hid (frS ts e (s + 1) = if inTo ts e s ts.length && !lowTo ts e s ts.length then frS ts e s ++ [⟨e, s⟩] else frS ts e s) := qJ rfl
                  have hB46 : Bw w4 w6 := hB45.trans hB6
                  have hB26 : Bw w2 w6 := hB4.trans hB46
                  generalize inTo ts e s ts.length = ib at *
                  generalize lowTo ts e s ts.length = lb at *
                  generalize hfs : frS ts e s = fs at *
                  clear hfs
                  cases ib with
                  | false =>
                    have Hs : Hid (frS ts e (s + 1) = fs) := qJ (by rw [qK Hst]; rfl)
                    clear Hst
                    go_wp2_with fail
                    go_roundw
                    case rel => exact ⟨s + 1, by omega, by go_num, by rw [qK Hs]; exact hown4.bw hB46, hB26⟩
                    case measure => simp [intOf]; omega
                  | true =>
                    cases lb with
                    | true =>
                      have Hs : Hid (frS ts e (s + 1) = fs) := qJ (by rw [qK Hst]; rfl)
                      clear Hst
                      go_wp2_with fail
                      go_roundw
                      case rel => exact ⟨s + 1, by omega, by go_num, by rw [qK Hs]; exact hown4.bw hB46, hB26⟩
                      case measure => simp [intOf]; omega
                    | false =>
                      have Hs : Hid (frS ts e (s + 1) = fs ++ [⟨e, s⟩]) := qJ (by rw [qK Hst]; rfl)
                      clear Hst
                      go_wp2_with (at_builtin; refine appT _ rfl _ _ _ 72 rfl _ 2 16 Tryz.infoTime Tryz.underlying68 rfl (by decide) w2.heap.size _ (frE ts R e ++ fs).length (jY (frE ts R e ++ fs)) rfl (hown4.bw (by repeat first|exact br _|assumption|apply bd|apply bn|apply ba|refine bt ?_ (by assumption))) _ _ (Tm.cells ⟨e, s⟩) rfl rfl (tm_cells (by simp) (by simp)) (tm_one _) (qK Hlen2) (by omega) (Bw.size (by repeat first|exact br _|assumption|apply bd|apply bn|apply ba|refine bt ?_ (by assumption))) ?_; intro v' w8 ho8 hg8)
                      go_roundw
                      case rel => exact ⟨s + 1, by omega, by go_num, by rw [qK Hs, ← List.append_assoc]; exact OwnT.snoc ho8, Bw.grown (by repeat first|exact br _|assumption|apply bd|apply bn|apply ba|refine bt ?_ (by assumption)) (hown4.bw (by repeat first|exact br _|assumption|apply bd|apply bn|apply ba|refine bt ?_ (by assumption))) hg8 (Nat.le_refl _)⟩
                      case measure => simp [intOf]; omega
            · have hss : s = R := by omega
              subst hss
              have Hn : Hid (frE ts s (e + 1) = frE ts s e ++ frS ts e s) := qJ rfl
              go_wp2_with fail
              go_roundw
              case rel => exact ⟨e + 1, by omega, by go_num, by rw [qK Hn]; exact hown4, hB4⟩
              case measure => simp [intOf]; omega
        · have hee : e = 6 := by omega
          subst hee
          go_wp2_with fail
          go_ret2
          exact ⟨_, rfl, by rw [qK Hts]; exact hown3.weaken (hB1.trans hB2), (hB1.trans hB2).trans hB3⟩
def vM (c : Nat → Bool) : Nat → Nat
  | 0 => 0
  | b + 1 => if vM c b < b then vM c b else if c b then b else b + 1
theorem fstS_le (c : Nat → Bool) (b : Nat) : vM c b ≤ b := by
  induction b with
  | zero => simp [vM]
  | succ b ih => unfold vM; split <;> (try split) <;> omega
theorem fstS_no (c : Nat → Bool) (b : Nat) : ∀ j, j < vM c b → c j = false := by
  induction b with
  | zero => intro j h; simp [vM] at h
  | succ b ih =>
    intro j h
    have hle := fstS_le c b
    unfold vM at h
    split at h
    · exact ih j h
    · have e : vM c b = b := by omega
      split at h
      · exact ih j (by omega)
      · rename_i hc
        by_cases hj : j < b
        · exact ih j (by omega)
        · have : j = b := by omega
          subst this
          simpa using hc
theorem fstS_yes (c : Nat → Bool) (b : Nat) : vM c b < b → c (vM c b) = true := by
  induction b with
  | zero => intro h; simp [vM] at h
  | succ b ih =>
    intro h
    have hle := fstS_le c b
    unfold vM at h ⊢
    split
    · rename_i h1; exact ih h1
    · rename_i h1
      rw [if_neg h1] at h
      split
      · assumption
      · rename_i hc; rw [if_neg hc] at h; omega
theorem fstS_eq {c : Nat → Bool} {b s : Nat} (hs : s < b) (hc : c s = true) (hn : ∀ j, j < s → c j = false) : vM c b = s := by
  have h1 := fstS_no c b
  have hle := fstS_le c b
  rcases Nat.lt_trichotomy (vM c b) s with h | h | h
  · have := fstS_yes c b (by omega)
    rw [hn _ h] at this
    cases this
  · exact h
  · rw [h1 s h] at hc; cases hc
theorem fstS_none {c : Nat → Bool} {b : Nat} (hn : ∀ j, j < b → c j = false) : vM c b = b := by
  have hle := fstS_le c b
  rcases Nat.lt_or_ge (vM c b) b with h | h
  · have := fstS_yes c b h
    rw [hn _ h] at this
    cases this
  · omega
def zN (C : Nat → Nat → Bool) : Nat → Nat
  | 0 => 4
  | e + 1 => vM (C e) (zN C e)
def lstE (C : Nat → Nat → Bool) : Nat → List Tm
  | 0 => []
  | e + 1 => if vM (C e) (zN C e) < zN C e then lstE C e ++ [⟨e, (vM (C e) (zN C e) : Nat)⟩] else lstE C e
theorem belE_le (C : Nat → Nat → Bool) (e : Nat) : zN C e ≤ 4 := by
  induction e with
  | zero => simp [zN]
  | succ e ih => have := fstS_le (C e) (zN C e); unfold zN; omega
theorem lstE_len (C : Nat → Nat → Bool) (e : Nat) : (lstE C e).length ≤ e := by
  induction e with
  | zero => simp [lstE]
  | succ e ih => unfold lstE; split <;> (try simp) <;> omega
theorem pleast_any (C : Nat → Nat → Bool) (arr : Array Value) (w : World) (hs : arr.size = 24) (hC : ∀ e s, e < 6 → s < 4 → arr[e * 4 + s]? = some (.bool (C e s))) :
    Calls Tryz.prog 118 #[.agg arr] w fun en w' => ∃ v, en = .returned v ∧ OwnT w w' v (lstE C 6) ∧ Bw w w' := by
  go_enter Tryz.func118, Tryz.ntmps118
  go_wp2_with fail
  obtain ⟨w0, hw0⟩ : ∃ w0, w.alloc (.cells arr 201) = w0 := ⟨_, rfl⟩
  rw [hw0]
  obtain ⟨hb0, hB0⟩ : w0.heap[w.heap.size]? = some (.cells arr 201 (0, 0)) ∧ Bw w w0 := by
    rw [← hw0]; exact ⟨heap_alloc_new w _, (by repeat first|exact br _|assumption|apply bd|apply bn|apply ba|refine bt ?_ (by assumption))⟩
  clear hw0
  obtain ⟨cb, hcb⟩ : ∃ cb, w.heap.size = cb := ⟨_, rfl⟩
  rw [hcb] at hb0
  rw [hcb]
  clear hcb
  have Hb0 := qJ hb0
  have HC := qJ hC
  clear hb0 hC
  go_loopw [3, 4, 5] (fun v b i wr => ∃ e : Nat, e ≤ 6 ∧ i = .int .i64 e ∧ b = .int .i64 (zN C e : Nat) ∧ OwnT w0 wr v (lstE C e) ∧ Bw w0 wr) (fun _ _ i _ => 6 - (intOf i).toNat)
  case atStart => exact ⟨0, Nat.zero_le _, rfl, rfl, OwnT.nil _ _, Bw.refl _⟩
  case round =>
    obtain ⟨e, he, rfl, rfl, hown, hB⟩ := hrel
    rename World => wo
    have hle := lstE_len C e
    have hb4 := belE_le C e
    by_cases hlt : e < 6
    · have hl1 : decide ((e : Int) ≤ 5) = true := by simp; omega
      have Hb1 : Hid (zN C (e + 1) = vM (C e) (zN C e)) := qJ rfl
      have Hl1 : Hid (lstE C (e + 1) = if vM (C e) (zN C e) < zN C e then lstE C e ++ [⟨e, (vM (C e) (zN C e) : Nat)⟩] else lstE C e) := qJ rfl
      have Hno := qJ (@fstS_none (C e) (zN C e))
      have Hyes := qJ (fun (s : Nat) (a : s < zN C e) (b : C e s = true) (c : ∀ j, j < s → C e j = false) => fstS_eq a b c)
      obtain ⟨L1, hL1⟩ : ∃ L1, lstE C (e + 1) = L1 := ⟨_, rfl⟩
      obtain ⟨B1, hB1e⟩ : ∃ B1, zN C (e + 1) = B1 := ⟨_, rfl⟩
      rw [hL1] at Hl1
      rw [hB1e] at Hb1
      have HL1 := qJ hL1
      have HB1e := qJ hB1e
      clear hL1 hB1e
      generalize zN C e = B at *
      generalize lstE C e = L at *
      generalize vM (C e) B = F at *
      go_wp2_with fail
      go_loopw [3, 4, 6] (fun v b i wr => ∃ s : Nat, i = .int .i64 s ∧ Bw w0 wr ∧ ((s ≤ B ∧ b = .int .i64 (B : Nat) ∧ OwnT w0 wr v L ∧ ∀ j, j < s → C e j = false) ∨ (1 ≤ s ∧ s ≤ B ∧ b = .int .i64 (B1 : Nat) ∧ B1 + 1 = s ∧ OwnT w0 wr v L1))) (fun _ _ i _ => 5 - (intOf i).toNat)
      case atStart => exact ⟨0, rfl, hB, .inl ⟨Nat.zero_le _, rfl, hown, fun j hj => absurd hj (Nat.not_lt_zero j)⟩⟩
      case round =>
        clear hown hB
        obtain ⟨s, rfl, hB, ⟨hsB, rfl, hown, hnone⟩ | ⟨hs1, hsB, rfl, hB1, hown⟩⟩ := hrel
        · by_cases hsl : s < B
          · have hwb := (Below.block hB _ (Array.getElem?_eq_some_iff.1 (qK Hb0)).1).trans (qK Hb0)
            have hc := qQ hwb ((qK HC) e s hlt (by omega))
            have hcl := (Array.getElem?_eq_some_iff.1 hwb).1
            have he6 : (e : Int) < 6 := by omega
            have hs4 : (s : Int) < 4 := by omega
            have hd1 : decide ((s : Int) < (B : Int)) = true := by simp; omega
            cases hcc : C e s with
            | false =>
              rw [hcc] at hc
              have Hnone : Hid (∀ j, j < s + 1 → C e j = false) := qJ (fun j hj => by
                by_cases h : j < s
                · exact hnone j h
                · have : j = s := by omega
                  subst this; exact hcc)
              clear hnone hcc hwb
              go_wp2_with fail
              go_roundw
              case rel => exact ⟨s + 1, by go_num, hB, .inl ⟨by omega, rfl, hown, qK Hnone⟩⟩
              case measure => simp [intOf]; omega
            | true =>
              rw [hcc] at hc
              have hF := (qK Hyes) s hsl hcc hnone
              have HL : Hid (L1 = L ++ [⟨e, (s : Int)⟩]) := qJ (by rw [qK Hl1, hF, if_pos hsl])
              have HB1 : Hid (B1 = s) := qJ (by rw [qK Hb1, hF])
              clear hF hcc hnone hwb
              go_wp2_with (at_builtin; refine appL _ rfl _ _ _ 72 rfl _ 2 16 Tryz.infoTime Tryz.underlying68 rfl (by decide) w0.heap.size _ L.length (jY L) rfl (hown.bw (by repeat first|exact br _|assumption|apply bd|apply bn|apply ba|refine bt ?_ (by assumption))) _ _ (Tm.cells ⟨e, s⟩) rfl rfl (tm_cells (qQ (qY _ _ (by simp)) rfl) (qQ (qY _ _ (by simp)) rfl)) (tm_one _) (by omega) (by omega) (Bw.size (show Bw w0 _ from (by repeat first|exact br _|assumption|apply bd|apply bn|apply ba|refine bt ?_ (by assumption)))) ?_; intro g6 cap6 w6 ho6 hg6 hl6)
              go_roundw
              case rel =>
                refine ⟨s + 1, by go_num, ?_, .inr ⟨by omega, by omega, by rw [qK HB1], by rw [qK HB1], by rw [qK HL]; exact OwnT.snoc ho6⟩⟩
                exact yK (W := w0) (hown.bw (show Bw wr (wr.alloc (.cells #[.int .i64 (e : Int), .int .i64 (s : Int)] 72)) from (by repeat first|exact br _|assumption|apply bd|apply bn|apply ba|refine bt ?_ (by assumption)))) hg6 (hB.alloc _) (Nat.le_refl _)
              case measure => simp [intOf]; omega
          · have hss : s = B := by omega
            subst hss
            have hF := (qK Hno) hnone
            have HL : Hid (L1 = L) := qJ (by rw [qK Hl1, hF, if_neg (by omega)])
            have HB1 : Hid (B1 = s) := qJ (by rw [qK Hb1, hF])
            have hd1 : decide ((s : Int) < (s : Int)) = false := by simp
            clear hF hnone
            go_wp2_with fail
            go_roundw
            case rel => exact ⟨e + 1, by omega, by go_num, by rw [qK HB1e, qK HB1], by rw [qK HL1, qK HL]; exact hown, hB⟩
            case measure => simp [intOf]; omega
        · have hd1 : decide ((s : Int) < (B1 : Int)) = false := by simp; omega
          have hsn : ¬ s < B1 := by omega
          clear hB1
          go_wp2_with fail
          go_roundw
          case rel => exact ⟨e + 1, by omega, by go_num, by rw [qK HB1e], by rw [qK HL1]; exact hown, hB⟩
          case measure => simp [intOf]; omega
    · have hee : e = 6 := by omega
      subst hee
      go_wp2_with fail
      go_ret
      exact ⟨_, rfl, hown.weaken hB0, hB0.trans hB⟩
end Go.Proofs.YtfemleimkbjehaaGreat
