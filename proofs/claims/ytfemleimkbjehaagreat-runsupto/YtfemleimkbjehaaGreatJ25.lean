import Derived.Test.YtfemleimkbjehaaGreatJ20
import Derived.Test.YtfemleimkbjehaaGreatJ24
import Derived.Test.YtfemleimkbjehaaGreatJ5
import Derived.Test.YtfemleimkbjehaaGreatJ9
import Derived.Test.YtfemleimkbjehaaGreatJ6
set_option maxRecDepth 1000000
set_option maxHeartbeats 40000000
set_option linter.unusedVariables false
set_option linter.unusedSimpArgs false
namespace Go.Proofs.YtfemleimkbjehaaGreat
open Go.RowKit
theorem freeTo_hit {fr : List Tm} {e s i : Nat} (h : upB (yU fr i) e s = true) : ∀ k, i < k → zQ fr e s k = false := by
  intro k hk
  induction k with
  | zero => omega
  | succ k ih =>
    unfold zQ
    by_cases e2 : i = k
    · subst e2; rw [h]; simp
    · rw [ih (by omega)]; rfl
theorem freeTo_no {fr : List Tm} {e s i : Nat} (h : zQ fr e s i = true) (h2 : upB (yU fr i) e s = false) : zQ fr e s (i + 1) = true := by rw [zQ, h, h2]; rfl
theorem phasUp_any (fr : List Tm) (fa : Option Addr) (fc e s : Nat) (w : World) (hf : TmsAt w fa fr) (hl : fr.length ≤ 1000) :
    Calls Tryz.prog 120 #[.slice fa fr.length fc, .agg #[.int .i64 (e : Int), .int .i64 (s : Int)]] w fun en w' => en = .returned (.bool (!zQ fr e s fr.length)) ∧ Bw w w' := by
  go_enter Tryz.func120, Tryz.ntmps120
  go_wp2_with fail
  go_loopw [9] (fun i wr => ∃ k : Nat, k ≤ fr.length ∧ i = .int .i64 k ∧ zQ fr e s k = true ∧ Bw w wr ∧ wr.heap[w.heap.size]? = some (.cells #[.int .i64 (e : Int), .int .i64 (s : Int)] 72 (0, 0))) (fun i _ => fr.length - (intOf i).toNat)
  case atStart => exact ⟨0, Nat.zero_le _, rfl, rfl, (by repeat first|exact br _|assumption|apply bd|apply bn|apply ba|refine bt ?_ (by assumption)), heap_alloc_new w _⟩
  case round =>
    obtain ⟨k, hk, rfl, hno, hB, hbx⟩ := hrel
    rename World => wr
    have Hbx := qJ hbx
    have t0 := qQ (o := 0) hbx rfl
    have t1 := qQ (o := 1) hbx rfl
    have tl0 := (Array.getElem?_eq_some_iff.1 hbx).1
    clear hbx
    by_cases hlt : k < fr.length
    · have hk1 : (k : Int) < (fr.length : Int) := by omega
      obtain ⟨fb, foff, rfl, hfb, hfc⟩ := (hf.below hB) k hlt
      obtain ⟨f0, f1⟩ := hfc k hlt
      have Hno := qJ (@freeTo_no fr e s k hno)
      have Hyes := qJ (fun h => @freeTo_hit fr e s k h fr.length hlt)
      have Hup : Hid (upB (yU fr k) e s = (decide ((yU fr k).e ≤ (e : Int)) && decide ((yU fr k).s ≤ (s : Int)))) := qJ rfl
      generalize hup : upB (yU fr k) e s = ub at Hup Hno Hyes
      generalize hff : zQ fr e s fr.length = ff at Hyes
      have Hff := qJ hff
      generalize yU fr k = a at *
      clear hup hfc hff
      by_cases q1 : a.e ≤ (e : Int)
      · by_cases q2 : a.s ≤ (s : Int)
        · have Hs := qJ ((qK Hyes) (by rw [qK Hup]; simp [q1, q2]))
          clear Hno Hyes Hup
          go_wp2_with fail
          go_ret
          exact ⟨ret_bool (by rw [qK Hff, qK Hs]; rfl), (by repeat first|exact br _|assumption|apply bd|apply bn|apply ba|refine bt ?_ (by assumption))⟩
        · have Hs := qJ ((qK Hno) (by rw [qK Hup]; simp [q2]))
          clear Hno Hyes Hup
          go_wp2_with fail
          go_roundw
          case rel => exact ⟨k + 1, by omega, by go_num, qK Hs, (by repeat first|exact br _|assumption|apply bd|apply bn|apply ba|refine bt ?_ (by assumption)), (Below.block (show Bw wr _ from (by repeat first|exact br _|assumption|apply bd|apply bn|apply ba|refine bt ?_ (by assumption))) _ tl0).trans (qK Hbx)⟩
          case measure => simp [intOf]; omega
      · have Hs := qJ ((qK Hno) (by rw [qK Hup]; simp [q1]))
        clear Hno Hyes Hup
        go_wp2_with fail
        go_roundw
        case rel => exact ⟨k + 1, by omega, by go_num, qK Hs, (by repeat first|exact br _|assumption|apply bd|apply bn|apply ba|refine bt ?_ (by assumption)), (Below.block (show Bw wr _ from (by repeat first|exact br _|assumption|apply bd|apply bn|apply ba|refine bt ?_ (by assumption))) _ tl0).trans (qK Hbx)⟩
        case measure => simp [intOf]; omega
    · have hkk : k = fr.length := by omega
      subst hkk
      go_wp2_with fail
      go_ret
      exact ⟨ret_bool (by rw [hno]; rfl), hB⟩
def tmS (wn : Nat → Bool) (e : Nat) : Nat → List Tm
  | 0 => []
  | s + 1 => if wn (e * 4 + s) then tmS wn e s ++ [⟨e, s⟩] else tmS wn e s
def tmE (wn : Nat → Bool) : Nat → List Tm
  | 0 => []
  | e + 1 => tmE wn e ++ tmS wn e 4
theorem tmS_len (wn : Nat → Bool) (e s : Nat) : (tmS wn e s).length ≤ s := by
  induction s with
  | zero => simp [tmS]
  | succ s ih => unfold tmS; split <;> (try simp) <;> omega
theorem tmE_len (wn : Nat → Bool) (e : Nat) : (tmE wn e).length ≤ e * 4 := by
  induction e with
  | zero => simp [tmE]
  | succ e ih => unfold tmE; have := tmS_len wn e 4; rw [List.length_append]; omega
theorem ptimes_any (wn : Nat → Bool) (B o : Nat) (w : World) (hB0 : B < w.heap.size) (hw : ∀ k, k < 24 → w.cell? ⟨B, o + k, none⟩ = some (.bool (wn k))) :
    Calls Tryz.prog 119 #[.pointer (some ⟨B, o, none⟩)] w fun en w' => ∃ v, en = .returned v ∧ OwnT w w' v (tmE wn 6) ∧ Bw w w' := by
  have Hw := qJ hw
  clear hw
  go_enter Tryz.func119, Tryz.ntmps119
  go_wp2_with fail
  go_loopw [3, 4] (fun v i wr => ∃ e : Nat, e ≤ 6 ∧ i = .int .i64 e ∧ OwnT w wr v (tmE wn e) ∧ Bw w wr) (fun _ i _ => 6 - (intOf i).toNat)
  case atStart => exact ⟨0, Nat.zero_le _, rfl, OwnT.nil _ _, Bw.refl _⟩
  case round =>
    obtain ⟨e, he, rfl, hown, hB⟩ := hrel
    rename World => wr
    have hlE := tmE_len wn e
    by_cases hlt : e < 6
    · have he1 : (e : Int) ≤ 5 := by omega
      have he2 : (e : Int) < 6 := by omega
      have Hown := qJ hown
      clear hown
      go_wp2_with fail
      go_loopw [3, 5] (fun v j wi => ∃ s : Nat, s ≤ 4 ∧ j = .int .i64 s ∧ OwnT w wi v (tmE wn e ++ tmS wn e s) ∧ Bw w wi) (fun _ j _ => 4 - (intOf j).toNat)
      case atStart => exact ⟨0, Nat.zero_le _, rfl, by rw [tmS, List.append_nil]; exact qK Hown, hB⟩
      case round =>
        obtain ⟨s, hs, rfl, hown, hBi⟩ := hrel
        rename World => wi
        have hlS := tmS_len wn e s
        have lt0 : B < wi.heap.size := Nat.lt_of_lt_of_le hB0 hBi.size
        by_cases hlts : s < 4
        · have hs1 : (s : Int) < 4 := by omega
          have cw := ((qS hBi).1 _ _ hB0).trans ((qK Hw) (e * 4 + s) (by omega))
          rw [← Nat.add_assoc] at cw
          have Hn1 : Hid (tmS wn e (s + 1) = if wn (e * 4 + s) then tmS wn e s ++ [⟨e, s⟩] else tmS wn e s) := qJ rfl
          generalize wn (e * 4 + s) = b at *
          obtain ⟨A1, hA1⟩ : ∃ A1, tmE wn e ++ tmS wn e s = A1 := ⟨_, rfl⟩
          have hA1l : A1.length ≤ 1000 := by rw [← hA1, List.length_append]; omega
          rw [hA1] at hown
          have HA1 := qJ hA1
          clear hA1
          cases b with
          | false =>
            have Hs : Hid (tmS wn e (s + 1) = tmS wn e s) := qJ (by rw [qK Hn1]; rfl)
            go_wp2_with fail
            go_roundw
            case rel => exact ⟨s + 1, by omega, by go_num, by rw [qK Hs, qK HA1]; exact hown, hBi⟩
            case measure => simp [intOf]; omega
          | true =>
            have Hs : Hid (tmS wn e (s + 1) = tmS wn e s ++ [⟨e, s⟩]) := qJ (by rw [qK Hn1]; rfl)
            obtain ⟨va, vc, hve⟩ : ∃ va vc, _ = Value.slice va A1.length vc := ⟨_, _, qV hown⟩
            subst hve
            go_wp2_with (at_builtin; refine appL _ rfl _ _ _ 72 rfl _ 2 16 Tryz.infoTime Tryz.underlying68 rfl (by decide) w.heap.size (.slice va A1.length vc) A1.length (jY A1) rfl (hown.bw (by repeat first|exact br _|assumption|apply bd|apply bn|apply ba|refine bt ?_ (by assumption))) _ _ (Tm.cells ⟨e, s⟩) rfl rfl (fun j u hj => qQ (qY _ _ (by simp)) (by simpa [Tm.cells] using hj)) (tm_one _) (by omega) (by omega) (Bw.size (show Bw w _ from (by repeat first|exact br _|assumption|apply bd|apply bn|apply ba|refine bt ?_ (by assumption)))) ?_; intro g' cap w9 ho9 hg9 hl9)
            go_roundw
            case rel => exact ⟨s + 1, by omega, by go_num, by rw [qK Hs, ← List.append_assoc, qK HA1]; exact OwnT.snoc ho9, yK (hown.bw (show Bw wi _ from (by repeat first|exact br _|assumption|apply bd|apply bn|apply ba|refine bt ?_ (by assumption)))) hg9 (hBi.trans (show Bw wi _ from (by repeat first|exact br _|assumption|apply bd|apply bn|apply ba|refine bt ?_ (by assumption)))) (Nat.le_refl _)⟩
            case measure => simp [intOf]; omega
        · have hss : s = 4 := by omega
          subst hss
          have HoN := qJ (show OwnT w wi _ (tmE wn (e + 1)) from by rw [tmE]; exact hown)
          clear hown
          go_wp2_with fail
          go_roundw
          case rel => exact ⟨e + 1, by omega, by go_num, qK HoN, hBi⟩
          case measure => simp [intOf]; omega
    · have hee : e = 6 := by omega
      subst hee
      go_wp2_with fail
      go_ret
      exact ⟨_, rfl, hown, hB⟩
def wkTo (w n : Nat) (l : List Gv) : Nat → List Ev
  | 0 => []
  | i + 1 => wkTo w n l i ++ [⟨1, w, n, i, (vR l i).node, (vR l i).epoch, (vR l i).value⟩]
def wkN (f : Nat → List Gv) (w : Nat) : Nat → List Ev
  | 0 => []
  | n + 1 => wkN f w n ++ wkTo w n (f n) (f n).length
def waN (ns : List Nd) (evs : List Ev) (fr : Nat → List Tm) (R w : Nat) : Nat → List Ev
  | 0 => []
  | n + 1 => if (qT ns n).kind == 6 then waN ns evs fr R w n ++ waE evs (fr n) R w n 6 else waN ns evs fr R w n
def zK (log : List Cg) (x : Nat) : Nat → Nat
  | 0 => 0
  | i + 1 => if (jF log i).worker == (x : Int) then zK log x i + 1 else zK log x i
def teB (log : List Cg) (told : Nat → Nat → Int) (w x : Nat) : Bool := ((x : Int) != (w : Int)) && decide (told w x < (zK log x log.length : Nat))
def teX (log : List Cg) (told : Nat → Nat → Int) (w : Nat) : Nat → List Ev
  | 0 => []
  | x + 1 => if teB log told w x then teX log told w x ++ [⟨3, w, 0, x, 0, 0, 0⟩] else teX log told w x
def acW (ns : List Nd) (R W : Nat) (st : RSt) (frs : Nat → Nat → List Tm) (w : Nat) : List Ev := wkN (fun n => jQ st.mails w n) w ns.length ++ waN ns st.evs (frs w) R w ns.length ++ teX st.log st.told w W
def acts (ns : List Nd) (R W : Nat) (st : RSt) (frs : Nat → Nat → List Tm) : Nat → List Ev
  | 0 => []
  | w + 1 => acts ns R W st frs w ++ acW ns R W st frs w
theorem wkTo_len (w n : Nat) (l : List Gv) (k : Nat) : (wkTo w n l k).length = k := by
  induction k with
  | zero => rfl
  | succ k ih => rw [wkTo, List.length_append, ih]; rfl
theorem wkN_len {f : Nat → List Gv} {w B : Nat} (h : ∀ n, (f n).length ≤ B) (k : Nat) : (wkN f w k).length ≤ k * B := by
  induction k with
  | zero => simp [wkN]
  | succ k ih => rw [wkN, List.length_append, wkTo_len, Nat.add_mul]; have := h k; omega
theorem waN_len (ns : List Nd) (evs : List Ev) (fr : Nat → List Tm) (R w : Nat) (hR : R ≤ 4) (k : Nat) : (waN ns evs fr R w k).length ≤ k * 24 := by
  induction k with
  | zero => simp [waN]
  | succ k ih =>
    have h1 := waE_len evs (fr k) R w k 6
    unfold waN
    split
    · rw [List.length_append]; omega
    · omega
theorem teX_len (log : List Cg) (told : Nat → Nat → Int) (w k : Nat) : (teX log told w k).length ≤ k := by
  induction k with
  | zero => simp [teX]
  | succ k ih => unfold teX; split <;> (try simp) <;> omega
theorem cnTo_le (log : List Cg) (x k : Nat) : zK log x k ≤ k := by
  induction k with
  | zero => simp [zK]
  | succ k ih => unfold zK; split <;> omega
theorem waitL_len' (ms : List Ml) (w n : Int) : (jQ ms w n).length ≤ ms.length := by
  unfold jQ
  rw [List.length_map]
  exact waitTo_len ms w n _
theorem acW_len {ns : List Nd} {R W : Nat} {st : RSt} {frs : Nat → Nat → List Tm} (hR : R ≤ 4) (hL : ns.length ≤ 8) (hW : W ≤ 4) (hm : st.mails.length ≤ 20000000) (w : Nat) : (acW ns R W st frs w).length ≤ 160000200 := by
  have h1 := wkN_len (f := fun n => jQ st.mails w n) (w := w) (fun n => Nat.le_trans (waitL_len' st.mails w n) hm) ns.length
  have h2 := waN_len ns st.evs (frs w) R w hR ns.length
  have h3 := teX_len st.log st.told w W
  unfold acW
  rw [List.length_append, List.length_append]
  omega
theorem acts_len {ns : List Nd} {R W : Nat} {st : RSt} {frs : Nat → Nat → List Tm} (hR : R ≤ 4) (hL : ns.length ≤ 8) (hW : W ≤ 4) (hm : st.mails.length ≤ 20000000) (k : Nat) : (acts ns R W st frs k).length ≤ k * 160000200 := by
  induction k with
  | zero => simp [acts]
  | succ k ih => unfold acts; have := acW_len (frs := frs) hR hL hW hm k; rw [List.length_append]; omega
theorem OwnE.app {W w : World} {v : Value} {l m : List Ev} (h : w.ownsRow W.heap.size 110 7 v (l.length + m.length) (kH l ++ kH m)) : OwnE W w v (l ++ m) := by
  unfold OwnE; rw [evCells_app, List.length_append]; exact h
theorem OwnE.cells {W w : World} {a : Option Addr} {c : Nat} {l : List Ev} (h : OwnE W w (.slice a l.length c) l) : CellsAt w a l.length (kH l) := by
  intro hl
  obtain ⟨g, e, _, hc⟩ := qB h hl
  simp only [kY] at e
  exact ⟨g, 0, e, fun j u hj => by rw [Nat.zero_add]; exact hc j u hj⟩
theorem waitL_get {ms : List Ml} {w n : Int} {i : Nat} (hi : i < (kJ ms w n ms.length).length) : vR (jQ ms w n) i = xJ (xX ms (jD (kJ ms w n ms.length) i).toNat) := by
  unfold jQ vR
  rw [List.getD, List.getElem?_map, List.getElem?_eq_getElem hi, zP hi]
  rfl
theorem Own.form' {W w : World} {a : Option Addr} {c : Nat} {xs : List Int} (h : Own W w (.slice a xs.length c) xs) : IntsAt w a xs ∧ True := by
  obtain ⟨ad, cap, e, hi, _⟩ := h.form
  simp only [Value.slice.injEq] at e
  rw [e.1]
  exact ⟨hi, trivial⟩
theorem ractions_any {rb : Nat} {x : RV} {ns : List Nd} {R W : Nat} {D : Nat → Nat → Int} {st : RSt} (frs : Nat → Nat → List Tm) (w : World) (hR : RRead w rb x ns R W D st) (hm : st.mails.length ≤ 20000000) (hfl : ∀ a b, (frs a b).length ≤ 100)
    (hfr : ∀ a b : Nat, a < W → b < ns.length → ∀ w' : World, RRead w' rb x ns R W D st → Calls Tryz.prog 39 #[.pointer (some ⟨rb, 0, none⟩), .int .i64 (a : Int), .int .i64 (b : Int)] w' fun e w2 => ∃ v, e = .returned (.tuple #[v, .int .i64 0]) ∧ OwnT w' w2 v (frs a b) ∧ Bw w' w2) :
    Calls Tryz.prog 23 #[.pointer (some ⟨rb, 0, none⟩)] w fun en w' => ∃ v, en = .returned v ∧ OwnE w w' v (acts ns R W st frs W) ∧ Bw w w' := by
  obtain ⟨s1, s2, s3, s4, s5⟩ := hR.small
  have hll := hR.few.2.2.1
  have HR := qJ hR
  have Hfr := qJ hfr
  have HAl := qJ (fun k => acts_len (frs := frs) s2 s1 s3 hm k)
  clear hR hfr
  go_enter Tryz.func23, Tryz.ntmps23
  go_wp2_with fail
  go_loopw [3, 4] (fun v i wr => ∃ a : Nat, a ≤ W ∧ i = .int .i64 a ∧ OwnE w wr v (acts ns R W st frs a) ∧ Bw w wr) (fun _ i _ => W - (intOf i).toNat)
  case atStart => exact ⟨0, Nat.zero_le _, rfl, OwnE.nil _ _, Bw.refl _⟩
  case round =>
    obtain ⟨a, ha, rfl, hown, hB⟩ := hrel
    rename World => wr
    have c2 := ((qK HR).below hB).c2
    have hlt0 := ((qK HR).below hB).lt
    have hal := (qK HAl) a
    by_cases hlt : a < W
    · have ha1 : (a : Int) < (W : Int) := by omega
      have HN : Hid (acts ns R W st frs (a + 1) = acts ns R W st frs a ++ acW ns R W st frs a) := qJ rfl
      have HW : Hid (acW ns R W st frs a = wkN (fun n => jQ st.mails a n) a ns.length ++ waN ns st.evs (frs a) R a ns.length ++ teX st.log st.told a W) := qJ rfl
      generalize acts ns R W st frs a = A0 at *
      have Hown := qJ hown
      clear hown
      go_wp2_with fail
      go_loopw [3, 5] (fun v i wi => ∃ n : Nat, n ≤ ns.length ∧ i = .int .i64 n ∧ OwnE w wi v (A0 ++ wkN (fun n => jQ st.mails a n) a n) ∧ Bw w wi) (fun _ i _ => ns.length - (intOf i).toNat)
      case atStart => exact ⟨0, Nat.zero_le _, rfl, by rw [wkN, List.append_nil]; exact qK Hown, hB⟩
      case round =>
        clear Hown c2 hlt0 hB
        obtain ⟨n, hn, rfl, hown, hB⟩ := hrel
        rename World => wi
        have hR2 := (qK HR).below hB
        have c0 := hR2.c0
        have hlt0 := hR2.lt
        have hwl := wkN_len (f := fun n => jQ st.mails a n) (w := a) (fun n => Nat.le_trans (waitL_len' st.mails a n) hm) n
        have hwl2 : n * 20000000 ≤ 8 * 20000000 := Nat.mul_le_mul (by omega) (Nat.le_refl _)
        by_cases hltn : n < ns.length
        · have hn1 : (n : Int) < (ns.length : Int) := by omega
          have Hw := qJ (rwaits_any (a : Int) (n : Int) wi hR2)
          have Hn1 : Hid (wkN (fun n => jQ st.mails a n) a (n + 1) = wkN (fun n => jQ st.mails a n) a n ++ wkTo a n (jQ st.mails a n) (jQ st.mails a n).length) := qJ rfl
          have hll := waitL_len' st.mails a n
          have Hwe : Hid (jQ st.mails a n = (kJ st.mails a n st.mails.length).map fun z => xJ (xX st.mails z.toNat)) := qJ rfl
          have Hmem := qJ (@waitTo_mem st.mails a n st.mails.length)
          have hlA : (A0 ++ wkN (fun n => jQ st.mails a n) a n).length + 20000000 ≤ 1000000000 := by rw [List.length_append]; omega
          have Hgl : Hid (∀ i, i < (kJ st.mails a n st.mails.length).length → vR (jQ st.mails a n) i = xJ (xX st.mails (jD (kJ st.mails a n st.mails.length) i).toNat)) := qJ (fun i hi => waitL_get hi)
          have hwtl : (jQ st.mails a n).length = (kJ st.mails a n st.mails.length).length := by unfold jQ; rw [List.length_map]
          obtain ⟨A1, hA1⟩ : ∃ A1, A0 ++ wkN (fun n => jQ st.mails a n) a n = A1 := ⟨_, rfl⟩
          rw [hA1] at hlA hown
          have HA1 := qJ hA1
          rw [hwtl] at Hn1 hll
          generalize jQ st.mails a n = wl at *
          generalize kJ st.mails a n st.mails.length = al at *
          have Hown := qJ hown
          clear hA1 hown hwtl hR2 hwl hwl2
          go_wp2_with fail
          refine (qK Hw).mono ?_
          rintro en w2 ⟨va, rfl, hoa, hb2⟩
          obtain ⟨aa, ac, hve⟩ : ∃ aa ac, va = .slice aa al.length ac := ⟨_, _, qV (n := al.length) (by simpa [Own] using hoa)⟩
          subst hve
          have Hoa := qJ hoa
          clear hoa Hw c0 hlt0
          go_wp2_with fail
          go_loopw [3, 7] (fun v j wk => ∃ i : Nat, i ≤ al.length ∧ j = .int .i64 i ∧ OwnE w wk v (A1 ++ wkTo a n wl i) ∧ Own wi wk (.slice aa al.length ac) al ∧ Bw w wk) (fun _ j _ => al.length - (intOf j).toNat)
          case atStart => exact ⟨0, Nat.zero_le _, rfl, by rw [wkTo, List.append_nil]; exact (qK Hown).bw hb2, qK Hoa, hB.trans hb2⟩
          case round =>
            clear Hoa Hown hb2
            obtain ⟨i, hi, rfl, hown, hoa, hBk⟩ := hrel
            rename World => wk
            have hkl := wkTo_len a n wl i
            have hR2 := (qK HR).below hBk
            have c3 := hR2.c3
            have hlt0 := hR2.lt
            have hml := hR2.mails
            clear hR2
            by_cases hlti : i < al.length
            · have hi1 : (i : Int) < (al.length : Int) := by omega
              obtain ⟨z, hz, hzl⟩ := (qK Hmem) _ (nth_mem hlti)
              have Hg2 := qJ ((qK Hgl) i hlti)
              rw [hz, Int.toNat_natCast] at Hg2
              obtain ⟨ib, ioff, rfl, hib, hic⟩ := (hoa.form'.1) i hlti
              have i0 := hic i hlti
              rw [hz] at i0
              obtain ⟨mb, moff, me, hmb, hmc⟩ := hml z hzl
              obtain ⟨m0, m1, m2, m3, m4, m5⟩ := hmc z hzl
              rw [me] at c3
              have hz1 : (z : Int) < (st.mails.length : Int) := by omega
              have Hx : Hid (wkTo a n wl (i + 1) = wkTo a n wl i ++ [⟨1, a, n, i, (vR wl i).node, (vR wl i).epoch, (vR wl i).value⟩]) := qJ rfl
              rw [qK Hg2] at Hx
              simp only [xJ] at Hx
              generalize xX st.mails z = y at *
              obtain ⟨A2, hA2⟩ : ∃ A2, A1 ++ wkTo a n wl i = A2 := ⟨_, rfl⟩
              have hA2l : A2.length + 1 ≤ 1000000000 := by rw [← hA2, List.length_append]; omega
              rw [hA2] at hown
              have HA2 := qJ hA2
              have Hoa := qJ hoa
              clear hA2 hoa hml hmc hic Hg2
              obtain ⟨va, vc, hve⟩ := hown.val
              subst hve
              go_wp2_with fail
              go_region
              go_wp2_with (at_builtin; refine appL _ rfl _ _ _ 110 rfl _ 7 56 Tryz.infoEvent Tryz.underlying56 rfl (by decide) w.heap.size (.slice va A2.length vc) A2.length (kH A2) rfl (hown.bw (by repeat first|exact br _|assumption|apply bd|apply bn|apply ba|refine bt ?_ (by assumption))) _ _ (Ev.cells ⟨1, a, n, i, y.epoch, y.round, y.value⟩) rfl rfl (fun j u hj => qQ (qY _ _ (by simp)) (by simpa [Ev.cells] using hj)) (ev_one _) (by omega) (by omega) (Bw.size (show Bw w _ from (by repeat first|exact br _|assumption|apply bd|apply bn|apply ba|refine bt ?_ (by assumption)))) ?_; intro g' cap w9 ho9 hg9 hl9)
              go_roundw
              case rel => exact ⟨i + 1, by omega, by go_num, by rw [qK Hx, ← List.append_assoc, qK HA2]; exact OwnE.snoc ho9, kQ (hown.bw (show Bw wk _ from (by repeat first|exact br _|assumption|apply bd|apply bn|apply ba|refine bt ?_ (by assumption)))) hg9 ((qK Hoa).bw (show Bw wk _ from (by repeat first|exact br _|assumption|apply bd|apply bn|apply ba|refine bt ?_ (by assumption)))) (by decide), yK (hown.bw (show Bw wk _ from (by repeat first|exact br _|assumption|apply bd|apply bn|apply ba|refine bt ?_ (by assumption)))) hg9 (hBk.trans (show Bw wk _ from (by repeat first|exact br _|assumption|apply bd|apply bn|apply ba|refine bt ?_ (by assumption)))) (Nat.le_refl _)⟩
              case measure => simp [intOf]; omega
            · have hii : i = al.length := by omega
              have hi1 : ¬ (i : Int) < (al.length : Int) := by omega
              have HoN := qJ (show OwnE w wk _ (A0 ++ wkN (fun n => jQ st.mails a n) a (n + 1)) from by rw [qK Hn1, ← List.append_assoc, qK HA1, ← hii]; exact hown)
              clear hown hoa hml
              go_wp2_with fail
              go_roundw
              case rel => exact ⟨n + 1, by omega, by go_num, qK HoN, hBk⟩
              case measure => simp [intOf]; omega
        · have hnn : n = ns.length := by omega
          have hn1 : ¬ (n : Int) < (ns.length : Int) := by omega
          subst hnn
          have hlA : (A0 ++ wkN (fun n => jQ st.mails a n) a ns.length).length ≤ 900000000 := by rw [List.length_append]; omega
          obtain ⟨A1, hA1⟩ : ∃ A1, A0 ++ wkN (fun n => jQ st.mails a n) a ns.length = A1 := ⟨_, rfl⟩
          rw [hA1] at hown hlA
          have HA1 := qJ hA1
          have Hown := qJ hown
          clear hA1 hown hR2 hwl hwl2
          go_wp2_with fail
          go_loopw [3, 9] (fun v i wi => ∃ n : Nat, n ≤ ns.length ∧ i = .int .i64 n ∧ OwnE w wi v (A1 ++ waN ns st.evs (frs a) R a n) ∧ Bw w wi) (fun _ i _ => ns.length - (intOf i).toNat)
          case atStart => exact ⟨0, Nat.zero_le _, rfl, by rw [waN, List.append_nil]; exact qK Hown, hB⟩
          case round =>
            clear Hown c0 hlt0 hB
            obtain ⟨n, hn, rfl, hown, hB⟩ := hrel
            rename World => wi
            have hR2 := (qK HR).below hB
            have c0 := hR2.c0
            have hlt0 := hR2.lt
            have hnd := hR2.nodes
            have hwl := waN_len ns st.evs (frs a) R a s2 n
            by_cases hltn : n < ns.length
            · have hn1 : (n : Int) < (ns.length : Int) := by omega
              have Hw := qJ (rwanted_any (frs a n) a n wi hR2 (hfl a n) ((qK Hfr) a n hlt hltn))
              have Hn1 : Hid (waN ns st.evs (frs a) R a (n + 1) = if (qT ns n).kind == 6 then waN ns st.evs (frs a) R a n ++ waE st.evs (frs a n) R a n 6 else waN ns st.evs (frs a) R a n) := qJ rfl
              have hwe := waE_len st.evs (frs a n) R a n 6
              obtain ⟨nb, noff, ne, hnb, hnc⟩ := hnd n hltn
              obtain ⟨d0, d1, d2, d3, d4⟩ := hnc n hltn
              rw [ne] at c0
              clear hR2 hnd hnc ne
              cases h6 : ((qT ns n).kind == 6) with
              | false =>
                have Hs : Hid (waN ns st.evs (frs a) R a (n + 1) = waN ns st.evs (frs a) R a n) := qJ (by rw [qK Hn1, h6]; rfl)
                have Hown := qJ hown
                clear hown Hn1 Hw
                generalize qT ns n = y at *
                go_wp2_with fail
                go_roundw
                case rel => exact ⟨n + 1, by omega, by go_num, by rw [qK Hs]; exact qK Hown, hB⟩
                case measure => simp [intOf]; omega
              | true =>
                have Hs : Hid (waN ns st.evs (frs a) R a (n + 1) = waN ns st.evs (frs a) R a n ++ waE st.evs (frs a n) R a n 6) := qJ (by rw [qK Hn1, h6]; rfl)
                obtain ⟨A2, hA2⟩ : ∃ A2, A1 ++ waN ns st.evs (frs a) R a n = A2 := ⟨_, rfl⟩
                have hA2l : A2.length ≤ 950000000 := by rw [← hA2, List.length_append]; omega
                rw [hA2] at hown
                have HA2 := qJ hA2
                have Hown := qJ hown
                obtain ⟨va, vc, hve⟩ := hown.val
                subst hve
                clear hA2 hown Hn1
                generalize waE st.evs (frs a n) R a n 6 = B2 at *
                generalize qT ns n = y at *
                have hB2l : B2.length ≤ 24 := by omega
                go_wp2_with fail
                refine (qK Hw).mono ?_
                rintro en w2 ⟨vb, rfl, hob, hb2⟩
                obtain ⟨ba, bc, hve⟩ := hob.val
                subst hve
                have Hob := qJ hob
                clear hob Hw
                go_wp2_with (at_builtin; refine appG _ rfl _ _ _ 110 rfl _ 7 56 Tryz.infoEvent Tryz.underlying56 rfl (by decide) w.heap.size (.slice va A2.length vc) A2.length (kH A2) rfl ((qK Hown).bw (hb2.trans (show Bw w2 _ from (by repeat first|exact br _|assumption|apply bd|apply bn|apply ba|refine bt ?_ (by assumption))))) _ B2.length _ (kH B2) rfl (evCells_len B2) (OwnE.cells (qK Hob)) (evs_one B2) (by omega) (by omega) (Bw.size (hB.trans hb2)) ?_; intro v9 w9 ho9 hg9 hl9; obtain ⟨ea, ec, hee⟩ : ∃ ea ec, v9 = .slice ea (A2.length + B2.length) ec := ⟨_, _, qV ho9⟩; subst hee)
                go_roundw
                case rel => exact ⟨n + 1, by omega, by go_num, by rw [qK Hs, ← List.append_assoc, qK HA2]; exact OwnE.app ho9, yK ((qK Hown).bw (hb2.trans (show Bw w2 _ from (by repeat first|exact br _|assumption|apply bd|apply bn|apply ba|refine bt ?_ (by assumption))))) hg9 (hB.trans (hb2.trans (show Bw w2 _ from (by repeat first|exact br _|assumption|apply bd|apply bn|apply ba|refine bt ?_ (by assumption))))) (Nat.le_refl _)⟩
                case measure => simp [intOf]; omega
            · have hnn : n = ns.length := by omega
              have hn1 : ¬ (n : Int) < (ns.length : Int) := by omega
              subst hnn
              have hlA2 : (A1 ++ waN ns st.evs (frs a) R a ns.length).length ≤ 950000000 := by rw [List.length_append]; omega
              obtain ⟨A2, hA2⟩ : ∃ A2, A1 ++ waN ns st.evs (frs a) R a ns.length = A2 := ⟨_, rfl⟩
              rw [hA2] at hown hlA2
              have HA2 := qJ hA2
              have Hown := qJ hown
              clear hA2 hown hR2 hwl hnd
              go_wp2_with fail
              go_loopw [3, 11] (fun v i wi => ∃ y : Nat, y ≤ W ∧ i = .int .i64 y ∧ OwnE w wi v (A2 ++ teX st.log st.told a y) ∧ Bw w wi) (fun _ i _ => W - (intOf i).toNat)
              case atStart => exact ⟨0, Nat.zero_le _, rfl, by rw [teX, List.append_nil]; exact qK Hown, hB⟩
              case round =>
                clear Hown c0 hlt0 hB
                obtain ⟨y, hy, rfl, hown, hB⟩ := hrel
                rename World => wi
                have hR2 := (qK HR).below hB
                have c2 := hR2.c2
                have hlt0 := hR2.lt
                have hwl := teX_len st.log st.told a y
                by_cases hlty : y < W
                · have hy1 : (y : Int) < (W : Int) := by omega
                  have Hn1 : Hid (teX st.log st.told a (y + 1) = if teB st.log st.told a y then teX st.log st.told a y ++ [⟨3, a, 0, y, 0, 0, 0⟩] else teX st.log st.told a y) := qJ rfl
                  have Hd : Hid (teB st.log st.told a y = (((y : Int) != (a : Int)) && decide (st.told a y < (zK st.log y st.log.length : Nat)))) := qJ rfl
                  have Hown := qJ hown
                  clear hown hR2
                  go_wp2_with fail
                  go_loopw [12, 13] (fun c j wj => ∃ i : Nat, i ≤ st.log.length ∧ j = .int .i64 i ∧ c = .int .i64 (zK st.log y i : Nat) ∧ Bw wi wj) (fun _ j _ => st.log.length - (intOf j).toNat)
                  case atStart => exact ⟨0, Nat.zero_le _, rfl, rfl, Bw.refl _⟩
                  case round =>
                    obtain ⟨i, hi, rfl, rfl, hBj⟩ := hrel
                    rename World => wj
                    have hR3 := (qK HR).below (hB.trans hBj)
                    have c4 := hR3.c4
                    have hlt3 := hR3.lt
                    have hlg := hR3.log
                    have hcl := cnTo_le st.log y i
                    by_cases hlti : i < st.log.length
                    · have hi1 : (i : Int) < (st.log.length : Int) := by omega
                      obtain ⟨lb, loff, le, hlb, hlc⟩ := hlg i hlti
                      obtain ⟨l0, pa, pc, l1, _⟩ := hlc i hlti
                      rw [le] at c4
                      have Hc : Hid (zK st.log y (i + 1) = if (jF st.log i).worker == (y : Int) then zK st.log y i + 1 else zK st.log y i) := qJ rfl
                      clear hR3 hlg hlc Hd Hn1
                      generalize jF st.log i = cc at *
                      generalize hcv : zK st.log y (i + 1) = cv at Hc
                      have Hcv := qJ hcv
                      clear hcv
                      generalize zK st.log y i = c0v at *
                      cases hw : (cc.worker == (y : Int)) with
                      | false =>
                        have Hc2 : Hid (cv = c0v) := qJ (by rw [qK Hc, hw]; rfl)
                        clear Hc
                        go_wp2_with fail
                        go_roundw
                        case rel => exact ⟨i + 1, by omega, by go_num, by rw [qK Hcv, qK Hc2], hBj⟩
                        case measure => simp [intOf]; omega
                      | true =>
                        have Hc2 : Hid (cv = c0v + 1) := qJ (by rw [qK Hc, hw]; rfl)
                        clear Hc
                        go_wp2_with fail
                        go_roundw
                        case rel => exact ⟨i + 1, by omega, by go_num, by rw [qK Hcv, qK Hc2]; go_num, hBj⟩
                        case measure => simp [intOf]; omega
                    · have hii : i = st.log.length := by omega
                      have hi1 : ¬ (i : Int) < (st.log.length : Int) := by omega
                      subst hii
                      have c7 := hR3.c7
                      obtain ⟨tb, toff, te, htb, pb, poff, pc, t1, hpb, htc⟩ := hR3.told a hlt
                      have t2 := htc y hlty
                      rw [te] at c7
                      have Hown2 := qJ ((qK Hown).bw hBj)
                      have hBw : Bw w wj := hB.trans hBj
                      clear hR3 hlg htc Hown
                      generalize zK st.log y st.log.length = cn at *
                      cases hya : ((y : Int) != (a : Int)) with
                      | false =>
                        have Hs := qJ (show teX st.log st.told a (y + 1) = teX st.log st.told a y from by rw [qK Hn1, qK Hd, hya]; rfl)
                        clear Hn1 Hd
                        have hya2 : (y : Int) = (a : Int) := by simpa using hya
                        have hya3 : y = a := by omega
                        subst hya3
                        go_wp2_with fail
                        go_roundw
                        case rel => exact ⟨y + 1, by omega, by go_num, by rw [qK Hs]; exact qK Hown2, hBw⟩
                        case measure => simp [intOf]; omega
                      | true =>
                        have hya2 : ¬ (y : Int) = (a : Int) := by simpa using hya
                        have hya3 : ¬ y = a := by omega
                        by_cases htl : st.told a y < (cn : Int)
                        · have Hs := qJ (show teX st.log st.told a (y + 1) = teX st.log st.told a y ++ [⟨3, a, 0, y, 0, 0, 0⟩] from by rw [qK Hn1, qK Hd, hya]; simp [htl])
                          obtain ⟨A3, hA3⟩ : ∃ A3, A2 ++ teX st.log st.told a y = A3 := ⟨_, rfl⟩
                          have hA3l : A3.length + 1 ≤ 1000000000 := by rw [← hA3, List.length_append]; omega
                          rw [hA3] at Hown2
                          have HA3 := qJ hA3
                          clear hA3 Hn1 Hd
                          obtain ⟨va, vc, hve⟩ := (qK Hown2).val
                          subst hve
                          generalize st.told a y = tv at *
                          go_wp2_with (at_builtin; refine appL _ rfl _ _ _ 110 rfl _ 7 56 Tryz.infoEvent Tryz.underlying56 rfl (by decide) w.heap.size (.slice va A3.length vc) A3.length (kH A3) rfl ((qK Hown2).bw (by repeat first|exact br _|assumption|apply bd|apply bn|apply ba|refine bt ?_ (by assumption))) _ _ (Ev.cells ⟨3, a, 0, y, 0, 0, 0⟩) rfl rfl (fun j u hj => qQ (qY _ _ (by simp)) (by simpa [Ev.cells] using hj)) (ev_one _) (by omega) (by omega) (Bw.size (show Bw w _ from (by repeat first|exact br _|assumption|apply bd|apply bn|apply ba|refine bt ?_ (by assumption)))) ?_; intro g' cap w9 ho9 hg9 hl9)
                          go_roundw
                          case rel => exact ⟨y + 1, by omega, by go_num, by rw [qK Hs, ← List.append_assoc, qK HA3]; exact OwnE.snoc ho9, yK ((qK Hown2).bw (show Bw wj _ from (by repeat first|exact br _|assumption|apply bd|apply bn|apply ba|refine bt ?_ (by assumption)))) hg9 (hBw.trans (show Bw wj _ from (by repeat first|exact br _|assumption|apply bd|apply bn|apply ba|refine bt ?_ (by assumption)))) (Nat.le_refl _)⟩
                          case measure => simp [intOf]; omega
                        · have Hs := qJ (show teX st.log st.told a (y + 1) = teX st.log st.told a y from by rw [qK Hn1, qK Hd, hya]; simp [htl])
                          clear Hn1 Hd
                          generalize st.told a y = tv at *
                          go_wp2_with fail
                          go_roundw
                          case rel => exact ⟨y + 1, by omega, by go_num, by rw [qK Hs]; exact qK Hown2, hBw⟩
                          case measure => simp [intOf]; omega
                · have hyy : y = W := by omega
                  have hy1 : ¬ (y : Int) < (W : Int) := by omega
                  have HoN := qJ (show OwnE w wi _ (acts ns R W st frs (a + 1)) from by rw [qK HN, qK HW, ← List.append_assoc, ← List.append_assoc, qK HA1, qK HA2, ← hyy]; exact hown)
                  clear hown hR2
                  go_wp2_with fail
                  go_roundw
                  case rel => exact ⟨a + 1, by omega, by go_num, qK HoN, hB⟩
                  case measure => simp [intOf]; omega
    · have haa : a = W := by omega
      subst haa
      go_wp2_with fail
      go_ret
      exact ⟨_, rfl, hown, hB⟩
end Go.Proofs.YtfemleimkbjehaaGreat
