import Derived.Test.YtfemleimkbjehaaJ15
import Derived.Test.YtfemleimkbjehaaJ3
import Derived.Test.YtfemleimkbjehaaJ7
set_option maxRecDepth 1000000
set_option maxHeartbeats 40000000
set_option linter.unusedVariables false
set_option linter.unusedSimpArgs false
namespace Go.Proofs.Ytfemleimkbjehaa
open Go.RowKit
theorem freeTo_hit {fr : List Tm} {e s i : Nat} (h : upB (nB fr i) e s = true) : ∀ k, i < k → zC fr e s k = false := by
  intro k hk
  induction k with
  | zero => omega
  | succ k ih =>
    unfold zC
    by_cases e2 : i = k
    · subst e2; rw [h]; simp
    · rw [ih (by omega)]; rfl
theorem freeTo_no {fr : List Tm} {e s i : Nat} (h : zC fr e s i = true) (h2 : upB (nB fr i) e s = false) : zC fr e s (i + 1) = true := by rw [zC, h, h2]; rfl
set_option maxRecDepth 100000 in
set_option maxHeartbeats 4000000 in
theorem phasUp_any (fr : List Tm) (fa : Option Addr) (fc e s : Nat) (w : World) (hf : TmsAt w fa fr) (hl : fr.length ≤ 1000) :
    Calls Try.prog 144 #[.slice fa fr.length fc, .agg #[.int .i64 (e : Int), .int .i64 (s : Int)]] w fun en w' => en = .returned (.bool (!zC fr e s fr.length)) ∧ Bw w w' := by
  go_enter Try.func144, Try.ntmps144
  go_wp2_with fail
  go_loopw [9] (fun i wr => ∃ k : Nat, k ≤ fr.length ∧ i = .int .i64 k ∧ zC fr e s k = true ∧ Bw w wr ∧ wr.heap[w.heap.size]? = some (.cells #[.int .i64 (e : Int), .int .i64 (s : Int)] 75 (0, 0))) (fun i _ => fr.length - (intOf i).toNat)
  case atStart => exact ⟨0, Nat.zero_le _, rfl, rfl, (by repeat first|exact br _|assumption|apply bd|apply bn|apply ba|refine bt ?_ (by assumption)), heap_alloc_new w _⟩
  case round =>
    obtain ⟨k, hk, rfl, hno, hB, hbx⟩ := hrel
    rename World => wr
    have Hbx := qJ hbx
    have t0 := qQ (o := 0) hbx rfl
    have t1 := qQ (o := 1) hbx rfl
    have tl0 := (Array.getElem?_eq_some_iff.1 hbx).1
    clear hbx
    by_cases hlt : k < fr.length
    · have hk1 : (k : Int) < (fr.length : Int) := by omega
      obtain ⟨fb, foff, rfl, hfb, hfc⟩ := (hf.below hB) k hlt
      obtain ⟨f0, f1⟩ := hfc k hlt
      have Hno := qJ (@freeTo_no fr e s k hno)
      have Hyes := qJ (fun h => @freeTo_hit fr e s k h fr.length hlt)
      have Hup : Hid (upB (nB fr k) e s = (decide ((nB fr k).e ≤ (e : Int)) && decide ((nB fr k).s ≤ (s : Int)))) := qJ rfl
      generalize hup : upB (nB fr k) e s = ub at Hup Hno Hyes
      generalize hff : zC fr e s fr.length = ff at Hyes
      have Hff := qJ hff
      generalize nB fr k = a at *
      clear hup hfc hff
      by_cases q1 : a.e ≤ (e : Int)
      · by_cases q2 : a.s ≤ (s : Int)
        · have Hs := qJ ((qK Hyes) (by rw [qK Hup]; simp [q1, q2]))
          clear Hno Hyes Hup
          go_wp2_with fail
          go_ret
          exact ⟨ret_bool (by rw [qK Hff, qK Hs]; rfl), (by repeat first|exact br _|assumption|apply bd|apply bn|apply ba|refine bt ?_ (by assumption))⟩
        · have Hs := qJ ((qK Hno) (by rw [qK Hup]; simp [q2]))
          clear Hno Hyes Hup
          go_wp2_with fail
          go_roundw
          case rel => exact ⟨k + 1, by omega, by go_num, qK Hs, (by repeat first|exact br _|assumption|apply bd|apply bn|apply ba|refine bt ?_ (by assumption)), (Below.block (show Bw wr _ from (by repeat first|exact br _|assumption|apply bd|apply bn|apply ba|refine bt ?_ (by assumption))) _ tl0).trans (qK Hbx)⟩
          case measure => simp [intOf]; omega
      · have Hs := qJ ((qK Hno) (by rw [qK Hup]; simp [q1]))
        clear Hno Hyes Hup
        go_wp2_with fail
        go_roundw
        case rel => exact ⟨k + 1, by omega, by go_num, qK Hs, (by repeat first|exact br _|assumption|apply bd|apply bn|apply ba|refine bt ?_ (by assumption)), (Below.block (show Bw wr _ from (by repeat first|exact br _|assumption|apply bd|apply bn|apply ba|refine bt ?_ (by assumption))) _ tl0).trans (qK Hbx)⟩
        case measure => simp [intOf]; omega
    · have hkk : k = fr.length := by omega
      subst hkk
      go_wp2_with fail
      go_ret
      exact ⟨ret_bool (by rw [hno]; rfl), hB⟩
def tmS (wn : Nat → Bool) (e : Nat) : Nat → List Tm
  | 0 => []
  | s + 1 => if wn (e * 4 + s) then tmS wn e s ++ [⟨e, s⟩] else tmS wn e s
def mG (wn : Nat → Bool) : Nat → List Tm
  | 0 => []
  | e + 1 => mG wn e ++ tmS wn e 4
theorem tmS_len (wn : Nat → Bool) (e s : Nat) : (tmS wn e s).length ≤ s := by
  induction s with
  | zero => simp [tmS]
  | succ s ih => unfold tmS; split <;> (try simp) <;> omega
theorem dV (wn : Nat → Bool) (e : Nat) : (mG wn e).length ≤ e * 4 := by
  induction e with
  | zero => simp [mG]
  | succ e ih => unfold mG; have := tmS_len wn e 4; rw [List.length_append]; omega
set_option maxRecDepth 100000 in
set_option maxHeartbeats 4000000 in
theorem ptimes_any (wn : Nat → Bool) (B o : Nat) (w : World) (hB0 : B < w.heap.size) (hw : ∀ k, k < 24 → w.cell? ⟨B, o + k, none⟩ = some (.bool (wn k))) :
    Calls Try.prog 143 #[.pointer (some ⟨B, o, none⟩)] w fun en w' => ∃ v, en = .returned v ∧ OwnT w w' v (mG wn 6) ∧ Bw w w' := by
  have Hw := qJ hw
  clear hw
  go_enter Try.func143, Try.ntmps143
  go_wp2_with fail
  go_loopw [3, 4] (fun v i wr => ∃ e : Nat, e ≤ 6 ∧ i = .int .i64 e ∧ OwnT w wr v (mG wn e) ∧ Bw w wr) (fun _ i _ => 6 - (intOf i).toNat)
  case atStart => exact ⟨0, Nat.zero_le _, rfl, OwnT.nil _ _, Bw.refl _⟩
  case round =>
    obtain ⟨e, he, rfl, hown, hB⟩ := hrel
    rename World => wr
    have hlE := dV wn e
    by_cases hlt : e < 6
    · have he1 : (e : Int) ≤ 5 := by omega
      have he2 : (e : Int) < 6 := by omega
      have Hown := qJ hown
      clear hown
      go_wp2_with fail
      go_loopw [3, 5] (fun v j wi => ∃ s : Nat, s ≤ 4 ∧ j = .int .i64 s ∧ OwnT w wi v (mG wn e ++ tmS wn e s) ∧ Bw w wi) (fun _ j _ => 4 - (intOf j).toNat)
      case atStart => exact ⟨0, Nat.zero_le _, rfl, by rw [tmS, List.append_nil]; exact qK Hown, hB⟩
      case round =>
        obtain ⟨s, hs, rfl, hown, hBi⟩ := hrel
        rename World => wi
        have hlS := tmS_len wn e s
        have lt0 : B < wi.heap.size := Nat.lt_of_lt_of_le hB0 hBi.size
        by_cases hlts : s < 4
        · have hs1 : (s : Int) < 4 := by omega
          have cw := ((qX hBi).1 _ _ hB0).trans ((qK Hw) (e * 4 + s) (by omega))
          rw [← Nat.add_assoc] at cw
          have Hn1 : Hid (tmS wn e (s + 1) = if wn (e * 4 + s) then tmS wn e s ++ [⟨e, s⟩] else tmS wn e s) := qJ rfl
          generalize wn (e * 4 + s) = b at *
          obtain ⟨A1, hA1⟩ : ∃ A1, mG wn e ++ tmS wn e s = A1 := ⟨_, rfl⟩
          have hA1l : A1.length ≤ 1000 := by rw [← hA1, List.length_append]; omega
          rw [hA1] at hown
          have HA1 := qJ hA1
          clear hA1
          cases b with
          | false =>
            have Hs : Hid (tmS wn e (s + 1) = tmS wn e s) := qJ (by rw [qK Hn1]; rfl)
            go_wp2_with fail
            go_roundw
            case rel => exact ⟨s + 1, by omega, by go_num, by rw [qK Hs, qK HA1]; exact hown, hBi⟩
            case measure => simp [intOf]; omega
          | true =>
            have Hs : Hid (tmS wn e (s + 1) = tmS wn e s ++ [⟨e, s⟩]) := qJ (by rw [qK Hn1]; rfl)
            obtain ⟨va, vc, hve⟩ : ∃ va vc, _ = Value.slice va A1.length vc := ⟨_, _, qW hown⟩
            subst hve
            go_wp2_with (at_builtin; refine appL _ rfl _ _ _ 75 rfl _ 2 16 Try.infoTime Try.underlying78 rfl (by decide) w.heap.size (.slice va A1.length vc) A1.length (vH A1) rfl (hown.bw (by repeat first|exact br _|assumption|apply bd|apply bn|apply ba|refine bt ?_ (by assumption))) _ _ (Tm.cells ⟨e, s⟩) rfl rfl (fun j u hj => qQ (qN _ _ (by simp)) (by simpa [Tm.cells] using hj)) (tm_one _) (by omega) (by omega) (Bw.size (show Bw w _ from (by repeat first|exact br _|assumption|apply bd|apply bn|apply ba|refine bt ?_ (by assumption)))) ?_; intro g' cap w9 ho9 hg9 hl9)
            go_roundw
            case rel => exact ⟨s + 1, by omega, by go_num, by rw [qK Hs, ← List.append_assoc, qK HA1]; exact OwnT.snoc ho9, tD (hown.bw (show Bw wi _ from (by repeat first|exact br _|assumption|apply bd|apply bn|apply ba|refine bt ?_ (by assumption)))) hg9 (hBi.trans (show Bw wi _ from (by repeat first|exact br _|assumption|apply bd|apply bn|apply ba|refine bt ?_ (by assumption)))) (Nat.le_refl _)⟩
            case measure => simp [intOf]; omega
        · have hss : s = 4 := by omega
          subst hss
          have HoN := qJ (show OwnT w wi _ (mG wn (e + 1)) from by rw [mG]; exact hown)
          clear hown
          go_wp2_with fail
          go_roundw
          case rel => exact ⟨e + 1, by omega, by go_num, qK HoN, hBi⟩
          case measure => simp [intOf]; omega
    · have hee : e = 6 := by omega
      subst hee
      go_wp2_with fail
      go_ret
      exact ⟨_, rfl, hown, hB⟩
def wkTo (w n : Nat) (l : List Gv) : Nat → List Ev
  | 0 => []
  | i + 1 => wkTo w n l i ++ [⟨1, w, n, i, (vR l i).node, (vR l i).epoch, (vR l i).value⟩]
def wkN (f : Nat → List Gv) (w : Nat) : Nat → List Ev
  | 0 => []
  | n + 1 => wkN f w n ++ wkTo w n (f n) (f n).length
def zU (log : List Cg) (x : Nat) : Nat → Nat
  | 0 => 0
  | i + 1 => if (mC log i).worker == (x : Int) then zU log x i + 1 else zU log x i
theorem wkTo_len (w n : Nat) (l : List Gv) (k : Nat) : (wkTo w n l k).length = k := by
  induction k with
  | zero => rfl
  | succ k ih => rw [wkTo, List.length_append, ih]; rfl
theorem cnTo_le (log : List Cg) (x k : Nat) : zU log x k ≤ k := by
  induction k with
  | zero => simp [zU]
  | succ k ih => unfold zU; split <;> omega
theorem waitL_len' (ms : List Ml) (w n : Int) : (vD ms w n).length ≤ ms.length := by
  unfold vD
  rw [List.length_map]
  exact waitTo_len ms w n _
theorem OwnE.app {W w : World} {v : Value} {l m : List Ev} (h : w.ownsRow W.heap.size 120 7 v (l.length + m.length) (jG l ++ jG m)) : OwnE W w v (l ++ m) := by
  unfold OwnE; rw [evCells_app, List.length_append]; exact h
theorem OwnE.cells {W w : World} {a : Option Addr} {c : Nat} {l : List Ev} (h : OwnE W w (.slice a l.length c) l) : CellsAt w a l.length (jG l) := by
  intro hl
  obtain ⟨g, e, _, hc⟩ := vT h hl
  simp only [yQ] at e
  exact ⟨g, 0, e, fun j u hj => by rw [Nat.zero_add]; exact hc j u hj⟩
theorem waitL_get {ms : List Ml} {w n : Int} {i : Nat} (hi : i < (kS ms w n ms.length).length) : vR (vD ms w n) i = lB (rS ms (kC (kS ms w n ms.length) i).toNat) := by
  unfold vD vR
  rw [List.getD, List.getElem?_map, List.getElem?_eq_getElem hi, jL hi]
  rfl
def vG (f : Nat → List Gv) : Nat → Nat
  | 0 => 0
  | n + 1 => vG f n + (f n).length
theorem gD {f : Nat → List Gv} {B : Nat} (h : ∀ n, (f n).length ≤ B) (k : Nat) : vG f k ≤ k * B := by
  induction k with
  | zero => simp [vG]
  | succ k ih => unfold vG; have := h k; rw [Nat.add_mul]; omega
set_option maxRecDepth 100000 in
set_option maxHeartbeats 4000000 in
theorem pcount_any {S : Nat → Prop} {pb : Nat} {x : PX} {ns : List Nd} {R W : Nat} {D : Nat → Nat → Int} {st : PSt} (i : Nat) (w : World) (hO : POwn w S pb x ns R W D st) (hi : i < W) :
    Calls Try.prog 90 #[.pointer (some ⟨pb, 0, none⟩), .int .i64 (i : Int)] w fun en w' => en = .returned (.int .i64 (vG (st.wt i) ns.length : Nat)) ∧ w' = w := by
  have h8 := hO.small
  obtain ⟨na, nc, hvn, hnd⟩ := hO.ns
  have c0 := qQ (o := 0) hO.root (hvn ▸ hO.r0)
  have c3 := qQ (o := 3) hO.root hO.r3
  have lt0 := hO.slt _ hO.sroot
  have lt1 := hO.slt _ hO.swork
  have Hq : Hid (∀ n, n < ns.length → ∃ a c, w.cell? ⟨x.wb, i * 3684 + 16 + n, none⟩ = some (.slice a (st.wt i n).length c)) := qJ (fun n hn => by
    obtain ⟨v, e, hv⟩ := hO.row.wait i n hi hn
    exact ⟨_, _, by rw [← qW hv.1]; exact qQ hO.work e⟩)
  have Hb := qJ (gD (f := st.wt i) (B := 100000000) (fun n => (hO.few.1 i n).1))
  have hi1 : (i : Int) < (W : Int) := by omega
  clear hO hnd hvn
  go_enter Try.func90, Try.ntmps90
  go_wp2_with fail
  go_loopw [5, 13] (fun c j wr => ∃ n : Nat, n ≤ ns.length ∧ j = .int .i64 n ∧ c = .int .i64 (vG (st.wt i) n : Nat) ∧ wr = w) (fun _ j _ => ns.length - (intOf j).toNat)
  case atStart => exact ⟨0, Nat.zero_le _, rfl, rfl, rfl⟩
  case round =>
    obtain ⟨n, hn, rfl, rfl, rfl⟩ := hrel
    have hb1 := (qK Hb) n
    have hb3 : n * 100000000 ≤ 8 * 100000000 := Nat.mul_le_mul (by omega) (Nat.le_refl _)
    by_cases hlt : n < ns.length
    · obtain ⟨qa, qc, hq⟩ := (qK Hq) n hlt
      have hn1 : (n : Int) < (ns.length : Int) := by omega
      have hn8 : (n : Int) < 8 := by omega
      have hb2 := (qK Hb) (n + 1)
      have hb4 : (n + 1) * 100000000 ≤ 9 * 100000000 := Nat.mul_le_mul (by omega) (Nat.le_refl _)
      have Hs : Hid (vG (st.wt i) (n + 1) = vG (st.wt i) n + (st.wt i n).length) := qJ rfl
      rw [qK Hs] at hb2
      generalize hcv : vG (st.wt i) (n + 1) = cv at Hs
      have Hcv := qJ hcv
      clear hcv
      generalize vG (st.wt i) n = c0v at *
      generalize (st.wt i n).length = ln at *
      go_wp2_with fail
      go_roundw
      case rel => exact ⟨n + 1, by omega, by go_num, by rw [qK Hcv, qK Hs]; go_num, by trivial⟩
      case measure => simp [intOf]; omega
    · have hnn : n = ns.length := by omega
      subst hnn
      go_wp2_with fail
      go_ret
      exact ⟨rfl, rfl⟩
def ptX (f : Nat → List (List Pt)) (i : Nat) : Nat → List Ev
  | 0 => []
  | k + 1 => if (f k).length = 0 then ptX f i k else ptX f i k ++ [⟨3, i, 0, k, 0, 0, 0⟩]
theorem ptX_len (f : Nat → List (List Pt)) (i k : Nat) : (ptX f i k).length ≤ k := by
  induction k with
  | zero => simp [ptX]
  | succ k ih => unfold ptX; split <;> (try simp) <;> omega
set_option maxRecDepth 100000 in
set_option maxHeartbeats 4000000 in
theorem ptells_any {S : Nat → Prop} {pb : Nat} {x : PX} {ns : List Nd} {R W : Nat} {D : Nat → Nat → Int} {st : PSt} (i : Nat) (w : World) (hO : POwn w S pb x ns R W D st) (hi : i < W) :
    Calls Try.prog 121 #[.pointer (some ⟨pb, 0, none⟩), .int .i64 (i : Int)] w fun en w' => ∃ v, en = .returned v ∧ OwnE w w' v (ptX (st.wy i) i W) ∧ Bw w w' := by
  have h8 := hO.small
  have c3 := qQ (o := 3) hO.root hO.r3
  have lt0 := hO.slt _ hO.sroot
  have lt1 := hO.slt _ hO.swork
  have Hq : Hid (∀ n, n < 4 → ∃ a c, w.cell? ⟨x.wb, i * 3684 + 3680 + n, none⟩ = some (.slice a (st.wy i n).length c)) := qJ (fun n hn => by
    obtain ⟨v, e, vs, hv, _⟩ := hO.row.way i n hi hn
    obtain ⟨a, c, hv2⟩ := hv.val
    exact ⟨a, c, by rw [← hv2]; exact qQ hO.work e⟩)
  have hfw := fun n => (hO.few.1 i n).2.2
  have hi1 : (i : Int) < (W : Int) := by omega
  have Hc3 := qJ c3
  clear hO c3
  go_enter Try.func121, Try.ntmps121
  have c3 := qK Hc3
  go_wp2_with fail
  go_loopw [5, 12] (fun v j wr => ∃ n : Nat, n ≤ W ∧ j = .int .i64 n ∧ OwnE w wr v (ptX (st.wy i) i n) ∧ Bw w wr) (fun _ j _ => W - (intOf j).toNat)
  case atStart => exact ⟨0, Nat.zero_le _, rfl, OwnE.nil _ _, Bw.refl _⟩
  case round =>
    obtain ⟨n, hn, rfl, hown, hB⟩ := hrel
    rename World => wr
    have hln := ptX_len (st.wy i) i n
    have c3r := ((qX hB).1 _ _ lt0).trans (qK Hc3)
    have lt0r : pb < wr.heap.size := Nat.lt_of_lt_of_le lt0 hB.size
    have lt1r : x.wb < wr.heap.size := Nat.lt_of_lt_of_le lt1 hB.size
    by_cases hlt : n < W
    · obtain ⟨qa, qc, hq⟩ := (qK Hq) n (by omega)
      have hqr := ((qX hB).1 _ _ lt1).trans hq
      have hn1 : (n : Int) < (W : Int) := by omega
      have hn4 : (n : Int) < 4 := by omega
      have hl1 := hfw n
      have Hs : Hid (ptX (st.wy i) i (n + 1) = if (st.wy i n).length = 0 then ptX (st.wy i) i n else ptX (st.wy i) i n ++ [⟨3, i, 0, n, 0, 0, 0⟩]) := qJ rfl
      generalize (st.wy i n).length = ln at *
      generalize hA1 : ptX (st.wy i) i n = A1 at *
      clear hA1 c3 hq
      by_cases h0 : ln = 0
      · have Hs2 := qJ (show ptX (st.wy i) i (n + 1) = A1 from by rw [qK Hs, if_pos h0])
        subst h0
        go_wp2_with fail
        go_roundw
        case rel => exact ⟨n + 1, by omega, by go_num, by rw [qK Hs2]; exact hown, hB⟩
        case measure => simp [intOf]; omega
      · have Hs2 := qJ (show ptX (st.wy i) i (n + 1) = A1 ++ [⟨3, i, 0, n, 0, 0, 0⟩] from by rw [qK Hs, if_neg h0])
        have hg0 : (0 : Int) < (ln : Int) := by omega
        obtain ⟨va, vc, hve⟩ := hown.val
        subst hve
        go_wp2_with (at_builtin; refine appL _ rfl _ _ _ 120 rfl _ 7 56 Try.infoEvent Try.underlying165 rfl (by decide) w.heap.size (.slice va A1.length vc) A1.length (jG A1) rfl (hown.bw (by repeat first|exact br _|assumption|apply bd|apply bn|apply ba|refine bt ?_ (by assumption))) _ _ (Ev.cells ⟨3, i, 0, n, 0, 0, 0⟩) rfl rfl (fun j u hj => qQ (qN _ _ (by simp)) (by simpa [Ev.cells] using hj)) (ev_one _) (by omega) (by omega) (Bw.size (show Bw w _ from (by repeat first|exact br _|assumption|apply bd|apply bn|apply ba|refine bt ?_ (by assumption)))) ?_; intro g' cap w9 ho9 hg9 hl9)
        go_roundw
        case rel => exact ⟨n + 1, by omega, by go_num, by rw [qK Hs2]; exact OwnE.snoc ho9, tD (hown.bw (show Bw wr _ from (by repeat first|exact br _|assumption|apply bd|apply bn|apply ba|refine bt ?_ (by assumption)))) hg9 (hB.trans (show Bw wr _ from (by repeat first|exact br _|assumption|apply bd|apply bn|apply ba|refine bt ?_ (by assumption)))) (Nat.le_refl _)⟩
        case measure => simp [intOf]; omega
    · have hnn : n = W := by omega
      subst hnn
      go_wp2_with fail
      go_ret
      exact ⟨_, rfl, hown, hB⟩
def pnT (i n : Nat) (fr ts : List Tm) : Nat → List Ev
  | 0 => []
  | j + 1 => if zC fr (nB ts j).e.toNat (nB ts j).s.toNat fr.length then pnT i n fr ts j ++ [⟨2, i, n, 0, (nB ts j).e, (nB ts j).s, 0⟩] else pnT i n fr ts j
def pnN (i : Nat) (frs tms : Nat → List Tm) : Nat → List Ev
  | 0 => []
  | n + 1 => pnN i frs tms n ++ pnT i n (frs n) (tms n) (tms n).length
theorem pnT_len (i n : Nat) (fr ts : List Tm) (k : Nat) : (pnT i n fr ts k).length ≤ k := by
  induction k with
  | zero => simp [pnT]
  | succ k ih => unfold pnT; split <;> (try simp) <;> omega
theorem pnN_len {i : Nat} {frs tms : Nat → List Tm} (h : ∀ n, (tms n).length ≤ 24) (k : Nat) : (pnN i frs tms k).length ≤ k * 24 := by
  induction k with
  | zero => simp [pnN]
  | succ k ih => unfold pnN; have := pnT_len i k (frs k) (tms k) (tms k).length; have := h k; rw [List.length_append]; omega
theorem tmS_mem {wn : Nat → Bool} {e s : Nat} : ∀ t ∈ tmS wn e s, ∃ r : Nat, t = ⟨e, r⟩ ∧ r < s := by
  induction s with
  | zero => intro t ht; simp [tmS] at ht
  | succ s ih =>
    intro t ht
    unfold tmS at ht
    split at ht
    · rcases List.mem_append.1 ht with ht | ht
      · obtain ⟨r, e1, h1⟩ := ih t ht; exact ⟨r, e1, by omega⟩
      · simp at ht; exact ⟨s, ht, by omega⟩
    · obtain ⟨r, e1, h1⟩ := ih t ht; exact ⟨r, e1, by omega⟩
theorem tmE_mem {wn : Nat → Bool} {k : Nat} : ∀ t ∈ mG wn k, ∃ e r : Nat, t = ⟨e, r⟩ ∧ e < k ∧ r < 4 := by
  induction k with
  | zero => intro t ht; simp [mG] at ht
  | succ k ih =>
    intro t ht
    unfold mG at ht
    rcases List.mem_append.1 ht with ht | ht
    · obtain ⟨e, r, e1, h1, h2⟩ := ih t ht; exact ⟨e, r, e1, by omega, h2⟩
    · obtain ⟨r, e1, h1⟩ := tmS_mem t ht; exact ⟨k, r, e1, by omega, h1⟩
theorem tmn_mem {l : List Tm} {j : Nat} (h : j < l.length) : nB l j ∈ l := by
  unfold nB
  rw [List.getD, List.getElem?_eq_getElem h]
  exact List.getElem_mem _
def wnOf (f : Nat → Value) : Nat → Bool := fun k => match f k with | .bool b => b | _ => false
set_option maxRecDepth 100000 in
set_option maxHeartbeats 8000000 in
theorem pnotifies_any {S : Nat → Prop} {pb : Nat} {x : PX} {ns : List Nd} {R W : Nat} {D : Nat → Nat → Int} {st : PSt} (frs : Nat → List Tm) (i : Nat) (w : World) (hO : POwn w S pb x ns R W D st) (hi : i < W) (hT : ∀ n k, n < ns.length → k < 24 → ∃ b, st.tl i n k = .bool b) (hfl : ∀ n, (frs n).length ≤ 100)
    (hfr : ∀ n : Nat, n < ns.length → ∀ w' : World, POwn w' S pb x ns R W D st → Calls Try.prog 62 #[.pointer (some ⟨pb, 0, none⟩), .int .i64 (i : Int), .int .i64 (n : Int)] w' fun e w2 => ∃ v, e = .returned (.tuple #[v, .int .i64 0]) ∧ OwnT w' w2 v (frs n) ∧ Bw w' w2) :
    Calls Try.prog 120 #[.pointer (some ⟨pb, 0, none⟩), .int .i64 (i : Int)] w fun en w' => ∃ v, en = .returned v ∧ OwnE w w' v (pnN i frs (fun n => mG (wnOf (st.tl i n)) 6) ns.length) ∧ Bw w w' := by
  have h8 := hO.small
  obtain ⟨na, nc, hvn, hnd⟩ := hO.ns
  have c0 := qQ (o := 0) hO.root (hvn ▸ hO.r0)
  have lt0 := hO.slt _ hO.sroot
  have lt1 := hO.slt _ hO.swork
  have hi1 : (i : Int) < (W : Int) := by omega
  have HO := qJ hO
  have Hfr := qJ hfr
  have HT := qJ hT
  have Hlen := qJ (pnN_len (i := i) (frs := frs) (tms := fun n => mG (wnOf (st.tl i n)) 6) (fun n => dV _ 6))
  clear hO hnd hvn hfr hT
  go_enter Try.func120, Try.ntmps120
  go_wp2_with fail
  go_loopw [5, 18] (fun v j wr => ∃ n : Nat, n ≤ ns.length ∧ j = .int .i64 n ∧ OwnE w wr v (pnN i frs (fun n => mG (wnOf (st.tl i n)) 6) n) ∧ Bw w wr) (fun _ j _ => ns.length - (intOf j).toNat)
  case atStart => exact ⟨0, Nat.zero_le _, rfl, OwnE.nil _ _, Bw.refl _⟩
  case round =>
    clear c0
    obtain ⟨n, hn, rfl, hown, hB⟩ := hrel
    rename World => wr
    have hln := (qK Hlen) n
    by_cases hlt : n < ns.length
    · have hn1 : (n : Int) < (ns.length : Int) := by omega
      have hn8 : (n : Int) < 8 := by omega
      have hOr := (qK HO).bw hB
      have c3 := qQ (o := 3) hOr.root hOr.r3
      have lt0r := hOr.slt _ hOr.sroot
      have lt1r := hOr.slt _ hOr.swork
      have Htm := qJ (fun (w' : World) (h : Bw wr w') => ptimes_any (wnOf (st.tl i n)) x.wb (i * 3684 + 32 + n * 408) w' (Nat.lt_of_lt_of_le lt1r h.size) (fun k hk => by
        obtain ⟨b, hb⟩ := (qK HT) n k hlt hk
        have h1 := qQ (hOr.bw h).work (hOr.row.tal i n hi hlt k (by omega))
        rw [hb] at h1
        unfold wnOf
        rw [hb]
        exact h1))
      have Hmem := qJ (@tmE_mem (wnOf (st.tl i n)) 6)
      have htl := dV (wnOf (st.tl i n)) 6
      have Hs : Hid (pnN i frs (fun n => mG (wnOf (st.tl i n)) 6) (n + 1) = pnN i frs (fun n => mG (wnOf (st.tl i n)) 6) n ++ pnT i n (frs n) (mG (wnOf (st.tl i n)) 6) (mG (wnOf (st.tl i n)) 6).length) := qJ rfl
      generalize hA0 : pnN i frs (fun n => mG (wnOf (st.tl i n)) 6) n = A0 at *
      generalize hts : mG (wnOf (st.tl i n)) 6 = ts at *
      have HOr := qJ hOr
      have hfln := hfl n
      have Hfn := qJ ((qK Hfr) n hlt)
      generalize frs n = fr at *
      clear hOr hA0 hts
      go_wp2_with fail
      refine ((qK Htm) _ (by repeat first|exact br _|assumption|apply bd|apply bn|apply ba|refine bt ?_ (by assumption))).mono ?_
      rintro en w2 ⟨vt, rfl, hot, hb2⟩
      have hB2 : Bw wr w2 := (show Bw wr _ from (by repeat first|exact br _|assumption|apply bd|apply bn|apply ba|refine bt ?_ (by assumption))).trans hb2
      obtain ⟨ta, tc, hve⟩ : ∃ ta tc, vt = .slice ta ts.length tc := ⟨_, _, qW hot⟩
      subst hve
      have htt : w2.ownsRow 0 75 2 (.slice ta ts.length tc) ts.length (vH ts) := kU hot (Nat.zero_le _)
      clear hot Htm c3
      by_cases ht0 : ts.length = 0
      · have Hs2 := qJ (show pnN i frs (fun n => mG (wnOf (st.tl i n)) 6) (n + 1) = A0 from by rw [qK Hs, ht0, pnT, List.append_nil])
        have h00 : (ts.length : Int) = 0 := by omega
        go_wp2_with fail
        go_roundw
        case rel => exact ⟨n + 1, by omega, by go_num, by rw [qK Hs2]; exact hown.bw hB2, hB.trans hB2⟩
        case measure => simp [intOf]; omega
      · have h00 : ¬ (ts.length : Int) = 0 := by omega
        go_wp2_with fail
        refine ((qK Hfn) _ ((qK HOr).bw hB2)).mono ?_
        rintro en w3 ⟨vf, rfl, hof, hb3⟩
        obtain ⟨fa, fc, hve⟩ : ∃ fa fc, vf = .slice fa fr.length fc := ⟨_, _, qW hof⟩
        subst hve
        have hft : w3.ownsRow 0 75 2 (.slice fa fr.length fc) fr.length (vH fr) := kU hof (Nat.zero_le _)
        have htt3 := qP htt fun g hg => Below.block hb3 g hg
        have hB3 : Bw wr w3 := hB2.trans hb3
        have Hown := qJ (hown.bw hB3)
        clear hof htt hown
        go_wp2_with fail
        go_loopw [5, 43] (fun v q wj => ∃ j : Nat, j ≤ ts.length ∧ q = .int .i64 j ∧ OwnE w wj v (A0 ++ pnT i n fr ts j) ∧ wj.ownsRow 0 75 2 (.slice ta ts.length tc) ts.length (vH ts) ∧ wj.ownsRow 0 75 2 (.slice fa fr.length fc) fr.length (vH fr) ∧ Bw w wj) (fun _ q _ => ts.length - (intOf q).toNat)
        case atStart => exact ⟨0, Nat.zero_le _, rfl, by rw [pnT, List.append_nil]; exact qK Hown, htt3, hft, hB.trans hB3⟩
        case round =>
          clear Hown htt3 hft
          obtain ⟨j, hj, rfl, hown, htt, hft, hBj⟩ := hrel
          rename World => wj
          have hpl := pnT_len i n fr ts j
          by_cases hltj : j < ts.length
          · have hj1 : (j : Int) < (ts.length : Int) := by omega
            obtain ⟨e, s, hts, he, hs⟩ := (qK Hmem) _ (tmn_mem hltj)
            obtain ⟨tb, toff, hte, htb, htc⟩ := tmsAt_of htt j hltj
            simp only [yQ] at hte
            subst hte
            obtain ⟨t0, t1⟩ := htc j hltj
            rw [hts] at t0 t1
            simp only at t0 t1
            have Hx : Hid (pnT i n fr ts (j + 1) = if zC fr (nB ts j).e.toNat (nB ts j).s.toNat fr.length then pnT i n fr ts j ++ [⟨2, i, n, 0, (nB ts j).e, (nB ts j).s, 0⟩] else pnT i n fr ts j) := qJ rfl
            rw [hts] at Hx
            simp only [Int.toNat_natCast] at Hx
            have Hup := qJ (fun (w' : World) (h : Bw wj w') => phasUp_any fr fa fc e s w' ((show TmsAt wj fa fr from tmsAt_of hft).below h) (by omega))
            have Htt := qJ htt
            have Hft := qJ hft
            generalize hff : zC fr e s fr.length = ff at *
            generalize hP0 : pnT i n fr ts j = P0 at *
            obtain ⟨A1, hA1⟩ : ∃ A1, A0 ++ P0 = A1 := ⟨_, rfl⟩
            have hA1l : A1.length ≤ 10000 := by rw [← hA1, List.length_append]; omega
            rw [hA1] at hown
            have HA1 := qJ hA1
            clear hff hP0 hA1 hts htt hft htc
            cases ff with
            | false =>
              have Hx2 := qJ (show pnT i n fr ts (j + 1) = P0 from by rw [qK Hx]; rfl)
              go_wp2_with (go_at_call 144; refine ((qK Hup) _ (by repeat first|exact br _|assumption|apply bd|apply bn|apply ba|refine bt ?_ (by assumption))).mono ?_; rintro en w5 ⟨rfl, hb5⟩)
              go_roundw
              case rel =>
                have hB5 : Bw wj w5 := (show Bw wj _ from (by repeat first|exact br _|assumption|apply bd|apply bn|apply ba|refine bt ?_ (by assumption))).trans hb5
                exact ⟨j + 1, by omega, by go_num, by rw [qK Hx2, qK HA1]; exact hown.bw hB5, qP (qK Htt) fun g hg => Below.block hB5 g hg, qP (qK Hft) fun g hg => Below.block hB5 g hg, hBj.trans hB5⟩
              case measure => simp [intOf]; omega
            | true =>
              have Hx2 := qJ (show pnT i n fr ts (j + 1) = P0 ++ [⟨2, i, n, 0, e, s, 0⟩] from by rw [qK Hx]; rfl)
              obtain ⟨va, vc, hve⟩ := hown.val
              subst hve
              go_wp2_with (first | (go_at_call 144; refine ((qK Hup) _ (by repeat first|exact br _|assumption|apply bd|apply bn|apply ba|refine bt ?_ (by assumption))).mono ?_; rintro en w5 ⟨rfl, hb5⟩; have hB5 : Bw wj w5 := (show Bw wj (wj.alloc (.cells #[.int .i64 (e : Int), .int .i64 (s : Int)] 75)) from (by repeat first|exact br _|assumption|apply bd|apply bn|apply ba|refine bt ?_ (by assumption))).trans hb5; have hx5 := (Below.block hb5 wj.heap.size (by simp)).trans (heap_alloc_new wj (.cells #[.int .i64 (e : Int), .int .i64 (s : Int)] 75)); have z0 := qQ (o := 0) hx5 rfl; have z1 := qQ (o := 1) hx5 rfl; have zl := (Array.getElem?_eq_some_iff.1 hx5).1; clear hx5) | (at_builtin; refine appL _ rfl _ _ _ 120 rfl _ 7 56 Try.infoEvent Try.underlying165 rfl (by decide) w.heap.size (.slice va A1.length vc) A1.length (jG A1) rfl (hown.bw (hB5.trans (show Bw w5 _ from (by repeat first|exact br _|assumption|apply bd|apply bn|apply ba|refine bt ?_ (by assumption))))) _ _ (Ev.cells ⟨2, i, n, 0, e, s, 0⟩) rfl rfl (fun j u hj => qQ (qN _ _ (by simp)) (by simpa [Ev.cells] using hj)) (ev_one _) (by omega) (by omega) (Bw.size (hBj.trans (hB5.trans (show Bw w5 _ from (by repeat first|exact br _|assumption|apply bd|apply bn|apply ba|refine bt ?_ (by assumption)))))) ?_; intro g' cap w9 ho9 hg9 hl9))
              go_roundw
              case rel =>
                have hB6 : Bw wj (w5.alloc (.cells #[.int .i64 2, .int .i64 (i : Int), .int .i64 (n : Int), .int .i64 0, .int .i64 (e : Int), .int .i64 (s : Int), .int .i64 0] 120)) := hB5.trans (by repeat first|exact br _|assumption|apply bd|apply bn|apply ba|refine bt ?_ (by assumption))
                exact ⟨j + 1, by omega, by go_num, by rw [qK Hx2, ← List.append_assoc, qK HA1]; exact OwnE.snoc ho9, jU (hown.bw hB6) hg9 (qP (qK Htt) fun g hg => Below.block hB6 g hg) (by decide), jU (hown.bw hB6) hg9 (qP (qK Hft) fun g hg => Below.block hB6 g hg) (by decide), tD (hown.bw hB6) hg9 (hBj.trans hB6) (Nat.le_refl _)⟩
              case measure => simp [intOf]; omega
          · have hjj : j = ts.length := by omega
            have hj1 : ¬ (j : Int) < (ts.length : Int) := by omega
            have HoN := qJ (show OwnE w wj _ (pnN i frs (fun n => mG (wnOf (st.tl i n)) 6) (n + 1)) from by rw [qK Hs, ← hjj]; exact hown)
            clear hown htt hft
            go_wp2_with fail
            go_roundw
            case rel => exact ⟨n + 1, by omega, by go_num, qK HoN, hBj⟩
            case measure => simp [intOf]; omega
    · have hnn : n = ns.length := by omega
      subst hnn
      go_wp2_with fail
      go_ret
      exact ⟨_, rfl, hown, hB⟩
end Go.Proofs.Ytfemleimkbjehaa
