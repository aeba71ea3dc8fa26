import Derived.Test.YtfemleimkbjehaaGreatRunF
import Derived.Test.YtfemleimkbjehaaGreatJ5
import Derived.Test.YtfemleimkbjehaaGreatJ7
import Derived.Test.YtfemleimkbjehaaGreatJ13
set_option maxRecDepth 1000000
set_option maxHeartbeats 40000000
set_option linter.unusedVariables false
set_option linter.unusedSimpArgs false
namespace Go.Proofs.YtfemleimkbjehaaGreat
open Go.RowKit
def acB (evs : List Ev) (w n e s : Int) (i : Nat) : Bool := ((zH evs i).worker == w) && (((zH evs i).node == n) && (((zH evs i).epoch == e) && ((zH evs i).round == s)))
def jU (evs : List Ev) (w n e s : Int) : Nat → List Int
  | 0 => []
  | i + 1 => if acB evs w n e s i then (if (zH evs i).kind == 1 then jU evs w n e s i ++ [(zH evs i).value] else if (zH evs i).kind == 2 then [] else jU evs w n e s i) else jU evs w n e s i
theorem acTo_len (evs : List Ev) (w n e s : Int) (k : Nat) : (jU evs w n e s k).length ≤ k := by
  induction k with
  | zero => simp [jU]
  | succ k ih => unfold jU; split <;> (try split) <;> (try split) <;> (try simp) <;> omega
theorem acTo_no {evs : List Ev} {w n e s : Int} {i : Nat} (h : acB evs w n e s i = false) : jU evs w n e s (i + 1) = jU evs w n e s i := by rw [jU, h]; rfl
theorem acTo_work {evs : List Ev} {w n e s : Int} {i : Nat} (h : acB evs w n e s i = true) (hk : ((zH evs i).kind == 1) = true) : jU evs w n e s (i + 1) = jU evs w n e s i ++ [(zH evs i).value] := by rw [jU, if_pos h, if_pos hk]
theorem acTo_note {evs : List Ev} {w n e s : Int} {i : Nat} (h : acB evs w n e s i = true) (hk : ((zH evs i).kind == 1) = false) (hk2 : ((zH evs i).kind == 2) = true) : jU evs w n e s (i + 1) = [] := by rw [jU, if_pos h, hk, hk2]; rfl
theorem acTo_else {evs : List Ev} {w n e s : Int} {i : Nat} (h : acB evs w n e s i = true) (hk : ((zH evs i).kind == 1) = false) (hk2 : ((zH evs i).kind == 2) = false) : jU evs w n e s (i + 1) = jU evs w n e s i := by rw [jU, if_pos h, hk, hk2]; rfl
def meB (evs : List Ev) (x : Ev) (i : Nat) : Bool := ((zH evs i).kind == 1) && (((zH evs i).worker == x.worker) && (((zH evs i).node == x.node) && (((zH evs i).epoch == x.epoch) && (((zH evs i).round == x.round) && ((zH evs i).value == x.value)))))
def meTo (evs : List Ev) (x : Ev) : Nat → Bool
  | 0 => false
  | i + 1 => meTo evs x i || meB evs x i
theorem meTo_mono {evs : List Ev} {x : Ev} {i : Nat} (h : meB evs x i = true) : ∀ k, i < k → meTo evs x k = true := by
  intro k hk
  induction k with
  | zero => omega
  | succ k ih =>
    unfold meTo
    by_cases e : i = k
    · subst e; rw [h]; simp
    · rw [ih (by omega)]; rfl
theorem meTo_no {evs : List Ev} {x : Ev} {i : Nat} (h : meTo evs x i = false) (h2 : meB evs x i = false) : meTo evs x (i + 1) = false := by rw [meTo, h, h2]; rfl
theorem radded_any {rb : Nat} {x : RV} {ns : List Nd} {R W : Nat} {D : Nat → Nat → Int} {st : RSt} (wk n e s : Int) (w : World) (hR : RRead w rb x ns R W D st) :
    Calls Tryz.prog 73 #[.pointer (some ⟨rb, 0, none⟩), .int .i64 wk, .int .i64 n, .agg #[.int .i64 e, .int .i64 s]] w fun en w' => ∃ v, en = .returned v ∧ Own w w' v (jU st.evs wk n e s st.evs.length) ∧ Bw w w' := by
  have hl := hR.few.2.2.2
  have HR := qJ hR
  clear hR
  obtain ⟨ms, lg, ev, op, tl⟩ := st
  simp only at *
  go_enter Tryz.func73, Tryz.ntmps73
  go_wp2_with fail
  go_loopw [9, 10] (fun v i wr => ∃ k : Nat, k ≤ ev.length ∧ i = .int .i64 k ∧ Own w wr v (jU ev wk n e s k) ∧ Bw w wr ∧ wr.heap[w.heap.size]? = some (.cells #[.int .i64 e, .int .i64 s] 72 (0, 0))) (fun _ i _ => ev.length - (intOf i).toNat)
  case atStart => exact ⟨0, Nat.zero_le _, rfl, Own.nil _ _, (by repeat first|exact br _|assumption|apply bd|apply bn|apply ba|refine bt ?_ (by assumption)), heap_alloc_new w _⟩
  case round =>
    obtain ⟨k, hk, rfl, hown, hB, hbx⟩ := hrel
    rename World => wr
    have hln := acTo_len ev wk n e s k
    have hR2 := (qK HR).below hB
    have c5 := hR2.c5
    have hlt0 := hR2.lt
    have hml := hR2.evs
    have Hbx := qJ hbx
    have t0 := qQ (o := 0) hbx rfl
    have t1 := qQ (o := 1) hbx rfl
    have tl0 := (Array.getElem?_eq_some_iff.1 hbx).1
    clear hR2 hbx
    simp only at c5 hml
    by_cases hlt : k < ev.length
    · obtain ⟨b, off, ee, hb, hc⟩ := hml k hlt
      obtain ⟨d0, d1, d2, d3, d4, d5, d6⟩ := hc k hlt
      rw [ee] at c5
      clear hc hml
      have Hno := qJ (@acTo_no ev wk n e s k)
      have Hwo := qJ (@acTo_work ev wk n e s k)
      have Hnt := qJ (@acTo_note ev wk n e s k)
      have Hel := qJ (@acTo_else ev wk n e s k)
      have Hd : Hid (acB ev wk n e s k = (((zH ev k).worker == wk) && (((zH ev k).node == n) && (((zH ev k).epoch == e) && ((zH ev k).round == s))))) := qJ rfl
      generalize zH ev k = y at *
      generalize hdb : acB ev wk n e s k = db at Hd Hno Hwo Hnt Hel
      clear hdb
      cases h0 : (y.worker == wk) with
      | false =>
        have h0n : (y.worker != wk) = true := by simp [bne, h0]
        have Hs := qJ ((qK Hno) (by rw [qK Hd, h0]; rfl))
        clear Hno Hwo Hnt Hel Hd
        go_wp2_with fail
        go_roundw
        case rel => exact ⟨k + 1, by omega, by go_num, by rw [qK Hs]; exact hown.bw (by repeat first|exact br _|assumption|apply bd|apply bn|apply ba|refine bt ?_ (by assumption)), (by repeat first|exact br _|assumption|apply bd|apply bn|apply ba|refine bt ?_ (by assumption)), (Below.block (show Bw wr _ from (by repeat first|exact br _|assumption|apply bd|apply bn|apply ba|refine bt ?_ (by assumption))) _ tl0).trans (qK Hbx)⟩
        case measure => simp [intOf]; omega
      | true =>
        have h0n : (y.worker != wk) = false := by simp [bne, h0]
        cases h1 : (y.node == n) with
        | false =>
          have h1n : (y.node != n) = true := by simp [bne, h1]
          have Hs := qJ ((qK Hno) (by rw [qK Hd, h0, h1]; rfl))
          clear Hno Hwo Hnt Hel Hd
          go_wp2_with fail
          go_roundw
          case rel => exact ⟨k + 1, by omega, by go_num, by rw [qK Hs]; exact hown.bw (by repeat first|exact br _|assumption|apply bd|apply bn|apply ba|refine bt ?_ (by assumption)), (by repeat first|exact br _|assumption|apply bd|apply bn|apply ba|refine bt ?_ (by assumption)), (Below.block (show Bw wr _ from (by repeat first|exact br _|assumption|apply bd|apply bn|apply ba|refine bt ?_ (by assumption))) _ tl0).trans (qK Hbx)⟩
          case measure => simp [intOf]; omega
        | true =>
          have h1n : (y.node != n) = false := by simp [bne, h1]
          cases h2 : (y.epoch == e) with
          | false =>
            have h2n : (y.epoch != e) = true := by simp [bne, h2]
            have Hs := qJ ((qK Hno) (by rw [qK Hd, h0, h1, h2]; rfl))
            clear Hno Hwo Hnt Hel Hd
            go_wp2_with fail
            go_roundw
            case rel => exact ⟨k + 1, by omega, by go_num, by rw [qK Hs]; exact hown.bw (by repeat first|exact br _|assumption|apply bd|apply bn|apply ba|refine bt ?_ (by assumption)), (by repeat first|exact br _|assumption|apply bd|apply bn|apply ba|refine bt ?_ (by assumption)), (Below.block (show Bw wr _ from (by repeat first|exact br _|assumption|apply bd|apply bn|apply ba|refine bt ?_ (by assumption))) _ tl0).trans (qK Hbx)⟩
            case measure => simp [intOf]; omega
          | true =>
            have h2n : (y.epoch != e) = false := by simp [bne, h2]
            cases h3 : (y.round == s) with
            | false =>
              have h3n : (y.round != s) = true := by simp [bne, h3]
              have Hs := qJ ((qK Hno) (by rw [qK Hd, h0, h1, h2, h3]; rfl))
              clear Hno Hwo Hnt Hel Hd
              go_wp2_with fail
              go_roundw
              case rel => exact ⟨k + 1, by omega, by go_num, by rw [qK Hs]; exact hown.bw (by repeat first|exact br _|assumption|apply bd|apply bn|apply ba|refine bt ?_ (by assumption)), (by repeat first|exact br _|assumption|apply bd|apply bn|apply ba|refine bt ?_ (by assumption)), (Below.block (show Bw wr _ from (by repeat first|exact br _|assumption|apply bd|apply bn|apply ba|refine bt ?_ (by assumption))) _ tl0).trans (qK Hbx)⟩
              case measure => simp [intOf]; omega
            | true =>
              have h3n : (y.round != s) = false := by simp [bne, h3]
              have Hb : Hid (db = true) := qJ (by rw [qK Hd, h0, h1, h2, h3]; rfl)
              cases k1 : (y.kind == 1) with
              | true =>
                have Hs := qJ ((qK Hwo) (qK Hb) k1)
                have k2 : (y.kind == 2) = false := by simp at k1 ⊢; omega
                clear Hno Hwo Hnt Hel Hd Hb
                go_wp2_with (at_builtin; refine app1B _ rfl _ _ rfl _ _ (jU ev wk n e s k) rfl (hown.bw (by repeat first|exact br _|assumption|apply bd|apply bn|apply ba|refine bt ?_ (by assumption))) _ _ y.value rfl (by simp) (by omega) (by repeat first|exact br _|assumption|apply bd|apply bn|apply ba|refine bt ?_ (by assumption)) ?_; intro v' w1 hown1 hB1 hgr1; have Hb1 := qJ (qW (hown.bw (show Bw wr _ from (by repeat first|exact br _|assumption|apply bd|apply bn|apply ba|refine bt ?_ (by assumption)))) hgr1 ((Below.block (show Bw wr _ from (by repeat first|exact br _|assumption|apply bd|apply bn|apply ba|refine bt ?_ (by assumption))) _ tl0).trans (qK Hbx)) (.inl (by decide))); have Hz := qJ (qW (hown.bw (show Bw wr _ from (by repeat first|exact br _|assumption|apply bd|apply bn|apply ba|refine bt ?_ (by assumption)))) hgr1 ((Below.block (show Bw (wr.alloc (.cells #[.int .i64 y.kind, .int .i64 y.worker, .int .i64 y.node, .int .i64 y.index, .int .i64 y.epoch, .int .i64 y.round, .int .i64 y.value] 110)) _ from (by repeat first|exact br _|assumption|apply bd|apply bn|apply ba|refine bt ?_ (by assumption))) _ (by simp)).trans (heap_alloc_new wr _)) (.inl (by decide))); have z0 := qQ (o := 0) (qK Hz) rfl; have zl := (Array.getElem?_eq_some_iff.1 (qK Hz)).1; clear hgr1)
                go_roundw
                case rel => exact ⟨k + 1, by omega, by go_num, by rw [qK Hs]; exact hown1.bw (by repeat first|exact br _|assumption|apply bd|apply bn|apply ba|refine bt ?_ (by assumption)), hB1.trans (show Bw w1 _ from (by repeat first|exact br _|assumption|apply bd|apply bn|apply ba|refine bt ?_ (by assumption))), (Below.block (show Bw w1 _ from (by repeat first|exact br _|assumption|apply bd|apply bn|apply ba|refine bt ?_ (by assumption))) _ (Array.getElem?_eq_some_iff.1 (qK Hb1)).1).trans (qK Hb1)⟩
                case measure => simp [intOf]; omega
              | false =>
                cases k2 : (y.kind == 2) with
                | true =>
                  have Hs := qJ ((qK Hnt) (qK Hb) k1 k2)
                  clear Hno Hwo Hnt Hel Hd Hb
                  go_wp2_with fail
                  go_roundw
                  case rel => exact ⟨k + 1, by omega, by go_num, by rw [qK Hs]; exact Own.nil _ _, (by repeat first|exact br _|assumption|apply bd|apply bn|apply ba|refine bt ?_ (by assumption)), (Below.block (show Bw wr _ from (by repeat first|exact br _|assumption|apply bd|apply bn|apply ba|refine bt ?_ (by assumption))) _ tl0).trans (qK Hbx)⟩
                  case measure => simp [intOf]; omega
                | false =>
                  have Hs := qJ ((qK Hel) (qK Hb) k1 k2)
                  clear Hno Hwo Hnt Hel Hd Hb
                  go_wp2_with fail
                  go_roundw
                  case rel => exact ⟨k + 1, by omega, by go_num, by rw [qK Hs]; exact hown.bw (by repeat first|exact br _|assumption|apply bd|apply bn|apply ba|refine bt ?_ (by assumption)), (by repeat first|exact br _|assumption|apply bd|apply bn|apply ba|refine bt ?_ (by assumption)), (Below.block (show Bw wr _ from (by repeat first|exact br _|assumption|apply bd|apply bn|apply ba|refine bt ?_ (by assumption))) _ tl0).trans (qK Hbx)⟩
                  case measure => simp [intOf]; omega
    · have hkk : k = ev.length := by omega
      subst hkk
      go_wp2_with fail
      go_ret
      exact ⟨_, rfl, hown, hB⟩
theorem rmet_any {rb : Nat} {x : RV} {ns : List Nd} {R W : Nat} {D : Nat → Nat → Int} {st : RSt} (z : Ev) (w : World) (hR : RRead w rb x ns R W D st) :
    Calls Tryz.prog 103 #[.pointer (some ⟨rb, 0, none⟩), .agg #[.int .i64 z.kind, .int .i64 z.worker, .int .i64 z.node, .int .i64 z.index, .int .i64 z.epoch, .int .i64 z.round, .int .i64 z.value]] w fun en w' => en = .returned (.bool (meTo st.evs z st.evs.length)) ∧ Bw w w' := by
  have hl := hR.few.2.2.2
  have HR := qJ hR
  clear hR
  obtain ⟨ms, lg, ev, op, tl⟩ := st
  simp only at *
  go_enter Tryz.func103, Tryz.ntmps103
  go_wp2_with fail
  go_loopw [5] (fun i wr => ∃ k : Nat, k ≤ ev.length ∧ i = .int .i64 k ∧ meTo ev z k = false ∧ Bw w wr ∧ wr.heap[w.heap.size]? = some (.cells #[.int .i64 z.kind, .int .i64 z.worker, .int .i64 z.node, .int .i64 z.index, .int .i64 z.epoch, .int .i64 z.round, .int .i64 z.value] 110 (0, 0))) (fun i _ => ev.length - (intOf i).toNat)
  case atStart => exact ⟨0, Nat.zero_le _, rfl, rfl, (by repeat first|exact br _|assumption|apply bd|apply bn|apply ba|refine bt ?_ (by assumption)), heap_alloc_new w _⟩
  case round =>
    obtain ⟨k, hk, rfl, hno, hB, hbx⟩ := hrel
    rename World => wr
    have hR2 := (qK HR).below hB
    have c5 := hR2.c5
    have hlt0 := hR2.lt
    have hml := hR2.evs
    have Hbx := qJ hbx
    have t1 := qQ (o := 1) hbx rfl
    have t2 := qQ (o := 2) hbx rfl
    have t4 := qQ (o := 4) hbx rfl
    have t5 := qQ (o := 5) hbx rfl
    have t6 := qQ (o := 6) hbx rfl
    have tl0 := (Array.getElem?_eq_some_iff.1 hbx).1
    clear hR2 hbx
    simp only at c5 hml
    by_cases hlt : k < ev.length
    · obtain ⟨b, off, ee, hb, hc⟩ := hml k hlt
      obtain ⟨d0, d1, d2, d3, d4, d5, d6⟩ := hc k hlt
      rw [ee] at c5
      clear hc hml
      have Hno := qJ (@meTo_no ev z k hno)
      have Hyes := qJ (fun h => @meTo_mono ev z k h ev.length hlt)
      have Hd : Hid (meB ev z k = (((zH ev k).kind == 1) && (((zH ev k).worker == z.worker) && (((zH ev k).node == z.node) && (((zH ev k).epoch == z.epoch) && (((zH ev k).round == z.round) && ((zH ev k).value == z.value))))))) := qJ rfl
      generalize zH ev k = y at *
      generalize hdb : meB ev z k = db at Hd Hno Hyes
      generalize hdm : meTo ev z ev.length = dm at Hyes
      clear hdb
      cases h0 : (y.kind == 1) with
      | false =>
        have Hs := qJ ((qK Hno) (by rw [qK Hd, h0]; rfl))
        clear Hno Hyes Hd hdm
        go_wp2_with fail
        go_roundw
        case rel => exact ⟨k + 1, by omega, by go_num, qK Hs, (by repeat first|exact br _|assumption|apply bd|apply bn|apply ba|refine bt ?_ (by assumption)), (Below.block (show Bw wr _ from (by repeat first|exact br _|assumption|apply bd|apply bn|apply ba|refine bt ?_ (by assumption))) _ tl0).trans (qK Hbx)⟩
        case measure => simp [intOf]; omega
      | true =>
        cases h1 : (y.worker == z.worker) with
        | false =>
          have Hs := qJ ((qK Hno) (by rw [qK Hd, h0, h1]; rfl))
          clear Hno Hyes Hd hdm
          go_wp2_with fail
          go_roundw
          case rel => exact ⟨k + 1, by omega, by go_num, qK Hs, (by repeat first|exact br _|assumption|apply bd|apply bn|apply ba|refine bt ?_ (by assumption)), (Below.block (show Bw wr _ from (by repeat first|exact br _|assumption|apply bd|apply bn|apply ba|refine bt ?_ (by assumption))) _ tl0).trans (qK Hbx)⟩
          case measure => simp [intOf]; omega
        | true =>
          cases h2 : (y.node == z.node) with
          | false =>
            have Hs := qJ ((qK Hno) (by rw [qK Hd, h0, h1, h2]; rfl))
            clear Hno Hyes Hd hdm
            go_wp2_with fail
            go_roundw
            case rel => exact ⟨k + 1, by omega, by go_num, qK Hs, (by repeat first|exact br _|assumption|apply bd|apply bn|apply ba|refine bt ?_ (by assumption)), (Below.block (show Bw wr _ from (by repeat first|exact br _|assumption|apply bd|apply bn|apply ba|refine bt ?_ (by assumption))) _ tl0).trans (qK Hbx)⟩
            case measure => simp [intOf]; omega
          | true =>
            cases h3 : (y.epoch == z.epoch) with
            | false =>
              have Hs := qJ ((qK Hno) (by rw [qK Hd, h0, h1, h2, h3]; rfl))
              clear Hno Hyes Hd hdm
              go_wp2_with fail
              go_roundw
              case rel => exact ⟨k + 1, by omega, by go_num, qK Hs, (by repeat first|exact br _|assumption|apply bd|apply bn|apply ba|refine bt ?_ (by assumption)), (Below.block (show Bw wr _ from (by repeat first|exact br _|assumption|apply bd|apply bn|apply ba|refine bt ?_ (by assumption))) _ tl0).trans (qK Hbx)⟩
              case measure => simp [intOf]; omega
            | true =>
              cases h4 : (y.round == z.round) with
              | false =>
                have Hs := qJ ((qK Hno) (by rw [qK Hd, h0, h1, h2, h3, h4]; rfl))
                clear Hno Hyes Hd hdm
                go_wp2_with fail
                go_roundw
                case rel => exact ⟨k + 1, by omega, by go_num, qK Hs, (by repeat first|exact br _|assumption|apply bd|apply bn|apply ba|refine bt ?_ (by assumption)), (Below.block (show Bw wr _ from (by repeat first|exact br _|assumption|apply bd|apply bn|apply ba|refine bt ?_ (by assumption))) _ tl0).trans (qK Hbx)⟩
                case measure => simp [intOf]; omega
              | true =>
                cases h5 : (y.value == z.value) with
                | false =>
                  have Hs := qJ ((qK Hno) (by rw [qK Hd, h0, h1, h2, h3, h4, h5]; rfl))
                  clear Hno Hyes Hd hdm
                  go_wp2_with fail
                  go_roundw
                  case rel => exact ⟨k + 1, by omega, by go_num, qK Hs, (by repeat first|exact br _|assumption|apply bd|apply bn|apply ba|refine bt ?_ (by assumption)), (Below.block (show Bw wr _ from (by repeat first|exact br _|assumption|apply bd|apply bn|apply ba|refine bt ?_ (by assumption))) _ tl0).trans (qK Hbx)⟩
                  case measure => simp [intOf]; omega
                | true =>
                  have Hs := qJ ((qK Hyes) (by rw [qK Hd, h0, h1, h2, h3, h4, h5]; rfl))
                  have Hm := qJ (hdm.trans (qK Hs))
                  clear Hno Hyes Hd hdm
                  go_wp2_with fail
                  go_ret
                  exact ⟨ret_bool (by first | (rw [qK Hm]; done) | exact (qK Hm).symm | exact (qK Hs).symm), (by repeat first|exact br _|assumption|apply bd|apply bn|apply ba|refine bt ?_ (by assumption))⟩
    · have hkk : k = ev.length := by omega
      subst hkk
      go_wp2_with fail
      go_ret
      exact ⟨ret_bool hno.symm, hB⟩
theorem Tryz.infoRec : (Tryz.prog.info? 77).map (fun i => (i.zero, i.size, i.bytes)) = some (some (.agg #[.int .i64 0, .int .i64 0, .int .i64 0, .int .i64 0, .int .i64 0]), 5, 40) := by kernel_rfl
def rcOf (y : Ev) : Nd := ⟨y.node, y.worker, y.epoch, y.round, y.value⟩
def ouB (ns : List Nd) (evs : List Ev) (i : Nat) : Bool := ((zH evs i).kind == 1) && ((qT ns (zH evs i).node.toNat).kind == 7)
def ouTo (ns : List Nd) (evs : List Ev) : Nat → List Nd
  | 0 => []
  | i + 1 => if ouB ns evs i then ouTo ns evs i ++ [rcOf (zH evs i)] else ouTo ns evs i
theorem ouTo_len (ns : List Nd) (evs : List Ev) (k : Nat) : (ouTo ns evs k).length ≤ k := by
  induction k with
  | zero => simp [ouTo]
  | succ k ih => unfold ouTo; split <;> (try simp) <;> omega
theorem ouTo_yes {ns : List Nd} {evs : List Ev} {i : Nat} (h : ouB ns evs i = true) : ouTo ns evs (i + 1) = ouTo ns evs i ++ [rcOf (zH evs i)] := by rw [ouTo, if_pos h]
theorem ouTo_no {ns : List Nd} {evs : List Ev} {i : Nat} (h : ouB ns evs i = false) : ouTo ns evs (i + 1) = ouTo ns evs i := by rw [ouTo, h]; rfl
def OwnC (W w : World) (v : Value) (l : List Nd) : Prop := w.ownsRow W.heap.size 77 5 v l.length (qL l)
theorem OwnC.val {W w : World} {v : Value} {l : List Nd} (h : OwnC W w v l) : ∃ a c, v = .slice a l.length c := ⟨_, _, qV h⟩
theorem OwnC.nil (W w : World) : OwnC W w (.slice none 0 0) [] := World.ownsRow_nil _ _ _ _
theorem OwnC.bw {W a b : World} {v : Value} {l : List Nd} (h : OwnC W a v l) (hb : Bw a b) : OwnC W b v l := qX h fun g hg => Below.block hb g hg
theorem OwnC.snoc {W w : World} {v : Value} {l : List Nd} {x : Nd} (h : w.ownsRow W.heap.size 77 5 v (l.length + 1) (qL l ++ x.cells)) : OwnC W w v (l ++ [x]) := by
  unfold OwnC; rw [show qL (l ++ [x]) = qL l ++ x.cells by simp [qL], List.length_append]; exact h
theorem nd_one' (x : Nd) : ∀ u ∈ x.cells, u.oneCell' = true := by
  intro u hu
  simp [Nd.cells] at hu
  rcases hu with rfl | rfl | rfl | rfl | rfl <;> rfl
theorem rout_any {rb : Nat} {x : RV} {ns : List Nd} {R W : Nat} {D : Nat → Nat → Int} {st : RSt} (w : World) (hR : RRead w rb x ns R W D st) (hev : ∀ i, i < st.evs.length → (zH st.evs i).kind = 1 → ∃ m : Nat, (zH st.evs i).node = m ∧ m < ns.length) :
    Calls Tryz.prog 41 #[.pointer (some ⟨rb, 0, none⟩)] w fun en w' => ∃ v, en = .returned v ∧ OwnC w w' v (ouTo ns st.evs st.evs.length) ∧ Bw w w' := by
  have hl := hR.few.2.2.2
  have HR := qJ hR
  have Hev := qJ hev
  clear hR hev
  obtain ⟨ms, lg, ev, op, tl⟩ := st
  simp only at *
  go_enter Tryz.func41, Tryz.ntmps41
  go_wp2_with fail
  go_loopw [3, 4] (fun v i wr => ∃ k : Nat, k ≤ ev.length ∧ i = .int .i64 k ∧ OwnC w wr v (ouTo ns ev k) ∧ Bw w wr) (fun _ i _ => ev.length - (intOf i).toNat)
  case atStart => exact ⟨0, Nat.zero_le _, rfl, OwnC.nil _ _, Bw.refl _⟩
  case round =>
    obtain ⟨k, hk, rfl, hown, hB⟩ := hrel
    rename World => wr
    have hln := ouTo_len ns ev k
    have hR2 := (qK HR).below hB
    have c5 := hR2.c5
    have c0 := hR2.c0
    have hlt0 := hR2.lt
    have hml := hR2.evs
    have hnd := hR2.nodes
    clear hR2
    simp only at c5 hml
    by_cases hlt : k < ev.length
    · obtain ⟨b, off, ee, hb, hc⟩ := hml k hlt
      obtain ⟨d0, d1, d2, d3, d4, d5, d6⟩ := hc k hlt
      rw [ee] at c5
      clear hc hml
      have Hy := qJ (@ouTo_yes ns ev k)
      have Hn := qJ (@ouTo_no ns ev k)
      have Hd : Hid (ouB ns ev k = (((zH ev k).kind == 1) && ((qT ns (zH ev k).node.toNat).kind == 7))) := qJ rfl
      have Hm := qJ ((qK Hev) k hlt)
      generalize zH ev k = y at *
      generalize hdb : ouB ns ev k = db at Hd Hy Hn
      clear hdb
      cases h0 : (y.kind == 1) with
      | false =>
        have Hs := qJ ((qK Hn) (by rw [qK Hd, h0]; rfl))
        clear Hy Hn Hd
        go_wp2_with fail
        go_region
        go_wp2_with fail
        go_roundw
        case rel => exact ⟨k + 1, by omega, by go_num, by rw [qK Hs]; exact hown.bw (by repeat first|exact br _|assumption|apply bd|apply bn|apply ba|refine bt ?_ (by assumption)), (by repeat first|exact br _|assumption|apply bd|apply bn|apply ba|refine bt ?_ (by assumption))⟩
        case measure => simp [intOf]; omega
      | true =>
        obtain ⟨m, hm, hml⟩ := (qK Hm) (by simpa using h0)
        have d2' := d2
        rw [hm] at d2
        obtain ⟨nb, noff, en, hnb, hnc⟩ := hnd m hml
        obtain ⟨e0, e1, e2, e3, e4⟩ := hnc m hml
        rw [en] at c0
        clear hnc hnd
        have hm1 : (m : Int) < (ns.length : Int) := by omega
        have Hd2 : Hid (db = ((qT ns m).kind == 7)) := qJ (by rw [qK Hd, h0, hm]; simp)
        cases h1 : ((qT ns m).kind == 7) with
        | false =>
          have Hs := qJ ((qK Hn) (by rw [qK Hd2, h1]))
          clear Hy Hn Hd Hd2
          go_wp2_with fail
          go_region
          go_wp2_with fail
          go_roundw
          case rel => exact ⟨k + 1, by omega, by go_num, by rw [qK Hs]; exact hown.bw (by repeat first|exact br _|assumption|apply bd|apply bn|apply ba|refine bt ?_ (by assumption)), (by repeat first|exact br _|assumption|apply bd|apply bn|apply ba|refine bt ?_ (by assumption))⟩
          case measure => simp [intOf]; omega
        | true =>
          have Hs := qJ ((qK Hy) (by rw [qK Hd2, h1]))
          clear Hy Hn Hd Hd2
          obtain ⟨va, vc, hve⟩ := hown.val
          subst hve
          go_wp2_with fail
          go_region
          go_wp2_with (at_builtin; refine appL _ rfl _ _ _ 77 rfl _ 5 40 Tryz.infoRec Tryz.underlying73 rfl (by decide) w.heap.size (.slice va (ouTo ns ev k).length vc) (ouTo ns ev k).length (qL (ouTo ns ev k)) rfl (hown.bw (by repeat first|exact br _|assumption|apply bd|apply bn|apply ba|refine bt ?_ (by assumption))) _ _ (rcOf y).cells rfl rfl (fun j u hj => qQ (qY _ _ (by simp)) (by simpa [Nd.cells, rcOf, hm] using hj)) (nd_one' _) (by omega) (by omega) (Bw.size (show Bw w _ from (by repeat first|exact br _|assumption|apply bd|apply bn|apply ba|refine bt ?_ (by assumption)))) ?_; intro g' cap w1 ho1 hg1 hl1)
          go_roundw
          case rel => exact ⟨k + 1, by omega, by go_num, by rw [qK Hs]; exact OwnC.snoc ho1, yK (hown.bw (show Bw wr _ from (by repeat first|exact br _|assumption|apply bd|apply bn|apply ba|refine bt ?_ (by assumption)))) hg1 (show Bw w _ from (by repeat first|exact br _|assumption|apply bd|apply bn|apply ba|refine bt ?_ (by assumption))) (Nat.le_refl _)⟩
          case measure => simp [intOf]; omega
    · have hkk : k = ev.length := by omega
      subst hkk
      go_wp2_with fail
      go_ret
      exact ⟨_, rfl, hown, hB⟩
theorem Tryz.infoEvent : (Tryz.prog.info? 110).map (fun i => (i.zero, i.size, i.bytes)) = some (some (.agg #[.int .i64 0, .int .i64 0, .int .i64 0, .int .i64 0, .int .i64 0, .int .i64 0, .int .i64 0]), 7, 56) := by kernel_rfl
def OwnE (W w : World) (v : Value) (l : List Ev) : Prop := w.ownsRow W.heap.size 110 7 v l.length (kH l)
theorem OwnE.val {W w : World} {v : Value} {l : List Ev} (h : OwnE W w v l) : ∃ a c, v = .slice a l.length c := ⟨_, _, qV h⟩
theorem OwnE.nil (W w : World) : OwnE W w (.slice none 0 0) [] := World.ownsRow_nil _ _ _ _
theorem OwnE.bw {W a b : World} {v : Value} {l : List Ev} (h : OwnE W a v l) (hb : Bw a b) : OwnE W b v l := qX h fun g hg => Below.block hb g hg
theorem evCells_snoc (l : List Ev) (x : Ev) : kH (l ++ [x]) = kH l ++ x.cells := by simp [kH]
theorem evCells_app (l m : List Ev) : kH (l ++ m) = kH l ++ kH m := by simp [kH]
theorem OwnE.snoc {W w : World} {v : Value} {l : List Ev} {x : Ev} (h : w.ownsRow W.heap.size 110 7 v (l.length + 1) (kH l ++ x.cells)) : OwnE W w v (l ++ [x]) := by
  unfold OwnE; rw [evCells_snoc, List.length_append]; exact h
theorem ev_one (x : Ev) : ∀ u ∈ x.cells, u.oneCell' = true := by
  intro u hu
  simp [Ev.cells] at hu
  rcases hu with rfl | rfl | rfl | rfl | rfl | rfl | rfl <;> rfl
theorem evs_one (l : List Ev) : ∀ u ∈ kH l, u.oneCell' = true := by
  intro u hu
  obtain ⟨x, _, h⟩ := List.mem_flatMap.1 hu
  exact ev_one x u h
theorem evCells_len (l : List Ev) : (kH l).length = l.length * 7 := by
  induction l with
  | nil => rfl
  | cons x l ih => simp only [kH, List.flatMap_cons, List.length_append, List.length_cons] at ih ⊢; rw [ih]; simp [Ev.cells]; omega
def zQ (fr : List Tm) (e s : Nat) : Nat → Bool
  | 0 => true
  | i + 1 => zQ fr e s i && !(upB (yU fr i) e s)
def waB (evs : List Ev) (fr : List Tm) (w n e s : Nat) : Bool := !((jU evs w n e s evs.length).length == 0) && zQ fr e s fr.length
def waS (evs : List Ev) (fr : List Tm) (w n e : Nat) : Nat → List Ev
  | 0 => []
  | s + 1 => if waB evs fr w n e s then waS evs fr w n e s ++ [⟨2, w, n, 0, e, s, 0⟩] else waS evs fr w n e s
def waE (evs : List Ev) (fr : List Tm) (R w n : Nat) : Nat → List Ev
  | 0 => []
  | e + 1 => waE evs fr R w n e ++ waS evs fr w n e R
theorem waS_len (evs : List Ev) (fr : List Tm) (w n e s : Nat) : (waS evs fr w n e s).length ≤ s := by
  induction s with
  | zero => simp [waS]
  | succ s ih => unfold waS; split <;> (try simp) <;> omega
theorem waE_len (evs : List Ev) (fr : List Tm) (R w n e : Nat) : (waE evs fr R w n e).length ≤ e * R := by
  induction e with
  | zero => simp [waE]
  | succ e ih => unfold waE; have := waS_len evs fr w n e R; rw [List.length_append, Nat.add_mul]; omega
theorem waS_yes {evs : List Ev} {fr : List Tm} {w n e s : Nat} (h : waB evs fr w n e s = true) : waS evs fr w n e (s + 1) = waS evs fr w n e s ++ [⟨2, w, n, 0, e, s, 0⟩] := by rw [waS, if_pos h]
theorem waS_no {evs : List Ev} {fr : List Tm} {w n e s : Nat} (h : waB evs fr w n e s = false) : waS evs fr w n e (s + 1) = waS evs fr w n e s := by rw [waS, h]; rfl
theorem rwanted_any {rb : Nat} {x : RV} {ns : List Nd} {R W : Nat} {D : Nat → Nat → Int} {st : RSt} (fr : List Tm) (wk y : Nat) (w : World) (hR : RRead w rb x ns R W D st) (hfl : fr.length ≤ 100)
    (hfr : ∀ w' : World, RRead w' rb x ns R W D st → Calls Tryz.prog 39 #[.pointer (some ⟨rb, 0, none⟩), .int .i64 (wk : Int), .int .i64 (y : Int)] w' fun e w2 => ∃ v, e = .returned (.tuple #[v, .int .i64 0]) ∧ OwnT w' w2 v fr ∧ Bw w' w2) :
    Calls Tryz.prog 45 #[.pointer (some ⟨rb, 0, none⟩), .int .i64 (wk : Int), .int .i64 (y : Int)] w fun en w' => ∃ v, en = .returned v ∧ OwnE w w' v (waE st.evs fr R wk y 6) ∧ Bw w w' := by
  have hR4 := hR.small.2.1
  have HR := qJ hR
  have Hfr := qJ hfr
  clear hR hfr
  go_enter Tryz.func45, Tryz.ntmps45
  go_wp2_with fail
  go_loopw [7, 8] (fun v i wr => ∃ e : Nat, e ≤ 6 ∧ i = .int .i64 e ∧ OwnE w wr v (waE st.evs fr R wk y e) ∧ Bw w wr) (fun _ i _ => 6 - (intOf i).toNat)
  case atStart => exact ⟨0, Nat.zero_le _, rfl, OwnE.nil _ _, Bw.refl _⟩
  case round =>
    obtain ⟨e, he, rfl, hown, hB⟩ := hrel
    rename World => wr
    have hlE := waE_len st.evs fr R wk y e
    have hlE2 : e * R ≤ 6 * 4 := Nat.mul_le_mul he hR4
    by_cases hlt : e < 6
    · have he1 : (e : Int) ≤ 5 := by omega
      have Hown := qJ hown
      clear hown
      go_wp2_with fail
      go_loopw [7, 9] (fun v j wi => ∃ s : Nat, s ≤ R ∧ j = .int .i64 s ∧ OwnE w wi v (waE st.evs fr R wk y e ++ waS st.evs fr wk y e s) ∧ Bw w wi) (fun _ j _ => R - (intOf j).toNat)
      case atStart => exact ⟨0, Nat.zero_le _, rfl, by rw [waS, List.append_nil]; exact qK Hown, hB⟩
      case round =>
        obtain ⟨s, hs, rfl, hown, hBi⟩ := hrel
        rename World => wi
        have hR2 := (qK HR).below hBi
        have c1 := hR2.c1
        have hlt0 := hR2.lt
        by_cases hlts : s < R
        · have hs1 : (s : Int) < (R : Int) := by omega
          have hlS := waS_len st.evs fr wk y e s
          have Had := qJ (fun (wA : World) (h : Bw wi wA) => radded_any (wk : Int) (y : Int) (e : Int) (s : Int) wA (hR2.below h))
          clear hR2
          have Hy := qJ (@waS_yes st.evs fr wk y e s)
          have Hn := qJ (@waS_no st.evs fr wk y e s)
          have Hd : Hid (waB st.evs fr wk y e s = (!((jU st.evs wk y e s st.evs.length).length == 0) && zQ fr e s fr.length)) := qJ rfl
          generalize jU st.evs (wk : Int) (y : Int) (e : Int) (s : Int) st.evs.length = al at *
          generalize hdb : waB st.evs fr wk y e s = db at Hd Hy Hn
          generalize hSn : waS st.evs fr wk y e (s + 1) = Sn at Hy Hn
          generalize hSo : waS st.evs fr wk y e s = So at *
          have HSn := qJ hSn
          clear hdb hSo hSn
          go_wp2_with fail
          refine ((qK Had) _ (by repeat first|exact br _|assumption|apply bd|apply bn|apply ba|refine bt ?_ (by assumption))).mono ?_
          rintro en w2 ⟨va, rfl, hoa, hb2⟩
          obtain ⟨aa, ac, rfl⟩ : ∃ aa ac, va = .slice aa al.length ac := ⟨_, _, qV (n := al.length) (by simpa [Own] using hoa)⟩
          have hB2 : Bw wi w2 := (show Bw wi (wi.alloc (.cells #[.int .i64 (e : Int), .int .i64 (s : Int)] 72)) from (by repeat first|exact br _|assumption|apply bd|apply bn|apply ba|refine bt ?_ (by assumption))).trans hb2
          have hbx2 := (Below.block hb2 wi.heap.size (by simp)).trans (heap_alloc_new wi (.cells #[.int .i64 (e : Int), .int .i64 (s : Int)] 72))
          have tl2 := (Array.getElem?_eq_some_iff.1 hbx2).1
          clear Had hoa hb2
          by_cases ha : al.length = 0
          · have Hs := qJ ((qK Hn) (by rw [qK Hd, ha]; rfl))
            have hA0 : (al.length : Int) = 0 := by omega
            clear Hy Hn Hd
            go_wp2_with fail
            go_roundw
            case rel => exact ⟨s + 1, by omega, by go_num, by rw [qK HSn, qK Hs]; exact hown.bw (by repeat first|exact br _|assumption|apply bd|apply bn|apply ba|refine bt ?_ (by assumption)), (by repeat first|exact br _|assumption|apply bd|apply bn|apply ba|refine bt ?_ (by assumption))⟩
            case measure => simp [intOf]; omega
          · have hA0 : ¬ (al.length : Int) = 0 := by omega
            have Hd2 : Hid (db = zQ fr e s fr.length) := qJ (by rw [qK Hd]; simp [ha])
            clear Hd
            go_wp2_with fail
            refine ((qK Hfr) _ ((qK HR).below (hBi.trans hB2))).mono ?_
            rintro en w3 ⟨vf, rfl, hof, hb3⟩
            obtain ⟨fa, fc, rfl⟩ : ∃ fa fc, vf = .slice fa fr.length fc := ⟨_, _, qV hof⟩
            have hft : TmsAt w3 fa fr := tmsAt_of hof
            have hbx3 := (Below.block hb3 _ tl2).trans hbx2
            have Hbx3 := qJ hbx3
            have hB3 : Bw wi w3 := hB2.trans hb3
            clear hof hbx2 hbx3 tl2
            go_wp2_with fail
            go_loopw [12, 15] (fun b j wj => ∃ i : Nat, i ≤ fr.length ∧ j = .int .i64 i ∧ b = .bool (zQ fr e s i) ∧ Bw w3 wj) (fun _ j _ => fr.length - (intOf j).toNat)
            case atStart => exact ⟨0, Nat.zero_le _, rfl, rfl, Bw.refl _⟩
            case round =>
              obtain ⟨i, hi, rfl, rfl, hBj⟩ := hrel
              rename World => wj
              have hbxj := (Below.block hBj _ (Array.getElem?_eq_some_iff.1 (qK Hbx3)).1).trans (qK Hbx3)
              have t0 := qQ (o := 0) hbxj rfl
              have t1 := qQ (o := 1) hbxj rfl
              have tlj := (Array.getElem?_eq_some_iff.1 hbxj).1
              clear hbxj
              by_cases hlti : i < fr.length
              · have hi1 : (i : Int) < (fr.length : Int) := by omega
                obtain ⟨fb, foff, rfl, hfb, hfc⟩ := (hft.below hBj) i hlti
                obtain ⟨f0, f1⟩ := hfc i hlti
                clear hfc
                have Hup : Hid (upB (yU fr i) e s = (decide ((yU fr i).e ≤ (e : Int)) && decide ((yU fr i).s ≤ (s : Int)))) := qJ rfl
                have HF : Hid (zQ fr e s (i + 1) = (zQ fr e s i && !(upB (yU fr i) e s))) := qJ rfl
                generalize hup : upB (yU fr i) e s = ub at Hup HF
                generalize yU fr i = a at *
                generalize hff : zQ fr e s i = ff at *
                clear hup hff Hy Hn Hd2
                cases ff <;> cases ub
                all_goals (
                  go_wp2_with fail
                  go_region_law (go_simp; go_at_call 69; refine (rupto_any _ _ _ _ _).mono ?_; rintro en w7 ⟨rfl, hB7⟩; rw [← qK Hup])
                  all_goals go_wp2_with fail
                  all_goals go_roundw
                  all_goals first | (simp [intOf]; omega) | exact ⟨i + 1, by omega, by go_num, by rw [qK HF]; rfl, (by repeat first|exact br _|assumption|apply bd|apply bn|apply ba|refine bt ?_ (by assumption))⟩)
              · have hii : i = fr.length := by omega
                have hi1 : ¬ (i : Int) < (fr.length : Int) := by omega
                subst hii
                have hBwj : Bw wi wj := hB3.trans hBj
                generalize hff : zQ fr e s fr.length = ff at *
                clear hff
                cases ff with
                | false =>
                  have Hs := qJ ((qK Hn) (by rw [qK Hd2]))
                  clear Hy Hn Hd2
                  go_wp2_with fail
                  go_roundw
                  case rel => exact ⟨s + 1, by omega, by go_num, by rw [qK HSn, qK Hs]; exact hown.bw hBwj, hBi.trans hBwj⟩
                  case measure => simp [intOf]; omega
                | true =>
                  have Hs := qJ ((qK Hy) (by rw [qK Hd2]))
                  clear Hy Hn Hd2
                  have hownj := hown.bw hBwj
                  have hA1l : (waE st.evs fr R wk y e ++ So).length ≤ 1000 := by rw [List.length_append]; omega
                  clear hown
                  obtain ⟨A1, hA1⟩ : ∃ A1, waE st.evs fr R wk y e ++ So = A1 := ⟨_, rfl⟩
                  rw [hA1] at hownj hA1l
                  have HA1 := qJ hA1
                  clear hA1
                  obtain ⟨va, vc, hve⟩ := hownj.val
                  subst hve
                  go_wp2_with (at_builtin; refine appL _ rfl _ _ _ 110 rfl _ 7 56 Tryz.infoEvent Tryz.underlying56 rfl (by decide) w.heap.size (.slice va A1.length vc) A1.length (kH A1) rfl (hownj.bw (by repeat first|exact br _|assumption|apply bd|apply bn|apply ba|refine bt ?_ (by assumption))) _ _ (Ev.cells ⟨2, wk, y, 0, e, s, 0⟩) rfl rfl (fun j u hj => qQ (qY _ _ (by simp)) (by simpa [Ev.cells] using hj)) (ev_one _) (by omega) (by omega) (Bw.size (show Bw w _ from (by repeat first|exact br _|assumption|apply bd|apply bn|apply ba|refine bt ?_ (by assumption)))) ?_; intro g' cap w9 ho9 hg9 hl9)
                  go_roundw
                  case rel => exact ⟨s + 1, by omega, by go_num, by rw [qK HSn, qK Hs, ← List.append_assoc, qK HA1]; exact OwnE.snoc ho9, yK (hownj.bw (show Bw wj _ from (by repeat first|exact br _|assumption|apply bd|apply bn|apply ba|refine bt ?_ (by assumption)))) hg9 ((hBi.trans hBwj).trans (show Bw wj _ from (by repeat first|exact br _|assumption|apply bd|apply bn|apply ba|refine bt ?_ (by assumption)))) (Nat.le_refl _)⟩
                  case measure => simp [intOf]; omega
        · have hss : s = R := by omega
          have hs1 : ¬ (s : Int) < (R : Int) := by omega
          clear hR2
          have HoN := qJ (show OwnE w wi _ (waE st.evs fr R wk y (e + 1)) from by rw [waE, ← hss]; rw [← hss] at hown; exact hown)
          clear hown
          go_wp2_with fail
          go_roundw
          case rel => exact ⟨e + 1, by omega, by go_num, qK HoN, hBi⟩
          case measure => simp [intOf]; omega
    · have hee : e = 6 := by omega
      subst hee
      go_wp2_with fail
      go_ret
      exact ⟨_, rfl, hown, hB⟩
end Go.Proofs.YtfemleimkbjehaaGreat
